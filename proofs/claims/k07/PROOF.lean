import PyProof.Rows.All
import Wide.All
import OpenK.AllK
import Wide.FinOn
import Lean
import PyProof.EqAt
import PyProof.EqKinds
import PyProof.TupleCall
import PyProof.ZipIter
import PyProof.Draws
import PyProof.StrWalks
import PyProof.CompFree
import PyProof.ExcArgsOwn
import PyProof.ExcAttrAll.ValueError
import PyProof.FString4
import PyProof.StrLawsRepr
import KE.KNest
import KE.KLam
import KE.KRevIter
import PyProof.CollectIter
import PyProof.JoinWalk
import PyProof.DictWalks
import PyProof.ListNew
import PyProof.ZipIter
import PyProof.Draws
import PyProof.StrWalks
import PyProof.CompFree
import PyProof.ExcArgsOwn
import PyProof.ExcAttrAll.ValueError
import OpenK.KDescr
import PyProof.FString4
import PyProof.StrLawsRepr
import KE.KNest
import KE.KLam
import KE.KRevIter
import PyProof.CollectIter
import PyProof.JoinWalk
import PyProof.DictWalks
import PyProof.ListNew
import PySem.SetOps
import PyProof.SetScanFacts
import PyProof.SetKind
import PyProof.Rows.SetFrom
import PyProof.Rows.SortShell
import PyProof.Rows.SortWalk
import PyProof.ConsumeWalk
import PyProof.ListMulRoad
import PySem.Challenge.RW_turnhouse_k07_again_and_again
set_option Elab.async false
set_option linter.all false
set_option maxRecDepth 100000
/-! THE HAND LAYER, for ints, bools, texts, own classes, LISTS and tuples (index, slices, in, append, pop ..), calls, loops. Paste it whole ahead of your own text; what your proof does not reach may be deleted. -/
namespace L2
open PySem PySem.Spec PyProof.Rows

/-- a key: an int or a str -/
abbrev Key := Sum Int Str
def keyIs : Key → Value → Bool
  | .inl k, v => Value.isInt k v
  | .inr x, v => Value.isStrOf x v
def keyH (w : World) : Key → Int
  | .inl k => hashInt k
  | .inr x => hashStr w x
theorem keyIs_shape : ∀ {k : Key} {v : Value}, keyIs k v = true → (∃ i t, k = Sum.inl i ∧ v = Value.int i t) ∨ (∃ x t, k = Sum.inr x ∧ v = Value.str x t)
  | .inl i, v, h => by
    obtain ⟨t, e⟩ := Value.isInt_shape (k := i) (v := v) h
    exact .inl ⟨i, t, rfl, e⟩
  | .inr x, v, h => by
    obtain ⟨t, e⟩ := Value.isStrOf_shape (x := x) (v := v) h
    exact .inr ⟨x, t, rfl, e⟩
theorem keyIs_int (i : Int) (t : Tok) : keyIs (.inl i) (.int i t) = true := by simp [keyIs, Value.isInt]
theorem keyIs_str (x : Str) (t : Tok) : keyIs (.inr x) (.str x t) = true := by simp [keyIs, Value.isStrOf]
theorem key_ll (a b : Int) : decide ((Sum.inl a : Key) = Sum.inl b) = (a == b) := by
  by_cases e : a = b
  · subst e; simp
  · have h : ¬ (Sum.inl a : Key) = Sum.inl b := fun q => e (Sum.inl.inj q)
    rw [decide_eq_false h]
    exact (beq_eq_false_iff_ne.mpr e).symm
theorem key_rr (a b : Str) : decide ((Sum.inr a : Key) = Sum.inr b) = decide (a = b) := by
  by_cases e : a = b
  · subst e; simp
  · have h : ¬ (Sum.inr a : Key) = Sum.inr b := fun q => e (Sum.inr.inj q)
    rw [decide_eq_false h, decide_eq_false e]
theorem key_lr (a : Int) (b : Str) : decide ((Sum.inl a : Key) = Sum.inr b) = false := decide_eq_false (fun q => nomatch q)
theorem key_rl (a : Str) (b : Int) : decide ((Sum.inr a : Key) = Sum.inl b) = false := decide_eq_false (fun q => nomatch q)

def mixKind (prog : Program) (w : World) : PySem.KeyKind prog w Key where
  is := keyIs
  hash := keyH w
  inj := fun v a b ha hb => by
    rcases keyIs_shape ha with ⟨i, t, rfl, rfl⟩ | ⟨x, t, rfl, rfl⟩
    · rcases keyIs_shape hb with ⟨j, u, rfl, e⟩ | ⟨y, u, rfl, e⟩
      · injection e with e1 _; rw [e1]
      · exact nomatch e
    · rcases keyIs_shape hb with ⟨j, u, rfl, e⟩ | ⟨y, u, rfl, e⟩
      · exact nomatch e
      · injection e with e1 _; rw [e1]
  byValue := fun k v h => by
    rcases keyIs_shape h with ⟨i, t, rfl, rfl⟩ | ⟨x, t, rfl, rfl⟩ <;> rfl
  pyHash := fun hv h => by
    rcases keyIs_shape hv with ⟨i, t, rfl, rfl⟩ | ⟨x, t, rfl, rfl⟩
    · exact wpAny_pyHash_int h
    · exact wpAny_pyHash_str h
  eqBool := fun hu hv h => by
    rcases keyIs_shape hu with ⟨i, t, rfl, rfl⟩ | ⟨x, t, rfl, rfl⟩
    · rcases keyIs_shape hv with ⟨j, u, rfl, rfl⟩ | ⟨y, u, rfl, rfl⟩
      · rw [key_ll] at h; exact wpAny_eqBool_int h
      · rw [key_lr] at h; exact SeqAt.EqAt.int_str i t y u _ _ _ _ h
    · rcases keyIs_shape hv with ⟨j, u, rfl, rfl⟩ | ⟨y, u, rfl, rfl⟩
      · rw [key_rl] at h; exact SeqAt.EqAt.str_int x t j u _ _ _ _ h
      · rw [key_rr] at h; exact wpAny_eqBool_str h
  «strs» := fun k x t v h => by
    rcases keyIs_shape h with ⟨i, u, rfl, e⟩ | ⟨y, u, rfl, e⟩
    · exact nomatch e
    · injection e with e1 _
      subst e1
      cases v <;> rfl

theorem mixKind_int (prog : Program) (w : World) (i : Int) (t : Tok) : (mixKind prog w).is (.inl i) (.int i t) = true := keyIs_int i t
theorem mixKind_str (prog : Program) (w : World) (x : Str) (t : Tok) : (mixKind prog w).is (.inr x) (.str x t) = true := keyIs_str x t
end L2

namespace L2
open PySem PySem.Spec PyProof.Rows

/-- a value, without the heap -/
inductive V where
  | non | bl (b : Bool) | int (i : Int) | str (x : Str) | byt (b : Array UInt8) | flt (b : UInt64) | ref (a : Addr) | ty (n : String)
  deriving DecidableEq

def RelV : V → Value → Prop
  | .non, u => u = Value.none
  | .bl b, u => u = Value.bool b
  | .int i, u => ∃ t, u = Value.int i t
  | .str x, u => ∃ t, u = Value.str x t
  | .byt b, u => ∃ t, u = Value.bytes b t
  | .flt b, u => ∃ t, u = Value.float b t
  | .ref a, u => u = Value.ref a
  | .ty n, u => u = Value.type n

abbrev Vals : List V → List Value → Prop := Paired RelV
theorem Vals.length {xs : List V} {us : List Value} (r : Vals xs us) : xs.length = us.length := Paired.length r
theorem Vals.get : ∀ {xs : List V} {us : List Value} {i : Nat} {x : V}, Vals xs us → xs[i]? = some x → ∃ u, us[i]? = some u ∧ RelV x u
  | _, _, _, _, .nil, e => by simp at e
  | _, _, 0, _, .cons r _, e => by simp at e; subst e; exact ⟨_, rfl, r⟩
  | _, _, i + 1, x, .cons _ t, e => by
    obtain ⟨u, h1, h2⟩ := Vals.get (i := i) (x := x) t (by simpa using e)
    exact ⟨u, by simpa using h1, h2⟩
theorem Vals.append : ∀ {xs ys : List V} {us ws : List Value}, Vals xs us → Vals ys ws → Vals (xs ++ ys) (us ++ ws)
  | _, _, _, _, .nil, s => s
  | _, _, _, _, .cons r t, s => .cons r (Vals.append t s)
theorem Vals.take : ∀ {xs : List V} {us : List Value} (n : Nat), Vals xs us → Vals (xs.take n) (us.take n)
  | _, _, 0, _ => .nil
  | _, _, _ + 1, .nil => .nil
  | _, _, n + 1, .cons r t => .cons r (Vals.take n t)
theorem Vals.drop : ∀ {xs : List V} {us : List Value} (n : Nat), Vals xs us → Vals (xs.drop n) (us.drop n)
  | _, _, 0, r => r
  | _, _, _ + 1, .nil => .nil
  | _, _, n + 1, .cons _ t => Vals.drop n t
def RelO : Option V → Option Value → Prop
  | some v, some u => RelV v u
  | none, none => True
  | _, _ => False
def KV {κ : Type} : List (κ × V) → List (κ × Value) → Prop := Paired fun (p : κ × V) (q : κ × Value) => p.1 = q.1 ∧ RelV p.2 q.2

/-- a key of a dict (00_mix): an int or a text -/
def kV : Key → V
  | .inl i => .int i
  | .inr x => .str x

/-- what stands at a tracked address -/
inductive HO where
  /-- a list -/
  | lst (xs : List V)
  /-- a tuple (never changes) -/
  | tup (xs : List V)
  /-- a dict whose keys are ints and texts; one whose keys are tuples of ints and texts (the empty one is both) -/
  | dK (kvs : List (Key × V)) | dT (kvs : List (List Key × V))
  /-- a set of ints: its members, its size -/
  | set (S : Int → Bool) (n : Nat)
  /-- an instance of the class at C, its dict at dx, its attributes -/
  | ins (C dx : Addr) (fs : List (Str × V))
  /-- the dict of the instance at x -/
  | own (x : Addr)
  /-- the dict of an exception -/
  | xd (fs : List (Str × V))
  /-- a bound method, f of x -/
  | met (f x : Addr)
  /-- a range object lo, lo + 1, .. below hi -/
  | rng (lo hi : Int)
  /-- a thing that is known to the object (the script; a dict while a loop walks it): read, never written while it is so -/
  | frz (o : Obj) (u : HO)
  /-- a code object's table -/
  | tbl (ps : Array Value)
  /-- any other thing, by what is true of its one object (a def of one's own: SetO a S n := HO.ext fun h => ..) -/
  | ext (φ : Heap → Prop)

abbrev Hp := Addr → Option HO
def upd (H : Hp) (a : Addr) (o : HO) : Hp := fun b => if b = a then some o else H b
theorem upd_same {H : Hp} {a : Addr} {o : HO} : upd H a o a = some o := by unfold upd; rw [if_pos rfl]
theorem upd_ne {H : Hp} {a b : Addr} {o : HO} (h : b ≠ a) : upd H a o b = H b := by unfold upd; rw [if_neg h]
theorem upd_upd {H : Hp} {a : Addr} {o u : HO} : upd (upd H a o) a u = upd H a u := by
  funext b; unfold upd; split <;> rfl
/-- two objects of different content stand apart -/
theorem ne_of {H : Hp} {a b : Addr} {o u : HO} (h : H a = some o) (h' : H b = some u) (d : o ≠ u) : a ≠ b := by
  intro e; subst e; rw [h] at h'; exact d (Option.some.inj h')
theorem ne_of_none {H : Hp} {a b : Addr} {o : HO} (h : H a = some o) (h' : H b = none) : a ≠ b := by
  intro e; subst e; rw [h] at h'; cases h'

section
variable (P : Program) (w : World)
def ObjOk (H : Hp) (h : Heap) (a : Addr) : HO → Prop
  | .lst xs => xs.length ≤ sizeLine ∧ ∃ (its : List Value) (n : Nat), Vals xs its ∧ h.get? a = some { cls := .type "list", data := .seq its.toArray n }
  | .tup xs => xs.length ≤ sizeLine ∧ ∃ its : List Value, Vals xs its ∧ IsTup h a its.toArray
  | .dK kvs => kvs.length ≤ sizeLine ∧ (a == sysModules) = false ∧ ∃ vs, KV kvs vs ∧ h.DictOf (mixKind P w) a vs
  | .dT kvs => kvs.length ≤ sizeLine ∧ (a == sysModules) = false ∧ ∃ xs : List (List Key × Addr × Value),
      Paired (fun (p : List Key × V) (q : List Key × Addr × Value) => p.1 = q.1 ∧ H q.2.1 = some (.tup (p.1.map kV)) ∧ RelV p.2 q.2.2) kvs xs ∧
      ∃ o es ep, h.get? a = some o ∧ o.ExactDict ∧ o.data = .dict es ep ∧ es.toList = xs.map (entryOfKey (tupleKind (mixKind P w))) ∧ (xs.map (·.1)).Nodup
  | .set S n => h.SetOf (intKind P w) a S n
  | .ins C dx fs => H dx = some (.own a) ∧ fs.length ≤ 1000 ∧ dx ≠ a ∧ h.get? a = some (PySem.W.instObj C dx) ∧
      ∃ mA, h.Ns1 dx mA ∧ (∀ f, RelO (fs.lookup f) (mA f)) ∧ PySem.Within mA (fs.map (·.1))
  | .own _ => ∃ o, h.get? a = some o
  | .xd fs => ∃ mA, h.Ns1 a mA ∧ ∀ f, RelO (fs.lookup f) (mA f)
  | .rng lo hi => ∃ t u v, h.get? a = some { cls := .type "range", data := .fields #[.int lo t, .int hi u, .int 1 v] }
  | .frz o u => h.get? a = some o ∧ ObjOk H h a u
  | .tbl ps => h.get? a = some { cls := .none, data := .fields ps }
  | .met f x => h.get? a = some (PySem.W.methodObj (.ref f) (.ref x))
  | .ext φ => φ h ∧ (∃ o, h.get? a = some o) ∧ ∀ h1 h2 : Heap, φ h1 → (∀ o, h1.get? a = some o → h2.get? a = some o) → φ h2
/-- the abstract heap is held -/
def HOk (H : Hp) (h : Heap) : Prop := ∀ a o, H a = some o → ObjOk P w H h a o
end

section
variable {P : Program} {w : World} {H H' : Hp} {h h' : Heap} {a : Addr} {o : HO}
theorem ObjOk.lt (x : ObjOk P w H h a o) : a < h.objs.size := by
  cases o with
  | lst xs => obtain ⟨_, _, _, _, e⟩ := x; exact Heap.lt_size e
  | tup xs => obtain ⟨_, _, _, p⟩ := x; exact p.lt
  | dK kvs => obtain ⟨_, _, _, _, o, _, _, e, _⟩ := x; exact Heap.lt_size e
  | dT kvs => obtain ⟨_, _, _, _, o, _, _, e, _⟩ := x; exact Heap.lt_size e
  | set S n => obtain ⟨o, _, _, _, e, _⟩ := x; exact Heap.lt_size e
  | ins C dx fs => obtain ⟨_, _, _, e, _⟩ := x; exact Heap.lt_size e
  | own y => obtain ⟨_, e⟩ := x; exact Heap.lt_size e
  | xd fs => obtain ⟨_, ⟨_, _, _, e, _⟩, _⟩ := x; exact Heap.lt_size e
  | rng lo hi => obtain ⟨_, _, _, e⟩ := x; exact Heap.lt_size e
  | frz ob u => obtain ⟨e, _⟩ := x; exact Heap.lt_size e
  | tbl ps => exact Heap.lt_size (show h.get? a = some _ from x)
  | met f y => exact Heap.lt_size (show h.get? a = some _ from x)
  | ext φ => obtain ⟨_, ⟨_, e⟩, _⟩ := x; exact Heap.lt_size e
theorem Paired.mapP {α β : Type} {F G : α → β → Prop} : ∀ {l₁ : List α} {l₂ : List β}, Paired F l₁ l₂ → (∀ a b, F a b → G a b) → Paired G l₁ l₂
  | _, _, .nil, _ => .nil
  | _, _, .cons r t, f => .cons (f _ _ r) (Paired.mapP t f)
/-- what an object's description leans on: its own object, its own dict, the tuples -/
theorem ObjOk.stay (x : ObjOk P w H h a o) (k : ∀ b u, (b = a ∨ H b = some (.own a)) → h.get? b = some u → h'.get? b = some u)
    (ho : ∀ b, H b = some (.own a) → H' b = some (.own a)) (ht : ∀ b xs, H b = some (.tup xs) → H' b = some (.tup xs)) : ObjOk P w H' h' a o := by
  induction o with
  | lst xs => obtain ⟨z, its, n, r, e⟩ := x; exact ⟨z, its, n, r, k _ _ (.inl rfl) e⟩
  | tup xs => obtain ⟨z, its, r, ob, e, c⟩ := x; exact ⟨z, its, r, ob, k _ _ (.inl rfl) e, c⟩
  | dK kvs => obtain ⟨z, y, vs, r, ob, es, ep, e, c⟩ := x; exact ⟨z, y, vs, r, ob, es, ep, k _ _ (.inl rfl) e, c⟩
  | dT kvs =>
    obtain ⟨z, y, xs, r, ob, es, ep, e, c⟩ := x
    exact ⟨z, y, xs, Paired.mapP r fun p q z => ⟨z.1, ht _ _ z.2.1, z.2.2⟩, ob, es, ep, k _ _ (.inl rfl) e, c⟩
  | set S n => obtain ⟨ob, es, ep, t, e, c⟩ := x; exact ⟨ob, es, ep, t, k _ _ (.inl rfl) e, c⟩
  | ins C dx fs =>
    obtain ⟨d, z, ne, e, mA, ⟨od, es, ep, e2, c⟩, r⟩ := x
    exact ⟨ho _ d, z, ne, k _ _ (.inl rfl) e, mA, ⟨od, es, ep, k _ _ (.inr d) e2, c⟩, r⟩
  | own y => obtain ⟨ob, e⟩ := x; exact ⟨ob, k _ _ (.inl rfl) e⟩
  | xd fs => obtain ⟨mA, ⟨od, es, ep, e, c⟩, r⟩ := x; exact ⟨mA, ⟨od, es, ep, k _ _ (.inl rfl) e, c⟩, r⟩
  | rng lo hi => obtain ⟨t, u, v, e⟩ := x; exact ⟨t, u, v, k _ _ (.inl rfl) e⟩
  | frz ob u ih => obtain ⟨e, q⟩ := x; exact ⟨k _ _ (.inl rfl) e, ih q⟩
  | tbl ps =>
    have e : h.get? a = some { cls := .none, data := .fields ps } := x
    show h'.get? a = some { cls := .none, data := .fields ps }
    exact k a _ (.inl rfl) e
  | met f y =>
    have e : h.get? a = some (PySem.W.methodObj (.ref f) (.ref y)) := x
    show h'.get? a = some (PySem.W.methodObj (.ref f) (.ref y))
    exact k a _ (.inl rfl) e
  | ext φ => obtain ⟨p, ⟨o, e⟩, st⟩ := x; exact ⟨st _ _ p fun o q => k _ _ (.inl rfl) q, ⟨o, k _ _ (.inl rfl) e⟩, st⟩
theorem HOk.lt (x : HOk P w H h) (e : H a = some o) : a < h.objs.size := (x a o e).lt
theorem HOk.fresh (x : HOk P w H h) (e : h.objs.size ≤ a) : H a = none := by
  cases q : H a with
  | none => rfl
  | some u => exact absurd (Nat.lt_of_lt_of_le (x.lt q) e) (Nat.lt_irrefl _)
/-- every object of the heap is kept -/
theorem HOk.kept (x : HOk P w H h) (k : ∀ b u, h.get? b = some u → h'.get? b = some u) : HOk P w H h' := fun a o e =>
  (x a o e).stay (fun b u _ q => k b u q) (fun _ q => q) fun _ _ q => q
/-- a new object is laid and tracked -/
theorem HOk.laid (x : HOk P w H h) (k : ∀ b u, h.get? b = some u → h'.get? b = some u) (hp : h.objs.size ≤ a) (new : ObjOk P w (upd H a o) h' a o) : HOk P w (upd H a o) h' := fun b u e => by
  have hn := x.fresh hp
  by_cases hb : b = a
  · subst hb; rw [upd_same] at e; cases e; exact new
  · rw [upd_ne hb] at e
    exact (x b u e).stay (fun c v _ q => k c v q) (fun c q => by rw [upd_ne (ne_of_none q hn)]; exact q) fun c xs q => by rw [upd_ne (ne_of_none q hn)]; exact q
end

/-- what may be read as u: it is u, or a known u -/
def Rd (H : Hp) (a : Addr) (u : HO) : Prop := H a = some u ∨ ∃ o, H a = some (.frz o u)
theorem Rd.ok {P : Program} {w : World} {H : Hp} {h : Heap} {a : Addr} {u : HO} (r : Rd H a u) (x : HOk P w H h) : ObjOk P w H h a u := by
  rcases r with r | ⟨o, r⟩
  · exact x a u r
  · obtain ⟨_, q⟩ := x a _ r
    exact q
/-- what may be written -/
def Mut : Option HO → Prop
  | some (.lst _) => True
  | some (.dK _) => True
  | some (.dT _) => True
  | some (.set _ _) => True
  | some (.ins _ _ _) => True
  | some (.ext _) => True
  | _ => False
section
variable {P : Program} {w : World} {H : Hp} {h h' : Heap} {x e : Addr} {o' : HO}
/-- the object at e is changed: x itself, or the dict of the instance x -/
theorem HOk.write (ok : HOk P w H h) (mu : Mut (H x)) (he : e = x ∨ H e = some (.own x)) (k : ∀ b u, b ≠ e → h.get? b = some u → h'.get? b = some u) (heo : ∃ u, h'.get? e = some u)
    (new : ObjOk P w (upd H x o') h' x o') : HOk P w (upd H x o') h' := fun b u q => by
  have nown : ∀ c y, H c = some (.own y) → c ≠ x := fun c y r z => by subst z; rw [r] at mu; exact mu
  have ntup : ∀ c xs, H c = some (.tup xs) → c ≠ x := fun c xs r z => by subst z; rw [r] at mu; exact mu
  by_cases hb : b = x
  · subst hb; rw [upd_same] at q; cases q; exact new
  · rw [upd_ne hb] at q
    by_cases hbe : b = e
    · have q' : H b = some (.own x) := by
        rcases he with z | z
        · exact absurd (hbe.trans z) hb
        · rw [hbe]; exact z
      rw [q] at q'; cases q'
      obtain ⟨v, hv⟩ := heo
      exact ⟨v, by rw [hbe]; exact hv⟩
    · refine (ok b u q).stay (fun c v hc r => k c v ?_ r) (fun c r => by rw [upd_ne (nown c b r)]; exact r) fun c xs r => by rw [upd_ne (ntup c xs r)]; exact r
      rcases hc with rfl | hc
      · exact hbe
      · rintro rfl
        rcases he with z | z
        · exact nown c b hc z
        · rw [hc] at z; cases z; exact hb rfl
end

/-! ### kept unless tracked; of the frames at fs (the callers') the slots may change (an exception that passes writes there); of the records at ex (iterators) nothing is said -/
structure Un (fs ex : List Addr) (H H' : Hp) (h h' : Heap) : Prop where
  keep : ∀ b o, h.get? b = some o → H b = none → b ∉ fs → b ∉ ex → h'.get? b = some o
  slot : ∀ b o, h.get? b = some o → H b = none → b ∈ fs → b ∉ ex → ∃ sl, h'.get? b = some { o with slots := sl }
  free : ∀ b o, h.get? b = some o → H b = none → b ∉ ex → H' b = none
  there : ∀ b o, h.get? b = some o → b ∉ ex → ∃ o', h'.get? b = some o'
  tups : ∀ b xs, H b = some (.tup xs) → H' b = some (.tup xs)
  frzs : ∀ b o u, H b = some (.frz o u) → H' b = some (.frz o u)
  tbls : ∀ b ps, H b = some (.tbl ps) → ∃ more, H' b = some (.tbl (ps ++ more))
section
variable {fs fs' ex ex' : List Addr} {H H1 H2 : Hp} {h h1 h2 h' : Heap} {a x e : Addr} {o : HO}
theorem Un.any (u : Un fs ex H H1 h h1) {b : Addr} {ob : Obj} (q : h.get? b = some ob) (n : H b = none) (hx : b ∉ ex) : ∃ sl, h1.get? b = some { ob with slots := sl } := by
  by_cases hb : b ∈ fs
  · exact u.slot b ob q n hb hx
  · exact ⟨ob.slots, u.keep b ob q n hb hx⟩
theorem Un.kept (k : ∀ b u, h.get? b = some u → h'.get? b = some u) : Un fs ex H H h h' :=
  ⟨fun b ob q _ _ _ => k b ob q, fun b ob q _ _ _ => ⟨ob.slots, k b ob q⟩, fun _ _ _ n _ => n, fun b ob q _ => ⟨ob, k b ob q⟩, fun _ _ q => q, fun _ _ _ q => q, fun _ ps q => ⟨#[], by rw [q]; simp⟩⟩
theorem Un.refl : Un fs ex H H h h := Un.kept fun _ _ q => q
theorem Un.laid (k : ∀ b u, h.get? b = some u → h'.get? b = some u) (hp : h.objs.size ≤ a) (hn : H a = none) : Un fs ex H (upd H a o) h h' where
  keep := fun b u q _ _ _ => k b u q
  slot := fun b u q _ _ _ => ⟨u.slots, k b u q⟩
  free := fun b u q n _ => by rw [upd_ne (Nat.ne_of_lt (Nat.lt_of_lt_of_le (Heap.lt_size q) hp))]; exact n
  there := fun b u q _ => ⟨u, k b u q⟩
  tups := fun b xs q => by rw [upd_ne (ne_of_none q hn)]; exact q
  frzs := fun b u xs q => by rw [upd_ne (ne_of_none q hn)]; exact q
  tbls := fun b ps q => ⟨#[], by rw [upd_ne (ne_of_none q hn), q]; simp⟩
theorem Un.write (mu : Mut (H x)) (he : e = x ∨ H e = some (.own x)) (k : ∀ b u, b ≠ e → h.get? b = some u → h'.get? b = some u) (heo : ∃ u, h'.get? e = some u) : Un fs ex H (upd H x o) h h' := by
  have hx : ∀ b, H b = none → b ≠ x := fun b n z => by subst z; rw [n] at mu; exact mu
  have hb : ∀ b, H b = none → b ≠ e := fun b n z => by
    subst z
    rcases he with r | r
    · exact hx b n r
    · rw [n] at r; cases r
  have hm : ∀ b u, H b = some u → ¬ Mut (some u) → b ≠ x := fun b u q nm z => by subst z; rw [q] at mu; exact nm mu
  refine ⟨fun b u q n _ _ => k b u (hb b n) q, fun b u q n _ _ => ⟨u.slots, k b u (hb b n) q⟩, fun b u q n _ => by rw [upd_ne (hx b n)]; exact n, fun b u q _ => ?_,
    fun b xs q => by rw [upd_ne (hm b _ q fun z => z)]; exact q, fun b u xs q => by rw [upd_ne (hm b _ q fun z => z)]; exact q, fun b ps q => ⟨#[], by rw [upd_ne (hm b _ q fun z => z), q]; simp⟩⟩
  by_cases hbe : b = e
  · subst hbe; exact heo
  · exact ⟨u, k b u hbe q⟩
end

/-! ### the heap without what is tracked -/
def trk (h : Heap) (H : Hp) : List Addr := (List.range h.objs.size).filter fun a => (H a).isSome
def hidT (h : Heap) (H : Hp) : Heap := PySem.W.hideAll h (trk h H)
theorem hidT_size (h : Heap) (H : Hp) : (hidT h H).objs.size = h.objs.size := PySem.W.hideAll_size _ _
theorem hidT_get {h : Heap} {H : Hp} {b : Addr} {o : Obj} (e : h.get? b = some o) (n : H b = none) : (hidT h H).get? b = some o :=
  PySem.W.hideAll_get _ e fun hm => by
    have q : (H b).isSome = true := (List.mem_filter.mp hm).2
    rw [n] at q; simp at q
theorem of_hidT {h : Heap} {H : Hp} {b : Addr} {o : Obj} (e : (hidT h H).get? b = some o) : h.get? b = some o ∧ H b = none := by
  have e' : h.get? b = some o := PySem.W.of_hideAll (trk h H) e
  refine ⟨e', ?_⟩
  cases q : H b with
  | none => rfl
  | some x =>
    have hm : b ∈ trk h H := List.mem_filter.mpr ⟨List.mem_range.mpr (Heap.lt_size e'), by simp [q]⟩
    have z : (hidT h H).get? b = none := PySem.W.hideAll_none (trk h H) hm
    rw [z] at e; cases e

/-! ### OpenK's ledger, filled with every new object but one -/
def allNews (g h : Heap) (L : Addr) : List (Addr × Obj) := (List.range h.objs.size).filterMap fun a => if a = L ∨ (g.get? a).isSome = true then none else (h.get? a).map fun o => (a, o)
def rest (g h : Heap) (L d : Addr) : List (Addr × Obj) := (allNews g h L).filter fun p => decide (p.1 ≠ d)
end L2

namespace L2
open PySem PySem.Spec PyProof.Rows

/-- the module's facts, over the base: the heap at the law's entry without what is tracked there -/
structure Mod (K : PySem.W.Frag) (mg : Str → Option Value) (base : Heap) : Prop where
  kin : K.In base
  glob : base.Ns mainGlobals mg
  blt : ∃ mb, base.Ns builtinsNs mb ∧ ∀ x : Str, x ≠ "__name__" → mb x = bootBuiltins x
  nolimit : base.NoLimit

/-- the context: a def's body (or a comprehension's block) running. base: fixed through the whole law; s₀, H₀: the entry; outer: the frames whose slots others may change (a def's callers); stack: all frames that run;
   ex: iterators that were made ahead of the entry and are walked here (a comprehension's); fn: the names whose cells were made at the entry (a def: all; a comprehension's block: its own); calm: not within an except suite; pn: pins that every state bears; xe: what is wanted of an exception that leaves the code -/
structure Cx where
  prog : Program
  w : World
  K : PySem.W.Frag
  mg : Str → Option Value
  base : Heap
  A : Around
  N : List Str
  s₀ : Shared
  H₀ : Hp
  env : Env
  outer : List Env
  stack : List Env
  ex : List Addr
  fn : Str → Bool
  calm : Bool
  pn : List (Addr × Obj)
  xe : Value → Shared → Prop
/-- the callers' frames -/
def frs (l : List Env) : List Addr := l.filterMap (·.frame)
abbrev Cx.fs (X : Cx) : List Addr := frs X.outer

def Vis (sc : Scope) (x : Str) : Prop := sc.names.lookup x = some .local ∨ sc.names.lookup x = some .cell ∨ sc.names.lookup x = some .free
def Loc (sc : Scope) (x : Str) : Prop := sc.names.lookup x = some .local ∨ sc.names.lookup x = some .cell
def Look (env : Env) (h : Heap) (m : Str → Option Value) (x : Str) (u : Value) : Prop :=
  (env.kindOf x = some .local ∧ m x = some u) ∨ ((env.kindOf x = some .cell ∨ env.kindOf x = some .free) ∧ ∃ c, env.cells.lookup x = some c ∧ h.IsCell c (some u))

structure Cx.Ok (X : Cx) : Prop where
  mod : Mod X.K X.mg X.base
  kind : X.env.scope.kind = .function
  glob : X.env.globals = mainGlobals
  blt : X.env.builtins = builtinsNs
  above : X.s₀.heap.objs.size ≤ X.env.locals
  inj : ∀ x y c, X.env.cells.lookup x = some c → X.env.cells.lookup y = some c → x = y
  has : ∀ x, (X.env.kindOf x = some .cell ∨ X.env.kindOf x = some .free) → ∃ c, X.env.cells.lookup x = some c
  cab : ∀ x c, X.fn x = true → X.env.cells.lookup x = some c → X.s₀.heap.objs.size ≤ c
  hd : X.calm = true → X.A.handled = none
  frames : X.A.frames = some X.stack
  stk : X.stack = X.outer ∨ (X.stack = X.env :: X.outer ∧ X.env.frame = some X.env.locals)
  exf : ∀ b ∈ X.ex, b ≠ X.env.locals ∧ ∀ x c, X.env.cells.lookup x = some c → c ≠ b
  bs : ∀ b o, X.base.get? b = some o → X.s₀.heap.get? b = some o ∧ X.H₀ b = none
  bsz : X.base.objs.size ≤ X.s₀.heap.objs.size
  noex : ∀ b o, X.base.get? b = some o → b ∉ X.ex
  exfs : ∀ b ∈ X.ex, b ∉ X.fs
  funs : X.s₀.heap.FunFrames X.base X.outer
  frf : ∀ b ∈ X.fs, X.H₀ b = none

structure Inv (X : Cx) (pins : List (Addr × Obj)) (σ : List (Option V)) (H : Hp) (s : Shared) : Prop where
  ok : X.Ok
  os : s.os = X.s₀.os
  bare : AllBare s.gens
  base : Un X.fs X.ex X.H₀ H X.s₀.heap s.heap
  loc : ∃ m, s.heap.Ns X.env.locals m ∧ ∀ (i : Nat) (x : Str) (v : V), X.N[i]? = some x → σ[i]? = some (some v) → Vis X.env.scope x → ∃ u, RelV v u ∧ Look X.env s.heap m x u
  cell : ∀ x c, X.env.cells.lookup x = some c → ∃ v, s.heap.IsCell c v
  free : H X.env.locals = none
  freeC : ∀ x c, X.env.cells.lookup x = some c → H c = none ∨ (X.fn x = false ∧ ∃ o u, H c = some (.frz o u))
  pin : ∀ p ∈ X.pn ++ pins, s.heap.get? p.1 = some p.2 ∧ H p.1 = none ∧ p.1 ≠ X.env.locals ∧ p.1 ∉ X.fs ∧ ∀ v, p.2.data ≠ .cell v
  hok : HOk X.prog X.w H s.heap
  len : σ.length = X.N.length

section
variable {X : Cx} {pins : List (Addr × Obj)} {σ : List (Option V)} {H H' : Hp} {s : Shared} {h' : Heap}

theorem Cx.Ok.nofr (ok : X.Ok) {b : Addr} {o : Obj} (e : X.base.get? b = some o) : b ∉ X.fs := fun hb => by
  have := (ok.funs.mem hb).1
  rw [e] at this; cases this
theorem Inv.bs (I : Inv X pins σ H s) : ∀ b o, X.base.get? b = some o → s.heap.get? b = some o ∧ H b = none := fun b o e =>
  ⟨I.base.keep b o (I.ok.bs b o e).1 (I.ok.bs b o e).2 (I.ok.nofr e) (I.ok.noex b o e), I.base.free b o (I.ok.bs b o e).1 (I.ok.bs b o e).2 (I.ok.noex b o e)⟩
theorem Inv.bk (I : Inv X pins σ H s) : ∀ b o, X.base.get? b = some o → s.heap.get? b = some o := fun b o e => (I.bs b o e).1
theorem Inv.mod (I : Inv X pins σ H s) : Mod X.K X.mg X.base := I.ok.mod
theorem Inv.kIn (I : Inv X pins σ H s) : X.K.In s.heap := I.ok.mod.kin.keeps I.bk
theorem Inv.lt (I : Inv X pins σ H s) : X.env.locals < s.heap.objs.size := let ⟨_, hn, _⟩ := I.loc; hn.lt
theorem Inv.sz (I : Inv X pins σ H s) : X.s₀.heap.objs.size ≤ s.heap.objs.size := Nat.le_trans I.ok.above (Nat.le_of_lt I.lt)
theorem Inv.nofs (I : Inv X pins σ H s) {a : Addr} (h : s.heap.objs.size ≤ a) : a ∉ X.fs := fun hb => by
  obtain ⟨_, o, ho, _⟩ := I.ok.funs.mem hb
  exact absurd (Nat.lt_of_lt_of_le (Heap.lt_size ho) (Nat.le_trans I.sz h)) (Nat.lt_irrefl _)
theorem Inv.cne (I : Inv X pins σ H s) : ∀ x c, X.env.cells.lookup x = some c → c ≠ X.env.locals := fun x c e z => by
  obtain ⟨v, o, ho, hd⟩ := I.cell x c e
  obtain ⟨m, ⟨o', es, ep, ho', hd', _⟩, _⟩ := I.loc
  rw [z, ho'] at ho; cases ho; rw [hd'] at hd; cases hd
theorem Inv.funs (I : Inv X pins σ H s) : s.heap.FunFrames X.base X.outer := by
  have all : ∀ (l : List Env), (∀ b ∈ frs l, b ∈ X.fs) → X.s₀.heap.FunFrames X.base l → s.heap.FunFrames X.base l := by
    intro l
    induction l with
    | nil => intro _ _; trivial
    | cons env r ih =>
      intro hs hl
      obtain ⟨hk, ⟨L, o, hf, hn, ho, hd⟩, hr⟩ := hl
      have hL : L ∈ X.fs := hs L (by unfold frs; rw [List.filterMap_cons, hf]; exact List.mem_cons_self)
      obtain ⟨sl, e⟩ := I.base.slot L o ho (I.ok.frf L hL) hL fun z => I.ok.exfs L z hL
      exact ⟨hk, ⟨L, _, hf, hn, e, hd⟩, ih (fun b hb => hs b (by unfold frs; rw [List.filterMap_cons, hf]; exact List.mem_cons_of_mem _ hb)) hr⟩
  exact all X.outer (fun _ hb => hb) I.ok.funs

/-- the frames that run, for a call -/
theorem Inv.stack (I : Inv X pins σ H s) : s.heap.FunFrames X.base X.stack := by
  rcases I.ok.stk with e | ⟨e, hf⟩
  · rw [e]; exact I.funs
  · rw [e]
    obtain ⟨m, hn, _⟩ := I.loc
    refine .cons (by rw [I.ok.kind]; decide) hf hn ?_ I.funs
    exact Heap.get?_none_of_le (Nat.le_trans I.ok.bsz I.ok.above)
theorem Inv.stkSub (I : Inv X pins σ H s) : ∀ b ∈ frs X.stack, b ∈ X.env.locals :: X.fs := fun b hb => by
  rcases I.ok.stk with e | ⟨e, hf⟩
  · rw [e] at hb; exact List.mem_cons_of_mem _ hb
  · rw [e] at hb
    unfold frs at hb
    rw [List.filterMap_cons, hf] at hb
    exact hb
theorem Inv.stkFree (I : Inv X pins σ H s) : ∀ b ∈ frs X.stack, H b = none := fun b hb => by
  rcases List.mem_cons.mp (I.stkSub b hb) with e | hb
  · rw [e]; exact I.free
  · obtain ⟨_, o, ho, _⟩ := I.ok.funs.mem hb
    exact I.base.free b o ho (I.ok.frf b hb) fun z => I.ok.exfs b z hb

/-- THE STEP: the untracked objects but the frame and the records at ch are kept (the callers' frames up to slots), the frame's map is kept, the new abstract heap is held -/
theorem Inv.step {g' : Array GenState} {t' : Nat} {d' : Drawn} {ch : List Addr} (I : Inv X pins σ H s)
    (hch : ∀ b ∈ ch, (b ∈ X.ex ∨ X.s₀.heap.objs.size ≤ b) ∧ b ≠ X.env.locals ∧ (∀ x c, X.env.cells.lookup x = some c → c ≠ b) ∧ ∀ p ∈ X.pn ++ pins, p.1 ≠ b)
    (keep : ∀ b o, b ≠ X.env.locals → b ∉ X.fs → b ∉ ch → s.heap.get? b = some o → H b = none → h'.get? b = some o)
    (slot : ∀ b o, b ≠ X.env.locals → b ∈ X.fs → b ∉ ch → s.heap.get? b = some o → H b = none → ∃ sl, h'.get? b = some { o with slots := sl }) (free : ∀ b o, b ∉ ch → s.heap.get? b = some o → H b = none → H' b = none)
    (there : ∀ b o, b ∉ ch → s.heap.get? b = some o → ∃ o', h'.get? b = some o')
    (tups : ∀ b xs, H b = some (.tup xs) → H' b = some (.tup xs)) (frzs : ∀ b o u, H b = some (.frz o u) → H' b = some (.frz o u)) (tbls : ∀ b ps, H b = some (.tbl ps) → ∃ more, H' b = some (.tbl (ps ++ more)))
    (ns : ∀ m, s.heap.Ns X.env.locals m → h'.Ns X.env.locals m) (hok : HOk X.prog X.w H' h') (hg : AllBare g') :
    Inv X pins σ H' { s with heap := h', gens := g', drawn := d', toks := t' } := by
  have neL : ∀ b o, X.s₀.heap.get? b = some o → b ≠ X.env.locals := fun b o e => Nat.ne_of_lt (Nat.lt_of_lt_of_le (Heap.lt_size e) I.ok.above)
  have neC : ∀ b o, X.s₀.heap.get? b = some o → b ∉ X.ex → b ∉ ch := fun b o e hx hb => by
    rcases (hch b hb).1 with z | z
    · exact hx z
    · exact absurd (Nat.lt_of_lt_of_le (Heap.lt_size e) z) (Nat.lt_irrefl _)
  have cellK : ∀ x c, X.env.cells.lookup x = some c → ∀ v, s.heap.IsCell c v → h'.IsCell c v := fun x c e v ⟨o, ho, hd⟩ => by
    have nch : c ∉ ch := fun z => (hch c z).2.2.1 x c e rfl
    rcases I.freeC x c e with n | ⟨_, ob, ou, hfz⟩
    · by_cases hc : c ∈ X.fs
      · obtain ⟨sl, q⟩ := slot c o (I.cne x c e) hc nch ho n
        exact ⟨_, q, hd⟩
      · exact ⟨o, keep c o (I.cne x c e) hc nch ho n, hd⟩
    · have e1 : s.heap.get? c = some ob := (I.hok c _ hfz).1
      rw [ho] at e1
      cases e1
      exact ⟨o, (hok c _ (frzs c o ou hfz)).1, hd⟩
  refine ⟨I.ok, I.os, hg, ⟨fun b o e n hb hx => ?_, fun b o e n hb hx => ?_, fun b o e n hx => ?_, fun b o e hx => ?_, fun b xs e => tups b xs (I.base.tups b xs e), fun b o xs e => frzs b o xs (I.base.frzs b o xs e), fun b ps e => ?_⟩, ?_, fun x c e => ?_, ?_, fun x c e => ?_, fun p hp => ?_, hok, I.len⟩
  · exact keep b o (neL b o e) hb (neC b o e hx) (I.base.keep b o e n hb hx) (I.base.free b o e n hx)
  · obtain ⟨sl, e1⟩ := I.base.slot b o e n hb hx
    obtain ⟨sl', e2⟩ := slot b _ (neL b o e) hb (neC b o e hx) e1 (I.base.free b o e n hx)
    exact ⟨sl', e2⟩
  · obtain ⟨o', e1⟩ := I.base.there b o e hx
    exact free b o' (neC b o e hx) e1 (I.base.free b o e n hx)
  · obtain ⟨o', e1⟩ := I.base.there b o e hx
    exact there b o' (neC b o e hx) e1
  · obtain ⟨m1, e1⟩ := I.base.tbls b ps e
    obtain ⟨m2, e2⟩ := tbls b _ e1
    exact ⟨m1 ++ m2, by rw [e2, Array.append_assoc]⟩
  · obtain ⟨m, hn, hl⟩ := I.loc
    refine ⟨m, ns m hn, fun i x v e1 e2 e3 => ?_⟩
    obtain ⟨u, r, l⟩ := hl i x v e1 e2 e3
    refine ⟨u, r, ?_⟩
    rcases l with l | ⟨k, c, e, z⟩
    · exact .inl l
    · exact .inr ⟨k, c, e, cellK x c e _ z⟩
  · obtain ⟨v, z⟩ := I.cell x c e
    exact ⟨v, cellK x c e v z⟩
  · obtain ⟨m, ⟨o, _, _, ho, _⟩, _⟩ := I.loc
    exact free _ o (fun z => (hch _ z).2.1 rfl) ho I.free
  · obtain ⟨v, o, ho, hd⟩ := I.cell x c e
    rcases I.freeC x c e with n | ⟨z, ob, ou, hfz⟩
    · exact .inl (free c o (fun z => (hch c z).2.2.1 x c e rfl) ho n)
    · exact .inr ⟨z, ob, ou, frzs c ob ou hfz⟩
  · obtain ⟨e, n, ne, nf, d⟩ := I.pin p hp
    have nch : p.1 ∉ ch := fun z => (hch p.1 z).2.2.2 p hp rfl
    exact ⟨keep p.1 p.2 ne nf nch e n, free p.1 p.2 nch e n, ne, nf, d⟩
/-- .. where the frame's own object is kept too -/
theorem Inv.un {t' : Nat} (I : Inv X pins σ H s) (u : Un X.fs [] H H' s.heap h') (hok : HOk X.prog X.w H' h') : Inv X pins σ H' { s with heap := h', toks := t' } := by
  obtain ⟨m, ⟨o, es, ep, ho, r⟩, _⟩ := id I.loc
  obtain ⟨sl, hL⟩ := u.any ho I.free (by simp)
  exact I.step (g' := s.gens) (d' := s.drawn) (ch := []) (fun _ z => nomatch z) (fun b o _ hb _ e n => u.keep b o e n hb (by simp)) (fun b o _ hb _ e n => u.slot b o e n hb (by simp)) (fun b o _ e n => u.free b o e n (by simp)) (fun b o _ e => u.there b o e (by simp)) u.tups u.frzs u.tbls (fun m' hm => by
    obtain ⟨o', es', ep', ho', r'⟩ := hm
    rw [ho] at ho'; cases ho'
    exact ⟨_, es', ep', hL, r'⟩) hok I.bare
/-- behind a call (or a comprehension's block): the slots of this frame may have changed too, the records at ch may have turned -/
theorem Inv.call {g' : Array GenState} {t' : Nat} {d' : Drawn} {ch : List Addr} (I : Inv X pins σ H s) (u : Un (frs X.stack) ch H H' s.heap h') (hok : HOk X.prog X.w H' h') (hg : AllBare g')
    (hch : ∀ b ∈ ch, (b ∈ X.ex ∨ X.s₀.heap.objs.size ≤ b) ∧ b ≠ X.env.locals ∧ (∀ x c, X.env.cells.lookup x = some c → c ≠ b) ∧ ∀ p ∈ X.pn ++ pins, p.1 ≠ b) :
    Inv X pins σ H' { s with heap := h', gens := g', drawn := d', toks := t' } := by
  obtain ⟨m, ⟨o, es, ep, ho, r⟩, _⟩ := id I.loc
  obtain ⟨sl, hL⟩ := u.any ho I.free fun z => (hch _ z).2.1 rfl
  exact I.step (ch := ch) hch (fun b o hL hb hc e n => u.keep b o e n (fun z => (List.mem_cons.mp (I.stkSub b z)).elim hL hb) hc) (fun b o _ _ hc e n => u.any e n hc) (fun b o hc e n => u.free b o e n hc) (fun b o hc e => u.there b o e hc) u.tups u.frzs u.tbls (fun m' hm => by
    obtain ⟨o', es', ep', ho', r'⟩ := hm
    rw [ho] at ho'; cases ho'
    exact ⟨_, es', ep', hL, r'⟩) hok hg
/-- an untracked record of ours (an iterator) has turned -/
theorem Inv.turned {t' : Nat} {it : Addr} (I : Inv X pins σ H s) (k : ∀ b o, b ≠ it → s.heap.get? b = some o → h'.get? b = some o) (hn : H it = none) (hL : it ≠ X.env.locals)
    (h1 : it ∈ X.ex ∨ X.s₀.heap.objs.size ≤ it) (h2 : ∀ x c, X.env.cells.lookup x = some c → c ≠ it) (h3 : ∀ p ∈ X.pn ++ pins, p.1 ≠ it) : Inv X pins σ H { s with heap := h', toks := t' } := by
  have nit : ∀ b u, H b = some u → b ≠ it := fun b u e z => by rw [z, hn] at e; cases e
  refine I.step (g' := s.gens) (d' := s.drawn) (ch := [it]) (fun b hb => ?_) (fun b o _ _ hc e _ => k b o (fun z => hc (by simp [z])) e) (fun b o _ _ hc e _ => ⟨o.slots, k b o (fun z => hc (by simp [z])) e⟩) (fun _ _ _ _ n => n)
    (fun b o hc e => ⟨o, k b o (fun z => hc (by simp [z])) e⟩) (fun _ _ e => e) (fun _ _ _ e => e) (fun b ps e => ⟨#[], by rw [e]; simp⟩) (fun m hm => ?_) (fun b u e => ?_) I.bare
  · have e : b = it := by simpa using hb
    subst e
    exact ⟨h1, hL, h2, h3⟩
  · obtain ⟨o, es, ep, ho, r⟩ := hm
    exact ⟨o, es, ep, k _ o (Ne.symm hL) ho, r⟩
  · refine (I.hok b u e).stay (fun c v hc q => k c v ?_ q) (fun _ q => q) fun _ _ q => q
    rcases hc with z | z
    · rw [z]; exact nit b u e
    · exact nit c _ z
theorem Inv.tok (I : Inv X pins σ H s) (t : Nat) : Inv X pins σ H { s with toks := t } := I.un (h' := s.heap) (t' := t) Un.refl I.hok
/-- all objects kept -/
theorem Inv.kept {t' : Nat} (I : Inv X pins σ H s) (k : ∀ b u, s.heap.get? b = some u → h'.get? b = some u) : Inv X pins σ H { s with heap := h', toks := t' } := I.un (Un.kept k) (I.hok.kept k)
/-- a new object laid and tracked -/
theorem Inv.laid {a : Addr} {o : HO} {t' : Nat} (I : Inv X pins σ H s) (k : ∀ b u, s.heap.get? b = some u → h'.get? b = some u) (hp : s.heap.objs.size ≤ a) (new : ObjOk X.prog X.w (upd H a o) h' a o) :
    Inv X pins σ (upd H a o) { s with heap := h', toks := t' } := I.un (Un.laid k hp (I.hok.fresh hp)) (I.hok.laid k hp new)
/-- an object written -/
theorem Inv.write {x e : Addr} {o : HO} {t' : Nat} (I : Inv X pins σ H s) (mu : Mut (H x)) (he : e = x ∨ H e = some (.own x)) (k : ∀ b u, b ≠ e → s.heap.get? b = some u → h'.get? b = some u) (heo : ∃ u, h'.get? e = some u)
    (new : ObjOk X.prog X.w (upd H x o) h' x o) : Inv X pins σ (upd H x o) { s with heap := h', toks := t' } := I.un (Un.write mu he k heo) (I.hok.write mu he k heo new)
theorem Inv.pins_of {pins' : List (Addr × Obj)} (I : Inv X pins σ H s) (h : ∀ p ∈ pins', s.heap.get? p.1 = some p.2 ∧ H p.1 = none ∧ p.1 ≠ X.env.locals ∧ p.1 ∉ X.fs ∧ ∀ v, p.2.data ≠ .cell v) : Inv X pins' σ H s :=
  ⟨I.ok, I.os, I.bare, I.base, I.loc, I.cell, I.free, I.freeC, fun p hp => (List.mem_append.mp hp).elim (fun z => I.pin p (List.mem_append_left _ z)) (h p), I.hok, I.len⟩

theorem nodup_ix {N : List Str} (hN : N.Nodup) {i j : Nat} {x : Str} (a : N[i]? = some x) (b : N[j]? = some x) : i = j := by
  obtain ⟨h1, e1⟩ := List.getElem?_eq_some_iff.mp a
  obtain ⟨h2, e2⟩ := List.getElem?_eq_some_iff.mp b
  exact (List.getElem_inj hN).mp (e1.trans e2.symm)

/-- a name is stored; what changed -/
theorem store_ok2 {M : Model} {A : Around} {E : Value → Shared → Prop} {i : Nat} {x : Str} {v : V} {u : Value} {Q : Unit → Shared → Prop} (I : Inv X pins σ H s) (hN : X.N.Nodup) (hi : X.N[i]? = some x) (hx : Loc X.env.scope x) (r : RelV v u)
    (h : ∀ s', Inv X pins (σ.set i (some v)) H s' → (∃ a, Heap.SameBut a s.heap s'.heap ∧ (a = X.env.locals ∨ X.env.cells.lookup x = some a)) → Q () s') (hf : X.fn x = true ∨ X.env.scope.names.lookup x = some .local := by first | exact .inl rfl | exact .inr rfl | assumption) : wpAny M A (storeName X.env x u) Q E s := by
  obtain ⟨m, hn, hl⟩ := id I.loc
  have hcls : (X.env.scope.kind == .class || (X.env.scope.kind == .module && X.env.locals != X.env.globals)) = false := by rw [I.ok.kind]; rfl
  have hiσ : i < σ.length := by rw [I.len]; exact (List.getElem?_eq_some_iff.mp hi).1
  have cne := I.cne
  have tracked : ∀ {a : Addr} {h' : Heap}, (∃ o, s.heap.get? a = some o ∧ H a = none) → Heap.SameBut a s.heap h' → HOk X.prog X.w H h' := fun {a h'} ha hs b ob e => by
    obtain ⟨_, _, hfree⟩ := ha
    refine (I.hok b ob e).stay (fun c w' hc q => (hs.2 c ?_).trans q) (fun _ q => q) fun _ _ q => q
    rintro rfl
    rcases hc with rfl | hc
    · rw [hfree] at e; cases e
    · rw [hfree] at hc; cases hc
  rcases hx with hk | hk
  · refine wpAny_storeName_local hk hn (fun h' hn' hs => ?_) hcls
    obtain ⟨oL, _, _, hoL, _⟩ := id hn
    refine h _ ⟨I.ok, I.os, I.bare, ⟨fun b o e n hb hx => ?_, fun b o e n hb hx => ?_, I.base.free, fun b o e hx => ?_, I.base.tups, I.base.frzs, I.base.tbls⟩, ⟨_, hn', fun j y v' e1 e2 e3 => ?_⟩, fun y c e => ?_, I.free, I.freeC, fun p hp => ?_, tracked ⟨oL, hoL, I.free⟩ hs, by simpa using I.len⟩ ⟨_, hs, .inl rfl⟩
    · exact (hs.2 b (Nat.ne_of_lt (Nat.lt_of_lt_of_le (Heap.lt_size e) I.ok.above))).trans (I.base.keep b o e n hb hx)
    · obtain ⟨sl, e1⟩ := I.base.slot b o e n hb hx
      exact ⟨sl, (hs.2 b (Nat.ne_of_lt (Nat.lt_of_lt_of_le (Heap.lt_size e) I.ok.above))).trans e1⟩
    · obtain ⟨o', e1⟩ := I.base.there b o e hx
      exact ⟨o', (hs.2 b (Nat.ne_of_lt (Nat.lt_of_lt_of_le (Heap.lt_size e) I.ok.above))).trans e1⟩
    · by_cases hj : j = i
      · subst hj
        rw [hi] at e1; cases e1
        rw [List.getElem?_set_self hiσ] at e2
        cases e2
        exact ⟨u, r, .inl ⟨hk, by simp⟩⟩
      · rw [List.getElem?_set_ne (Ne.symm hj)] at e2
        obtain ⟨u', r', q⟩ := hl j y v' e1 e2 e3
        refine ⟨u', r', ?_⟩
        rcases q with ⟨k, e⟩ | ⟨k, c, e, z⟩
        · refine .inl ⟨k, ?_⟩
          have : y ≠ x := fun e => hj (nodup_ix hN e1 (e ▸ hi))
          simp [this, e]
        · exact .inr ⟨k, c, e, z.sameBut hs (cne y c e)⟩
    · obtain ⟨w', z⟩ := I.cell y c e
      exact ⟨w', z.sameBut hs (cne y c e)⟩
    · obtain ⟨e, n, ne, nf, d⟩ := I.pin p hp
      exact ⟨(hs.2 p.1 ne).trans e, n, ne, nf, d⟩
  · have hfn : X.fn x = true := by
      rcases hf with z | z
      · exact z
      · rw [z] at hk; cases hk
    obtain ⟨c, hc⟩ := I.ok.has x (.inl hk)
    obtain ⟨w', z⟩ := I.cell x c hc
    refine wpAny_storeName_cell I.ok.kind hk hc z (fun h' hc' hs => ?_)
    obtain ⟨oc, hoc, hocd⟩ := id z
    refine h { s with heap := h' } ⟨I.ok, I.os, I.bare, ⟨fun b o e n hb hx => ?_, fun b o e n hb hx => ?_, I.base.free, fun b o e hx => ?_, I.base.tups, I.base.frzs, I.base.tbls⟩, ⟨m, hn.sameBut hs (Ne.symm (cne x c hc)), fun j y v' e1 e2 e3 => ?_⟩, fun y c' e => ?_, I.free, I.freeC, fun p hp => ?_, tracked ⟨oc, hoc, (I.freeC x c hc).resolve_right fun z => by rw [hfn] at z; cases z.1⟩ hs, by simpa using I.len⟩ ⟨c, hs, .inr hc⟩
    · exact (hs.2 b (Nat.ne_of_lt (Nat.lt_of_lt_of_le (Heap.lt_size e) (I.ok.cab x c hfn hc)))).trans (I.base.keep b o e n hb hx)
    · obtain ⟨sl, e1⟩ := I.base.slot b o e n hb hx
      exact ⟨sl, (hs.2 b (Nat.ne_of_lt (Nat.lt_of_lt_of_le (Heap.lt_size e) (I.ok.cab x c hfn hc)))).trans e1⟩
    · obtain ⟨o', e1⟩ := I.base.there b o e hx
      exact ⟨o', (hs.2 b (Nat.ne_of_lt (Nat.lt_of_lt_of_le (Heap.lt_size e) (I.ok.cab x c hfn hc)))).trans e1⟩
    · by_cases hj : j = i
      · subst hj
        rw [hi] at e1; cases e1
        rw [List.getElem?_set_self hiσ] at e2
        cases e2
        exact ⟨u, r, .inr ⟨.inl hk, c, hc, hc'⟩⟩
      · rw [List.getElem?_set_ne (Ne.symm hj)] at e2
        obtain ⟨u', r', q⟩ := hl j y v' e1 e2 e3
        refine ⟨u', r', ?_⟩
        rcases q with q | ⟨k, c', e, z'⟩
        · exact .inl q
        · refine .inr ⟨k, c', e, z'.sameBut hs ?_⟩
          rintro rfl
          exact hj (nodup_ix hN e1 (I.ok.inj _ _ _ e hc ▸ hi))
    · by_cases hcc : c' = c
      · subst hcc; exact ⟨_, hc'⟩
      · obtain ⟨w2, z2⟩ := I.cell y c' e
        exact ⟨w2, z2.sameBut hs hcc⟩
    · obtain ⟨e, n, ne, nf, d⟩ := I.pin p hp
      refine ⟨(hs.2 p.1 ?_).trans e, n, ne, nf, d⟩
      intro q
      rw [q, hoc] at e
      have q' : oc = p.2 := Option.some.inj e
      exact d w' (by rw [← q']; exact hocd)
theorem store_ok {M : Model} {A : Around} {E : Value → Shared → Prop} {i : Nat} {x : Str} {v : V} {u : Value} {Q : Unit → Shared → Prop} (I : Inv X pins σ H s) (hN : X.N.Nodup) (hi : X.N[i]? = some x) (hx : Loc X.env.scope x) (r : RelV v u)
    (h : ∀ s', Inv X pins (σ.set i (some v)) H s' → Q () s') (hf : X.fn x = true ∨ X.env.scope.names.lookup x = some .local := by first | exact .inl rfl | exact .inr rfl | assumption) : wpAny M A (storeName X.env x u) Q E s :=
  store_ok2 I hN hi hx r (fun s' I' _ => h s' I') hf
/-- behind a call or a block, the state as it is -/
theorem Inv.call' {s' : Shared} {ch : List Addr} (I : Inv X pins σ H s) (ho : s'.os = s.os) (u : Un (frs X.stack) ch H H' s.heap s'.heap) (hok : HOk X.prog X.w H' s'.heap) (hg : AllBare s'.gens)
    (hch : ∀ b ∈ ch, (b ∈ X.ex ∨ X.s₀.heap.objs.size ≤ b) ∧ b ≠ X.env.locals ∧ (∀ x c, X.env.cells.lookup x = some c → c ≠ b) ∧ ∀ p ∈ X.pn ++ pins, p.1 ≠ b) : Inv X pins σ H' s' := by
  obtain ⟨h', g', d', t', o'⟩ := s'
  have e : o' = s.os := ho
  subst e
  exact I.call (g' := g') (t' := t') (d' := d') u hok hg hch
end

/-! ### the judgements -/
/-- an exception: its class, its own dict's address (where it has one), the abstract heap behind it -/
abbrev XK := Value → Option Addr → Hp → Prop
abbrev St := List (Option V)
abbrev VK := V → Hp → Prop
/-- an expression's reading; a test's; an argument list's -/
abbrev TE := St → Hp → VK → Prop
abbrev TT := St → Hp → (Bool → Hp → Prop) → Prop
abbrev TA := St → Hp → (List V → Hp → Prop) → Prop
/-- what is wanted behind a statement -/
structure Ends where
  nx : St → Hp → Prop
  rt : VK
  bk : St → Hp → Prop := fun _ _ => False
  ct : St → Hp → Prop := fun _ _ => False
abbrev TS := Ends → St → Hp → Prop

def EP (X : Cx) (pins : List (Addr × Obj)) (σ : St) (Q : VK) (u : Value) (s' : Shared) : Prop := ∃ v H', Inv X pins σ H' s' ∧ RelV v u ∧ Q v H'
def TP (X : Cx) (pins : List (Addr × Obj)) (σ : St) (Q : Bool → Hp → Prop) (b : Bool) (s' : Shared) : Prop := ∃ H', Inv X pins σ H' s' ∧ Q b H'
def AP (X : Cx) (pins : List (Addr × Obj)) (σ : St) (Q : List V → Hp → Prop) (us : List Value) (s' : Shared) : Prop := ∃ vs H', Inv X pins σ H' s' ∧ Vals vs us ∧ Q vs H'
def SP (X : Cx) (pins : List (Addr × Obj)) (D : Ends) (f : Flow) (s' : Shared) : Prop :=
  match f with
  | .next => ∃ σ' H', Inv X pins σ' H' s' ∧ D.nx σ' H'
  | .brk => ∃ σ' H', Inv X pins σ' H' s' ∧ D.bk σ' H'
  | .cont => ∃ σ' H', Inv X pins σ' H' s' ∧ D.ct σ' H'
  | .ret u => ∃ v σ' H', Inv X pins σ' H' s' ∧ RelV v u ∧ D.rt v H'

def PE (X : Cx) (e : Expr) (t : TE) : Prop :=
  ∀ (pins : List (Addr × Obj)) (s : Shared) (σ : St) (H : Hp) (Q : VK), Inv X pins σ H s → t σ H Q → wpAny (model X.prog X.w) X.A (eval e X.env) (EP X pins σ Q) X.xe s
def PT (X : Cx) (e : Expr) (t : TT) : Prop :=
  ∀ (pins : List (Addr × Obj)) (s : Shared) (σ : St) (H : Hp) (Q : Bool → Hp → Prop), Inv X pins σ H s → t σ H Q → wpAny (model X.prog X.w) X.A (isTrue e X.env (eval e X.env)) (TP X pins σ Q) X.xe s
/-- a test whatever its 'whole' is (and, or) -/
def PW (X : Cx) (e : Expr) (t : TT) : Prop :=
  ∀ (whole : Sem Value) (pins : List (Addr × Obj)) (s : Shared) (σ : St) (H : Hp) (Q : Bool → Hp → Prop), Inv X pins σ H s → t σ H Q → wpAny (model X.prog X.w) X.A (isTrue e X.env whole) (TP X pins σ Q) X.xe s
theorem PW.pt {X : Cx} {e : Expr} {t : TT} (h : PW X e t) : PT X e t := h _
/-- an argument list (no star), from the left -/
def PA (X : Cx) (es : List Expr) (t : TA) : Prop :=
  ∀ (pos : Pos) (pins : List (Addr × Obj)) (s : Shared) (σ : St) (H : Hp) (Q : List V → Hp → Prop), Inv X pins σ H s → t σ H Q → wpAny (model X.prog X.w) X.A (spliced (backTo pos (starEach es X.env))) (AP X pins σ Q) X.xe s
def PS (X : Cx) (st : Stmt) (t : TS) : Prop :=
  ∀ (pins : List (Addr × Obj)) (s : Shared) (σ : St) (H : Hp) (D : Ends), Inv X pins σ H s → t D σ H → wpAny (model X.prog X.w) X.A (exec st X.env) (SP X pins D) X.xe s
def PSs (X : Cx) (st : List Stmt) (t : TS) : Prop :=
  ∀ (pins : List (Addr × Obj)) (s : Shared) (σ : St) (H : Hp) (D : Ends), Inv X pins σ H s → t D σ H → wpAny (model X.prog X.w) X.A (execs st X.env) (SP X pins D) X.xe s
/-- weaken the end -/
theorem thn {α : Type} {t : Sem α} {Q Q' : α → Shared → Prop} {M : Model} {A : Around} {E : Value → Shared → Prop} {s : Shared} (h : wpAny M A t Q E s) (hQ : ∀ a s, Q a s → Q' a s) : wpAny M A t Q' E s := wpAny_mono h hQ fun _ _ x => x
end L2

namespace L2
open PySem PySem.Spec PyProof.Rows
section
variable {X : Cx}

/-- two expressions in a row -/
theorem bin {a b : Expr} {ta tb : TE} (ha : PE X a ta) (hb : PE X b tb) {pins : List (Addr × Obj)} {s : Shared} {σ : St} {H : Hp} {R : V → V → Hp → Prop} (I : Inv X pins σ H s) (h : ta σ H fun x H1 => tb σ H1 fun y H2 => R x y H2)
    {α : Type} {Q : α → Shared → Prop} {f : Value → Value → Sem α}
    (hf : ∀ v u s2 x y H2, Inv X pins σ H2 s2 → RelV x v → RelV y u → R x y H2 → wpAny (model X.prog X.w) X.A (f v u) Q X.xe s2) :
    wpAny (model X.prog X.w) X.A (eval a X.env) (fun v s₁ => wpAny (model X.prog X.w) X.A (eval b X.env) (fun u s₂ => wpAny (model X.prog X.w) X.A (f v u) Q X.xe s₂) X.xe s₁) X.xe s := by
  refine thn (ha pins s σ H _ I h) fun v s1 ⟨x, H1, I1, r1, q1⟩ => ?_
  refine thn (hb pins s1 σ H1 _ I1 q1) fun u s2 ⟨y, H2, I2, r2, q2⟩ => ?_
  exact hf v u s2 x y H2 I2 r1 r2 q2

/-! ### names and constants -/
inductive RdV (σ : St) (i : Nat) (H : Hp) (Q : VK) : Prop where | mk (v : V) (e : σ[i]? = some (some v)) (q : Q v H) : RdV σ i H Q
def tVar (i : Nat) : TE := fun σ H Q => RdV σ i H Q
def tC (v : V) : TE := fun _ H Q => Q v H
theorem pe_var {i : Nat} {x : Str} {pos : Pos} (hN : X.N[i]? = some x) (hv : Vis X.env.scope x) (hd : (x == ("__debug__" : Str)) = false := by decide) (hcd : (x == ("__classdict__" : Str)) = false := by decide) : PE X (.Name x pos) (tVar i) := by
  intro pins s σ H Q I h
  obtain ⟨v, e, h⟩ := h
  obtain ⟨m, hn, hl⟩ := I.loc
  obtain ⟨u, r, l⟩ := hl i x v hN e hv
  have fin : EP X pins σ Q u s := ⟨v, H, I, r, h⟩
  rcases l with ⟨hk, hm⟩ | ⟨hk, c, hc, hcell⟩
  · exact wpAny_Name (wpAny_loadName_local I.ok.kind hk hn hm fin) hd
  · rcases hk with hk | hk
    · exact wpAny_Name (wpAny_loadName_cell I.ok.kind hk hc hcell fin) hd
    · exact wpAny_Name (wpAny_loadName_free I.ok.kind hk hc hcell fin hcd) hd
theorem pe_int {i j pos} : PE X (.Constant (.int i) j pos) (tC (.int i)) := fun _ _ _ H _ I h => wpAny_Constant_int ⟨.int i, H, I.tok _, ⟨_, rfl⟩, h⟩
theorem pe_bl {b j pos} : PE X (.Constant (.bool b) j pos) (tC (.bl b)) := fun _ _ _ H _ I h => Constant_bool ⟨.bl b, H, I, rfl, h⟩
theorem pe_str {x j pos} : PE X (.Constant (.str x) j pos) (tC (.str x)) := fun _ _ _ H _ I h => Calls.Constant_str ⟨.str x, H, I.tok _, ⟨_, rfl⟩, h⟩

/-- a global name of the def -/
def Gl (X : Cx) (x : Str) : Prop := X.env.kindOf x = some .globalImplicit
theorem ld_glob {E : Value → Shared → Prop} {pins : List (Addr × Obj)} {s : Shared} {σ : St} {H : Hp} {x : Str} {u : Value} {pos : Pos} {Q : Value → Shared → Prop} (I : Inv X pins σ H s) (hg : Gl X x) (hm : X.mg x = some u) (h : Q u s)
    (hd : (x == ("__debug__" : Str)) = false := by decide) : wpAny (model X.prog X.w) X.A (eval (.Name x pos) X.env) Q E s :=
  Calls.Name_function_global I.ok.kind hg (Calls.loadGlobal_global (by rw [I.ok.glob]; exact I.mod.glob.keeps I.bk) hm h) hd
theorem ld_blt {E : Value → Shared → Prop} {pins : List (Addr × Obj)} {s : Shared} {σ : St} {H : Hp} {x : Str} {u : Value} {pos : Pos} {Q : Value → Shared → Prop} (I : Inv X pins σ H s) (hg : Gl X x) (hm : X.mg x = none) (hv : bootBuiltins x = some u) (h : Q u s)
    (hn : x ≠ "__name__" := by decide) (hd : (x == ("__debug__" : Str)) = false := by decide) : wpAny (model X.prog X.w) X.A (eval (.Name x pos) X.env) Q E s := by
  obtain ⟨mb, h1, h2⟩ := I.mod.blt
  exact Calls.Name_function_global I.ok.kind hg (Calls.loadGlobal_builtin (by rw [I.ok.glob]; exact I.mod.glob.keeps I.bk) hm (by rw [I.ok.blt]; exact h1.keeps I.bk) ((h2 x hn).trans hv) h) hd
theorem pe_bltn {x : Str} {v : V} {u : Value} {pos : Pos} (hg : Gl X x) (hm : X.mg x = none) (hv : bootBuiltins x = some u) (r : RelV v u) (hn : x ≠ "__name__" := by decide) (hd : (x == ("__debug__" : Str)) = false := by decide) : PE X (.Name x pos) (tC v) :=
  fun _ _ _ H _ I h => ld_blt I hg hm hv ⟨v, H, I, r, h⟩ hn hd

/-! ### arithmetic -/
variable {a b : Expr} {ta tb : TE} {pos : Pos}
/-! ### comparisons -/
def PC (X : Cx) (op : CmpOp) (a b : Expr) (t : TE) : Prop :=
  ∀ (pins : List (Addr × Obj)) (s : Shared) (σ : St) (H : Hp) (Q : VK), Inv X pins σ H s → t σ H Q →
    wpAny (model X.prog X.w) X.A (eval a X.env) (fun v s₁ => wpAny (model X.prog X.w) X.A (eval b X.env) (fun u s₂ => wpAny (model X.prog X.w) X.A (compareOp op v u) (EP X pins σ Q) X.xe s₂) X.xe s₁) X.xe s
/-- a comparison as a value, as a test -/
inductive IsBl (x : V) (H : Hp) (Q : Bool → Hp → Prop) : Prop where | mk (c : Bool) (e : x = .bl c) (q : Q c H) : IsBl x H Q
def tB (t : TE) : TT := fun σ H Q => t σ H fun x H1 => IsBl x H1 Q
theorem pt_cmp {op : CmpOp} {t : TE} (h : PC X op a b t) (h1 : behindInMarks op b = false := by first | exact nobehind _ (by decide) (by decide) | rfl) : PT X (.Compare a [op] [b] pos) (tB t) := by
  intro pins s σ H Q I hw
  refine wpAny_isTrue_Compare1 (thn (h pins s σ H _ I hw) fun v s1 h1 => thn h1 fun u s2 h2 => thn h2 fun c s3 ⟨x, H1, I1, r1, q1⟩ => ?_) h1
  obtain ⟨d, rfl, q⟩ := q1
  cases r1
  exact wpAny_truthy_bool ⟨H1, I1, q⟩
/-- an expression whose value is a bool, as a test -/
theorem pt_val {e : Expr} {t : TE} (h : PE X e t) (he : ∀ whole, isTrue e X.env whole = (do let v ← whole; standAt e.pos; holding [v] (truthy v)) := by intro _; rfl) : PT X e (tB t) := by
  intro pins s σ H Q I hw
  refine isTrue_plain (thn (h pins s σ H _ I hw) fun v s1 ⟨x, H1, I1, r1, q1⟩ => ?_) (he _)
  obtain ⟨d, rfl, q⟩ := q1
  cases r1
  exact wpAny_truthy_bool ⟨H1, I1, q⟩

/-! ### and, or, not -/
variable {tA tB' : TT} {rest : List Expr}
def tOr (t u : TT) : TT := fun σ H Q => t σ H fun c H1 => if c = true then Q true H1 else u σ H1 Q
def tNot (t : TT) : TT := fun σ H Q => t σ H fun c H1 => Q (!c) H1
theorem pw_or1 (ha : PT X a tA) : PW X (.BoolOp .Or [a] pos) tA := by
  intro wh pins s σ H Q I h
  refine isTrue_or (thn (ha pins s σ H Q I h) fun c s1 e => ?_)
  cases c with
  | false => exact isTrue_or_nil e
  | true => exact e
theorem pw_or (ha : PT X a tA) (hb : PW X (.BoolOp .Or (b :: rest) pos) tB') : PW X (.BoolOp .Or (a :: b :: rest) pos) (tOr tA tB') := by
  intro wh pins s σ H Q I h
  refine isTrue_or (thn (ha pins s σ H _ I h) fun c s1 ⟨H1, I1, q1⟩ => ?_)
  cases c with
  | true => exact ⟨H1, I1, q1⟩
  | false => exact hb wh pins s1 σ H1 Q I1 q1
theorem pt_not (ha : PT X a tA) : PT X (.UnaryOp .Not a pos) (tNot tA) := by
  intro pins s σ H Q I h
  exact isTrue_not (ha pins s σ H (fun c H1 => Q (!c) H1) I h)
/-- .. as values (bools) -/
def tAndV (ta tb : TE) : TE := fun σ H Q => ta σ H fun x H1 => ∃ c, x = .bl c ∧ if c = true then tb σ H1 Q else Q (.bl false) H1
def tOrV (ta tb : TE) : TE := fun σ H Q => ta σ H fun x H1 => ∃ c, x = .bl c ∧ if c = true then Q (.bl true) H1 else tb σ H1 Q
def tNotV (ta : TE) : TE := fun σ H Q => ta σ H fun x H1 => ∃ c, x = .bl c ∧ Q (.bl (!c)) H1
theorem pe_one {op} {t : TE} (h : PE X a t) : PE X (.BoolOp op [a] pos) t := fun pins s σ H Q I hw => BoolOp_one (h pins s σ H Q I hw)
theorem pe_and (ha : PE X a ta) (hb : PE X (.BoolOp .And (b :: rest) pos) tb) : PE X (.BoolOp .And (a :: b :: rest) pos) (tAndV ta tb) := by
  intro pins s σ H Q I h
  refine BoolOp_and (thn (ha pins s σ H _ I h) fun v s1 ⟨x, H1, I1, r1, q1⟩ => ?_)
  obtain ⟨c, rfl, q1⟩ := q1
  cases r1
  refine wpAny_truthy_bool ?_
  cases c with
  | true => exact hb pins s1 σ H1 Q I1 q1
  | false => exact ⟨.bl false, H1, I1, rfl, q1⟩
theorem pe_or (ha : PE X a ta) (hb : PE X (.BoolOp .Or (b :: rest) pos) tb) : PE X (.BoolOp .Or (a :: b :: rest) pos) (tOrV ta tb) := by
  intro pins s σ H Q I h
  refine BoolOp_or (thn (ha pins s σ H _ I h) fun v s1 ⟨x, H1, I1, r1, q1⟩ => ?_)
  obtain ⟨c, rfl, q1⟩ := q1
  cases r1
  refine wpAny_truthy_bool ?_
  cases c with
  | false => exact hb pins s1 σ H1 Q I1 q1
  | true => exact ⟨.bl true, H1, I1, rfl, q1⟩
theorem pe_not (ha : PE X a ta) : PE X (.UnaryOp .Not a pos) (tNotV ta) := by
  intro pins s σ H Q I h
  refine UnaryOp_ (thn (ha pins s σ H _ I h) fun v s1 ⟨x, H1, I1, r1, q1⟩ => ?_)
  obtain ⟨c, rfl, q1⟩ := q1
  cases r1
  exact not_of (wpAny_truthy_bool ⟨.bl (!c), H1, I1, rfl, q1⟩)
/-- a if t else b -/
def tIf (t : TT) (ta tb : TE) : TE := fun σ H Q => t σ H fun c H1 => if c = true then ta σ H1 Q else tb σ H1 Q
theorem pe_ifExp {c : Expr} (hc : PT X c tA) (ha : PE X a ta) (hb : PE X b tb) : PE X (.IfExp c a b pos) (tIf tA ta tb) := by
  intro pins s σ H Q I h
  refine wpAny_IfExp (thn (hc pins s σ H _ I h) fun d s1 ⟨H1, I1, q1⟩ => ?_)
  cases d with
  | true => exact ha pins s1 σ H1 Q I1 q1
  | false => exact hb pins s1 σ H1 Q I1 q1
end
end L2

namespace L2
open PySem PySem.Spec PyProof.Rows

/-! ### a list, a tuple that is read: tracked, frozen, or an object of the module -/
def SqL (K : PySem.W.Frag) (H : Hp) (a : Addr) (xs : List V) : Prop :=
  Rd H a (.lst xs) ∨
    ∃ (o : Obj) (its : Array Value) (n : Nat), K.lookup a = some o ∧ o.cls = .type "list" ∧ o.dict = none ∧ o.data = .seq its n ∧ its.size ≤ sizeLine ∧ Vals xs its.toList
def SqT (K : PySem.W.Frag) (H : Hp) (a : Addr) (xs : List V) : Prop :=
  Rd H a (.tup xs) ∨
    ∃ (o : Obj) (its : Array Value) (n : Nat), K.lookup a = some o ∧ o.cls = .type "tuple" ∧ o.data = .seq its n ∧ its.size ≤ sizeLine ∧ Vals xs its.toList
def absV : Value → Option V
  | .none => some .non
  | .bool b => some (.bl b)
  | .int i _ => some (.int i)
  | .str x _ => some (.str x)
  | .bytes b _ => some (.byt b)
  | .float b _ => some (.flt b)
  | .ref a => some (.ref a)
  | .type n => some (.ty n)
  | _ => none
theorem RelV.abs {x : V} {u : Value} (r : RelV x u) : absV u = some x := by
  cases x with
  | non => cases r; rfl
  | bl _ => cases r; rfl
  | int _ => obtain ⟨t, rfl⟩ := r; rfl
  | str _ => obtain ⟨t, rfl⟩ := r; rfl
  | byt _ => obtain ⟨t, rfl⟩ := r; rfl
  | flt _ => obtain ⟨t, rfl⟩ := r; rfl
  | ref _ => cases r; rfl
  | ty _ => cases r; rfl
theorem RelV.inj {x y : V} {u : Value} (r : RelV x u) (q : RelV y u) : x = y := Option.some.inj (r.abs.symm.trans q.abs)
theorem Vals.inj : ∀ {xs ys : List V} {us : List Value}, Vals xs us → Vals ys us → xs = ys
  | _, _, _, .nil, .nil => rfl
  | _, _, _, .cons r t, .cons r' t' => by rw [r.inj r', Vals.inj t t']
section
variable {X : Cx} {pins : List (Addr × Obj)} {σ : St} {H : Hp} {s : Shared} {a : Addr} {xs ys : List V}
theorem SqL.of {K : PySem.W.Frag} (h : H a = some (.lst xs)) : SqL K H a xs := .inl (.inl h)
theorem SqT.of {K : PySem.W.Frag} (h : H a = some (.tup xs)) : SqT K H a xs := .inl (.inl h)
theorem Inv.list (I : Inv X pins σ H s) (h : SqL X.K H a xs) : ∃ its : List Value, Vals xs its ∧ PlainL s.heap a its.toArray ∧ xs.length ≤ sizeLine := by
  rcases h with h | ⟨o, its, n, hk, hc, hd, hs, hz, r⟩
  · obtain ⟨z, its, n, r, e⟩ := h.ok I.hok
    exact ⟨its, r, ⟨_, n, e, rfl, rfl, rfl⟩, z⟩
  · refine ⟨its.toList, r, ⟨o, n, I.kIn a o hk, hc, hd, by simpa using hs⟩, ?_⟩
    have e := r.length
    simp only [Array.length_toList] at e
    omega
theorem Inv.tuple (I : Inv X pins σ H s) (h : SqT X.K H a xs) : ∃ its : List Value, Vals xs its ∧ IsTup s.heap a its.toArray ∧ xs.length ≤ sizeLine := by
  rcases h with h | ⟨o, its, n, hk, hc, hs, hz, r⟩
  · obtain ⟨z, its, r, p⟩ := h.ok I.hok
    exact ⟨its, r, p, z⟩
  · refine ⟨its.toList, r, ⟨o, I.kIn a o hk, hc, n, by simpa using hs⟩, ?_⟩
    have e := r.length
    simp only [Array.length_toList] at e
    omega
theorem Inv.list_inj (I : Inv X pins σ H s) (h : SqL X.K H a xs) (h' : SqL X.K H a ys) : xs = ys := by
  obtain ⟨its, r, ⟨o, n, e, _, _, d⟩, _⟩ := I.list h
  obtain ⟨its', r', ⟨o', n', e', _, _, d'⟩, _⟩ := I.list h'
  rw [e] at e'; cases e'
  rw [d] at d'
  injection d' with d1 _
  have : its = its' := by simpa using congrArg Array.toList d1
  subst this
  exact r.inj r'
theorem Inv.tuple_inj (I : Inv X pins σ H s) (h : SqT X.K H a xs) (h' : SqT X.K H a ys) : xs = ys := by
  obtain ⟨its, r, ⟨o, e, _, n, d⟩, _⟩ := I.tuple h
  obtain ⟨its', r', ⟨o', e', _, n', d'⟩, _⟩ := I.tuple h'
  rw [e] at e'; cases e'
  rw [d] at d'
  injection d' with d1 _
  have : its = its' := by simpa using congrArg Array.toList d1
  subst this
  exact r.inj r'
end

/-! ### another wish about exceptions -/
abbrev Cx.wish (X : Cx) (E : Value → Shared → Prop) : Cx := { X with xe := E }
/-- no exception leaves -/
abbrev Cx.nox (X : Cx) : Cx := X.wish fun _ _ => False
theorem Cx.Ok.wish {X : Cx} (ok : X.Ok) (E : Value → Shared → Prop) : (X.wish E).Ok :=
  ⟨ok.mod, ok.kind, ok.glob, ok.blt, ok.above, ok.inj, ok.has, ok.cab, ok.hd, ok.frames, ok.stk, ok.exf, ok.bs, ok.bsz, ok.noex, ok.exfs, ok.funs, ok.frf⟩
theorem Cx.Ok.unwish {X : Cx} {E : Value → Shared → Prop} (ok : (X.wish E).Ok) : X.Ok :=
  ⟨ok.mod, ok.kind, ok.glob, ok.blt, ok.above, ok.inj, ok.has, ok.cab, ok.hd, ok.frames, ok.stk, ok.exf, ok.bs, ok.bsz, ok.noex, ok.exfs, ok.funs, ok.frf⟩
section
variable {X : Cx} {pins : List (Addr × Obj)} {σ : St} {H : Hp} {s : Shared} {E : Value → Shared → Prop}
theorem Inv.wish (I : Inv X pins σ H s) (E : Value → Shared → Prop) : Inv (X.wish E) pins σ H s := ⟨I.ok.wish E, I.os, I.bare, I.base, I.loc, I.cell, I.free, I.freeC, I.pin, I.hok, I.len⟩
theorem Inv.unwish (I : Inv (X.wish E) pins σ H s) : Inv X pins σ H s := ⟨I.ok.unwish, I.os, I.bare, I.base, I.loc, I.cell, I.free, I.freeC, I.pin, I.hok, I.len⟩
theorem SP.unwish {D : Ends} {f : Flow} {s' : Shared} (h : SP (X.wish E) pins D f s') : SP X pins D f s' := by
  cases f with
  | next => obtain ⟨σ', H', I, q⟩ := h; exact ⟨σ', H', I.unwish, q⟩
  | brk => obtain ⟨σ', H', I, q⟩ := h; exact ⟨σ', H', I.unwish, q⟩
  | cont => obtain ⟨σ', H', I, q⟩ := h; exact ⟨σ', H', I.unwish, q⟩
  | ret u => obtain ⟨v, σ', H', I, r, q⟩ := h; exact ⟨v, σ', H', I.unwish, r, q⟩
theorem PSs.nox {st : List Stmt} {t : TS} (h : PSs X.nox st t) : PSs X st t := fun pins s σ H D I hw =>
  wpAny_mono (h pins s σ H D (I.wish _) hw) (fun _ _ q => q.unwish) fun _ _ z => False.elim z
end

/-! ### blocks and small statements -/
section
variable {X : Cx} {st : Stmt} {rest : List Stmt} {t u : TS} {e : Expr} {te : TE} {pos : Pos}
def tNext : TS := fun D σ H => D.nx σ H
def tSeq (t u : TS) : TS := fun D σ H => t { D with nx := u D } σ H
theorem pss_nil : PSs X [] tNext := fun _ _ σ H _ I h => wpAny_execs_nil ⟨σ, H, I, h⟩
theorem pss_cons (h1 : PS X st t) (h2 : PSs X rest u) : PSs X (st :: rest) (tSeq t u) := by
  intro pins s σ H D I h
  refine wpAny_execs_cons (thn (h1 pins s σ H { D with nx := u D } I h) fun f s1 q => ?_)
  cases f with
  | next =>
    obtain ⟨σ', H', I', q⟩ := q
    exact h2 pins s1 σ' H' D I' q
  | ret v => exact q
  | brk => exact q
  | cont => exact q
theorem pss_one (h1 : PS X st t) : PSs X [st] t := by
  intro pins s σ H D I h
  refine wpAny_execs_cons (thn (h1 pins s σ H D I h) fun f s1 q => ?_)
  cases f with
  | next => exact wpAny_execs_nil q
  | ret v => exact q
  | brk => exact q
  | cont => exact q
/-- in a def's body nothing is shown -/
theorem Inv.quiet {pins : List (Addr × Obj)} {σ : St} {H : Hp} {s : Shared} (I : Inv X pins σ H s) : interactive X.env = false := by simp [interactive, I.ok.kind]
/-- an expression whose value is dropped -/
def tDrop (te : TE) : TS := fun D σ H => te σ H fun _ H1 => D.nx σ H1
theorem ps_expr (he : PE X e te) (hs : swapsWith e none pos.line X.env = pure false := by rfl) : PS X (.Expr e pos) (tDrop te) := by
  intro pins s σ H D I h
  exact wpAny_Expr_any (thn (he pins s σ H _ I h) fun v s1 ⟨x, H1, I1, r1, q1⟩ => ⟨σ, H1, I1, q1⟩) I.quiet hs
def tRet (te : TE) : TS := fun D σ H => te σ H D.rt
theorem ps_ret (he : PE X e te) : PS X (.Return (some e) pos) (tRet te) := by
  intro pins s σ H D I h
  exact wpAny_Return_some (thn (he pins s σ H _ I h) fun v s1 ⟨x, H1, I1, r1, q1⟩ => ⟨x, σ, H1, I1, r1, q1⟩)
def tIfS (c : TT) (t u : TS) : TS := fun D σ H => c σ H fun b H1 => if b = true then t D σ H1 else u D σ H1
theorem ps_if {c : Expr} {a b : List Stmt} {tc : TT} (hc : PT X c tc) (ha : PSs X a t) (hb : PSs X b u) : PS X (.If c a b pos) (tIfS tc t u) := by
  intro pins s σ H D I h
  refine wpAny_If (thn (hc pins s σ H _ I h) fun d s1 ⟨H1, I1, q1⟩ => ?_)
  cases d with
  | true => exact ha pins s1 σ H1 D I1 q1
  | false => exact hb pins s1 σ H1 D I1 q1
/-- code that the proof never comes to -/
def tNever : TS := fun _ _ _ => False
theorem pss_never {sts : List Stmt} : PSs X sts tNever := fun _ _ _ _ _ _ h => h.elim
end

/-! ### targets -/
abbrev TG := V → St → Hp → (St → Hp → Prop) → Prop
abbrev TGs := List V → St → Hp → (St → Hp → Prop) → Prop
def PG (X : Cx) (target : Expr) (t : TG) : Prop :=
  ∀ (pins : List (Addr × Obj)) (s : Shared) (σ : St) (H : Hp) (v : V) (u : Value) (Q : St → Hp → Prop), Inv X pins σ H s → RelV v u → t v σ H Q →
    wpAny (model X.prog X.w) X.A (assign target X.env u) (fun _ s' => ∃ σ' H', Inv X pins σ' H' s' ∧ Q σ' H') X.xe s
/-- several targets, one after another -/
def PGs (X : Cx) (ts : List Expr) (t : TGs) : Prop :=
  ∀ (pins : List (Addr × Obj)) (s : Shared) (σ : St) (H : Hp) (vs : List V) (us : List Value) (Q : St → Hp → Prop), Inv X pins σ H s → Vals vs us → t vs σ H Q →
    wpAny (model X.prog X.w) X.A (assignInOrder ((assignEach ts X.env).map (·.2)) us) (fun _ s' => ∃ σ' H', Inv X pins σ' H' s' ∧ Q σ' H') X.xe s
/-- a op= b, by values -/
abbrev TIp := V → V → Hp → VK → Prop
def PIp (X : Cx) (op : Operator) (t : TIp) : Prop :=
  ∀ (pins : List (Addr × Obj)) (s : Shared) (σ : St) (H : Hp) (x y : V) (v u : Value) (Q : VK), Inv X pins σ H s → RelV x v → RelV y u → t x y H Q →
    wpAny (model X.prog X.w) X.A (inplaceOp op v u) (EP X pins σ Q) X.xe s
section
variable {X : Cx} {pos : Pos}
def gName (i : Nat) : TG := fun v σ H Q => Q (σ.set i (some v)) H
theorem pg_name {i : Nat} {x : Str} (hN : X.N.Nodup) (hi : X.N[i]? = some x) (hx : Loc X.env.scope x) (hf : X.fn x = true ∨ X.env.scope.names.lookup x = some .local := by first | exact .inl rfl | exact .inr rfl | assumption) : PG X (.Name x pos) (gName i) := by
  intro pins s σ H v u Q I r h
  exact wpAny_assign_Name (store_ok I hN hi hx r (fun s' I' => ⟨_, H, I', h⟩) hf)
def gNil : TGs := fun vs σ H Q => vs = [] ∧ Q σ H
def gCons (t : TG) (u : TGs) : TGs := fun vs σ H Q => ∃ v r, vs = v :: r ∧ t v σ H fun σ' H' => u r σ' H' Q
theorem pgs_nil : PGs X [] gNil := by
  intro pins s σ H vs us Q I r h
  obtain ⟨e, h⟩ := h
  subst e
  cases r
  exact assignInOrder_nil ⟨σ, H, I, h⟩
theorem pgs_cons {e : Expr} {es : List Expr} {t : TG} {u : TGs} (h1 : PG X e t) (h2 : PGs X es u)
    (hs : (assignEach (e :: es) X.env).map (·.2) = assign e X.env :: (assignEach es X.env).map (·.2) := by rfl) : PGs X (e :: es) (gCons t u) := by
  intro pins s σ H vs us Q I r h
  obtain ⟨v, vr, e1, h⟩ := h
  subst e1
  cases r with
  | cons r rr =>
    rw [hs]
    refine assignInOrder_cons (thn (h1 pins s σ H _ _ _ I r h) fun _ s1 ⟨σ1, H1, I1, q1⟩ => ?_)
    exact h2 pins s1 σ1 H1 _ _ Q I1 rr q1
/-- (a, b, ..) = a tuple of that length -/
def gTup (K : PySem.W.Frag) (n : Nat) (t : TGs) : TG := fun v σ H Q => ∃ a xs, v = .ref a ∧ SqT K H a xs ∧ xs.length = n ∧ t xs σ H Q
theorem pg_tup {es : List Expr} {k : Nat} {t : TGs} {n : Nat} (hc : X.calm = true) (h : PGs X es t)
    (hn : (assignEach es X.env).length = n := by rfl) (hst : (assignEach es X.env).findIdx? (·.1) = none := by rfl) : PG X (.Tuple es k pos) (gTup X.K n t) := by
  intro pins s σ H v u Q I r hw
  obtain ⟨a, xs, e1, hq, hl, hw⟩ := hw
  subst e1
  cases r
  obtain ⟨its, rv, ht, hz⟩ := I.tuple hq
  refine assign_Tuple_tuple (I.ok.hd hc) ht (by simp [hn, ← hl, rv.length]) hst fun h' hx => ?_
  have I1 : Inv X pins σ H { s with heap := h' } := I.kept (t' := s.toks) fun b o e => hx b o (Nat.ne_of_lt (Heap.lt_size e)) e
  exact h pins _ σ H xs _ Q I1 (by simpa using rv) hw
/-- target = value -/
def tAsg (te : TE) (g : TG) : TS := fun D σ H => te σ H fun x H1 => g x σ H1 D.nx
theorem ps_asg {tg e : Expr} {te : TE} {g : TG} (he : PE X e te) (hg : PG X tg g) (hs : swapsWithSole [tg] e pos.line X.env = pure false := by rfl) (hw : swappedStores [tg] e X.env = pure none := by rfl)
    (h1 : (assignEach [tg] X.env).map (·.2) = [assign tg X.env] := by rfl) : PS X (.Assign [tg] e pos) (tAsg te g) := by
  intro pins s σ H D I h
  refine wpAny_Assign_stores (thn (he pins s σ H _ I h) fun v s1 ⟨x, H1, I1, r1, q1⟩ => ?_) hs hw
  rw [h1]
  exact thn (hg pins s1 σ H1 x v _ I1 r1 q1) fun _ s2 q => q
/-- name = value -/
theorem ps_set {i : Nat} {x : Str} {e : Expr} {te : TE} {pos' : Pos} (hN : X.N.Nodup) (hi : X.N[i]? = some x) (hx : Loc X.env.scope x) (he : PE X e te) (hs : swapsWith e (some (.Name x pos')) pos.line X.env = pure false := by rfl) (hf : X.fn x = true ∨ X.env.scope.names.lookup x = some .local := by first | exact .inl rfl | exact .inr rfl | assumption) :
    PS X (.Assign [.Name x pos'] e pos) (tAsg te (gName i)) := by
  intro pins s σ H D I h
  refine wpAny_Assign_Name (thn (he pins s σ H _ I h) fun v s1 ⟨y, H1, I1, r1, q1⟩ => ?_) hs
  exact store_ok I1 hN hi hx r1 (fun s2 I2 => ⟨_, H1, I2, q1⟩) hf
/-- name op= e -/
def tAug (i : Nat) (te : TE) (ti : TIp) : TS := fun D σ H => ∃ x, σ[i]? = some (some x) ∧ te σ H fun y H1 => ti x y H1 fun z H2 => D.nx (σ.set i (some z)) H2
theorem ps_aug {i : Nat} {x : Str} {e : Expr} {te : TE} {op : Operator} {ti : TIp} {pos' : Pos} (hN : X.N.Nodup) (hi : X.N[i]? = some x) (hx : Loc X.env.scope x) (he : PE X e te) (ho : PIp X op ti) (hf : X.fn x = true ∨ X.env.scope.names.lookup x = some .local := by first | exact .inl rfl | exact .inr rfl | assumption) :
    PS X (.AugAssign (.Name x pos') op e pos) (tAug i te ti) := by
  intro pins s σ H D I h
  obtain ⟨v, e1, h⟩ := h
  obtain ⟨m, hn, hl⟩ := I.loc
  have vis : Vis X.env.scope x := by rcases hx with k | k; exact .inl k; exact .inr (.inl k)
  obtain ⟨u, r, l⟩ := hl i x v hi e1 vis
  refine wpAny_AugAssign_Name ?_
  have go : wpAny (model X.prog X.w) X.A (eval e X.env) (fun w s₂ => wpAny (model X.prog X.w) X.A (inplaceOp op u w) (fun r s₃ => wpAny (model X.prog X.w) X.A (storeName X.env x r) (fun _ => SP X pins D .next) X.xe s₃) X.xe s₂) X.xe s := by
    refine thn (he pins s σ H _ I h) fun w s1 ⟨y, H1, I1, r1, q1⟩ => ?_
    refine thn (ho pins s1 σ H1 v y u w _ I1 r r1 q1) fun z s2 ⟨zv, H2, I2, r2, q2⟩ => ?_
    exact store_ok I2 hN hi hx r2 (fun s3 I3 => ⟨_, H2, I3, q2⟩) hf
  rcases l with ⟨hk, hm⟩ | ⟨hk, c, hc, hcell⟩
  · exact wpAny_loadName_local I.ok.kind hk hn hm go
  · rcases hk with hk | hk
    · exact wpAny_loadName_cell I.ok.kind hk hc hcell go
    · rcases hx with k | k
      · have : X.env.scope.names.lookup x = some .free := hk
        rw [k] at this; cases this
      · have : X.env.scope.names.lookup x = some .free := hk
        rw [k] at this; cases this
end

/-! ### while -/
section
variable {X : Cx} {pos : Pos}
/-- the invariant W with its measure -/
def tWhile (c : TT) (tb : TS) : TS := fun D σ H => ∃ W : Nat → St → Hp → Prop, (∃ m, W m σ H) ∧ ∀ m σ H, W m σ H →
  c σ H fun b H1 => if b = true then ∃ N : St → Hp → Prop, (∀ σ' H', N σ' H' → ∃ m', m' < m ∧ W m' σ' H') ∧ tb { D with nx := N, ct := N, bk := D.nx } σ H1 else D.nx σ H1
theorem ps_while {c : Expr} {body : List Stmt} {tc : TT} {tb : TS} (hp : PassesOwn (model X.prog X.w) X.A X.env X.xe) (hc : PT X c tc) (hb : PSs X body tb) : PS X (.While c body [] pos) (tWhile tc tb) := by
  intro pins s σ H D I h
  obtain ⟨W, ⟨m0, w0⟩, turn⟩ := h
  refine wpAny_While (codeAny_whileLoop (fun n s' => ∃ σ' H', Inv X pins σ' H' s' ∧ W n σ' H') ?_ m0 ⟨σ, H, I, w0⟩)
  rintro n s1 ⟨σ1, H1, I1, w1⟩
  refine wpAny_passesOwn hp (thn (hc pins s1 σ1 H1 _ I1 (turn n σ1 H1 w1)) fun b s2 ⟨H2, I2, q2⟩ => ?_)
  cases b with
  | true =>
    obtain ⟨N, hN, q2⟩ := q2
    rw [if_pos rfl]
    refine wpAny_passesOwn hp (thn (hb pins s2 σ1 H2 _ I2 q2) fun f s3 q3 => ?_)
    cases f with
    | next =>
      obtain ⟨σ3, H3, I3, n3⟩ := q3
      obtain ⟨m', hm, w3⟩ := hN σ3 H3 n3
      exact ⟨m', hm, σ3, H3, I3, w3⟩
    | cont =>
      obtain ⟨σ3, H3, I3, n3⟩ := q3
      obtain ⟨m', hm, w3⟩ := hN σ3 H3 n3
      exact ⟨m', hm, σ3, H3, I3, w3⟩
    | brk => exact q3
    | ret v => exact q3
  | false =>
    rw [if_neg Bool.false_ne_true]
    exact wpAny_execs_nil ⟨σ1, H2, I2, q2⟩
end

/-! ### what a loop or a comprehension walks -/
/-- at turn i: it yields x (the heap may grow), or it stops -/
structure It where
  go : Nat → Hp → Prop
  yld : Nat → Hp → V → Hp → Prop
  stop : Nat → Hp → Prop
/-- the iterator's own objects may turn: they are not the frame's, not pinned, younger than the entry (or a comprehension's own) -/
def FpOk (X : Cx) (pins : List (Addr × Obj)) (H : Hp) (b : Addr) : Prop :=
  H b = none ∧ b ≠ X.env.locals ∧ b ∉ X.fs ∧ (b ∈ X.ex ∨ X.s₀.heap.objs.size ≤ b) ∧ (∀ x c, X.env.cells.lookup x = some c → c ≠ b) ∧ ∀ p ∈ X.pn ++ pins, p.1 ≠ b
theorem Inv.fpOk {X : Cx} {pins : List (Addr × Obj)} {σ : St} {H H' : Hp} {s : Shared} {b : Addr} (I : Inv X pins σ H s) (hb : s.heap.objs.size ≤ b) (hn : H' b = none) : FpOk X pins H' b := by
  refine ⟨hn, Nat.ne_of_gt (Nat.lt_of_lt_of_le I.lt hb), I.nofs hb, .inr (Nat.le_trans I.sz hb), fun x c e z => ?_, fun p hp z => ?_⟩
  · obtain ⟨v, q⟩ := I.cell x c e
    exact absurd (Nat.lt_of_lt_of_le q.lt (by rw [z]; exact hb)) (Nat.lt_irrefl _)
  · exact absurd (Nat.lt_of_lt_of_le (Heap.lt_size (I.pin p hp).1) (by rw [z]; exact hb)) (Nat.lt_irrefl _)
structure Turn (P : Program) (w : World) (K : PySem.W.Frag) (tg : Expr) (J : It) (fp : List Addr) (it : Addr) (tn : Nat → Heap → Prop) : Prop where
  mem : it ∈ fp
  obj : ∀ i h, tn i h → ∀ b ∈ fp, ∃ o, h.get? b = some o ∧ ∀ v, o.data ≠ .cell v
  keep : ∀ i h h', tn i h → (∀ b ∈ fp, ∀ o, h.get? b = some o → h'.get? b = some o) → tn i h'
  item : ∀ (X : Cx), X.prog = P → X.w = w → X.K = K → X.calm = true → ∀ (i : Nat) (pins : List (Addr × Obj)) (s : Shared) (σ : St) (H : Hp) (E : Value → Shared → Prop), Inv X pins σ H s → (∀ b ∈ fp, FpOk X pins H b) → tn i s.heap → J.go i H →
    wpAny (model P w) X.A (pyNext (.ref it)) (fun r s1 => ∃ u, r = some u ∧
      wpAny (model P w) X.A (letOwnedTupleGo tg (.ref it) u) (fun _ s2 => ∃ x H', Inv X pins σ H' s2 ∧ RelV x u ∧ J.yld i H x H' ∧ tn (i + 1) s2.heap ∧ ∀ b ∈ fp, H' b = none) E s1) E s
  done : ∀ (X : Cx), X.prog = P → X.w = w → X.K = K → X.calm = true → ∀ (i : Nat) (pins : List (Addr × Obj)) (s : Shared) (σ : St) (H : Hp) (E : Value → Shared → Prop), Inv X pins σ H s → (∀ b ∈ fp, FpOk X pins H b) → tn i s.heap → J.stop i H →
    wpAny (model P w) X.A (pyNext (.ref it)) (fun r s1 => r = none ∧ Inv X pins σ H s1) E s
  self : ∀ (A : Around) (i : Nat) (s : Shared) (Q : Value → Shared → Prop) (E : Value → Shared → Prop), tn i s.heap → Q (.ref it) s → wpAny (model P w) A (pyIter (.ref it)) Q E s
abbrev TI := St → Hp → (It → Hp → Prop) → Prop
/-- an iterator has come -/
def PIE (X : Cx) (pins : List (Addr × Obj)) (σ : St) (tg : Expr) (R : It → Hp → Prop) (itv : Value) (s2 : Shared) : Prop :=
  ∃ (it : Addr) (fp : List Addr) (tn : Nat → Heap → Prop) (J : It) (H' : Hp), itv = .ref it ∧ Inv X pins σ H' s2 ∧ Turn X.prog X.w X.K tg J fp it tn ∧ tn 0 s2.heap ∧ (∀ b ∈ fp, FpOk X pins H' b) ∧ R J H'
def PI (X : Cx) (tg iter : Expr) (wi : TI) : Prop :=
  ∀ (pins : List (Addr × Obj)) (s : Shared) (σ : St) (H : Hp) (R : It → Hp → Prop), Inv X pins σ H s → wi σ H R →
    wpAny (model X.prog X.w) X.A (eval iter X.env) (fun v s1 => wpAny (model X.prog X.w) X.A (pyIter v) (PIE X pins σ tg R) X.xe s1) X.xe s

/-- the step ahead of the store is nothing for an iterator that keeps no tuple -/
theorem go_of {M : Model} {A : Around} {E : Value → Shared → Prop} {s : Shared} {tg : Expr} {it : Addr} {u : Value} {o : Obj} {n : String} {vs : Array Value} {Q : Unit → Shared → Prop} (ho : s.heap.get? it = some o) (hc : o.cls = .type n) (hd : o.data = .fields vs)
    (hn : ["enumerate", "zip", "dict_itemiterator", "dict_reverseitemiterator", "odict_iterator", "itertools.zip_longest", "itertools.pairwise"].contains n = false) (hQ : Q () s) : wpAny M A (letOwnedTupleGo tg (.ref it) u) Q E s := by
  unfold letOwnedTupleGo
  cases tg <;> first
    | exact wpAny_pure hQ
    | (cases u <;> first
        | exact wpAny_pure hQ
        | (refine wpAny_bind (wpAny_load ho ?_)
           rw [hc, hd]
           show wpAny M A (if (["enumerate", "zip", "dict_itemiterator", "dict_reverseitemiterator", "odict_iterator", "itertools.zip_longest", "itertools.pairwise"].contains n && vs[0]? == some (rawInt _)) = true then _ else _) Q E s
           rw [if_neg (by intro h; rw [hn, Bool.false_and] at h; cases h)]
           exact wpAny_pure hQ))

/-- the list at a, as it stands at each turn (a loop may append to it) -/
def Itl (K : PySem.W.Frag) (a : Addr) : It :=
  ⟨fun i H => ∃ xs x, SqL K H a xs ∧ xs[i]? = some x, fun i H x H' => H' = H ∧ ∀ xs, SqL K H a xs → xs[i]? = some x, fun i H => ∃ xs, SqL K H a xs ∧ xs.length ≤ i⟩
def Itt (K : PySem.W.Frag) (a : Addr) : It :=
  ⟨fun i H => ∃ xs x, SqT K H a xs ∧ xs[i]? = some x, fun i H x H' => H' = H ∧ ∀ xs, SqT K H a xs → xs[i]? = some x, fun i H => ∃ xs, SqT K H a xs ∧ xs.length ≤ i⟩
/-- lo, lo + 1, .. (n of them) -/
def Itr (lo : Int) (n : Nat) : It := ⟨fun i _ => i < n, fun i H x H' => H' = H ∧ x = .int (lo + i), fun i _ => n ≤ i⟩
theorem turn_list {P : Program} {w : World} {K : PySem.W.Frag} {tg : Expr} (a it : Addr) : Turn P w K tg (Itl K a) [it] it (fun i h => h.IsListIter it a i) where
  mem := by simp
  obj := fun i h st b hb => by
    have e : b = it := by simpa using hb
    subst e
    obtain ⟨o, e, c, d⟩ := st
    exact ⟨o, e, fun v z => by rw [d] at z; cases z⟩
  keep := fun i h h' st k => st.at fun o e => k it (by simp) o e
  item := by
    intro X hP hw hK hc i pins s σ H E I hf st hg
    subst hP hw hK
    obtain ⟨xs, x, hq, hx⟩ := hg
    obtain ⟨its, rv, p, hz⟩ := I.list hq
    obtain ⟨u, hu, ru⟩ := rv.get hx
    obtain ⟨f0, f1, f2, f3, f4, f5⟩ := hf it (by simp)
    refine wpAny_pyNext_list_item st p.isList (x := u) (by simpa using hu) fun h' st' sb => ?_
    have I1 : Inv X pins σ H { s with heap := h' } := I.turned (t' := s.toks) (fun b o hb e => (sb.2 b hb).trans e) f0 f1 f3 f4 f5
    obtain ⟨o, e, c, d⟩ := id st'
    exact ⟨u, rfl, go_of (s := { s with heap := h' }) e c d (by decide) ⟨x, H, I1, ru, ⟨rfl, fun ys hy => by rw [I.list_inj hy hq]; exact hx⟩, st', fun b hb => (hf b hb).1⟩⟩
  done := by
    intro X hP hw hK hc i pins s σ H E I hf st hg
    subst hP hw hK
    obtain ⟨xs, hq, hx⟩ := hg
    obtain ⟨its, rv, p, hz⟩ := I.list hq
    obtain ⟨f0, f1, f2, f3, f4, f5⟩ := hf it (by simp)
    have hl := rv.length
    exact wpAny_pyNext_list_end (I.ok.hd hc) st p.isList (by simp; omega) fun h' eb => ⟨rfl, I.turned (t' := s.toks) (fun b o hb e => eb b o hb e) f0 f1 f3 f4 f5⟩
  self := fun _ _ _ _ _ st h => wpAny_pyIter_listiter st h
theorem turn_tuple {P : Program} {w : World} {K : PySem.W.Frag} {tg : Expr} (a it : Addr) : Turn P w K tg (Itt K a) [it] it (fun i h => h.IsTupleIter it a i) where
  mem := by simp
  obj := fun i h st b hb => by
    have e : b = it := by simpa using hb
    subst e
    obtain ⟨o, e, c, d⟩ := st
    exact ⟨o, e, fun v z => by rw [d] at z; cases z⟩
  keep := fun i h h' st k => st.at fun o e => k it (by simp) o e
  item := by
    intro X hP hw hK hc i pins s σ H E I hf st hg
    subst hP hw hK
    obtain ⟨xs, x, hq, hx⟩ := hg
    obtain ⟨its, rv, p, hz⟩ := I.tuple hq
    obtain ⟨u, hu, ru⟩ := rv.get hx
    obtain ⟨f0, f1, f2, f3, f4, f5⟩ := hf it (by simp)
    refine wpAny_pyNext_tuple_item st (show s.heap.IsTuple a its.toArray from p) (x := u) (by simpa using hu) fun h' st' sb => ?_
    have I1 : Inv X pins σ H { s with heap := h' } := I.turned (t' := s.toks) (fun b o hb e => (sb.2 b hb).trans e) f0 f1 f3 f4 f5
    obtain ⟨o, e, c, d⟩ := id st'
    exact ⟨u, rfl, go_of (s := { s with heap := h' }) e c d (by decide) ⟨x, H, I1, ru, ⟨rfl, fun ys hy => by rw [I.tuple_inj hy hq]; exact hx⟩, st', fun b hb => (hf b hb).1⟩⟩
  done := by
    intro X hP hw hK hc i pins s σ H E I hf st hg
    subst hP hw hK
    obtain ⟨xs, hq, hx⟩ := hg
    obtain ⟨its, rv, p, hz⟩ := I.tuple hq
    obtain ⟨f0, f1, f2, f3, f4, f5⟩ := hf it (by simp)
    have hl := rv.length
    exact wpAny_pyNext_tuple_end (I.ok.hd hc) st (show s.heap.IsTuple a its.toArray from p) (by simp; omega) fun h' eb => ⟨rfl, I.turned (t' := s.toks) (fun b o hb e => eb b o hb e) f0 f1 f3 f4 f5⟩
  self := fun _ _ _ _ _ st h => wpAny_pyIter_tupleiter st h
theorem turn_range {P : Program} {w : World} {K : PySem.W.Frag} {tg : Expr} (it : Addr) (lo : Int) (n : Nat) : Turn P w K tg (Itr lo n) [it] it (fun i h => IsRangeIter h it (lo + (i : Nat) * 1) ((n : Int) - (i : Nat)) 1) where
  mem := by simp
  obj := fun i h st b hb => by
    have e : b = it := by simpa using hb
    subst e
    exact ⟨_, st, fun v z => by
      have z' : Data.fields _ = Data.cell v := z
      cases z'⟩
  keep := fun i h h' st k => k it (by simp) _ st
  item := by
    intro X hP hw hK hc i pins s σ H E I hf st hg
    subst hP hw hK
    obtain ⟨f0, f1, f2, f3, f4, f5⟩ := hf it (by simp)
    have W := Walks.range (prog := X.prog) (w := X.w) (I.ok.hd hc) it lo 1 n
    refine W.item i s _ _ hg st fun v h' tk hv st' kk => ?_
    obtain ⟨t, rfl⟩ := hv
    have I1 : Inv X pins σ H { s with heap := h', toks := tk } := I.turned (fun b o hb e => kk b o (by simpa using hb) e) f0 f1 f3 f4 f5
    refine ⟨_, rfl, go_of (s := { s with heap := h', toks := tk }) (n := "range_iterator") st' rfl rfl (by decide) ⟨.int (lo + i), H, I1, ⟨t, ?_⟩, ⟨rfl, rfl⟩, st', fun b hb => (hf b hb).1⟩⟩
    rw [Int.mul_one]
  done := by
    intro X hP hw hK hc i pins s σ H E I hf st hg
    subst hP hw hK
    obtain ⟨f0, f1, f2, f3, f4, f5⟩ := hf it (by simp)
    exact wpAny_pyNext_range_end (I.ok.hd hc) st (by have : n ≤ i := hg; omega) fun h' eb => ⟨rfl, I.turned (t' := s.toks) (fun b o hb e => eb b o hb e) f0 f1 f3 f4 f5⟩
  self := fun _ _ _ _ _ st h => wpAny_pyIter_rangeiter st h
end L2

namespace L2
open PySem PySem.Spec PyProof.Rows
section
variable {X : Cx} {tg : Expr}
def iList (K : PySem.W.Frag) (tl : TE) : TI := fun σ H R => tl σ H fun x H1 => ∃ a, x = .ref a ∧ (∃ xs, SqL K H1 a xs) ∧ R (Itl K a) H1
def iTup (K : PySem.W.Frag) (tl : TE) : TI := fun σ H R => tl σ H fun x H1 => ∃ a, x = .ref a ∧ (∃ xs, SqT K H1 a xs) ∧ R (Itt K a) H1
theorem pi_list {l : Expr} {tl : TE} (hl : PE X l tl) : PI X tg l (iList X.K tl) := by
  intro pins s σ H R I h
  refine thn (hl pins s σ H _ I h) fun v s1 ⟨x, H1, I1, r1, q1⟩ => ?_
  obtain ⟨a, e, ⟨xs, hq⟩, q⟩ := q1
  subst e
  cases r1
  obtain ⟨its, rv, p, hz⟩ := I1.list hq
  refine wpAny_pyIter_list p.isList ?_
  refine ⟨s1.heap.objs.size, [s1.heap.objs.size], _, _, H1, rfl, I1.kept (t' := s1.toks) fun b o e => Heap.get?_push_of_some _ e, turn_list a _, ⟨_, Heap.get?_push_size _ rfl, rfl, rfl⟩, fun b hb => ?_, q⟩
  have e : b = s1.heap.objs.size := by simpa using hb
  subst e
  exact I1.fpOk (Nat.le_refl _) (I1.hok.fresh (Nat.le_refl _))
theorem pi_tup {l : Expr} {tl : TE} (hl : PE X l tl) : PI X tg l (iTup X.K tl) := by
  intro pins s σ H R I h
  refine thn (hl pins s σ H _ I h) fun v s1 ⟨x, H1, I1, r1, q1⟩ => ?_
  obtain ⟨a, e, ⟨xs, hq⟩, q⟩ := q1
  subst e
  cases r1
  obtain ⟨its, rv, p, hz⟩ := I1.tuple hq
  refine wpAny_pyIter_tuple (show s1.heap.IsTuple a its.toArray from p) ?_
  refine ⟨s1.heap.objs.size, [s1.heap.objs.size], _, _, H1, rfl, I1.kept (t' := s1.toks) fun b o e => Heap.get?_push_of_some _ e, turn_tuple a _, ⟨_, Heap.get?_push_size _ rfl, rfl, rfl⟩, fun b hb => ?_, q⟩
  have e : b = s1.heap.objs.size := by simpa using hb
  subst e
  exact I1.fpOk (Nat.le_refl _) (I1.hok.fresh (Nat.le_refl _))
/-- a range object just made, walked -/
theorem range_it {pins : List (Addr × Obj)} {σ : St} {H : Hp} {s : Shared} {R : It → Hp → Prop} {E : Value → Shared → Prop} {lo hi : Int} {t u v : Tok} {tk : Nat} (I : Inv X pins σ H s) (h1 : -(2 ^ 62) ≤ lo) (h2 : lo < 2 ^ 62) (h3 : -(2 ^ 62) ≤ hi) (h4 : hi < 2 ^ 62)
    (q : R (Itr lo (hi - lo).toNat) H) : wpAny (model X.prog X.w) X.A (pyIter (.ref s.heap.objs.size)) (PIE X pins σ tg R) E { s with heap := s.heap.push { cls := .type "range", data := .fields #[.int lo t, .int hi u, .int 1 v] }, toks := tk } := by
  refine wpAny_pyIter_range (IsRange.new ..) (small_one h1 h2 h3 h4) ?_
  have I1 : Inv X pins σ H { s with heap := s.heap.push { cls := .type "range", data := .fields #[.int lo t, .int hi u, .int 1 v] }, toks := tk } := I.kept fun b o e => Heap.get?_push_of_some _ e
  refine ⟨(s.heap.push { cls := .type "range", data := .fields #[.int lo t, .int hi u, .int 1 v] }).objs.size, [(s.heap.push { cls := .type "range", data := .fields #[.int lo t, .int hi u, .int 1 v] }).objs.size], _, _, H, rfl,
    I1.kept (t' := tk) fun b o e => Heap.get?_push_of_some _ e, turn_range _ lo (hi - lo).toNat, ?_, fun b hb => ?_, q⟩
  · have e1 : lo + ((0 : Nat) : Int) * 1 = lo := by simp
    have e2 : (((hi - lo).toNat : Nat) : Int) - ((0 : Nat) : Int) = Builtin.Range.rangeSize lo hi 1 := by rw [rangeSize_one]; split <;> omega
    show IsRangeIter _ _ (lo + ((0 : Nat) : Int) * 1) ((((hi - lo).toNat : Nat) : Int) - ((0 : Nat) : Int)) 1
    rw [e1, e2]
    exact Heap.get?_push_size _ rfl
  · have e : b = (s.heap.push { cls := .type "range", data := .fields #[.int lo t, .int hi u, .int 1 v] }).objs.size := by simpa using hb
    subst e
    exact I1.fpOk (Nat.le_refl _) (I1.hok.fresh (Nat.le_refl _))
def iRng1 (ta : TA) : TI := fun σ H R => ta σ H fun vs H1 => ∃ j : Int, vs = [.int j] ∧ -(2 ^ 62) ≤ j ∧ j < 2 ^ 62 ∧ R (Itr 0 j.toNat) H1
def iRng2 (ta : TA) : TI := fun σ H R => ta σ H fun vs H1 => ∃ i j : Int, vs = [.int i, .int j] ∧ (-(2 ^ 62) ≤ i ∧ i < 2 ^ 62 ∧ -(2 ^ 62) ≤ j ∧ j < 2 ^ 62) ∧ R (Itr i (j - i).toNat) H1
theorem pi_range1 {a : Expr} {ta : TA} {p pos : Pos} (hg : Gl X "range") (hm : X.mg "range" = none) (ha : PA X [a] ta) (hs : starEach [a] X.env = [(false, eval a X.env)] := by rfl) : PI X tg (.Call (.Name "range" p) [a] [] pos) (iRng1 ta) := by
  intro pins s σ H R I h
  refine Call_ (ld_blt I hg hm boot_range (PyProof.Rows.callWith_type1 (thn (ha pos pins s σ H _ I h) fun us s1 ⟨vs, H1, I1, r1, q1⟩ => ?_) hs rfl))
  obtain ⟨j, e, q1, q2, q⟩ := q1
  subst e
  cases r1 with
  | cons r rr =>
    cases rr
    obtain ⟨t, rfl⟩ := r
    exact call_range_1 (range_it I1 (by omega) (by omega) q1 q2 (by simpa using q))
theorem pi_range2 {a b : Expr} {ta : TA} {p pos : Pos} (hg : Gl X "range") (hm : X.mg "range" = none) (ha : PA X [a, b] ta) (hs : starEach [a, b] X.env = [(false, eval a X.env), (false, eval b X.env)] := by rfl) (hs2 : starEach [b] X.env = [(false, eval b X.env)] := by rfl) :
    PI X tg (.Call (.Name "range" p) [a, b] [] pos) (iRng2 ta) := by
  intro pins s σ H R I h
  refine Call_ (ld_blt I hg hm boot_range (PyProof.Rows.callWith_type1 (thn (ha pos pins s σ H _ I h) fun us s1 ⟨vs, H1, I1, r1, q1⟩ => ?_) (by rw [hs, hs2]) (by rw [hs2]; rfl)))
  obtain ⟨i, j, e, ⟨q1, q2, q3, q4⟩, q⟩ := q1
  subst e
  cases r1 with
  | cons r rr =>
    cases rr with
    | cons r' rr =>
      cases rr
      obtain ⟨t, rfl⟩ := r
      obtain ⟨t', rfl⟩ := r'
      exact call_range_2 (range_it I1 q1 q2 q3 q4 q)

/-! ### for -/
/-- W: the invariant by the turn and a measure; N: what the body is to reach -/
def tFor (wi : TI) (g : TG) (tb : TS) : TS := fun D σ H => wi σ H fun J H1 => ∃ W : Nat → Nat → St → Hp → Prop, (∃ m, W 0 m σ H1) ∧ ∀ i m σ H, W i m σ H →
  (J.stop i H ∧ D.nx σ H) ∨ (J.go i H ∧ ∃ N : St → Hp → Prop, (∀ σ' H', N σ' H' → ∃ m', m' < m ∧ W (i + 1) m' σ' H') ∧ ∀ x H', J.yld i H x H' → g x σ H' fun σ2 H2 => tb { D with nx := N, ct := N, bk := D.nx } σ2 H2)
/-- the records at fp as they stand -/
def pinsAt (fp : List Addr) (h : Heap) : List (Addr × Obj) := fp.filterMap fun b => (h.get? b).map fun o => (b, o)
theorem mem_pinsAt {fp : List Addr} {h : Heap} {b : Addr} {o : Obj} (hb : b ∈ fp) (e : h.get? b = some o) : (b, o) ∈ pinsAt fp h := List.mem_filterMap.mpr ⟨b, hb, by rw [e]; rfl⟩
theorem of_pinsAt {fp : List Addr} {h : Heap} {p : Addr × Obj} (hp : p ∈ pinsAt fp h) : p.1 ∈ fp ∧ h.get? p.1 = some p.2 := by
  obtain ⟨b, hb, e⟩ := List.mem_filterMap.mp hp
  cases q : h.get? b with
  | none => rw [q] at e; cases e
  | some o =>
    rw [q] at e
    have e' : (b, o) = p := Option.some.inj e
    subst e'
    exact ⟨hb, q⟩
theorem Inv.pinned {pins : List (Addr × Obj)} {σ : St} {H : Hp} {s : Shared} {fp : List Addr} (I : Inv X pins σ H s) (hf : ∀ b ∈ fp, FpOk X pins H b) (ho : ∀ b ∈ fp, ∃ o, s.heap.get? b = some o ∧ ∀ v, o.data ≠ .cell v) : Inv X (pins ++ pinsAt fp s.heap) σ H s :=
  I.pins_of fun p hp => (List.mem_append.mp hp).elim (fun z => I.pin p (List.mem_append_right _ z)) fun z => by
    obtain ⟨hb, e⟩ := of_pinsAt z
    obtain ⟨f0, f1, f2, _⟩ := hf p.1 hb
    obtain ⟨o, e', d⟩ := ho p.1 hb
    rw [e] at e'; cases e'
    exact ⟨e, f0, f1, f2, d⟩
theorem Inv.unpinned {pins pl : List (Addr × Obj)} {σ : St} {H : Hp} {s : Shared} (I : Inv X (pins ++ pl) σ H s) : Inv X pins σ H s := I.pins_of fun p hp => I.pin p (List.mem_append_right _ (List.mem_append_left _ hp))
theorem ps_for {iter : Expr} {body : List Stmt} {wi : TI} {g : TG} {tb : TS} {pos : Pos} (hp : PassesOwn (model X.prog X.w) X.A X.env X.xe) (hc : X.calm = true) (hi : PI X tg iter wi) (hg : PG X tg g) (hb : PSs X body tb)
    (hs : ∀ x, foldedSetIterable iter X.env x = pure x := by intro _; rfl) : PS X (.For tg iter body [] pos) (tFor wi g tb) := by
  intro pins s σ H D I h
  refine wpAny_For (thn (hi pins s σ H _ I h) fun v s1 h1 => thn h1 fun itv s2 h2 => ?_) hs
  obtain ⟨it, fp, tn, J, H2, e, I2, T, st2, f2, W, ⟨m0, w0⟩, turn⟩ := h2
  subst e
  -- what stays true of the iterator's objects through the loop
  have stat : ∀ {H' : Hp}, (∀ b ∈ fp, H' b = none) → ∀ b ∈ fp, FpOk X pins H' b := fun hn b hb => ⟨hn b hb, (f2 b hb).2⟩
  refine codeAny_forLoop_any (fun n s' => ∃ i σ' H', Inv X pins σ' H' s' ∧ tn i s'.heap ∧ (∀ b ∈ fp, H' b = none) ∧ W i n σ' H') ?_ m0 ⟨0, σ, H2, I2, st2, fun b hb => (f2 b hb).1, w0⟩
  rintro n s3 ⟨i, σ3, H3, I3, st3, fr3, w3⟩
  rcases turn i n σ3 H3 w3 with ⟨stop, qn⟩ | ⟨go, N, hN, step⟩
  · refine wpAny_passesOwn hp (thn (T.done X rfl rfl rfl hc i pins s3 σ3 H3 X.xe I3 (stat fr3) st3 stop) fun r s4 ⟨hr, I4⟩ => ?_)
    subst hr
    exact wpAny_execs_nil ⟨σ3, H3, I4, qn⟩
  · refine wpAny_passesOwn hp (thn (T.item X rfl rfl rfl hc i pins s3 σ3 H3 X.xe I3 (stat fr3) st3 go) fun r s4 ⟨u, hr, h4⟩ => ?_)
    subst hr
    refine wpAny_passesOwn hp (thn h4 fun _ s5 ⟨x, H5, I5, r5, y5, st5, fr5⟩ => ?_)
    have I5' := I5.pinned (stat fr5) (T.obj _ _ st5)
    refine wpAny_passesOwn hp (thn (hg _ s5 σ3 H5 x u _ I5' r5 (step x H5 y5)) fun _ s6 ⟨σ6, H6, I6, q6⟩ => ?_)
    refine wpAny_passesOwn hp (thn (hb _ s6 σ6 H6 _ I6 q6) fun f s7 q7 => ?_)
    have again : ∀ {σ7 : St} {H7 : Hp}, Inv X (pins ++ pinsAt fp s5.heap) σ7 H7 s7 → N σ7 H7 → ∃ m, m < n ∧ ∃ i σ' H', Inv X pins σ' H' s7 ∧ tn i s7.heap ∧ (∀ b ∈ fp, H' b = none) ∧ W i m σ' H' := fun {σ7 H7} I7 n7 => by
      obtain ⟨m', hm, w7⟩ := hN σ7 H7 n7
      refine ⟨m', hm, i + 1, σ7, H7, I7.unpinned, T.keep _ _ _ st5 fun b hb o e => (I7.pin (b, o) (List.mem_append_right _ (List.mem_append_right _ (mem_pinsAt hb e)))).1, fun b hb => ?_, w7⟩
      obtain ⟨o, e, d⟩ := T.obj _ _ st5 b hb
      exact (I7.pin (b, o) (List.mem_append_right _ (List.mem_append_right _ (mem_pinsAt hb e)))).2.1
    cases f with
    | next => obtain ⟨σ7, H7, I7, n7⟩ := q7; exact again I7 n7
    | cont => obtain ⟨σ7, H7, I7, n7⟩ := q7; exact again I7 n7
    | brk => obtain ⟨σ7, H7, I7, q7⟩ := q7; exact ⟨σ7, H7, I7.unpinned, q7⟩
    | ret v => obtain ⟨x7, σ7, H7, I7, r7, q7⟩ := q7; exact ⟨x7, σ7, H7, I7.unpinned, r7, q7⟩
end

/-! ### the forms one uses -/
/-- over a list that the body leaves as it is -/
theorem for_list {K : PySem.W.Frag} {a : Addr} {xs : List V} {g : TG} {tb : TS} {D : Ends} {σ : St} {H : Hp} (Pv : Nat → St → Hp → Prop) (h0 : Pv 0 σ H) (hl : ∀ i σ H, i ≤ xs.length → Pv i σ H → SqL K H a xs)
    (hs : ∀ i x σ H, xs[i]? = some x → Pv i σ H → g x σ H fun σ2 H2 => tb { D with nx := Pv (i + 1), ct := Pv (i + 1), bk := D.nx } σ2 H2) (hd : ∀ σ H, Pv xs.length σ H → D.nx σ H) :
    ∃ W : Nat → Nat → St → Hp → Prop, (∃ m, W 0 m σ H) ∧ ∀ i m σ H, W i m σ H →
      ((Itl K a).stop i H ∧ D.nx σ H) ∨ ((Itl K a).go i H ∧ ∃ N : St → Hp → Prop, (∀ σ' H', N σ' H' → ∃ m', m' < m ∧ W (i + 1) m' σ' H') ∧ ∀ x H', (Itl K a).yld i H x H' → g x σ H' fun σ2 H2 => tb { D with nx := N, ct := N, bk := D.nx } σ2 H2) := by
  refine ⟨fun i m σ H => m = xs.length - i ∧ i ≤ xs.length ∧ Pv i σ H, ⟨xs.length, by simp, Nat.zero_le _, h0⟩, ?_⟩
  rintro i m σ H ⟨rfl, hi, p⟩
  have q := hl i σ H hi p
  by_cases hlt : i < xs.length
  · refine .inr ⟨⟨xs, xs[i], q, by simp [hlt]⟩, Pv (i + 1), fun σ' H' p' => ⟨xs.length - (i + 1), by omega, rfl, hlt, p'⟩, fun x H' y => ?_⟩
    obtain ⟨e, y⟩ := y
    subst e
    exact hs i x σ _ (y xs q) p
  · have e : i = xs.length := by omega
    subst e
    exact .inl ⟨⟨xs, q, Nat.le_refl _⟩, hd σ H p⟩
theorem for_tup {K : PySem.W.Frag} {a : Addr} {xs : List V} {g : TG} {tb : TS} {D : Ends} {σ : St} {H : Hp} (Pv : Nat → St → Hp → Prop) (h0 : Pv 0 σ H) (hl : ∀ i σ H, i ≤ xs.length → Pv i σ H → SqT K H a xs)
    (hs : ∀ i x σ H, xs[i]? = some x → Pv i σ H → g x σ H fun σ2 H2 => tb { D with nx := Pv (i + 1), ct := Pv (i + 1), bk := D.nx } σ2 H2) (hd : ∀ σ H, Pv xs.length σ H → D.nx σ H) :
    ∃ W : Nat → Nat → St → Hp → Prop, (∃ m, W 0 m σ H) ∧ ∀ i m σ H, W i m σ H →
      ((Itt K a).stop i H ∧ D.nx σ H) ∨ ((Itt K a).go i H ∧ ∃ N : St → Hp → Prop, (∀ σ' H', N σ' H' → ∃ m', m' < m ∧ W (i + 1) m' σ' H') ∧ ∀ x H', (Itt K a).yld i H x H' → g x σ H' fun σ2 H2 => tb { D with nx := N, ct := N, bk := D.nx } σ2 H2) := by
  refine ⟨fun i m σ H => m = xs.length - i ∧ i ≤ xs.length ∧ Pv i σ H, ⟨xs.length, by simp, Nat.zero_le _, h0⟩, ?_⟩
  rintro i m σ H ⟨rfl, hi, p⟩
  have q := hl i σ H hi p
  by_cases hlt : i < xs.length
  · refine .inr ⟨⟨xs, xs[i], q, by simp [hlt]⟩, Pv (i + 1), fun σ' H' p' => ⟨xs.length - (i + 1), by omega, rfl, hlt, p'⟩, fun x H' y => ?_⟩
    obtain ⟨e, y⟩ := y
    subst e
    exact hs i x σ _ (y xs q) p
  · have e : i = xs.length := by omega
    subst e
    exact .inl ⟨⟨xs, q, Nat.le_refl _⟩, hd σ H p⟩
theorem for_range {lo : Int} {n : Nat} {g : TG} {tb : TS} {D : Ends} {σ : St} {H : Hp} (Pv : Nat → St → Hp → Prop) (h0 : Pv 0 σ H)
    (hs : ∀ i σ H, i < n → Pv i σ H → g (.int (lo + i)) σ H fun σ2 H2 => tb { D with nx := Pv (i + 1), ct := Pv (i + 1), bk := D.nx } σ2 H2) (hd : ∀ σ H, Pv n σ H → D.nx σ H) :
    ∃ W : Nat → Nat → St → Hp → Prop, (∃ m, W 0 m σ H) ∧ ∀ i m σ H, W i m σ H →
      ((Itr lo n).stop i H ∧ D.nx σ H) ∨ ((Itr lo n).go i H ∧ ∃ N : St → Hp → Prop, (∀ σ' H', N σ' H' → ∃ m', m' < m ∧ W (i + 1) m' σ' H') ∧ ∀ x H', (Itr lo n).yld i H x H' → g x σ H' fun σ2 H2 => tb { D with nx := N, ct := N, bk := D.nx } σ2 H2) := by
  refine ⟨fun i m σ H => m = n - i ∧ i ≤ n ∧ Pv i σ H, ⟨n, by simp, Nat.zero_le _, h0⟩, ?_⟩
  rintro i m σ H ⟨rfl, hi, p⟩
  by_cases hlt : i < n
  · refine .inr ⟨hlt, Pv (i + 1), fun σ' H' p' => ⟨n - (i + 1), by omega, rfl, hlt, p'⟩, fun x H' y => ?_⟩
    obtain ⟨e, y⟩ := y
    subst e y
    exact hs i σ _ hlt p
  · have e : i = n := by omega
    subst e
    exact .inl ⟨Nat.le_refl _, hd σ H p⟩
/-- while, by a word and a measure of the state -/
theorem while_by {c : TT} {tb : TS} {D : Ends} {σ : St} {H : Hp} (Pv : St → Hp → Prop) (μ : St → Hp → Nat) (h0 : Pv σ H)
    (hs : ∀ σ H, Pv σ H → c σ H fun b H1 => if b = true then tb { D with nx := fun σ' H' => Pv σ' H' ∧ μ σ' H' < μ σ H, ct := fun σ' H' => Pv σ' H' ∧ μ σ' H' < μ σ H, bk := D.nx } σ H1 else D.nx σ H1)
    (mono : ∀ σ H Q Q', (∀ b H1, Q b H1 → Q' b H1) → c σ H Q → c σ H Q') : tWhile c tb D σ H := by
  refine ⟨fun m σ H => m = μ σ H ∧ Pv σ H, ⟨_, rfl, h0⟩, ?_⟩
  rintro m σ H ⟨rfl, p⟩
  refine mono σ H _ _ (fun b H1 q => ?_) (hs σ H p)
  cases b with
  | true => exact ⟨_, fun σ' H' ⟨p', l⟩ => ⟨_, l, rfl, p'⟩, q⟩
  | false => exact q
end L2

namespace L2
open PySem PySem.Spec PyProof.Rows

abbrev R2 := V → V → Hp → VK → Prop
/-- a two-place operation on values: f is binaryOp op, inplaceOp op or compareOp op -/
def OpR (X : Cx) (f : Value → Value → Sem Value) (r : R2) : Prop :=
  ∀ (pins : List (Addr × Obj)) (s : Shared) (σ : St) (H : Hp) (x y : V) (v u : Value) (Q : VK), Inv X pins σ H s → RelV x v → RelV y u → r x y H Q →
    wpAny (model X.prog X.w) X.A (f v u) (EP X pins σ Q) X.xe s
/-- a one-place operation -/
def UnR (X : Cx) (f : Value → Sem Value) (r : V → Hp → VK → Prop) : Prop :=
  ∀ (pins : List (Addr × Obj)) (s : Shared) (σ : St) (H : Hp) (x : V) (v : Value) (Q : VK), Inv X pins σ H s → RelV x v → r x H Q →
    wpAny (model X.prog X.w) X.A (f v) (EP X pins σ Q) X.xe s
/-- a call of a value that is known (a builtin, a type) with values -/
def CallR (X : Cx) (f : Value) (r : List V → Hp → VK → Prop) : Prop :=
  ∀ (pins : List (Addr × Obj)) (s : Shared) (σ : St) (H : Hp) (xs : List V) (us : List Value) (Q : VK), Inv X pins σ H s → Vals xs us → r xs H Q →
    wpAny (model X.prog X.w) X.A (call f us) (EP X pins σ Q) X.xe s
def tOp (r : R2) (ta tb : TE) : TE := fun σ H Q => ta σ H fun x H1 => tb σ H1 fun y H2 => r x y H2 Q
def tUn (r : V → Hp → VK → Prop) (ta : TE) : TE := fun σ H Q => ta σ H fun x H1 => r x H1 Q
/-- ints in, under C, and a value out -/
inductive RI (C : Int → Int → Prop) (g : Int → Int → V) (x y : V) (H : Hp) (Q : VK) : Prop where | mk (i j : Int) (ex : x = .int i) (ey : y = .int j) (c : C i j) (q : Q (g i j) H) : RI C g x y H Q
def rI (C : Int → Int → Prop) (g : Int → Int → V) : R2 := fun x y H Q => RI C g x y H Q
inductive RI0 (g : Int → Int → V) (x y : V) (H : Hp) (Q : VK) : Prop where | mk (i j : Int) (ex : x = .int i) (ey : y = .int j) (q : Q (g i j) H) : RI0 g x y H Q
def rI0 (g : Int → Int → V) : R2 := fun x y H Q => RI0 g x y H Q
def rU (g : Int → V) : V → Hp → VK → Prop := fun x H Q => ∃ i, x = .int i ∧ Q (g i) H

section
variable {X : Cx} {a b c : Expr} {ta tb tc : TE} {pos : Pos}

theorem binT (ha : PE X a ta) (hb : PE X b tb) {pins : List (Addr × Obj)} {s : Shared} {σ : St} {H : Hp} {R : V → V → Hp → Prop} (I : Inv X pins σ H s)
    (h : ta σ H fun x H1 => tb σ H1 fun y H2 => R x y H2) {Q : Value → Shared → Prop} {f : Value → Value → Sem Value}
    (hf : ∀ v u s2 x y H2, Inv X pins σ H2 s2 → RelV x v → RelV y u → R x y H2 → wpAny (model X.prog X.w) X.A (f v u) Q X.xe s2) :
    wpAny (model X.prog X.w) X.A (eval a X.env) (fun v s₁ => wpAny (model X.prog X.w) X.A (eval b X.env) (fun u s₂ => wpAny (model X.prog X.w) X.A (f v u) Q X.xe s₂) X.xe s₁) X.xe s := by
  refine thn (ha pins s σ H _ I h) fun v s1 ⟨x, H1, I1, r1, q1⟩ => ?_
  refine thn (hb pins s1 σ H1 _ I1 q1) fun u s2 ⟨y, H2, I2, r2, q2⟩ => ?_
  exact hf v u s2 x y H2 I2 r1 r2 q2

theorem pe_op {op : Operator} {r : R2} (ho : OpR X (binaryOp op) r) (ha : PE X a ta) (hb : PE X b tb) : PE X (.BinOp a op b pos) (tOp r ta tb) := by
  intro pins s σ H Q I h
  exact wpAny_BinOp (binT ha hb I h fun v u s2 x y H2 I2 rx ry q => ho pins s2 σ H2 x y v u Q I2 rx ry q)
theorem pe_un {op : UnaryOp} {r : V → Hp → VK → Prop} (ho : UnR X (unaryOp op) r) (ha : PE X a ta) : PE X (.UnaryOp op a pos) (tUn r ta) := by
  intro pins s σ H Q I h
  exact UnaryOp_ (thn (ha pins s σ H _ I h) fun v s1 ⟨x, H1, I1, r1, q1⟩ => ho pins s1 σ H1 x v Q I1 r1 q1)
/-! ### ints -/
theorem opI {f : Value → Value → Sem Value} {C : Int → Int → Prop} {g : Int → Int → Int}
    (rule : ∀ (i j : Int) (t u : Tok) (s : Shared) (Q : Value → Shared → Prop) (E : Value → Shared → Prop), C i j → Q (.int (g i j) s.toks) { s with toks := s.toks + 1 } → wpAny (model X.prog X.w) X.A (f (.int i t) (.int j u)) Q E s) :
    OpR X f (rI C fun i j => .int (g i j)) := by
  intro pins s σ H x y v u Q I rx ry h
  obtain ⟨i, j, rfl, rfl, hc, q⟩ := h
  obtain ⟨t, rfl⟩ := rx
  obtain ⟨t', rfl⟩ := ry
  exact rule i j t t' s _ _ hc ⟨.int (g i j), H, I.tok _, ⟨_, rfl⟩, q⟩
theorem opI0 {f : Value → Value → Sem Value} {g : Int → Int → Int}
    (rule : ∀ (i j : Int) (t u : Tok) (s : Shared) (Q : Value → Shared → Prop) (E : Value → Shared → Prop), Q (.int (g i j) s.toks) { s with toks := s.toks + 1 } → wpAny (model X.prog X.w) X.A (f (.int i t) (.int j u)) Q E s) :
    OpR X f (rI0 fun i j => .int (g i j)) := by
  intro pins s σ H x y v u Q I rx ry h
  obtain ⟨i, j, rfl, rfl, q⟩ := h
  obtain ⟨t, rfl⟩ := rx
  obtain ⟨t', rfl⟩ := ry
  exact rule i j t t' s _ _ ⟨.int (g i j), H, I.tok _, ⟨_, rfl⟩, q⟩
theorem opB0 {f : Value → Value → Sem Value} {g : Int → Int → Bool}
    (rule : ∀ (i j : Int) (t u : Tok) (s : Shared) (Q : Value → Shared → Prop) (E : Value → Shared → Prop), Q (.bool (g i j)) s → wpAny (model X.prog X.w) X.A (f (.int i t) (.int j u)) Q E s) :
    OpR X f (rI0 fun i j => .bl (g i j)) := by
  intro pins s σ H x y v u Q I rx ry h
  obtain ⟨i, j, rfl, rfl, q⟩ := h
  obtain ⟨t, rfl⟩ := rx
  obtain ⟨t', rfl⟩ := ry
  exact rule i j t t' s _ _ ⟨.bl (g i j), H, I, rfl, q⟩

def CDiv (i j : Int) : Prop := 0 < j ∧ j < 1073741824
def CPow (i j : Int) : Prop := 0 ≤ j ∧ j ≤ 1000000 ∧ i.natAbs < 2 ^ 64
def CMul (i j : Int) : Prop := (-(2 ^ 64) < i ∧ i < 2 ^ 64) ∨ (-(2 ^ 64) < j ∧ j < 2 ^ 64)
theorem CMul.ok {i j : Int} (h : CMul i j) : IntMulOk i j := by
  rcases h with ⟨h1, h2⟩ | ⟨h1, h2⟩
  · exact .of_left (intBits_le_64 h1 h2)
  · exact .of_right (intBits_le_64 h1 h2)
theorem op_add : OpR X (binaryOp .Add) (rI0 fun i j => .int (i + j)) := opI0 fun _ _ _ _ _ _ _ q => add_int q
theorem op_sub : OpR X (binaryOp .Sub) (rI0 fun i j => .int (i - j)) := opI0 fun _ _ _ _ _ _ _ q => sub_int q
theorem op_mul : OpR X (binaryOp .Mult) (rI CMul fun i j => .int (i * j)) := opI fun _ _ _ _ _ _ _ hc q => mul_int q hc.ok
/-- // by a positive divisor -/
theorem op_fdiv : OpR X (binaryOp .FloorDiv) (rI CDiv fun i j => .int (i / j)) := opI fun i j _ _ _ _ _ hc q => by
  have h1 : (0 : Int) < j := hc.1
  have h2 : j < 1073741824 := hc.2
  exact floordiv_int (by omega) (by rw [Int.fdiv_eq_ediv_of_nonneg i (by omega)]; exact q) (.inl (PyProof.noPylong_small (by omega)))
/-- % by a positive divisor of any size -/
theorem op_mod : OpR X (binaryOp .Mod) (rI (fun _ j => 0 < j) fun i j => .int (i % j)) := opI fun i j _ _ _ _ _ hc q => by
  have h1 : (0 : Int) < j := hc
  exact mod_int' (by omega) (by rw [Int.fmod_eq_emod_of_nonneg i (by omega)]; exact q)
theorem op_shl : OpR X (binaryOp .LShift) (rI CPow fun i j => .int (i * 2 ^ j.toNat)) := opI fun _ _ _ _ _ _ _ hc q => lshift_int_small hc.1 hc.2.1 hc.2.2 q
theorem op_and : OpR X (binaryOp .BitAnd) (rI0 fun i j => .int (Builtin.bitAnd i j)) := opI0 fun _ _ _ _ _ _ _ q => and_int q
theorem op_or : OpR X (binaryOp .BitOr) (rI0 fun i j => .int (Builtin.bitOr i j)) := opI0 fun _ _ _ _ _ _ _ q => or_int q
theorem iop_or : OpR X (inplaceOp .BitOr) (rI0 fun i j => .int (Builtin.bitOr i j)) := opI0 fun _ _ _ _ _ _ _ q => ior_int q
theorem iop_xor : OpR X (inplaceOp .BitXor) (rI0 fun i j => .int (Builtin.bitXor i j)) := opI0 fun _ _ _ _ _ _ _ q => ixor_int q

theorem unI {f : Value → Sem Value} {g : Int → Int}
    (rule : ∀ (i : Int) (t : Tok) (s : Shared) (Q : Value → Shared → Prop) (E : Value → Shared → Prop), Q (.int (g i) s.toks) { s with toks := s.toks + 1 } → wpAny (model X.prog X.w) X.A (f (.int i t)) Q E s) :
    UnR X f (rU fun i => .int (g i)) := by
  intro pins s σ H x v Q I rx h
  obtain ⟨i, rfl, q⟩ := h
  obtain ⟨t, rfl⟩ := rx
  exact rule i t s _ _ ⟨.int (g i), H, I.tok _, ⟨_, rfl⟩, q⟩
theorem un_neg : UnR X (unaryOp .USub) (rU fun i => .int (-i)) := unI fun _ _ _ _ _ q => neg_int q
/-! ### bools among ints: n += (a < b) -/
end

/-! ### comparisons -/
/-- the scalars that == tells apart as data does -/
def scal : V → V → Bool
  | .non, .non => true | .non, .int _ => true | .int _, .non => true | .non, .bl _ => true | .bl _, .non => true | .non, .str _ => true | .str _, .non => true
  | .int _, .int _ => true | .bl _, .bl _ => true | .str _, .str _ => true | .byt _, .byt _ => true
  | .int _, .str _ => true | .str _, .int _ => true | .bl _, .str _ => true | .str _, .bl _ => true
  | _, _ => false
inductive REq (x y : V) (H : Hp) (Q : VK) : Prop where | mk (s : scal x y = true) (q : Q (.bl (decide (x = y))) H) : REq x y H Q
def rEq : R2 := fun x y H Q => REq x y H Q
inductive RNe (x y : V) (H : Hp) (Q : VK) : Prop where | mk (s : scal x y = true) (q : Q (.bl (!decide (x = y))) H) : RNe x y H Q
def rNe : R2 := fun x y H Q => RNe x y H Q

theorem dec_int {i j : Int} : decide (V.int i = V.int j) = (i == j) := by
  rw [Bool.eq_iff_iff]
  simp
theorem dec_bl {i j : Bool} : decide (V.bl i = V.bl j) = (i == j) := by
  rw [Bool.eq_iff_iff]
  simp
theorem dec_str {i j : Str} : decide (V.str i = V.str j) = (i == j) := by
  rw [Bool.eq_iff_iff]
  simp
theorem dec_byt {i j : Array UInt8} : decide (V.byt i = V.byt j) = (i.toList == j.toList) := by
  rw [Bool.eq_iff_iff]
  cases i
  cases j
  simp

section
variable {X : Cx} {a b c : Expr} {ta tb tc : TE} {pos : Pos}
theorem fin_bl {pins : List (Addr × Obj)} {σ : St} {H : Hp} {s : Shared} {Q : VK} {k k' : Bool} (I : Inv X pins σ H s) (q : Q (.bl k) H) (e : k = k') : EP X pins σ Q (.bool k') s := by
  subst e
  exact ⟨.bl k, H, I, rfl, q⟩
theorem op_eq : OpR X (compareOp .Eq) rEq := by
  intro pins s σ H x y v u Q I rx ry h
  obtain ⟨hs, q⟩ := h
  cases x with
  | non =>
    cases rx
    cases y with
    | non => cases ry; exact PySem.EqNone.eq_none_none (fin_bl I q (by simp))
    | bl j => cases ry; exact PySem.EqNone.eq_none_bool (fin_bl I q (by simp))
    | int j => obtain ⟨t', rfl⟩ := ry; exact PySem.EqNone.eq_none_int (fin_bl I q (by simp))
    | str j => obtain ⟨t', rfl⟩ := ry; exact PySem.EqNone.eq_none_str (fin_bl I q (by simp))
    | _ => exact absurd (show false = true from hs) Bool.false_ne_true
  | bl i =>
    cases rx
    cases y with
    | non => cases ry; exact PySem.EqNone.eq_bool_none (fin_bl I q (by simp))
    | bl j => cases ry; exact eq_bool (fin_bl I q dec_bl)
    | str j => obtain ⟨t', rfl⟩ := ry; exact PySem.EqMixed.eq_bool_str (fin_bl I q (by simp))
    | _ => exact absurd (show false = true from hs) Bool.false_ne_true
  | int i =>
    obtain ⟨t, rfl⟩ := rx
    cases y with
    | non => cases ry; exact PySem.EqNone.eq_int_none (fin_bl I q (by simp))
    | int j => obtain ⟨t', rfl⟩ := ry; exact eq_int (fin_bl I q dec_int)
    | str j => obtain ⟨t', rfl⟩ := ry; exact PySem.EqMixed.eq_int_str (fin_bl I q (by simp))
    | _ => exact absurd (show false = true from hs) Bool.false_ne_true
  | str i =>
    obtain ⟨t, rfl⟩ := rx
    cases y with
    | non => cases ry; exact PySem.EqNone.eq_str_none (fin_bl I q (by simp))
    | bl j => cases ry; exact PySem.EqMixed.eq_str_bool (fin_bl I q (by simp))
    | int j => obtain ⟨t', rfl⟩ := ry; exact PySem.EqMixed.eq_str_int (fin_bl I q (by simp))
    | str j => obtain ⟨t', rfl⟩ := ry; exact eq_str (fin_bl I q dec_str)
    | _ => exact absurd (show false = true from hs) Bool.false_ne_true
  | byt i =>
    obtain ⟨t, rfl⟩ := rx
    cases y with
    | byt j => obtain ⟨t', rfl⟩ := ry; exact PySem.W.eq_bytes (fin_bl I q dec_byt)
    | _ => exact absurd (show false = true from hs) Bool.false_ne_true
  | _ => cases y <;> exact absurd (show false = true from hs) Bool.false_ne_true
theorem op_ne : OpR X (compareOp .NotEq) rNe := by
  intro pins s σ H x y v u Q I rx ry h
  obtain ⟨hs, q⟩ := h
  cases x with
  | non =>
    cases rx
    cases y with
    | non => cases ry; exact PySem.EqNone.ne_none_none (fin_bl I q (by simp))
    | bl j => cases ry; exact PySem.EqNone.ne_none_bool (fin_bl I q (by simp))
    | int j => obtain ⟨t', rfl⟩ := ry; exact PySem.EqNone.ne_none_int (fin_bl I q (by simp))
    | str j => obtain ⟨t', rfl⟩ := ry; exact PySem.EqNone.ne_none_str (fin_bl I q (by simp))
    | _ => exact absurd (show false = true from hs) Bool.false_ne_true
  | bl i =>
    cases rx
    cases y with
    | non => cases ry; exact PySem.EqNone.ne_bool_none (fin_bl I q (by simp))
    | bl j => cases ry; exact ne_bool (fin_bl I q (congrArg not dec_bl))
    | str j => obtain ⟨t', rfl⟩ := ry; exact PySem.EqMixed.ne_bool_str (fin_bl I q (by simp))
    | _ => exact absurd (show false = true from hs) Bool.false_ne_true
  | int i =>
    obtain ⟨t, rfl⟩ := rx
    cases y with
    | non => cases ry; exact PySem.EqNone.ne_int_none (fin_bl I q (by simp))
    | int j => obtain ⟨t', rfl⟩ := ry; exact ne_int (fin_bl I q (congrArg not dec_int))
    | str j => obtain ⟨t', rfl⟩ := ry; exact PySem.EqMixed.ne_int_str (fin_bl I q (by simp))
    | _ => exact absurd (show false = true from hs) Bool.false_ne_true
  | str i =>
    obtain ⟨t, rfl⟩ := rx
    cases y with
    | non => cases ry; exact PySem.EqNone.ne_str_none (fin_bl I q (by simp))
    | bl j => cases ry; exact PySem.EqMixed.ne_str_bool (fin_bl I q (by simp))
    | int j => obtain ⟨t', rfl⟩ := ry; exact PySem.EqMixed.ne_str_int (fin_bl I q (by simp))
    | str j => obtain ⟨t', rfl⟩ := ry; exact ne_str (fin_bl I q (congrArg not dec_str))
    | _ => exact absurd (show false = true from hs) Bool.false_ne_true
  | byt i =>
    obtain ⟨t, rfl⟩ := rx
    cases y with
    | byt j => obtain ⟨t', rfl⟩ := ry; exact PySem.W.ne_bytes (fin_bl I q (congrArg not dec_byt))
    | _ => exact absurd (show false = true from hs) Bool.false_ne_true
  | _ => cases y <;> exact absurd (show false = true from hs) Bool.false_ne_true

theorem op_lt : OpR X (compareOp .Lt) (rI0 fun i j => .bl (decide (i < j))) := opB0 fun _ _ _ _ _ _ _ q => lt_int q
theorem op_gt : OpR X (compareOp .Gt) (rI0 fun i j => .bl (decide (j < i))) := opB0 fun _ _ _ _ _ _ _ q => gt_int q
theorem op_ge : OpR X (compareOp .GtE) (rI0 fun i j => .bl (decide (j ≤ i))) := opB0 fun _ _ _ _ _ _ _ q => ge_int q
theorem nomark (b : Expr) {op : CmpOp} (h : op ≠ .In := by decide) (h2 : op ≠ .NotIn := by decide) : behindInMarks op b = false := by
  have e1 : (op == CmpOp.In) = false := by cases op <;> first | rfl | exact absurd rfl h
  have e2 : (op == CmpOp.NotIn) = false := by cases op <;> first | rfl | exact absurd rfl h2
  cases b <;> simp [behindInMarks, e1, e2]
/-- a comparison as a value; hm: nomark b, or (for in, not in) by with_unfolding_all rfl -/
theorem pe_cmpR {op : CmpOp} {r : R2} (ho : OpR X (compareOp op) r) (ha : PE X a ta) (hb : PE X b tb) (hm : behindInMarks op b = false) : PE X (.Compare a [op] [b] pos) (tOp r ta tb) := by
  intro pins s σ H Q I h
  exact wpAny_Compare1 (binT ha hb I h fun v u s2 x y H2 I2 rx ry q => ho pins s2 σ H2 x y v u Q I2 rx ry q) hm
/-- a reading of a value as a test -/
def tTest (t : TE) : TT := fun σ H Q => t σ H fun x H' => IsBl x H' Q
theorem pt_cmpR {op : CmpOp} {r : R2} (ho : OpR X (compareOp op) r) (ha : PE X a ta) (hb : PE X b tb) (hm : behindInMarks op b = false) : PT X (.Compare a [op] [b] pos) (tTest (tOp r ta tb)) := by
  intro pins s σ H Q I h
  refine wpAny_isTrue_Compare1 (thn (ha pins s σ H _ I h) fun v s1 ⟨x, H1, I1, r1, q1⟩ => thn (hb pins s1 σ H1 _ I1 q1) fun u s2 ⟨y, H2, I2, r2, q2⟩ =>
    thn (ho pins s2 σ H2 x y v u _ I2 r1 r2 q2) fun c s3 ⟨z, H3, I3, r3, k, e, q3⟩ => ?_) hm
  subst e
  cases r3
  exact wpAny_truthy_bool ⟨H3, I3, q3⟩
/-! ### truth -/
theorem line63 : (sizeLine : Nat) < 2 ^ 63 := by rw [sizeLine_eq]; decide
/-! ### strs and bytes -/
/-! ### scalar builtins, by CallR -/
theorem vals1 {x : V} {us : List Value} (r : Vals [x] us) : ∃ u, us = [u] ∧ RelV x u := by
  cases r with
  | cons r1 r2 => cases r2; exact ⟨_, rfl, r1⟩
theorem vals2 {x y : V} {us : List Value} (r : Vals [x, y] us) : ∃ u w', us = [u, w'] ∧ RelV x u ∧ RelV y w' := by
  cases r with
  | cons r1 r2 =>
    cases r2 with
    | cons r3 r4 => cases r4; exact ⟨_, _, rfl, r1, r3⟩
theorem call_max2 (hc : X.calm = true) : CallR X (.builtin "max") (fun xs H Q => ∃ i j, xs = [.int i, .int j] ∧ Q (.int (if j > i then j else i)) H) := by
  intro pins s σ H xs us Q I r h
  obtain ⟨i, j, rfl, q⟩ := h
  obtain ⟨u, w', rfl, ⟨t, rfl⟩, ⟨t', rfl⟩⟩ := vals2 r
  refine max_two_ints (I.ok.hd hc) fun h' tk k => ⟨_, H, I.kept k, ?_, q⟩
  by_cases hj : j > i
  · rw [if_pos hj, if_pos hj]; exact ⟨_, rfl⟩
  · rw [if_neg hj, if_neg hj]; exact ⟨_, rfl⟩
theorem call_int1 : CallR X (.type "int") (fun xs H Q => (∃ i, xs = [.int i] ∧ Q (.int i) H) ∨ ∃ k, xs = [.bl k] ∧ Q (.int (if k then 1 else 0)) H) := by
  intro pins s σ H xs us Q I r h
  rcases h with ⟨i, rfl, q⟩ | ⟨k, rfl, q⟩
  · obtain ⟨u, rfl, t, rfl⟩ := vals1 r
    exact call_int_int ⟨.int i, H, I, ⟨_, rfl⟩, q⟩
  · obtain ⟨u, rfl, r1⟩ := vals1 r
    cases r1
    exact call_int_bool ⟨.int (if k then 1 else 0), H, I.tok _, ⟨_, rfl⟩, q⟩
end
end L2

namespace L2
open PySem PySem.Spec PyProof.Rows

/-! ### an instance, its attributes a map -/
structure ObjM (h : Heap) (x dx C : Addr) (mA : Str → Option Value) : Prop where
  obj : h.get? x = some (PySem.W.instObj C dx)
  ns : h.Ns1 dx mA
  ne : dx ≠ x

theorem lookIn_ns {h : Heap} {dx : Addr} {mA : Str → Option Value} (n : h.Ns1 dx mA) : ∃ od, h.get? dx = some od ∧ ∀ name, PySem.W.lookIn name od = some (mA name) := by
  obtain ⟨o, es, ep, ho, hd, hk, _, hm⟩ := n
  refine ⟨o, ho, fun name => ?_⟩
  have e := hm name
  unfold nsFind findBy at e
  rw [← Array.find?_toList] at e
  unfold PySem.W.lookIn
  rw [hd]
  dsimp only
  split
  · rename_i y q
    rw [q] at e
    exact congrArg some e
  · rename_i q
    rw [q] at e
    have a : es.toList.any (·.refKey) = false := by
      rw [List.any_eq_false]
      intro y hy
      obtain ⟨z, t, hkey⟩ := hk y (Array.mem_toList_iff.mp hy)
      simp [DictEntry.refKey, hkey]
    have a' : ¬ es.toList.any (·.refKey) = true := by rw [a]; exact Bool.false_ne_true
    rw [if_neg a']
    exact congrArg some e

theorem ObjM.look {h : Heap} {x dx C : Addr} {mA : Str → Option Value} (I : ObjM h x dx C mA) : ∃ od, PySem.W.InstAt h x (PySem.W.instObj C dx) C (some od) ∧ ∀ name, PySem.W.lookIn name od = some (mA name) :=
  let ⟨od, ho, hl⟩ := lookIn_ns I.ns
  ⟨od, ⟨I.obj, rfl, rfl, ho⟩, hl⟩

section
variable {prog : Program} {w : World} {A : Around} {E : Value → Shared → Prop} {s : Shared} {K : PySem.W.Frag} {x dx C f : Addr} {mA : Str → Option Value} {name : Str} {v : Value}

theorem get_map {expr : Bool} {Q : Value → Shared → Prop} (X : K.In s.heap) (I : ObjM s.heap x dx C mA) (hg : PySem.W.plainGet K C name = true) (hh : PySem.W.hasDictIn K C = true)
    (ha : PySem.W.findIn K (.ref C) name = some none) (hv : mA name = some v) (hv' : PySem.W.handedIn v = true) (h : Q v { s with toks := s.toks + 1 }) :
    wpAny (model prog w) A (getAttr (.ref x) name expr) Q E s := by
  obtain ⟨od, J, hl⟩ := I.look
  exact PySem.W.get_value X J (PySem.W.plainGet_of hg).1 (PySem.W.findObj_own hh ha rfl (by rw [hl, hv])) hv' h

theorem get_meth {pl : Sem Bool} {Q : Value × List Value → Shared → Prop} (X : K.In s.heap) (I : ObjM s.heap x dx C mA) (hg : PySem.W.plainGet K C name = true)
    (hf : PySem.W.findIn K (.ref C) name = some (some (.ref f))) (ht : PySem.W.isFn K (.ref f) = true) (hv : mA name = none) (h : Q (.ref f, [.ref x]) s) :
    wpAny (model prog w) A (getMethod (.ref x) name pl) Q E s := by
  obtain ⟨od, J, hl⟩ := I.look
  exact PySem.W.method_fn X J (PySem.W.plainGet_of hg).1 (PySem.W.plainGet_of hg).2 hf (beq_iff_eq.mp ht) (by show (PySem.W.lookIn name od).map (·.isSome) = some false; rw [hl, hv]; rfl) h

theorem set_map {ns : List Str} {Q : Unit → Shared → Prop} (X : K.In s.heap) (I : ObjM s.heap x dx C mA)
    (hs : PySem.W.findIn K (.ref C) "__setattr__" = some (some (.builtin "object.__setattr__"))) (hp : PySem.W.plainOver K C = true) (ht : PySem.W.takerIn K C name = some none) (hh : PySem.W.hasDictIn K C = true)
    (hw : PySem.Within mA ns) (hsz : ns.length ≤ sizeLine)
    (h : ∀ h', ObjM h' x dx C (fun y => if y = name then some v else mA y) → Heap.SameBut dx s.heap h' → Q () { s with heap := h', toks := s.toks + 2 }) :
    wpAny (model prog w) A (setAttr (.ref x) name v) Q E s := by
  obtain ⟨od, J, hl⟩ := I.look
  refine PySem.W.set_plain X J hs (PySem.W.osa_open (s := { s with toks := s.toks + 1 }) (r := none) X J hp ht fun b => ?_)
  obtain ⟨cd, hc, hd'⟩ := PySem.W.any_some hh
  have hx : s.heap.get? x = some ⟨.ref C, some dx, .plain, #[]⟩ := I.obj
  refine wpAny_bind (wpAny_pure (wpAny_bind (wpAny_bind (wpAny_loadPart hx (wpAny_bind (PySem.W.Looks.here (s := { s with toks := s.toks + 1 }) (PySem.W.looks_clsIn X hc) ?_))))))
  rw [hd']
  refine wpAny_pure (a := some dx) (wpAny_bind (wpAny_pure (wpAny_bind ?_)))
  refine wpAny_nsSet1 (s := { s with toks := s.toks + 1 }) I.ns fun h' hn2 hs2 => ?_
  obtain ⟨oD, esD, epD, hoD, hdD, hcD⟩ := hn2.count (PySem.Within.cons name v hw)
  refine wpAny_bind (wpAny_lookBehind hoD (by rw [hdD]; exact pastItsLine_dict (Nat.le_trans hcD (by rw [List.length_cons]; omega))) ?_)
  exact wpAny_pure (h _ ⟨(hs2.2 _ (Ne.symm I.ne)).trans I.obj, hn2, I.ne⟩ hs2)

/-- C(..): the dict at the heap's end, the instance behind it; then its __init__ -/
theorem make_map {R : Result → Shared → Prop} {vs : List Value} {kw : List (Str × Value)} (X : K.In s.heap) (hm : PySem.W.makesIn K C = true)
    (hi : PySem.W.findIn K (.ref C) "__init__" = some (some (.ref f))) (hf : PySem.W.typeIn K (.ref f) = some (.type "function"))
    (h : codeAny (model prog w) (A.under (.builtin "type.__call__" ⟨.ref C :: vs, kw⟩)) (.call (.ref f) ⟨.ref (s.heap.objs.size + 1) :: vs, kw⟩) (PySem.W.InitBack (s.heap.objs.size + 1) R)
      { s with heap := (s.heap.push PySem.W.emptyDict).push (PySem.W.instObj C s.heap.objs.size) }) :
    codeAny (model prog w) A (.call (.ref C) ⟨vs, kw⟩) R s := by
  obtain ⟨hh, g, d, t, os⟩ := s
  exact PySem.W.make_core (PySem.W.makes_of X hm) (PySem.W.looks_findIn X hi) (fun self => PySem.W.bind_fn X self hf) (.inl rfl) h
end

/-! ### the attributes as a list of pairs -/
def putF (f : Str) (v : V) : List (Str × V) → List (Str × V)
  | [] => [(f, v)]
  | (g, x) :: r => if g = f then (g, v) :: r else (g, x) :: putF f v r
theorem lookup_putF (f g : Str) (v : V) : ∀ fs : List (Str × V), (putF f v fs).lookup g = if g = f then some v else fs.lookup g
  | [] => by
    show List.lookup g [(f, v)] = _
    by_cases h : g = f
    · have hb : (g == f) = true := beq_iff_eq.mpr h
      simp only [List.lookup, hb, if_pos h]
    · have hb : (g == f) = false := beq_eq_false_iff_ne.mpr h
      simp only [List.lookup, hb, if_neg h]
  | (k, x) :: r => by
    have ih := lookup_putF f g v r
    rw [show putF f v ((k, x) :: r) = (if k = f then (k, v) :: r else (k, x) :: putF f v r) from rfl]
    by_cases hk : k = f
    · rw [if_pos hk]
      by_cases h : g = k
      · have hb : (g == k) = true := beq_iff_eq.mpr h
        simp only [List.lookup, hb, if_pos (h.trans hk)]
      · have hb : (g == k) = false := beq_eq_false_iff_ne.mpr h
        simp only [List.lookup, hb, if_neg (fun e : g = f => h (e.trans hk.symm))]
    · rw [if_neg hk]
      by_cases h : g = k
      · have hb : (g == k) = true := beq_iff_eq.mpr h
        simp only [List.lookup, hb, if_neg (fun e : g = f => hk (h.symm.trans e))]
      · have hb : (g == k) = false := beq_eq_false_iff_ne.mpr h
        simp only [List.lookup, hb]
        exact ih
theorem keys_putF (f : Str) (v : V) : ∀ fs : List (Str × V), f ∈ (putF f v fs).map (·.1) ∧ ∀ g, g ∈ fs.map (·.1) → g ∈ (putF f v fs).map (·.1)
  | [] => ⟨by simp [putF], fun g h => by simp at h⟩
  | (k, x) :: r => by
    obtain ⟨i1, i2⟩ := keys_putF f v r
    rw [show putF f v ((k, x) :: r) = (if k = f then (k, v) :: r else (k, x) :: putF f v r) from rfl]
    by_cases hk : k = f
    · rw [if_pos hk]
      subst hk
      exact ⟨by simp, fun g h => by simpa using h⟩
    · rw [if_neg hk]
      refine ⟨?_, fun g h => ?_⟩
      · rw [List.map_cons]
        exact List.mem_cons_of_mem _ i1
      · rw [List.map_cons] at h ⊢
        rcases List.mem_cons.mp h with e | e
        · exact List.mem_cons.mpr (.inl e)
        · exact List.mem_cons_of_mem _ (i2 g e)
theorem length_putF (f : Str) (v : V) : ∀ fs : List (Str × V), (putF f v fs).length ≤ fs.length + 1
  | [] => by simp [putF]
  | (k, x) :: r => by
    have ih := length_putF f v r
    rw [show putF f v ((k, x) :: r) = (if k = f then (k, v) :: r else (k, x) :: putF f v r) from rfl]
    by_cases hk : k = f
    · rw [if_pos hk, List.length_cons, List.length_cons]; omega
    · rw [if_neg hk, List.length_cons, List.length_cons]; omega

theorem RelO.some_of {v : V} {o : Option Value} (r : RelO (some v) o) : ∃ u, o = some u ∧ RelV v u := by
  cases o with
  | none => exact (show False from r).elim
  | some u => exact ⟨u, rfl, r⟩
theorem RelO.none_of {o : Option Value} (r : RelO none o) : o = none := by
  cases o with
  | none => rfl
  | some u => exact (show False from r).elim
theorem handed_of {v : V} {u : Value} (r : RelV v u) : PySem.W.handedIn u = true := by
  cases v with
  | non => cases (show u = Value.none from r); rfl
  | bl b => cases (show u = Value.bool b from r); rfl
  | int i => obtain ⟨t, e⟩ := (show ∃ t, u = Value.int i t from r); cases e; rfl
  | str x => obtain ⟨t, e⟩ := (show ∃ t, u = Value.str x t from r); cases e; rfl
  | byt b => obtain ⟨t, e⟩ := (show ∃ t, u = Value.bytes b t from r); cases e; rfl
  | flt b => obtain ⟨t, e⟩ := (show ∃ t, u = Value.float b t from r); cases e; rfl
  | ref a => cases (show u = Value.ref a from r); rfl
  | ty n => cases (show u = Value.type n from r); rfl

section
variable {P : Program} {w : World} {H H' : Hp} {h h' : Heap} {a C dx : Addr} {fs fs' : List (Str × V)}
theorem ins_get (hok : HOk P w H h) (e : H a = some (.ins C dx fs)) : ∃ mA, ObjM h a dx C mA ∧ (∀ f, RelO (fs.lookup f) (mA f)) ∧ PySem.Within mA (fs.map (·.1)) ∧ fs.length ≤ 1000 ∧ H dx = some (.own a) := by
  obtain ⟨d, z, ne, ob, mA, n, r, q⟩ := (show ObjOk P w H h a (.ins C dx fs) from hok a _ e)
  exact ⟨mA, ⟨ob, n, ne⟩, r, q, z, d⟩
end

/-! ### what of the text a class must have -/
structure Cls (K : PySem.W.Frag) (C : Addr) : Prop where
  pg : PySem.W.plainGet K C Str.empty = true
  hd : PySem.W.hasDictIn K C = true
  po : PySem.W.plainOver K C = true
  sa : PySem.W.findIn K (.ref C) "__setattr__" = some (some (.builtin "object.__setattr__"))
theorem Cls.get {K : PySem.W.Frag} {C : Addr} (c : Cls K C) (f : Str) : PySem.W.plainGet K C f = true := c.pg
/-- no class of it has the name -/
def NoAttr (K : PySem.W.Frag) (C : Addr) (f : Str) : Prop := PySem.W.findIn K (.ref C) f = some none
theorem NoAttr.taker {K : PySem.W.Frag} {C : Addr} {f : Str} (n : NoAttr K C f) : PySem.W.takerIn K C f = some none := by
  unfold PySem.W.takerIn
  rw [show PySem.W.findIn K (.ref C) f = some none from n]
  rfl
/-- a method: a plain def of the class or of one above it -/
structure Meth (K : PySem.W.Frag) (C : Addr) (m : Str) (f : Addr) : Prop where
  at_ : PySem.W.findIn K (.ref C) m = some (some (.ref f))
  fn : PySem.W.isFn K (.ref f) = true
  kp : PySem.W.keepIn K (.ref f) = true

section
variable {X : Cx} {pins : List (Addr × Obj)} {σ : St} {H : Hp} {s : Shared} {a C dx : Addr} {fs : List (Str × V)} {f : Str} {v : V} {A : Around} {E : Value → Shared → Prop}

theorem getattr_ok {b : Bool} {Q : Value → Shared → Prop} (I : Inv X pins σ H s) (e : H a = some (.ins C dx fs)) (c : Cls X.K C) (n : NoAttr X.K C f) (l : fs.lookup f = some v)
    (h : ∀ u s', Inv X pins σ H s' → RelV v u → Q u s') : wpAny (model X.prog X.w) A (getAttr (.ref a) f b) Q E s := by
  obtain ⟨mA, O, r, _, _, _⟩ := ins_get I.hok e
  obtain ⟨u, hu, ru⟩ := RelO.some_of (v := v) (o := mA f) (by rw [← l]; exact r f)
  exact get_map I.kIn O (c.get f) c.hd n hu (handed_of ru) (h u _ (I.tok _) ru)

theorem getmeth_ok {m : Str} {g : Addr} {pl : Sem Bool} {Q : Value × List Value → Shared → Prop} (I : Inv X pins σ H s) (e : H a = some (.ins C dx fs)) (c : Cls X.K C) (k : Meth X.K C m g) (l : fs.lookup m = none)
    (h : Q (.ref g, [.ref a]) s) : wpAny (model X.prog X.w) A (getMethod (.ref a) m pl) Q E s := by
  obtain ⟨mA, O, r, _, _, _⟩ := ins_get I.hok e
  have hn : mA m = none := RelO.none_of (by rw [← l]; exact r m)
  exact get_meth I.kIn O (c.get m) k.at_ k.fn hn h

theorem setattr_ok {y : V} {u : Value} {Q : Unit → Shared → Prop} (I : Inv X pins σ H s) (e : H a = some (.ins C dx fs)) (c : Cls X.K C) (n : NoAttr X.K C f) (hl : fs.length < 1000) (ry : RelV y u)
    (h : ∀ s', Inv X pins σ (upd H a (.ins C dx (putF f y fs))) s' → Q () s') : wpAny (model X.prog X.w) A (setAttr (.ref a) f u) Q E s := by
  obtain ⟨mA, O, r, wi, _, ho⟩ := ins_get I.hok e
  have hz : (fs.map (·.1)).length ≤ sizeLine := by rw [List.length_map, sizeLine_eq]; omega
  refine set_map I.kIn O c.sa c.po n.taker c.hd wi hz fun h' O' sb => h _ ?_
  have hd : ∃ o, h'.get? dx = some o := let ⟨o, _, _, e', _⟩ := O'.ns; ⟨o, e'⟩
  refine I.write (x := a) (e := dx) (by rw [e]; exact True.intro) (.inr ho) (fun b q hb z => (sb.2 b hb).trans z) hd ?_
  refine ⟨by rw [upd_ne O.ne]; exact ho, ?_, O.ne, O'.obj, _, O'.ns, fun g => ?_, fun g hg => ?_⟩
  · have := length_putF f y fs; omega
  · show RelO ((putF f y fs).lookup g) (if g = f then some u else mA g)
    rw [lookup_putF]
    by_cases q : g = f
    · rw [if_pos q, if_pos q]; exact ry
    · rw [if_neg q, if_neg q]; exact r g
  · by_cases q : g = f
    · rw [q]; exact (keys_putF f y fs).1
    · refine (keys_putF f y fs).2 g (wi g fun z => hg ?_)
      show (if g = f then some u else mA g) = none
      rw [if_neg q]; exact z

/-- a new instance, tracked, without attributes -/
theorem Inv.made (I : Inv X pins σ H s) : Inv X pins σ (upd (upd H s.heap.objs.size (.own (s.heap.objs.size + 1))) (s.heap.objs.size + 1) (.ins C s.heap.objs.size []))
    { s with heap := (s.heap.push PySem.W.emptyDict).push (PySem.W.instObj C s.heap.objs.size) } := by
  have e1 : (s.heap.push PySem.W.emptyDict).get? s.heap.objs.size = some PySem.W.emptyDict := Heap.get?_push_size s.heap rfl
  have e2 : ((s.heap.push PySem.W.emptyDict).push (PySem.W.instObj C s.heap.objs.size)).get? (s.heap.objs.size + 1) = some (PySem.W.instObj C s.heap.objs.size) := by
    have := Heap.get?_push_size (s.heap.push PySem.W.emptyDict) (o := PySem.W.instObj C s.heap.objs.size) rfl
    rwa [Heap.size_push] at this
  have e3 : (s.heap.push PySem.W.emptyDict).Ns s.heap.objs.size (fun _ => none) := ⟨PySem.W.emptyDict, #[], _, e1, rfl, (fun e he => absurd he (by simp)), fun _ => rfl⟩
  have I1 := I.laid (a := s.heap.objs.size) (o := .own (s.heap.objs.size + 1)) (h' := s.heap.push PySem.W.emptyDict) (t' := s.toks) (fun b u q => Heap.get?_push_of_some _ q) (Nat.le_refl _) ⟨_, e1⟩
  refine I1.laid (a := s.heap.objs.size + 1) (o := .ins C s.heap.objs.size []) (t' := s.toks) (fun b u q => Heap.get?_push_of_some _ q) (Nat.le_of_eq (Heap.size_push _ _)) ?_
  have ne : s.heap.objs.size ≠ s.heap.objs.size + 1 := Nat.ne_of_lt (Nat.lt_succ_self _)
  refine ⟨by rw [upd_ne ne, upd_same], Nat.zero_le _, ne, e2, fun _ => none, (Heap.Ns1.of_empty e3).at fun o q => Heap.get?_push_of_some _ q, fun _ => True.intro, fun y hy => absurd rfl hy⟩

/-- e.f where nothing but the object is asked: through attributeBase (super) and the last hold -/
theorem attr_of {prog : Program} {w : World} {env : Env} {e : Expr} {f : Str} {pos : Pos} {s : Shared} {Q : Value → Shared → Prop} (hb : attributeBase e f env (eval e env) = eval e env)
    (h : wpAny (model prog w) A (eval e env) (fun o s₁ => wpAny (model prog w) A (getAttr o f true) Q E s₁) E s) : wpAny (model prog w) A (eval (.Attribute e f pos) env) Q E s :=
  Attribute_any_ h (by rw [arm_eval_Attribute, hb])
end

/-! ### readings and rules -/
/-- e.f, an attribute of the instance -/
inductive RFld (K : PySem.W.Frag) (f : Str) (x : V) (H : Hp) (Q : VK) : Prop where | mk (a C dx : Addr) (fs : List (Str × V)) (v : V) (ex : x = .ref a) (hx : H a = some (.ins C dx fs)) (hc : Cls K C) (hn : NoAttr K C f) (hl : fs.lookup f = some v) (q : Q v H) : RFld K f x H Q
def tFld (K : PySem.W.Frag) (ta : TE) (f : Str) : TE := fun σ H Q => ta σ H fun x H1 => RFld K f x H1 Q
/-- e.f = value -/
def sFld (K : PySem.W.Frag) (ta tv : TE) (f : Str) : TS := fun D σ H => tv σ H fun y H1 => ta σ H1 fun x H2 => ∃ a C dx fs, x = .ref a ∧ H2 a = some (.ins C dx fs) ∧ Cls K C ∧ NoAttr K C f ∧ fs.length < 1000 ∧
  D.nx σ (upd H2 a (.ins C dx (putF f y fs)))
section
variable {X : Cx} {o e value : Expr} {f : Str} {pos pos' tpos : Pos} {ta tv : TE}
theorem pe_fld (he : PE X e ta) (hb : attributeBase e f X.env (eval e X.env) = eval e X.env) : PE X (.Attribute e f pos) (tFld X.K ta f) := by
  intro pins s σ H Q I h
  refine attr_of hb (thn (he pins s σ H _ I h) fun u s1 ⟨x, H1, I1, rx, a, C, dx, fs, v, ex, ea, c, n, l, q⟩ => ?_)
  subst ex
  obtain rfl : u = Value.ref a := rx
  exact getattr_ok I1 ea c n l fun u' s2 I2 ru => ⟨v, H1, I2, ru, q⟩
theorem ps_fld (ha : PE X o ta) (hv : PE X value tv) (hs : swapsWith value (some (.Attribute o f pos')) pos.line X.env = pure false) : PS X (.Assign [.Attribute o f pos'] value pos) (sFld X.K ta tv f) := by
  intro pins s σ H D I h
  refine plainObj_wpAny_Assign_Attribute (thn (hv pins s σ H _ I h) fun u s1 ⟨y, H1, I1, ry, q⟩ => thn (ha pins s1 σ H1 _ I1 q) fun ov s2 ⟨x, H2, I2, rx, a, C, dx, fs, ex, ea, c, n, l, q2⟩ => ?_) hs
  subst ex
  obtain rfl : ov = Value.ref a := rx
  exact setattr_ok I2 ea c n l ry fun s3 I3 => ⟨σ, _, I3, q2⟩
/-- what is between an instance and its method: the tree of a method call -/
theorem methcall_of {pl : Sem Bool} {m : Str} {apos : Pos} {args : List Expr} {pins : List (Addr × Obj)} {s : Shared} {σ : St} {H : Hp} {Q : Value → Shared → Prop} {te : TE} (he : PE X e te) (I : Inv X pins σ H s)
    (h : te σ H fun x H1 => ∃ a C dx fs g, x = .ref a ∧ H1 a = some (.ins C dx fs) ∧ Cls X.K C ∧ Meth X.K C m g ∧ fs.lookup m = none ∧
      ∀ s1, Inv X pins σ H1 s1 → wpAny (model X.prog X.w) X.A (callWith pos (.ref g) [.ref a] (backTo pos (starEach args X.env)) (backToKw pos (keywordEach [] X.env))) Q X.xe s1)
    (ht : eval (.Call (.Attribute e m apos) args [] pos) X.env = (do
      let ov ← eval e X.env
      standAt apos.atName
      let (f, first) ← holding [ov] (getMethod ov m pl)
      callWith pos f first (backTo pos (starEach args X.env)) (backToKw pos (keywordEach [] X.env)))) :
    wpAny (model X.prog X.w) X.A (eval (.Call (.Attribute e m apos) args [] pos) X.env) Q X.xe s := by
  refine PySem.W.methodCall_KW (pl := pl) (thn (he pins s σ H _ I h) fun u s1 ⟨x, H1, I1, rx, a, C, dx, fs, g, ex, ea, c, k, l, q⟩ => ?_) ht
  subst ex
  obtain rfl : u = Value.ref a := rx
  exact getmeth_ok I1 ea c k l (q s1 I1)
end

/-! ### isinstance -/
section
variable {X : Cx} {pins : List (Addr × Obj)} {σ : St} {H : Hp} {s : Shared} {A : Around} {E : Value → Shared → Prop} {Q : Value → Shared → Prop} {c : Value} {b : Bool}
/-- the type of a value, as the fragment's deciders take it; for an instance its class -/
inductive TyOf (K : PySem.W.Frag) (H : Hp) : V → Value → Prop where
  | non : TyOf K H .non (.type "NoneType")
  | bl (x : Bool) : TyOf K H (.bl x) (.type "bool")
  | int (i : Int) : TyOf K H (.int i) (.type "int")
  | str (x : Str) : TyOf K H (.str x) (.type "str")
  | flt (x : UInt64) : TyOf K H (.flt x) (.type "float")
  | lst {a : Addr} {xs : List V} (e : H a = some (.lst xs)) : TyOf K H (.ref a) (.type "list")
  | frz {a : Addr} {o : Obj} {xs : List V} (e : H a = some (.frz o (.lst xs))) : TyOf K H (.ref a) (.type "list")
  | tup {a : Addr} {xs : List V} (e : H a = some (.tup xs)) : TyOf K H (.ref a) (.type "tuple")
  | dK {a : Addr} {kvs : List (Key × V)} (e : H a = some (.dK kvs)) : TyOf K H (.ref a) (.type "dict")
  | dT {a : Addr} {kvs : List (List Key × V)} (e : H a = some (.dT kvs)) : TyOf K H (.ref a) (.type "dict")
  | ins {a C dx : Addr} {fs : List (Str × V)} (e : H a = some (.ins C dx fs)) (cl : Cls K C) (ha : PySem.W.findIn K (.ref C) "__class__" = some (some (.builtin "object.__class__")))
      (hn : PySem.W.specialIn K (.builtin "object.__class__") "__get__" = some (some (.builtin "getset_descriptor.__get__"))) (htk : PySem.W.takesIn K (.builtin "object.__class__") = some true)
      (hm : PySem.W.mroIn K C (.type "object") = some true) : TyOf K H (.ref a) (.ref C)
/-- isinstance(x, c) for one class c, a built-in or an own one: kitOne's answer -/
theorem isinst_ok {x : V} {u t : Value} (I : Inv X pins σ H s) (rx : RelV x u) (ty : TyOf X.K H x t) (e : PySem.W.kitOne X.K t c = some b) (h : ∀ tk, Q (.bool b) { s with toks := tk }) :
    wpAny (model X.prog X.w) A (call (.builtin "isinstance") [u, c]) Q E s := by
  cases ty with
  | non => cases (show u = Value.none from rx); exact PySem.W.kia_one PySem.W.kitx_none I.kIn True.intro e (fun z => nomatch z) h
  | bl y => cases (show u = Value.bool y from rx); exact PySem.W.kia_one PySem.W.kitx_bool I.kIn True.intro e (fun z => nomatch z) h
  | int i => obtain ⟨t, q⟩ := (show ∃ t, u = Value.int i t from rx); cases q; exact PySem.W.kia_one PySem.W.kitx_int I.kIn True.intro e (fun z => nomatch z) h
  | str y => obtain ⟨t, q⟩ := (show ∃ t, u = Value.str y t from rx); cases q; exact PySem.W.kia_one PySem.W.kitx_str I.kIn True.intro e (fun z => nomatch z) h
  | flt y => obtain ⟨t, q⟩ := (show ∃ t, u = Value.float y t from rx); cases q; exact PySem.W.kia_one PySem.W.kitx_float I.kIn True.intro e (fun z => nomatch z) h
  | @lst a xs ea =>
    cases (show u = Value.ref a from rx)
    obtain ⟨_, _, n, _, h1⟩ := (show ObjOk X.prog X.w H s.heap a (.lst xs) from I.hok a _ ea)
    exact PySem.W.kia_one PySem.W.kitx_list I.kIn ⟨_, h1, rfl⟩ e (fun z => nomatch z) h
  | @frz a ob xs ea =>
    cases (show u = Value.ref a from rx)
    obtain ⟨_, _, _, n, _, h1⟩ := (show ObjOk X.prog X.w H s.heap a (.frz ob (.lst xs)) from I.hok a _ ea)
    exact PySem.W.kia_one PySem.W.kitx_list I.kIn ⟨_, h1, rfl⟩ e (fun z => nomatch z) h
  | @tup a xs ea =>
    cases (show u = Value.ref a from rx)
    obtain ⟨_, _, _, p⟩ := (show ObjOk X.prog X.w H s.heap a (.tup xs) from I.hok a _ ea)
    obtain ⟨o, h1, h2, _⟩ := p
    exact PySem.W.kia_one PySem.W.kitx_tuple I.kIn ⟨o, h1, h2⟩ e (fun z => nomatch z) h
  | @dK a kvs ea =>
    cases (show u = Value.ref a from rx)
    obtain ⟨_, _, vs, _, p⟩ := (show ObjOk X.prog X.w H s.heap a (.dK kvs) from I.hok a _ ea)
    obtain ⟨o, es, ep, h1, h2, _⟩ := p
    exact PySem.W.kia_one PySem.W.kitx_dict I.kIn ⟨o, h1, h2.1⟩ e (fun z => nomatch z) h
  | @dT a kvs ea =>
    cases (show u = Value.ref a from rx)
    obtain ⟨_, _, xs, _, o, es, ep, h1, h2, _⟩ := (show ObjOk X.prog X.w H s.heap a (.dT kvs) from I.hok a _ ea)
    exact PySem.W.kia_one PySem.W.kitx_dict I.kIn ⟨o, h1, h2.1⟩ e (fun z => nomatch z) h
  | @ins a C dx fs ea cl ha hn htk hm =>
    cases (show u = Value.ref a from rx)
    obtain ⟨mA, O, _⟩ := ins_get I.hok ea
    obtain ⟨od, J, _⟩ := O.look
    exact PySem.W.kia_one (PySem.W.kitx_own (cl.get _) cl.hd ha hn htk hm) I.kIn J e (fun z => nomatch z) h
end
end L2

namespace L2
open PySem PySem.Spec PyProof.Rows

/-! ### room -/
structure Room (k : Nat) (A : Around) : Prop where
  hd : A.handled = none
  dp : A.depth + 3 * k + 5 < recursionLimit
  un : A.units + 16 * k + 200 < cLine
theorem Room.mono {j k : Nat} {A : Around} (r : Room k A) (h : j ≤ k) : Room j A := ⟨r.hd, by have := r.dp; omega, by have := r.un; omega⟩
theorem Room.deeper {k : Nat} {A : Around} (r : Room (k + 1) A) (env : Env) : Room k (A.deeper env) :=
  ⟨r.hd, by have := r.dp; show A.depth + 1 + 3 * k + 5 < _; omega, by have := r.un; show A.units + 3 + 16 * k + 200 < _; omega⟩
theorem make_depth {A : Around} {C : Addr} {us : List Value} {kw : List (Str × Value)} : (A.under (.builtin "type.__call__" ⟨.ref C :: us, kw⟩)).depth = A.depth + 1 := by
  first | rfl | simp [Around.under, Code.weight, Code.isCreation, Code.isGuard, Code.isCaller, Code.frames, Code.isFrame, guardIds]
theorem make_units {A : Around} {C : Addr} {us : List Value} {kw : List (Str × Value)} : (A.under (.builtin "type.__call__" ⟨.ref C :: us, kw⟩)).units = A.units + 1 := by
  first | rfl | simp [Around.under, Code.cUnits, Code.frames, Code.isFrame]
theorem Room.make {k : Nat} {A : Around} (r : Room (k + 1) A) (C : Addr) (us : List Value) (kw : List (Str × Value)) : Room k (A.under (.builtin "type.__call__" ⟨.ref C :: us, kw⟩)) :=
  ⟨r.hd, by have := r.dp; rw [make_depth]; omega, by have := r.un; rw [make_units]; omega⟩
theorem Room.depth {k : Nat} {A : Around} (r : Room k A) : A.depth < recursionLimit := by have := r.dp; omega
theorem Room.units {k : Nat} {A : Around} (r : Room k A) : A.units + 64 < cLine := by have := r.un; omega
/-! ### argument lists and displays -/
def tNil : TA := fun _ H Q => Q [] H
def tCons (ta : TE) (tr : TA) : TA := fun σ H Q => ta σ H fun x H1 => tr σ H1 fun xs H2 => Q (x :: xs) H2
section
variable {X : Cx} {e : Expr} {es : List Expr} {te : TE} {t : TA} {pos : Pos}
theorem pa_nil : PA X [] tNil := fun _ _ _ _ H Q I h => Calls.spliced_nil ⟨[], H, I, .nil, h⟩
theorem pa_cons (ha : PE X e te) (hr : PA X es t) (hs : starEach (e :: es) X.env = (false, eval e X.env) :: starEach es X.env := by rfl) : PA X (e :: es) (tCons te t) := by
  intro pos pins s σ H Q I h
  rw [hs]
  show wpAny _ _ (spliced ((false, eval e X.env) :: backTo pos (starEach es X.env))) _ _ s
  refine Calls.spliced_cons (thn (ha pins s σ H _ I h) fun u s1 ⟨x, H1, I1, r1, q1⟩ => ?_)
  exact thn (hr pos pins s1 σ H1 _ I1 q1) fun us s2 ⟨xs, H2, I2, r2, q2⟩ => ⟨x :: xs, H2, I2, .cons r1 r2, q2⟩

/-- a tuple, a list of written items -/
def tTup (t : TA) : TE := fun σ H Q => t σ H fun xs H1 => xs.length ≤ sizeLine ∧ ∀ p, H1 p = none → Q (.ref p) (upd H1 p (.tup xs))
def tLst (t : TA) : TE := fun σ H Q => t σ H fun xs H1 => xs.length ≤ sizeLine ∧ ∀ p, H1 p = none → Q (.ref p) (upd H1 p (.lst xs))
theorem pe_tup {x1} (h : PA X es t) : PE X (.Tuple es x1 pos) (tTup t) := by
  intro pins s σ H Q I hq
  refine wpAny_Tuple_spliced (thn (h pos pins s σ H _ I hq) fun us s1 ⟨xs, H1, I1, r, z, q⟩ => ⟨by rw [← r.length]; exact z, ?_⟩)
  have hf : H1 s1.heap.objs.size = none := I1.hok.fresh (Nat.le_refl _)
  refine ⟨.ref s1.heap.objs.size, upd H1 s1.heap.objs.size (.tup xs), I1.laid (t' := s1.toks) (fun b u e => Heap.get?_push_of_some _ e) (Nat.le_refl _) ?_, rfl, q _ hf⟩
  exact ⟨z, us, r, ⟨_, Heap.get?_push_size _ rfl, rfl, _, rfl⟩⟩
theorem pe_lst (h : PA X es t) : PE X (.List es pos) (tLst t) := by
  intro pins s σ H Q I hq
  refine wpAny_List_spliced (thn (h pos pins s σ H _ I hq) fun us s1 ⟨xs, H1, I1, r, z, q⟩ => ⟨by rw [← r.length]; exact z, ?_⟩)
  have hf : H1 s1.heap.objs.size = none := I1.hok.fresh (Nat.le_refl _)
  refine ⟨.ref s1.heap.objs.size, upd H1 s1.heap.objs.size (.lst xs), I1.laid (t' := s1.toks) (fun b u e => Heap.get?_push_of_some _ e) (Nat.le_refl _) ?_, rfl, q _ hf⟩
  exact ⟨z, us, 0, r, Heap.get?_push_size _ rfl⟩
end

/-! ### what a def promises -/
/-- a def's promise: the bound arguments in the parameters' order, the heap, the wanted end, the wanted exception -/
abbrev Sp := List V → Hp → VK → XK → Prop
/-- how an exception lies behind a call (file 08 gives it): the callers' frames, abstract heap and state ahead of the call, the wish, the exception, the state -/
abbrev CXT := List Env → Hp → Shared → XK → Value → Shared → Prop

/-- the state at a call -/
structure Env0 (P : Program) (w : World) (K : PySem.W.Frag) (mg : Str → Option Value) (base : Heap) (A : Around) (outer : List Env) (s : Shared) (H : Hp) : Prop where
  frames : A.frames = some outer
  mod : Mod K mg base
  bs : ∀ b o, base.get? b = some o → s.heap.get? b = some o ∧ H b = none
  bsz : base.objs.size ≤ s.heap.objs.size
  funs : s.heap.FunFrames base outer
  frf : ∀ b ∈ frs outer, H b = none
  hok : HOk P w H s.heap
  bare : AllBare s.gens
/-- a call's end -/
def CE (outer : List Env) (P : Program) (w : World) (H : Hp) (s : Shared) (Q : VK) (u : Value) (s' : Shared) : Prop :=
  ∃ v H', s'.os = s.os ∧ AllBare s'.gens ∧ Un (frs outer) [] H H' s.heap s'.heap ∧ HOk P w H' s'.heap ∧ RelV v u ∧ Q v H'
def CR (CX : CXT) (outer : List Env) (P : Program) (w : World) (H : Hp) (s : Shared) (Q : VK) (E : XK) (r : Result) (s' : Shared) : Prop :=
  match r with
  | .ok (.ret u) => CE outer P w H s Q u s'
  | .ok _ => False
  | .error e => CX outer H s E e s'
structure FnOk (P : Program) (w : World) (K : PySem.W.Frag) (mg : Str → Option Value) (base : Heap) (CX : CXT) (k : Nat) (f : Addr) (fd : FuncData) (ps : List Str) (sp : Sp) : Prop where
  len : ∀ vs H Q E, sp vs H Q E → vs.length = ps.length
  run : ∀ (A : Around) (outer : List Env) (s : Shared) (H : Hp) (args : Args) (us : List Value) (vs : List V) (Q : VK) (E : XK), Room k A → Env0 P w K mg base A outer s H → BindsTo s fd args (ps.zip us) → Vals vs us → sp vs H Q E →
    codeAny (model P w) A (.call (.ref f) args) (CR CX outer P w H s Q E) s
theorem FnOk.mono {P : Program} {w : World} {K : PySem.W.Frag} {mg : Str → Option Value} {base : Heap} {CX : CXT} {j k : Nat} {f : Addr} {fd : FuncData} {ps : List Str} {sp : Sp} (F : FnOk P w K mg base CX j f fd ps sp) (h : j ≤ k) :
    FnOk P w K mg base CX k f fd ps sp := ⟨F.len, fun A outer s H args us vs Q E hr => F.run A outer s H args us vs Q E (hr.mono h)⟩
theorem Env0.make {P : Program} {w : World} {K : PySem.W.Frag} {mg : Str → Option Value} {base : Heap} {A : Around} {outer : List Env} {s : Shared} {H : Hp} (e : Env0 P w K mg base A outer s H) (C : Addr) (us : List Value) (kw : List (Str × Value)) :
    Env0 P w K mg base (A.under (.builtin "type.__call__" ⟨.ref C :: us, kw⟩)) outer s H := ⟨by first | exact e.frames | (simpa [Around.under, Code.envs, Code.isFrame, pushEnvs] using e.frames), e.mod, e.bs, e.bsz, e.funs, e.frf, e.hok, e.bare⟩
section
variable {X : Cx} {pins : List (Addr × Obj)} {σ : St} {H : Hp} {s s' : Shared}
/-- from a body: what a callee wants -/
theorem Inv.env0 (I : Inv X pins σ H s) : Env0 X.prog X.w X.K X.mg X.base X.A X.stack s H :=
  ⟨I.ok.frames, I.ok.mod, I.bs, Nat.le_trans I.ok.bsz I.sz, I.stack, I.stkFree, I.hok, I.bare⟩
/-- behind a call -/
theorem Inv.after {Q : VK} {u : Value} (I : Inv X pins σ H s) (h : CE X.stack X.prog X.w H s Q u s') : EP X pins σ Q u s' := by
  obtain ⟨v, H', os, bare, un, hok, r, q⟩ := h
  obtain ⟨hh, g, d, t, os'⟩ := s'
  obtain rfl : os' = s.os := os
  exact ⟨v, H', I.call (h' := hh) (g' := g) (d' := d) (t' := t) (ch := []) un hok bare (fun b z => absurd z (by simp)), r, q⟩
end

/-! ### calls -/
/-- f(..): the written arguments, then the defaults dvs; E: what is wanted of an exception -/
def tCall (sp : Sp) (dvs : List V) (E : XK) (t : TA) : TE := fun σ H Q => t σ H fun vs H1 => sp (vs ++ dvs) H1 Q E
/-- o.m(..) of an instance of the class at C -/
def tMeth (C : Addr) (m : Str) (sp : Sp) (dvs : List V) (E : XK) (ta : TE) (t : TA) : TE := fun σ H Q => ta σ H fun x H1 => ∃ a dx fs, x = .ref a ∧ H1 a = some (.ins C dx fs) ∧ fs.lookup m = none ∧
  t σ H1 fun vs H2 => sp (x :: (vs ++ dvs)) H2 Q E
/-- C(..): a new instance and its dict, then __init__ -/
def tMake (C : Addr) (sp : Sp) (dvs : List V) (E : XK) (t : TA) : TE := fun σ H Q => t σ H fun vs H1 => ∀ x dx, H1 x = none → H1 dx = none → dx ≠ x →
  sp (.ref x :: (vs ++ dvs)) (upd (upd H1 dx (.own x)) x (.ins C dx [])) (fun v H2 => v = .non ∧ Q (.ref x) H2) E

/-- how the parameters are bound: us the positional arguments, kw the keywords' values by name, ds the defaults that fill up -/
def Binds (K : PySem.W.Frag) (fd : FuncData) (ps : List Str) (ds : List Value) : Prop :=
  ∀ (s : Shared) (us : List Value), K.In s.heap → (us ++ ds).length = ps.length → BindsTo s fd ⟨us, []⟩ (ps.zip (us ++ ds))
/-- every parameter is given -/
theorem Binds.all {K : PySem.W.Frag} {fd : FuncData} {ps : List Str} (h : ∀ us : List Value, us.length = ps.length → bindArgs fd ⟨us, []⟩ = pure (ps.zip us)) : Binds K fd ps [] := fun s us _ hl => by
  rw [List.append_nil] at hl ⊢
  exact .of_eq (h us hl)

/-- an exception of a callee reaches what this body wants of exceptions -/
def Passes (CX : CXT) (X : Cx) (E : XK) : Prop := ∀ (pins : List (Addr × Obj)) (σ : St) (H : Hp) (s : Shared) (e : Value) (s' : Shared), Inv X pins σ H s → CX X.stack H s E e s' → X.xe e s'

section
variable {X : Cx} {CX : CXT} {k : Nat} {f C : Addr} {fd : FuncData} {ps : List Str} {sp : Sp} {dvs : List V} {ds : List Value} {E : XK} {x m : Str} {p pos apos : Pos} {e o : Expr} {es : List Expr} {ta : TE} {t : TA}

/-- the callee runs -/
theorem run_fn {pins : List (Addr × Obj)} {σ : St} {H : Hp} {s : Shared} {Q : VK} {us : List Value} {vs : List V} (F : FnOk X.prog X.w X.K X.mg X.base CX k f fd ps sp) (hr : Room k X.A) (hb : Binds X.K fd ps ds) (hd : Vals dvs ds) (hx : Passes CX X E)
    (I : Inv X pins σ H s) (r : Vals vs us) (h : sp (vs ++ dvs) H Q E) : wpAny (model X.prog X.w) X.A (call (.ref f) us) (EP X pins σ Q) X.xe s := by
  have r2 : Vals (vs ++ dvs) (us ++ ds) := r.append hd
  have hl : (us ++ ds).length = ps.length := by rw [← r2.length]; exact F.len _ _ _ _ h
  refine wpAny_call (codeAny_mono (F.run X.A X.stack s H ⟨us, []⟩ (us ++ ds) (vs ++ dvs) Q E hr I.env0 (hb s us I.kIn hl) r2 h) fun r s' hq => ?_)
  cases r with
  | error e => exact hx pins σ H s e s' I hq
  | ok fl =>
    cases fl with
    | ret u => exact I.after hq
    | next => exact False.elim hq
    | brk => exact False.elim hq
    | cont => exact False.elim hq

theorem pe_call (F : FnOk X.prog X.w X.K X.mg X.base CX k f fd ps sp) (hr : Room k X.A) (hg : Gl X x) (hm : X.mg x = some (.ref f)) (hk : PySem.W.keepIn X.K (.ref f) = true) (hb : Binds X.K fd ps ds) (hd : Vals dvs ds) (hx : Passes CX X E)
    (ha : PA X (e :: es) t) (hdb : (x == ("__debug__" : Str)) = false := by decide) (he : starEach (e :: es) X.env = (false, eval e X.env) :: starEach es X.env := by rfl) (hpl : (backTo pos (starEach es X.env)).any (·.1) = false := by rfl) :
    PE X (.Call (.Name x p) (e :: es) [] pos) (tCall sp dvs E t) := by
  intro pins s σ H Q I h
  refine wpAny_Call_Name_kw (ld_glob I hg hm ?_ hdb)
  refine PySem.W.callWith_K (h₀ := X.base) I.ok.mod.kin hk (thn (ha pos pins s σ H _ I h) fun us s1 ⟨vs, H1, I1, r, q⟩ => ⟨I1.kIn, ?_⟩) he hpl
  exact run_fn F hr hb hd hx I1 r q
/-- o.m(e, ..) -/
theorem pe_meth {pl : Sem Bool} (he : PE X o ta) (c : Cls X.K C) (hm : Meth X.K C m f) (F : FnOk X.prog X.w X.K X.mg X.base CX k f fd ps sp) (hr : Room k X.A) (hb : Binds X.K fd ps ds) (hd : Vals dvs ds) (hx : Passes CX X E) (ha : PA X (e :: es) t)
    (hst : starEach (e :: es) X.env = (false, eval e X.env) :: starEach es X.env := by rfl) (hpl : (backTo pos (starEach es X.env)).any (·.1) = false := by rfl)
    (ht : eval (.Call (.Attribute o m apos) (e :: es) [] pos) X.env = (do
      let ov ← eval o X.env
      standAt apos.atName
      let (f, first) ← holding [ov] (getMethod ov m pl)
      callWith pos f first (backTo pos (starEach (e :: es) X.env)) (backToKw pos (keywordEach [] X.env))) := by rfl) :
    PE X (.Call (.Attribute o m apos) (e :: es) [] pos) (tMeth C m sp dvs E ta t) := by
  intro pins s σ H Q I h
  refine PySem.W.methodCall_KW (pl := pl) (thn (he pins s σ H _ I h) fun u s1 ⟨x, H1, I1, rx, a, dx, fs, ex, ea, l, q⟩ => ?_) ht
  subst ex
  obtain rfl : u = Value.ref a := rx
  refine getmeth_ok I1 ea c hm l ?_
  refine PySem.W.callWith_K (first := [.ref a]) (h₀ := X.base) I.ok.mod.kin hm.kp (thn (ha pos pins s1 σ H1 _ I1 q) fun us s2 ⟨vs, H2, I2, r, q2⟩ => ⟨I2.kIn, ?_⟩) hst hpl
  exact run_fn (us := .ref a :: us) (vs := .ref a :: vs) F hr hb hd hx I2 (.cons rfl r) q2
/-- o.m() -/
theorem pe_meth0 {pl : Sem Bool} (he : PE X o ta) (c : Cls X.K C) (hm : Meth X.K C m f) (F : FnOk X.prog X.w X.K X.mg X.base CX k f fd ps sp) (hr : Room k X.A) (hb : Binds X.K fd ps ds) (hd : Vals dvs ds) (hx : Passes CX X E)
    (ht : eval (.Call (.Attribute o m apos) [] [] pos) X.env = (do
      let ov ← eval o X.env
      standAt apos.atName
      let (f, first) ← holding [ov] (getMethod ov m pl)
      callWith pos f first (backTo pos (starEach [] X.env)) (backToKw pos (keywordEach [] X.env))) := by rfl) :
    PE X (.Call (.Attribute o m apos) [] [] pos) (tMeth C m sp dvs E ta tNil) := by
  intro pins s σ H Q I h
  refine PySem.W.methodCall_KW (pl := pl) (thn (he pins s σ H _ I h) fun u s1 ⟨x, H1, I1, rx, a, dx, fs, ex, ea, l, q⟩ => ?_) ht
  subst ex
  obtain rfl : u = Value.ref a := rx
  refine getmeth_ok I1 ea c hm l ?_
  exact PySem.W.callWith_K0 (first := [.ref a]) I1.kIn hm.kp (run_fn (us := [.ref a]) (vs := [.ref a]) F hr hb hd hx I1 (.cons rfl .nil) q)

/-- what a class must have to be made -/
structure Mk (K : PySem.W.Frag) (C f : Addr) : Prop where
  makes : PySem.W.makesIn K C = true
  init : PySem.W.findIn K (.ref C) "__init__" = some (some (.ref f))
  fn : PySem.W.isFn K (.ref f) = true
  kp : PySem.W.keepIn K (.ref C) = true

theorem run_make {pins : List (Addr × Obj)} {σ : St} {H : Hp} {s : Shared} {Q : VK} {us : List Value} {vs : List V} (M : Mk X.K C f) (F : FnOk X.prog X.w X.K X.mg X.base CX k f fd ps sp) (hr : Room (k + 1) X.A) (hb : Binds X.K fd ps ds) (hd : Vals dvs ds)
    (hx : Passes CX X E) (I : Inv X pins σ H s) (r : Vals vs us)
    (h : ∀ x dx, H x = none → H dx = none → dx ≠ x → sp (.ref x :: (vs ++ dvs)) (upd (upd H dx (.own x)) x (.ins C dx [])) (fun v H2 => v = .non ∧ Q (.ref x) H2) E) :
    wpAny (model X.prog X.w) X.A (call (.ref C) us) (EP X pins σ Q) X.xe s := by
  have hq := h (s.heap.objs.size + 1) s.heap.objs.size (I.hok.fresh (Nat.le_succ _)) (I.hok.fresh (Nat.le_refl _)) (Nat.ne_of_lt (Nat.lt_succ_self _))
  have I2 := Inv.made (C := C) I
  have r2 : Vals (V.ref (s.heap.objs.size + 1) :: (vs ++ dvs)) (Value.ref (s.heap.objs.size + 1) :: (us ++ ds)) := .cons rfl (r.append hd)
  have hl : (Value.ref (s.heap.objs.size + 1) :: us ++ ds).length = ps.length := by
    have e := r2.length
    rw [F.len _ _ _ _ hq] at e
    exact e.symm
  refine wpAny_call (make_map (f := f) I.kIn M.makes M.init (beq_iff_eq.mp M.fn) (codeAny_mono (F.run _ X.stack _ _ ⟨Value.ref (s.heap.objs.size + 1) :: us, []⟩ (Value.ref (s.heap.objs.size + 1) :: (us ++ ds)) _ _ E (hr.make C us [])
    (I2.env0.make C us []) (hb _ (Value.ref (s.heap.objs.size + 1) :: us) I2.kIn hl) r2 hq) fun r s' hq' => ?_))
  cases r with
  | error e => exact hx pins σ _ _ e s' I2 hq'
  | ok fl =>
    cases fl with
    | ret u =>
      obtain ⟨v, H', I3, rv, ev, q3⟩ := I2.after hq'
      subst ev
      exact ⟨rv, ⟨V.ref (s.heap.objs.size + 1), H', I3, rfl, q3⟩⟩
    | next => exact False.elim hq'
    | brk => exact False.elim hq'
    | cont => exact False.elim hq'
theorem pe_make (M : Mk X.K C f) (F : FnOk X.prog X.w X.K X.mg X.base CX k f fd ps sp) (hr : Room (k + 1) X.A) (hg : Gl X x) (hm : X.mg x = some (.ref C)) (hb : Binds X.K fd ps ds) (hd : Vals dvs ds) (hx : Passes CX X E)
    (ha : PA X (e :: es) t) (hdb : (x == ("__debug__" : Str)) = false := by decide) (he : starEach (e :: es) X.env = (false, eval e X.env) :: starEach es X.env := by rfl) (hpl : (backTo pos (starEach es X.env)).any (·.1) = false := by rfl) :
    PE X (.Call (.Name x p) (e :: es) [] pos) (tMake C sp dvs E t) := by
  intro pins s σ H Q I h
  refine wpAny_Call_Name_kw (ld_glob I hg hm ?_ hdb)
  refine PySem.W.callWith_K (h₀ := X.base) I.ok.mod.kin M.kp (thn (ha pos pins s σ H _ I h) fun us s1 ⟨vs, H1, I1, r, q⟩ => ⟨I1.kIn, ?_⟩) he hpl
  exact run_make M F hr hb hd hx I1 r q
end

/-! ### keywords -/
section
variable {X : Cx} {CX : CXT} {k : Nat} {f C : Addr} {fd : FuncData} {ps ks : List Str} {sp : Sp} {E : XK} {x m : Str} {p pos apos kpos : Pos} {e o : Expr} {es : List Expr} {kws : List Keyword} {te ta : TE} {t tk : TA} {nm : Option Str}
variable {g : List Value → List Value → List Value} {gV : List V → List V → List V}
end

/-! ### a def's body keeps its promise -/
/-- names: the parameters first -/
structure FnScope (N P : List Str) (sc : Scope) : Prop where
  kind : sc.kind = .function
  co : sc.isCoroutine = false
  gen : sc.isGenerator = false
  nd : N.Nodup
  pre : N.take P.length = P
  par : ∀ x ∈ P, sc.names.lookup x = some .local ∨ sc.names.lookup x = some .cell
  nofree : ∀ y ∈ sc.names, y.2 ≠ .free

theorem bindL_out {kindOf : Str → Option NameKind} {x : Str} : ∀ {binds : List (Str × Value)} {m : Str → Option Value}, (∀ v, (x, v) ∉ binds) → bindL kindOf binds m x = m x
  | [], _, _ => rfl
  | (n, v) :: r, m, h => by
    unfold bindL
    rw [bindL_out fun w hw => h w (List.mem_cons_of_mem _ hw)]
    split
    · have : x ≠ n := by rintro rfl; exact h v List.mem_cons_self
      simp [this]
    · rfl
theorem bindC_out {kindOf : Str → Option NameKind} {x : Str} : ∀ {binds : List (Str × Value)} {m : Str → Option Value}, (∀ v, (x, v) ∉ binds) → bindC kindOf binds m x = m x
  | [], _, _ => rfl
  | (n, v) :: r, m, h => by
    unfold bindC
    rw [bindC_out fun w hw => h w (List.mem_cons_of_mem _ hw)]
    split
    · rfl
    · have : x ≠ n := by rintro rfl; exact h v List.mem_cons_self
      simp [this]
theorem bindL_get {kindOf : Str → Option NameKind} {x : Str} {v : Value} : ∀ {P : List Str} {vs : List Value} {i : Nat} {m : Str → Option Value}, P.Nodup → P[i]? = some x → vs[i]? = some v → kindOf x = some .local →
    bindL kindOf (P.zip vs) m x = some v
  | [], _, _, _, _, h, _, _ => by simp at h
  | _ :: _, [], _, _, _, _, h, _ => by simp at h
  | p :: P, w :: vs, 0, m, nd, h1, h2, hk => by
    simp at h1 h2; subst h1; subst h2
    show bindL kindOf ((p, w) :: P.zip vs) m p = _
    unfold bindL
    rw [bindL_out fun v hv => (List.nodup_cons.mp nd).1 (List.of_mem_zip hv).1, if_pos hk]
    simp
  | p :: P, w :: vs, i + 1, m, nd, h1, h2, hk => by
    show bindL kindOf ((p, w) :: P.zip vs) m x = _
    unfold bindL
    exact bindL_get (i := i) (List.nodup_cons.mp nd).2 (by simpa using h1) (by simpa using h2) hk
theorem bindC_get {kindOf : Str → Option NameKind} {x : Str} {v : Value} : ∀ {P : List Str} {vs : List Value} {i : Nat} {m : Str → Option Value}, P.Nodup → P[i]? = some x → vs[i]? = some v → kindOf x ≠ some .local →
    bindC kindOf (P.zip vs) m x = some v
  | [], _, _, _, _, h, _, _ => by simp at h
  | _ :: _, [], _, _, _, _, h, _ => by simp at h
  | p :: P, w :: vs, 0, m, nd, h1, h2, hk => by
    simp at h1 h2; subst h1; subst h2
    show bindC kindOf ((p, w) :: P.zip vs) m p = _
    unfold bindC
    rw [bindC_out fun v hv => (List.nodup_cons.mp nd).1 (List.of_mem_zip hv).1, if_neg hk]
    simp
  | p :: P, w :: vs, i + 1, m, nd, h1, h2, hk => by
    show bindC kindOf ((p, w) :: P.zip vs) m x = _
    unfold bindC
    exact bindC_get (i := i) (List.nodup_cons.mp nd).2 (by simpa using h1) (by simpa using h2) hk

/-- the names' values at the entry -/
def start (N : List Str) (vs : List V) : St := vs.map some ++ List.replicate (N.length - vs.length) none

/-- the context of a def's body, at its entry; an exception leaves the frame, then lies as CX says -/
def cxOf (CX : CXT) (P : Program) (w : World) (K : PySem.W.Frag) (mg : Str → Option Value) (base : Heap) (N : List Str) (qual : Str) (scope : Scope) (f : Addr) (cd : Value) (A : Around) (outer : List Env) (s : Shared) (H : Hp) (E : XK) : Cx where
  prog := P
  w := w
  K := K
  mg := mg
  base := base
  A := A.deeper (envOfC qual scope s.heap.objs.size f cd)
  N := N
  s₀ := s
  H₀ := H
  env := envOfC qual scope s.heap.objs.size f cd
  outer := outer
  stack := envOfC qual scope s.heap.objs.size f cd :: outer
  ex := []
  calm := true
  fn := fun _ => true
  pn := []
  xe := fun e s' => wpAny (model P w) (A.deeper (envOfC qual scope s.heap.objs.size f cd)) (leaving (envOfC qual scope s.heap.objs.size f cd) e) (fun _ s'' => CX outer H s E e s'') (fun e' s'' => CX outer H s E e' s'') s'

theorem cell_has {sc : Scope} {n : Nat} {x : Str} (h : sc.names.lookup x = some .cell) : ∃ c, (cellsFrom n sc.names []).lookup x = some c := by
  have q := PySem.W.cellsFrom_some sc.names n [] (.inl h)
  exact Option.isSome_iff_exists.mp q

theorem inv_start {CX : CXT} {P : Program} {w : World} {K : PySem.W.Frag} {mg : Str → Option Value} {base : Heap} {N ps : List Str} {qual : Str} {scope : Scope} {f : Addr} {cd : Value} {A : Around} {outer : List Env} {s s1 : Shared} {H : Hp} {E : XK} {us : List Value} {vs : List V}
    (S : FnScope N ps scope) (hd : A.handled = none) (e0 : Env0 P w K mg base A outer s H) (hl : vs.length = ps.length) (r : Vals vs us)
    (x : InCallC s s.heap.objs.size (bindL (envOfC qual scope s.heap.objs.size f cd).kindOf (ps.zip us) fun _ => none) (cellsFrom (s.heap.objs.size + 1) scope.names []) (bindC (envOfC qual scope s.heap.objs.size f cd).kindOf (ps.zip us) fun _ => none) s1) :
    Inv (cxOf CX P w K mg base N qual scope f cd A outer s H E) [] (start N vs) H s1 := by
  have hpl : ps.length ≤ N.length := by have := congrArg List.length S.pre; rw [List.length_take] at this; omega
  obtain ⟨h1, tk, rfl, hk⟩ := x.done
  have noA : ∀ b : Addr, b ∉ (cxOf CX P w K mg base N qual scope f cd A outer s H E).ex := fun b z => absurd (show b ∈ ([] : List Addr) from z) (by simp)
  refine ⟨⟨e0.mod, S.kind, rfl, rfl, Nat.le_refl _, fun y z c h1 h2 => ?_, fun y hy => ?_, fun y c _ h => ?_, fun _ => hd, Around.frames_deeper e0.frames, .inr ⟨rfl, rfl⟩, fun b z => absurd z (noA b), e0.bs, e0.bsz, fun b _ _ => noA b, fun b z => absurd z (noA b), e0.funs, e0.frf⟩,
    rfl, e0.bare, Un.kept hk, ⟨_, x.toInCall.ns, fun i y v h1 h2 h3 => ?_⟩, fun y c h => ⟨_, x.cell y c h⟩, e0.hok.fresh (Nat.le_refl _), fun y c h => ?_, fun p hp => absurd (show p ∈ ([] : List (Addr × Obj)) from hp) (by simp), e0.hok.kept hk, ?_⟩
  · exact name_of_addr x.apart (PySem.mem_of_lookup h1) (PySem.mem_of_lookup h2)
  · have hy : scope.names.lookup y = some .cell ∨ scope.names.lookup y = some .free := hy
    rcases hy with hy | hy
    · exact cell_has hy
    · exact absurd rfl (S.nofree _ (PySem.mem_of_lookup hy))
  · exact Nat.le_of_lt (x.above y c (PySem.mem_of_lookup h))
  · have hi : i < vs.length := by
      unfold start at h2
      by_cases hi : i < vs.length
      · exact hi
      · rw [List.getElem?_append_right (by simpa using hi)] at h2
        rw [List.getElem?_replicate] at h2
        split at h2 <;> cases h2
    have ha : vs[i]? = some v := by
      unfold start at h2
      rw [List.getElem?_append_left (by simpa using hi), List.getElem?_map] at h2
      cases e : vs[i]? with
      | none => rw [e] at h2; cases h2
      | some a => rw [e] at h2; cases h2; rfl
    obtain ⟨u, hu, rv⟩ := r.get ha
    have hp : ps[i]? = some y := by
      rw [← S.pre, List.getElem?_take_of_lt (by omega)]; exact h1
    have ndP : ps.Nodup := by rw [← S.pre]; exact S.nd.sublist (List.take_sublist _ _)
    refine ⟨u, rv, ?_⟩
    rcases S.par y (List.mem_of_getElem? hp) with k | k
    · exact .inl ⟨k, bindL_get ndP hp hu k⟩
    · obtain ⟨c, e⟩ := cell_has (n := s.heap.objs.size + 1) k
      refine .inr ⟨.inl k, c, e, ?_⟩
      have q := x.cell y c e
      rw [bindC_get ndP hp hu (by show scope.names.lookup y ≠ _; rw [k]; decide)] at q
      exact q
  · exact .inl (e0.hok.fresh (Nat.le_of_lt (x.above y c (PySem.mem_of_lookup h))))
  · unfold start
    show _ = N.length
    rw [List.length_append, List.length_map, List.length_replicate]
    omega

/-- THE RULE: a def (or a method) of the text, by its body. The body's reading t is chosen for each entry; it is run at the parameters' values -/
theorem fn_of {CX : CXT} {P : Program} {w : World} {K : PySem.W.Frag} {mg : Str → Option Value} {base : Heap} {k : Nat} {f : Addr} {name qual : Str} {params : Arguments} {body : List Stmt} {scope : Scope} {dV kV doc pm cdv ct oc : Value} {an od : Option Addr}
    {osl : Array (Option Value)} {N ps : List Str} {sp : Sp} (lk : K.lookup f = some ⟨oc, od, .func (PySem.W.fnOf name qual params body scope dV kV doc pm an cdv ct), osl⟩) (hcd : PySem.W.codeIn K cdv qual = true) (S : FnScope N ps scope)
    (len : ∀ vs H Q E, sp vs H Q E → vs.length = ps.length)
    (hbody : ∀ (A : Around) (outer : List Env) (s : Shared) (H : Hp) (vs : List V) (Q : VK) (E : XK), Room k (A.deeper (envOfC qual scope s.heap.objs.size f cdv)) → sp vs H Q E →
      ∃ t, PSs (cxOf CX P w K mg base N qual scope f cdv A outer s H E) body t ∧ t { nx := fun _ H' => Q .non H', rt := Q } (start N vs) H) :
    FnOk P w K mg base CX (k + 1) f (PySem.W.fnOf name qual params body scope dV kV doc pm an cdv ct) ps sp := by
  refine ⟨len, fun A outer s H args us vs Q E hr e0 hb r hsp => ?_⟩
  have hl := len _ _ _ _ hsp
  have KX : K.In s.heap := e0.mod.kin.keeps fun b o e => (e0.bs b o e).1
  have lim : s.heap.NoLimit := e0.mod.nolimit.keeps fun b o e => (e0.bs b o e).1
  have hkind : ∀ y ∈ ps.zip us, scope.names.lookup y.1 = some .local ∨ (scope.names.lookup y.1 = some .cell ∧ ((cellsFrom (s.heap.objs.size + 1) scope.names []).lookup y.1).isSome = true) := fun ⟨n, v⟩ hy => by
    rcases S.par n (List.of_mem_zip hy).1 with q | q
    · exact .inl q
    · exact .inr ⟨q, PySem.W.cellsFrom_some _ _ _ (.inl q)⟩
  refine codeAny_call_function hr.depth (KX _ _ lk) rfl S.co S.gen rfl (PySem.W.codeRec_of KX hcd) (hb _ _ _ _ ?_)
  refine wpAny_newFunctionEnv_cells S.kind hkind fun env he s1 x => ?_
  subst he
  refine ⟨lim.keeps x.toInCall.keep, codeAny_func ?_⟩
  obtain ⟨t, ht, hq⟩ := hbody A outer s H vs Q E (hr.deeper _) hsp
  have I : Inv (cxOf CX P w K mg base N qual scope f cdv A outer s H E) [] (start N vs) H s1 := inv_start S hr.hd e0 hl r x
  refine wpAny_mono (ht [] s1 (start N vs) H _ I hq) (fun fl s' hs => ?_) fun e s' hs => hs
  have fin : ∀ {σ' : St} {H' : Hp} {v : V} {u : Value}, Inv (cxOf CX P w K mg base N qual scope f cdv A outer s H E) [] σ' H' s' → RelV v u → Q v H' → CE outer P w H s Q u s' :=
    fun {σ' H' v u} J rv q => ⟨v, H', J.os, J.bare, J.base, J.hok, rv, q⟩
  cases fl with
  | ret u =>
    obtain ⟨v, σ', H', J, rv, q⟩ := hs
    exact fin J rv q
  | next =>
    obtain ⟨σ', H', J, q⟩ := hs
    exact fin (v := V.non) (u := Value.none) J rfl q
  | brk =>
    obtain ⟨_, _, _, q⟩ := hs
    exact False.elim q
  | cont =>
    obtain ⟨_, _, _, q⟩ := hs
    exact False.elim q
end L2

namespace L2
open PySem PySem.Spec PyProof.Rows
section
variable {X : Cx} {x : Str} {p pos : Pos} {e : Expr} {es : List Expr} {t : TA} {id T : String} {r : List V → Hp → VK → Prop}

def tCB (r : List V → Hp → VK → Prop) (t : TA) : TE := fun σ H Q => t σ H fun vs H1 => r vs H1 Q
/-- f(e, ..), f a built-in function -/
theorem pe_callB (hc : CallR X (.builtin id) r) (hg : Gl X x) (hm : X.mg x = none) (hv : bootBuiltins x = some (.builtin id)) (ha : PA X (e :: es) t) (hn : x ≠ "__name__" := by decide) (hdb : (x == ("__debug__" : Str)) = false := by decide)
    (he : starEach (e :: es) X.env = (false, eval e X.env) :: starEach es X.env := by rfl) (hpl : (backTo pos (starEach es X.env)).any (·.1) = false := by rfl) : PE X (.Call (.Name x p) (e :: es) [] pos) (tCB r t) := by
  intro pins s σ H Q I h
  refine wpAny_Call_Name_kw (ld_blt I hg hm hv ?_ hn hdb)
  exact PyProof.Rows.callWith_builtin1 (thn (ha pos pins s σ H _ I h) fun us s1 ⟨vs, H1, I1, r1, q1⟩ => hc pins s1 σ H1 vs us Q I1 r1 q1) he hpl
/-- T(e, ..), T a built-in type -/
theorem pe_callTy (hc : CallR X (.type T) r) (hg : Gl X x) (hm : X.mg x = none) (hv : bootBuiltins x = some (.type T)) (ha : PA X (e :: es) t) (hn : x ≠ "__name__" := by decide) (hdb : (x == ("__debug__" : Str)) = false := by decide)
    (he : starEach (e :: es) X.env = (false, eval e X.env) :: starEach es X.env := by rfl) (hpl : (backTo pos (starEach es X.env)).any (·.1) = false := by rfl) : PE X (.Call (.Name x p) (e :: es) [] pos) (tCB r t) := by
  intro pins s σ H Q I h
  refine wpAny_Call_Name_kw (ld_blt I hg hm hv ?_ hn hdb)
  exact PyProof.Rows.callWith_type1 (thn (ha pos pins s σ H _ I h) fun us s1 ⟨vs, H1, I1, r1, q1⟩ => hc pins s1 σ H1 vs us Q I1 r1 q1) he hpl
end
end L2

namespace HT
open PySem PyProof.Rows

section
open PySem.SeqAt
open PySem.AutoSeq1 (wpAny_loadPart')
open PySem.MeetsSeq PySem.MeetsSeq2 PySem.MeetsSeq3

end

section
variable {prog : Program} {w : World} {A : Around} {E : Value → Shared → Prop} {s : Shared}

/-! ### t[a:b], not the whole -/
/-- a slice's bound as a place among n (d where it is left out) -/
def sIx (n d : Nat) : Option Int → Nat
  | none => d
  | some v => if v < 0 then (v + (n : Int)).toNat else min v.toNat n
theorem sIx_nat (n d k : Nat) : sIx n d (some (k : Int)) = min k n := by
  show (if (k : Int) < 0 then ((k : Int) + (n : Int)).toNat else min (k : Int).toNat n) = min k n
  rw [if_neg (by omega), Int.toNat_natCast]
theorem sIx_le (n d : Nat) (hd : d ≤ n) (o : Option Int) : sIx n d o ≤ n := by
  cases o with
  | none => exact hd
  | some v =>
    show (if v < 0 then (v + (n : Int)).toNat else min v.toNat n) ≤ n
    by_cases hv : v < 0
    · rw [if_pos hv]; omega
    · rw [if_neg hv]; exact Nat.min_le_right _ _
theorem clip_eq (v : Int) (n d : Nat) : (if v < 0 then max (v + (n : Int)) 0 else min v (n : Int)) = ((sIx n d (some v) : Nat) : Int) := by
  show (if v < 0 then max (v + (n : Int)) 0 else min v (n : Int)) = (((if v < 0 then (v + (n : Int)).toNat else min v.toNat n) : Nat) : Int)
  by_cases hv : v < 0
  · simp only [if_pos hv]; omega
  · simp only [if_neg hv]; omega
theorem adjust_gen (lo hi : Option Int) (n : Nat) : Builtin.Slice.sliceAdjust lo hi 1 (n : Int) = (((sIx n 0 lo : Nat) : Int), ((sIx n n hi : Nat) : Int)) := by
  have h1 : ¬ ((1 : Int) < 0) := by omega
  unfold Builtin.Slice.sliceAdjust
  simp only [h1, if_false]
  refine Prod.ext ?_ ?_
  · cases lo with
    | none => rfl
    | some v => exact clip_eq v n 0
  · cases hi with
    | none => rfl
    | some v => exact clip_eq v n n
theorem places_gen (i j : Nat) : Builtin.Slice.slicePlaces (i : Int) (j : Int) 1 = j - i := by
  unfold Builtin.Slice.slicePlaces
  have h1 : (1 : Int) > 0 := by omega
  simp only [h1, if_true, Int.ediv_one]
  split <;> omega
theorem slicePart_ {v : Value} {o : Option Int} {Q : Option Int → Shared → Prop} (p : IsPart v o) (h : Q o s) : wpAny (model prog w) A (Builtin.Slice.slicePartIndex v) Q E s := by
  cases p with
  | none => exact slicePart_none h
  | int i t => exact slicePart_int h
theorem sliceApplied_gen {sl : Addr} {vl vu : Value} {lo hi : Option Int} {n : Nat} {Q : Int × Int × Nat → Shared → Prop} (hs : s.heap.IsSliceOf sl vl vu .none) (pl : IsPart vl lo) (pu : IsPart vu hi)
    (h : Q (((sIx n 0 lo : Nat) : Int), 1, sIx n n hi - sIx n 0 lo) s) : wpAny (model prog w) A (Builtin.Slice.sliceApplied (.ref sl) (pure (n : Int))) Q E s := by
  obtain ⟨os, hos, hcs, hds⟩ := id hs
  unfold Builtin.Slice.sliceApplied Builtin.Slice.sliceFields
  refine wpAny_bind (wpAny_bind (wpAny_field hos hds (x := vl) rfl (wpAny_bind (wpAny_field hos hds (x := vu) rfl (wpAny_bind (wpAny_field hos hds (x := .none) rfl (wpAny_pure ?_)))))))
  refine wpAny_bind (slicePart_none ?_)
  show wpAny _ _ (if ((1 : Int) == 0) = true then _ else _) _ _ s
  rw [if_neg (by decide)]
  refine wpAny_bind (slicePart_ pl (wpAny_bind (slicePart_ pu (wpAny_bind (wpAny_pure ?_)))))
  show wpAny _ _ (match Builtin.Slice.sliceAdjust lo hi 1 (n : Int) with | (lo, hi) => pure (lo, (1 : Int), Builtin.Slice.slicePlaces lo hi 1)) _ _ s
  rw [adjust_gen lo hi n]
  show wpAny _ _ (pure (((sIx n 0 lo : Nat) : Int), (1 : Int), Builtin.Slice.slicePlaces ((sIx n 0 lo : Nat) : Int) ((sIx n n hi : Nat) : Int) 1)) _ _ s
  rw [places_gen]
  exact wpAny_pure h
theorem pick_gen (xs : Array Value) (i k : Nat) : ((List.range k).filterMap fun (m : Nat) => xs[((i : Int) + (m : Int) * 1).toNat]?).toArray = ((xs.toList.drop i).take k).toArray := by
  have e : (fun (m : Nat) => xs[((i : Int) + (m : Int) * 1).toNat]?) = fun m => xs[i + m]? := by
    funext m
    have : ((i : Int) + (m : Int) * 1).toNat = i + m := by omega
    rw [this]
  rw [e]
  have := pick_run xs i k
  rw [List.filterMap_map] at this
  have e2 : ((fun x => xs[x]?) ∘ fun x => i + x) = fun m => xs[i + m]? := rfl
  rw [e2] at this
  rw [this]

theorem getItem_tuple_cut {t sl : Addr} {items : Array Value} {vl vu : Value} {lo hi : Option Int} {Q : Value → Shared → Prop} (ht : IsTup s.heap t items) (hs : s.heap.IsSliceOf sl vl vu .none) (pl : IsPart vl lo) (pu : IsPart vu hi)
    (hw : ¬ (sIx items.size 0 lo = 0 ∧ sIx items.size items.size hi = items.size))
    (h : Q (.ref s.heap.objs.size) { s with heap := s.heap.push { cls := .type "tuple", data := .seq ((items.toList.drop (sIx items.size 0 lo)).take (sIx items.size items.size hi - sIx items.size 0 lo)).toArray } })
    (hsz : items.size ≤ sizeLine) : wpAny (model prog w) A (getItem (.ref t) (.ref sl)) Q E s := by
  have htake : sizeOk (.seq ((items.toList.drop (sIx items.size 0 lo)).take (sIx items.size items.size hi - sIx items.size 0 lo)).toArray) := by
    show ((items.toList.drop (sIx items.size 0 lo)).take (sIx items.size items.size hi - sIx items.size 0 lo)).toArray.size ≤ sizeLine
    rw [List.size_toArray, List.length_take, List.length_drop, Array.length_toList]
    omega
  have hj : sIx items.size items.size hi ≤ items.size := sIx_le _ _ (Nat.le_refl _) hi
  obtain ⟨os, hos, hcs, hds⟩ := id hs
  have hTs : s.TypeIs (.ref sl) "slice" := ⟨os, hos, hcs⟩
  unfold getItem
  try with_reducible refine wpAny_holding ?_
  first | refine wpAny_bind (wpAny_pure ?_) | skip
  refine wpAny_bind (wpAny_sequenceKey ht.typeIs (by decide) ?_)
  refine wpAny_bind (wpAny_callSpecial?_slot (name := Str.ofString "__getitem__") ht.typeIs PyProof.Rows.slot_tuple_getitem
    (wpAny_call_entry PyProof.Rows.slot_tuple_getitem ht.typeIs entry_tuple_getitem ?_ (args_tuple_getitem _ _)))
  show wpAny _ _ (Builtin.Tuple.tupleItemsOf (.ref t) >>= _) _ _ s
  refine wpAny_bind (tupleItemsOf_ ht ?_)
  refine wpAny_bind (wpAny_typeOf hTs ?_)
  rw [if_pos (by decide)]
  refine wpAny_bind (sliceApplied_gen hs pl pu ?_)
  have hno : ¬ ((((sIx items.size 0 lo : Nat) : Int) == 0 && (1 : Int) == 1 && (sIx items.size items.size hi - sIx items.size 0 lo) == items.size) = true) := by
    intro q
    rw [Bool.and_eq_true, Bool.and_eq_true] at q
    have q1 : ((sIx items.size 0 lo : Nat) : Int) = 0 := eq_of_beq q.1.1
    have q2 : sIx items.size items.size hi - sIx items.size 0 lo = items.size := eq_of_beq q.2
    exact hw ⟨by omega, by omega⟩
  show wpAny _ _ (if (((sIx items.size 0 lo : Nat) : Int) == 0 && (1 : Int) == 1 && (sIx items.size items.size hi - sIx items.size 0 lo) == items.size) = true then _ else _) _ _ s
  rw [if_neg hno, pick_gen]
  first
    | exact wpAny_bind (m := Builtin.Tuple.tupleExact _) (wpAny_newObj_type (wpAny_pure ⟨_, rfl, wpAny_pure h⟩) htake)
    | exact wpAny_bind (m := Builtin.Tuple.tupleExact _) (wpAny_newObj_type (wpAny_bind (wpAny_pure (wpAny_pure ⟨_, rfl, wpAny_pure h⟩))) htake)
    | exact wpAny_bind (wpAny_bind (m := Builtin.Tuple.tupleExact _) (wpAny_newObj_type (wpAny_pure (wpAny_pure ⟨_, rfl, wpAny_pure h⟩)) htake))
    | exact wpAny_bind (wpAny_bind (m := Builtin.Tuple.tupleExact _) (wpAny_newObj_type (wpAny_pure ⟨_, rfl, wpAny_pure h⟩) htake))
end
end HT

namespace L2
open PySem PySem.Spec PyProof.Rows

/-! ### the parts of a slice -/
abbrev TO := St → Hp → (Option Int → Hp → Prop) → Prop
/-- a slice's part (left out, or an int) -/
def PO (X : Cx) (e : Option Expr) (t : TO) : Prop :=
  ∀ (pins : List (Addr × Obj)) (s : Shared) (σ : St) (H : Hp) (Q : Option Int → Hp → Prop), Inv X pins σ H s → t σ H Q →
    wpAny (model X.prog X.w) X.A (evalPart e X.env) (fun u s' => ∃ o H', Inv X pins σ H' s' ∧ IsPart u o ∧ Q o H') X.xe s
def tNoPart : TO := fun _ H Q => Q none H
inductive RPart (x : V) (H : Hp) (Q : Option Int → Hp → Prop) : Prop where | mk (i : Int) (e : x = .int i) (q : Q (some i) H) : RPart x H Q
def tPart (t : TE) : TO := fun σ H Q => t σ H fun x H1 => RPart x H1 Q

section
variable {X : Cx} {e : Expr} {te : TE} {lo hi : Option Expr} {tl th : TO} {pos p2 : Pos}

theorem po_none : PO X none tNoPart := by
  intro pins s σ H Q I h
  rw [evalPart_none]
  exact wpAny_pure ⟨none, H, I, .none, h⟩
theorem po_some (h : PE X e te) : PO X (some e) (tPart te) := by
  intro pins s σ H Q I hw
  rw [evalPart_some]
  refine thn (h pins s σ H _ I hw) fun u s1 ⟨x, H1, I1, r1, q1⟩ => ?_
  obtain ⟨i, rfl, q⟩ := q1
  obtain ⟨t, rfl⟩ := r1
  exact ⟨some i, H1, I1, .int i t, q⟩

/-- what a slice of a value is, by values: the slice object stands at sl -/
def SlR (X : Cx) (r : V → Option Int → Option Int → Hp → VK → Prop) : Prop :=
  ∀ (pins : List (Addr × Obj)) (s : Shared) (σ : St) (H : Hp) (x : V) (v vl vu : Value) (lo hi : Option Int) (sl : Addr) (Q : VK), Inv X pins σ H s → RelV x v → s.heap.IsSliceOf sl vl vu .none → IsPart vl lo → IsPart vu hi → r x lo hi H Q →
    ∃ T id, typeLookup (.type T) "__getitem__" = pure (some (.builtin id)) ∧ s.TypeIs v T ∧ wpAny (model X.prog X.w) X.A (getItem v (.ref sl)) (EP X pins σ Q) X.xe s
def tSl (r : V → Option Int → Option Int → Hp → VK → Prop) (te : TE) (tl th : TO) : TE := fun σ H Q => te σ H fun x H1 => tl σ H1 fun l H2 => th σ H2 fun u H3 => r x l u H3 Q
/-- a[lo:hi], any a -/
theorem pe_slice {r : V → Option Int → Option Int → Hp → VK → Prop} (hr : SlR X r) (he : PE X e te) (hl : PO X lo tl) (hu : PO X hi th) : PE X (.Subscript e (.Slice lo hi none p2) pos) (tSl r te tl th) := by
  intro pins s σ H Q I h
  refine Subscript_ (thn (he pins s σ H _ I h) fun v s1 ⟨x, H1, I1, r1, q1⟩ => ?_)
  refine wpAny_Slice (thn (hl pins s1 σ H1 _ I1 q1) fun vl s2 ⟨l, H2, I2, pl, q2⟩ => thn (hu pins s2 σ H2 _ I2 q2) fun vu s3 ⟨u, H3, I3, pu, q3⟩ => ?_)
  rw [evalPart_none]
  refine wpAny_pure ?_
  have I4 : Inv X pins σ H3 { s3 with heap := s3.heap.push { cls := .type "slice", data := .fields #[vl, vu, .none] } } := I3.kept (t' := s3.toks) fun b ob q => Heap.get?_push_of_some _ q
  obtain ⟨T, id, hT, ht, hg⟩ := hr pins { s3 with heap := s3.heap.push { cls := .type "slice", data := .fields #[vl, vu, .none] } } σ H3 x v vl vu l u s3.heap.objs.size Q I4 r1 (Heap.IsSliceOf.new ..) pl pu q3
  show wpAny (model X.prog X.w) X.A (subscriptTail e (.Slice lo hi none p2) v (.ref s3.heap.objs.size)) (EP X pins σ Q) X.xe { s3 with heap := s3.heap.push { cls := .type "slice", data := .fields #[vl, vu, .none] } }
  exact tail_any (ops := [.ref s3.heap.objs.size, v]) ht hT hg (by with_unfolding_all rfl)

/-- the items of xs[lo:hi] -/
def cutV (xs : List V) (lo hi : Option Int) : List V := (xs.drop (HT.sIx xs.length 0 lo)).take (HT.sIx xs.length xs.length hi - HT.sIx xs.length 0 lo)
theorem cutV_length (xs : List V) (lo hi : Option Int) : (cutV xs lo hi).length ≤ xs.length := by
  unfold cutV
  rw [List.length_take, List.length_drop]
  omega
/-- t[lo:hi], not the whole of it (the whole would be t itself) -/
def rSlT (K : PySem.W.Frag) : V → Option Int → Option Int → Hp → VK → Prop := fun x lo hi H Q => ∃ a xs, x = .ref a ∧ SqT K H a xs ∧
  ¬ (HT.sIx xs.length 0 lo = 0 ∧ HT.sIx xs.length xs.length hi = xs.length) ∧ ∀ p, H p = none → Q (.ref p) (upd H p (.tup (cutV xs lo hi)))
theorem sl_tup : SlR X (rSlT X.K) := by
  intro pins s σ H x v vl vu lo hi sl Q I rx hs pl pu h
  obtain ⟨a, xs, rfl, hx, hw, q⟩ := h
  cases rx
  obtain ⟨its, r, ht, hz⟩ := I.tuple hx
  have hlen : its.toArray.size = xs.length := by rw [List.size_toArray]; exact r.length.symm
  refine ⟨"tuple", _, PyProof.Rows.slot_tuple_getitem.lookup, ht.typeIs, ?_⟩
  refine HT.getItem_tuple_cut ht hs pl pu (by rw [hlen]; exact hw) ?_ (by rw [hlen]; exact hz)
  rw [hlen]
  refine ⟨.ref s.heap.objs.size, _, I.laid (t' := s.toks) (o := .tup (cutV xs lo hi)) (fun b ob q => Heap.get?_push_of_some _ q) (Nat.le_refl _) ?_, rfl, q _ (I.hok.fresh (Nat.le_refl _))⟩
  exact ⟨Nat.le_trans (cutV_length xs lo hi) hz, _, (r.drop (HT.sIx xs.length 0 lo)).take (HT.sIx xs.length xs.length hi - HT.sIx xs.length 0 lo), IsTup.new _ _⟩

/-! ### t < u, t + u -/
end
end L2

namespace L2
open PySem PySem.Spec PyProof.Rows

/-! ### places -/
/-- the place that an index of any sign means -/
def ixN (n : Nat) (i : Int) : Option Nat := if 0 ≤ i then (if i < n then some i.toNat else none) else if -(n : Int) ≤ i then some (i + n).toNat else none
def atI {α : Type} (xs : List α) (i : Int) : Option α := (ixN xs.length i).bind fun j => xs[j]?
theorem ixN_seq {n : Nat} {i : Int} {j : Nat} (h : ixN n i = some j) : seqIndex? i n = some j ∧ j < n ∧ -(n : Int) ≤ i ∧ i < n := by
  unfold ixN at h
  by_cases h0 : 0 ≤ i
  · rw [if_pos h0] at h
    by_cases h1 : i < n
    · rw [if_pos h1] at h
      have e : i.toNat = j := Option.some.inj h
      exact ⟨by rw [seqIndex_of h0 h1, e], by omega, by omega, h1⟩
    · rw [if_neg h1] at h; cases h
  · rw [if_neg h0] at h
    by_cases h1 : -(n : Int) ≤ i
    · rw [if_pos h1] at h
      have e : (i + n).toNat = j := Option.some.inj h
      exact ⟨by rw [seqIndex_neg (by omega) h1, e], by omega, h1, by omega⟩
    · rw [if_neg h1] at h; cases h
theorem atI_get {α : Type} {xs : List α} {i : Int} {v : α} (h : atI xs i = some v) : ∃ j, seqIndex? i xs.length = some j ∧ xs[j]? = some v ∧ j < xs.length ∧ -(xs.length : Int) ≤ i ∧ i < xs.length := by
  unfold atI at h
  cases e : ixN xs.length i with
  | none => rw [e] at h; cases h
  | some j =>
    rw [e] at h
    obtain ⟨h1, h2, h3, h4⟩ := ixN_seq e
    exact ⟨j, h1, h, h2, h3, h4⟩
theorem atI_nat {α : Type} {xs : List α} {j : Nat} {v : α} (h : xs[j]? = some v) : atI xs (j : Int) = some v := by
  have hj : j < xs.length := (List.getElem?_eq_some_iff.mp h).1
  have e : ixN xs.length (j : Int) = some j := by
    unfold ixN
    rw [if_pos (by omega), if_pos (by omega)]; simp
  unfold atI; rw [e]; exact h
/-! ### what may be subscripted -/
/-- what stands as an index of a plain subscript -/
def PlainIx (b : Expr) : Prop := ∀ o i, subscripted b false o i = operate [o, i] (getItem o i)
/-- a subscript by values -/
def IxR (X : Cx) (r : R2) : Prop :=
  ∀ (value slice : Expr) (pins : List (Addr × Obj)) (s : Shared) (σ : St) (H : Hp) (x y : V) (v u : Value) (Q : VK), Inv X pins σ H s → RelV x v → RelV y u → r x y H Q →
    subscripted slice false v u = operate [v, u] (getItem v u) → wpAny (model X.prog X.w) X.A (subscriptTail value slice v u) (EP X pins σ Q) X.xe s
/-- a call of a builtin's method by values: the receiver, the arguments -/
def MtR (X : Cx) (id : String) (r : V → List V → Hp → VK → Prop) : Prop :=
  ∀ (pins : List (Addr × Obj)) (s : Shared) (σ : St) (H : Hp) (x : V) (xs : List V) (v : Value) (us : List Value) (Q : VK), Inv X pins σ H s → RelV x v → Vals xs us → r x xs H Q →
    wpAny (model X.prog X.w) X.A (call (.builtin id) (v :: us)) (EP X pins σ Q) X.xe s
section
variable {X : Cx} {a b : Expr} {ta tb : TE} {pos : Pos}
/-- a[b] -/
theorem pe_ix {r : R2} (hr : IxR X r) (ha : PE X a ta) (hb : PE X b tb) (hs : PlainIx b) : PE X (.Subscript a b pos) (tOp r ta tb) := by
  intro pins s σ H Q I h
  exact Subscript_ (binT ha hb I h fun v u s2 x y H2 I2 rx ry q => hr a b pins s2 σ H2 x y v u Q I2 rx ry q (hs _ _))

inductive RIxL (K : PySem.W.Frag) (x y : V) (H : Hp) (Q : VK) : Prop where | mk (p : Addr) (xs : List V) (i : Int) (v : V) (ex : x = .ref p) (ey : y = .int i) (hs : SqL K H p xs) (ha : atI xs i = some v) (q : Q v H) : RIxL K x y H Q
def rIxL (K : PySem.W.Frag) : R2 := fun x y H Q => RIxL K x y H Q
inductive RIxT (K : PySem.W.Frag) (x y : V) (H : Hp) (Q : VK) : Prop where | mk (p : Addr) (xs : List V) (i : Int) (v : V) (ex : x = .ref p) (ey : y = .int i) (hs : SqT K H p xs) (ha : atI xs i = some v) (q : Q v H) : RIxT K x y H Q
def rIxT (K : PySem.W.Frag) : R2 := fun x y H Q => RIxT K x y H Q
def rIxS : R2 := fun x y H Q => ∃ z i c, x = .str z ∧ y = .int i ∧ z.length ≤ sizeLine ∧ atI z.cps.toList i = some c ∧ Q (.str ⟨#[c]⟩) H
theorem ix_list : IxR X (rIxL X.K) := by
  intro value slice pins s σ H x y v u Q I rx ry h hs
  obtain ⟨p, xs, i, z, rfl, rfl, hq, he, q⟩ := h
  cases rx
  obtain ⟨t, rfl⟩ := ry
  obtain ⟨its, r, pl, hz⟩ := I.list hq
  obtain ⟨j, h1, h2, h3, h4, h5⟩ := atI_get he
  obtain ⟨w, ew, rw'⟩ := r.get h2
  have hl := r.length
  have hn := line63
  have fin : EP X pins σ Q w s := ⟨z, H, I, rw', q⟩
  by_cases h0 : 0 ≤ i
  · have hj : i.toNat = j := by
      rw [seqIndex_of h0 h5] at h1
      exact Option.some.inj h1
    exact item_listR pl.isList h0 (by omega) (by rw [hj]; simpa using ew) fin hs
  · have hj : (i + (its.toArray.size : Int)).toNat = j := by
      rw [seqIndex_neg (by omega) h4] at h1
      rw [List.size_toArray, ← hl]
      exact Option.some.inj h1
    exact subscriptTail_builtinR (x := w) pl.isList.typeIs slot_list_getitem.lookup
      (wpAny_getItem_list_neg (Q := fun r s' => r = w ∧ EP X pins σ Q r s') pl.isList (by omega) (by rw [List.size_toArray] <;> omega) (by omega) (by rw [hj]; simpa using ew) ⟨rfl, fin⟩) hs
theorem ix_tup : IxR X (rIxT X.K) := by
  intro value slice pins s σ H x y v u Q I rx ry h hs
  obtain ⟨p, xs, i, z, rfl, rfl, hq, he, q⟩ := h
  cases rx
  obtain ⟨t, rfl⟩ := ry
  obtain ⟨its, r, pl, hz⟩ := I.tuple hq
  obtain ⟨j, h1, h2, h3, h4, h5⟩ := atI_get he
  obtain ⟨w, ew, rw'⟩ := r.get h2
  have hl := r.length
  have hn := line63
  have fin : EP X pins σ Q w s := ⟨z, H, I, rw', q⟩
  exact subscriptTail_builtinR (x := w) pl.typeIs slot_tuple_getitem.lookup
    (getItem_tuple (j := j) (Q := fun r s' => r = w ∧ EP X pins σ Q r s') pl (by omega) (by omega) (by rw [List.size_toArray, ← hl]; exact h1) (by simpa using ew) ⟨rfl, fin⟩) hs
theorem ix_str : IxR X rIxS := by
  intro value slice pins s σ H x y v u Q I rx ry h hs
  obtain ⟨z, i, c, rfl, rfl, hz, he, q⟩ := h
  obtain ⟨t, rfl⟩ := rx
  obtain ⟨t', rfl⟩ := ry
  obtain ⟨j, h1, h2, h3, h4, h5⟩ := atI_get he
  have hl : z.cps.toList.length = z.length := by simp [Str.length]
  rw [hl] at h1 h4 h5
  have hn := line63
  exact tail_any (typeIs_str s z t) slot_str_getitem.lookup (getItem_str (c := c) (by
    have e1 : decide (i < -(2 ^ 63 : Int)) = false := decide_eq_false (by omega)
    have e2 : decide (i ≥ 2 ^ 63) = false := decide_eq_false (by omega)
    rw [e1, e2, Bool.or_false]) (by rw [h1]; simpa using h2) ⟨.str ⟨#[c]⟩, H, I.tok _, ⟨_, rfl⟩, q⟩) hs
/-! ### xs[i] = v, any sign -/
/-! ### slices -/
theorem slice_bounds (lo hi : Option Int) (n : Nat) : (sliceBounds lo hi none n).1 = ((HT.sIx n 0 lo : Nat) : Int) ∧ (sliceBounds lo hi none n).2.1 = ((HT.sIx n n hi : Nat) : Int) ∧ (sliceBounds lo hi none n).2.2 = 1 := by
  refine ⟨?_, ?_, rfl⟩
  · cases lo with
    | none => simp [sliceBounds, HT.sIx]
    | some i =>
      simp only [sliceBounds, HT.sIx, Option.getD_none, show (1 : Int) > 0 by decide, if_true]
      by_cases h : i < 0
      · simp only [h, if_true] <;> omega
      · simp only [h, if_false] <;> omega
  · cases hi with
    | none => simp [sliceBounds, HT.sIx]
    | some i =>
      simp only [sliceBounds, HT.sIx, Option.getD_none, show (1 : Int) > 0 by decide, if_true]
      by_cases h : i < 0
      · simp only [h, if_true] <;> omega
      · simp only [h, if_false] <;> omega
theorem slicePick_cut (its : List Value) (lo hi : Option Int) : slicePick its.toArray lo hi none = ((its.drop (HT.sIx its.length 0 lo)).take (HT.sIx its.length its.length hi - HT.sIx its.length 0 lo)).toArray := by
  obtain ⟨h1, h2, h3⟩ := slice_bounds lo hi its.toArray.size
  unfold slicePick
  rw [h1, h2, h3]
  simp only [sliceRange_one, pick_run, List.size_toArray] <;> rfl
/-- xs[lo:hi] of a list: a new list -/
inductive RSlL (K : PySem.W.Frag) (x : V) (lo hi : Option Int) (H : Hp) (Q : VK) : Prop where | mk (a : Addr) (xs : List V) (ex : x = .ref a) (hs : SqL K H a xs) (q : ∀ p, H p = none → Q (.ref p) (upd H p (.lst (cutV xs lo hi)))) : RSlL K x lo hi H Q
def rSlL (K : PySem.W.Frag) : V → Option Int → Option Int → Hp → VK → Prop := fun x lo hi H Q => RSlL K x lo hi H Q
theorem sl_list : SlR X (rSlL X.K) := by
  intro pins s σ H x v vl vu lo hi sl Q I rx hs pl pu h
  obtain ⟨a, xs, rfl, hx, q⟩ := h
  cases rx
  obtain ⟨its, r, ht, hz⟩ := I.list hx
  have hlen := r.length
  refine ⟨"list", _, slot_list_getitem.lookup, ht.isList.typeIs, ?_⟩
  refine wpAny_getItem_list_slice ht.isList hs pl pu .none (by simp) ?_ (by rw [List.size_toArray] <;> omega)
  rw [slicePick_cut, ← hlen]
  refine ⟨.ref s.heap.objs.size, _, I.laid (t' := s.toks) (o := .lst (cutV xs lo hi)) (fun b ob q => Heap.get?_push_of_some _ q) (Nat.le_refl _) ?_, rfl, q _ (I.hok.fresh (Nat.le_refl _))⟩
  exact ⟨Nat.le_trans (cutV_length xs lo hi) hz, _, 0, (r.drop (HT.sIx xs.length 0 lo)).take (HT.sIx xs.length xs.length hi - HT.sIx xs.length 0 lo), Heap.get?_push_size _ rfl⟩

/-! ### in, not in: flat items -/
def flatV : V → Bool
  | .non => true
  | .bl _ => true
  | .int _ => true
  | .str _ => true
  | _ => false
/-- == of flat values -/
def eqV : V → V → Bool
  | .non, .non => true
  | .bl a, .bl b => a == b
  | .bl a, .int b => (if a then 1 else 0) == b
  | .int a, .bl b => a == (if b then 1 else 0)
  | .int a, .int b => a == b
  | .str a, .str b => a == b
  | _, _ => false
theorem eqAt_V {A : Around} {s : Shared} {y x : V} {u v : Value} (ry : RelV y u) (rx : RelV x v) (fy : flatV y = true) (fx : flatV x = true) : SeqAt.EqAt A s u v (eqV y x) := by
  cases y with
  | non =>
    cases ry
    cases x with
    | non => cases rx; exact SeqAt.EqAt.same _
    | bl b => cases rx; exact SeqAt.EqAt.none_bool b
    | int b => obtain ⟨t, rfl⟩ := rx; exact SeqAt.EqAt.none_int b t
    | str b => obtain ⟨t, rfl⟩ := rx; exact SeqAt.EqAt.none_str b t
    | _ => exact absurd (show false = true from fx) Bool.false_ne_true
  | bl a =>
    cases ry
    cases x with
    | non => cases rx; exact SeqAt.EqAt.bool_none a
    | bl b => cases rx; exact SeqAt.EqAt.bool_bool a b
    | int b => obtain ⟨t, rfl⟩ := rx; exact SeqAt.EqAt.bool_int a b t
    | str b => obtain ⟨t, rfl⟩ := rx; exact SeqAt.EqAt.bool_str a b t
    | _ => exact absurd (show false = true from fx) Bool.false_ne_true
  | int a =>
    obtain ⟨t', rfl⟩ := ry
    cases x with
    | non => cases rx; exact SeqAt.EqAt.int_none a t'
    | bl b => cases rx; exact SeqAt.EqAt.int_bool a t' b
    | int b => obtain ⟨t, rfl⟩ := rx; exact SeqAt.EqAt.int_int a t' b t
    | str b => obtain ⟨t, rfl⟩ := rx; exact SeqAt.EqAt.int_str a t' b t
    | _ => exact absurd (show false = true from fx) Bool.false_ne_true
  | str a =>
    obtain ⟨t', rfl⟩ := ry
    cases x with
    | non => cases rx; exact SeqAt.EqAt.str_none a t'
    | bl b => cases rx; exact SeqAt.EqAt.str_bool a t' b
    | int b => obtain ⟨t, rfl⟩ := rx; exact SeqAt.EqAt.str_int a t' b t
    | str b => obtain ⟨t, rfl⟩ := rx; exact SeqAt.EqAt.str_str a t' b t
    | _ => exact absurd (show false = true from fx) Bool.false_ne_true
  | _ => exact absurd (show false = true from fy) Bool.false_ne_true
/-! ### len, list(x), tuple(x) of any list or tuple that is read -/
theorem call_len_seq : CallR X (.builtin "len") (fun xs H Q => ∃ p ys, xs = [.ref p] ∧ (SqL X.K H p ys ∨ SqT X.K H p ys) ∧ Q (.int ys.length) H) := by
  intro pins s σ H xs us Q I r h
  obtain ⟨p, ys, rfl, hq, q⟩ := h
  obtain ⟨u, rfl, rx⟩ := vals1 r
  cases rx
  have hn := line63
  rcases hq with hq | hq
  · obtain ⟨its, r', pl, hz⟩ := I.list hq
    have hlen := r'.length
    exact Calls.call_len_list pl.isList (by simp only [List.size_toArray] <;> omega) ⟨.int ys.length, H, I.tok _, ⟨s.toks + 1, by rw [List.size_toArray, hlen]⟩, q⟩
  · obtain ⟨its, r', pl, hz⟩ := I.tuple hq
    have hlen := r'.length
    exact len_tuple pl (by simp only [List.size_toArray] <;> omega) ⟨.int ys.length, H, I.tok _, ⟨s.toks + 1, by rw [List.size_toArray, hlen]⟩, q⟩
theorem call_len_str : CallR X (.builtin "len") (fun xs H Q => ∃ z, xs = [.str z] ∧ z.length ≤ sizeLine ∧ Q (.int z.length) H) := by
  intro pins s σ H xs us Q I r h
  obtain ⟨z, rfl, hz, q⟩ := h
  obtain ⟨u, rfl, t, rfl⟩ := vals1 r
  have hn := line63
  exact len_str (by omega) ⟨.int z.length, H, I.tok _, ⟨_, rfl⟩, q⟩
theorem call_list_of : CallR X (.type "list") (fun xs H Q => ∃ p ys, xs = [.ref p] ∧ (SqL X.K H p ys ∨ SqT X.K H p ys) ∧ ∀ l, H l = none → Q (.ref l) (upd H l (.lst ys))) := by
  intro pins s σ H xs us Q I r h
  obtain ⟨p, ys, rfl, hq, q⟩ := h
  obtain ⟨u, rfl, rx⟩ := vals1 r
  cases rx
  have fin : ∀ (its : List Value), Vals ys its → ys.length ≤ sizeLine → ∀ (h' : Heap) (c' : Nat), (∀ b o', s.heap.get? b = some o' → h'.get? b = some o') →
      h'.get? s.heap.objs.size = some { cls := .type "list", dict := none, data := .seq its.toArray c', slots := #[] } → EP X pins σ Q (.ref s.heap.objs.size) { s with heap := h' } := fun its r' hz h' c' kp e =>
    ⟨.ref s.heap.objs.size, _, I.laid (t' := s.toks) kp (Nat.le_refl _) (show ObjOk X.prog X.w _ h' _ (.lst ys) from ⟨hz, its, c', r', e⟩), rfl, q _ (I.hok.fresh (Nat.le_refl _))⟩
  rcases hq with hq | hq
  · obtain ⟨its, r', pl, hz⟩ := I.list hq
    have hlen := r'.length
    obtain ⟨o, ho, hc, n, hd⟩ := pl.isList
    exact call_list_seq p (.inl rfl) ho hc hd (fun h' c' kp e => fin its r' hz h' c' kp e) (by simp only [List.size_toArray] <;> omega)
  · obtain ⟨its, r', pl, hz⟩ := I.tuple hq
    have hlen := r'.length
    obtain ⟨o, ho, hc, n, hd⟩ := pl
    exact call_list_seq p (.inr rfl) ho hc hd (fun h' c' kp e => fin its r' hz h' c' kp e) (by simp only [List.size_toArray] <;> omega)
theorem call_tuple_of : CallR X (.type "tuple") (fun xs H Q => ∃ p ys, xs = [.ref p] ∧ ((SqL X.K H p ys ∧ ∀ l, H l = none → Q (.ref l) (upd H l (.tup ys))) ∨ (SqT X.K H p ys ∧ Q (.ref p) H))) := by
  intro pins s σ H xs us Q I r h
  obtain ⟨p, ys, rfl, h⟩ := h
  obtain ⟨u, rfl, rx⟩ := vals1 r
  cases rx
  rcases h with ⟨hq, q⟩ | ⟨hq, q⟩
  · obtain ⟨its, r', pl, hz⟩ := I.list hq
    have hlen := r'.length
    refine call_tuple_list pl.isList (fun h' kp => ?_) (by simp only [List.size_toArray] <;> omega)
    have I1 : Inv X pins σ H { s with heap := h' } := I.kept (t' := s.toks) kp
    have I2 : Inv X pins σ (upd H h'.objs.size (.tup ys)) { s with heap := h'.push { cls := .type "tuple", data := .seq its.toArray } } :=
      I1.laid (t' := s.toks) (fun b o e => Heap.get?_push_of_some _ e) (Nat.le_refl _) (show ObjOk X.prog X.w _ _ _ (.tup ys) from ⟨hz, its, r', IsTup.new _ _⟩)
    exact ⟨.ref h'.objs.size, _, I2, rfl, q _ (I1.hok.fresh (Nat.le_refl _))⟩
  · obtain ⟨its, r', pl, hz⟩ := I.tuple hq
    exact call_tuple_same pl ⟨.ref p, H, I, rfl, q⟩

/-! ### the call of a builtin's method: o.m(..) -/
/-- the value is of that builtin type -/
def tyV (K : PySem.W.Frag) (T : String) (x : V) (H : Hp) : Prop := match x with
  | .str _ => T = "str"
  | .int _ => T = "int"
  | .ref p => (T = "list" ∧ ∃ xs, SqL K H p xs) ∨ (T = "tuple" ∧ ∃ o, K.lookup p = some o ∧ o.cls = .type "tuple" ∧ o.dict = none) ∨
      (T = "dict" ∧ ((∃ kvs, H p = some (.dK kvs)) ∨ ∃ kvs, H p = some (.dT kvs))) ∨ (T = "set" ∧ ∃ S n, H p = some (.set S n))
  | _ => False
theorem tyV_is {pins : List (Addr × Obj)} {σ : St} {H : Hp} {s : Shared} {T : String} {x : V} {v : Value} (I : Inv X pins σ H s) (r : RelV x v) (ty : tyV X.K T x H) :
    s.TypeIs v T ∧ ∀ a, v = .ref a → ∃ ob, s.heap.get? a = some ob ∧ ob.dict = none := by
  cases x with
  | str z =>
    obtain ⟨t, rfl⟩ := r
    cases (show T = "str" from ty)
    exact ⟨typeIs_str s z t, fun _ e => nomatch e⟩
  | int i =>
    obtain ⟨t, rfl⟩ := r
    cases (show T = "int" from ty)
    exact ⟨typeIs_int s i t, fun _ e => nomatch e⟩
  | ref p =>
    cases r
    rcases ty with ⟨rfl, xs, hq⟩ | ⟨rfl, o, hk, hc, hd⟩ | ⟨rfl, hk⟩ | ⟨rfl, S, n, hk⟩
    · obtain ⟨its, _, pl, _⟩ := I.list hq
      refine ⟨pl.isList.typeIs, fun a e => ?_⟩
      cases e
      obtain ⟨o, n, e, c, hd, _⟩ := pl
      exact ⟨o, e, hd⟩
    · refine ⟨⟨o, I.kIn p o hk, hc⟩, fun a e => ?_⟩
      cases e
      exact ⟨o, I.kIn _ o hk, hd⟩
    · have z : ∃ o, s.heap.get? p = some o ∧ o.ExactDict := by
        rcases hk with ⟨kvs, hk⟩ | ⟨kvs, hk⟩
        · obtain ⟨_, _, _, _, o, _, _, e, ex, _⟩ := I.hok p _ hk
          exact ⟨o, e, ex⟩
        · obtain ⟨_, _, _, _, o, _, _, e, ex, _⟩ := I.hok p _ hk
          exact ⟨o, e, ex⟩
      obtain ⟨o, e, ex⟩ := z
      refine ⟨⟨o, e, ex.1⟩, fun a e2 => ?_⟩
      cases e2
      exact ⟨o, e, ex.2.1⟩
    · obtain ⟨o, _, _, _, e, ex, _⟩ := I.hok p _ hk
      refine ⟨⟨o, e, ex.1⟩, fun a e2 => ?_⟩
      cases e2
      exact ⟨o, e, ex.2.1⟩
  | _ => exact False.elim ty
def tBM0 (K : PySem.W.Frag) (T : String) (r : V → List V → Hp → VK → Prop) (to : TE) : TE := fun σ H Q => to σ H fun x H1 => tyV K T x H1 ∧ r x [] H1 Q
def tBM (K : PySem.W.Frag) (T : String) (r : V → List V → Hp → VK → Prop) (to : TE) (t : TA) : TE := fun σ H Q => to σ H fun x H1 => tyV K T x H1 ∧ t σ H1 fun xs H2 => r x xs H2 Q
variable {o e : Expr} {es : List Expr} {to : TE} {t : TA} {name : Str} {apos cpos : Pos} {T id : String} {r : V → List V → Hp → VK → Prop}
theorem pe_bm0 (pa : PlainAttrs T) (slot : Slot T name id) (hty : typeOf (.builtin id) = pure (.type "method_descriptor")) (hm : MtR X id r) (ho : PE X o to)
    (hbase : attributeBase o name X.env (eval o X.env) = eval o X.env := by rfl) (hline : (apos.endLine == cpos.line) = true := by rfl) : PE X (.Call (.Attribute o name apos) [] [] cpos) (tBM0 X.K T r to) := by
  intro pins s σ H Q I h
  refine wpAny_Call_method0_late hbase hline (thn (ho pins s σ H _ I h) fun v s1 ⟨x, H1, I1, r1, ty, q1⟩ => ?_)
  obtain ⟨h1, h2⟩ := tyV_is I1 r1 ty
  exact ⟨T, id, pa, slot, hty, h1, h2, Calls.callWith_builtin rfl (PySem.evalArgs_none (hm pins s1 σ H1 x [] v [] Q I1 r1 .nil q1))⟩
theorem pe_bm (pa : PlainAttrs T) (slot : Slot T name id) (hty : typeOf (.builtin id) = pure (.type "method_descriptor")) (hm : MtR X id r) (ho : PE X o to) (ha : PA X (e :: es) t)
    (hbase : attributeBase o name X.env (eval o X.env) = eval o X.env := by rfl)
    (hfew : ((backTo cpos (starEach (e :: es) X.env)).all (fun x => !x.1) && (backToKw cpos (keywordEach [] X.env)).all (fun x => x.1.isSome)
      && decide ((e :: es).length + ([] : List Keyword).length + (if ([] : List Keyword).isEmpty then 0 else 1) < 30)) = true := by rfl)
    (hline : (apos.endLine == cpos.line) = true := by rfl) (hs : starEach (e :: es) X.env = (false, eval e X.env) :: starEach es X.env := by rfl) (hplain : (backTo cpos (starEach es X.env)).any (·.1) = false := by rfl) :
    PE X (.Call (.Attribute o name apos) (e :: es) [] cpos) (tBM X.K T r to t) := by
  intro pins s σ H Q I h
  refine wpAny_Call_method_late hbase hfew hline rfl (thn (ho pins s σ H _ I h) fun v s1 ⟨x, H1, I1, r1, ty, q1⟩ => ?_)
  obtain ⟨h1, h2⟩ := tyV_is I1 r1 ty
  refine ⟨T, id, pa, slot, hty, h1, h2, ?_⟩
  have hA := ha cpos pins s1 σ H1 _ I1 q1
  rw [hs] at hA ⊢
  refine Calls.callWith_builtin (by show (false || (backTo cpos (starEach es X.env)).any (·.1)) = false; rw [hplain] <;> rfl) (Calls.evalArgs_plain ?_)
  exact thn hA fun us s2 ⟨vs, H2, I2, r2, q2⟩ => hm pins s2 σ H2 x vs v us Q I2 r1 r2 q2
/- xs.append(e), list.index on a module's tuple .. are MtR facts of 06m -/
end
end L2

namespace L2
open PySem PySem.Spec PyProof.Rows

def MtM (X : Cx) (id : String) (r : V → List V → Hp → VK → Prop) : Prop :=
  ∀ (pins : List (Addr × Obj)) (s : Shared) (σ : St) (H : Hp) (x : V) (xs : List V) (v : Value) (us : List Value) (Q : VK), Inv X pins σ H s → RelV x v → Vals xs us → r x xs H Q →
    wpAny (model X.prog X.w) X.A (call (.builtin id) (v :: us)) (EP X pins σ Q) X.xe s

/-! ### lists of values -/
theorem Vals.one : ∀ {x : V} {us : List Value}, Vals [x] us → ∃ u, us = [u] ∧ RelV x u
  | _, _, .cons r .nil => ⟨_, rfl, r⟩
theorem Vals.zero : ∀ {us : List Value}, Vals [] us → us = []
  | _, .nil => rfl
theorem Vals.dropLast {xs : List V} {us : List Value} (h : Vals xs us) : Vals xs.dropLast us.dropLast := by
  induction h with
  | nil => exact .nil
  | cons r t ih =>
    cases t with
    | nil => exact .nil
    | cons q t' => exact .cons r ih
theorem Vals.rep {xs : List V} {us : List Value} (h : Vals xs us) : ∀ k : Nat, Vals (List.replicate k xs).flatten (List.replicate k us).flatten
  | 0 => .nil
  | k + 1 => by
    rw [List.replicate_succ, List.replicate_succ, List.flatten_cons, List.flatten_cons]
    exact Vals.append h (Vals.rep h k)
theorem erase_last {α : Type} (l : List α) : l.eraseIdx (l.length - 1) = l.dropLast := by
  induction l with
  | nil => rfl
  | cons a r ih =>
    cases r with
    | nil => rfl
    | cons b r =>
      have e : (a :: b :: r).length - 1 = ((b :: r).length - 1) + 1 := by
        have h1 : (a :: b :: r).length = r.length + 2 := rfl
        have h2 : (b :: r).length = r.length + 1 := rfl
        omega
      rw [e, List.eraseIdx_cons_succ, ih]
      all_goals rfl
theorem foldl_rep (its : List Value) : ∀ (k : Nat) (acc : List Value),
    List.foldl (fun x1 x2 => x1 ++ x2) acc.toArray (List.replicate k its.toArray) = (acc ++ (List.replicate k its).flatten).toArray
  | 0, acc => by simp
  | k + 1, acc => by
    have e : acc.toArray ++ its.toArray = (acc ++ its).toArray := by simp
    have e2 : (acc ++ its) ++ (List.replicate k its).flatten = acc ++ (List.replicate (k + 1) its).flatten := by
      rw [List.replicate_succ, List.flatten_cons, List.append_assoc]
    rw [← e2, ← foldl_rep its k (acc ++ its), ← e, List.replicate_succ, List.foldl_cons]

section
variable {X : Cx} {pins : List (Addr × Obj)} {σ : St} {H : Hp} {s : Shared} {l b : Addr} {xs ys zs : List V}

/-! ### the two steps: a tracked list is rewritten, a new list is laid -/
theorem Inv.lset {its its' : List Value} {n : Nat} {f : Array Value → Array Value} {t' : Nat} (I : Inv X pins σ H s) (hH : H l = some (.lst xs))
    (e : s.heap.get? l = some { cls := .type "list", data := .seq its.toArray n }) (hf : f its.toArray = its'.toArray) (hv : Vals ys its') (hz : ys.length ≤ sizeLine) :
    Inv X pins σ (upd H l (.lst ys)) { s with heap := s.heap.update l (Obj.mapSeq f), toks := t' } := by
  have q := PySem.IsL.update e f
  rw [hf] at q
  refine I.write (x := l) (e := l) (by rw [hH]; exact trivial) (.inl rfl) (fun b' u hb hu => (Heap.get?_update_other s.heap (Obj.mapSeq f) (Ne.symm hb)).trans hu) ⟨_, q⟩ ?_
  exact ⟨hz, its', _, hv, q⟩
theorem Inv.lnew {its : List Value} {t' : Nat} (I : Inv X pins σ H s) (hv : Vals ys its) (hz : ys.length ≤ sizeLine) :
    Inv X pins σ (upd H s.heap.objs.size (.lst ys)) { s with heap := s.heap.push { cls := .type "list", data := .seq its.toArray }, toks := t' } :=
  I.laid (fun _ _ q => Heap.get?_push_of_some _ q) (Nat.le_refl _) ⟨hz, its, 0, hv, Heap.get?_push_size _ rfl⟩
theorem Inv.fresh (I : Inv X pins σ H s) : H s.heap.objs.size = none := I.hok.fresh (Nat.le_refl _)
theorem Inv.lstM (I : Inv X pins σ H s) (hH : H l = some (.lst xs)) : xs.length ≤ sizeLine ∧ ∃ (its : List Value) (n : Nat), Vals xs its ∧ xs.length = its.length ∧ s.heap.get? l = some { cls := .type "list", data := .seq its.toArray n } := by
  obtain ⟨z, its, n, r, e⟩ := I.hok l _ hH
  exact ⟨z, its, n, r, r.length, e⟩

theorem notLongL {n : Nat} (h : n ≤ sizeLine) : Builtin.List.listTooLong n = false := by
  unfold Builtin.List.listTooLong
  exact decide_eq_false (by omega)
end

section
variable {X : Cx}

/-! ### methods -/
inductive RApp (x : V) (vs : List V) (H : Hp) (Q : VK) : Prop where | mk (l : Addr) (xs : List V) (y : V) (ex : x = .ref l) (ev : vs = [y]) (hl : H l = some (.lst xs)) (hs : xs.length < sizeLine) (q : Q .non (upd H l (.lst (xs ++ [y])))) : RApp x vs H Q
def rAppend : V → List V → Hp → VK → Prop := fun x vs H Q => RApp x vs H Q
theorem mt_append : MtM X "list.append" rAppend := by
  intro pins s σ H x vs v us Q I rx rv h
  obtain ⟨l, xs, y, rfl, rfl, hH, hz, q⟩ := h
  cases rx
  obtain ⟨u, rfl, ru⟩ := rv.one
  obtain ⟨z, its, n, r, hl, e⟩ := I.lstM hH
  refine call_meets F.slot_list_append ⟨_, e, rfl⟩ F.entry_list_append (F.args_list_append_2 _ _) (PySem.list_append l its.toArray n u (by rw [List.size_toArray]; omega)) ⟨e, ?_⟩
  refine ⟨.non, _, I.lset (its' := its ++ [u]) hH e (by simp) (r.append (.cons ru .nil)) ?_, rfl, q⟩
  rw [List.length_append, List.length_singleton]
  omega

def rExtend : V → List V → Hp → VK → Prop := fun x vs H Q => ∃ l b xs zs, x = .ref l ∧ vs = [.ref b] ∧ H l = some (.lst xs) ∧ H b = some (.lst zs) ∧ xs.length + zs.length ≤ sizeLine ∧ Q .non (upd H l (.lst (xs ++ zs)))
theorem mt_extend : MtM X "list.extend" rExtend := by
  intro pins s σ H x vs v us Q I rx rv h
  obtain ⟨l, b, xs, zs, rfl, rfl, hH, hB, hz, q⟩ := h
  cases rx
  obtain ⟨u, rfl, ru⟩ := rv.one
  cases ru
  obtain ⟨z, its, n, r, hl, e⟩ := I.lstM hH
  obtain ⟨z2, its2, n2, r2, hl2, e2⟩ := I.lstM hB
  have hsz : its.toArray.size + its2.toArray.size ≤ sizeLine := by rw [List.size_toArray, List.size_toArray]; omega
  have hlong : ¬ (!its.toArray.isEmpty && Builtin.List.listTooLong (its.toArray.size + its2.toArray.size)) = true := by
    rw [notLongL hsz, Bool.and_false]
    exact Bool.false_ne_true
  refine call_meets F.slot_list_extend ⟨_, e, rfl⟩ F.entry_list_extend (F.args_list_extend_2 _ _)
    (AutoSeq1.list_extend_list_list_0 l its.toArray n b its2.toArray n2 hlong (by rw [List.size_toArray]; omega) (by omega)) ⟨e, e2, ?_⟩
  refine ⟨.non, _, I.lset (its' := its ++ its2) hH e (by simp) (r.append r2) ?_, rfl, q⟩
  rw [List.length_append]
  omega

def rPop : V → List V → Hp → VK → Prop := fun x vs H Q => ∃ l xs y, x = .ref l ∧ vs = [] ∧ H l = some (.lst xs) ∧ xs[xs.length - 1]? = some y ∧ Q y (upd H l (.lst xs.dropLast))
theorem mt_pop : MtM X "list.pop" rPop := by
  intro pins s σ H x vs v us Q I rx rv h
  obtain ⟨l, xs, y, rfl, rfl, hH, hy, q⟩ := h
  cases rx
  have hus := rv.zero
  subst hus
  obtain ⟨z, its, n, r, hl, e⟩ := I.lstM hH
  obtain ⟨u, hu, ru⟩ := r.get hy
  have hy' : its.toArray[its.toArray.size - 1]? = some u := by
    show its.toArray[its.length - 1]? = some u
    rw [← Array.getElem?_toList, ← hl]
    exact hu
  refine call_meets F.slot_list_pop ⟨_, e, rfl⟩ F.entry_list_pop (F.args_list_pop_1 _) (MeetsSeq.list_pop_last l its.toArray n u hy' (by rw [List.size_toArray]; omega)) ⟨e, ?_⟩
  refine ⟨y, _, I.lset (its' := its.dropLast) hH e ?_ r.dropLast ?_, ru, q⟩
  · show its.toArray.eraseIdxIfInBounds (its.toArray.size - 1) = its.dropLast.toArray
    rw [List.size_toArray, List.eraseIdxIfInBounds_toArray, erase_last]
  · rw [List.length_dropLast]
    omega

/-! ### list + list, list += list, list * int -/
def rCat : R2 := fun x y H Q => ∃ l b xs zs, x = .ref l ∧ y = .ref b ∧ H l = some (.lst xs) ∧ H b = some (.lst zs) ∧ xs.length + zs.length ≤ sizeLine ∧ ∀ p, H p = none → Q (.ref p) (upd H p (.lst (xs ++ zs)))
theorem op_cat : OpR X (binaryOp .Add) rCat := by
  intro pins s σ H x y v u Q I rx ry h
  obtain ⟨l, b, xs, zs, rfl, rfl, hH, hB, hz, q⟩ := h
  cases rx
  cases ry
  obtain ⟨z, its, n, r, hl, e⟩ := I.lstM hH
  obtain ⟨z2, its2, n2, r2, hl2, e2⟩ := I.lstM hB
  refine PySem.P.add_list e e2 ?_ (by rw [List.size_toArray, List.size_toArray]; omega)
  have ea : its.toArray ++ its2.toArray = (its ++ its2).toArray := by simp
  rw [ea]
  exact ⟨.ref _, _, I.lnew (t' := s.toks) (r.append r2) (by rw [List.length_append]; omega), rfl, q _ I.fresh⟩
/-- a list times an int (a negative one is nothing) -/
def rRep : R2 := fun x y H Q => ∃ l k xs, x = .ref l ∧ y = .int k ∧ H l = some (.lst xs) ∧ -(2 ^ 63) ≤ k ∧ k < 2 ^ 63 ∧ xs.length * k.toNat ≤ sizeLine ∧
  ∀ p, H p = none → Q (.ref p) (upd H p (.lst (List.replicate k.toNat xs).flatten))
theorem len_rep {α : Type} (xs : List α) (k : Nat) : (List.replicate k xs).flatten.length = k * xs.length := by
  induction k with
  | zero => simp
  | succ k ih => rw [List.replicate_succ, List.flatten_cons, List.length_append, ih, Nat.succ_mul, Nat.add_comm]
theorem op_rep : OpR X (binaryOp .Mult) rRep := by
  intro pins s σ H x y v u Q I rx ry h
  obtain ⟨l, k, xs, rfl, rfl, hH, h1, h2, hz, q⟩ := h
  cases rx
  obtain ⟨t, rfl⟩ := ry
  obtain ⟨z, its, n, r, hl, e⟩ := I.lstM hH
  have hlen : its.toArray.size * k.toNat ≤ sizeLine := by rw [List.size_toArray, ← hl]; exact hz
  have hcap : ¬ its.toArray.size * k.toNat > (2 ^ 63 - 1) / 8 := by
    have : (sizeLine : Nat) ≤ (2 ^ 63 - 1) / 8 := by decide
    omega
  have hfit : ¬ (!Builtin.List.listFitsIndex k) = true := by
    rw [fitsIndex_both h1 h2]
    exact Bool.false_ne_true
  have hlong : ¬ Builtin.List.listTooLong (its.toArray.size * k.toNat) = true := by
    rw [notLongL hlen]
    exact Bool.false_ne_true
  have hnew : List.foldl (fun x1 x2 => x1 ++ x2) #[] (List.replicate (if its.toArray.isEmpty = true then 0 else k.toNat) its.toArray) = (List.replicate k.toNat its).flatten.toArray := by
    have f0 : ∀ m : Nat, List.foldl (fun x1 x2 => x1 ++ x2) #[] (List.replicate m its.toArray) = (List.replicate m its).flatten.toArray := fun m => by
      have := foldl_rep its m []
      rw [List.nil_append] at this
      exact this
    rw [f0]
    cases its with
    | nil => simp
    | cons a r' => rw [if_neg (by simp)]
  refine wpAny_binaryOp_repeat_ref (T := "list") (U := "int") (by decide) ⟨_, e, rfl⟩ (fun s' => typeIs_int s' k t) noFill_list_mul F.fills_int_mul F.slot_int_rmul repeat_list F.slot_int_index.lookup
    (call_meets F.slot_int_rmul (typeIs_int s k t) F.entry_int_rmul (F.args_int_rmul_2 _ _) (int___rmul___int_list k t l its.toArray n)
      ⟨e, rfl, ⟨_, e, rfl⟩, call_meets F.slot_list_mul ⟨_, e, rfl⟩ F.entry_list_mul (F.args_list_mul_2 _ _) (AutoListH.list___mul___list_int_3 l its.toArray n k t hfit hcap hlong) ⟨e, ?_⟩⟩)
  rw [hnew]
  exact ⟨.ref _, _, I.lnew (t' := s.toks) (r.rep k.toNat) (by rw [len_rep, Nat.mul_comm]; exact hz), rfl, q _ I.fresh⟩

/-! ### del xs[i] -/
end

/-! ### xs[a:b] = ys -/
section
variable {prog : Program} {w : World} {A : Around} {E : Value → Shared → Prop} {s : Shared}
end

section
variable {X : Cx}
end
end L2

namespace Att
open PySem PySem.W PySem.Calls PyProof.Rows

/-! ### the script -/
theorem ints_of_wellAll {P : Params} {h : Heap} : ∀ (ns : List Int) (vs : List Value), WellAll P h vs (ns.map WData.int) → IntsAre vs ns := by
  intro ns
  induction ns with
  | nil =>
    intro vs w
    rw [List.map_nil] at w
    cases w
    exact .nil
  | cons n ns ih =>
    intro vs w
    rw [List.map_cons] at w
    cases w with
    | cons a b =>
      cases a
      exact .cons _ _ (ih _ b)

theorem script_of {l : OpenLaw} {n : Nat} (hn : l.most = some n) {P : Params} {h : Heap} {args : List WData} {vals : List Value}
    (hpre : l.row.toRowW.claim.pre args = true) (hwl : WellAll P h vals args) :
    ∃ a vs ns, vals = [Value.ref a] ∧ args = [WData.list (ns.map WData.int)] ∧ h.get? a = some { cls := .type "list", data := .seq vs.toArray } ∧ IntsAre vs ns ∧ ns.length ≤ n := by
  have hsh : WShape.hasAll [] args [.list .int] = true := (pre_splitW hpre).1
  have hc : l.pre.holds [] { args := args } = true := (pre_splitW hpre).2
  obtain ⟨d, r, rfl, h1, h2⟩ := hasAllW_cons hsh
  obtain rfl := hasAllW_nil h2
  obtain ⟨xs, rfl, h3⟩ := hasW_list h1
  obtain ⟨ns, rfl⟩ := items_int h3
  have hlen : ns.length ≤ n := by
    unfold OpenLaw.pre at hc
    have h4 : (WTm.not (.lt (.lit (.int (n : Int))) (.len (.arg 0)))).holds [] { args := [.list (ns.map .int)] } = true := by
      have h4 := (holds_andW hc).1
      rw [hn] at h4
      exact h4
    have h5 := condW_of h4 (w_not (w_lt w_lit (w_len_list (w_arg rfl))))
    rw [List.length_map] at h5
    refine Nat.le_of_not_lt fun q => ?_
    have q' : (n : Int) < ((ns.length : Nat) : Int) := by omega
    first
      | (rw [decide_eq_true q'] at h5; exact absurd h5 (by decide))
      | (simp at h5; omega)
  cases hwl with
  | cons w1 w2 =>
    cases w2
    cases w1 with
    | list ho hall => exact ⟨_, _, ns, rfl, rfl, ho, ints_of_wellAll ns _ hall, hlen⟩

theorem post_true (l : OpenLaw) (args : List WData) : l.row.toRowW.claim.post args (.bool true) args = true :=
  postW_of (r := l.row.toRowW) (X := (true == true))
    (show WShape.has [] (.bool true) .bool = true by first | rfl | decide | simp [WShape.has, WShape.arms, WShape.armsAll])
    (show (WTm.eq .res (.lit (.bool true))).value [] { args := args, res := some (.bool true), after := args } = some (.bool (true == true)) from w_eq_bool (w_res rfl) w_lit) rfl

/-! ### the attachment: holds_open's last premise (the goal 'hc' behind k_head) from a wpAny of the law's body -/
/-- the same from a codeAny of the CALL (for a layer whose function contracts speak of calls) -/
theorem attach_call {l : OpenLaw} {n : Nat} {q : Program} {loose : List Str} {XP : (Str → Option Value) → Heap → Prop} {YP : World → Heap → Prop} {d : DefRec}
    (hn : l.most = some n) (hdf : d.params.defaults = [])
    (call : ∀ (w : World) (s₀ s₁ : Shared) (mg mb : Str → Option Value) (fa : Addr) (o : Obj) (pm cd doc : Value) (a : Addr) (vs : List Value) (ns : List Int),
      Ground q loose [] XP w s₀ mg mb s₁.heap → YP w s₁.heap →
      s₁.heap.get? fa = some o → o.data = .func (docDef d.name d.params d.body d.scope pm cd doc) → s₁.heap.CodeRec cd d.name → mg d.name = some (.ref fa) →
      s₁.heap.get? a = some { cls := .type "list", data := .seq vs.toArray } → IntsAre vs ns → ns.length ≤ n → s₁.gens = #[] →
      codeAny (model l.prog w) callerA (.call (.ref fa) ⟨[.ref a], []⟩) (fun r s' => r = .ok (.ret (.bool true)) ∧ OldK s₁.heap s'.heap ∧ s'.os = s₁.os ∧ AllBare s'.gens) s₁) :
    WalkO q loose XP YP l.row.toRowW d [] (fun f vs => PySem.call f vs) := by
  intro w s₀ s₁ mg mb G Y fa o pm cd doc dV kV ho hd hcd hD hmg hg args vals as hpre hlay hrd hwl hlo
  obtain rfl : dV = .none := Dflts.none hD hdf
  obtain rfl : kV = .none := Dflts.noKw hD
  obtain ⟨a, vs, ns, rfl, rfl, hobj, hints, hlen⟩ := script_of hn hpre hwl
  refine enter_call (codeAny_mono (call w s₀ s₁ mg mb fa o pm cd doc a vs ns G Y ho (fd_plain hd) hcd hmg hobj hints hlen hg) fun r s' hq => ?_)
  obtain ⟨rfl, h2, h3, h4⟩ := hq
  exact ⟨.inl ⟨.bool true, .bool true, [], rfl, fun _ => rfl, .bool true, post_true l _, fun _ => ⟨List.Pairwise.nil, fun _ hm => (nomatch hm)⟩⟩, h2, h3, h4⟩

/-! ### rules over ANY heap (no ledger) from facts about the written part K: the library's own take a ledger (News) for what they write -/
section
variable {prog : Program} {w : World} {A : Around} {E : Value → Shared → Prop} {s : Shared} {K : Frag}

/-! the whole heap as the ledger: makes every rule that writes through a ledger a rule over any heap -/
def ledger (h : Heap) (L d : Addr) : List (Addr × Obj) := (List.range h.objs.size).filterMap fun a => if a = L ∨ a = d then none else (h.get? a).map fun o => (a, o)
end
end Att

namespace L2
open PySem PySem.Spec PyProof.Rows

theorem vals_ints : ∀ {vs : List Value} {ns : List Int}, IntsAre vs ns → Vals (ns.map V.int) vs
  | _, _, .nil => .nil
  | _, _, .cons n t h => .cons ⟨t, rfl⟩ (vals_ints h)

/-- nothing is tracked but the script, known to the object (or it is an object of the module) -/
def Only (H : Hp) : Prop := ∀ b, H b = none ∨ ∃ o xs, H b = some (.frz o (.lst xs))

/-- THE HEAD: the law's promise, at the heap behind the top. F, the promise of the law's def, may use that base is part of the heap (so K.In base, base.Ns mainGlobals mg stand in Mod) -/
theorem law_call {P : Program} {w : World} {K : PySem.W.Frag} {mg mb : Str → Option Value} {CX : CXT} {k : Nat} {fa a : Addr} {fd : FuncData} {x : Str} {sp : Sp} {s₁ : Shared} {vs : List Value} {ns : List Int}
    (KX : K.In s₁.heap) (hns : s₁.heap.Ns mainGlobals mg) (hb : s₁.heap.Ns builtinsNs mb) (hbb : ∀ x : Str, x ≠ "__name__" → mb x = bootBuiltins x) (hlim : s₁.heap.NoLimit) (hg : s₁.gens = #[])
    (ha : s₁.heap.get? a = some { cls := .type "list", data := .seq vs.toArray }) (hi : IntsAre vs ns) (hl : ns.length ≤ sizeLine) (hr : Room k callerA)
    (F : ∀ base : Heap, K.In base → base.Ns mainGlobals mg → FnOk P w K mg base CX k fa fd [x] sp) (hbind : ∀ (s : Shared) (u : Value), BindsTo s fd ⟨[u], []⟩ [(x, u)])
    (hsp : ∀ H : Hp, Only H → SqL K H a (ns.map V.int) → sp [.ref a] H (fun v _ => v = .bl true) fun _ _ _ => False)
    (hCX : ∀ H e s', CX [] H s₁ (fun _ _ _ => False) e s' → False) :
    codeAny (model P w) callerA (.call (.ref fa) ⟨[.ref a], []⟩) (fun r s' => r = .ok (.ret (.bool true)) ∧ OldK s₁.heap s'.heap ∧ s'.os = s₁.os ∧ AllBare s'.gens) s₁ := by
  have rv := vals_ints hi
  have lenV := hi.length
  -- from an abstract heap in which nothing but the script may be tracked
  have core : ∀ H : Hp, Only H → SqL K H a (ns.map V.int) → HOk P w H s₁.heap → (∀ b, H b ≠ none → b = a) → (H a ≠ none → K.lookup a = none) →
      codeAny (model P w) callerA (.call (.ref fa) ⟨[.ref a], []⟩) (fun r s' => r = .ok (.ret (.bool true)) ∧ OldK s₁.heap s'.heap ∧ s'.os = s₁.os ∧ AllBare s'.gens) s₁ := by
    intro H hO hS hok hA hK
    have base_of : ∀ {b : Addr} {o : Obj}, s₁.heap.get? b = some o → H b = none → (hidT s₁.heap H).get? b = some o := fun e n => hidT_get e n
    have noA : ∀ {b : Addr} {o : Obj} {es : Array DictEntry} {ep : Nat}, s₁.heap.get? b = some o → o.data = .dict es ep → H b = none := fun {b o es ep} e d => by
      cases q : H b with
      | none => rfl
      | some u =>
        have e' : b = a := hA b (by rw [q]; simp)
        subst e'
        rw [ha] at e; cases e
        have d' : Data.seq vs.toArray _ = Data.dict es ep := d
        cases d'
    have nsK : ∀ {b : Addr} {m : Str → Option Value}, s₁.heap.Ns b m → (hidT s₁.heap H).Ns b m := fun {b m} ⟨o, es, ep, e, d, r⟩ => ⟨o, es, ep, base_of e (noA e d), d, r⟩
    have hKb : K.In (hidT s₁.heap H) := fun b o e => base_of (KX b o e) (by
      cases q : H b with
      | none => rfl
      | some u =>
        have e' : b = a := hA b (by rw [q]; simp)
        subst e'
        rw [hK (by rw [q]; simp)] at e; cases e)
    have hM : Mod K mg (hidT s₁.heap H) := ⟨hKb, nsK hns, ⟨mb, nsK hb, hbb⟩, let ⟨mc, h1, h2⟩ := hlim; ⟨mc, nsK h1, h2⟩⟩
    have e0 : Env0 P w K mg (hidT s₁.heap H) callerA [] s₁ H := ⟨rfl, hM, fun b o e => of_hidT e, Nat.le_of_eq (hidT_size _ _), trivial, fun b hb => absurd (show b ∈ ([] : List Addr) from hb) (by simp), hok, .of_eq hg⟩
    refine codeAny_mono ((F _ hKb (nsK hns)).run callerA [] s₁ H ⟨[.ref a], []⟩ [.ref a] [.ref a] _ _ hr e0 (hbind s₁ (.ref a)) (.cons rfl .nil) (hsp H hO hS)) fun r s' h => ?_
    cases r with
    | error e => exact (hCX H e s' h).elim
    | ok fl =>
      cases fl with
      | next => exact False.elim h
      | brk => exact False.elim h
      | cont => exact False.elim h
      | ret u =>
        obtain ⟨v, H', os, bare, un, hok', r', q⟩ := h
        have q' : v = .bl true := q
        subst q'
        obtain rfl : u = Value.bool true := r'
        refine ⟨rfl, OldK.of_keep fun b o e => ?_, os, bare⟩
        cases q : H b with
        | none => exact un.keep b o e q (by intro z; exact absurd (show b ∈ ([] : List Addr) from z) (by simp)) (by simp)
        | some u =>
          rcases hO b with z | ⟨ob, xs, z⟩
          · rw [q] at z; cases z
          · have z2 := un.frzs b ob _ z
            obtain ⟨e1, _⟩ := hok b _ z
            obtain ⟨e2, _⟩ := hok' b _ z2
            rw [e] at e1; cases e1
            exact e2
  cases hk : K.lookup a with
  | some o =>
    -- the script is one of the module's own objects
    have e := KX a o hk
    rw [ha] at e
    cases e
    refine core (fun _ => none) (fun _ => .inl rfl) (.inr ⟨_, vs.toArray, _, hk, rfl, rfl, rfl, by rw [List.size_toArray, lenV]; exact hl, by simpa using rv⟩) (fun b u z => by have z' : (none : Option HO) = some u := z; cases z') (fun b z => absurd rfl z) fun z => absurd rfl z
  | none =>
    refine core (fun b => if b = a then some (.frz { cls := .type "list", data := .seq vs.toArray } (.lst (ns.map V.int))) else none) (fun b => ?_) (.inl (.inr ⟨{ cls := .type "list", data := .seq vs.toArray }, if_pos rfl⟩)) (fun b u z => ?_) (fun b z => ?_) fun _ => hk
    · by_cases hb : b = a
      · exact .inr ⟨_, _, if_pos hb⟩
      · exact .inl (if_neg hb)
    · by_cases hb : b = a
      · have z' := (if_pos hb).symm.trans z
        cases z'
        subst hb
        exact ⟨ha, by rw [List.length_map]; exact hl, vs, _, rv, ha⟩
      · have z' := (if_neg hb).symm.trans z
        cases z'
    · by_cases hb : b = a
      · exact hb
      · exact absurd (if_neg hb) z
end L2

namespace L2
open PySem PySem.Spec PyProof.Rows

abbrev KOf {K : PySem.W.Frag} {h : Heap} (_ : K.In h) : PySem.W.Frag := K

/-- the goal that k_head leaves (case hc), from the law's promise. F gives the function object fd (K's own) once, then the promise over every base -/
theorem walk_of {l : PySem.W.OpenLaw} {n k : Nat} {q : Program} {loose : List Str} {XP : (Str → Option Value) → Heap → Prop} {YP : World → Heap → Prop} {d : DefRec} {K : Params → PySem.W.Frag} {CX : World → CXT} {sp : World → Sp} {x : Str}
    (hn : l.most = some n) (hn2 : n ≤ sizeLine) (hdf : d.params.defaults = []) (hr : Room k callerA)
    (hY : ∀ (w : World) (h : Heap), YP w h → (K w.params).In h)
    (F : ∀ (w : World) (mg : Str → Option Value) (fa : Addr) (h : Heap), (K w.params).In h → h.Ns mainGlobals mg → mg d.name = some (.ref fa) →
      ∃ fd : FuncData, (∀ (s : Shared) (u : Value), BindsTo s fd ⟨[u], []⟩ [(x, u)]) ∧
        ∀ base : Heap, (K w.params).In base → base.Ns mainGlobals mg → FnOk l.prog w (K w.params) mg base (CX w) k fa fd [x] (sp w))
    (hsp : ∀ (w : World) (H : Hp) (a : Addr) (ns : List Int), ns.length ≤ n → Only H → SqL (K w.params) H a (ns.map V.int) → sp w [.ref a] H (fun v _ => v = .bl true) fun _ _ _ => False)
    (hCX : ∀ (w : World) (H : Hp) (s : Shared) (e : Value) (s' : Shared), CX w [] H s (fun _ _ _ => False) e s' → False) :
    PySem.W.WalkO q loose XP YP l.row.toRowW d [] (fun f vs => PySem.call f vs) := by
  refine Att.attach_call hn hdf fun w s₀ s₁ mg mb fa o pm cd doc a vs ns G Y ho hd hcd hmg hobj hints hlen hg => ?_
  have KX := hY w _ Y
  obtain ⟨fd, hb, hF⟩ := F w mg fa _ KX G.T.g hmg
  exact law_call KX G.T.g G.T.b G.T.builtins G.T.nolimit hg hobj hints (Nat.le_trans hlen hn2) hr hF hb (fun H hO hS => hsp w H a ns hlen hO hS) fun H e s' => hCX w H s₁ e s'
end L2

/- THE LAST THEOREM (shape; LID, My.* are yours):
   My.Adr: a structure of the addresses that your layer names (classes, functions); My.Txt K t: a structure (Prop) of the equations over K;
   My.txt_mk : {K} {implicit addresses ..} (e1 : nsIn K mainGlobals "law" = some (some (.ref f))) (e2 : K.lookup f = some ⟨oc, od, .func (fnOf "law" "law" params body scope dV kV doc pm an cdv ct), sl⟩) (e3 : codeIn K cdv "law" = true) .. : ∃ t, My.Txt K t

set_option maxRecDepth 100000 in
set_option maxHeartbeats 0 in
theorem PySem.Challenge.cw_LID_holds : PySem.Challenge.rw_LID.Holds := by
  w_on; o_law; k_head; (case hw => w_witness2)
  k_fill
  refine L2.walk_of (l := PySem.Challenge.rw_LID) (n := 63) (k := 40) (x := "script") (CX := fun w => ..) (sp := fun _ => My.sp_law) rfl (by decide) rfl ⟨rfl, by decide, by decide⟩ (fun w h Y => PySem.W.kIn_of Y) ?F ?S ?C
  case F =>
    intro w mg fa h KX G hmg
    have T : ∃ t, My.Txt (L2.KOf KX) t := by
      dsimp only [L2.KOf]                          -- K must stand as «<heap const> w.params» for k_is
      refine' My.txt_mk ?e1 ?e2 ?e3 ..
      (case e1 => PySem.W.k_is)                    -- in the order: a name -> its address -> its object -> its parts
      (case e2 => PySem.W.k_is)
      ..
    obtain ⟨t, T⟩ := T
    have e0 := hmg.symm.trans (PySem.W.mg_of KX G T.law)
    cases e0                                       -- fa is the law's own address
    exact ⟨_, fun s u => .of_eq rfl, fun base kb nb => My.law_fn T kb nb⟩     -- if «.of_eq rfl» comes too early: refine' ⟨_, ?b, fun base kb nb => My.law_fn T kb nb⟩; exact fun s u => .of_eq rfl
  case S => exact fun w H a ns hl hO hS => ..
  case C => exact ..
(the tactic k_is has no namespace: write k_is) -/

/-! SHORT WORDS over the layer: a def of the text, its body, what a loop and a test want. -/
namespace L2
open PySem PySem.Spec PyProof.Rows

/-! ### the text by places -/
def defArgs (s : Stmt) : Arguments := match s with
  | .FunctionDef _ a _ _ _ _ _ _ _ _ => a
  | _ => { posonlyargs := [], args := [], vararg := none, kwonlyargs := [], kw_defaults := [], kwarg := none, defaults := [] }
def defBody (s : Stmt) : List Stmt := match s with
  | .FunctionDef _ _ b _ _ _ _ _ _ _ => b
  | _ => []
def defScope (s : Stmt) : Scope := match s with
  | .FunctionDef _ _ _ _ _ _ sc _ _ _ => sc
  | _ => { kind := .function, names := [], isGenerator := false, isCoroutine := false }

/-! ### no exception leaves a def -/
abbrev CX0 : CXT := fun _ _ _ _ _ _ => False
abbrev E0 : XK := fun _ _ _ => False
theorem pass0 {X : Cx} : Passes CX0 X E0 := fun _ _ _ _ _ _ _ h => h.elim

/-! ### a def (or method) of the text as it stands behind the top -/
structure Fun (K : PySem.W.Frag) (x qual : Str) (st : Stmt) (f : Addr) (fd : FuncData) : Prop where
  ex : ∃ (oc : Value) (od : Option Addr) (kV doc pm : Value) (an : Option Addr) (cdv ct : Value) (osl : Array (Option Value)),
    fd = PySem.W.fnOf x qual (defArgs st) (defBody st) (defScope st) .none kV doc pm an cdv ct ∧ K.lookup f = some ⟨oc, od, .func fd, osl⟩ ∧ PySem.W.codeIn K cdv qual = true
  kp : PySem.W.keepIn K (.ref f) = true
section
variable {P : Program} {w : World} {K : PySem.W.Frag} {mg : Str → Option Value} {base : Heap}
/-- THE RULE for a def: its body as a term of rules, and the reading of that term -/
theorem Fun.ok {x qual : Str} {st : Stmt} {f : Addr} {fd : FuncData} {N ps : List Str} {k : Nat} {sp : Sp} (F : Fun K x qual st f fd) (S : FnScope N ps (defScope st)) (len : ∀ vs H Q E, sp vs H Q E → vs.length = ps.length)
    (hbody : ∀ (cdv : Value) (A : Around) (outer : List Env) (s : Shared) (H : Hp) (vs : List V) (Q : VK) (E : XK), Room k (A.deeper (envOfC qual (defScope st) s.heap.objs.size f cdv)) → sp vs H Q E →
      ∃ t, PSs (cxOf CX0 P w K mg base N qual (defScope st) f cdv A outer s H E).nox (defBody st) t ∧ t { nx := fun _ H' => Q .non H', rt := Q } (start N vs) H) : FnOk P w K mg base CX0 (k + 1) f fd ps sp := by
  obtain ⟨oc, od, kV, doc, pm, an, cdv, ct, osl, rfl, lk, hcd⟩ := F.ex
  refine fn_of lk hcd S len fun A outer s H vs Q E hr hsp => ?_
  obtain ⟨t, h, q⟩ := hbody cdv A outer s H vs Q E hr hsp
  exact ⟨t, h.nox, q⟩
/-- how its arguments bind (no defaults): h is «fun _ _ _ _ _ _ us hl => match us, hl with | [_, _], _ => rfl», one _ a parameter -/
theorem Fun.binds {x qual : Str} {st : Stmt} {f : Addr} {fd : FuncData} {ps : List Str} (F : Fun K x qual st f fd)
    (h : ∀ (kV doc pm : Value) (an : Option Addr) (cdv ct : Value) (us : List Value), us.length = ps.length → bindArgs (PySem.W.fnOf x qual (defArgs st) (defBody st) (defScope st) .none kV doc pm an cdv ct) ⟨us, []⟩ = pure (ps.zip us)) : Binds K fd ps [] := by
  obtain ⟨oc, od, kV, doc, pm, an, cdv, ct, osl, rfl, lk, hcd⟩ := F.ex
  exact .all (h kV doc pm an cdv ct)
theorem fun_mk {x qual : Str} {st : Stmt} {f : Addr} {oc : Value} {od an : Option Addr} {osl : Array (Option Value)} {kV doc pm cdv ct : Value} (l : K.lookup f = some ⟨oc, od, .func (PySem.W.fnOf x qual (defArgs st) (defBody st) (defScope st) .none kV doc pm an cdv ct), osl⟩)
    (c : PySem.W.codeIn K cdv qual = true) (k : PySem.W.keepIn K (.ref f) = true) : Fun K x qual st f (PySem.W.fnOf x qual (defArgs st) (defBody st) (defScope st) .none kV doc pm an cdv ct) := ⟨⟨oc, od, kV, doc, pm, an, cdv, ct, osl, rfl, l, c⟩, k⟩
end
theorem hu_of {A : Around} {k : Nat} (hr : Room k A) : A.units + 1 < cLine := Nat.lt_of_le_of_lt (Nat.add_le_add_left (by decide : 1 ≤ 64) _) hr.units
theorem small1000 {n : Nat} (h : n ≤ 1000) : n < sizeLine := Nat.lt_of_le_of_lt h (by decide)

/-! ### expressions in short: the name that stands in the i-th slot -/
section
variable {X : Cx}
theorem pv (i : Nat) {x : Str} {pos : Pos} (hN : X.N[i]? = some x := by rfl) (hv : Vis X.env.scope x := by first | exact Or.inl rfl | exact Or.inr (Or.inl rfl) | exact Or.inr (Or.inr rfl)) (hd : (x == ("__debug__" : Str)) = false := by decide)
    (hcd : (x == ("__classdict__" : Str)) = false := by decide) : PE X (.Name x pos) (tVar i) := pe_var hN hv hd hcd
end

/-! ### tests -/
theorem iteF {A B : Prop} (h : B) : if false = true then A else B := by
  rw [if_neg Bool.false_ne_true]
  exact h
theorem iteT {A B : Prop} (h : A) : if true = true then A else B := by
  rw [if_pos rfl]
  exact h
/-! ### heaps -/
/-- all that was tracked is as it was -/
def Same (H H' : Hp) : Prop := ∀ b o, H b = some o → H' b = some o
theorem Same.refl (H : Hp) : Same H H := fun _ _ h => h
theorem Same.trans {H H1 H2 : Hp} (a : Same H H1) (b : Same H1 H2) : Same H H2 := fun c o h => b c o (a c o h)
theorem Same.seq {K : PySem.W.Frag} {H H' : Hp} {a : Addr} {xs : List V} (e : Same H H') (h : SqL K H a xs) : SqL K H' a xs := by
  rcases h with (h | ⟨o, h⟩) | h
  · exact .inl (.inl (e _ _ h))
  · exact .inl (.inr ⟨o, e _ _ h⟩)
  · exact .inr h

end L2


/-! DICTS -/
namespace L2
open PySem PySem.Spec PyProof.Rows

/-! ### lists of pairs as tables -/
section
variable {κ : Type} [DecidableEq κ]
def valV (kvs : List (κ × V)) (k : κ) : Option V := (kvs.find? fun kv => decide (kv.1 = k)).map (·.2)
/-- in its place, or at the end -/
def putK (kvs : List (κ × V)) (k : κ) (v : V) : List (κ × V) :=
  if (kvs.any fun kv => decide (kv.1 = k)) = true then kvs.map (fun kv => if kv.1 = k then (kv.1, v) else kv) else kvs ++ [(k, v)]
theorem valV_pos {p : κ × V} {r : List (κ × V)} {k : κ} (e : p.1 = k) : valV (p :: r) k = some p.2 := by simp [valV, List.find?_cons, e]
theorem valV_neg {p : κ × V} {r : List (κ × V)} {k : κ} (e : ¬ p.1 = k) : valV (p :: r) k = valV r k := by simp [valV, List.find?_cons, e]
theorem valV_any (k : κ) : ∀ kvs : List (κ × V), (kvs.any fun kv => decide (kv.1 = k)) = (valV kvs k).isSome
  | [] => rfl
  | p :: r => by
    rw [List.any_cons]
    by_cases e : p.1 = k
    · simp only [valV_pos e, decide_eq_true e, Bool.true_or, Option.isSome_some]
    · rw [valV_neg e, decide_eq_false e, Bool.false_or]; exact valV_any k r
theorem length_putK (kvs : List (κ × V)) (k : κ) (v : V) : (putK kvs k v).length ≤ kvs.length + 1 := by
  unfold putK
  split
  · rw [List.length_map]; omega
  · rw [List.length_append, List.length_cons, List.length_nil]; omega
theorem RelO.isSome_eq {o : Option V} {u : Option Value} (r : RelO o u) : o.isSome = u.isSome := by
  cases o with
  | none => cases u with
    | none => rfl
    | some _ => exact (show False from r).elim
  | some _ => cases u with
    | none => exact (show False from r).elim
    | some _ => rfl
/-- raw tables of the same keys -/
theorem KV.val {kvs : List (κ × V)} {vs : List (κ × Value)} (r : KV kvs vs) (k : κ) : RelO (valV kvs k) (valueAt vs k) := by
  unfold KV at r
  induction r with
  | nil => exact True.intro
  | @cons p q ps qs h t ih =>
    obtain ⟨h1, h2⟩ := h
    by_cases e : p.1 = k
    · have e' : q.1 = k := h1.symm.trans e
      have b : valueAt (q :: qs) k = some q.2 := by simp [valueAt, List.find?_cons, e']
      rw [valV_pos e, b]; exact h2
    · have e' : ¬ q.1 = k := fun z => e (h1.trans z)
      have b : valueAt (q :: qs) k = valueAt qs k := by simp [valueAt, List.find?_cons, e']
      rw [valV_neg e, b]; exact ih
theorem KV.any {kvs : List (κ × V)} {vs : List (κ × Value)} (r : KV kvs vs) (k : κ) : (kvs.any fun kv => decide (kv.1 = k)) = vs.any fun kv => decide (kv.1 = k) := by
  unfold KV at r
  induction r with
  | nil => rfl
  | cons h t ih => rw [List.any_cons, List.any_cons, ih, h.1]
theorem KV.repl {kvs : List (κ × V)} {vs : List (κ × Value)} (r : KV kvs vs) (k : κ) {y : V} {u : Value} (ry : RelV y u) :
    KV (kvs.map fun kv => if kv.1 = k then (kv.1, y) else kv) (vs.map fun kv => if kv.1 = k then (kv.1, u) else kv) := by
  unfold KV at r ⊢
  induction r with
  | nil => exact .nil
  | @cons p q ps qs h t ih =>
    rw [List.map_cons, List.map_cons]
    refine .cons ?_ ih
    obtain ⟨h1, h2⟩ := h
    by_cases e : p.1 = k
    · rw [if_pos e, if_pos (h1.symm.trans e)]; exact ⟨h1, ry⟩
    · rw [if_neg e, if_neg (fun z => e (h1.trans z))]; exact ⟨h1, h2⟩
theorem KV.put {kvs : List (κ × V)} {vs : List (κ × Value)} (r : KV kvs vs) (k : κ) {y : V} {u : Value} (ry : RelV y u) : KV (putK kvs k y) (stored vs k u) := by
  unfold putK stored
  rw [r.any k]
  by_cases e : (vs.any fun kv => decide (kv.1 = k)) = true
  · rw [if_pos e, if_pos e]; exact r.repl k ry
  · rw [if_neg e, if_neg e]; exact Paired.snoc r ⟨rfl, ry⟩
theorem KV.length {kvs : List (κ × V)} {vs : List (κ × Value)} (r : KV kvs vs) : kvs.length = vs.length := Paired.length r
end


/-! ### a tracked dict, its keys ints and texts or tuples of these -/
theorem kV_is {P : Program} {w : World} {k : Key} {u : Value} (r : RelV (kV k) u) : (mixKind P w).is k u = true := by
  cases k with
  | inl i => obtain ⟨t, e⟩ := (show ∃ t, u = Value.int i t from r); subst e; exact mixKind_int P w i t
  | inr x => obtain ⟨t, e⟩ := (show ∃ t, u = Value.str x t from r); subst e; exact mixKind_str P w x t
theorem items_are {P : Program} {w : World} : ∀ {ks : List Key} {us : List Value}, Vals (ks.map kV) us → ItemsAre (mixKind P w) ks us
  | [], _, r => by rw [List.map_nil] at r; cases r; exact .nil
  | k :: ks, _, r => by
    rw [List.map_cons] at r
    cases r with
    | cons h t => exact .cons (kV_is h) (items_are t)

/-- raw entries of a dict with tuple keys -/
abbrev KT (H : Hp) : List (List Key × V) → List (List Key × Addr × Value) → Prop := Paired fun p q => p.1 = q.1 ∧ H q.2.1 = some (.tup (p.1.map kV)) ∧ RelV p.2 q.2.2
theorem KT.val {H : Hp} {kvs : List (List Key × V)} {xs : List (List Key × Addr × Value)} (r : KT H kvs xs) (k : List Key) : RelO (valV kvs k) ((atKey xs k).map (·.2)) := by
  induction r with
  | nil => exact True.intro
  | @cons p q ps qs h t ih =>
    obtain ⟨h1, _, h2⟩ := h
    by_cases e : p.1 = k
    · have e' : q.1 = k := h1.symm.trans e
      have b : atKey (q :: qs) k = some q.2 := by simp [atKey, List.find?_cons, e']
      rw [valV_pos e, b]; exact h2
    · have e' : ¬ q.1 = k := fun z => e (h1.trans z)
      have b : atKey (q :: qs) k = atKey qs k := by simp [atKey, List.find?_cons, e']
      rw [valV_neg e, b]; exact ih
theorem KT.repl {H : Hp} {kvs : List (List Key × V)} {xs : List (List Key × Addr × Value)} (r : KT H kvs xs) (k : List Key) {y : V} {u : Value} (ry : RelV y u) :
    KT H (kvs.map fun kv => if kv.1 = k then (kv.1, y) else kv) (xs.map (putAt k u)) := by
  induction r with
  | nil => exact .nil
  | @cons p q ps qs h t ih =>
    rw [List.map_cons, List.map_cons]
    refine .cons ?_ ih
    obtain ⟨h1, h2, h3⟩ := h
    unfold putAt
    by_cases e : p.1 = k
    · rw [if_pos e, if_pos (h1.symm.trans e)]; exact ⟨h1, h2, ry⟩
    · rw [if_neg e, if_neg (fun z => e (h1.trans z))]; exact ⟨h1, h2, h3⟩
theorem KT.put {H : Hp} {kvs : List (List Key × V)} {xs : List (List Key × Addr × Value)} (r : KT H kvs xs) (k : List Key) {b : Addr} {y : V} {u : Value} (hb : H b = some (.tup (k.map kV))) (ry : RelV y u) :
    KT H (putK kvs k y) (storedH xs k b u) := by
  have e : (kvs.any fun kv => decide (kv.1 = k)) = (atKey xs k).isSome := by
    rw [valV_any, (r.val k).isSome_eq, Option.isSome_map]
  unfold putK storedH
  rw [e]
  by_cases q : (atKey xs k).isSome = true
  · rw [if_pos q, if_pos q]; exact r.repl k ry
  · rw [if_neg q, if_neg q]; exact Paired.snoc r ⟨rfl, hb, ry⟩
theorem KT.keeps {H H' : Hp} {kvs : List (List Key × V)} {xs : List (List Key × Addr × Value)} (r : KT H kvs xs) (ht : ∀ b ys, H b = some (.tup ys) → H' b = some (.tup ys)) : KT H' kvs xs :=
  Paired.mapP r fun _ _ z => ⟨z.1, ht _ _ z.2.1, z.2.2⟩

section
variable {P : Program} {w : World} {H : Hp} {h : Heap} {a : Addr}
theorem rd_of {u : HO} (ok : HOk P w H h) (e : Rd H a u) : ObjOk P w H h a u := e.ok ok
theorem dk_rd {kvs : List (Key × V)} (ok : HOk P w H h) (e : Rd H a (.dK kvs)) : kvs.length ≤ sizeLine ∧ (a == sysModules) = false ∧ ∃ vs, KV kvs vs ∧ h.DictOf (mixKind P w) a vs :=
  show ObjOk P w H h a (.dK kvs) from rd_of ok e
theorem dk_of {kvs : List (Key × V)} (ok : HOk P w H h) (e : H a = some (.dK kvs)) : kvs.length ≤ sizeLine ∧ (a == sysModules) = false ∧ ∃ vs, KV kvs vs ∧ h.DictOf (mixKind P w) a vs := dk_rd ok (.inl e)
/-- a tracked tuple of ints and texts is a key -/
theorem key_of {ks : List Key} (ok : HOk P w H h) (e : H a = some (.tup (ks.map kV))) : (tupleKind (mixKind P w)).is h ks a := by
  obtain ⟨_, its, r, o, h1, h2, n, h3⟩ := (show ObjOk P w H h a (.tup (ks.map kV)) from ok a _ e)
  exact ⟨o, its.toArray, n, h1, h2, h3, by simpa using items_are r⟩
theorem dt_rd {kvs : List (List Key × V)} (ok : HOk P w H h) (e : Rd H a (.dT kvs)) : kvs.length ≤ sizeLine ∧ (a == sysModules) = false ∧
    ∃ xs, KT H kvs xs ∧ h.DictOfH (tupleKind (mixKind P w)) a xs := by
  obtain ⟨z, y, xs, r, o, es, ep, h1, h2, h3, h4, h5⟩ := (show ObjOk P w H h a (.dT kvs) from rd_of ok e)
  refine ⟨z, y, xs, r, o, es, ep, h1, h2, h3, h4, fun x hx => ?_, h5⟩
  have all : ∀ {l : List (List Key × V)} {m : List (List Key × Addr × Value)}, KT H l m → ∀ x ∈ m, (tupleKind (mixKind P w)).is h x.1 x.2.1 := by
    intro l m q
    induction q with
    | nil => intro x hx; exact nomatch hx
    | @cons p q ps qs hq t ih =>
      intro x hx
      rcases List.mem_cons.mp hx with e | hx
      · subst e
        exact key_of ok (by rw [← hq.1]; exact hq.2.1)
      · exact ih x hx
  exact all r x hx
theorem dt_of {kvs : List (List Key × V)} (ok : HOk P w H h) (e : H a = some (.dT kvs)) : kvs.length ≤ sizeLine ∧ (a == sysModules) = false ∧
    ∃ xs, KT H kvs xs ∧ h.DictOfH (tupleKind (mixKind P w)) a xs := dt_rd ok (.inl e)
end

/-- what the dict at a holds at the key y -/
def DGet (H : Hp) (a : Addr) (y : V) (r : Option V) : Prop :=
  (∃ kvs k, Rd H a (.dK kvs) ∧ y = kV k ∧ r = valV kvs k) ∨ ∃ kvs k b, Rd H a (.dT kvs) ∧ y = .ref b ∧ H b = some (.tup (k.map kV)) ∧ r = valV kvs k
/-- the heap behind a[y] = v -/
def DPut (H : Hp) (a : Addr) (y v : V) (H' : Hp) : Prop :=
  (∃ kvs k, H a = some (.dK kvs) ∧ y = kV k ∧ kvs.length < sizeLine ∧ H' = upd H a (.dK (putK kvs k v))) ∨
  ∃ kvs k b, H a = some (.dT kvs) ∧ y = .ref b ∧ H b = some (.tup (k.map kV)) ∧ kvs.length < sizeLine ∧ H' = upd H a (.dT (putK kvs k v))
theorem DGet.k {H : Hp} {a : Addr} {kvs : List (Key × V)} {k : Key} (e : H a = some (.dK kvs)) : DGet H a (kV k) (valV kvs k) := .inl ⟨kvs, k, .inl e, rfl, rfl⟩
theorem DPut.k {H : Hp} {a : Addr} {kvs : List (Key × V)} {k : Key} {v : V} (e : H a = some (.dK kvs)) (hl : kvs.length < sizeLine) : DPut H a (kV k) v (upd H a (.dK (putK kvs k v))) := .inl ⟨kvs, k, e, rfl, hl, rfl⟩
theorem DPut.t {H : Hp} {a b : Addr} {kvs : List (List Key × V)} {k : List Key} {v : V} (e : H a = some (.dT kvs)) (eb : H b = some (.tup (k.map kV))) (hl : kvs.length < sizeLine) :
    DPut H a (.ref b) v (upd H a (.dT (putK kvs k v))) := .inr ⟨kvs, k, b, e, rfl, eb, hl, rfl⟩


section
variable {X : Cx} {pins : List (Addr × Obj)} {σ : St} {H : Hp} {s : Shared} {a : Addr} {y v : V} {u r : Value} {o : Option V} {A : Around} {E : Value → Shared → Prop}

theorem Inv.big (I : Inv X pins σ H s) : sysModules < s.heap.objs.size := by
  have h : mainGlobals < s.heap.objs.size := (I.mod.glob.keeps I.bk).lt
  exact Nat.lt_trans (by decide) h

/-- d[y], there -/
theorem d_getItem {Q : Value → Shared → Prop} (hu : A.units + 1 < cLine) (I : Inv X pins σ H s) (g : DGet H a y (some v)) (ry : RelV y u) (h : ∀ w' s', Inv X pins σ H s' → RelV v w' → Q w' s') :
    wpAny (model X.prog X.w) A (getItem (.ref a) u) Q E s := by
  rcases g with ⟨kvs, k, e, ey, l⟩ | ⟨kvs, k, b, e, ey, eb, l⟩
  · subst ey
    obtain ⟨z, hd, vs, rel, dd⟩ := dk_rd I.hok e
    obtain ⟨w', hw, rw'⟩ := RelO.some_of (v := v) (o := valueAt vs k) (by rw [l]; exact rel.val k)
    exact wpAny_getItem_of (kV_is ry) dd.mapOf hw (h w' _ (I.tok _) rw')
  · subst ey
    cases (show u = Value.ref b from ry)
    obtain ⟨z, hd, xs, rel, dd⟩ := dt_rd I.hok e
    obtain ⟨w', hw, rw'⟩ := RelO.some_of (v := v) (o := (atKey xs k).map (·.2)) (by rw [l]; exact rel.val k)
    obtain ⟨p, hp, hp2⟩ := Option.map_eq_some_iff.mp hw
    refine wpAny_getItem_heap (tupleKind_room_in1 hu) (key_of I.hok eb) dd hp ?_
    rw [hp2]
    exact h w' _ (I.tok _) rw'
theorem d_notIn {Q : Value → Shared → Prop} (hu : A.units + 1 < cLine) (I : Inv X pins σ H s) (g : DGet H a y o) (ry : RelV y u) (h : ∀ s', Inv X pins σ H s' → Q (.bool (!o.isSome)) s') :
    wpAny (model X.prog X.w) A (compareOp .NotIn u (.ref a)) Q E s := by
  rcases g with ⟨kvs, k, e, ey, l⟩ | ⟨kvs, k, b, e, ey, eb, l⟩
  · subst ey
    obtain ⟨z, hd, vs, rel, dd⟩ := dk_rd I.hok e
    refine wpAny_notIn_of (kV_is ry) hd dd.mapOf ?_
    rw [← (rel.val k).isSome_eq, ← l]
    exact h _ (I.tok _)
  · subst ey
    cases (show u = Value.ref b from ry)
    obtain ⟨z, hd, xs, rel, dd⟩ := dt_rd I.hok e
    refine wpAny_notIn_heap (tupleKind_room_in1 hu) (key_of I.hok eb) hd dd ?_
    have q := (rel.val k).isSome_eq
    rw [Option.isSome_map] at q
    rw [← q, ← l]
    exact h _ (I.tok _)
/-- a dict's object is replaced -/
theorem d_write {h' : Heap} {t' : Nat} {ob : HO} (I : Inv X pins σ H s) (mu : Mut (H a)) (hs : Heap.SameBut a s.heap h') (he : ∃ q, h'.get? a = some q) (new : ObjOk X.prog X.w (upd H a ob) h' a ob) :
    Inv X pins σ (upd H a ob) { s with heap := h', toks := t' } :=
  I.write (x := a) (e := a) mu (.inl rfl) (fun b q hb z => (hs.2 b hb).trans z) he new
theorem dk_new {P : Program} {w : World} {H' : Hp} {h' : Heap} {kvs : List (Key × V)} {vs : List (Key × Value)} (z : kvs.length ≤ sizeLine) (hd : (a == sysModules) = false) (rel : KV kvs vs) (dd : h'.DictOf (mixKind P w) a vs) :
    ObjOk P w H' h' a (.dK kvs) := ⟨z, hd, vs, rel, dd⟩
/-- d[y] = v -/
theorem d_setItem {H' : Hp} {Q : Unit → Shared → Prop} (hu : A.units + 1 < cLine) (I : Inv X pins σ H s) (g : DPut H a y v H') (ry : RelV y u) (rv : RelV v r) (h : ∀ s', Inv X pins σ H' s' → Q () s') :
    wpAny (model X.prog X.w) A (setItem (.ref a) u r) Q E s := by
  rcases g with ⟨kvs, k, e, ey, l, eH⟩ | ⟨kvs, k, b, e, ey, eb, l, eH⟩
  · subst ey eH
    obtain ⟨z, hd, vs, rel, dd⟩ := dk_of I.hok e
    have hz : vs.length ≤ sizeLine := by rw [← rel.length]; exact z
    have hl : (putK kvs k v).length ≤ sizeLine := by have := length_putK kvs k v; omega
    refine wpAny_setItem_pairs (hsz := hz) (kV_is ry) dd fun h' dd' hs => h _ ?_
    have he : ∃ q, h'.get? a = some q := let ⟨q, _, _, hq, _⟩ := dd'; ⟨q, hq⟩
    exact d_write I (by rw [e]; exact True.intro) hs he (dk_new hl hd (rel.put k rv) dd')
  · subst ey eH
    cases (show u = Value.ref b from ry)
    obtain ⟨z, hd, xs, rel, dd⟩ := dt_of I.hok e
    have hz : xs.length ≤ sizeLine := by rw [← Paired.length rel]; exact z
    have hl : (putK kvs k v).length ≤ sizeLine := by have := length_putK kvs k v; omega
    refine wpAny_setItem_heap (hsz := hz) (tupleKind_room_in1 hu) (key_of I.hok eb) dd fun h' dd' hs => h _ ?_
    obtain ⟨q, es, ep, hq, h2, h3, h4, _, h5⟩ := dd'
    refine d_write I (by rw [e]; exact True.intro) hs ⟨q, hq⟩ ⟨hl, hd, _, (rel.put k eb rv).keeps fun c ys ec => ?_, q, es, ep, hq, h2, h3, h4, h5⟩
    rw [upd_ne (ne_of ec e (fun z => nomatch z))]
    exact ec
end

section
variable {X : Cx} {pins : List (Addr × Obj)} {σ : St} {H : Hp} {s : Shared} {a : Addr} {kvs : List (Key × V)} {k : Key} {u : Value} {A : Around} {E : Value → Shared → Prop}
end


/-! ### readings and rules -/
/-- the element of a subscription, not a slice -/
def NoSl (i : Expr) : Prop := ∀ ov iv, subscripted i false ov iv = operate [ov, iv] (getItem ov iv)
theorem subD_of {prog : Program} {w : World} {A : Around} {E : Value → Shared → Prop} {s : Shared} {env : Env} {value slice : Expr} {pos : Pos} {T id : String} {Q : Value → Shared → Prop}
    (hl : typeLookup (.type T) "__getitem__" = pure (some (.builtin id))) (hs : NoSl slice)
    (h : wpAny (model prog w) A (eval value env) (fun o s₁ => wpAny (model prog w) A (eval slice env) (fun i s₂ => s₂.TypeIs o T ∧ wpAny (model prog w) A (getItem o i) Q E s₂) E s₁) E s) :
    wpAny (model prog w) A (eval (.Subscript value slice pos) env) Q E s := by
  refine Subscript_ (wpAny_mono h (fun o s₁ h₁ => wpAny_mono h₁ (fun i s₂ h₂ => ?_) fun _ _ x => x) fun _ _ x => x)
  obtain ⟨hT, h₂⟩ := h₂
  unfold subscriptTail
  refine wpAny_bind ?_
  rw [getitemInPython_of_ne hT.not_modules]
  refine wpAny_bind (wpAny_specialOf hT hl ?_)
  have fin : wpAny (model prog w) A (subscripted slice false o i) (fun r s₃ => wpAny (model prog w) A (letTemporaryGo value o r >>= fun _ => pure r) Q E s₃) E s₂ := by
    rw [hs o i]
    exact wpAny_operating (wpAny_mono h₂ (fun r s₃ h₃ => wpAny_bind (wpAny_letTemporaryGo (wpAny_pure h₃))) fun _ _ x => x)
  first
    | exact wpAny_pure (wpAny_bind fin)
    | exact wpAny_bind (wpAny_pure (wpAny_bind fin))
    | exact wpAny_bind fin

theorem dict_typeIs {X : Cx} {pins : List (Addr × Obj)} {σ : St} {H : Hp} {s : Shared} {a : Addr} {y : V} {o : Option V} (I : Inv X pins σ H s) (g : DGet H a y o) : s.TypeIs (.ref a) "dict" := by
  rcases g with ⟨kvs, k, e, _, _⟩ | ⟨kvs, k, b, e, _, _, _⟩
  · obtain ⟨_, _, vs, _, dd⟩ := dk_rd I.hok e
    exact dd.typeIs
  · obtain ⟨_, _, xs, _, dd⟩ := dt_rd I.hok e
    exact dd.typeIs
/-- d[y] -/
inductive RDGet (x y : V) (H : Hp) (Q : VK) : Prop where | mk (a : Addr) (v : V) (ex : x = .ref a) (d : DGet H a y (some v)) (q : Q v H) : RDGet x y H Q
def tDGet (td ty : TE) : TE := fun σ H Q => td σ H fun x H1 => ty σ H1 fun y H2 => RDGet x y H2 Q
def tDNotIn (ty td : TE) : TE := fun σ H Q => ty σ H fun y H1 => td σ H1 fun x H2 => ∃ a o, x = .ref a ∧ DGet H2 a y o ∧ Q (.bl (!o.isSome)) H2
/-- d[y] = v -/
def sDPut (td ty tv : TE) : TS := fun D σ H => tv σ H fun v H1 => td σ H1 fun x H2 => ty σ H2 fun y H3 => ∃ a H4, x = .ref a ∧ DPut H3 a y v H4 ∧ D.nx σ H4
section
variable {X : Cx} {o i e value : Expr} {pos pos' tpos : Pos} {td ty tv : TE}
theorem pe_dget (hu : X.A.units + 1 < cLine) (ho : PE X o td) (hi : PE X i ty) (hs : NoSl i) : PE X (.Subscript o i pos) (tDGet td ty) := by
  intro pins s σ H Q I h
  refine subD_of PySem.F.slot_dict_getitem.lookup hs (thn (ho pins s σ H _ I h) fun u s1 ⟨x, H1, I1, rx, q1⟩ => thn (hi pins s1 σ H1 _ I1 q1) fun iv s2 ⟨y, H2, I2, ry, a, v, ex, g, q2⟩ => ?_)
  subst ex
  obtain rfl : u = Value.ref a := rx
  exact ⟨dict_typeIs I2 g, d_getItem hu I2 g ry fun w' s3 I3 rw' => ⟨v, H2, I3, rw', q2⟩⟩
theorem pc_dnotin (hu : X.A.units + 1 < cLine) (hi : PE X i ty) (ho : PE X o td) : PC X .NotIn i o (tDNotIn ty td) := by
  intro pins s σ H Q I h
  refine thn (hi pins s σ H _ I h) fun iv s1 ⟨y, H1, I1, ry, q1⟩ => thn (ho pins s1 σ H1 _ I1 q1) fun u s2 ⟨x, H2, I2, rx, a, ov, ex, g, q2⟩ => ?_
  subst ex
  obtain rfl : u = Value.ref a := rx
  exact d_notIn hu I2 g ry fun s3 I3 => ⟨.bl (!ov.isSome), H2, I3, rfl, q2⟩
theorem ps_dput (hu : X.A.units + 1 < cLine) (ho : PE X o td) (hi : PE X i ty) (hv : PE X value tv) (hs : swapsWith value (some (.Subscript o i pos')) pos.line X.env = pure false) :
    PS X (.Assign [.Subscript o i pos'] value pos) (sDPut td ty tv) := by
  intro pins s σ H D I h
  refine wpAny_Assign_Subscript (thn (hv pins s σ H _ I h) fun r s1 ⟨v, H1, I1, rv, q1⟩ => thn (ho pins s1 σ H1 _ I1 q1) fun u s2 ⟨x, H2, I2, rx, q2⟩ => thn (hi pins s2 σ H2 _ I2 q2) fun iv s3 ⟨y, H3, I3, ry, a, H4, ex, g, q3⟩ => ?_) hs
  subst ex
  obtain rfl : u = Value.ref a := rx
  exact d_setItem hu I3 g ry rv fun s4 I4 => ⟨σ, H4, I4, q3⟩
end


/-! ### displays -/
theorem dk_empty {P : Program} {w : World} {H : Hp} (h : Heap) (hb : sysModules < h.objs.size) : ObjOk P w H (h.push { cls := .type "dict", data := .dict #[] }) h.objs.size (.dK []) :=
  ⟨Nat.zero_le _, beq_eq_false_iff_ne.mpr (Ne.symm (Nat.ne_of_lt hb)), [], .nil, Heap.DictOf.new h⟩
theorem dt_empty {P : Program} {w : World} {H : Hp} (h : Heap) (hb : sysModules < h.objs.size) : ObjOk P w H (h.push { cls := .type "dict", data := .dict #[] }) h.objs.size (.dT []) :=
  ⟨Nat.zero_le _, beq_eq_false_iff_ne.mpr (Ne.symm (Nat.ne_of_lt hb)), [], .nil, _, #[], 0, Heap.get?_push_size _ rfl, ⟨rfl, rfl, rfl⟩, rfl, rfl, List.nodup_nil⟩
section
variable {X : Cx} {pos : Pos}
end

/-! ### methods -/
section
variable {X : Cx} {pins : List (Addr × Obj)} {σ : St} {H : Hp} {s : Shared} {a : Addr} {y d : V} {u r : Value} {o : Option V} {A : Around} {E : Value → Shared → Prop}
end

section
variable {X : Cx} {o e f : Expr} {apos cpos : Pos} {td ty tx : TE}
end

/-! ### dict(d): a copy -/
section
variable {X : Cx} {pins : List (Addr × Obj)} {σ : St} {H : Hp} {s : Shared} {a : Addr} {kvs : List (Key × V)} {A : Around} {E : Value → Shared → Prop}
end


section
variable {X : Cx} {pins : List (Addr × Obj)} {σ : St} {H : Hp} {s : Shared} {a : Addr} {y : V} {u : Value} {A : Around} {E : Value → Shared → Prop}
end
end L2

namespace L2
open PySem PySem.Spec PyProof.Rows
section
variable {X : Cx}
end
/-! ### a dict's pairs: keys that differ -/
section
variable {κ : Type} [DecidableEq κ]
end
end L2


set_option maxHeartbeats 4000000
namespace L2
open PySem PySem.Spec PyProof.Rows

instance : Inhabited V := ⟨.non⟩
/-! ### isinstance(x, T), T a type of Python's own -/
section
variable {X : Cx}
theorem call_isinst : CallR X (.builtin "isinstance") (fun xs H Q => ∃ x n t b, xs = [x, .ty n] ∧ TyOf X.K H x t ∧ PySem.W.kitOne X.K t (.type n) = some b ∧ Q (.bl b) H) := by
  intro pins s σ H xs us Q I r h
  obtain ⟨x, n, t, b, rfl, ty, e, q⟩ := h
  obtain ⟨u, u', rfl, rx, ru⟩ := vals2 r
  cases (show u' = Value.type n from ru)
  exact isinst_ok I rx ty e fun tk => ⟨.bl b, H, I.tok tk, rfl, q⟩
end
section
variable {K : PySem.W.Frag}
theorem kit_int_int : PySem.W.kitOne K (.type "int") (.type "int") = some true := by first | rfl | (unfold PySem.W.kitOne; simp)
theorem kit_int_bool : PySem.W.kitOne K (.type "int") (.type "bool") = some false := by first | rfl | decide +kernel
theorem kit_bool_bool : PySem.W.kitOne K (.type "bool") (.type "bool") = some true := by first | rfl | (unfold PySem.W.kitOne; simp)
theorem kit_list_list : PySem.W.kitOne K (.type "list") (.type "list") = some true := by first | rfl | (unfold PySem.W.kitOne; simp)
theorem kit_tuple_tuple : PySem.W.kitOne K (.type "tuple") (.type "tuple") = some true := by first | rfl | (unfold PySem.W.kitOne; simp)
end

/-! ### == and != of lists and tuples -/
/-- == of two values, as the heap has them: flat ones, one object, or two tuples of flat ones -/
inductive EqH (K : PySem.W.Frag) (H : Hp) : V → V → Bool → Prop where
  | flat {x y : V} (hx : flatV x = true) (hy : flatV y = true) : EqH K H x y (eqV x y)
  | same (p : Addr) : EqH K H (.ref p) (.ref p) true
  | tup {p q : Addr} {xs ys : List V} (hn : p ≠ q) (hp : SqT K H p xs) (hq : SqT K H q ys) (fx : xs.all flatV = true) (fy : ys.all flatV = true) :
      EqH K H (.ref p) (.ref q) ((List.range (min xs.length ys.length)).all (fun j => eqV (xs.getD j .non) (ys.getD j .non)) && xs.length == ys.length)
theorem all_flat_get {xs : List V} (f : xs.all flatV = true) {j : Nat} {x : V} (h : xs[j]? = some x) : flatV x = true :=
  List.all_eq_true.mp f x (List.mem_of_getElem? h)
theorem eqAt_items {A : Around} {s : Shared} {xs ys : List V} {its its2 : List Value} (r : Vals xs its) (r2 : Vals ys its2) (fx : xs.all flatV = true) (fy : ys.all flatV = true) :
    ∀ j (h1 : j < its.toArray.size) (h2 : j < its2.toArray.size), SeqAt.EqAt A s its.toArray[j] its2.toArray[j] (eqV (xs.getD j .non) (ys.getD j .non)) := by
  intro j h1 h2
  rw [List.size_toArray] at h1 h2
  have hx : xs[j]? = some xs[j]! := by
    have : j < xs.length := by rw [r.length]; exact h1
    simp [this]
  have hy : ys[j]? = some ys[j]! := by
    have : j < ys.length := by rw [r2.length]; exact h2
    simp [this]
  obtain ⟨u, hu, ru⟩ := r.get hx
  obtain ⟨v, hv, rv⟩ := r2.get hy
  have e1 : its.toArray[j] = u := by
    have := List.getElem?_eq_some_iff.mp hu
    obtain ⟨_, e⟩ := this
    simpa using e
  have e2 : its2.toArray[j] = v := by
    have := List.getElem?_eq_some_iff.mp hv
    obtain ⟨_, e⟩ := this
    simpa using e
  rw [e1, e2]
  have g1 : xs.getD j .non = xs[j]! := by rw [List.getD_eq_getElem?_getD, hx]; rfl
  have g2 : ys.getD j .non = ys[j]! := by rw [List.getD_eq_getElem?_getD, hy]; rfl
  rw [g1, g2]
  exact eqAt_V ru rv (all_flat_get fx hx) (all_flat_get fy hy)
theorem EqH.at {X : Cx} {pins : List (Addr × Obj)} {σ : St} {H : Hp} {s : Shared} {A : Around} {x y : V} {u v : Value} {b : Bool} (h : EqH X.K H x y b) (I : Inv X pins σ H s) (rx : RelV x u) (ry : RelV y v) (hu : A.units < cLine) : SeqAt.EqAt A s u v b := by
  cases h with
  | flat hx hy => exact eqAt_V rx ry hx hy
  | same p =>
    cases (show u = Value.ref p from rx)
    cases (show v = Value.ref p from ry)
    exact SeqAt.EqAt.same _
  | @tup p q xs ys hn hp hq fx fy =>
    cases (show u = Value.ref p from rx)
    cases (show v = Value.ref q from ry)
    obtain ⟨its, r, pl, _⟩ := I.tuple hp
    obtain ⟨its2, r2, pl2, _⟩ := I.tuple hq
    refine SeqAt.EqAt.of_refs hn ?_
    have e1 : its.toArray.size = xs.length := by rw [List.size_toArray]; exact r.length.symm
    have e2 : its2.toArray.size = ys.length := by rw [List.size_toArray]; exact r2.length.symm
    have z := SeqAt.RcAt.tuples (A := A) pl pl2 hu (eqAt_items r r2 fx fy)
    rw [e1, e2] at z
    exact z
/-- the lists at a and b compared -/
def EqLs (K : PySem.W.Frag) (H : Hp) (xs ys : List V) (b : Bool) : Prop :=
  (xs.length ≠ ys.length ∧ b = false) ∨ (xs.length = ys.length ∧ ∃ e : Nat → Bool, (∀ (j : Nat) x y, xs[j]? = some x → ys[j]? = some y → EqH K H x y (e j)) ∧ b = (List.range xs.length).all e)
theorem EqLs.refl {K : PySem.W.Frag} {H : Hp} {xs : List V} (h : ∀ x ∈ xs, EqH K H x x true) : EqLs K H xs xs true :=
  .inr ⟨rfl, fun _ => true, fun j x y hx hy => by rw [hx] at hy; cases hy; exact h x (List.mem_of_getElem? hx), by simp⟩
section
variable {X : Cx}
theorem eqLs_at {A : Around} {pins : List (Addr × Obj)} {σ : St} {H : Hp} {s : Shared} {xs ys : List V} {its its2 : List Value} {e : Nat → Bool} (I : Inv X pins σ H s) (hu : A.units < cLine) (r : Vals xs its) (r2 : Vals ys its2)
    (he : ∀ (j : Nat) x y, xs[j]? = some x → ys[j]? = some y → EqH X.K H x y (e j)) :
    ∀ j (h1 : j < its.toArray.size) (h2 : j < its2.toArray.size), SeqAt.EqAt A s its.toArray[j] its2.toArray[j] (e j) := by
  intro j h1 h2
  rw [List.size_toArray] at h1 h2
  have hx : xs[j]? = some xs[j]! := by
    have : j < xs.length := by rw [r.length]; exact h1
    simp [this]
  have hy : ys[j]? = some ys[j]! := by
    have : j < ys.length := by rw [r2.length]; exact h2
    simp [this]
  obtain ⟨u, hu', ru⟩ := r.get hx
  obtain ⟨v, hv, rv⟩ := r2.get hy
  have e1 : its.toArray[j] = u := by
    obtain ⟨_, e⟩ := List.getElem?_eq_some_iff.mp hu'
    simpa using e
  have e2 : its2.toArray[j] = v := by
    obtain ⟨_, e⟩ := List.getElem?_eq_some_iff.mp hv
    simpa using e
  rw [e1, e2]
  exact (he j _ _ hx hy).at I ru rv hu
def rEqL (K : PySem.W.Frag) (neg : Bool) : R2 := fun x y H Q => ∃ a b xs ys k, x = .ref a ∧ y = .ref b ∧ SqL K H a xs ∧ SqL K H b ys ∧ EqLs K H xs ys k ∧ Q (.bl (if neg then !k else k)) H
theorem op_eqL (hu : X.A.units + 1 < cLine) : OpR X (compareOp .Eq) (rEqL X.K false) := by
  intro pins s σ H x y v u Q I rx ry h
  obtain ⟨a, b, xs, ys, k, rfl, rfl, ha, hb, he, q⟩ := h
  cases (show v = Value.ref a from rx)
  cases (show u = Value.ref b from ry)
  obtain ⟨its, r, pl, _⟩ := I.list ha
  obtain ⟨its2, r2, pl2, _⟩ := I.list hb
  have l1 := r.length
  have l2 := r2.length
  rcases he with ⟨hn, rfl⟩ | ⟨hn, e, he, rfl⟩
  · exact SeqAt.eq_list_lengthsAt pl.isList pl2.isList (by simp only [List.size_toArray, bne_iff_ne]; omega) (by omega) ⟨.bl false, H, I, rfl, q⟩
  · refine SeqAt.eq_listAt pl.isList pl2.isList (by simp only [List.size_toArray]; omega) (by omega) (eqLs_at (A := X.A.in1) I (by show X.A.units + 1 < cLine; omega) r r2 he) ⟨.bl _, H, I, rfl, ?_⟩
    rw [List.size_toArray, ← l1]
    exact q
theorem op_neL (hu : X.A.units + 1 < cLine) : OpR X (compareOp .NotEq) (rEqL X.K true) := by
  intro pins s σ H x y v u Q I rx ry h
  obtain ⟨a, b, xs, ys, k, rfl, rfl, ha, hb, he, q⟩ := h
  cases (show v = Value.ref a from rx)
  cases (show u = Value.ref b from ry)
  obtain ⟨its, r, pl, _⟩ := I.list ha
  obtain ⟨its2, r2, pl2, _⟩ := I.list hb
  have l1 := r.length
  have l2 := r2.length
  rcases he with ⟨hn, rfl⟩ | ⟨hn, e, he, rfl⟩
  · exact SeqAt.RcNeAt.lists_lengths (A := X.A) (s := s) pl.isList pl2.isList (by simp only [List.size_toArray, bne_iff_ne]; omega) (by omega) _ _ _ _ ⟨.bl true, H, I, rfl, q⟩
  · refine SeqAt.RcNeAt.lists (A := X.A) (s := s) pl.isList pl2.isList (by simp only [List.size_toArray]; omega) (by omega) (eqLs_at (A := X.A.in1) I (by show X.A.units + 1 < cLine; omega) r r2 he) _ _ _ _ ⟨.bl _, H, I, rfl, ?_⟩
    rw [List.size_toArray, ← l1]
    exact q
theorem eqLs_nil {K : PySem.W.Frag} {H : Hp} {xs : List V} : EqLs K H xs [] (decide (xs = [])) := by
  cases xs with
  | nil => exact .inr ⟨rfl, fun _ => true, fun j x y hx hy => by simp at hx, by simp⟩
  | cons x r => exact .inl ⟨by simp, by simp⟩

/-! ### methods of texts -/
/-- x.index(y), where y is found -/
theorem mt_index : MtR X "str.index" (fun x vs H Q => ∃ i j k, x = .str i ∧ vs = [.str j] ∧ (∃ r, Builtin.Str.occurrences i j 0 i.length 1 = k :: r) ∧ Q (.int (k : Nat)) H) := by
  intro pins s σ H x xs v us Q I rx rs h
  obtain ⟨i, j, k, rfl, rfl, ⟨r, ho⟩, q⟩ := h
  obtain ⟨t, rfl⟩ := (show ∃ t, v = Value.str i t from rx)
  obtain ⟨u, rfl, ru⟩ := vals1 rs
  obtain ⟨t', rfl⟩ := (show ∃ t, u = Value.str j t from ru)
  exact SC.index ho ⟨.int (k : Nat), H, I.tok _, ⟨_, rfl⟩, q⟩
theorem strsAre_of : ∀ {ys : List Str} {us : List Value}, Vals (ys.map V.str) us → StrsAre us ys
  | [], _, r => by cases r; exact .nil
  | y :: ys, _, r => by
    cases r with
    | cons r1 r2 =>
      obtain ⟨t, rfl⟩ := r1
      exact .cons y t (strsAre_of r2)
/-- sep.join(xs), xs a list of texts -/
theorem mt_join : MtR X "str.join" (fun x vs H Q => ∃ sep a ys, x = .str sep ∧ vs = [.ref a] ∧ SqL X.K H a (ys.map V.str) ∧ (ys.map (·.length)).sum + ys.length * sep.length ≤ 16777216 ∧ Q (.str (Txt.join sep ys)) H) := by
  intro pins s σ H x xs v us Q I rx rs h
  obtain ⟨sep, a, ys, rfl, rfl, ha, hz, q⟩ := h
  obtain ⟨t, rfl⟩ := (show ∃ t, v = Value.str sep t from rx)
  obtain ⟨u, rfl, ru⟩ := vals1 rs
  cases (show u = Value.ref a from ru)
  obtain ⟨its, r, pl, _⟩ := I.list ha
  exact join_list pl.isList (strsAre_of (by simpa using r)) hz fun t' k => ⟨.str _, H, I.tok k, ⟨_, rfl⟩, q⟩
end
end L2

set_option maxHeartbeats 4000000
namespace L2
open PySem
open PySem.Sem (wp)
section
variable {prog : Program} {w : World} {A : Around} {E : Value → Shared → Prop} {s : Shared}
end

/-! zip(text, tuple) made -/
section
variable {prog : Program} {w : World} {A : Around} {E : Value → Shared → Prop} {s : Shared}
end
end L2

set_option maxHeartbeats 4000000
namespace L2
open PySem PySem.Spec PyProof.Rows

/-! ### records of ours have turned, a new object is laid -/
section
variable {X : Cx} {pins : List (Addr × Obj)} {σ : St} {H : Hp} {s : Shared} {h' : Heap} {ch : List Addr}
end

/-! ### the signs of a text -/
def Its (x : Str) : It := ⟨fun i _ => i < x.cps.size, fun i H v H' => H' = H ∧ ∃ c, x.cps[i]? = some c ∧ v = .str ⟨#[c]⟩, fun i _ => x.cps.size ≤ i⟩
theorem go_str {M : Model} {A : Around} {E : Value → Shared → Prop} {s : Shared} {tg : Expr} {it : Value} {x : Str} {t : Tok} {Q : Unit → Shared → Prop} (hQ : Q () s) : wpAny M A (letOwnedTupleGo tg it (.str x t)) Q E s := by
  unfold letOwnedTupleGo
  cases tg <;> first
    | exact wpAny_pure hQ
    | (cases it <;> exact wpAny_pure hQ)
theorem turn_str {P : Program} {w : World} {K : PySem.W.Frag} {tg : Expr} {x : Str} {t : Tok} {T : String} {it : Addr}
    (W : ∀ A' : Around, A'.handled = none → Walks P w A' it [it] [it] x.cps.size (SignAt x) (fun i h => h.IsStrIter it T x t i))
    (hself : ∀ (A : Around) (i : Nat) (s : Shared) (Q : Value → Shared → Prop) (E : Value → Shared → Prop), s.heap.IsStrIter it T x t i → Q (.ref it) s → wpAny (model P w) A (pyIter (.ref it)) Q E s) :
    Turn P w K tg (Its x) [it] it (fun i h => i ≤ x.cps.size ∧ h.IsStrIter it T x t i) where
  mem := by simp
  obj := fun i h st b hb => by
    have e : b = it := by simpa using hb
    subst e
    obtain ⟨_, o, e, c, d⟩ := st
    exact ⟨o, e, fun v z => by rw [d] at z; cases z⟩
  keep := fun i h h' st k => by
    obtain ⟨hi, o, e, c⟩ := st
    exact ⟨hi, o, k it (by simp) o e, c⟩
  item := by
    intro X hP hw hK hc i pins s σ H E I hf st hg
    subst hP hw hK
    obtain ⟨f0, f1, f2, f3, f4, f5⟩ := hf it (by simp)
    refine (W X.A (I.ok.hd hc)).item i s _ _ hg st.2 fun v h' tk hv st' kk => ?_
    obtain ⟨c, u, hcx, rfl⟩ := hv
    have I1 : Inv X pins σ H { s with heap := h', toks := tk } := I.turned (fun b o hb e => kk b o (by simpa using hb) e) f0 f1 f3 f4 f5
    exact ⟨_, rfl, go_str ⟨.str ⟨#[c]⟩, H, I1, ⟨u, rfl⟩, ⟨rfl, c, hcx, rfl⟩, ⟨hg, st'⟩, fun b hb => (hf b hb).1⟩⟩
  done := by
    intro X hP hw hK hc i pins s σ H E I hf st hg
    subst hP hw hK
    obtain ⟨f0, f1, f2, f3, f4, f5⟩ := hf it (by simp)
    have e : i = x.cps.size := Nat.le_antisymm st.1 hg
    subst e
    exact (W X.A (I.ok.hd hc)).done s _ _ st.2 fun h' tk kk => ⟨rfl, I.turned (fun b o hb e => kk b o (by simpa using hb) e) f0 f1 f3 f4 f5⟩
  self := fun A i s Q E st h => hself A i s Q E st.2 h
def iStr (tl : TE) : TI := fun σ H R => tl σ H fun v H1 => ∃ x, v = .str x ∧ R (Its x) H1
section
variable {X : Cx} {tg : Expr}
theorem pi_str {l : Expr} {tl : TE} (hl : PE X l tl) : PI X tg l (iStr tl) := by
  intro pins s σ H R I h
  refine thn (hl pins s σ H _ I h) fun v s1 ⟨x, H1, I1, r1, q1⟩ => ?_
  obtain ⟨x, rfl, q⟩ := q1
  obtain ⟨t, rfl⟩ := r1
  have fp : ∀ b ∈ [s1.heap.objs.size], FpOk X pins H1 b := fun b hb => by
    have e : b = s1.heap.objs.size := by simpa using hb
    subst e
    exact I1.fpOk (Nat.le_refl _) (I1.hok.fresh (Nat.le_refl _))
  cases ha : x.cps.all (· < 128)
  · refine wpAny_pyIter_wide ha ?_
    exact ⟨s1.heap.objs.size, [s1.heap.objs.size], _, _, H1, rfl, I1.kept (t' := s1.toks) fun b o e => Heap.get?_push_of_some _ e,
      turn_str (T := "str_iterator") (fun A' hA => Walks.strWide hA _ x t) (fun A i s Q E st h => wpAny_pyIter_striter_wide st h), ⟨Nat.zero_le _, _, Heap.get?_push_size _ rfl, rfl, rfl⟩, fp, q⟩
  · refine wpAny_pyIter_ascii ha ?_
    exact ⟨s1.heap.objs.size, [s1.heap.objs.size], _, _, H1, rfl, I1.kept (t' := s1.toks) fun b o e => Heap.get?_push_of_some _ e,
      turn_str (T := "str_ascii_iterator") (fun A' hA => Walks.strAscii hA _ x t) (fun A i s Q E st h => wpAny_pyIter_striter_ascii st h), ⟨Nat.zero_le _, _, Heap.get?_push_size _ rfl, rfl, rfl⟩, fp, q⟩
end
/-- over a text's signs -/
theorem for_str {x : Str} {g : TG} {tb : TS} {D : Ends} {σ : St} {H : Hp} (Pv : Nat → St → Hp → Prop) (h0 : Pv 0 σ H)
    (hs : ∀ i c σ H, x.cps[i]? = some c → Pv i σ H → g (.str ⟨#[c]⟩) σ H fun σ2 H2 => tb { D with nx := Pv (i + 1), ct := Pv (i + 1), bk := D.nx } σ2 H2) (hd : ∀ σ H, Pv x.cps.size σ H → D.nx σ H) :
    ∃ W : Nat → Nat → St → Hp → Prop, (∃ m, W 0 m σ H) ∧ ∀ i m σ H, W i m σ H →
      ((Its x).stop i H ∧ D.nx σ H) ∨ ((Its x).go i H ∧ ∃ N : St → Hp → Prop, (∀ σ' H', N σ' H' → ∃ m', m' < m ∧ W (i + 1) m' σ' H') ∧ ∀ v H', (Its x).yld i H v H' → g v σ H' fun σ2 H2 => tb { D with nx := N, ct := N, bk := D.nx } σ2 H2) := by
  refine ⟨fun i m σ H => m = x.cps.size - i ∧ i ≤ x.cps.size ∧ Pv i σ H, ⟨x.cps.size, by simp, Nat.zero_le _, h0⟩, ?_⟩
  rintro i m σ H ⟨rfl, hi, p⟩
  by_cases hlt : i < x.cps.size
  · refine .inr ⟨hlt, Pv (i + 1), fun σ' H' p' => ⟨x.cps.size - (i + 1), by omega, rfl, hlt, p'⟩, fun v H' y => ?_⟩
    obtain ⟨e, c, hc, rfl⟩ := y
    subst e
    exact hs i c σ _ hc p
  · have e : i = x.cps.size := by omega
    subst e
    exact .inl ⟨Nat.le_refl _, hd σ H p⟩

/-! ### zip(text, tuple), its pairs unpacked -/
section
variable {X : Cx}
end
end L2

set_option maxHeartbeats 4000000
namespace L2
open PySem
open PySem.Sem (wp)
section
variable {prog : Program} {w : World} {A : Around} {E : Value → Shared → Prop} {R : Result → Shared → Prop} {s : Shared}
/-- a comprehension's loop, any target -/
theorem compLoop_any {elt target iter : Expr} {ifs : List Expr} {scope : Scope} {pos : Pos} {it acc : Value} {env : Env} (I : Nat → Shared → Prop)
    (turn : ∀ n s, I n s → wpAny (model prog w) A (pyNext it) (fun r s₁ => match r with
      | none => R (.ok .next) s₁
      | some v => wpAny (model prog w) A (letOwnedTupleGo target it v) (fun _ s₁' => wpAny (model prog w) A (assign target env v) (fun _ s₂ =>
          wpAny (model prog w) A (forIn ifs true fun c r => if r = true then do let ok ← isTrue c env (eval c env); pure (ForInStep.yield ok) else pure (ForInStep.yield r)) (fun ok s₃ =>
            if ok = true then wpAny (model prog w) A (eval elt env) (fun x s₄ =>
              wpAny (model prog w) A (call (.builtin "list.append") [acc, x]) (fun _ s₅ => ∃ m, m < n ∧ I m s₅) (notedBy (model prog w) A env fun e s' => R (.error e) s') s₄) (notedBy (model prog w) A env fun e s' => R (.error e) s') s₃
            else ∃ m, m < n ∧ I m s₃) (notedBy (model prog w) A env fun e s' => R (.error e) s') s₂) (notedBy (model prog w) A env fun e s' => R (.error e) s') s₁')
          (notedBy (model prog w) A env fun e s' => R (.error e) s') s₁) (notedBy (model prog w) A env fun e s' => R (.error e) s') s)
    (n : Nat) (h : I n s) :
    codeAny (model prog w) A (.compLoop (.ListComp elt [⟨target, iter, ifs, 0⟩] scope pos) 0 it acc env) R s := by
  refine codeAny_loop rfl I (fun n s hI => ?_) n h
  show wpAny _ A ((compTurn (.ListComp elt [⟨target, iter, ifs, 0⟩] scope pos) 0 it acc env).onRaise (fun x => do noteFrame x env; theTreesLotGoes x)) _ _ s
  refine wpAny_noted ?_
  rw [compTurn_list]
  refine wpAny_bind (wpAny_standAt (wpAny_bind (wpAny_mono (turn n s hI) (fun r s₁ h₁ => ?_) fun _ _ h' => h')))
  cases r with
  | none => exact wpAny_pure h₁
  | some v =>
    refine wpAny_bind (wpAny_mono h₁ (fun _ s₁' h₁' => ?_) fun _ _ h' => h')
    refine wpAny_bind (wpAny_mono h₁' (fun _ s₂ h₂ => wpAny_bind (wpAny_mono h₂ (fun ok s₃ h₃ => ?_) fun _ _ h' => h')) fun _ _ h' => h')
    cases ok with
    | false =>
      simp only [Bool.false_eq_true, if_false] at h₃ ⊢
      first
        | exact wpAny_pure ⟨rfl, h₃⟩
        | exact wpAny_bind (wpAny_pure (wpAny_pure ⟨rfl, h₃⟩))
    | true =>
      simp only [if_true] at h₃ ⊢
      first
        | exact wpAny_bind (wpAny_bind (wpAny_mono h₃ (fun x s₄ h₄ => wpAny_bind (wpAny_mono h₄ (fun _ s₅ h₅ => wpAny_pure (wpAny_pure ⟨rfl, h₅⟩)) fun _ _ h' => h')) fun _ _ h' => h'))
        | exact wpAny_bind (wpAny_mono h₃ (fun x s₄ h₄ => wpAny_bind (wpAny_mono h₄ (fun _ s₅ h₅ => wpAny_pure ⟨rfl, h₅⟩) fun _ _ h' => h')) fun _ _ h' => h')
end
end L2

set_option maxHeartbeats 4000000
namespace L2
open PySem PySem.Spec PyProof.Rows

/-! ### list comprehensions of one clause -/
/-- the block's context: its own names and the captured ones -/
def cxComp (X : Cx) (N' : List Str) (scope : Scope) (cl : List (Str × Addr)) (C : Addr) (s₃ : Shared) (H₃ : Hp) (fp : List Addr) : Cx :=
  { X with N := N', s₀ := s₃, H₀ := H₃, env := compEnvC scope cl C X.env, outer := X.stack, stack := X.stack, ex := fp, fn := fun _ => false, pn := [], xe := fun _ _ => False }
/-- the captured values -/
def capσ (cap : List (Option Nat)) (σ : St) : St := cap.map fun o => o.bind fun j => (σ[j]?).join
structure CompScope (X : Cx) (N' : List Str) (cap : List (Option Nat)) (scope : Scope) (cl : List (Str × Addr)) : Prop where
  kind : scope.kind = .function
  nocell : ∀ y ∈ scope.names, y.2 ≠ .cell
  names : ∀ y ∈ scope.names, y.2 = .local → scope.names.lookup y.1 = some .local
  clos : closureFor scope X.env = pure cl
  len : cap.length = N'.length
  nd : N'.Nodup
  sub : ∀ x c, cl.lookup x = some c → X.env.cells.lookup x = some c
  hasF : ∀ p ∈ scope.names, p.2 = .free → ∃ c, cl.lookup p.1 = some c
  capF : ∀ (i : Nat) x j, N'[i]? = some x → cap[i]? = some (some j) → X.N[j]? = some x ∧ (X.env.kindOf x = some .cell ∨ X.env.kindOf x = some .free) ∧ scope.names.lookup x = some .free
theorem lookup_relabel {env : Env} (x : Str) : ∀ names : List (Str × NameKind), (names.map fun (n, k) => if (k == NameKind.free && env.scope.kind == .function && env.kindOf n == some .cell) then (n, NameKind.cell) else (n, k)).lookup x =
    (names.lookup x).map fun k => if (k == NameKind.free && env.scope.kind == .function && env.kindOf x == some .cell) then NameKind.cell else k
  | [] => rfl
  | (n, k) :: r => by
    have ih := lookup_relabel (env := env) x r
    show List.lookup x ((if (k == NameKind.free && env.scope.kind == .function && env.kindOf n == some .cell) = true then (n, NameKind.cell) else (n, k)) :: _) = _
    cases hx : x == n with
    | true =>
      have e : x = n := eq_of_beq hx
      subst e
      by_cases hc : (k == NameKind.free && env.scope.kind == .function && env.kindOf x == some .cell) = true
      · rw [if_pos hc]
        simp only [List.lookup_cons, hx, Option.map_some, hc, if_true]
      · rw [if_neg hc]
        simp only [List.lookup_cons, hx, Option.map_some, hc]
        simp
    | false =>
      by_cases hc : (k == NameKind.free && env.scope.kind == .function && env.kindOf n == some .cell) = true
      · rw [if_pos hc]; simp only [List.lookup_cons, hx]; exact ih
      · rw [if_neg hc]; simp only [List.lookup_cons, hx]; exact ih
theorem CompScope.has {X : Cx} {N' : List Str} {cap : List (Option Nat)} {scope : Scope} {cl : List (Str × Addr)} (S : CompScope X N' cap scope cl) (x : Str)
    (h : (relabel scope X.env).names.lookup x = some .cell ∨ (relabel scope X.env).names.lookup x = some .free) : ∃ c, cl.lookup x = some c := by
  have hf : scope.names.lookup x = some .free := by
    have e : (relabel scope X.env).names.lookup x = _ := lookup_relabel x scope.names
    rw [e] at h
    cases q : scope.names.lookup x with
    | none => rw [q] at h; rcases h with h | h <;> cases h
    | some k =>
      have hk : k ≠ .cell := S.nocell (x, k) (PySem.mem_of_lookup q)
      by_cases hkf : k = .free
      · rw [hkf]
      · exfalso
        rw [q] at h
        have z : (k == NameKind.free) = false := by simpa using hkf
        simp only [Option.map_some, z, Bool.false_and, Bool.false_eq_true, if_false] at h
        rcases h with h | h
        · exact hk (Option.some.inj h)
        · exact hkf (Option.some.inj h)
  exact S.hasF (x, .free) (PySem.mem_of_lookup hf) rfl
theorem CompScope.cap {X : Cx} {N' : List Str} {cap : List (Option Nat)} {scope : Scope} {cl : List (Str × Addr)} (S : CompScope X N' cap scope cl) (i : Nat) (x : Str) (j : Nat) (h1 : N'[i]? = some x) (h2 : cap[i]? = some (some j)) :
    X.N[j]? = some x ∧ (X.env.kindOf x = some .cell ∨ X.env.kindOf x = some .free) ∧ ((relabel scope X.env).names.lookup x = some .cell ∨ (relabel scope X.env).names.lookup x = some .free) := by
  obtain ⟨a, b, c⟩ := S.capF i x j h1 h2
  refine ⟨a, b, ?_⟩
  have e : (relabel scope X.env).names.lookup x = _ := lookup_relabel x scope.names
  rw [e, c]
  simp only [Option.map_some]
  split
  · exact .inl rfl
  · exact .inr rfl
/-- the tests of the clause -/
def PF (X : Cx) (ifs : List Expr) (t : TT) : Prop :=
  ∀ (pins : List (Addr × Obj)) (s : Shared) (σ : St) (H : Hp) (Q : Bool → Hp → Prop), Inv X pins σ H s → t σ H Q →
    wpAny (model X.prog X.w) X.A (forIn ifs true fun c r => if r = true then do let ok ← isTrue c X.env (eval c X.env); pure (ForInStep.yield ok) else pure (ForInStep.yield r)) (TP X pins σ Q) X.xe s
theorem pf_nil {X : Cx} : PF X [] (fun _ H Q => Q true H) := fun _ _ _ H _ I h => wpAny_tests_nil ⟨H, I, h⟩
theorem pf_one {X : Cx} {c : Expr} {t : TT} (h : PT X c t) : PF X [c] t := fun pins s σ H Q I hw => wpAny_tests_one (h pins s σ H Q I hw)
/-- the loop's word: D the list that is made -/
def CompW (J : It) (g : TG) (ti : TT) (te : TE) (D : Addr) (σ₀ : St) (H₀ : Hp) (Q : Hp → Prop) : Prop :=
  ∃ W : Nat → Nat → St → Hp → Prop, (∃ m, W 0 m σ₀ H₀) ∧ ∀ i m σ H, W i m σ H → (J.stop i H ∧ Q H) ∨ (J.go i H ∧ ∃ N : St → Hp → Prop, (∀ σ' H', N σ' H' → ∃ m', m' < m ∧ W (i + 1) m' σ' H') ∧ ∀ x H', J.yld i H x H' → g x σ H' fun σ2 H2 => ti σ2 H2 fun b H3 =>
    if b = true then te σ2 H3 fun v H4 => ∃ xs, H4 D = some (.lst xs) ∧ xs.length < sizeLine ∧ N σ2 (upd H4 D (.lst (xs ++ [v]))) else N σ2 H3)
def tComp (cap : List (Option Nat)) (wi : TI) (g : TG) (ti : TT) (te : TE) : TE := fun σ H Q => wi σ H fun J H1 => ∀ D, H1 D = none → CompW J g ti te D (capσ cap σ) (upd H1 D (.lst [])) (Q (.ref D))

section
variable {X : Cx} {tg iter elt : Expr} {ifs : List Expr} {scope : Scope} {pos : Pos} {cl : List (Str × Addr)} {N' : List Str} {cap : List (Option Nat)} {wi : TI} {g : TG} {ti : TT} {te : TE}
theorem comp_core {pins : List (Addr × Obj)} {σ : St} {H2 : Hp} {s2 : Shared} {it : Addr} {fp : List Addr} {tn : Nat → Heap → Prop} {J : It} {E : Value → Shared → Prop} {Q : VK} {RR : Value → Addr → Result → Shared → Prop}
    (hc : X.calm = true) (S : CompScope X N' cap scope cl) (I2 : Inv X pins σ H2 s2) (T : Turn X.prog X.w X.K tg J fp it tn) (st2 : tn 0 s2.heap) (f2 : ∀ b ∈ fp, FpOk X pins H2 b)
    (hg : ∀ C s₃ H₃ fp, PG (cxComp X N' scope cl C s₃ H₃ fp) tg g) (ht : ∀ C s₃ H₃ fp, PF (cxComp X N' scope cl C s₃ H₃ fp) ifs ti) (he : ∀ C s₃ H₃ fp, PE (cxComp X N' scope cl C s₃ H₃ fp) elt te)
    (hW : ∀ D, H2 D = none → CompW J g ti te D (capσ cap σ) (upd H2 D (.lst [])) (Q (.ref D)))
    (hRR : ∀ D C s' H', (∃ m, s'.heap.Ns C m) → Inv X pins σ H' s' → FpOk X pins H' C → Q (.ref D) H' → RR (.ref D) C (.ok .next) s') :
    wpAny (model X.prog X.w) X.A (newList []) (fun acc s₃ => wpAny (model X.prog X.w) X.A (newFunctionEnv scope X.env.globals cl [] X.env.qual none .none (some X.env)) (fun cenv s₄ =>
      codeAny (model X.prog X.w) X.A (.compStart (.ListComp elt [⟨tg, iter, ifs, 0⟩] scope pos) 0 (.ref it) acc { cenv with scope := relabel scope X.env }) (RR acc cenv.locals) s₄) E s₃) E s2 := by
  refine wpAny_newObj_type (wpAny_newFunctionEnv S.nocell (by intro y hy; simp at hy) (fun h₁ hns₁ hsb₁ => ?_) S.kind)
  dsimp only at hns₁ hsb₁ ⊢
  have I3 : Inv X pins σ (upd H2 s2.heap.objs.size (.lst [])) { s2 with heap := s2.heap.push { cls := .type "list", dict := none, data := .seq ([] : List Value).toArray }, toks := s2.toks } := I2.lnew (its := []) (t' := s2.toks) .nil (Nat.zero_le _)
  generalize hs3 : ({ s2 with heap := s2.heap.push { cls := .type "list", dict := none, data := .seq ([] : List Value).toArray }, toks := s2.toks } : Shared) = s3 at I3
  have eh3 : s3.heap = s2.heap.push { cls := .type "list", dict := none, data := .seq ([] : List Value).toArray } := by rw [← hs3]
  have eo3 : s3.os = s2.os := by rw [← hs3]
  have eg3 : s3.gens = s2.gens := by rw [← hs3]
  have hD : H2 s2.heap.objs.size = none := I2.fresh
  rw [← eh3] at hns₁ hsb₁ ⊢
  generalize hC : s3.heap.objs.size = C at hns₁ hsb₁ ⊢
  have hCle : s3.heap.objs.size ≤ C := Nat.le_of_eq hC
  -- what stood stands
  have old : ∀ b o, s3.heap.get? b = some o → h₁.get? b = some o := fun b o e => hsb₁.extBut b o (Nat.ne_of_lt (Nat.lt_of_lt_of_le (Heap.lt_size e) hCle)) (Heap.get?_push_of_some _ e)
  have up2 : ∀ b o, s2.heap.get? b = some o → h₁.get? b = some o := fun b o e => old b o (by rw [eh3]; exact Heap.get?_push_of_some _ e)
  have H3C : upd H2 s2.heap.objs.size (.lst []) C = none := I3.hok.fresh hCle
  have fpH3 : ∀ b ∈ fp, upd H2 s2.heap.objs.size (.lst []) b = none := fun b hb => by
    obtain ⟨o, e, _⟩ := T.obj 0 _ st2 b hb
    rw [upd_ne (Nat.ne_of_lt (Heap.lt_size e))]
    exact (f2 b hb).1
  have fpC : ∀ b ∈ fp, b ≠ C := fun b hb q => by
    obtain ⟨o, e, _⟩ := T.obj 0 _ st2 b hb
    have h3 : s2.heap.objs.size ≤ s3.heap.objs.size := by rw [eh3, Heap.size_push]; exact Nat.le_succ _
    have h4 := Nat.lt_of_lt_of_le (Nat.lt_of_lt_of_le (Heap.lt_size e) h3) hCle
    rw [q] at h4
    exact absurd h4 (Nat.lt_irrefl _)
  have cellsC : ∀ x c, cl.lookup x = some c → c ≠ C := fun x c e q => by
    obtain ⟨v, z⟩ := I3.cell x c (S.sub x c e)
    have h4 := Nat.lt_of_lt_of_le z.lt hCle
    rw [q] at h4
    exact absurd h4 (Nat.lt_irrefl _)
  let X' : Cx := cxComp X N' scope cl C s3 (upd H2 s2.heap.objs.size (.lst [])) fp
  have okX' : X'.Ok := by
    refine ⟨I3.ok.mod, S.kind, I3.ok.glob, I3.ok.blt, hCle, fun x y c e1 e2 => I3.ok.inj x y c (S.sub x c e1) (S.sub y c e2), fun x hx => S.has x hx, fun x c z _ => absurd (show false = true from z) (by simp), I3.ok.hd, I3.ok.frames, .inl rfl,
      fun b hb => ⟨fpC b hb, fun x c e => (f2 b hb).2.2.2.2.1 x c (S.sub x c e)⟩, I3.bs, Nat.le_trans I3.ok.bsz I3.sz, fun b o e hb => ?_, fun b hb z => ?_, I3.stack, I3.stkFree⟩
    · rcases (f2 b hb).2.2.2.1 with q | q
      · exact I3.ok.noex b o e q
      · exact absurd (Nat.lt_of_lt_of_le (Heap.lt_size (I3.ok.bs b o e).1) q) (Nat.lt_irrefl _)
    · rcases List.mem_cons.mp (I3.stkSub b z) with q | q
      · exact (f2 b hb).2.1 q
      · exact (f2 b hb).2.2.1 q
  have J0 : ∀ tk, Inv X' [] (capσ cap σ) (upd H2 s2.heap.objs.size (.lst [])) { s2 with heap := h₁, toks := tk } := fun tk => by
    refine ⟨okX', eo3.symm, I2.bare, Un.kept old, ⟨_, hns₁, fun i x v e1 e2 e3 => ?_⟩, fun x c e => ?_, H3C, fun x c e => (I3.freeC x c (S.sub x c e)).imp id (fun z => ⟨rfl, z.2⟩), fun p hp => absurd (show p ∈ ([] : List (Addr × Obj)) from hp) (by simp), I3.hok.kept old, ?_⟩
    · have e1 : N'[i]? = some x := e1
      unfold capσ at e2
      rw [List.getElem?_map] at e2
      cases ec : cap[i]? with
      | none => rw [ec] at e2; cases e2
      | some o =>
        rw [ec] at e2
        cases o with
        | none => cases e2
        | some j =>
          have e2 : (σ[j]?).join = some v := Option.some.inj e2
          obtain ⟨hj, hk, hr⟩ := S.cap i x j e1 ec
          have ej : σ[j]? = some (some v) := by
            cases q : σ[j]? with
            | none => rw [q] at e2; cases e2
            | some o => rw [q] at e2; cases o with
              | none => cases e2
              | some v' => cases e2; rfl
          obtain ⟨m, hn, hl⟩ := I3.loc
          obtain ⟨u, r, l⟩ := hl j x v hj ej (by rcases hk with z | z; exact .inr (.inl z); exact .inr (.inr z))
          refine ⟨u, r, .inr ⟨hr, ?_⟩⟩
          obtain ⟨c, ecl⟩ := S.has x hr
          rcases l with ⟨z, _⟩ | ⟨_, c', ec', hcell⟩
          · rcases hk with y | y
            · rw [y] at z; cases z
            · rw [y] at z; cases z
          · have := S.sub x c ecl
            rw [this] at ec'
            cases ec'
            obtain ⟨oc, hoc, hd⟩ := hcell
            exact ⟨c, ecl, oc, old c oc hoc, hd⟩
    · obtain ⟨v, oc, hoc, hd⟩ := I3.cell x c (S.sub x c e)
      exact ⟨v, oc, old c oc hoc, hd⟩
    · show (capσ cap σ).length = N'.length
      unfold capσ
      rw [List.length_map]
      exact S.len
  have stat : ∀ {H' : Hp}, (∀ b ∈ fp, H' b = none) → ∀ b ∈ fp, FpOk X' [] H' b := fun hn b hb =>
    ⟨hn b hb, fpC b hb, okX'.exfs b hb, .inl hb, fun x c e => (f2 b hb).2.2.2.2.1 x c (S.sub x c e), fun p hp => absurd (show p ∈ ([] : List (Addr × Obj)) from hp) (by simp)⟩
  obtain ⟨W, ⟨m0, w0⟩, turn⟩ := hW _ hD
  have st1 : tn 0 h₁ := T.keep 0 _ _ st2 fun b _ o e => up2 b o e
  -- the end
  have fin : ∀ {σ' : St} {H' : Hp} {s' : Shared}, Inv X' [] σ' H' s' → Q (.ref s2.heap.objs.size) H' → RR (.ref s2.heap.objs.size) C (.ok .next) s' := fun {σ' H' s'} J q => by
    obtain ⟨m, hn, _⟩ := J.loc
    have un : Un (frs X.stack) fp (upd H2 s2.heap.objs.size (.lst [])) H' s3.heap s'.heap := J.base
    have I' : Inv X pins σ H' s' := I3.call' (show s'.os = s3.os from J.os) un J.hok J.bare fun b hb => ⟨(f2 b hb).2.2.2.1, (f2 b hb).2.1, (f2 b hb).2.2.2.2.1, (f2 b hb).2.2.2.2.2⟩
    exact hRR _ C s' H' ⟨m, hn⟩ I' (I3.fpOk hCle J.free) q
  have loop : ∀ tk, codeAny (model X.prog X.w) X.A (.compLoop (.ListComp elt [⟨tg, iter, ifs, 0⟩] scope pos) 0 (.ref it) (.ref s2.heap.objs.size) (compEnvC scope cl C X.env)) (RR (.ref s2.heap.objs.size) C) { s2 with heap := h₁, toks := tk } := fun tk => by
    refine compLoop_any (fun n s' => ∃ i σ' H', Inv X' [] σ' H' s' ∧ tn i s'.heap ∧ (∀ b ∈ fp, H' b = none) ∧ W i n σ' H') ?_ m0 ⟨0, capσ cap σ, _, J0 tk, st1, fpH3, w0⟩
    rintro n s4 ⟨i, σ4, H4, I4, st4, fr4, w4⟩
    rcases turn i n σ4 H4 w4 with ⟨stop, q⟩ | ⟨go, N, hN, step⟩
    · refine thn (T.done X' rfl rfl rfl hc i [] s4 σ4 H4 _ I4 (stat fr4) st4 stop) fun r s5 ⟨hr, I5⟩ => ?_
      subst hr
      exact fin I5 q
    · refine thn (T.item X' rfl rfl rfl hc i [] s4 σ4 H4 _ I4 (stat fr4) st4 go) fun r s5 ⟨u, hr, h5⟩ => ?_
      subst hr
      refine thn h5 fun _ s6 ⟨x, H6, I6, r6, y6, st6, fr6⟩ => ?_
      have I6' := I6.pinned (stat fr6) (T.obj _ _ st6)
      have back : ∀ {σ7 : St} {H7 : Hp} {s7 : Shared}, Inv X' ([] ++ pinsAt fp s6.heap) σ7 H7 s7 → N σ7 H7 → ∃ m, m < n ∧ ∃ i σ' H', Inv X' [] σ' H' s7 ∧ tn i s7.heap ∧ (∀ b ∈ fp, H' b = none) ∧ W i m σ' H' := fun {σ7 H7 s7} I7 n7 => by
        obtain ⟨m', hm, w7⟩ := hN σ7 H7 n7
        refine ⟨m', hm, i + 1, σ7, H7, I7.unpinned, T.keep _ _ _ st6 fun b hb o e => (I7.pin (b, o) (List.mem_append_right _ (List.mem_append_right _ (mem_pinsAt hb e)))).1, fun b hb => ?_, w7⟩
        obtain ⟨o, e, d⟩ := T.obj _ _ st6 b hb
        exact (I7.pin (b, o) (List.mem_append_right _ (List.mem_append_right _ (mem_pinsAt hb e)))).2.1
      refine wpAny_mono (hg C s3 _ fp _ s6 σ4 H6 x u _ I6' r6 (step x H6 y6)) (fun _ s7 ⟨σ7, H7, I7, q7⟩ => ?_) fun _ _ f => f.elim
      refine wpAny_mono (ht C s3 _ fp _ s7 σ7 H7 _ I7 q7) (fun b s8 ⟨H8, I8, q8⟩ => ?_) fun _ _ f => f.elim
      cases b with
      | false =>
        rw [if_neg Bool.false_ne_true] at q8 ⊢
        exact back I8 q8
      | true =>
        rw [if_pos rfl] at q8 ⊢
        refine wpAny_mono (he C s3 _ fp _ s8 σ7 H8 _ I8 q8) (fun u9 s9 ⟨v9, H9, I9, r9, xs, hD9, hl9, q9⟩ => ?_) fun _ _ f => f.elim
        refine wpAny_mono (mt_append (X := X') _ s9 σ7 H9 (.ref s2.heap.objs.size) [v9] (.ref s2.heap.objs.size) [u9] (fun _ H' => N σ7 H') I9 rfl (.cons r9 .nil) ⟨_, xs, v9, rfl, rfl, hD9, hl9, q9⟩) (fun _ s10 ⟨_, H10, I10, _, q10⟩ => ?_) fun _ _ f => f.elim
        exact back I10 q10
  exact codeAny_compStart_list (loop _) (T.self _ 0 _ _ _ st1 (loop _))

/-- the comprehension as a value -/
theorem pe_comp (hc : X.calm = true) (S : CompScope X N' cap scope cl) (hi : PI X tg iter wi)
    (hg : ∀ C s₃ H₃ fp, PG (cxComp X N' scope cl C s₃ H₃ fp) tg g) (ht : ∀ C s₃ H₃ fp, PF (cxComp X N' scope cl C s₃ H₃ fp) ifs ti) (he : ∀ C s₃ H₃ fp, PE (cxComp X N' scope cl C s₃ H₃ fp) elt te)
    (hs : ∀ x, foldedSetIterable iter X.env x = pure x := by intro _; rfl) : PE X (.ListComp elt [⟨tg, iter, ifs, 0⟩] scope pos) (tComp cap wi g ti te) := by
  intro pins s σ H Q I hw
  rw [eval_ListComp]
  refine wpAny_comprehension_free (use := none) rfl hs S.clos S.kind S.names (thn (hi pins s σ H _ I hw) fun v s1 h1 => thn h1 fun itv s2 h2 => ?_)
  obtain ⟨it, fp, tn, J, H2, e, I2, T, st2, f2, hW⟩ := h2
  subst e
  refine comp_core (RR := fun acc C => compPost (model X.prog X.w) X.A X.xe none (EP X pins σ Q) acc C) hc S I2 T st2 f2 hg ht he hW ?_
  intro D C s' H' hn I' fC q
  obtain ⟨m, hn⟩ := hn
  refine ⟨m, hn, fun h' hs' => ?_⟩
  obtain ⟨f0, f1, _, f3, f4, f5⟩ := fC
  exact ⟨.ref D, H', I'.turned (t' := s'.toks) (fun b o hb e => (hs'.2 b hb).trans e) f0 f1 f3 f4 f5, rfl, q⟩
/-- y = [..], where the stores are exchanged -/
theorem ps_setComp {i : Nat} {y : Str} {py spos : Pos} (hN : X.N.Nodup) (hyi : X.N[i]? = some y) (hy : Loc X.env.scope y) (hc : X.calm = true) (S : CompScope X N' cap scope cl) (hi : PI X tg iter wi)
    (hg : ∀ C s₃ H₃ fp, PG (cxComp X N' scope cl C s₃ H₃ fp) tg g) (ht : ∀ C s₃ H₃ fp, PF (cxComp X N' scope cl C s₃ H₃ fp) ifs ti) (he : ∀ C s₃ H₃ fp, PE (cxComp X N' scope cl C s₃ H₃ fp) elt te)
    (hsw : swapsWith (.ListComp elt [⟨tg, iter, ifs, 0⟩] scope pos) (some (.Name y py)) spos.line X.env = pure true := by rfl)
    (hs : ∀ x, foldedSetIterable iter X.env x = pure x := by intro _; rfl) (hf : X.fn y = true ∨ X.env.scope.names.lookup y = some .local := by first | exact .inl rfl | exact .inr rfl | assumption) :
    PS X (.Assign [.Name y py] (.ListComp elt [⟨tg, iter, ifs, 0⟩] scope pos) spos) (tAsg (tComp cap wi g ti te) (gName i)) := by
  intro pins s σ H Dd I hw
  rw [exec_Assign_Name_used _ _ _ _ hsw]
  refine wpAny_bind (wpAny_standAt (wpAny_bind ?_))
  show wpAny _ X.A (do let _ ← comprehension (.ListComp elt [⟨tg, iter, ifs, 0⟩] scope pos) scope X.env _ (newList []) false (eval iter X.env) (some (assign (.Name y py) X.env))) _ _ s
  refine wpAny_bind (wpAny_mono (wpAny_comprehension_free (use := some (assign (.Name y py) X.env)) (Q := fun _ s' => SP X pins Dd .next s') rfl hs S.clos S.kind S.names
    (thn (hi pins s σ H _ I hw) fun v s1 h1 => thn h1 fun itv s2 h2 => ?_)) (fun _ s' hq => wpAny_pure (wpAny_pure hq)) fun _ _ e => e)
  obtain ⟨it, fp, tn, J, H2, e, I2, T, st2, f2, hW⟩ := h2
  subst e
  refine comp_core (RR := fun acc C => compPost (model X.prog X.w) X.A X.xe (some (assign (.Name y py) X.env)) (fun _ s' => SP X pins Dd .next s') acc C) (Q := fun v H' => Dd.nx (σ.set i (some v)) H') hc S I2 T st2 f2 hg ht he hW ?_
  intro D C s' H' hn I' fC q
  obtain ⟨m, hn⟩ := hn
  obtain ⟨f0, f1, _, f3, f4, f5⟩ := fC
  show wpAny _ X.A (assign (.Name y py) X.env (.ref D)) _ _ _
  refine wpAny_assign_Name (store_ok2 (v := .ref D) I' hN hyi hy rfl (fun s'' I'' sb => ?_) hf)
  obtain ⟨a, sb, ha⟩ := sb
  have hCa : C ≠ a := by
    rcases ha with q | q
    · rw [q]; exact f1
    · exact fun z => f4 y a q z.symm
  refine ⟨m, hn.sameBut sb hCa, fun h' hs' => ?_⟩
  exact ⟨_, H', I''.turned (t' := s''.toks) (fun b o hb e => (hs'.2 b hb).trans e) f0 f1 f3 f4 f5, q⟩
end

/-! ### the forms one uses -/
end L2

namespace Hs
/-! ### houses and walks -/
structure Rm where
  l : Nat
  r : Nat
  lit : Bool
deriving DecidableEq, Inhabited
def stp (hs : List Rm) (i : Nat) (b : Bool) : Nat := match hs[i]? with
  | some r => if b then r.r else r.l
  | none => 0
def led (hs : List Rm) (i : Nat) (w : List Bool) : Nat := w.foldl (stp hs) i
def litAt (hs : List Rm) (i : Nat) : Bool := match hs[i]? with
  | some r => r.lit
  | none => false
structure Wf (hs : List Rm) : Prop where
  ne : 0 < hs.length
  ex : ∀ r ∈ hs, r.l < hs.length ∧ r.r < hs.length
theorem Wf.stp {hs : List Rm} (h : Wf hs) {i : Nat} (hi : i < hs.length) (b : Bool) : stp hs i b < hs.length := by
  unfold Hs.stp
  have e : hs[i]? = some hs[i] := by simp [hi]
  rw [e]
  have := h.ex hs[i] (List.getElem_mem hi)
  cases b
  · exact this.1
  · exact this.2
theorem led_snoc (hs : List Rm) (i : Nat) (w : List Bool) (b : Bool) : led hs i (w ++ [b]) = stp hs (led hs i w) b := by
  unfold led
  rw [List.foldl_append]
  rfl
theorem Wf.led {hs : List Rm} (h : Wf hs) : ∀ (w : List Bool) {i : Nat}, i < hs.length → led hs i w < hs.length
  | [], _, hi => hi
  | b :: w, _, hi => Wf.led h w (h.stp hi b)
/-! ### the drawn house -/
def cellN (ns : List Int) (k : Nat) : Int := if ns = [] then (k : Int) else ns.getD k 0
def farN (ns : List Int) (k : Nat) : Int := if ns = [] then (k : Int) else ns.getD ((k + 1) % max 1 ns.length) 0
def roomOf (ns : List Int) (k : Nat) : Rm :=
  ⟨((cellN ns k + k) % ((max 1 ns.length : Nat) : Int)).toNat, ((farN ns k / 3 + 2 * k + 1) % ((max 1 ns.length : Nat) : Int)).toNat, decide (farN ns k % 3 = 0)⟩
def drawn (ns : List Int) : List Rm := (List.range (max 1 ns.length)).map (roomOf ns)
theorem drawn_length (ns : List Int) : (drawn ns).length = max 1 ns.length := by simp [drawn]
theorem drawn_wf (ns : List Int) : Wf (drawn ns) := by
  have hp : 0 < max 1 ns.length := by omega
  refine ⟨by rw [drawn_length]; exact hp, fun r hr => ?_⟩
  rw [drawn_length]
  obtain ⟨k, _, rfl⟩ := List.mem_map.mp hr
  have h1 := Int.emod_lt_of_pos (cellN ns k + k) (show (0 : Int) < ((max 1 ns.length : Nat) : Int) by omega)
  have h2 := Int.emod_lt_of_pos (farN ns k / 3 + 2 * k + 1) (show (0 : Int) < ((max 1 ns.length : Nat) : Int) by omega)
  exact ⟨by show ((cellN ns k + k) % ((max 1 ns.length : Nat) : Int)).toNat < _; omega, by show ((farN ns k / 3 + 2 * k + 1) % ((max 1 ns.length : Nat) : Int)).toNat < _; omega⟩
theorem drawn_get (ns : List Int) {k : Nat} (hk : k < max 1 ns.length) : (drawn ns)[k]? = some (roomOf ns k) := by
  simp [drawn, hk]
theorem drawn_take (ns : List Int) {k : Nat} (hk : k < max 1 ns.length) : (drawn ns).take (k + 1) = (drawn ns).take k ++ [roomOf ns k] := by
  rw [List.take_add_one, drawn_get ns hk]
  rfl
/-! ### the walks of a length, in order -/
def level (hs : List Rm) : Nat → List (List Bool × Nat)
  | 0 => [([], 0)]
  | k + 1 => (level hs k).flatMap fun p => [(p.1 ++ [false], stp hs p.2 false), (p.1 ++ [true], stp hs p.2 true)]
def bits : Nat → Nat → List Bool
  | 0, _ => []
  | k + 1, j => bits k (j / 2) ++ [j % 2 == 1]
/-- those of one length that are let pass -/
def pass (hs : List Rm) (k : Nat) : List (List Bool) := ((level hs k).filter fun p => litAt hs p.2).map (·.1)
end Hs

set_option maxHeartbeats 4000000
namespace L2
open PySem PySem.Spec PyProof.Rows

/-! ### exceptions that leave a def -/
section
variable {X : Cx} {pins : List (Addr × Obj)} {σ : St} {H H' : Hp} {s s' : Shared} {B h'' : Heap}
end
section
variable {X : Cx} {E : XK}
end
/-! ### raise C(..), C an exception class of the text -/
/-! ### a def whose exceptions may leave it -/
end L2

set_option maxHeartbeats 4000000
namespace L2
section
open PySem PySem.W PySem.Spec PySem.Calls PyProof.Rows Builtin Builtin.ObjectAttr Builtin.Getset_descriptor
variable {prog : Program} {w : World} {A : Around} {E : Value → Shared → Prop} {h : Heap} {g : Array GenState} {d : Drawn} {t : Nat} {os : OsState} {a C : Addr} {o : Obj} {K : Frag}
end
end L2

set_option maxHeartbeats 4000000
namespace L2
open PySem PySem.Spec PyProof.Rows

/-! ### an exception object that is held -/
/-! ### try -/
section
variable {X : Cx} {pins pins' : List (Addr × Obj)} {σ : St} {H : Hp} {s : Shared} {E' : Value → Shared → Prop} {e : Addr}
end
section
variable {X : Cx} {pins : List (Addr × Obj)} {σ : St} {H : Hp} {s : Shared} {B h'' : Heap}
end
section
variable {X : Cx} {x : Str} {C2 : Addr} {np pos : Pos} {b₀ : Stmt} {body : List Stmt} {rest : List ExceptHandler} {ts : TS} {tr : TH}
end
end L2

set_option maxHeartbeats 4000000
namespace L2
open PySem PySem.Spec PyProof.Rows

/-! ### f'{e!r} ..' : some text -/
/-! ### slices of texts -/

def rSlS : V → Option Int → Option Int → Hp → VK → Prop := fun x lo hi H Q => ∃ z : Str, x = .str z ∧ z.length ≤ sizeLine ∧ Q (.str (Txt.slice z lo hi)) H
theorem sl_str {X : Cx} : SlR X rSlS := by
  intro pins s σ H x v vl vu lo hi sl Q I rx hs pl pu h
  obtain ⟨z, rfl, hz, q⟩ := h
  obtain ⟨t, rfl⟩ := rx
  obtain ⟨o, ho, hc, hd⟩ := hs
  refine ⟨"str", _, F.slot_str_getitem.lookup, typeIs_str _ _ _, ?_⟩
  have fin : ∀ (t' : Tok) (k : Nat), EP X pins σ Q (.str (Txt.slice z lo hi) t') { s with toks := k } := fun t' k => ⟨.str _, H, I.tok _, ⟨_, rfl⟩, q⟩
  cases pl with
  | none => cases pu with
    | none => exact wpAny_getItem_str_slice (l := none) (u := none) (st := none) ⟨o, ho, hc, hd⟩ rfl (post_val_or_str ⟨Nat.le_trans (Txt.slice_le z _ _) hz, fin⟩)
    | int j tj => exact wpAny_getItem_str_slice (l := none) (u := some (j, tj)) (st := none) ⟨o, ho, hc, hd⟩ rfl (post_val_or_str ⟨Nat.le_trans (Txt.slice_le z _ _) hz, fin⟩)
  | int i ti => cases pu with
    | none => exact wpAny_getItem_str_slice (l := some (i, ti)) (u := none) (st := none) ⟨o, ho, hc, hd⟩ rfl (post_val_or_str ⟨Nat.le_trans (Txt.slice_le z _ _) hz, fin⟩)
    | int j tj => exact wpAny_getItem_str_slice (l := some (i, ti)) (u := some (j, tj)) (st := none) ⟨o, ho, hc, hd⟩ rfl (post_val_or_str ⟨Nat.le_trans (Txt.slice_le z _ _) hz, fin⟩)
theorem slice_to (z : Str) (n : Nat) (h : n ≤ z.length) : Txt.slice z none (some (n : Int)) = ⟨(z.cps.toList.take n).toArray⟩ := by
  have e : Builtin.Str.strSliceIndices none (some (n : Int)) 1 z.length = Builtin.Str.strSliceIndices (some ((0 : Nat) : Int)) (some (n : Int)) 1 z.length := by
    have m : max (0 : Int) (min 0 (z.length : Int)) = 0 := by omega
    simp [Builtin.Str.strSliceIndices, m]
  have e2 := PySem.StrLaws.sliced_plain z (Nat.zero_le n) h
  unfold Txt.slice
  rw [e, e2]
  split
  · rename_i c
    have : n = z.length := by
      rw [PySem.StrLaws.strSliceIndices_plain (Nat.zero_le n) h] at c
      simpa using c
    refine Str.ext' ?_
    rw [this]
    have : z.cps.toList.length = z.length := by simp [Str.length]
    rw [← this, List.take_length]
  · rfl
/-! ### what holds behind a statement, told once for all its ways -/
end L2

namespace Hs
/-! ### walks as codes -/
/-! ### the house with its rooms numbered from k on -/
end Hs

set_option maxHeartbeats 4000000
namespace L2
open PySem PySem.Spec PyProof.Rows

/-! ### laws whose defs make functions: the code tables are tracked -/
end L2

set_option maxHeartbeats 4000000
namespace L2
open PySem PySem.Spec PyProof.Rows

/-! ### a thing frozen while a callee runs -/
section
variable {P : Program} {w : World} {H : Hp} {h : Heap} {c : Addr} {o : Obj}
end
/-! ### lambda -/
def RecAt (c' : Addr) (qual : Str) : Heap → Prop := fun h => h.CodeRec (.ref c') qual
/-! ### a function that is a value -/
end L2

set_option maxHeartbeats 4000000
namespace PySem
open Sem (wp)
open Builtin Builtin.Str
section
variable {prog : Program} {w : World} {A : Around} {E : Value → Shared → Prop} {s : Shared} {I : Addr} {fp wr : List Addr} {G : Array GenState → Array GenState → Prop} {n : Nat} {P : Nat → Value → Prop} {St : Nat → Shared → Prop}
variable {x : Str} {t : Tok} {Q : Value → Shared → Prop}
end
end PySem
namespace L2
open PySem PySem.Spec PyProof.Rows
end L2

set_option maxHeartbeats 4000000
namespace L2
open PySem PySem.Spec PyProof.Rows

/-! ### for k in d: the dict stands frozen from then on -/
end L2

namespace Hs
/-! ### rooms come to -/
def Reach (hs : List Rm) (p : Nat) : Prop := ∃ w, led hs 0 w = p
/-! ### exploring: the places met, each with the place ahead and the turn -/
theorem nodup_lt : ∀ (n : Nat) (l : List Nat), l.Nodup → (∀ x ∈ l, x < n) → l.length ≤ n
  | 0, l, _, h => by
    cases l with
    | nil => exact Nat.le_refl _
    | cons a l => exact absurd (h a (List.mem_cons_self ..)) (by omega)
  | n + 1, l, hn, h => by
    have ih := nodup_lt n (l.filter (· ≠ n)) (hn.sublist List.filter_sublist) fun x hx => by
      obtain ⟨h1, h2⟩ := List.mem_filter.mp hx
      have := h x h1
      have h2' : x ≠ n := by simpa using h2
      omega
    have h2 : l.length ≤ (l.filter (· ≠ n)).length + 1 := by
      by_cases hm : n ∈ l
      · have := List.length_erase_of_mem hm
        have e := hn.erase_eq_filter n
        have e2 : (l.filter (· != n)).length = l.length - 1 := by rw [← e]; exact this
        have e3 : (l.filter (· ≠ n)) = (l.filter (· != n)) := by
          congr
          funext x
          by_cases hx : x = n <;> simp [bne, hx]
        rw [e3]
        omega
      · have : l.filter (· ≠ n) = l := List.filter_eq_self.mpr fun x hx => by
          have : x ≠ n := fun z => hm (z ▸ hx)
          simpa using this
        rw [this]
        omega
    omega
/-! ### marks -/
end Hs

set_option maxHeartbeats 4000000
namespace L2
open PySem PySem.Spec PyProof.Rows

/-! ### many cells frozen at once -/
def put (H F : Hp) (cs : List Addr) : Hp := fun b => if b ∈ cs then F b else H b
section
variable {P : Program} {w : World} {H F : Hp} {h : Heap} {cs : List Addr}
end
section
variable {X : Cx} {pins : List (Addr × Obj)} {σ : St} {H : Hp} {s s' : Shared} {sl : List (Nat × Addr)}
end
/-! ### tables of code: several functions made by one def -/
def Tab (H : Hp) (P : Addr) (qs : Nat → Nat → Option Str) : Prop := ∃ ps, H P = some (.tbl ps) ∧ TriplesOk ps.toList ∧ ∀ pos c, codeAmong pos ps.toList = some c → ∃ c' q, c = .ref c' ∧ qs pos.line pos.col = some q ∧ H c' = some (.ext (RecAt c' q))
theorem Tab.keep {H H' : Hp} {P : Addr} {qs : Nat → Nat → Option Str} (h : Tab H P qs) (s : ∀ b u, H b = some u → H' b = some u) : Tab H' P qs := by
  obtain ⟨ps, h1, h2, h3⟩ := h
  exact ⟨ps, s _ _ h1, h2, fun pos c e => let ⟨c', q, a, b, d⟩ := h3 pos c e; ⟨c', q, a, b, s _ _ d⟩⟩
/-- everything but the tables stays -/
def SamT (H H' : Hp) : Prop := ∀ b u, H b = some u → (∀ ps, u ≠ .tbl ps) → H' b = some u
theorem Same.toSam {H1 H2 : Hp} (a : Same H1 H2) : SamT H1 H2 := fun x u e _ => a x u e
/-- the tables of all defs of the text that make functions -/
abbrev Tbs := List (Addr × (Nat → Nat → Option Str))
def TB (tabs : Tbs) (H : Hp) : Prop := ∀ t ∈ tabs, Tab H t.1 t.2
theorem TB.same {tabs : Tbs} {H H' : Hp} (h : TB tabs H) (s : Same H H') : TB tabs H' := fun t ht => (h t ht).keep s
/-! ### making a function: lambda, def within a def -/
section
variable {X : Cx} {pins : List (Addr × Obj)} {σ : St} {H : Hp} {s : Shared}
end
end L2

set_option maxHeartbeats 4000000
namespace L2
open PySem PySem.Spec PyProof.Rows

/-! ### what a closure holds -/
structure Cap where
  y : Str
  c : Addr
  v : V
section
variable {M : Model} {A : Around} {E : Value → Shared → Prop} {s₀ s : Shared} {env : Env} {own : List (Str × Addr)}
end
section
variable {P : Program} {w : World} {K : PySem.W.Frag} {mg : Str → Option Value} {base : Heap} {N ps on : List Str} {own : Nat → List (Str × Addr)} {qual : Str} {scope : Scope} {f c' : Addr} {A : Around} {outer : List Env} {s s1 s' : Shared} {H H' : Hp} {us : List Value} {vs : List V} {L : List Cap}
end
/-! ### a def whose body is one return: its cells stand frozen behind it -/
section
variable {P : Program} {w : World} {K : PySem.W.Frag} {mg : Str → Option Value} {base : Heap}
end
end L2

set_option maxHeartbeats 4000000
namespace L2
open PySem PySem.Spec PyProof.Rows
/-! ### list comprehensions with cells of their own, and with cells of the frame frozen while they run -/
section
variable {X : Cx} {tg iter elt : Expr} {ifs : List Expr} {scope : Scope} {pos : Pos} {cl : List (Str × Addr)} {N' on : List Str} {own : Nat → List (Str × Addr)} {cap : List (Option Nat)} {wi : TI} {g : TG} {ti : TT} {te : TE} {sl : List (Nat × Addr)}
end
end L2

set_option maxHeartbeats 4000000
namespace L2
open PySem PySem.Spec PyProof.Rows

/-! ### a dict's keys: scalars, or tuples of scalars -/
inductive Kd where
  | s
  | t
abbrev Kd.κ : Kd → Type
  | .s => Key
  | .t => List Key
instance instDecKd : (k : Kd) → DecidableEq k.κ
  | .s => inferInstanceAs (DecidableEq Key)
  | .t => inferInstanceAs (DecidableEq (List Key))
def Kd.mk : (k : Kd) → List (k.κ × V) → HO
  | .s, kvs => .dK kvs
  | .t, kvs => .dT kvs
def Kd.isV (H : Hp) : (k : Kd) → k.κ → V → Prop
  | .s, p, v => v = kV p
  | .t, p, v => ∃ t, v = .ref t ∧ H t = some (.tup (p.map kV))
section
variable {k : Kd} {H H' : Hp} {d : Addr} {kvs : List (k.κ × V)} {p : k.κ} {v x : V}
theorem Kd.put (e : H d = some (k.mk kvs)) (h : k.isV H p v) (hl : kvs.length < sizeLine) : DPut H d v x (upd H d (k.mk (putK kvs p x))) := by
  cases k with
  | s => have h : v = kV p := h; subst h; exact DPut.k e hl
  | t => obtain ⟨t, rfl, ht⟩ := h; exact DPut.t e ht hl
end
section
variable {X : Cx} {pins : List (Addr × Obj)} {σ : St} {H : Hp} {s : Shared} {a : Addr} {y v : V} {u r : Value} {A : Around} {E : Value → Shared → Prop}
/-- storing, without the subscript's way -/
theorem d_set {H' : Hp} {Q : Unit → Shared → Prop} (hu : A.units < cLine) (I : Inv X pins σ H s) (g : DPut H a y v H') (ry : RelV y u) (rv : RelV v r) (h : ∀ s', Inv X pins σ H' s' → Q () s') :
    wpAny (model X.prog X.w) A (dictSet a u r) Q E s := by
  rcases g with ⟨kvs, k, e, ey, l, eH⟩ | ⟨kvs, k, b, e, ey, eb, l, eH⟩
  · subst ey eH
    obtain ⟨z, hd, vs, rel, dd⟩ := dk_of I.hok e
    have hz : vs.length ≤ sizeLine := by rw [← rel.length]; exact z
    have hl : (putK kvs k v).length ≤ sizeLine := by have := length_putK kvs k v; omega
    refine wpAny_dictSet_pairs (hsz := hz) (kV_is ry) dd fun h' dd' hs => h _ ?_
    have he : ∃ q, h'.get? a = some q := let ⟨q, _, _, hq, _⟩ := dd'; ⟨q, hq⟩
    exact d_write I (by rw [e]; exact True.intro) hs he (dk_new hl hd (rel.put k rv) dd')
  · subst ey eH
    cases (show u = Value.ref b from ry)
    obtain ⟨z, hd, xs, rel, dd⟩ := dt_of I.hok e
    have hz : xs.length ≤ sizeLine := by rw [← Paired.length rel]; exact z
    have hl : (putK kvs k v).length ≤ sizeLine := by have := length_putK kvs k v; omega
    refine wpAny_dictSet_heap (hsz := hz) hu (key_of I.hok eb) dd fun h' dd' hs => h _ ?_
    obtain ⟨q, es, ep, hq, h2, h3, h4, _, h5⟩ := dd'
    refine d_write I (by rw [e]; exact True.intro) hs ⟨q, hq⟩ ⟨hl, hd, _, (rel.put k eb rv).keeps fun c ys ec => ?_, q, es, ep, hq, h2, h3, h4, h5⟩
    rw [upd_ne (ne_of ec e (fun z => nomatch z))]
    exact ec
end
theorem mk_empty (k : Kd) {P : Program} {w : World} {H : Hp} (h : Heap) (hb : sysModules < h.objs.size) : ObjOk P w H (h.push { cls := .type "dict", data := .dict #[] }) h.objs.size (k.mk []) := by
  cases k with
  | s => exact dk_empty h hb
  | t => exact dt_empty h hb
/-- {key: value}, the kind of the key chosen by the reader -/
def tDisp1 (k : Kd) (tk tv : TE) : TE := fun σ H Q => ∀ d, H d = none → tk σ (upd H d (k.mk [])) fun x H1 => tv σ H1 fun y H2 => H2 d = some (k.mk []) ∧ ∃ p, k.isV H2 p x ∧ Q (.ref d) (upd H2 d (k.mk [(p, y)]))
theorem pe_disp1 (k : Kd) {X : Cx} {pos : Pos} {ke ve : Expr} {tk tv : TE} (hu : X.A.units < cLine) (hk : PE X ke tk) (hv : PE X ve tv) : PE X (.Dict [some ke] [ve] pos) (tDisp1 k tk tv) := by
  intro pins s σ H Q I q
  have hn := I.hok.fresh (Nat.le_refl s.heap.objs.size)
  have I1 := I.laid (a := s.heap.objs.size) (o := k.mk []) (h' := s.heap.push { cls := .type "dict", data := .dict #[] }) (t' := s.toks) (fun _ _ q => Heap.get?_push_of_some _ q) (Nat.le_refl _) (mk_empty k s.heap I.big)
  have hlen : (pairTrees [some ke] [ve] X.env pos).length = 1 := pairTrees_length [some ke] [ve] X.env pos rfl rfl
  rw [arm_eval_Dict, zip_pairTrees [some ke] [ve] X.env pos rfl rfl, dictDisplay_pairs _ (fun z => by rw [z] at hlen; cases hlen) (by omega)]
  refine wpAny_bind (wpAny_standAt (wpAny_bind ?_))
  unfold subDict
  refine wpAny_bind (wpAny_alloc ?_)
  refine wpAny_bind (wpAny_holding ?_)
  rw [if_pos (by omega)]
  refine wpAny_bind (pairTrees_cons_walk (thn (hk pins _ σ _ _ I1 (q _ hn)) fun kv s2 ⟨x, H2, I2, rx, q2⟩ => thn (hv pins s2 σ H2 _ I2 q2) fun vv s3 ⟨y, H3, I3, ry, e3, p, hp, q3⟩ => pairTrees_nil_walk ?_))
  refine wpAny_holding ?_
  rw [List.forIn_cons]
  have hput : DPut H3 s.heap.objs.size x y (upd H3 s.heap.objs.size (k.mk (putK [] p y))) := Kd.put e3 hp (by show 0 < sizeLine; rw [sizeLine_eq]; omega)
  refine wpAny_bind (wpAny_bind (wpAny_bind (d_set hu I3 hput rx ry fun s4 I4 => wpAny_pure ?_)))
  dsimp only
  rw [List.forIn_nil]
  exact wpAny_pure (wpAny_pure (wpAny_pure (wpAny_pure ⟨.ref s.heap.objs.size, _, I4, rfl, q3⟩)))
/-- over a list or a tuple, whichever comes -/
def iSeq (K : PySem.W.Frag) (tl : TE) : TI := fun σ H R => tl σ H fun x H1 => ∃ a, x = .ref a ∧ (((∃ xs, SqL K H1 a xs) ∧ R (Itl K a) H1) ∨ ((∃ xs, SqT K H1 a xs) ∧ R (Itt K a) H1))
theorem pi_seq {X : Cx} {tg l : Expr} {tl : TE} (hl : PE X l tl) : PI X tg l (iSeq X.K tl) := by
  intro pins s σ H R I h
  refine thn (hl pins s σ H _ I h) fun v s1 ⟨x, H1, I1, r1, q1⟩ => ?_
  obtain ⟨a, e, ⟨⟨xs, hq⟩, q⟩ | ⟨⟨xs, hq⟩, q⟩⟩ := q1
  · subst e
    cases r1
    obtain ⟨its, rv, p, hz⟩ := I1.list hq
    refine wpAny_pyIter_list p.isList ?_
    refine ⟨s1.heap.objs.size, [s1.heap.objs.size], _, _, H1, rfl, I1.kept (t' := s1.toks) fun b o e => Heap.get?_push_of_some _ e, turn_list a _, ⟨_, Heap.get?_push_size _ rfl, rfl, rfl⟩, fun b hb => ?_, q⟩
    have e : b = s1.heap.objs.size := by simpa using hb
    subst e
    exact I1.fpOk (Nat.le_refl _) (I1.hok.fresh (Nat.le_refl _))
  · subst e
    cases r1
    obtain ⟨its, rv, p, hz⟩ := I1.tuple hq
    refine wpAny_pyIter_tuple (show s1.heap.IsTuple a its.toArray from p) ?_
    refine ⟨s1.heap.objs.size, [s1.heap.objs.size], _, _, H1, rfl, I1.kept (t' := s1.toks) fun b o e => Heap.get?_push_of_some _ e, turn_tuple a _, ⟨_, Heap.get?_push_size _ rfl, rfl, rfl⟩, fun b hb => ?_, q⟩
    have e : b = s1.heap.objs.size := by simpa using hb
    subst e
    exact I1.fpOk (Nat.le_refl _) (I1.hok.fresh (Nat.le_refl _))
end L2

set_option maxHeartbeats 4000000
namespace L2
open PySem PySem.Spec PyProof.Rows
/-- a loop over a list or a tuple that stays as it is -/
theorem for_seq {K : PySem.W.Frag} {a : Addr} {xs : List V} {O : HO} {g : TG} {tb : TS} {D : Ends} {σ : St} {H : Hp} (hO : O = .lst xs ∨ O = .tup xs) (Pv : Nat → St → Hp → Prop) (h0 : Pv 0 σ H) (hl : ∀ i σ H, i ≤ xs.length → Pv i σ H → H a = some O)
    (hs : ∀ i x σ H, xs[i]? = some x → Pv i σ H → g x σ H fun σ2 H2 => tb { D with nx := Pv (i + 1), ct := Pv (i + 1), bk := D.nx } σ2 H2) (hd : ∀ σ H, Pv xs.length σ H → D.nx σ H) :
    ((∃ ys, SqL K H a ys) ∧ ∃ W : Nat → Nat → St → Hp → Prop, (∃ m, W 0 m σ H) ∧ ∀ i m σ H, W i m σ H →
      ((Itl K a).stop i H ∧ D.nx σ H) ∨ ((Itl K a).go i H ∧ ∃ N : St → Hp → Prop, (∀ σ' H', N σ' H' → ∃ m', m' < m ∧ W (i + 1) m' σ' H') ∧ ∀ x H', (Itl K a).yld i H x H' → g x σ H' fun σ2 H2 => tb { D with nx := N, ct := N, bk := D.nx } σ2 H2)) ∨
    ((∃ ys, SqT K H a ys) ∧ ∃ W : Nat → Nat → St → Hp → Prop, (∃ m, W 0 m σ H) ∧ ∀ i m σ H, W i m σ H →
      ((Itt K a).stop i H ∧ D.nx σ H) ∨ ((Itt K a).go i H ∧ ∃ N : St → Hp → Prop, (∀ σ' H', N σ' H' → ∃ m', m' < m ∧ W (i + 1) m' σ' H') ∧ ∀ x H', (Itt K a).yld i H x H' → g x σ H' fun σ2 H2 => tb { D with nx := N, ct := N, bk := D.nx } σ2 H2)) := by
  rcases hO with rfl | rfl
  · exact .inl ⟨⟨xs, SqL.of (hl 0 σ H (Nat.zero_le _) h0)⟩, for_list Pv h0 (fun i σ H hi p => SqL.of (hl i σ H hi p)) hs hd⟩
  · exact .inr ⟨⟨xs, SqT.of (hl 0 σ H (Nat.zero_le _) h0)⟩, for_tup Pv h0 (fun i σ H hi p => SqT.of (hl i σ H hi p)) hs hd⟩
end L2

namespace Hs
/-! ### places and their two exits, whatever the places are -/
structure Gr (α : Type) where
  nx : α → Bool → α
  s0 : α
  U : α → Prop
  num : α → Nat
  B : Nat
  h0 : U s0
  cl : ∀ a b, U a → U (nx a b)
  lt : ∀ a, U a → num a < B
  inj : ∀ a b, U a → U b → num a = num b → a = b
section
variable {α : Type} {G : Gr α}
def Gr.led (G : Gr α) (a : α) (w : List Bool) : α := w.foldl G.nx a
def Gr.Reach (G : Gr α) (a : α) : Prop := ∃ w, G.led G.s0 w = a
theorem Gr.led_snoc (G : Gr α) (a : α) (w : List Bool) (b : Bool) : G.led a (w ++ [b]) = G.nx (G.led a w) b := by
  unfold Gr.led
  rw [List.foldl_append]
  rfl
theorem Gr.led_U (G : Gr α) : ∀ (w : List Bool) {a : α}, G.U a → G.U (G.led a w)
  | [], _, h => h
  | b :: w, a, h => Gr.led_U G w (G.cl a b h)
theorem Gr.Reach.zero (G : Gr α) : G.Reach G.s0 := ⟨[], rfl⟩
theorem Gr.Reach.step {a : α} (h : G.Reach a) (b : Bool) : G.Reach (G.nx a b) := by
  obtain ⟨w, rfl⟩ := h
  exact ⟨w ++ [b], G.led_snoc _ w b⟩
theorem Gr.nodup_le (G : Gr α) (l : List α) (hn : l.Nodup) (hU : ∀ a ∈ l, G.U a) : l.length ≤ G.B := by
  have := nodup_lt G.B (l.map G.num) ?_ ?_
  · rwa [List.length_map] at this
  · induction l with
    | nil => simp
    | cons a l ih =>
      rw [List.map_cons, List.nodup_cons]
      obtain ⟨h1, h2⟩ := List.nodup_cons.mp hn
      refine ⟨fun z => ?_, ih h2 fun b hb => hU b (List.mem_cons_of_mem _ hb)⟩
      obtain ⟨b, hb, e⟩ := List.mem_map.mp z
      have := G.inj b a (hU b (List.mem_cons_of_mem _ hb)) (hU a (List.mem_cons_self ..)) e
      exact h1 (this ▸ hb)
  · intro x hx
    obtain ⟨a, ha, rfl⟩ := List.mem_map.mp hx
    exact G.lt a (hU a ha)
/-! ### exploring: the places met, each with the place ahead and the turn -/
abbrev GEnt (α : Type) := α × Option (α × Bool)
variable {es : List (GEnt α)} {k : Nat}
end
/-! ### rooms; pairs of rooms -/
end Hs

namespace Hs
/-! ### a house with each room there several times -/
/-! ### places seen, places still to be looked at -/
structure Dfs {α : Type} (G : Gr α) (seen td : List α) : Prop where
  nd : seen.Nodup
  u : ∀ a ∈ seen, G.U a
  r : ∀ a ∈ td, G.Reach a ∧ G.U a
section
variable {α : Type} {G : Gr α} {seen td : List α}
theorem Dfs.start (G : Gr α) : Dfs G [G.s0] [G.s0] := ⟨by simp, fun a h => by rw [List.mem_singleton.mp h]; exact G.h0, fun a h => by rw [List.mem_singleton.mp h]; exact ⟨Gr.Reach.zero G, G.h0⟩⟩
theorem Dfs.len (h : Dfs G seen td) : seen.length ≤ G.B := G.nodup_le seen h.nd h.u
theorem Dfs.pop {q : α} (h : Dfs G seen (td ++ [q])) : Dfs G seen td ∧ G.Reach q ∧ G.U q := ⟨⟨h.nd, h.u, fun a ha => h.r a (List.mem_append_left _ ha)⟩, h.r q (List.mem_append_right _ (List.mem_singleton.mpr rfl))⟩
theorem Dfs.push {q : α} {b : Bool} (h : Dfs G seen td) (hr : G.Reach q) (hu : G.U q) (hn : G.nx q b ∉ seen) : Dfs G (seen ++ [G.nx q b]) (td ++ [G.nx q b]) where
  nd := by
    rw [List.nodup_append]
    refine ⟨h.nd, by simp, fun x hx y hy => ?_⟩
    rw [List.mem_singleton.mp hy]
    exact fun z => hn (z ▸ hx)
  u := fun a ha => by
    rcases List.mem_append.mp ha with ha | ha
    · exact h.u a ha
    · rw [List.mem_singleton.mp ha]; exact G.cl _ _ hu
  r := fun a ha => by
    rcases List.mem_append.mp ha with ha | ha
    · exact h.r a ha
    · rw [List.mem_singleton.mp ha]; exact ⟨hr.step b, G.cl _ _ hu⟩
end
end Hs

namespace Hs
/-! ### a house laid out over places: the rooms in the order in which they are met -/
def turnF (c : Option Nat) (f : Nat) : Option Nat := c.bind fun c => if f > c then none else if f = c then some (c + 1) else some c
def turnL (l : List Nat) : Option Nat := l.foldl turnF (some 1)
theorem turnL_snoc (l : List Nat) (f : Nat) : turnL (l ++ [f]) = turnF (turnL l) f := by
  unfold turnL
  rw [List.foldl_append]
  rfl
def exitsL (rs : List Rm) : List Nat := rs.flatMap fun r => [r.l, r.r]
theorem exitsL_snoc (rs : List Rm) (r : Rm) : exitsL (rs ++ [r]) = exitsL rs ++ [r.l, r.r] := by simp [exitsL]
structure Lay {α : Type} (G : Gr α) (lit : α → Bool) (as : List α) (rs : List Rm) (idx : List Nat) : Prop where
  first : as[0]? = some G.s0
  nd : as.Nodup
  u : ∀ a ∈ as, G.U a
  rch : ∀ a ∈ as, G.Reach a
  room : ∀ (i : Nat) r, rs[i]? = some r → ∃ a, as[i]? = some a ∧ as[r.l]? = some (G.nx a false) ∧ as[r.r]? = some (G.nx a true) ∧ r.lit = lit a
  turn : turnL (exitsL rs ++ idx) = some as.length
section
variable {α : Type} {G : Gr α} {lit : α → Bool} {as : List α} {rs : List Rm} {idx : List Nat}
theorem Lay.start (G : Gr α) (lit : α → Bool) : Lay G lit [G.s0] [] [] where
  first := rfl
  nd := by simp
  u := fun a h => by rw [List.mem_singleton.mp h]; exact G.h0
  rch := fun a h => by rw [List.mem_singleton.mp h]; exact Gr.Reach.zero G
  room := fun i r e => by simp at e
  turn := rfl
theorem Lay.pos (h : Lay G lit as rs idx) : 0 < as.length := (List.getElem?_eq_some_iff.mp h.first).1
theorem Lay.len (h : Lay G lit as rs idx) : as.length ≤ G.B := G.nodup_le as h.nd h.u
theorem get_app {β : Type} {l m : List β} {i : Nat} {x : β} (h : l[i]? = some x) : (l ++ m)[i]? = some x := by
  rw [List.getElem?_append_left (List.getElem?_eq_some_iff.mp h).1]
  exact h
theorem Lay.add (h : Lay G lit as rs idx) {a : α} (hr : G.Reach a) (hu : G.U a) (hn : a ∉ as) : Lay G lit (as ++ [a]) rs (idx ++ [as.length]) where
  first := get_app h.first
  nd := by
    rw [List.nodup_append]
    refine ⟨h.nd, by simp, fun x hx y hy => ?_⟩
    rw [List.mem_singleton.mp hy]
    exact fun z => hn (z ▸ hx)
  u := fun b hb => by
    rcases List.mem_append.mp hb with hb | hb
    · exact h.u b hb
    · rw [List.mem_singleton.mp hb]; exact hu
  rch := fun b hb => by
    rcases List.mem_append.mp hb with hb | hb
    · exact h.rch b hb
    · rw [List.mem_singleton.mp hb]; exact hr
  room := fun i r e => by
    obtain ⟨b, e1, e2, e3, e4⟩ := h.room i r e
    exact ⟨b, get_app e1, get_app e2, get_app e3, e4⟩
  turn := by
    rw [← List.append_assoc, turnL_snoc, h.turn, List.length_append]
    show (if as.length > as.length then none else if as.length = as.length then some (as.length + 1) else some as.length) = _
    rw [if_neg (by omega), if_pos rfl]
    rfl
theorem Lay.old (h : Lay G lit as rs idx) {i : Nat} (hi : i < as.length) : Lay G lit as rs (idx ++ [i]) :=
  { h with
    turn := by
      rw [← List.append_assoc, turnL_snoc, h.turn]
      show (if i > as.length then none else if i = as.length then some (as.length + 1) else some as.length) = _
      rw [if_neg (by omega), if_neg (by omega)] }
theorem Lay.put {i j : Nat} (h : Lay G lit as rs [i, j]) {a : α} (ha : as[rs.length]? = some a) (h1 : as[i]? = some (G.nx a false)) (h2 : as[j]? = some (G.nx a true)) : Lay G lit as (rs ++ [⟨i, j, lit a⟩]) [] :=
  { h with
    room := fun k r e => by
      by_cases hk : k < rs.length
      · rw [List.getElem?_append_left hk] at e
        exact h.room k r e
      · rw [List.getElem?_append_right (by omega)] at e
        have h0 : k - rs.length = 0 := by
          have := (List.getElem?_eq_some_iff.mp e).1
          simp at this
          exact this
        rw [h0] at e
        simp at e
        subst e
        have : k = rs.length := by omega
        rw [this]
        exact ⟨a, ha, h1, h2, rfl⟩
    turn := by
      rw [exitsL_snoc, List.append_nil]
      exact h.turn }
/-- the house is whole -/
structure Laid (G : Gr α) (lit : α → Bool) (as : List α) (rs : List Rm) : Prop where
  lay : Lay G lit as rs []
  len : as.length = rs.length
theorem Laid.get (h : Laid G lit as rs) {i : Nat} {a : α} (hi : as[i]? = some a) : ∃ r, rs[i]? = some r ∧ as[r.l]? = some (G.nx a false) ∧ as[r.r]? = some (G.nx a true) ∧ r.lit = lit a := by
  have hl : i < rs.length := by rw [← h.len]; exact (List.getElem?_eq_some_iff.mp hi).1
  have hr : rs[i]? = some rs[i] := by simp [hl]
  obtain ⟨b, e1, e2, e3, e4⟩ := h.lay.room i _ hr
  rw [hi] at e1
  cases e1
  exact ⟨_, hr, e2, e3, e4⟩
theorem Laid.wf (h : Laid G lit as rs) : Wf rs := by
  refine ⟨by rw [← h.len]; exact h.lay.pos, fun r hr => ?_⟩
  obtain ⟨i, hi⟩ := List.getElem?_of_mem hr
  obtain ⟨a, _, e2, e3, _⟩ := h.lay.room i r hi
  rw [← h.len]
  exact ⟨(List.getElem?_eq_some_iff.mp e2).1, (List.getElem?_eq_some_iff.mp e3).1⟩
theorem Laid.stp (h : Laid G lit as rs) {i : Nat} {a : α} (hi : as[i]? = some a) (b : Bool) : as[stp rs i b]? = some (G.nx a b) := by
  obtain ⟨r, e1, e2, e3, _⟩ := h.get hi
  unfold Hs.stp
  rw [e1]
  cases b
  · exact e2
  · exact e3
theorem Laid.led (h : Laid G lit as rs) : ∀ (w : List Bool) {i : Nat} {a : α}, as[i]? = some a → as[led rs i w]? = some (G.led a w)
  | [], _, _, hi => hi
  | b :: w, i, a, hi => Laid.led h w (h.stp hi b)
theorem Laid.shine (h : Laid G lit as rs) {i : Nat} {a : α} (hi : as[i]? = some a) : litAt rs i = lit a := by
  obtain ⟨r, e1, _, _, e4⟩ := h.get hi
  unfold litAt
  rw [e1]
  exact e4
theorem Laid.walk (h : Laid G lit as rs) (w : List Bool) : litAt rs (Hs.led rs 0 w) = lit (G.led G.s0 w) := h.shine (h.led w h.lay.first)
end
end Hs

namespace Hs
/-! ### three houses gone through by one walk -/
end Hs

namespace Hs
/-! ### rows of marks, and a house walked backwards -/
def bitNum : List Bool → Nat
  | [] => 0
  | b :: r => (if b then 1 else 0) + 2 * bitNum r
theorem bitNum_lt : ∀ a : List Bool, bitNum a < 2 ^ a.length
  | [] => by decide
  | b :: r => by
    have ih := bitNum_lt r
    rw [List.length_cons, Nat.pow_succ]
    unfold bitNum
    split <;> omega
theorem bitNum_inj : ∀ {a b : List Bool}, a.length = b.length → bitNum a = bitNum b → a = b
  | [], [], _, _ => rfl
  | x :: r, y :: t, hl, h => by
    unfold bitNum at h
    have e : bitNum r = bitNum t ∧ x = y := by cases x <;> cases y <;> simp at h ⊢ <;> omega
    rw [e.2, bitNum_inj (by simpa using hl) e.1]
/-! ### a house beside another machine -/
def grSide {α : Type} (rs : List Rm) (wf : Wf rs) (G : Gr α) : Gr (Nat × α) where
  nx := fun p b => (stp rs p.1 b, G.nx p.2 b)
  s0 := (0, G.s0)
  U := fun p => p.1 < rs.length ∧ G.U p.2
  num := fun p => p.1 * G.B + G.num p.2
  B := rs.length * G.B
  h0 := ⟨wf.ne, G.h0⟩
  cl := fun p b h => ⟨wf.stp h.1 b, G.cl _ b h.2⟩
  lt := fun p h => by
    have h1 := G.lt _ h.2
    have : (p.1 + 1) * G.B ≤ rs.length * G.B := Nat.mul_le_mul_right _ h.1
    rw [Nat.add_mul] at this
    omega
  inj := fun p q hp hq e => by
    have h1 := G.lt _ hp.2
    have h2 := G.lt _ hq.2
    have e1 : p.1 = q.1 := by
      rcases Nat.lt_trichotomy p.1 q.1 with h | h | h
      · have : (p.1 + 1) * G.B ≤ q.1 * G.B := Nat.mul_le_mul_right _ h
        rw [Nat.add_mul] at this
        omega
      · exact h
      · have : (q.1 + 1) * G.B ≤ p.1 * G.B := Nat.mul_le_mul_right _ h
        rw [Nat.add_mul] at this
        omega
    rw [e1] at e
    have e2 := G.inj _ _ hp.2 hq.2 (by omega)
    exact Prod.ext e1 e2
theorem side_led {α : Type} (rs : List Rm) (wf : Wf rs) (G : Gr α) : ∀ (w : List Bool) (p : Nat × α), (grSide rs wf G).led p w = (led rs p.1 w, G.led p.2 w)
  | [], p => rfl
  | b :: w, p => side_led rs wf G w _
theorem side_reach {α : Type} {rs : List Rm} {wf : Wf rs} {G : Gr α} {p : Nat × α} (h : (grSide rs wf G).Reach p) : ∃ w, p = (led rs 0 w, G.led G.s0 w) := by
  obtain ⟨w, rfl⟩ := h
  exact ⟨w, side_led rs wf G w _⟩
/-! ### the places of the marks that are set -/
def setOf (a : List Bool) : List Nat := (List.range a.length).filter fun i => a.getD i false
theorem mem_setOf {a : List Bool} {i : Nat} : i ∈ setOf a ↔ a.getD i false = true := by
  unfold setOf
  rw [List.mem_filter, List.mem_range]
  refine ⟨fun h => by simpa using h.2, fun h => ⟨?_, by simpa using h⟩⟩
  refine Decidable.byContradiction fun z => ?_
  rw [List.getD, List.getElem?_eq_none (by omega)] at h
  cases h
theorem setOf_inj {a b : List Bool} (hl : a.length = b.length) (h : setOf a = setOf b) : a = b := by
  refine List.ext_getElem? fun i => ?_
  by_cases hi : i < a.length
  · have e1 : a[i]? = some a[i] := by simp [hi]
    have e2 : b[i]? = some (b[i]'(by omega)) := by simp
    have m : i ∈ setOf a ↔ i ∈ setOf b := by rw [h]
    rw [mem_setOf, mem_setOf, List.getD, List.getD, e1, e2] at m
    rw [e1, e2]
    have m : a[i] = true ↔ b[i]'(by omega) = true := m
    cases x : a[i] <;> cases y : b[i]'(by omega) <;> simp_all
  · rw [List.getElem?_eq_none (by omega), List.getElem?_eq_none (by omega)]
end Hs

namespace Hs
/-! ### rooms that fork: rows of marks -/
def rowOf (n : Nat) (p : Nat → Bool) : List Bool := (List.range n).map p
theorem rowOf_len (n : Nat) (p : Nat → Bool) : (rowOf n p).length = n := by simp [rowOf]
theorem rowOf_get {n : Nat} {p : Nat → Bool} {i : Nat} (h : i < n) : (rowOf n p).getD i false = p i := by
  rw [rowOf, List.getD, List.getElem?_map, List.getElem?_range h]
  rfl
theorem rowOf_out {n : Nat} {p : Nat → Bool} {i : Nat} (h : (rowOf n p).getD i false = true) : i < n := by
  refine Decidable.byContradiction fun z => ?_
  rw [List.getD, List.getElem?_eq_none (by rw [rowOf_len]; omega)] at h
  cases h
theorem row_lt {a : List Bool} {i : Nat} (h : a.getD i false = true) : i < a.length := by
  refine Decidable.byContradiction fun z => ?_
  rw [List.getD, List.getElem?_eq_none (by omega)] at h
  cases h
def anyRow (x : List Bool) (p : Nat → Bool) : Bool := (setOf x).any p
theorem anyRow_iff {x : List Bool} {p : Nat → Bool} : anyRow x p = true ↔ ∃ i, x.getD i false = true ∧ p i = true := by
  unfold anyRow
  rw [List.any_eq_true]
  exact ⟨fun ⟨i, h, e⟩ => ⟨i, mem_setOf.mp h, e⟩, fun ⟨i, h, e⟩ => ⟨i, mem_setOf.mpr h, e⟩⟩
theorem bool_ext {a b : Bool} (h : a = true ↔ b = true) : a = b := by
  cases a <;> cases b <;> simp_all
/-- rising lists with the same members are one -/
theorem rise_eq : ∀ {l m : List Int}, l.Pairwise (· < ·) → m.Pairwise (· < ·) → (∀ v, v ∈ l ↔ v ∈ m) → l = m
  | [], [], _, _, _ => rfl
  | [], b :: m, _, _, h => absurd ((h b).mpr (List.mem_cons_self ..)) (by simp)
  | a :: l, [], _, _, h => absurd ((h a).mp (List.mem_cons_self ..)) (by simp)
  | a :: l, b :: m, h1, h2, h => by
    obtain ⟨p1, q1⟩ := List.pairwise_cons.mp h1
    obtain ⟨p2, q2⟩ := List.pairwise_cons.mp h2
    have e : a = b := by
      rcases List.mem_cons.mp ((h a).mp (List.mem_cons_self ..)) with z | z
      · exact z
      · rcases List.mem_cons.mp ((h b).mpr (List.mem_cons_self ..)) with y | y
        · exact y.symm
        · have := p1 b y; have := p2 a z; omega
    subst e
    congr 1
    refine rise_eq q1 q2 fun v => ⟨fun hv => ?_, fun hv => ?_⟩
    · rcases List.mem_cons.mp ((h v).mp (List.mem_cons_of_mem _ hv)) with z | z
      · have := p1 v hv; omega
      · exact z
    · rcases List.mem_cons.mp ((h v).mpr (List.mem_cons_of_mem _ hv)) with z | z
      · have := p2 v hv; omega
      · exact z
theorem range_rise (n : Nat) : (List.range n).Pairwise (· < ·) := List.pairwise_lt_range
theorem setOf_rise (a : List Bool) : ((setOf a).map fun i : Nat => (i : Int)).Pairwise (· < ·) := by
  rw [List.pairwise_map]
  exact ((range_rise a.length).filter _).imp fun h => by omega
/-- the sorted list of what is marked -/
theorem sorted_row {ms : List Int} {a : List Bool} (h : ms.Pairwise (· < ·)) (hm : ∀ v : Int, v ∈ ms ↔ ∃ i : Nat, v = (i : Int) ∧ a.getD i false = true) : ms = (setOf a).map fun i : Nat => (i : Int) := by
  refine rise_eq h (setOf_rise a) fun v => ?_
  rw [hm, List.mem_map]
  exact ⟨fun ⟨i, e, h⟩ => ⟨i, mem_setOf.mpr h, e.symm⟩, fun ⟨i, h, e⟩ => ⟨i, e.symm, mem_setOf.mp h⟩⟩
theorem setOf_len (a : List Bool) : (setOf a).length ≤ a.length := by
  unfold setOf
  have := List.length_filter_le (fun i => a.getD i false) (List.range a.length)
  rwa [List.length_range] at this
/-! ### one behind the other -/
section
variable {h1 h2 : List Rm}
end
end Hs

namespace Hs
/-! ### again and again -/
/-- whether at the beginning, rooms -/
def mnNx (hs : List Rm) (p : Bool × List Bool) (b : Bool) : Bool × List Bool := (false, rowOf hs.length fun j => (anyRow p.2 fun i => decide (stp hs i b = j)) || (decide (j = 0) && anyRow p.2 fun i => litAt hs (stp hs i b)))
def grMany (hs : List Rm) : Gr (Bool × List Bool) where
  nx := mnNx hs
  s0 := (true, rowOf hs.length fun j => decide (j = 0))
  U := fun p => p.2.length = hs.length
  num := fun p => (if p.1 then 1 else 0) * 2 ^ hs.length + bitNum p.2
  B := 2 * 2 ^ hs.length
  h0 := rowOf_len _ _
  cl := fun p b h => rowOf_len _ _
  lt := fun p h => by
    have k := bitNum_lt p.2
    rw [h] at k
    cases p.1 <;> simp <;> omega
  inj := fun p q hp hq e => by
    have k1 := bitNum_lt p.2
    have k2 := bitNum_lt q.2
    rw [hp] at k1
    rw [hq] at k2
    obtain ⟨a, x⟩ := p
    obtain ⟨c, y⟩ := q
    simp only at hp hq k1 k2 e
    have e1 : a = c ∧ bitNum x = bitNum y := by
      cases a <;> cases c <;> simp at e ⊢ <;> omega
    rw [e1.1, bitNum_inj (by rw [hp, hq]) e1.2]
def mnLit (hs : List Rm) (p : Bool × List Bool) : Bool := p.1 || anyRow p.2 (litAt hs)
section
variable {hs : List Rm}
/-- let pass: empty, or cut into walks that are let pass -/
def mnD (hs : List Rm) (wk : List Bool) : Bool := mnLit hs ((grMany hs).led (grMany hs).s0 wk)
/-- what the cuttings lead to -/
theorem many_cut (wf : Wf hs) : ∀ (n : Nat) (wk : List Bool), wk.length = n → ∀ j, (((grMany hs).led (grMany hs).s0 wk).2.getD j false = true ↔ ∃ c, c ≤ wk.length ∧ mnD hs (wk.take c) = true ∧ led hs 0 (wk.drop c) = j)
  | 0, wk, hw, j => by
    obtain rfl := List.length_eq_zero_iff.mp hw
    show (rowOf _ _).getD _ _ = true ↔ _
    constructor
    · intro hj
      have hl := rowOf_out hj
      rw [rowOf_get hl, decide_eq_true_iff] at hj
      exact ⟨0, Nat.le_refl _, rfl, hj.symm⟩
    · rintro ⟨c, _, _, e2⟩
      rw [List.drop_nil] at e2
      have e3 : (0 : Nat) = j := e2
      subst e3
      rw [rowOf_get wf.ne]
      rfl
  | n + 1, wk, hw, j => by
    rcases List.eq_nil_or_concat wk with rfl | ⟨wk', b, rfl⟩
    · simp at hw
    rw [List.concat_eq_append] at *
    have hw' : wk'.length = n := by simpa using hw
    have ih := many_cut wf n wk' hw'
    have hD : mnD hs (wk' ++ [b]) = mnLit hs (mnNx hs ((grMany hs).led (grMany hs).s0 wk') b) := by
      unfold mnD
      rw [Gr.led_snoc]
      rfl
    rw [Gr.led_snoc]
    generalize hp : (grMany hs).led (grMany hs).s0 wk' = p at ih hD
    have hpl : p.2.length = hs.length := by rw [← hp]; exact (grMany hs).led_U wk' (grMany hs).h0
    have hled : ∀ (v : List Bool), led hs 0 (v ++ [b]) = stp hs (led hs 0 v) b := fun v => by
      unfold led
      rw [List.foldl_append]
      rfl
    have hD2 : mnD hs (wk' ++ [b]) = true ↔ ∃ i, p.2.getD i false = true ∧ litAt hs (stp hs i b) = true := by
      rw [hD]
      unfold mnLit
      show (false || anyRow (rowOf _ _) _) = true ↔ _
      rw [Bool.false_or, anyRow_iff]
      constructor
      · rintro ⟨i, hi, hl⟩
        rw [rowOf_get (rowOf_out hi), Bool.or_eq_true, Bool.and_eq_true, anyRow_iff, anyRow_iff] at hi
        rcases hi with ⟨k, hk, e⟩ | z
        · exact ⟨k, hk, by rw [of_decide_eq_true e]; exact hl⟩
        · exact z.2
      · rintro ⟨i, hi, hl⟩
        have hil := row_lt hi
        rw [hpl] at hil
        refine ⟨stp hs i b, ?_, hl⟩
        rw [rowOf_get (wf.stp hil b), Bool.or_eq_true]
        exact .inl (anyRow_iff.mpr ⟨i, hi, decide_eq_true rfl⟩)
    show (rowOf _ _).getD _ _ = true ↔ _
    have key : ((anyRow p.2 fun i => decide (stp hs i b = j)) || (decide (j = 0) && anyRow p.2 fun i => litAt hs (stp hs i b))) = true ↔ ∃ c, c ≤ (wk' ++ [b]).length ∧ mnD hs ((wk' ++ [b]).take c) = true ∧ led hs 0 ((wk' ++ [b]).drop c) = j := by
      rw [Bool.or_eq_true, Bool.and_eq_true, decide_eq_true_iff, anyRow_iff, anyRow_iff, ← hD2]
      constructor
      · rintro (⟨i, hi, hd⟩ | ⟨rfl, hl⟩)
        · obtain ⟨c, hc, q1, q2⟩ := (ih i).mp hi
          refine ⟨c, by rw [List.length_append]; omega, ?_, ?_⟩
          · rw [List.take_append_of_le_length hc]; exact q1
          · rw [List.drop_append_of_le_length hc, hled, q2]; exact of_decide_eq_true hd
        · refine ⟨(wk' ++ [b]).length, Nat.le_refl _, ?_, ?_⟩
          · rw [List.take_length]; exact hl
          · rw [List.drop_length]; rfl
      · rintro ⟨c, hc, q1, q2⟩
        by_cases hcl : c ≤ wk'.length
        · rw [List.take_append_of_le_length hcl] at q1
          rw [List.drop_append_of_le_length hcl, hled] at q2
          exact .inl ⟨_, (ih _).mpr ⟨c, hcl, q1, rfl⟩, decide_eq_true q2⟩
        · have hce : c = (wk' ++ [b]).length := by rw [List.length_append] at hc ⊢; simp at hc ⊢; omega
          subst hce
          rw [List.take_length] at q1
          rw [List.drop_length] at q2
          exact .inr ⟨q2.symm, q1⟩
    constructor
    · intro hj
      rw [rowOf_get (rowOf_out hj)] at hj
      exact key.mp hj
    · intro hj
      have hjl : j < hs.length := by
        obtain ⟨c, _, _, rfl⟩ := hj
        exact wf.led _ wf.ne
      rw [rowOf_get hjl]
      exact key.mpr hj
/-- not empty: cut before its end -/
theorem mnD_cut (wf : Wf hs) (wk : List Bool) (hw : 0 < wk.length) : mnD hs wk = true ↔ ∃ c, c < wk.length ∧ mnD hs (wk.take c) = true ∧ litAt hs (led hs 0 (wk.drop c)) = true := by
  rcases List.eq_nil_or_concat wk with rfl | ⟨wk', b, rfl⟩
  · simp at hw
  rw [List.concat_eq_append] at *
  have ih := many_cut wf _ wk' rfl
  have hled : ∀ (v : List Bool), led hs 0 (v ++ [b]) = stp hs (led hs 0 v) b := fun v => by
    unfold led
    rw [List.foldl_append]
    rfl
  have hD : mnD hs (wk' ++ [b]) = mnLit hs (mnNx hs ((grMany hs).led (grMany hs).s0 wk') b) := by
    unfold mnD
    rw [Gr.led_snoc]
    rfl
  have hpl : ((grMany hs).led (grMany hs).s0 wk').2.length = hs.length := (grMany hs).led_U wk' (grMany hs).h0
  generalize (grMany hs).led (grMany hs).s0 wk' = p at ih hD hpl
  rw [hD]
  unfold mnLit
  show (false || anyRow (rowOf _ _) _) = true ↔ _
  rw [Bool.false_or, anyRow_iff]
  constructor
  · rintro ⟨i, hi, hl⟩
    rw [rowOf_get (rowOf_out hi), Bool.or_eq_true, Bool.and_eq_true, anyRow_iff, anyRow_iff] at hi
    have : ∃ k, p.2.getD k false = true ∧ litAt hs (stp hs k b) = true := by
      rcases hi with ⟨k, hk, e⟩ | z
      · exact ⟨k, hk, by rw [of_decide_eq_true e]; exact hl⟩
      · exact z.2
    obtain ⟨k, hk, e⟩ := this
    obtain ⟨c, hc, q1, q2⟩ := (ih k).mp hk
    refine ⟨c, by rw [List.length_append]; show c < wk'.length + 1; omega, ?_, ?_⟩
    · rw [List.take_append_of_le_length hc]; exact q1
    · rw [List.drop_append_of_le_length hc, hled, q2]; exact e
  · rintro ⟨c, hc, q1, q2⟩
    have hcl : c ≤ wk'.length := by
      rw [List.length_append] at hc
      have : ([b] : List Bool).length = 1 := rfl
      omega
    rw [List.take_append_of_le_length hcl] at q1
    rw [List.drop_append_of_le_length hcl, hled] at q2
    have hk := (ih _).mpr ⟨c, hcl, q1, rfl⟩
    have hil := row_lt hk
    rw [hpl] at hil
    refine ⟨stp hs (led hs 0 (wk'.drop c)) b, ?_, q2⟩
    rw [rowOf_get (wf.stp hil b), Bool.or_eq_true]
    exact .inl (anyRow_iff.mpr ⟨_, hk, decide_eq_true rfl⟩)
end
end Hs

set_option maxHeartbeats 4000000
namespace PySem
section
variable {prog : Program} {w : World} {K1 K2 : Type} [DecidableEq K1] [DecidableEq K2] (k1 : KeyKind prog w K1) (k2 : HeapKind prog w K2)
/-! ### a tuple of a scalar and a key that lies in the heap, as a key -/
def IsPairKey (h : Heap) (k : K1 × K2) (a : Addr) : Prop := ∃ o v b n, h.get? a = some o ∧ o.cls = .type "tuple" ∧ o.data = .seq #[v, .ref b] n ∧ k1.is k.1 v = true ∧ k2.is h k.2 b
def pairHash (k : K1 × K2) : Int := reduceHash (Builtin.Tuple.tupleHashOf [k1.hash k.1, k2.hash k.2])
variable {k1 k2} {A : Around} {E : Value → Shared → Prop} {s : Shared}
theorem IsPairKey.typeIs {k : K1 × K2} {a : Addr} (x : IsPairKey k1 k2 s.heap k a) : s.TypeIs (.ref a) "tuple" := let ⟨o, _, _, _, ho, hc, _⟩ := x; ⟨o, ho, hc⟩
theorem IsPairKey.inj {h : Heap} {a : Addr} {x y : K1 × K2} (hx : IsPairKey k1 k2 h x a) (hy : IsPairKey k1 k2 h y a) : x = y := by
  obtain ⟨o, v, b, n, ho, _, hd, h1, h2⟩ := hx
  obtain ⟨o', v', b', n', ho', _, hd', h1', h2'⟩ := hy
  obtain rfl : o = o' := Option.some.inj (ho.symm.trans ho')
  rw [hd] at hd'
  injection hd' with e _
  have e2 : [v, Value.ref b] = [v', .ref b'] := congrArg Array.toList e
  injection e2 with e3 e4
  injection e4 with e5 _
  injection e5 with e5
  subst e3 e5
  exact Prod.ext (k1.inj _ _ _ h1 h1') (k2.inj h2 h2')
theorem IsPairKey.keeps {h h' : Heap} {k : K1 × K2} {a d : Addr} {o : Obj} {es ep} (x : IsPairKey k1 k2 h k a) (ho : h.get? d = some o) (hd : o.data = .dict es ep) (hs : Heap.SameBut d h h') : IsPairKey k1 k2 h' k a := by
  obtain ⟨o', v, b, n, ho', hc, hd', h1, h2⟩ := x
  have hne : a ≠ d := by
    rintro rfl
    obtain rfl : o' = o := Option.some.inj (ho'.symm.trans ho)
    rw [hd] at hd'; exact nomatch hd'
  exact ⟨o', v, b, n, (hs.2 a hne).trans ho', hc, hd', h1, k2.keeps h2 ho hd hs⟩
theorem wpAny_pyHash_pair {k : K1 × K2} {a : Addr} {Q : Int → Shared → Prop} (hu : A.units < cLine) (hr : k2.room A.in1) (hk : IsPairKey k1 k2 s.heap k a) (h : Q (pairHash k1 k2 k) { s with toks := s.toks + (1 + k2.draws k.2 + 1) }) :
    wpAny (model prog w) A (pyHash (.ref a)) Q E s := by
  have hT := hk.typeIs
  obtain ⟨o, v, b, n, ho, _, hd, h1, h2⟩ := hk
  unfold pyHash
  first | unfold pyHashByItsType | skip
  first | refine wpAny_bind (wpAny_cRoomFor_or (.inr hu) ?_) | skip
  refine wpAny_bind (wpAny_specialOf hT F.slot_tuple_hash.lookup ?_)
  show wpAny _ _ (if (some (Value.builtin "tuple.__hash__") == some Value.none) = true then _ else _) Q E s
  rw [if_neg (by rw [beq_builtin_none]; exact Bool.false_ne_true)]
  refine wpAny_bind (wpAny_specialOf hT F.slot_tuple_hash.lookup ?_)
  show wpAny _ _ (callSpecialIfBoundUnlessNone? (.ref a) "__hash__" _ >>= _) Q E s
  refine wpAny_bind (wpAny_callSpecialIfBoundUnlessNone?_slot hT F.slot_tuple_hash (wpAny_call_entry F.slot_tuple_hash hT F.entry_tuple_hash ?_ (F.args_tuple_hash_1 _)))
  show wpAny _ _ (Builtin.Tuple.tupleItemsOf (.ref a) >>= _) _ _ s
  refine wpAny_bind (wpAny_tupleItemsOf ho hd ?_)
  refine wpAny_bind ?_
  rw [← Array.forIn_toList]
  refine wpAny_forIn_list _
    (fun rest (b' : Array Int) s' => (rest = [v, .ref b] ∧ b'.toList = [] ∧ s' = s) ∨ (rest = [.ref b] ∧ b'.toList = [k1.hash k.1] ∧ s' = { s with toks := s.toks + 1 }) ∨ (rest = [] ∧ b'.toList = [k1.hash k.1, k2.hash k.2] ∧ s' = { s with toks := s.toks + (1 + k2.draws k.2) }))
    _ ?_ ?_ _ _ (.inl ⟨rfl, rfl, rfl⟩)
  · rintro x rest b' s' (⟨e1, e2, rfl⟩ | ⟨e1, e2, rfl⟩ | ⟨e1, _⟩)
    · injection e1 with e1 e3
      subst e1 e3
      refine wpAny_bind (k1.pyHash h1 ?_)
      first
        | exact wpAny_pure (.inr (.inl ⟨rfl, by simp [e2], rfl⟩))
        | exact wpAny_bind (wpAny_pure (wpAny_pure (.inr (.inl ⟨rfl, by simp [e2], rfl⟩))))
    · injection e1 with e1 e3
      subst e1 e3
      refine wpAny_bind (k2.pyHash (s := { s with toks := s.toks + 1 }) hr h2 ?_)
      first
        | exact wpAny_pure (.inr (.inr ⟨rfl, by simp [e2], by simp [Nat.add_assoc]⟩))
        | exact wpAny_bind (wpAny_pure (wpAny_pure (.inr (.inr ⟨rfl, by simp [e2], by simp [Nat.add_assoc]⟩))))
    · cases e1
  · rintro b' s' (⟨e1, _⟩ | ⟨e1, _⟩ | ⟨_, hb, rfl⟩)
    · cases e1
    · cases e1
    show wpAny _ _ (retInt (Builtin.Tuple.tupleHashOf b'.toList)) _ _ _
    rw [hb]
    refine wpAny_ret_mkInt ?_
    show wpAny _ _ (if (decide (-(2 : Int) ^ 63 ≤ Builtin.Tuple.tupleHashOf [k1.hash k.1, k2.hash k.2]) && decide (Builtin.Tuple.tupleHashOf [k1.hash k.1, k2.hash k.2] < 2 ^ 63)) = true then _ else _) Q E _
    unfold pairHash reduceHash at h
    by_cases hrr : (decide (-(2 : Int) ^ 63 ≤ Builtin.Tuple.tupleHashOf [k1.hash k.1, k2.hash k.2]) && decide (Builtin.Tuple.tupleHashOf [k1.hash k.1, k2.hash k.2] < 2 ^ 63)) = true
    · rw [if_pos hrr]
      rw [if_pos hrr] at h
      exact wpAny_pure (by simpa [Nat.add_assoc] using h)
    · rw [if_neg hrr]
      rw [if_neg hrr] at h
      exact wpAny_bind (wpAny_rule (wpAny_pure (by simpa [Nat.add_assoc] using h)))
theorem pair_eq_tree {x y : K1 × K2} {a b : Addr} {P : Fin → Shared → Prop} (hr : k2.room A) (hx : IsPairKey k1 k2 s.heap x a) (hy : IsPairKey k1 k2 s.heap y b) (h : P (.done (.ret (.bool (decide (x = y))))) s) :
    wpAny (model prog w) A (Builtin.«tuple.__eq__» ⟨[.ref a, .ref b], []⟩) P E s := by
  have hTb := hy.typeIs
  obtain ⟨oa, va, ba, na, hoa, _, hda, h1, h2⟩ := hx
  obtain ⟨ob, vb, bb, nb, hob, _, hdb, h1', h2'⟩ := hy
  show wpAny _ _ (isInstance (.ref b) (.type "tuple") >>= _) _ _ s
  refine wpAny_bind (wpAny_isInstance hTb isSubtype_tuple_tuple ?_)
  simp only [Bool.not_true, Bool.false_eq_true, if_false]
  refine wpAny_bind (wpAny_tupleItemsOf hoa hda ?_)
  refine wpAny_bind (wpAny_tupleItemsOf hob hdb ?_)
  refine wpAny_bind ?_
  refine wpAny_forIn_list _
    (fun rest r s' => r.1 = none ∧ s' = s ∧ ((rest = [(va, vb), (.ref ba, .ref bb)]) ∨ (rest = [(.ref ba, .ref bb)] ∧ x.1 = y.1) ∨ (rest = [] ∧ x = y)))
    _ ?_ ?_ _ _ ⟨rfl, rfl, .inl rfl⟩
  · rintro ⟨u, v⟩ rest r s' ⟨hr', rfl, (e | ⟨e, e1⟩ | ⟨e, _⟩)⟩
    · injection e with e2 e3
      injection e2 with e2 e2'
      subst e2 e2' e3
      refine wpAny_bind (k1.eqBool (a := x.1) (b := y.1) h1 h1' ?_)
      by_cases hk : x.1 = y.1
      · rw [decide_eq_true hk]
        simp only [Bool.not_true, Bool.false_eq_true, if_false]
        exact wpAny_pure (by refine ⟨?_, ?_, .inr (.inl ⟨?_, hk⟩)⟩ <;> first | rfl | trivial)
      · rw [decide_eq_false hk]
        simp only [Bool.not_false, if_true]
        have hf : decide (x = y) = false := decide_eq_false fun z => hk (congrArg (·.1) z)
        rw [hf] at h
        exact wpAny_bind (wpAny_pure (wpAny_pure (wpAny_pure h)))
    · injection e with e2 e3
      injection e2 with e2 e2'
      subst e2 e2' e3
      refine wpAny_bind (k2.eqBool (x := x.2) (y := y.2) hr h2 h2' ?_)
      by_cases hk : x.2 = y.2
      · rw [decide_eq_true hk]
        simp only [Bool.not_true, Bool.false_eq_true, if_false]
        exact wpAny_pure (by refine ⟨?_, ?_, .inr (.inr ⟨?_, Prod.ext e1 hk⟩)⟩ <;> first | rfl | trivial)
      · rw [decide_eq_false hk]
        simp only [Bool.not_false, if_true]
        have hf : decide (x = y) = false := decide_eq_false fun z => hk (congrArg (·.2) z)
        rw [hf] at h
        exact wpAny_bind (wpAny_pure (wpAny_pure (wpAny_pure h)))
    · cases e
  · rintro ⟨r1, r2⟩ s' ⟨hr', rfl, (e | ⟨e, _⟩ | ⟨_, e⟩)⟩
    · cases e
    · cases e
    simp only at hr'
    subst hr'
    refine wpAny_pure ?_
    have hfin : ((2 : Nat) == 2) = decide (x = y) := by rw [decide_eq_true e]; rfl
    show P (.done (.ret (.bool ((2 : Nat) == 2)))) _
    rw [hfin]; exact h
theorem wpAny_eqBool_pair {x y : K1 × K2} {a b : Addr} {Q : Bool → Shared → Prop} (hu : A.units < cLine) (hr : k2.room A.in1) (hx : IsPairKey k1 k2 s.heap x a) (hy : IsPairKey k1 k2 s.heap y b) (h : Q (decide (x = y)) s) :
    wpAny (model prog w) A (eqBool (.ref a) (.ref b)) Q E s := by
  unfold eqBool
  try with_reducible refine wpAny_holding ?_
  show wpAny _ _ (if (Value.ref a == Value.ref b) = true then _ else _) Q E s
  by_cases hab : (Value.ref a == Value.ref b) = true
  · rw [if_pos hab]
    have e : a = b := by have := eq_of_beq hab; injection this
    subst e
    obtain rfl := hx.inj hy
    exact wpAny_bind (wpAny_rule (wpAny_pure (by simpa using h)))
  · rw [if_neg hab]
    exact wpAny_bind (wpAny_richCompare_same_room (op := .Eq) hx.typeIs hy.typeIs F.slot_tuple_eq
      (wpAny_call_entry F.slot_tuple_eq hx.typeIs F.entry_tuple_eq (pair_eq_tree hr hx hy ⟨_, rfl, (fun e => nomatch e), wpAny_truthy_bool h⟩) (F.args_tuple_eq_2 _ _)) hu)
/-- the key's own == asks nothing else -/
def QuietK {K : Type} [DecidableEq K] (knd : HeapKind prog w K) (n : Nat) : Prop := ∀ {A : Around} {E : Value → Shared → Prop} {s : Shared} {k : K} {a : Addr} {Q : Bool → Shared → Prop}, knd.is s.heap k a → Q true s → wpAny (model prog w) A (eqIsQuiet n (.ref a)) Q E s
theorem quiet_tuple {K : Type} [DecidableEq K] (knd : KeyKind prog w K) (m : Nat)   : QuietK (tupleKind knd) (m + 1) := fun {A E s ks a Q} hk h => by
  have hT := IsTupleKey.typeIs hk
  obtain ⟨o, items, n, ho, _, hd, hi⟩ := hk
  unfold eqIsQuiet
  refine wpAny_bind (wpAny_specialOf hT F.slot_tuple_eq.lookup ?_)
  show wpAny _ _ (isInstance (.ref a) (.type "tuple") >>= _) _ _ s
  refine wpAny_bind (wpAny_isInstance hT isSubtype_tuple_tuple ?_)
  simp only [Bool.not_true, Bool.false_eq_true, if_false]
  refine wpAny_bind (wpAny_seqItems ho hd ?_)
  refine wpAny_bind ?_
  show wpAny _ _ (forIn items _ _) _ _ s
  rw [← Array.forIn_toList]
  refine wpAny_forIn_list _ (fun rest r s' => r.1 = none ∧ s' = s ∧ ∀ v ∈ rest, carriedByValue v = true) _ ?_ ?_ _ _ ⟨rfl, rfl, hi.byValue⟩
  · rintro v rest r s' ⟨hr, rfl, hall⟩
    rw [eqIsQuiet_byValue _ (hall v List.mem_cons_self)]
    refine wpAny_bind (wpAny_pure ?_)
    simp only [Bool.not_true, Bool.false_eq_true, if_false]
    exact wpAny_pure ⟨rfl, rfl, fun u hu' => hall u (List.mem_cons_of_mem _ hu')⟩
  · rintro ⟨r1, r2⟩ s' ⟨hr, rfl, _⟩
    simp only at hr
    subst hr
    exact wpAny_pure h
theorem quiet_pair {m : Nat} (q2 : QuietK k2 m) {k : K1 × K2} {a : Addr} {Q : Bool → Shared → Prop} (hk : IsPairKey k1 k2 s.heap k a) (h : Q true s) : wpAny (model prog w) A (eqIsQuiet (m + 1) (.ref a)) Q E s := by
  have hT := hk.typeIs
  obtain ⟨o, v, b, n, ho, _, hd, h1, h2⟩ := hk
  unfold eqIsQuiet
  refine wpAny_bind (wpAny_specialOf hT F.slot_tuple_eq.lookup ?_)
  show wpAny _ _ (isInstance (.ref a) (.type "tuple") >>= _) _ _ s
  refine wpAny_bind (wpAny_isInstance hT isSubtype_tuple_tuple ?_)
  simp only [Bool.not_true, Bool.false_eq_true, if_false]
  refine wpAny_bind (wpAny_seqItems ho hd ?_)
  refine wpAny_bind ?_
  show wpAny _ _ (forIn (#[v, Value.ref b] : Array Value) _ _) _ _ s
  rw [← Array.forIn_toList]
  refine wpAny_forIn_list _ (fun rest r s' => r.1 = none ∧ s' = s ∧ (rest = [v, .ref b] ∨ rest = [.ref b] ∨ rest = [])) _ ?_ ?_ _ _ ⟨rfl, rfl, .inl rfl⟩
  · rintro x rest r s' ⟨hr, rfl, (e | e | e)⟩
    · injection e with e1 e2
      subst e1 e2
      rw [eqIsQuiet_byValue _ (k1.byValue _ _ h1)]
      refine wpAny_bind (wpAny_pure ?_)
      simp only [Bool.not_true, Bool.false_eq_true, if_false]
      exact wpAny_pure (by refine ⟨?_, ?_, .inr (.inl ?_)⟩ <;> first | rfl | trivial)
    · injection e with e1 e2
      subst e1 e2
      refine wpAny_bind (q2 h2 ?_)
      simp only [Bool.not_true, Bool.false_eq_true, if_false]
      exact wpAny_pure (by refine ⟨?_, ?_, .inr (.inr ?_)⟩ <;> first | rfl | trivial)
    · cases e
  · rintro ⟨r1, r2⟩ s' ⟨hr, rfl, _⟩
    simp only at hr
    subst hr
    exact wpAny_pure h
def pairKind (k1 : KeyKind prog w K1) (k2 : HeapKind prog w K2) (q2 : QuietK k2 7) : HeapKind prog w (K1 × K2) where
  is := IsPairKey k1 k2
  hash := pairHash k1 k2
  draws := fun k => 1 + k2.draws k.2 + 1
  room := fun A => A.units < cLine ∧ k2.room A.in1
  inj := fun hx hy => hx.inj hy
  keeps := fun x ho hd hs => x.keeps ho hd hs
  pyHash := fun hu hk h => wpAny_pyHash_pair hu.1 hu.2 hk h
  eqBool := fun hu hx hy h => wpAny_eqBool_pair hu.1 hu.2 hx hy h
  quiet := fun hk h => quiet_pair q2 hk h
end
end PySem

set_option maxHeartbeats 4000000
namespace L2
open PySem PySem.Spec PyProof.Rows
/-! ### keys that lie in the heap, deeper than one tuple; dicts of True over them -/
structure HK (K : Type) [DecidableEq K] where
  knd : ∀ (P : Program) (w : World), HeapKind P w K
  is : Hp → K → Addr → Prop
  ok : ∀ {P : Program} {w : World} {H : Hp} {h : Heap} {k : K} {a : Addr}, HOk P w H h → is H k a → (knd P w).is h k a
  same : ∀ {H H' : Hp} {k : K} {a : Addr}, is H k a → (∀ t xs, H t = some (.tup xs) → H' t = some (.tup xs)) → is H' k a
  dep : Nat
  room : ∀ (P : Program) (w : World) (A : Around), A.units + dep < cLine → (knd P w).room A
def hkT : HK (List Key) where
  knd := fun P w => tupleKind (mixKind P w)
  is := fun H k a => H a = some (.tup (k.map kV))
  ok := fun ok e => key_of ok e
  same := fun e s => s _ _ e
  dep := 0
  room := fun P w A h => h
theorem pair_is {K1 K2 : Type} [DecidableEq K1] [DecidableEq K2] {P : Program} {w : World} {k1 : KeyKind P w K1} {k2 : HeapKind P w K2} {H : Hp} {h : Heap} {k : K1 × K2} {a b : Addr} {x : V} (ok : HOk P w H h) (e : H a = some (.tup [x, .ref b])) (h1 : ∀ u, RelV x u → k1.is k.1 u = true) (h2 : k2.is h k.2 b) : IsPairKey k1 k2 h k a := by
  obtain ⟨_, its, r, o, e1, e2, n, e3⟩ := (show ObjOk P w H h a (.tup [x, .ref b]) from ok a _ e)
  cases r with
  | cons r1 r2 =>
    cases r2 with
    | cons r3 r4 =>
      cases r4
      have e4 := (show _ = Value.ref b from r3)
      subst e4
      exact ⟨o, _, b, n, e1, e2, e3, h1 _ r1, h2⟩
/-- (scalar, key) -/
def hkP {K : Type} [DecidableEq K] (κ : HK K) (q : ∀ (P : Program) (w : World), QuietK (κ.knd P w) 7) : HK (Key × K) where
  knd := fun P w => pairKind (mixKind P w) (κ.knd P w) (q P w)
  is := fun H k a => ∃ b, H a = some (.tup [kV k.1, .ref b]) ∧ κ.is H k.2 b
  ok := fun {P w H h k a} ok ⟨b, e, h2⟩ => pair_is ok e (fun u r => kV_is r) (κ.ok ok h2)
  same := fun ⟨b, e, h2⟩ s => ⟨b, s _ _ e, κ.same h2 s⟩
  dep := κ.dep + 1
  room := fun P w A h => ⟨by omega, κ.room P w A.in1 (by rw [Around.in1_units]; omega)⟩
section
variable {K : Type} [DecidableEq K]
def DXφ {P : Program} {w : World} (knd : HeapKind P w K) (a : Addr) (xs : List (K × Addr)) : Heap → Prop := fun h => ∃ o es ep, h.get? a = some o ∧ o.ExactDict ∧ o.data = .dict es ep ∧ es.toList = (xs.map fun x => (x.1, x.2, Value.bool true)).map (entryOfKey knd)
/-- the dict at a: True at each of the keys -/
structure DX (κ : HK K) (P : Program) (w : World) (H : Hp) (a : Addr) (xs : List (K × Addr)) : Prop where
  ob : H a = some (.ext (DXφ (κ.knd P w) a xs))
  sm : (a == sysModules) = false
  len : xs.length ≤ sizeLine
  nd : (xs.map (·.1)).Nodup
  ks : ∀ x ∈ xs, κ.is H x.1 x.2
theorem DX.keep {κ : HK K} {P : Program} {w : World} {H H' : Hp} {a : Addr} {xs : List (K × Addr)} (d : DX κ P w H a xs) (e : H' a = H a) (s : ∀ t ys, H t = some (.tup ys) → H' t = some (.tup ys)) : DX κ P w H' a xs :=
  ⟨by rw [e]; exact d.ob, d.sm, d.len, d.nd, fun x hx => κ.same (d.ks x hx) s⟩
theorem DX.same {κ : HK K} {P : Program} {w : World} {H H' : Hp} {a : Addr} {xs : List (K × Addr)} (d : DX κ P w H a xs) (s : Same H H') : DX κ P w H' a xs :=
  ⟨s _ _ d.ob, d.sm, d.len, d.nd, fun x hx => κ.same (d.ks x hx) fun _ _ z => s _ _ z⟩
theorem DX.of {κ : HK K} {P : Program} {w : World} {H : Hp} {h : Heap} {a : Addr} {xs : List (K × Addr)} (d : DX κ P w H a xs) (ok : HOk P w H h) : h.DictOfH (κ.knd P w) a (xs.map fun x => (x.1, x.2, Value.bool true)) := by
  obtain ⟨⟨o, es, ep, e1, e2, e3, e4⟩, _⟩ := ok a _ d.ob
  refine ⟨o, es, ep, e1, e2, e3, e4, fun x hx => ?_, ?_⟩
  · obtain ⟨y, hy, rfl⟩ := List.mem_map.mp hx
    exact κ.ok ok (d.ks y hy)
  · rw [List.map_map]
    exact d.nd
theorem atKey_true (xs : List (K × Addr)) (k : K) : (atKey (xs.map fun x => (x.1, x.2, Value.bool true)) k).isSome = decide (k ∈ xs.map (·.1)) := by
  unfold atKey
  rw [Option.isSome_map, List.find?_map, Option.isSome_map]
  by_cases h : k ∈ xs.map (·.1)
  · rw [decide_eq_true h, List.find?_isSome]
    obtain ⟨x, hx, e⟩ := List.mem_map.mp h
    exact ⟨x, hx, decide_eq_true e⟩
  · rw [decide_eq_false h]
    cases e : xs.find? ((fun x : K × Addr × Value => decide (x.1 = k)) ∘ fun x => (x.1, x.2, Value.bool true)) with
    | none => rfl
    | some x =>
      have h1 := List.find?_some e
      have h2 := List.mem_of_find?_eq_some e
      exact absurd (List.mem_map.mpr ⟨x, h2, by simpa using h1⟩) h
def tDNotInX (κ : HK K) (P : Program) (w : World) (ty td : TE) : TE := fun σ H Q => ty σ H fun y H1 => td σ H1 fun x H2 => ∃ a b k xs, x = .ref a ∧ y = .ref b ∧ DX κ P w H2 a xs ∧ κ.is H2 k b ∧ Q (.bl (!decide (k ∈ xs.map (·.1)))) H2
def sDPutX (κ : HK K) (P : Program) (w : World) (td ty tv : TE) : TS := fun D σ H => tv σ H fun v H1 => td σ H1 fun x H2 => ty σ H2 fun y H3 => ∃ a b k xs, x = .ref a ∧ y = .ref b ∧ v = .bl true ∧ DX κ P w H3 a xs ∧ κ.is H3 k b ∧ k ∉ xs.map (·.1) ∧ xs.length < sizeLine ∧ D.nx σ (upd H3 a (.ext (DXφ (κ.knd P w) a (xs ++ [(k, b)]))))
def tDispX (κ : HK K) (P : Program) (w : World) (tk tv : TE) : TE := fun σ H Q => ∀ d, H d = none → (d == sysModules) = false → tk σ (upd H d (.dK [])) fun x H1 => tv σ H1 fun y H2 => H2 d = some (.dK []) ∧ ∃ k b, x = .ref b ∧ y = .bl true ∧ κ.is H2 k b ∧ Q (.ref d) (upd H2 d (.ext (DXφ (κ.knd P w) d [(k, b)])))
theorem DX.put {κ : HK K} {P : Program} {w : World} {H : Hp} {a b : Addr} {k : K} {xs : List (K × Addr)} (d : DX κ P w H a xs) (hk : κ.is H k b) (hn : k ∉ xs.map (·.1)) (hl : xs.length < sizeLine) : DX κ P w (upd H a (.ext (DXφ (κ.knd P w) a (xs ++ [(k, b)])))) a (xs ++ [(k, b)]) := by
  have tu : ∀ t ys, H t = some (.tup ys) → upd H a (.ext (DXφ (κ.knd P w) a (xs ++ [(k, b)]))) t = some (.tup ys) := fun t ys z => by rw [upd_ne (ne_of z d.ob (by intro z; cases z))]; exact z
  refine ⟨upd_same, d.sm, by rw [List.length_append]; exact hl, ?_, fun x hx => ?_⟩
  · rw [List.map_append, List.nodup_append]
    refine ⟨d.nd, by simp, fun x hx y hy => ?_⟩
    have : y = k := by simpa using hy
    rw [this]
    exact fun z => hn (z ▸ hx)
  · rcases List.mem_append.mp hx with hx | hx
    · exact κ.same (d.ks x hx) tu
    · rw [List.mem_singleton.mp hx]
      exact κ.same hk tu
section
variable {X : Cx} {o i value : Expr} {pos pos' : Pos} {td ty tv : TE} {κ : HK K}
theorem pc_dnotinX (κ : HK K) (hu : X.A.units + (κ.dep + 1) < cLine) (hi : PE X i ty) (ho : PE X o td) : PC X .NotIn i o (tDNotInX κ X.prog X.w ty td) := by
  intro pins s σ H Q I h
  refine thn (hi pins s σ H _ I h) fun iv s1 ⟨y, H1, I1, ry, q1⟩ => thn (ho pins s1 σ H1 _ I1 q1) fun u s2 ⟨x, H2, I2, rx, a, b, k, xs, ex, ey, d, hk, q2⟩ => ?_
  subst ex ey
  obtain rfl : u = Value.ref a := rx
  obtain rfl : iv = Value.ref b := ry
  refine wpAny_notIn_heap (κ.room _ _ _ (by rw [Around.in1_units]; omega)) (κ.ok I2.hok hk) d.sm (d.of I2.hok) ?_
  rw [atKey_true]
  exact ⟨.bl (!decide (k ∈ xs.map fun x : K × Addr => x.1)), H2, I2.tok _, rfl, q2⟩
theorem dx_obj {P : Program} {w : World} {H : Hp} {h : Heap} {a : Addr} {xs : List (K × Addr)} (dd : h.DictOfH (κ.knd P w) a (xs.map fun x => (x.1, x.2, Value.bool true))) : ObjOk P w H h a (.ext (DXφ (κ.knd P w) a xs)) := by
  obtain ⟨q, es, ep, hq, h2, h3, h4, _, h5⟩ := dd
  refine ⟨⟨q, es, ep, hq, h2, h3, h4⟩, ⟨q, hq⟩, fun h1 h2' ⟨o, es, ep, e1, e2, e3, e4⟩ k => ⟨o, es, ep, k o e1, e2, e3, e4⟩⟩
theorem ps_dputX (κ : HK K) (hu : X.A.units + (κ.dep + 1) < cLine) (ho : PE X o td) (hi : PE X i ty) (hv : PE X value tv) (hs : swapsWith value (some (.Subscript o i pos')) pos.line X.env = pure false) :
    PS X (.Assign [.Subscript o i pos'] value pos) (sDPutX κ X.prog X.w td ty tv) := by
  intro pins s σ H D I h
  refine wpAny_Assign_Subscript (thn (hv pins s σ H _ I h) fun r s1 ⟨v, H1, I1, rv, q1⟩ => thn (ho pins s1 σ H1 _ I1 q1) fun u s2 ⟨x, H2, I2, rx, q2⟩ => thn (hi pins s2 σ H2 _ I2 q2) fun iv s3 ⟨y, H3, I3, ry, a, b, k, xs, ex, ey, ev, d, hk, hn, hl, q3⟩ => ?_) hs
  subst ex ey ev
  obtain rfl : u = Value.ref a := rx
  obtain rfl : iv = Value.ref b := ry
  obtain rfl : r = Value.bool true := rv
  have hno : atKey (xs.map fun x => (x.1, x.2, Value.bool true)) k = none := by
    have := atKey_true xs k
    rw [decide_eq_false hn] at this
    cases e : atKey (xs.map fun x => (x.1, x.2, Value.bool true)) k with
    | none => rfl
    | some p => rw [e] at this; cases this
  refine wpAny_setItem_heap (hsz := by rw [List.length_map]; exact d.len) (κ.room _ _ _ (by rw [Around.in1_units]; omega)) (κ.ok I3.hok hk) (d.of I3.hok) fun h' dd' hsb => ⟨σ, _, ?_, q3⟩
  rw [storedH_new hno] at dd'
  have dd2 : h'.DictOfH (κ.knd X.prog X.w) a ((xs ++ [(k, b)]).map fun x => (x.1, x.2, Value.bool true)) := by rw [List.map_append]; exact dd'
  have he : ∃ q, h'.get? a = some q := let ⟨q, _, _, hq, _⟩ := dd2; ⟨q, hq⟩
  exact d_write I3 (by rw [d.ob]; exact True.intro) hsb he (dx_obj dd2)
theorem pe_dispX (κ : HK K) {ke ve : Expr} {tk : TE} (hu : X.A.units + κ.dep < cLine) (hk : PE X ke tk) (hv : PE X ve tv) : PE X (.Dict [some ke] [ve] pos) (tDispX κ X.prog X.w tk tv) := by
  intro pins s σ H Q I q
  have hn := I.hok.fresh (Nat.le_refl s.heap.objs.size)
  have I1 := I.laid (a := s.heap.objs.size) (o := .dK []) (h' := s.heap.push { cls := .type "dict", data := .dict #[] }) (t' := s.toks) (fun _ _ q => Heap.get?_push_of_some _ q) (Nat.le_refl _) (dk_empty s.heap I.big)
  have hlen : (pairTrees [some ke] [ve] X.env pos).length = 1 := pairTrees_length [some ke] [ve] X.env pos rfl rfl
  rw [arm_eval_Dict, zip_pairTrees [some ke] [ve] X.env pos rfl rfl, dictDisplay_pairs _ (fun z => by rw [z] at hlen; cases hlen) (by omega)]
  refine wpAny_bind (wpAny_standAt (wpAny_bind ?_))
  unfold subDict
  refine wpAny_bind (wpAny_alloc ?_)
  refine wpAny_bind (wpAny_holding ?_)
  rw [if_pos (by omega)]
  have hsm : (s.heap.objs.size == sysModules) = false := beq_eq_false_iff_ne.mpr (Ne.symm (Nat.ne_of_lt I.big))
  refine wpAny_bind (pairTrees_cons_walk (thn (hk pins _ σ _ _ I1 (q _ hn hsm)) fun kv s2 ⟨x, H2, I2, rx, q2⟩ => thn (hv pins s2 σ H2 _ I2 q2) fun vv s3 ⟨y, H3, I3, ry, e3, k, b, ex, ey, hkk, q3⟩ => pairTrees_nil_walk ?_))
  subst ex ey
  obtain rfl : kv = Value.ref b := rx
  obtain rfl : vv = Value.bool true := ry
  refine wpAny_holding ?_
  rw [List.forIn_cons]
  obtain ⟨_, _, vs0, r0, o, es, ep, e1, e2, e4, e5⟩ := (show ObjOk X.prog X.w H3 s3.heap s.heap.objs.size (.dK []) from I3.hok _ _ e3)
  have dd0 : s3.heap.DictOfH (κ.knd X.prog X.w) s.heap.objs.size [] := by
    cases r0
    obtain ⟨_, e7, _⟩ := e5
    have e8 : es.toList = [] := by
      generalize es.toList = l at e7
      cases e7
      rfl
    refine ⟨o, es, ep, e1, e2, e4, ?_, ?_, List.nodup_nil⟩
    · rw [e8]; rfl
    · intro x hx
      exact absurd hx (by simp)
  refine wpAny_bind (wpAny_bind (wpAny_bind (wpAny_dictSet_heap (hsz := Nat.zero_le _) (κ.room _ _ _ hu) (κ.ok I3.hok hkk) dd0 fun h' dd' hsb => wpAny_pure ?_)))
  dsimp only
  rw [List.forIn_nil]
  refine wpAny_pure (wpAny_pure (wpAny_pure (wpAny_pure ⟨.ref s.heap.objs.size, _, ?_, rfl, q3⟩)))
  have dd2 : h'.DictOfH (κ.knd X.prog X.w) s.heap.objs.size (([(k, b)] : List (K × Addr)).map fun x => (x.1, x.2, Value.bool true)) := dd'
  have he : ∃ q, h'.get? s.heap.objs.size = some q := let ⟨q, _, _, hq, _⟩ := dd2; ⟨q, hq⟩
  exact d_write I3 (by rw [e3]; exact True.intro) hsb he (dx_obj dd2)
end
end
end L2

set_option maxHeartbeats 4000000
namespace PySem
/-! ### truth values as keys -/
def isBl (b : Bool) : Value → Bool
  | .bool c => c == b
  | _ => false
theorem isBl_shape {b : Bool} {v : Value} (h : isBl b v = true) : v = .bool b := by
  cases v with
  | bool c =>
    have : c = b := by simpa [isBl] using h
    rw [this]
  | _ => cases h
theorem wpAny_pyHash_bool {prog : Program} {w : World} {A : Around} {E : Value → Shared → Prop} {s : Shared} {b : Bool} {Q : Int → Shared → Prop} (h : Q (if b then 1 else 0) { s with toks := s.toks + 1 }) :
    wpAny (model prog w) A (pyHash (.bool b)) Q E s := by
  refine W.pyHash_slot (T := "bool") rfl F.slot_bool_hash F.entry_int_hash (F.args_int_hash_1 _) (beq_builtin_none _) (.inl rfl) ?_
  cases b
  · exact (show wpAny _ _ (do ret (← mkInt 0)) _ _ s from wpAny_bind (wpAny_mkInt (wpAny_pure ⟨_, _, rfl, h⟩)))
  · exact (show wpAny _ _ (do ret (← mkInt 1)) _ _ s from wpAny_bind (wpAny_mkInt (wpAny_pure ⟨_, _, rfl, h⟩)))
def boolKind (prog : Program) (w : World) : KeyKind prog w Bool where
  is := isBl
  hash := fun b => if b then 1 else 0
  inj := fun v a b ha hb => by
    rw [isBl_shape ha] at hb
    have := isBl_shape hb
    injection this
  byValue := fun k v h => by rw [isBl_shape h]; rfl
  pyHash := fun hv h => by rw [isBl_shape hv]; exact wpAny_pyHash_bool h
  eqBool := fun {A E s a b u v Q} hu hv h => by
    rw [isBl_shape hu, isBl_shape hv]
    refine SeqAt.EqAt.bool_bool a b _ _ _ _ ?_
    have e : decide (a = b) = (a == b) := by cases a <;> cases b <;> rfl
    rw [← e]
    exact h
  «strs» := fun k x t v h => by cases h
end PySem
namespace L2
open PySem PySem.Spec PyProof.Rows
def hkB {K : Type} [DecidableEq K] (κ : HK K) (q : ∀ (P : Program) (w : World), QuietK (κ.knd P w) 7) : HK (Bool × K) where
  knd := fun P w => pairKind (boolKind P w) (κ.knd P w) (q P w)
  is := fun H k a => ∃ b, H a = some (.tup [.bl k.1, .ref b]) ∧ κ.is H k.2 b
  ok := fun {P w H h k a} ok ⟨b, e, h2⟩ => pair_is ok e (fun u r => by
    have r : u = Value.bool k.1 := r
    rw [r]
    show (k.1 == k.1) = true
    simp) (κ.ok ok h2)
  same := fun ⟨b, e, h2⟩ s => ⟨b, s _ _ e, κ.same h2 s⟩
  dep := κ.dep + 1
  room := fun P w A h => ⟨by omega, κ.room P w A.in1 (by rw [Around.in1_units]; omega)⟩
end L2

set_option maxHeartbeats 4000000
namespace PySem
open Sem (wp)
namespace F
end F
section
variable {prog : Program} {w : World} {A : Around} {E : Value → Shared → Prop} {s : Shared}
end
end PySem

set_option maxHeartbeats 4000000
namespace PySem
open Sem (wp)
section
variable {prog : Program} {w : World} {A : Around} {E : Value → Shared → Prop} {s : Shared}
variable {R : Result → Shared → Prop}
end
end PySem
namespace L2
open PySem PySem.Spec PyProof.Rows
end L2

set_option maxHeartbeats 1000000
namespace PySem
/-! ### the places of a set's table, in their order -/
def Ris (xs : Array Nat) : Prop := xs.toList.Pairwise (· < ·)
theorem Ris.lt {xs : Array Nat} (h : Ris xs) {i k : Nat} {x y : Nat} (hi : xs[i]? = some x) (hk : xs[k]? = some y) (hik : i < k) : x < y := by
  rw [← Array.getElem?_toList] at hi hk
  obtain ⟨hi1, rfl⟩ := List.getElem?_eq_some_iff.mp hi
  obtain ⟨hk1, rfl⟩ := List.getElem?_eq_some_iff.mp hk
  exact List.pairwise_iff_getElem.mp h i k hi1 hk1 hik
/-- k parts the array at j -/
structure Part (xs : Array Nat) (j k : Nat) : Prop where
  le : k ≤ xs.size
  lo : ∀ (i x : Nat), i < k → xs[i]? = some x → x < j
  hi : ∀ (i x : Nat), k ≤ i → xs[i]? = some x → j ≤ x
theorem below_go {xs : Array Nat} (hr : Ris xs) (j : Nat) : ∀ (fuel lo hi : Nat), lo ≤ hi → hi ≤ xs.size → hi - lo ≤ fuel → (∀ (i x : Nat), i < lo → xs[i]? = some x → x < j) → (∀ (i x : Nat), hi ≤ i → xs[i]? = some x → j ≤ x) →
    Part xs j (SetTable.below.go xs j fuel lo hi)
  | 0, lo, hi, h1, h2, h3, h4, h5 => by
    have e : lo = hi := by omega
    subst e
    unfold SetTable.below.go
    exact ⟨h2, h4, h5⟩
  | fuel + 1, lo, hi, h1, h2, h3, h4, h5 => by
    unfold SetTable.below.go
    by_cases hlt : lo < hi
    · rw [if_pos hlt]
      have hm : (lo + hi) / 2 < xs.size := by omega
      have e : xs[(lo + hi) / 2]? = some xs[(lo + hi) / 2] := by simp [hm]
      have eg : xs.getD ((lo + hi) / 2) j = xs[(lo + hi) / 2] := by simp [Array.getD, hm]
      dsimp only
      rw [eg]
      by_cases hc : xs[(lo + hi) / 2] < j
      · rw [if_pos hc]
        refine below_go hr j fuel _ _ (by omega) h2 (by omega) (fun i x hi' hx => ?_) h5
        by_cases he : i = (lo + hi) / 2
        · rw [he, e] at hx
          cases hx
          exact hc
        · exact Nat.lt_trans (hr.lt hx e (by omega)) hc
      · rw [if_neg hc]
        refine below_go hr j fuel _ _ (by omega) (by omega) (by omega) h4 fun i x hi' hx => ?_
        by_cases he : i = (lo + hi) / 2
        · rw [he, e] at hx
          cases hx
          omega
        · have := hr.lt e hx (by omega)
          omega
    · rw [if_neg hlt]
      have e : lo = hi := by omega
      subst e
      exact ⟨h2, h4, h5⟩
theorem below_part {xs : Array Nat} (hr : Ris xs) (j : Nat) : Part xs j (SetTable.below xs j) := by
  unfold SetTable.below
  exact below_go hr j _ _ _ (Nat.zero_le _) (Nat.le_refl _) (by omega) (fun i x h => absurd h (Nat.not_lt_zero _)) fun i x h hx => by
    rw [Array.getElem?_eq_none h] at hx
    cases hx
theorem Part.uniq {xs : Array Nat} {j k l : Nat} (a : Part xs j k) (b : Part xs j l) : k = l := by
  rcases Nat.lt_trichotomy k l with h | h | h
  · have hk : k < xs.size := Nat.lt_of_lt_of_le h b.le
    have e : xs[k]? = some xs[k] := by simp [hk]
    have := b.lo k _ h e
    have := a.hi k _ (Nat.le_refl _) e
    omega
  · exact h
  · have hl : l < xs.size := Nat.lt_of_lt_of_le h a.le
    have e : xs[l]? = some xs[l] := by simp [hl]
    have := a.lo l _ h e
    have := b.hi l _ (Nat.le_refl _) e
    omega
theorem below_zero {xs : Array Nat} (hr : Ris xs) : SetTable.below xs 0 = 0 := (below_part hr 0).uniq ⟨Nat.zero_le _, fun i x h => absurd h (Nat.not_lt_zero _), fun i x _ _ => Nat.zero_le _⟩
theorem below_next {xs : Array Nat} (hr : Ris xs) {i j : Nat} (h : xs[i]? = some j) : SetTable.below xs (j + 1) = i + 1 := by
  have hi : i < xs.size := by
    rw [Array.getElem?_eq_some_iff] at h
    exact h.1
  refine (below_part hr (j + 1)).uniq ⟨hi, fun k x hk hx => ?_, fun k x hk hx => hr.lt h hx (by omega)⟩
  by_cases he : k = i
  · rw [he, h] at hx
    cases hx
    exact Nat.lt_succ_self _
  · exact Nat.lt_succ_of_lt (hr.lt hx h (by omega))
theorem not_live {xs : Array Nat} (hr : Ris xs) {j : Nat} (h : (xs[SetTable.below xs j]? == some j) = false) : ∀ (i : Nat) x, xs[i]? = some x → x ≠ j := fun i x hx e => by
  subst e
  have : SetTable.below xs x = i := (below_part hr x).uniq ⟨by rw [Array.getElem?_eq_some_iff] at hx; exact Nat.le_of_lt hx.1, fun k y hk hy => hr.lt hy hx hk, fun k y hk hy => by
    by_cases he : k = i
    · rw [he, hx] at hy
      cases hy
      exact Nat.le_refl _
    · exact Nat.le_of_lt (hr.lt hx hy (by omega))⟩
  rw [this, hx] at h
  simp at h
theorem ris_insert {xs : Array Nat} (hr : Ris xs) {j : Nat} (h : ∀ (i : Nat) x, xs[i]? = some x → x ≠ j) : Ris (SetTable.insertAt xs (SetTable.below xs j) j) := by
  have p := below_part hr j
  generalize SetTable.below xs j = k at p
  unfold Ris
  rw [SetTable.toList_insertAt]
  have h1 : ∀ x ∈ xs.toList.take k, x < j := fun x hx => by
    obtain ⟨i, hi⟩ := List.getElem?_of_mem hx
    have hk : i < k := by
      have := (List.getElem?_eq_some_iff.mp hi).1
      rw [List.length_take] at this
      omega
    rw [List.getElem?_take_of_lt hk, Array.getElem?_toList] at hi
    exact p.lo i x hk hi
  have h2 : ∀ x ∈ xs.toList.drop k, j < x := fun x hx => by
    obtain ⟨i, hi⟩ := List.getElem?_of_mem hx
    rw [List.getElem?_drop, Array.getElem?_toList] at hi
    have := p.hi (k + i) x (by omega) hi
    have := h (k + i) x hi
    omega
  rw [List.pairwise_append, List.pairwise_cons]
  refine ⟨hr.sublist (List.take_sublist _ _), ⟨h2, hr.sublist (List.drop_sublist _ _)⟩, fun x hx y hy => ?_⟩
  rcases List.mem_cons.mp hy with rfl | hy
  · exact h1 x hx
  · exact Nat.lt_trans (h1 x hx) (h2 y hy)
theorem slot_not {t : SetTable} (hr : Ris t.place) {j : Nat} (h : ∀ i, t.slot j ≠ .live i) : ∀ (i : Nat) x, t.place[i]? = some x → x ≠ j := by
  refine not_live hr ?_
  cases e : (t.place[SetTable.below t.place j]? == some j) with
  | false => rfl
  | true =>
    exfalso
    refine h (SetTable.below t.place j) ?_
    unfold SetTable.slot
    dsimp only
    rw [if_pos e]
theorem probe_free {t : SetTable} (hr : Ris t.place) (f : Nat → Int) (h : Int) : ∀ (fuel : Nat) (p : SetTable.Probe), (∀ d, p.dummy = some d → ∀ (i : Nat) x, t.place[i]? = some x → x ≠ d) → ∀ (j : Nat) (du : Option Nat), SetTable.probe.go t f h fuel p = some (.empty j du) → ∀ (i : Nat) x, t.place[i]? = some x → x ≠ du.getD j
  | 0, p, hd, j, du, e => by cases e
  | fuel + 1, p, hd, j, du, e => by
    unfold SetTable.probe.go at e
    cases hs : t.slot p.j with
    | empty =>
      rw [hs] at e
      simp only [Option.some.injEq, SetTable.Met.empty.injEq] at e
      obtain ⟨rfl, rfl⟩ := e
      cases hpd : p.dummy with
      | none => exact slot_not (j := p.j) hr fun i z => by rw [hs] at z; cases z
      | some d => exact hd d hpd
    | dummy =>
      rw [hs] at e
      refine probe_free hr f h fuel _ ?_ j du e
      intro d hd'
      have : d = p.j := by
        unfold SetTable.advance at hd'
        split at hd' <;> simpa using hd'.symm
      rw [this]
      exact slot_not hr fun i z => by rw [hs] at z; cases z
    | live i =>
      rw [hs] at e
      by_cases hh : (f i == h) = true
      · simp only [hh, if_true] at e
        cases e
      · simp only [hh] at e
        refine probe_free hr f h fuel _ ?_ j du (by simpa using e)
        intro d hd'
        refine hd d ?_
        unfold SetTable.advance at hd'
        split at hd' <;> exact hd'
theorem free_not {t : SetTable} (hr : Ris t.place) {h : Int} {j : Nat} {b : Bool} (e : t.freeSlot h = some (j, b)) : ∀ (i : Nat) x, t.place[i]? = some x → x ≠ j := by
  unfold SetTable.freeSlot SetTable.probe at e
  cases hp : SetTable.probe.go t (fun _ => h + 1) h (10 * SetTable.turns t.mask) (t.probeStart h) with
  | none => rw [hp] at e; cases e
  | some m =>
    rw [hp] at e
    cases m with
    | candidate a b c => cases e
    | empty j' du =>
      simp only [Option.some.injEq, Prod.mk.injEq] at e
      rw [← e.1]
      exact probe_free hr _ h _ _ (fun d hd => by cases hd) j' du hp
theorem ris_range (n : Nat) : Ris (Array.range n) := by
  unfold Ris
  rw [Array.toList_range]
  exact List.pairwise_lt_range
/-- a set's table in order -/
structure TabOk (led : Bool) (t : SetTable) : Prop where
  ris : Ris t.place
  led : t.led = led
theorem standIn_ok {led : Bool} {t : SetTable} (h : TabOk led t) (n : Nat) : TabOk led (t.standIn n) := ⟨ris_range n, h.led⟩
theorem layNew_ok {led : Bool} {t : SetTable} (h : TabOk led t) (es : Array (Int × Value)) (hs : Int) (x : Value) : TabOk led (layNew t es hs x).2.1 := by
  unfold layNew
  cases e : t.freeSlot hs with
  | none => exact standIn_ok h _
  | some jb =>
    obtain ⟨j, b⟩ := jb
    dsimp only
    have p : TabOk led (t.put j).1 := ⟨ris_insert h.ris (free_not h.ris e), h.led⟩
    unfold SetTable.orStandIn
    split
    · exact p
    · exact standIn_ok p _
theorem laid_ris {mask finger moves : Nat} {led plain : Bool} {hashes : Array Int} {t : SetTable} {o : Array Nat} (e : SetTable.laid mask finger moves led plain hashes = some (t, o)) : TabOk led t := by
  unfold SetTable.laid at e
  cases hl : SetTable.layClean mask hashes with
  | none => rw [hl] at e; cases e
  | some owner =>
    rw [hl] at e
    simp only [Option.bind_eq_bind, Option.bind_some, Option.pure_def, Option.some.injEq, Prod.mk.injEq] at e
    obtain ⟨rfl, _⟩ := e
    refine ⟨?_, rfl⟩
    unfold Ris
    dsimp only
    have sub : List.Sublist (((List.range (mask + 1)).filterMap fun j => (owner.getD j none).map (j, ·)).map (·.1)) (List.range (mask + 1)) := by
      generalize List.range (mask + 1) = l
      induction l with
      | nil => exact .slnil
      | cons a l ih =>
        rw [List.filterMap_cons]
        cases owner.getD a none with
        | none => exact ih.cons _
        | some k => exact ih.cons₂ _
    exact List.Pairwise.sublist sub List.pairwise_lt_range
theorem relay_ok {led : Bool} {t : SetTable} (h : TabOk led t) (es : Array (Int × Value)) (n : Nat) : TabOk led (relayAll t es n).2.1 := by
  unfold relayAll
  cases e : t.relaid (es.map (·.1)) n with
  | none => exact standIn_ok h _
  | some to =>
    obtain ⟨t', o⟩ := to
    dsimp only
    split
    · have := laid_ris e
      exact ⟨this.ris, this.led.trans h.led⟩
    · exact standIn_ok h _
end PySem

set_option maxHeartbeats 4000000
namespace PySem
open Sem (wp)
/-! ### sets of whole numbers whose table is in order -/
def intOf : Value → Int
  | .int n _ => n
  | _ => 0
/-- what a set of whole numbers holds -/
structure SetIn (prog : Program) (w : World) (es : Array (Int × Value)) (t : SetTable) (ks : List Int) : Prop where
  el : ElemsOf (intKind prog w) es.toList
  pm : (es.toList.map fun e => intOf e.2).Perm ks
  nd : ks.Nodup
  few : es.size < scanBound
  fit : t.fits es.size = true
  tab : TabOk (!w.params.followText "set-order") t
def SetX (prog : Program) (w : World) (h : Heap) (a : Addr) (ks : List Int) : Prop := ∃ o es ep t, h.get? a = some o ∧ o.ExactSet ∧ o.data = .set es ep t ∧ SetIn prog w es t ks
section
variable {prog : Program} {w : World} {A : Around} {E : Value → Shared → Prop} {s : Shared} {es : Array (Int × Value)} {t : SetTable} {ks : List Int} {a : Addr}
theorem SetIn.size (x : SetIn prog w es t ks) : es.size = ks.length := by
  have := x.pm.length_eq
  simpa using this
theorem SetIn.int (x : SetIn prog w es t ks) {e : Int × Value} (he : e ∈ es.toList) : ∃ u, e.2 = .int (intOf e.2) u := by
  obtain ⟨⟨k, hk, _⟩, _⟩ := x.el e he
  obtain ⟨u, eu⟩ := Value.isInt_shape hk
  exact ⟨u, by rw [eu]; rfl⟩
theorem SetIn.mem (x : SetIn prog w es t ks) {k : Int} : (∃ e ∈ es.toList, (intKind prog w).is k e.2 = true) ↔ k ∈ ks := by
  rw [← x.pm.mem_iff, List.mem_map]
  constructor
  · rintro ⟨e, he, hk⟩
    obtain ⟨u, eu⟩ := Value.isInt_shape hk
    exact ⟨e, he, by rw [eu]; rfl⟩
  · rintro ⟨e, he, rfl⟩
    obtain ⟨u, eu⟩ := x.int he
    refine ⟨e, he, ?_⟩
    rw [eu]
    exact intKind_is prog w _ _
theorem SetX.keep {h h' : Heap} (x : SetX prog w h a ks) (e : ∀ o, h.get? a = some o → h'.get? a = some o) : SetX prog w h' a ks := by
  obtain ⟨o, es, ep, t, ho, r⟩ := x
  exact ⟨o, es, ep, t, e o ho, r⟩
theorem put_at {h : Heap} {o : Obj} {ep : Nat} (es' : Array (Int × Value)) (t' : SetTable) (ho : h.get? a = some o) (hd : o.data = .set es ep t) : (h.update a (Obj.putSet es' t')).get? a = some { o with data := .set es' (ep + 1) t' } := by
  have e := putSet_of es' t' hd
  have := Heap.get?_update_self (Obj.putSet es' t') ho (by rw [e]; rfl)
  rwa [e] at this
theorem setX_add {v : Int} {tk : Tok} {Q : Bool → Shared → Prop} (hX : SetX prog w s.heap a ks) (hroom : ks.length + 1 < scanBound)
    (h : ∀ h' b, Heap.SameBut a s.heap h' → SetX prog w h' a (if v ∈ ks then ks else ks ++ [v]) → Q b { s with heap := h' }) : wpAny (model prog w) A (setAddHashed a (.int v tk) ((intKind prog w).hash v)) Q E s := by
  obtain ⟨o, es, ep, t, ho, hex, hd, X⟩ := hX
  have hkey : (intKind prog w).is v (.int v tk) = true := intKind_is prog w v tk
  have es0 : s = { s with heap := s.heap } := rfl
  unfold setAddHashed setAddHashedIn
  refine wpAny_holding ?_
  refine wpAny_bind ?_
  refine wpAny_setState_of ho hd X.fit ?_
  show wpAny _ A (if byScan (.int v tk) es = true then _ else _) Q E s
  rw [if_pos (byScan_of (knd := intKind prog w) rfl X.few X.el)]
  unfold setAddByScan
  refine wpAny_bind ?_
  refine wpAny_bind ?_
  refine wpAny_rule ?_
  refine wpAny_bind ?_
  refine wpAny_setScan_of hkey ho hd X.fit X.el ?_
  cases hr : List.findIdx? (fun e => (intKind prog w).is v e.2) es.toList with
  | some j =>
    obtain ⟨hj, hpj, _⟩ := List.findIdx?_eq_some_iff_getElem.mp hr
    have hv : v ∈ ks := X.mem.mp ⟨_, List.getElem_mem hj, hpj⟩
    have q := h s.heap false (Heap.SameBut.refl a s.heap) (by rw [if_pos hv]; exact ⟨o, es, ep, t, ho, hex, hd, X⟩)
    exact wpAny_pure (wpAny_pure q)
  | none =>
    have hv : v ∉ ks := fun z => by
      obtain ⟨e, he, hp⟩ := X.mem.mpr z
      have := List.findIdx?_eq_none_iff.mp hr e he
      rw [hp] at this
      cases this
    rw [if_neg hv] at h
    dsimp only
    have p1 := layNew_perm t es ((intKind prog w).hash v) (.int v tk)
    have p2 := layNew_fits t es ((intKind prog w).hash v) (.int v tk)
    have p3 := layNew_ok X.tab es ((intKind prog w).hash v) (.int v tk)
    generalize layNew t es ((intKind prog w).hash v) (.int v tk) = N at p1 p2 p3 ⊢
    obtain ⟨es1, t1, wd, gv⟩ := N
    dsimp only at p1 p2 p3 ⊢
    rw [Array.toList_push] at p1
    have hsz : es1.size = es.size + 1 := by
      have := p1.length_eq
      simpa using this
    have X1 : SetIn prog w es1 t1 (ks ++ [v]) := by
      refine ⟨fun e he => ?_, ?_, ?_, by rw [hsz, X.size]; exact hroom, p2, p3⟩
      · rcases List.mem_append.mp (p1.mem_iff.mp he) with he | he
        · exact X.el e he
        · rw [List.mem_singleton.mp he]
          exact ⟨⟨v, hkey, rfl⟩, rfl⟩
      · have := p1.map fun e => intOf e.2
        rw [List.map_append] at this
        exact this.trans (X.pm.append_right [v])
      · rw [List.nodup_append]
        refine ⟨X.nd, by simp, fun x hx y hy => ?_⟩
        rw [List.mem_singleton.mp hy]
        exact fun z => hv (z ▸ hx)
    have offp : ∀ b : Bool, SetIn prog w es1 (if b = true then t1 else { t1 with plain := false }) (ks ++ [v]) := fun b => by
      cases b
      · exact ⟨X1.el, X1.pm, X1.nd, X1.few, X1.fit, ⟨X1.tab.ris, X1.tab.led⟩⟩
      · exact X1
    have gave : ∀ (b : Bool) (s1 : Shared) (Q' : Unit → Shared → Prop), Q' () s1 → wpAny (model prog w) A (match b with | true => rule "set.scan.the-table-gave-way" | false => pure ()) Q' E s1 := fun b s1 Q' hq => by
      cases b
      · exact wpAny_pure hq
      · exact wpAny_rule hq
    have sL : es1.size ≤ sizeLine := fits_of_scanBound X1.few
    -- the new table is written, then laid anew where it is too full
    have tail : ∀ t2, SetIn prog w es1 t2 (ks ++ [v]) → wpAny (model prog w) A (storeSet a es1 t2 >>= fun _ => if (!wd && t2.tooFull) = true then (do
        (match (relayAll t2 es1 (SetTable.grown es1.size)).2.2 with | true => rule "set.scan.the-table-gave-way" | false => pure ())
        storeSet a (relayAll t2 es1 (SetTable.grown es1.size)).1 (relayAll t2 es1 (SetTable.grown es1.size)).2.1
        pure (some true)) else pure (some true)) (fun r s' => ∃ b, r = some b ∧ Q b s') E s := fun t2 X2 => by
      refine wpAny_bind ?_
      refine wpAny_storeSet_of ho hd ?_ sL
      have o1 := put_at es1 t2 ho hd
      have sb1 := Heap.SameBut.update s.heap a (Obj.putSet es1 t2)
      generalize s.heap.update a (Obj.putSet es1 t2) = h1 at o1 sb1
      split
      · have r1 := relayAll_perm t2 es1 (SetTable.grown es1.size)
        have r2 := relayAll_fits t2 es1 (SetTable.grown es1.size)
        have r3 := relay_ok X2.tab es1 (SetTable.grown es1.size)
        generalize relayAll t2 es1 (SetTable.grown es1.size) = Rl at r1 r2 r3 ⊢
        obtain ⟨es2, t3, g2⟩ := Rl
        dsimp only at r1 r2 r3 ⊢
        have z2 : es2.size = es1.size := by
          have := r1.length_eq
          simpa using this
        refine wpAny_bind ?_
        refine gave g2 _ _ ?_
        refine wpAny_bind ?_
        refine wpAny_storeSet_of (s := { s with heap := h1 }) o1 rfl ?_ (by rw [z2]; exact sL)
        refine wpAny_pure ⟨true, rfl, h _ true (sb1.trans (Heap.SameBut.update _ a _)) ⟨_, es2, ep + 1 + 1, t3, put_at es2 t3 o1 rfl, hex, rfl, ?_⟩⟩
        exact ⟨fun e he => X2.el e (r1.mem_iff.mp he), (r1.map _).trans X2.pm, X2.nd, by rw [z2]; exact X2.few, r2, r3⟩
      · exact wpAny_pure ⟨true, rfl, h _ true sb1 ⟨_, es1, ep + 1, t2, o1, hex, rfl, X2⟩⟩
    refine wpAny_bind ?_
    refine gave gv _ _ ?_
    have done : ∀ t2, SetIn prog w es1 t2 (ks ++ [v]) → _ := fun t2 X2 => tail t2 X2
    split
    · refine wpAny_bind ?_
      rw [hashByValue_scannable 8 (x := .int v tk) rfl]
      refine wpAny_pure ?_
      refine wpAny_mono (tail _ (offp _)) (fun r s' hq => ?_) fun _ _ e => e
      obtain ⟨b, rfl, hq⟩ := hq
      exact wpAny_pure hq
    · refine wpAny_bind ?_
      refine wpAny_pure ?_
      refine wpAny_mono (tail t1 X1) (fun r s' hq => ?_) fun _ _ e => e
      obtain ⟨b, rfl, hq⟩ := hq
      exact wpAny_pure hq
end
end PySem

set_option maxHeartbeats 4000000
namespace PySem
open Sem (wp)
/-! ### set(list of whole numbers) -/
def metStep (σ : List Int) (v : Int) : List Int := if v ∈ σ then σ else σ ++ [v]
def metN (val : Nat → Int) : Nat → List Int
  | 0 => []
  | i + 1 => metStep (metN val i) (val i)
theorem metN_len (val : Nat → Int) : ∀ i, (metN val i).length ≤ i
  | 0 => Nat.le_refl _
  | i + 1 => by
    have := metN_len val i
    show (metStep _ _).length ≤ _
    unfold metStep
    split
    · omega
    · rw [List.length_append]
      show _ + 1 ≤ _
      omega
theorem metN_mem (val : Nat → Int) : ∀ (i : Nat) (v : Int), v ∈ metN val i ↔ ∃ j, j < i ∧ val j = v
  | 0, v => ⟨fun h => (by cases h), fun ⟨j, h, _⟩ => absurd h (Nat.not_lt_zero _)⟩
  | i + 1, v => by
    have ih := metN_mem val i
    show v ∈ metStep _ _ ↔ _
    unfold metStep
    split
    · rename_i hin
      rw [ih]
      constructor
      · rintro ⟨j, h, e⟩
        exact ⟨j, by omega, e⟩
      · rintro ⟨j, h, e⟩
        by_cases hj : j = i
        · rw [hj] at e
          rw [e] at hin
          exact (ih v).mp hin
        · exact ⟨j, by omega, e⟩
    · rw [List.mem_append, ih, List.mem_singleton]
      constructor
      · rintro (⟨j, h, e⟩ | e)
        · exact ⟨j, by omega, e⟩
        · exact ⟨i, by omega, e.symm⟩
      · rintro ⟨j, h, e⟩
        by_cases hj : j = i
        · exact .inr (by rw [← e, hj])
        · exact .inl ⟨j, by omega, e⟩
section
variable {prog : Program} {w : World} {A : Around} {R : Result → Shared → Prop} {I S : Addr} {fp wr : List Addr} {G : Array GenState → Array GenState → Prop} {n : Nat} {P : Nat → Value → Prop} {St : Nat → Shared → Prop}
theorem setX_loop (W : WalksS prog w A.in1 I fp wr G n P St) (hSf : S ∉ fp) (val : Nat → Int) (hval : ∀ i v, P i v → ∃ t, v = .int (val i) t) (hb : n + 1 < scanBound) :
    ∀ (k i : Nat) (s : Shared), n - i = k → i ≤ n → St i s → SetX prog w s.heap S (metN val i) →
      (∀ s', Moved (S :: wr) G s s' → SetX prog w s'.heap S (metN val n) → R (.ok (.ret .none)) s') → codeAny (model prog w) A (.builtin "set.update.loop" ⟨[.ref S, .ref I], []⟩) R s
  | 0, i, s, hk, hi, hst, hX, hR => by
    obtain rfl : i = n := by omega
    refine codeAny_builtin PyProof.Rows.F.entry_set_update_loop ?_
    rw [Around.under_plainId PyProof.Rows.F.plain_set_update_loop _]
    show wpAny (model prog w) A.in1 (pyNext (.ref I) >>= _) _ _ s
    refine wpAny_bind ?_
    refine W.done s _ _ hst fun s' hm => ?_
    have e1 := hm.mono (wr' := S :: wr) fun b hb => List.mem_cons_of_mem _ hb
    exact wpAny_pure (hR s' e1 (hX.keep fun o e => hm.heap S o (fun z => hSf (W.sub _ z)) e))
  | k + 1, i, s, hk, hi, hst, hX, hR => by
    have hlt : i < n := by omega
    refine codeAny_builtin PyProof.Rows.F.entry_set_update_loop ?_
    rw [Around.under_plainId PyProof.Rows.F.plain_set_update_loop _]
    show wpAny (model prog w) A.in1 (pyNext (.ref I) >>= _) _ _ s
    refine wpAny_bind ?_
    refine W.item i s _ _ hlt hst fun v s' hP hst' hm => ?_
    obtain ⟨t, rfl⟩ := hval i v hP
    have e1 := hm.mono (wr' := S :: wr) fun b hb => List.mem_cons_of_mem _ hb
    have X1 := hX.keep fun o e => hm.heap S o (fun z => hSf (W.sub _ z)) e
    show wpAny (model prog w) A.in1 (holding [Value.int (val i) t] (setAdd S (.int (val i) t)) >>= _) _ _ s'
    refine wpAny_bind ?_
    refine wpAny_holding ?_
    unfold setAdd
    refine wpAny_holding ?_
    refine wpAny_bind ?_
    refine (intKind prog w).pyHash (k := val i) (intKind_is prog w _ _) ?_
    have hl := metN_len val i
    refine setX_add (s := { s' with toks := s'.toks + 1 }) X1 (by omega) fun h' b sb X2 => ?_
    refine wpAny_pure ⟨plainId_quiet PyProof.Rows.F.plain_set_update_loop _, ?_⟩
    refine setX_loop W hSf val hval hb k (i + 1) _ (by omega) hlt (W.frame _ s' _ _ hst' (Nat.le_succ _) fun b hb o e => ?_) X2 fun s'' hm'' X3 => ?_
    · exact (sb.2 b fun z => hSf (z ▸ hb)).trans e
    · refine hR s'' (Moved.trans W.gtrans (e1.then_heap (Nat.le_succ _) fun b o hb e => ?_) hm'') X3
      exact (sb.2 b fun z => hb (z ▸ List.mem_cons_self)).trans e
end
section
variable {prog : Program} {w : World} {A : Around} {E : Value → Shared → Prop} {s : Shared}
def newSetObj (w : World) : Obj := { cls := .type "set", dict := none, data := .set #[] 0 (.fresh 0 0 (!w.params.followText "set-order")) }
theorem code_setX (x : Value) {Q₁ : Value → Shared → Prop} (h : Q₁ (.ref s.heap.objs.size) { s with heap := s.heap.push (newSetObj w) }) :
    codeAny (model prog w) A (.call (.builtin "set.__new__") ⟨[.type "set", x], []⟩) (wants Q₁ E) s := by
  refine codeAny_of_tree ?_
  show wpAny (model prog w) A.in1 (checkBuiltinCall "set.__new__" ⟨[.type "set", x], []⟩ >>= fun _ => again (.builtin "set.__new__" ⟨[.type "set", x], []⟩)) _ _ s
  refine wpAny_bind ?_
  refine wpAny_of_eq (F.newCall_set_1 x) ?_
  refine wpAny_pure ⟨plainId_quiet F.plain_set_new _, ?_⟩
  refine codeAny_builtin F.entry_set_new ?_
  rw [Around.under_plainId F.plain_set_new _]
  have hsub := sub_set_self
  unfold Builtin.«set.__new__» Builtin.Frozenset.newClass
  obtain ⟨hp, g, d, tk, os⟩ := s
  dsimp only
  wp_walk
  refine wpAny_askSetting ?_
  refine wpAny_pure ?_
  dsimp only
  simp only [newObj]
  refine wpAny_bind ?_
  refine wpAny_alloc ?_
  exact wpAny_pure (wpAny_pure h)
theorem setX_fresh (h : Heap) : SetX prog w (h.push (newSetObj w)) h.objs.size [] :=
  ⟨newSetObj w, #[], 0, _, Heap.get?_push_size _ rfl, ⟨rfl, rfl, rfl⟩, rfl, ⟨fun e he => (by cases he), by simp, .nil, by decide, rfl, ⟨List.Pairwise.nil, rfl⟩⟩⟩
theorem call_setX {l : Addr} {its : Array Value} {ns : List Int} {Q : Value → Shared → Prop} (hh : A.handled = none) (hl : s.heap.IsList l its) (hi : PyProof.Rows.IntsAre its.toList ns) (hb : its.size + 1 < scanBound)
    (h : ∀ (h' : Heap) (tk : Nat), SetX prog w h' s.heap.objs.size (metN (fun i => ns.getD i 0) its.size) → (∀ b o, s.heap.get? b = some o → h'.get? b = some o) → Q (.ref s.heap.objs.size) { s with heap := h', toks := tk }) :
    wpAny (model prog w) A (call (.type "set") [.ref l]) Q E s := by
  obtain ⟨c, tl, hmro⟩ := F.called_set.mro
  have hmade := F.called_set.made
  have hsub := F.called_set.sub
  have h1 := F.called_set.notType
  have h2 := F.called_set.canCreate
  have hct := F.typeCall_set_1 (.ref l)
  refine wpAny_call ?_
  refine codeAny_of_tree ?_
  show wpAny _ _ (callAny (.type "set") _) _ _ _
  refine wpAny_pure ⟨Code.quiet_builtin _ (by decide +kernel), ?_⟩
  refine codeAny_builtin F.entry_type_call ?_
  rw [Around.under_plain (weight_type_call_type "set" [.ref l] []) rfl]
  repeat (any_goals (first | assumption | wp_step))
  refine codeAny_mono (code_setX (.ref l) (E := E) (Q₁ := fun obj s₁ => obj = .ref s.heap.objs.size ∧ s₁ = { s with heap := s.heap.push (newSetObj w) }) ⟨rfl, rfl⟩) fun r s₁ hr => ?_
  cases r with
  | error e => exact hr
  | ok fl =>
    cases fl with
    | next => exact hr.elim
    | brk => exact hr.elim
    | cont => exact hr.elim
    | ret obj =>
      obtain ⟨rfl, rfl⟩ := hr
      have hS : (s.heap.push (newSetObj w)).get? s.heap.objs.size = some (newSetObj w) := Heap.get?_push_size _ rfl
      have hT : Shared.TypeIs { s with heap := s.heap.push (newSetObj w) } (.ref s.heap.objs.size) "set" := ⟨_, hS, rfl⟩
      have hli := F.called_set.init.lookup
      have hbi := F.called_set.init.bind (.ref s.heap.objs.size)
      repeat (any_goals (first | assumption | wp_step))
      refine codeAny_mono (codeAny_call_builtin (R := wants (fun r s₂ => r = .none ∧ ∃ h' tk, s₂ = { s with heap := h', toks := tk } ∧ SetX prog w h' s.heap.objs.size (metN (fun i => ns.getD i 0) its.size) ∧ ∀ b o, s.heap.get? b = some o → h'.get? b = some o) E) F.called_set.init.plain F.entry_set_init (check_set_init_1 hT ?_)) fun r₂ s₂ hr₂ => ?_
      · obtain ⟨ol, hol, hcl, nl, hdl⟩ := hl
        obtain ⟨ocls, odict, odata, oslots⟩ := ol
        simp only at hcl hdl
        subst hcl hdl
        have hol' : (s.heap.push (newSetObj w)).get? l = some { cls := .type "list", dict := odict, data := .seq its nl, slots := oslots } := Heap.get?_push_of_some _ hol
        have hl1 : (s.heap.push (newSetObj w)).IsList l its := ⟨_, hol', rfl, nl, rfl⟩
        have hsls := F.sub_list_set
        have hslf := F.sub_list_frozenset
        have hne : (Value.type "list" == Value.type "dict") = false := by decide
        have hS0 : (s.heap.push (newSetObj w)).get? s.heap.objs.size = some { cls := .type "set", dict := none, data := .set #[] 0 (.fresh 0 0 (!w.params.followText "set-order")) } := hS
        unfold Builtin.«set.__init__» noKeywords Builtin.Frozenset.updateFrom
        generalize hPI : pyIter = PI
        wp_walk
        subst hPI
        refine wpAny_pyIter_list hl1 ?_
        refine wpAny_bind ?_
        refine wpAny_runValue ?_
        have hlS : l < s.heap.objs.size := Heap.lt_size hol
        have zz : (s.heap.push (newSetObj w)).objs.size = s.heap.objs.size + 1 := Heap.size_push ..
        have n1 : l ≠ (s.heap.push (newSetObj w)).objs.size := by rw [zz]; exact Nat.ne_of_lt (Nat.lt_succ_of_lt hlS)
        have n2 : s.heap.objs.size ∉ [(s.heap.push (newSetObj w)).objs.size, l] := by
          rw [zz]
          intro z
          rcases List.mem_cons.mp z with z | z
          · exact Nat.ne_of_lt (Nat.lt_succ_self _) z
          · exact Nat.ne_of_gt hlS (List.mem_singleton.mp z)
        have hv : ∀ (i : Nat) (v : Value), its[i]? = some v → ∃ t, v = .int ((fun i => ns.getD i 0) i) t := fun i v e => PyProof.Rows.IntsAre.int_at hi i v (by rw [Array.getElem?_toList]; exact e)
        refine setX_loop ((Walks.list (show A.in1.in1.in1.handled = none from hh) _ l n1 its).toS) n2 (fun i => ns.getD i 0) hv hb (its.size - 0) 0 _ (by omega) (Nat.zero_le _) ⟨⟨_, Heap.get?_push_size _ rfl, rfl, rfl⟩, hl1.push _⟩ ?X0 ?R0
        case X0 => exact (setX_fresh s.heap).keep fun o e => Heap.get?_push_of_some _ e
        case R0 =>
          intro s' hm X'
          obtain ⟨h', g', d', tk', os'⟩ := s'
          obtain rfl : g' = s.gens := hm.gens
          obtain rfl : d' = s.drawn := hm.drawn
          obtain rfl : os' = s.os := hm.os
          refine wpAny_pure ?_
          refine wpAny_pure ⟨rfl, h', tk', rfl, X', fun b o e => ?_⟩
          have hlt := Heap.lt_size e
          refine hm.heap b o (fun z => ?_) (Heap.get?_push_of_some _ (Heap.get?_push_of_some _ e))
          rcases List.mem_cons.mp z with z | z
          · exact Nat.ne_of_lt hlt z
          · have z2 := List.mem_singleton.mp z
            rw [z2, zz] at hlt
            exact Nat.lt_irrefl _ (Nat.lt_of_succ_lt hlt)
      · cases r₂ with
        | error e => exact hr₂
        | ok fl₂ =>
          cases fl₂ with
          | next => exact hr₂.elim
          | brk => exact hr₂.elim
          | cont => exact hr₂.elim
          | ret r =>
            obtain ⟨rfl, h', tk, rfl, X', hk'⟩ := hr₂
            repeat (any_goals (first | assumption | wp_step))
            exact h _ _ X' hk'
end
end PySem

set_option maxHeartbeats 4000000
namespace PySem
open Sem (wp)
theorem erase_perm {α : Type} : ∀ {l : List α} {i : Nat} (h : i < l.length), (l[i] :: l.eraseIdx i).Perm l
  | x :: l, 0, _ => .refl _
  | x :: l, i + 1, h => by
    have h' : i < l.length := by simpa using h
    show (l[i] :: x :: l.eraseIdx i).Perm (x :: l)
    exact (List.Perm.swap x l[i] _).trans ((erase_perm h').cons x)
section
variable {M : Model} {A : Around} {E : Value → Shared → Prop} {s : Shared}
theorem any_choose {src : Source} {n : Nat} {Q : Nat → Shared → Prop} (hn : n ≠ 0) (h : ∀ i d, i < n → Q i { s with drawn := d }) : wpAny M A (choose src n) Q E s := fun _ _ _ => ⟨hn, h _ _ (Nat.mod_lt _ (Nat.pos_of_ne_zero hn))⟩
theorem any_draw {α : Type} : ∀ (n : Nat) (xs : List α) (s : Shared) (Q : List α → Shared → Prop), n = xs.length → (∀ ys d, ys.Perm xs → Q ys { s with drawn := d }) → wpAny M A (drawOrder n xs) Q E s
  | 0, [], s, Q, _, h => by
    unfold drawOrder
    exact wpAny_pure (h [] s.drawn .nil)
  | n + 1, x :: xs, s, Q, hl, h => by
    unfold drawOrder
    refine wpAny_bind ?_
    refine any_choose (by simp) fun i d hi => ?_
    have e : (x :: xs)[i]? = some (x :: xs)[i] := by simp [hi]
    rw [e]
    refine wpAny_bind ?_
    refine any_draw n _ _ _ (by rw [List.length_eraseIdx_of_lt hi]; simpa using hl) fun ys d' hp => ?_
    exact wpAny_pure (h _ d' ((List.Perm.cons _ hp).trans (erase_perm hi)))
end
theorem pick_go {α : Type} (next : Nat → Nat) : ∀ (fuel k : Nat) (left : List α) (out : Array α), fuel = left.length → (pickOrder.go next fuel k left out).toList.Perm (out.toList ++ left)
  | 0, k, left, out, h => by
    have : left = [] := List.length_eq_zero_iff.mp h.symm
    subst this
    unfold pickOrder.go
    simp
  | fuel + 1, k, left, out, h => by
    have hp : 0 < left.length := by omega
    have hi : next k % left.length < left.length := Nat.mod_lt _ hp
    have e : left[next k % left.length]? = some left[next k % left.length] := by simp [hi]
    unfold pickOrder.go
    rw [e]
    dsimp only
    refine (pick_go next fuel (k + 1) _ _ (by rw [List.length_eraseIdx_of_lt hi]; omega)).trans ?_
    rw [Array.toList_push, List.append_assoc]
    exact List.Perm.append_left _ (erase_perm hi)
theorem pick_perm {α : Type} (next : Nat → Nat) (xs : Array α) : (pickOrder next xs).toList.Perm xs.toList := by
  unfold pickOrder
  simpa using pick_go next xs.size 0 xs.toList #[] (by simp)
namespace F
theorem owner_si : Manifest.owners.lookup (String.ofList ['r', 'o', 't', 'a', 'r', 'e', 't', 'i', '_', 't', 'e', 's'].reverse) = some Manifest.sig_set_iterator := by kernel_rfl
theorem slot_si_next : Slot "set_iterator" "__next__" "set_iterator.__next__" :=
  .of (owner := "set_iterator") (n := "__next__") (by rw [typeLookup_type, builtinLookup_eq_fast]; kernel_rfl) (by decide +kernel) (by decide +kernel) (by decide +kernel) (by first | exact .inl (by decide +kernel) | exact .inr (by decide +kernel)) (by rw [isSubtype_type]; kernel_rfl)
theorem entry_si_next : entryFor table "set_iterator.__next__" = some Builtin.«set_iterator.__next__» := entryFor_of_tree (by kernel_rfl)
theorem args_si_next_1 (a : Value) : argsOk "set_iterator.__next__" ⟨[a], []⟩ := by
  unfold argsOk
  rw [signature?_of (id := "set_iterator.__next__") (n := ['_', '_', 't', 'x', 'e', 'n', '_', '_']) (o := ['r', 'o', 't', 'a', 'r', 'e', 't', 'i', '_', 't', 'e', 's']) (by kernel_rfl) owner_si]
  kernel_rfl
theorem slot_si_iter : Slot "set_iterator" "__iter__" "set_iterator.__iter__" :=
  .of (owner := "set_iterator") (n := "__iter__") (by rw [typeLookup_type, builtinLookup_eq_fast]; kernel_rfl) (by decide +kernel) (by decide +kernel) (by decide +kernel) (by first | exact .inl (by decide +kernel) | exact .inr (by decide +kernel)) (by rw [isSubtype_type]; kernel_rfl)
theorem args_si_iter_1 (a : Value) : argsOk "set_iterator.__iter__" ⟨[a], []⟩ := by
  unfold argsOk
  rw [signature?_of (id := "set_iterator.__iter__") (n := ['_', '_', 'r', 'e', 't', 'i', '_', '_']) (o := ['r', 'o', 't', 'a', 'r', 'e', 't', 'i', '_', 't', 'e', 's']) (by kernel_rfl) owner_si]
  kernel_rfl
theorem entry_si_iter : entryFor table "set_iterator.__iter__" = some Builtin.«dict_keyiterator.__iter__» :=
  entryFor_alias (id' := "dict_keyiterator.__iter__") (by kernel_rfl) (by first | rfl | decide +kernel | (unfold String.splitOn; simp +decide [String.splitOnAux])) (by decide +kernel) (by kernel_rfl)
theorem entry_set_iter' : entryFor table "set.__iter__" = some Builtin.«frozenset.__iter__» :=
  entryFor_alias (id' := "frozenset.__iter__") (by kernel_rfl) (by first | rfl | decide +kernel | (unfold String.splitOn; simp +decide [String.splitOnAux])) (by decide +kernel) (by kernel_rfl)
end F
/-- the iterator's object -/
def siObj (first : Value) (i : Nat) (a : Addr) (n ep : Nat) : Obj := { cls := .type "set_iterator", data := .fields #[first, rawInt (i : Int), .ref a, rawInt (n : Int), rawInt (ep : Int)] }
def SiAt (h : Heap) (I : Addr) (first : Value) (i : Nat) (a : Addr) (n ep : Nat) : Prop := ∃ o, h.get? I = some o ∧ o.cls = .type "set_iterator" ∧ o.data = .fields #[first, rawInt (i : Int), .ref a, rawInt (n : Int), rawInt (ep : Int)]
/-- how the i-th place is told: by slots, by the text's order, or drawn -/
inductive SiMode
  | slots
  | text
  | drawn (T : Addr) (pl : List Nat)
def SiMode.first (m : SiMode) (t : SetTable) (i : Nat) : Value := match m with
  | .slots => rawInt ((match i with | 0 => 0 | k + 1 => t.place.getD k 0 + 1 : Nat) : Int)
  | .text => rawInt ((0 : Nat) : Int)
  | .drawn T _ => .ref T
end PySem

set_option maxHeartbeats 4000000
namespace PySem
open Sem (wp)
section
variable {prog : Program} {w : World} {A : Around} {E : Value → Shared → Prop} {s : Shared} {I a : Addr} {i n ep : Nat} {first : Value}
theorem SiAt.typeIs (z : SiAt s.heap I first i a n ep) : s.TypeIs (.ref I) "set_iterator" := let ⟨o, ho, hc, _⟩ := z; ⟨o, ho, hc⟩
theorem SiAt.at {h h' : Heap} (z : SiAt h I first i a n ep) (e : ∀ o, h.get? I = some o → h'.get? I = some o) : SiAt h' I first i a n ep := let ⟨o, ho, r⟩ := z; ⟨o, e _ ho, r⟩
/-- the mode is that of the table -/
def ModeOk (w : World) (h : Heap) (es : Array (Int × Value)) (t : SetTable) : SiMode → Prop
  | .slots => w.params.followText "set-order" = false ∧ (!t.plain && decide (es.size > 1)) = false
  | .text => w.params.followText "set-order" = true
  | .drawn T pl => (∃ o nn, h.get? T = some o ∧ o.data = .seq ((pl.map fun k : Nat => rawInt (k : Int)).toArray) nn) ∧ pl.Perm (List.range es.size)
def SiMode.row (w : World) (a : Addr) (ep : Nat) (es : Array (Int × Value)) : SiMode → List (Int × Value)
  | .slots => es.toList
  | .text => (pickOrder (w.params.setOrder a ep) es).toList
  | .drawn _ pl => pl.filterMap fun k => es[k]?
theorem row_perm {h : Heap} {es : Array (Int × Value)} {t : SetTable} {m : SiMode} (ok : ModeOk w h es t m) : (m.row w a ep es).Perm es.toList := by
  cases m with
  | slots => exact .refl _
  | text => exact pick_perm _ _
  | drawn T pl =>
    obtain ⟨_, hp⟩ := ok
    exact (hp.filterMap _).trans (by rw [filterMap_getElem?_range])
theorem row_get {h : Heap} {es : Array (Int × Value)} {t : SetTable} {T : Addr} {pl : List Nat} (ok : ModeOk w h es t (.drawn T pl)) {j : Nat} {e : Int × Value} (hj : ((SiMode.drawn T pl).row w a ep es)[j]? = some e) : ∃ k, pl[j]? = some k ∧ es[k]? = some e := by
  obtain ⟨_, hp⟩ := ok
  have hall : ∀ k ∈ pl, k < es.size := fun k hk => List.mem_range.mp (hp.mem_iff.mp hk)
  have e1 : ∀ l : List Nat, (∀ k ∈ l, k < es.size) → ∀ (j : Nat) (e : Int × Value), (l.filterMap fun k => es[k]?)[j]? = some e → ∃ k, l[j]? = some k ∧ es[k]? = some e := by
    intro l
    induction l with
    | nil => intro _ j e h; cases j <;> cases h
    | cons k l ih =>
      intro hl j e h
      have hk : es[k]? = some (es[k]'(hl k (List.mem_cons_self ..))) := by simp
      rw [List.filterMap_cons, hk] at h
      cases j with
      | zero => exact ⟨k, rfl, by rw [hk]; simpa using h⟩
      | succ j => exact ih (fun x hx => hl x (List.mem_cons_of_mem _ hx)) j e (by simpa using h)
  exact e1 pl hall j e hj
theorem byText_is {Q : Bool → Shared → Prop} (h : Q (w.params.followText "set-order") s) : wpAny (model prog w) A setsByText Q E s := by
  unfold setsByText
  refine wpAny_bind ?_
  exact wpAny_askSetting (wpAny_pure h)
theorem fields_after {h : Heap} {o : Obj} {vs : Array Value} {k : Nat} {x : Value} (ho : h.get? I = some o) (hd : o.data = .fields vs) :
    (h.update I (Obj.mapFields (·.setIfInBounds k x))).get? I = some (Obj.mapFields (·.setIfInBounds k x) o) ∧ (Obj.mapFields (·.setIfInBounds k x) o).cls = o.cls ∧ (Obj.mapFields (·.setIfInBounds k x) o).data = .fields (vs.setIfInBounds k x) :=
  ⟨Heap.get?_update_self _ ho (Obj.isFreed_of_fields (Obj.data_mapFields hd _)), Obj.cls_mapFields .., Obj.data_mapFields hd _⟩
theorem place_get {es : Array (Int × Value)} {t : SetTable} {ks : List Int} (X : SetIn prog w es t ks) {i : Nat} (hi : i < es.size) : t.place[i]? = some (t.place.getD i 0) := by
  have hf := X.fit
  unfold SetTable.fits at hf
  rw [Bool.and_eq_true] at hf
  have : t.place.size = es.size := eq_of_beq hf.1
  have h2 : i < t.place.size := by omega
  simp [Array.getD, h2]
def slotN (t : SetTable) : Nat → Nat
  | 0 => 0
  | k + 1 => t.place.getD k 0 + 1
theorem below_slot {es : Array (Int × Value)} {t : SetTable} {ks : List Int} (X : SetIn prog w es t ks) : ∀ i, i ≤ es.size → SetTable.below t.place (slotN t i) = i
  | 0, _ => below_zero X.tab.ris
  | k + 1, h => below_next X.tab.ris (place_get X h)
theorem setNext_slots {o : Obj} {es : Array (Int × Value)} {t : SetTable} {ks : List Int} {Q : Option (Value × Nat) → Shared → Prop} (ho : s.heap.get? a = some o) (hd : o.data = .set es ep t) (X : SetIn prog w es t ks) (ok : ModeOk w s.heap es t .slots) (hi : i ≤ es.size) {g e : Nat}
    (h : Q (match es[i]? with | some x => some (x.2, slotN t (i + 1)) | none => none) s) : wpAny (model prog w) A (setNext a (slotN t i) g e) Q E s := by
  obtain ⟨h1, h2⟩ := ok
  have hled : t.led = true := by rw [X.tab.led, h1]; rfl
  unfold setNext
  refine wpAny_bind ?_
  refine wpAny_setState_of ho hd X.fit ?_
  refine wpAny_bind ?_
  refine byText_is ?_
  rw [h1]
  dsimp only
  rw [if_neg Bool.false_ne_true]
  split
  · rename_i hdr
    exact absurd (show (!t.plain && decide (es.size > 1)) = true from hdr) (by rw [h2]; decide)
  refine wpAny_bind ?_
  show wpAny (model prog w) A ((if (!t.led && !es.isEmpty) = true then unsupported "set:maker-not-led" else pure ()) : Sem Unit) _ _ _
  rw [if_neg (by rw [hled]; exact Bool.false_ne_true)]
  refine wpAny_pure ?_
  rw [below_slot X i hi]
  by_cases hlt : i < es.size
  · have e1 : es[i]? = some es[i] := by simp [hlt]
    rw [e1, place_get X hlt]
    rw [e1] at h
    exact wpAny_pure h
  · have e1 : es[i]? = none := by simp; omega
    rw [e1] at h ⊢
    exact wpAny_pure h
theorem setNext_text {o : Obj} {es : Array (Int × Value)} {t : SetTable} {ks : List Int} {Q : Option (Value × Nat) → Shared → Prop} (ho : s.heap.get? a = some o) (hd : o.data = .set es ep t) (X : SetIn prog w es t ks) (ok : ModeOk w s.heap es t .text) {g sl : Nat}
    (h : Q (((pickOrder (w.params.setOrder a ep) es)[g]?).map fun e => (e.2, sl)) s) : wpAny (model prog w) A (setNext a sl g ep) Q E s := by
  have h1 : w.params.followText "set-order" = true := ok
  unfold setNext
  refine wpAny_bind ?_
  refine wpAny_setState_of ho hd X.fit ?_
  refine wpAny_bind ?_
  refine byText_is ?_
  rw [h1]
  dsimp only
  rw [if_pos rfl, if_neg (by simp)]
  refine wpAny_bind ?_
  unfold setWalk
  refine wpAny_bind ?_
  refine wpAny_setState_of ho hd X.fit ?_
  refine wpAny_bind ?_
  refine byText_is ?_
  rw [h1, if_pos rfl]
  refine wpAny_bind ?_
  refine wpAny_askSetting ?_
  exact wpAny_pure (wpAny_pure h)
theorem next_si {o : Obj} {es : Array (Int × Value)} {t : SetTable} {ks : List Int} {m : SiMode} {e : Int × Value} {Q : Option Value → Shared → Prop} (ho : s.heap.get? a = some o) (hex : o.ExactSet) (hd : o.data = .set es ep t) (X : SetIn prog w es t ks) (ok : ModeOk w s.heap es t m) (hit : SiAt s.heap I (m.first t i) i a es.size ep) (he : (m.row w a ep es)[i]? = some e)
    (hQ : ∀ h', SiAt h' I (m.first t (i + 1)) (i + 1) a es.size ep → Heap.SameBut I s.heap h' → Q (some e.2) { s with heap := h' }) : wpAny (model prog w) A (pyNext (.ref I)) Q E s := by
  obtain ⟨oi, hoi, hci, hdi⟩ := id hit
  unfold pyNext
  refine wpAny_bind ?_
  refine wpAny_attempt (wpAny_callSpecial?_slot (name := Str.ofString "__next__") hit.typeIs F.slot_si_next ?_)
  refine wpAny_call_entry F.slot_si_next hit.typeIs F.entry_si_next ?_ (F.args_si_next_1 _)
  unfold Builtin.«set_iterator.__next__»
  refine wpAny_bind ?_
  refine wpAny_of_eq (a := (Value.ref I, [])) rfl ?_
  refine wpAny_bind ?_
  refine wpAny_fieldsOf hoi hdi ?_
  dsimp only [rawInt]
  refine wpAny_bind ?_
  refine wpAny_setEntries_of ho hd X.fit ?_
  rw [if_neg (by simp)]
  cases m with
  | slots =>
    have hi : i < es.size := by
      have := (List.getElem?_eq_some_iff.mp (show es.toList[i]? = some e from he)).1
      simpa using this
    have he' : es[i]? = some e := by
      rw [← Array.getElem?_toList]
      exact he
    show wpAny (model prog w) A.in1 (setNext a ((slotN t i : Nat) : Int).toNat (i : Int).toNat (ep : Int).toNat >>= _) _ _ s
    refine wpAny_bind ?_
    rw [Int.toNat_natCast]
    refine setNext_slots ho hd X ok (Nat.le_of_lt hi) ?_
    rw [he']
    dsimp only
    refine wpAny_bind ?_
    refine wpAny_setField hoi hdi (by simp) ?_
    obtain ⟨g1, g2, g3⟩ := fields_after (k := 0) (x := rawInt ((slotN t (i + 1) : Nat) : Int)) hoi hdi
    have b1 := Heap.SameBut.update s.heap I (Obj.mapFields (·.setIfInBounds 0 (rawInt ((slotN t (i + 1) : Nat) : Int))))
    refine wpAny_bind ?_
    refine wpAny_setField (s := { s with heap := s.heap.update I (Obj.mapFields (·.setIfInBounds 0 (rawInt ((slotN t (i + 1) : Nat) : Int)))) }) g1 g3 (by simp) ?_
    obtain ⟨g4, g5, g6⟩ := fields_after (k := 1) (x := rawInt ((i : Int) + 1)) g1 g3
    refine wpAny_pure ⟨_, rfl, wpAny_pure (hQ _ ⟨_, g4, g5.trans (g2.trans hci), ?_⟩ (b1.trans (Heap.SameBut.update ..)))⟩
    rw [g6, show SiMode.slots.first t (i + 1) = rawInt ((slotN t (i + 1) : Nat) : Int) from rfl]
    simp
  | text =>
    show wpAny (model prog w) A.in1 (setNext a ((0 : Nat) : Int).toNat (i : Int).toNat (ep : Int).toNat >>= _) _ _ s
    refine wpAny_bind ?_
    rw [Int.toNat_natCast, Int.toNat_natCast, Int.toNat_natCast]
    refine setNext_text ho hd X ok ?_
    rw [show (pickOrder (w.params.setOrder a ep) es)[i]? = some e by rw [← Array.getElem?_toList]; exact he]
    dsimp only [Option.map]
    refine wpAny_bind ?_
    refine wpAny_setField hoi hdi (by simp) ?_
    obtain ⟨g1, g2, g3⟩ := fields_after (k := 0) (x := rawInt ((0 : Nat) : Int)) hoi hdi
    have b1 := Heap.SameBut.update s.heap I (Obj.mapFields (·.setIfInBounds 0 (rawInt ((0 : Nat) : Int))))
    refine wpAny_bind ?_
    refine wpAny_setField (s := { s with heap := s.heap.update I (Obj.mapFields (·.setIfInBounds 0 (rawInt ((0 : Nat) : Int)))) }) g1 g3 (by simp) ?_
    obtain ⟨g4, g5, g6⟩ := fields_after (k := 1) (x := rawInt ((i : Int) + 1)) g1 g3
    refine wpAny_pure ⟨_, rfl, wpAny_pure (hQ _ ⟨_, g4, g5.trans (g2.trans hci), ?_⟩ (b1.trans (Heap.SameBut.update ..)))⟩
    rw [g6, show SiMode.text.first t (i + 1) = rawInt ((0 : Nat) : Int) from rfl]
    simp
  | drawn T pl =>
    obtain ⟨k, hk, hek⟩ := row_get ok he
    obtain ⟨⟨oT, nn, hT, hTd⟩, hp⟩ := id ok
    show wpAny (model prog w) A.in1 (seqItems? (.ref T) >>= _) _ _ s
    refine wpAny_bind ?_
    refine wpAny_seqItems hT hTd ?_
    have e1 : ((pl.map fun k : Nat => rawInt (k : Int)).toArray)[(i : Int).toNat]? = some (rawInt (k : Int)) := by
      rw [Int.toNat_natCast, List.getElem?_toArray, List.getElem?_map, hk]
      rfl
    dsimp only
    rw [e1]
    dsimp only [rawInt]
    refine wpAny_bind ?_
    unfold setNextDrawn
    refine wpAny_bind ?_
    refine wpAny_setState_of ho hd X.fit ?_
    dsimp only
    rw [Int.toNat_natCast, Int.toNat_natCast, if_neg (by simp), hek]
    refine wpAny_pure ?_
    refine wpAny_bind ?_
    refine wpAny_setField hoi hdi (by simp) ?_
    obtain ⟨g4, g5, g6⟩ := fields_after (k := 1) (x := rawInt ((i : Int) + 1)) hoi hdi
    refine wpAny_pure ⟨_, rfl, wpAny_pure (hQ _ ⟨_, g4, g5.trans hci, ?_⟩ (Heap.SameBut.update ..))⟩
    rw [g6, show (SiMode.drawn T pl).first t (i + 1) = .ref T from rfl]
    simp [SiMode.first]
theorem stop_now {Q : Fin → Shared → Prop} {E' : Value → Shared → Prop} (hh : A.handled = none) (h : ∀ h' x, (∀ b o, s.heap.get? b = some o → h'.get? b = some o) → Shared.TypeIs { s with heap := h' } x "StopIteration" → E' x { s with heap := h' }) : wpAny (model prog w) A (newExc (.type "StopIteration") [] >>= fun e => (raiseNew e : Sem Fin)) Q E' s := by
  refine wpAny_bind ?_
  simp only [newExc, newTuple]
  refine wpAny_bind ?_
  refine wpAny_newObj_type ?_ (by size_fits)
  refine wpAny_bind (m := firstArgMember _ _) ?_
  refine wpAny_of_eq (a := Value.none) (by first | rfl | (simp only [firstArgMember]; rfl)) ?_
  refine wpAny_newObj_type ?_ (by size_fits)
  simp only [raiseNew]
  refine wpAny_bind ?_
  refine wpAny_handled ?_
  rw [hh]
  first | refine wpAny_bind (wpAny_pure (wpAny_throw ?_)) | refine wpAny_throw ?_
  exact h _ _ (fun b o e => Heap.get?_push_of_some _ (Heap.get?_push_of_some _ e)) ⟨_, Heap.get?_push_size _ rfl, rfl⟩
theorem next_si_end {o : Obj} {es : Array (Int × Value)} {t : SetTable} {ks : List Int} {m : SiMode} {Q : Option Value → Shared → Prop} (hh : A.handled = none) (ho : s.heap.get? a = some o) (hd : o.data = .set es ep t) (X : SetIn prog w es t ks) (ok : ModeOk w s.heap es t m) (hit : SiAt s.heap I (m.first t es.size) es.size a es.size ep)
    (hQ : ∀ h', (∀ b o, b ≠ I → s.heap.get? b = some o → h'.get? b = some o) → Q none { s with heap := h' }) : wpAny (model prog w) A (pyNext (.ref I)) Q E s := by
  obtain ⟨oi, hoi, hci, hdi⟩ := id hit
  unfold pyNext
  refine wpAny_bind ?_
  refine wpAny_attempt (wpAny_callSpecial?_slot (name := Str.ofString "__next__") hit.typeIs F.slot_si_next ?_)
  refine wpAny_call_entry F.slot_si_next hit.typeIs F.entry_si_next ?_ (F.args_si_next_1 _)
  unfold Builtin.«set_iterator.__next__»
  refine wpAny_bind ?_
  refine wpAny_of_eq (a := (Value.ref I, [])) rfl ?_
  refine wpAny_bind ?_
  refine wpAny_fieldsOf hoi hdi ?_
  dsimp only [rawInt]
  refine wpAny_bind ?_
  refine wpAny_setEntries_of ho hd X.fit ?_
  rw [if_neg (by simp)]
  have fin : ∀ (h1 : Heap), (∀ b o, b ≠ I → s.heap.get? b = some o → h1.get? b = some o) → wpAny (model prog w) A.in1 (newExc (.type "StopIteration") [] >>= fun e => (raiseNew e : Sem Fin)) (fun fin s' => ∃ v, fin = Fin.done (Flow.ret v) ∧ wpAny (model prog w) A (pure (some v)) Q E s')
      (fun e s' => wpAny (model prog w) A (isInstance e (.type "StopIteration") >>= fun c => if c = true then pure none else throw e) Q E s') { s with heap := h1 } := fun h1 hk => by
    refine stop_now (show A.in1.handled = none from hh) fun h' x hk' hT => ?_
    refine wpAny_bind ?_
    refine wpAny_isInstance (b := true) hT isSubtype_stop ?_
    exact wpAny_pure (hQ h' fun b o hb e => hk' b o (hk b o hb e))
  cases m with
  | slots =>
    show wpAny (model prog w) A.in1 (setNext a ((slotN t es.size : Nat) : Int).toNat (es.size : Int).toNat (ep : Int).toNat >>= _) _ _ s
    refine wpAny_bind ?_
    rw [Int.toNat_natCast]
    refine setNext_slots ho hd X ok (Nat.le_refl _) ?_
    rw [show es[es.size]? = none by simp]
    dsimp only
    refine wpAny_bind ?_
    refine wpAny_setField hoi hdi (by simp) ?_
    exact fin _ (Heap.SameBut.update ..).extBut
  | text =>
    show wpAny (model prog w) A.in1 (setNext a ((0 : Nat) : Int).toNat (es.size : Int).toNat (ep : Int).toNat >>= _) _ _ s
    refine wpAny_bind ?_
    rw [Int.toNat_natCast, Int.toNat_natCast, Int.toNat_natCast]
    refine setNext_text ho hd X ok ?_
    have hz : (pickOrder (w.params.setOrder a ep) es).size = es.size := by
      have := (pick_perm (w.params.setOrder a ep) es).length_eq
      simpa using this
    rw [show (pickOrder (w.params.setOrder a ep) es)[es.size]? = none by rw [Array.getElem?_eq_none]; omega]
    dsimp only [Option.map]
    refine wpAny_bind ?_
    refine wpAny_setField hoi hdi (by simp) ?_
    exact fin _ (Heap.SameBut.update ..).extBut
  | drawn T pl =>
    obtain ⟨⟨oT, nn, hT, hTd⟩, hp⟩ := id ok
    have hl : pl.length = es.size := by
      have := hp.length_eq
      simpa using this
    show wpAny (model prog w) A.in1 (seqItems? (.ref T) >>= _) _ _ s
    refine wpAny_bind ?_
    refine wpAny_seqItems hT hTd ?_
    have e1 : ((pl.map fun k : Nat => rawInt (k : Int)).toArray)[(es.size : Int).toNat]? = none := by
      rw [Int.toNat_natCast, List.getElem?_toArray, List.getElem?_eq_none]
      rw [List.length_map]
      omega
    dsimp only
    rw [e1]
    dsimp only [rawInt]
    refine wpAny_bind ?_
    refine wpAny_setField hoi hdi (by simp) ?_
    obtain ⟨g1, g2, g3⟩ := fields_after (k := 0) (x := rawInt 0) hoi hdi
    have b1 := Heap.SameBut.update s.heap I (Obj.mapFields (·.setIfInBounds 0 (rawInt 0)))
    refine wpAny_bind ?_
    refine wpAny_setField (s := { s with heap := s.heap.update I (Obj.mapFields (·.setIfInBounds 0 (rawInt 0))) }) g1 g3 (by simp) ?_
    exact fin _ (b1.trans (Heap.SameBut.update ..)).extBut
theorem iter_si (hit : SiAt s.heap I first i a n ep) {Q : Value → Shared → Prop} (h : Q (.ref I) s) : wpAny (model prog w) A (pyIter (.ref I)) Q E s := by
  refine wpAny_pyIter_slot hit.typeIs F.slot_si_iter ?_
  refine wpAny_call_entry F.slot_si_iter hit.typeIs F.entry_si_iter ?_ (F.args_si_iter_1 _)
  show wpAny (model prog w) _ (ret (.ref I)) _ _ s
  exact wpAny_pure ⟨_, rfl, "set_iterator", _, hit.typeIs, F.slot_si_next.lookup, h⟩
/-- what the walk over the set reads -/
def SiMode.fp (m : SiMode) (I a : Addr) : List Addr := match m with
  | .drawn T _ => [I, a, T]
  | _ => [I, a]
theorem ModeOk.keep {h h' : Heap} {es : Array (Int × Value)} {t : SetTable} {m : SiMode} (ok : ModeOk w h es t m) (k : ∀ b ∈ m.fp I a, ∀ o, h.get? b = some o → h'.get? b = some o) : ModeOk w h' es t m := by
  cases m with
  | slots => exact ok
  | text => exact ok
  | drawn T pl =>
    obtain ⟨⟨o, nn, h1, h2⟩, hp⟩ := ok
    exact ⟨⟨o, nn, k T (by simp [SiMode.fp]) o h1, h2⟩, hp⟩
theorem walk_si (hh : A.handled = none) {es : Array (Int × Value)} {t : SetTable} {ks : List Int} {m : SiMode} (X : SetIn prog w es t ks) (hne : a ≠ I) (hT : ∀ T pl, m = .drawn T pl → T ≠ I) :
    Walks prog w A I (m.fp I a) [I] es.size (fun i v => ∃ e, (m.row w a ep es)[i]? = some e ∧ v = e.2) (fun i h => i ≤ es.size ∧ (∃ o, h.get? a = some o ∧ o.ExactSet ∧ o.data = .set es ep t) ∧ ModeOk w h es t m ∧ SiAt h I (m.first t i) i a es.size ep) where
  sub := fun b hb => by
    rw [List.mem_singleton.mp hb]
    cases m <;> simp [SiMode.fp]
  frame := fun i h h' z k => by
    obtain ⟨hi, ⟨o, ho, r⟩, ok, hit⟩ := z
    have ha : a ∈ m.fp I a := by cases m <;> simp [SiMode.fp]
    have hI : I ∈ m.fp I a := by cases m <;> simp [SiMode.fp]
    exact ⟨hi, ⟨o, k a ha o ho, r⟩, ok.keep (I := I) (a := a) k, hit.at fun o e => k I hI o e⟩
  item := fun i s Q E hi z hQ => by
    obtain ⟨_, ⟨o, ho, hex, hd⟩, ok, hit⟩ := z
    have hl : (m.row w a ep es).length = es.size := by
      have := (row_perm (a := a) (ep := ep) ok).length_eq
      simpa using this
    have he : (m.row w a ep es)[i]? = some ((m.row w a ep es)[i]'(by omega)) := by simp
    refine next_si ho hex hd X ok hit he fun h' hit' sb => ?_
    refine hQ _ h' s.toks ⟨_, he, rfl⟩ ⟨hi, ⟨o, (sb.2 a hne).trans ho, hex, hd⟩, ?_, hit'⟩ fun b o hb e => sb.extBut b o (fun z => hb (by simp [z])) e
    cases m with
    | slots => exact ok
    | text => exact ok
    | drawn T pl =>
      obtain ⟨⟨oT, nn, h1, h2⟩, hp⟩ := ok
      exact ⟨⟨oT, nn, (sb.2 T (hT T pl rfl)).trans h1, h2⟩, hp⟩
  done := fun s Q E z hQ => by
    obtain ⟨_, ⟨o, ho, hex, hd⟩, ok, hit⟩ := z
    exact next_si_end hh ho hd X ok hit fun h' k => hQ h' s.toks fun b o hb e => k b o (fun z => hb (by simp [z])) e
  self := fun i s Q E z h => iter_si z.2.2.2 h
end
end PySem

set_option maxHeartbeats 4000000
namespace PySem
open Sem (wp)
section
variable {prog : Program} {w : World} {A : Around} {E : Value → Shared → Prop} {s : Shared} {a : Addr} {ks : List Int}
/-- an iterator over the set at a has been made -/
structure SetIt (prog : Program) (w : World) (h h' : Heap) (a I : Addr) (ks : List Int) (o : Obj) (es : Array (Int × Value)) (ep : Nat) (t : SetTable) (m : SiMode) : Prop where
  ho : h'.get? a = some o
  hex : o.ExactSet
  hd : o.data = .set es ep t
  X : SetIn prog w es t ks
  ok : ModeOk w h' es t m
  it : SiAt h' I (m.first t 0) 0 a es.size ep
  ne : a ≠ I
  nT : ∀ T pl, m = .drawn T pl → T ≠ I
  kp : ∀ b o, h.get? b = some o → h'.get? b = some o
  fr : h.objs.size ≤ I
  lt : ∀ b ∈ m.fp I a, b < h'.objs.size
  fT : ∀ T pl, m = .drawn T pl → h.objs.size ≤ T
theorem iter_set {Q : Value → Shared → Prop} (hX : SetX prog w s.heap a ks) (h : ∀ I h' d o es ep t m, SetIt prog w s.heap h' a I ks o es ep t m → Q (.ref I) { s with heap := h', drawn := d }) : wpAny (model prog w) A (pyIter (.ref a)) Q E s := by
  obtain ⟨o, es, ep, t, ho, hex, hd, X⟩ := hX
  have hT : s.TypeIs (.ref a) "set" := ⟨o, ho, hex.1⟩
  have hlt : a < s.heap.objs.size := Heap.lt_size ho
  refine wpAny_pyIter_slot hT F.slot_set_iter ?_
  refine wpAny_call_entry F.slot_set_iter hT F.entry_set_iter' ?_ (F.args_set_iter_1 _)
  unfold Builtin.«frozenset.__iter__»
  refine wpAny_bind ?_
  refine wpAny_of_eq (a := a) rfl ?_
  refine wpAny_bind ?_
  unfold Builtin.Frozenset.sizeOf
  refine wpAny_bind ?_
  refine wpAny_setEntries_of ho hd X.fit ?_
  refine wpAny_pure ?_
  -- the end: the iterator's object
  have fin : ∀ (m : SiMode) (h1 : Heap) (d : Drawn), (∀ b o, s.heap.get? b = some o → h1.get? b = some o) → ModeOk w h1 es t m → (∀ T pl, m = .drawn T pl → T < h1.objs.size ∧ s.heap.objs.size ≤ T) → s.heap.objs.size ≤ h1.objs.size →
      wpAny (model prog w) A.in1 (setEpoch a >>= fun e => newFields "set_iterator" [m.first t 0, rawInt ((0 : Nat) : Int), .ref a, rawInt ((es.size : Nat) : Int), rawInt (e : Int)] >>= fun v => ret v)
        (fun fin s' => ∃ v, fin = Fin.done (Flow.ret v) ∧ ∃ T name, s'.TypeIs v T ∧ typeLookup (.type T) "__next__" = pure (some name) ∧ Q v s') E { s with heap := h1, drawn := d } := fun m h1 d kp ok hTl hsz => by
    have ho1 := kp a o ho
    refine wpAny_bind ?_
    refine wpAny_setEpoch_of (s := { s with heap := h1, drawn := d }) ho1 hd X.fit ?_
    refine wpAny_bind ?_
    unfold newFields
    refine wpAny_newObj_type ?_ (by size_fits)
    have hI : (h1.push (siObj (m.first t 0) 0 a es.size ep)).get? h1.objs.size = some (siObj (m.first t 0) 0 a es.size ep) := Heap.get?_push_size _ rfl
    have k2 : ∀ b o, h1.get? b = some o → (h1.push (siObj (m.first t 0) 0 a es.size ep)).get? b = some o := fun b o e => Heap.get?_push_of_some _ e
    have hz : (h1.push (siObj (m.first t 0) 0 a es.size ep)).objs.size = h1.objs.size + 1 := Heap.size_push ..
    have hal : a < h1.objs.size := Heap.lt_size ho1
    refine wpAny_pure ⟨_, rfl, "set_iterator", _, ⟨_, hI, rfl⟩, F.slot_si_next.lookup, h h1.objs.size (h1.push (siObj (m.first t 0) 0 a es.size ep)) d o es ep t m ?_⟩
    refine ⟨k2 a o ho1, hex, hd, X, ?_, ⟨_, hI, rfl, rfl⟩, Nat.ne_of_lt hal, fun T pl e => Nat.ne_of_lt (hTl T pl e).1, fun b o e => k2 b o (kp b o e), hsz, fun b hb => ?_, fun T pl e => (hTl T pl e).2⟩
    · cases m with
      | slots => exact ok
      | text => exact ok
      | drawn T pl =>
        obtain ⟨⟨oT, nn, e1, e2⟩, hp⟩ := ok
        exact ⟨⟨oT, nn, k2 T oT e1, e2⟩, hp⟩
    · rw [hz]
      cases m with
      | slots =>
        rcases List.mem_cons.mp hb with z | z
        · rw [z]; exact Nat.lt_succ_self _
        · rw [List.mem_singleton.mp z]; exact Nat.lt_succ_of_lt hal
      | text =>
        rcases List.mem_cons.mp hb with z | z
        · rw [z]; exact Nat.lt_succ_self _
        · rw [List.mem_singleton.mp z]; exact Nat.lt_succ_of_lt hal
      | drawn T pl =>
        rcases List.mem_cons.mp hb with z | z
        · rw [z]; exact Nat.lt_succ_self _
        rcases List.mem_cons.mp z with z | z
        · rw [z]; exact Nat.lt_succ_of_lt hal
        · rw [List.mem_singleton.mp z]; exact Nat.lt_succ_of_lt (hTl T pl rfl).1
  refine wpAny_bind ?_
  unfold setDrawn
  refine wpAny_bind ?_
  refine wpAny_setState_of ho hd X.fit ?_
  refine wpAny_bind ?_
  refine byText_is ?_
  refine wpAny_pure ?_
  cases hb : w.params.followText "set-order" with
  | true =>
    dsimp only
    rw [if_neg (by simp)]
    refine wpAny_bind ?_
    exact wpAny_pure (fin .text s.heap s.drawn (fun _ _ e => e) hb (fun _ _ e => by cases e) (Nat.le_refl _))
  | false =>
    dsimp only
    split
    · refine wpAny_bind ?_
      refine any_draw es.size _ _ _ (by simp) fun pl d hp => ?_
      refine wpAny_bind ?_
      unfold newTuple
      have hl : pl.length = es.size := by
        have := hp.length_eq
        simpa using this
      have hsz : (pl.map fun k : Nat => rawInt (k : Int)).toArray.size ≤ sizeLine := by
        rw [List.size_toArray, List.length_map, hl]
        exact fits_of_scanBound X.few
      refine wpAny_newObj_type ?_ hsz
      refine fin (.drawn s.heap.objs.size pl) _ d (fun b o e => Heap.get?_push_of_some _ e) ⟨⟨_, 0, Heap.get?_push_size _ rfl, rfl⟩, hp⟩ (fun T pl' e => ?_) (by rw [Heap.size_push]; exact Nat.le_succ _)
      cases e
      rw [Heap.size_push]
      exact ⟨Nat.lt_succ_self _, Nat.le_refl _⟩
    · rename_i hdr
      refine wpAny_bind ?_
      refine wpAny_pure (fin .slots s.heap s.drawn (fun _ _ e => e) ⟨hb, ?_⟩ (fun _ _ e => by cases e) (Nat.le_refl _))
      cases hq : (!t.plain && decide (es.size > 1)) with
      | false => rfl
      | true => exact absurd (show (!false && (!t.plain && decide (es.size > 1))) = true by rw [hq]; rfl) hdr
theorem ints_of_row {h : Heap} {es : Array (Int × Value)} {t : SetTable} {m : SiMode} {ep : Nat} (X : SetIn prog w es t ks) (ok : ModeOk w h es t m) : ∃ L : List Int, L.Perm ks ∧ PyProof.Rows.IntsAre ((m.row w a ep es).map (·.2)) L := by
  have hp := row_perm (a := a) (ep := ep) ok
  refine ⟨(m.row w a ep es).map fun e => intOf e.2, (hp.map _).trans X.pm, ?_⟩
  have : ∀ l : List (Int × Value), (∀ e ∈ l, ∃ u, e.2 = .int (intOf e.2) u) → PyProof.Rows.IntsAre (l.map (·.2)) (l.map fun e => intOf e.2) := by
    intro l
    induction l with
    | nil => intro _; exact .nil
    | cons e l ih =>
      intro hl
      obtain ⟨u, eu⟩ := hl e (List.mem_cons_self ..)
      rw [List.map_cons, List.map_cons]
      have := PyProof.Rows.IntsAre.cons (intOf e.2) u (ih fun x hx => hl x (List.mem_cons_of_mem _ hx))
      rw [← eu] at this
      exact this
  exact this _ fun e he => X.int (hp.mem_iff.mp he)
/-- what a set holds, gathered -/
theorem collect_set {Q : List Value → Shared → Prop} (hh : A.handled = none) (hX : SetX prog w s.heap a ks)
    (hQ : ∀ h' d tk vs L, L.Perm ks → PyProof.Rows.IntsAre vs L → (∀ b o, s.heap.get? b = some o → h'.get? b = some o) → s.heap.objs.size < h'.objs.size → Q vs { s with heap := h', drawn := d, toks := tk }) : wpAny (model prog w) A (collect (.ref a)) Q E s := by
  have hlt : a < s.heap.objs.size := by obtain ⟨o, _, _, _, ho, _⟩ := hX; exact Heap.lt_size ho
  unfold collect
  refine wpAny_bind ?_
  refine wpAny_runValue ?_
  refine codeAny_builtin F.entry_proto_collect ?_
  rw [Around.under_plainId F.plain_proto_collect _]
  show wpAny (model prog w) A.in1 (newList [] >>= fun l => again (.builtin "list.__iadd__" ⟨[l, .ref a], []⟩)) _ _ s
  refine wpAny_bind ?_
  refine wpAny_newObj_type ?_
  refine wpAny_pure ⟨plainId_quiet F.plain_list_iadd _, ?_⟩
  refine codeAny_builtin F.entry_list_iadd ?_
  rw [Around.under_plainId F.plain_list_iadd _]
  have k1 : ∀ b o, s.heap.get? b = some o → (s.heap.push { cls := .type "list", data := .seq ([] : List Value).toArray }).get? b = some o := fun b o e => Heap.get?_push_of_some _ e
  have X1 := hX.keep (h' := s.heap.push { cls := .type "list", data := .seq ([] : List Value).toArray }) fun o e => k1 a o e
  have S1 : (s.heap.push { cls := .type "list", data := .seq ([] : List Value).toArray }).get? s.heap.objs.size = some { cls := .type "list", data := .seq ([] : List Value).toArray } := Heap.get?_push_size _ rfl
  have z1 : (s.heap.push { cls := .type "list", data := .seq ([] : List Value).toArray }).objs.size = s.heap.objs.size + 1 := Heap.size_push ..
  generalize s.heap.push { cls := .type "list", data := .seq ([] : List Value).toArray } = h1 at k1 X1 S1 z1
  have ne : s.heap.objs.size ≠ a := Nat.ne_of_gt hlt
  have hT1 : Shared.TypeIs { s with heap := h1 } (.ref a) "set" := by obtain ⟨o, _, _, _, ho, hex, _⟩ := X1; exact ⟨o, ho, hex.1⟩
  show wpAny (model prog w) A.in1 (Builtin.List.listExtendWith (.ref s.heap.objs.size) (.ref a) (.ref s.heap.objs.size)) _ _ _
  unfold Builtin.List.listExtendWith
  refine wpAny_bind ?_
  refine wpAny_typeOf hT1 ?_
  rw [if_neg (by rw [show Builtin.List.listSameRef (.ref s.heap.objs.size) (.ref a) = false by simp [Builtin.List.listSameRef, ne]]; decide)]
  refine wpAny_bind ?_
  refine iter_set (s := { s with heap := h1 }) X1 fun I h2 d o es ep t m S => ?_
  refine wpAny_bind ?_
  refine wpAny_holding ?_
  have hT2 : Shared.TypeIs { s with heap := h2, drawn := d } (.ref a) "set" := ⟨o, S.ho, S.hex.1⟩
  unfold Builtin.List.listLengthHint
  refine wpAny_bind ?_
  refine wpAny_specialOf hT2 F.slot_set_len.lookup ?_
  (generalize hid : ("set.__len__" : String) = id0; (fail_if_success (clear hid id0)); wp_delta; rw [show splitId id0 = some ("set", "__len__") from by subst hid; decide +kernel]; subst hid)
  refine wpAny_bind ?_
  refine wpAny_isInstance (b := true) hT2 (by rw [isSubtype_type]; kernel_rfl) ?_
  rw [if_neg (by decide), if_pos (by decide +kernel)]
  refine wpAny_bind ?_
  refine wpAny_typeOf hT2 ?_
  refine wpAny_pure ?_
  dsimp only
  rw [if_pos (by decide +kernel)]
  refine wpAny_bind ?_
  refine wpAny_rule ?_
  refine wpAny_bind ?_
  have S2 : h2.get? s.heap.objs.size = some { cls := .type "list", data := .seq ([] : List Value).toArray } := S.kp _ _ S1
  show wpAny (model prog w) A.in1 (updateSeq s.heap.objs.size (·.push .none) >>= fun _ => updateSeq s.heap.objs.size (·.pop)) _ _ _
  refine wpAny_bind ?_
  refine wpAny_updateSeq (s := { s with heap := h2, drawn := d }) S2 rfl ?_
  have S3 := Heap.get?_update_self (Obj.mapSeq (·.push Value.none)) S2 rfl
  refine wpAny_updateSeq (hz := by seq_fits) S3 rfl ?_
  have S4 := Heap.get?_update_self (Obj.mapSeq (·.pop)) S3 rfl
  have oth : ∀ b o, b ≠ s.heap.objs.size → h2.get? b = some o → ((h2.update s.heap.objs.size (Obj.mapSeq (·.push Value.none))).update s.heap.objs.size (Obj.mapSeq (·.pop))).get? b = some o :=
    fun b o hb e => (Heap.get?_update_other _ _ (Ne.symm hb)).trans ((Heap.get?_update_other _ _ (Ne.symm hb)).trans e)
  show wpAny (model prog w) A.in1 _ _ _ { s with heap := (h2.update s.heap.objs.size (Obj.mapSeq (·.push Value.none))).update s.heap.objs.size (Obj.mapSeq (·.pop)), drawn := d }
  generalize (h2.update s.heap.objs.size (Obj.mapSeq (·.push Value.none))).update s.heap.objs.size (Obj.mapSeq (·.pop)) = h3 at S4 oth ⊢
  have nfp : s.heap.objs.size ∉ m.fp I a := fun hz => by
    have nI : s.heap.objs.size ≠ I := fun z => by
      have := S.fr
      rw [z1, ← z] at this
      exact Nat.not_succ_le_self _ this
    have nTT : ∀ T pl, m = .drawn T pl → s.heap.objs.size ≠ T := fun T pl e z => by
      have := S.fT T pl e
      rw [z1, ← z] at this
      exact Nat.not_succ_le_self _ this
    cases m with
    | slots =>
      rcases List.mem_cons.mp hz with z | z
      · exact nI z
      · exact ne (List.mem_singleton.mp z)
    | text =>
      rcases List.mem_cons.mp hz with z | z
      · exact nI z
      · exact ne (List.mem_singleton.mp z)
    | drawn T pl =>
      rcases List.mem_cons.mp hz with z | z
      · exact nI z
      rcases List.mem_cons.mp z with z | z
      · exact ne z
      · exact nTT T pl rfl (List.mem_singleton.mp z)
  have W := (walk_si (prog := prog) (w := w) (A := A.in1) (I := I) (a := a) (ep := ep) (show A.in1.handled = none from hh) S.X S.ne S.nT (m := m)).toS
  have st : (fun i (s : Shared) => i ≤ es.size ∧ (∃ o, s.heap.get? a = some o ∧ o.ExactSet ∧ o.data = .set es ep t) ∧ ModeOk w s.heap es t m ∧ SiAt s.heap I (m.first t i) i a es.size ep) 0 { s with heap := h3, drawn := d } := by
    have kf : ∀ b ∈ m.fp I a, ∀ o, h2.get? b = some o → h3.get? b = some o := fun b hb o e => oth b o (fun z => nfp (z ▸ hb)) e
    have ha : a ∈ m.fp I a := by cases m <;> simp [SiMode.fp]
    have hI : I ∈ m.fp I a := by cases m <;> simp [SiMode.fp]
    exact ⟨Nat.zero_le _, ⟨o, kf a ha o S.ho, S.hex, S.hd⟩, S.ok.keep (I := I) (a := a) kf, S.it.at fun o e => kf I hI o e⟩
  refine wpAny_pure ⟨plainId_quiet F.plain_extend_loop _, ?_⟩
  refine codeAny_extend_loopS W (fits_of_scanBound S.X.few) _ nfp _ es.size 0 _ _ _ rfl (Nat.zero_le _) st S4 (ItemsOf.nil _) fun s' acc c hm hS' hacc => ?_
  show wpAny (model prog w) A (load s.heap.objs.size >>= _) _ _ s'
  refine wpAny_bind ?_
  refine wpAny_load hS' ?_
  obtain ⟨L, hL, hi⟩ := ints_of_row (a := a) (ep := ep) S.X S.ok
  have hl : (m.row w a ep es).length = es.size := by
    have := (row_perm (a := a) (ep := ep) S.ok).length_eq
    simpa using this
  have hv : acc.toList = (m.row w a ep es).map (·.2) := by
    refine List.ext_getElem? fun j => ?_
    by_cases hj : j < es.size
    · have e1 : acc.toList[j]? = some (acc.toList[j]'(by have := hacc.1; simp; omega)) := by simp
      obtain ⟨e, he, ev⟩ := hacc.2 j _ (by rw [← Array.getElem?_toList]; exact e1)
      rw [e1, ev, List.getElem?_map, he]
      rfl
    · rw [List.getElem?_eq_none (by have := hacc.1; simp; omega), List.getElem?_eq_none (by rw [List.length_map]; omega)]
  obtain ⟨h', g', d', tk', os'⟩ := s'
  obtain rfl : g' = s.gens := hm.gens
  obtain rfl : d' = d := hm.drawn
  obtain rfl : os' = s.os := hm.os
  refine wpAny_pure (hQ h' d' tk' acc.toList L hL (by rw [hv]; exact hi) (fun b o e => ?_) (Heap.lt_size hS'))
  have hb := Heap.lt_size e
  refine hm.heap b o (fun z => ?_) (oth b o (Nat.ne_of_lt hb) (S.kp b o (k1 b o e)))
  rcases List.mem_cons.mp z with z | z
  · exact Nat.ne_of_lt hb z
  · have := S.fr
    rw [z1, ← List.mem_singleton.mp z] at this
    exact Nat.lt_irrefl _ (Nat.lt_of_lt_of_le hb (Nat.le_of_succ_le this))
end
end PySem
namespace PySem
section
variable {prog : Program} {w : World} {A : Around} {E : Value → Shared → Prop} {s : Shared} {a : Addr} {ks : List Int}
open PyProof.Rows in
/-- sorted(set) -/
theorem sorted_set {Q : Value → Shared → Prop} (hh : A.handled = none) (hX : SetX prog w s.heap a ks) (h64 : ks.length < 64)
    (h : ∀ (h' : Heap) (d : Drawn) (tk : Nat) (l : Addr) (out : Array Value) (ns : List Int) (e : Nat), IntsAre out.toList ns → ns.Perm ks → ns.Pairwise (· ≤ ·) → (∀ b o, s.heap.get? b = some o → h'.get? b = some o) → s.heap.objs.size ≤ l → h'.get? l = some (seqObj "list" out e) → Q (.ref l) { s with heap := h', drawn := d, toks := tk }) :
    wpAny (model prog w) A (call (.builtin "sorted") [.ref a]) Q E s := by
  refine Calls.call_function_entry kind_sorted plain_sorted entry_sorted (args_sorted1 _) ?_
  unfold Builtin.«sorted»
  refine wpAny_bind (m := checkCount "sorted" 1 1 _) ?_
  refine wpAny_pure ?_
  refine wpAny_bind ?_
  refine collect_set (show A.in1.handled = none from hh) hX fun h1 d tk vs L hL hI kp hsz => ?_
  have hvl : vs.length = L.length := hI.length
  have hl : L.length = ks.length := hL.length_eq
  refine wpAny_bind ?_
  refine wpAny_newList ?_ (by have := sizeLine_eq; omega)
  have ho : (h1.push (seqObj "list" vs.toArray 0)).get? h1.objs.size = some (seqObj "list" vs.toArray 0) := Heap.get?_push_size _ rfl
  refine wpAny_bind ?_
  refine wpAny_holding ?_
  have hT : Shared.TypeIs { s with heap := h1.push (seqObj "list" vs.toArray 0), drawn := d, toks := tk } (.ref h1.objs.size) "list" := ⟨_, ho, rfl⟩
  refine wpAny_call_entry slot_list_sort hT entry_list_sort ?_ (args_list_sort _)
  refine list_sort_tree ho hI (by omega) fun out ns' a1 a2 a3 => ⟨_, rfl, ?_⟩
  obtain ⟨e, he⟩ := sortedHeap_at (out := out) ho
  refine wpAny_pure ⟨_, rfl, h _ d tk h1.objs.size out ns' e a1 (a2.trans hL) a3 (fun b o eb => ?_) ?_ he⟩
  · have hb := Heap.lt_size (kp b o eb)
    rw [sortedHeap_old (Nat.ne_of_lt hb) (by rw [size_push']; exact Nat.lt_succ_of_lt hb)]
    exact Heap.get?_push_of_some _ (kp b o eb)
  · exact Nat.le_of_lt hsz
end
end PySem

set_option maxHeartbeats 4000000
namespace L2
open PySem PySem.Spec PyProof.Rows
theorem Inv.draws {X : Cx} {pins : List (Addr × Obj)} {σ : St} {H : Hp} {s : Shared} (I : Inv X pins σ H s) (d : Drawn) : Inv X pins σ H { s with drawn := d } := ⟨I.ok, I.os, I.bare, I.base, I.loc, I.cell, I.free, I.freeC, I.pin, I.hok, I.len⟩
theorem ints_are : ∀ {ns : List Int} {us : List Value}, Vals (ns.map V.int) us → IntsAre us ns
  | [], _, .nil => .nil
  | n :: ns, _, .cons r t => by
    obtain ⟨tk, rfl⟩ := r
    exact .cons n tk (ints_are t)
theorem are_ints : ∀ {ns : List Int} {us : List Value}, IntsAre us ns → Vals (ns.map V.int) us
  | _, _, .nil => .nil
  | _, _, .cons n t r => .cons ⟨t, rfl⟩ (are_ints r)
theorem lt_of_le_nd : ∀ {l : List Int}, l.Pairwise (· ≤ ·) → l.Nodup → l.Pairwise (· < ·)
  | [], _, _ => .nil
  | a :: l, h, n => by
    obtain ⟨h1, h2⟩ := List.pairwise_cons.mp h
    obtain ⟨n1, n2⟩ := List.nodup_cons.mp n
    exact List.pairwise_cons.mpr ⟨fun b hb => by have := h1 b hb; have : a ≠ b := fun z => n1 (z ▸ hb); omega, lt_of_le_nd h2 n2⟩
end L2

set_option maxHeartbeats 4000000
namespace L2
open PySem PySem.Spec PyProof.Rows
end L2

set_option maxHeartbeats 4000000
namespace PySem
end PySem
namespace L2
open PySem PySem.Spec PyProof.Rows
end L2

set_option maxHeartbeats 4000000
namespace PySem
open Sem (wp)
theorem sub_tuple_set : isSubtype (.type "tuple") (.type "set") = pure false := by kernel_rfl
theorem sub_tuple_frozenset : isSubtype (.type "tuple") (.type "frozenset") = pure false := by kernel_rfl
section
variable {prog : Program} {w : World} {A : Around} {E : Value → Shared → Prop} {s : Shared}
theorem call_setXT {l : Addr} {its : Array Value} {ns : List Int} {Q : Value → Shared → Prop} (hh : A.handled = none) (hl : s.heap.IsTuple l its) (hi : PyProof.Rows.IntsAre its.toList ns) (hb : its.size + 1 < scanBound)
    (h : ∀ (h' : Heap) (tk : Nat), SetX prog w h' s.heap.objs.size (metN (fun i => ns.getD i 0) its.size) → (∀ b o, s.heap.get? b = some o → h'.get? b = some o) → Q (.ref s.heap.objs.size) { s with heap := h', toks := tk }) :
    wpAny (model prog w) A (call (.type "set") [.ref l]) Q E s := by
  obtain ⟨c, tl, hmro⟩ := F.called_set.mro
  have hmade := F.called_set.made
  have hsub := F.called_set.sub
  have h1 := F.called_set.notType
  have h2 := F.called_set.canCreate
  have hct := F.typeCall_set_1 (.ref l)
  refine wpAny_call ?_
  refine codeAny_of_tree ?_
  show wpAny _ _ (callAny (.type "set") _) _ _ _
  refine wpAny_pure ⟨Code.quiet_builtin _ (by decide +kernel), ?_⟩
  refine codeAny_builtin F.entry_type_call ?_
  rw [Around.under_plain (weight_type_call_type "set" [.ref l] []) rfl]
  repeat (any_goals (first | assumption | wp_step))
  refine codeAny_mono (code_setX (.ref l) (E := E) (Q₁ := fun obj s₁ => obj = .ref s.heap.objs.size ∧ s₁ = { s with heap := s.heap.push (newSetObj w) }) ⟨rfl, rfl⟩) fun r s₁ hr => ?_
  cases r with
  | error e => exact hr
  | ok fl =>
    cases fl with
    | next => exact hr.elim
    | brk => exact hr.elim
    | cont => exact hr.elim
    | ret obj =>
      obtain ⟨rfl, rfl⟩ := hr
      have hS : (s.heap.push (newSetObj w)).get? s.heap.objs.size = some (newSetObj w) := Heap.get?_push_size _ rfl
      have hT : Shared.TypeIs { s with heap := s.heap.push (newSetObj w) } (.ref s.heap.objs.size) "set" := ⟨_, hS, rfl⟩
      have hli := F.called_set.init.lookup
      have hbi := F.called_set.init.bind (.ref s.heap.objs.size)
      repeat (any_goals (first | assumption | wp_step))
      refine codeAny_mono (codeAny_call_builtin (R := wants (fun r s₂ => r = .none ∧ ∃ h' tk, s₂ = { s with heap := h', toks := tk } ∧ SetX prog w h' s.heap.objs.size (metN (fun i => ns.getD i 0) its.size) ∧ ∀ b o, s.heap.get? b = some o → h'.get? b = some o) E) F.called_set.init.plain F.entry_set_init (check_set_init_1 hT ?_)) fun r₂ s₂ hr₂ => ?_
      · obtain ⟨ol, hol, hcl, nl, hdl⟩ := hl
        obtain ⟨ocls, odict, odata, oslots⟩ := ol
        simp only at hcl hdl
        subst hcl hdl
        have hol' : (s.heap.push (newSetObj w)).get? l = some { cls := .type "tuple", dict := odict, data := .seq its nl, slots := oslots } := Heap.get?_push_of_some _ hol
        have hl1 : (s.heap.push (newSetObj w)).IsTuple l its := ⟨_, hol', rfl, nl, rfl⟩
        have hsls := sub_tuple_set
        have hslf := sub_tuple_frozenset
        have hne : (Value.type "tuple" == Value.type "dict") = false := by decide
        have hS0 : (s.heap.push (newSetObj w)).get? s.heap.objs.size = some { cls := .type "set", dict := none, data := .set #[] 0 (.fresh 0 0 (!w.params.followText "set-order")) } := hS
        unfold Builtin.«set.__init__» noKeywords Builtin.Frozenset.updateFrom
        generalize hPI : pyIter = PI
        wp_walk
        subst hPI
        refine wpAny_pyIter_tuple hl1 ?_
        refine wpAny_bind ?_
        refine wpAny_runValue ?_
        have hlS : l < s.heap.objs.size := Heap.lt_size hol
        have zz : (s.heap.push (newSetObj w)).objs.size = s.heap.objs.size + 1 := Heap.size_push ..
        have n1 : l ≠ (s.heap.push (newSetObj w)).objs.size := by rw [zz]; exact Nat.ne_of_lt (Nat.lt_succ_of_lt hlS)
        have n2 : s.heap.objs.size ∉ [(s.heap.push (newSetObj w)).objs.size, l] := by
          rw [zz]
          intro z
          rcases List.mem_cons.mp z with z | z
          · exact Nat.ne_of_lt (Nat.lt_succ_self _) z
          · exact Nat.ne_of_gt hlS (List.mem_singleton.mp z)
        have hv : ∀ (i : Nat) (v : Value), its[i]? = some v → ∃ t, v = .int ((fun i => ns.getD i 0) i) t := fun i v e => PyProof.Rows.IntsAre.int_at hi i v (by rw [Array.getElem?_toList]; exact e)
        refine setX_loop ((Walks.tuple (show A.in1.in1.in1.handled = none from hh) _ l n1 its).toS) n2 (fun i => ns.getD i 0) hv hb (its.size - 0) 0 _ (by omega) (Nat.zero_le _) ⟨⟨_, Heap.get?_push_size _ rfl, rfl, rfl⟩, hl1.push _⟩ ?X0 ?R0
        case X0 => exact (setX_fresh s.heap).keep fun o e => Heap.get?_push_of_some _ e
        case R0 =>
          intro s' hm X'
          obtain ⟨h', g', d', tk', os'⟩ := s'
          obtain rfl : g' = s.gens := hm.gens
          obtain rfl : d' = s.drawn := hm.drawn
          obtain rfl : os' = s.os := hm.os
          refine wpAny_pure ?_
          refine wpAny_pure ⟨rfl, h', tk', rfl, X', fun b o e => ?_⟩
          have hlt := Heap.lt_size e
          refine hm.heap b o (fun z => ?_) (Heap.get?_push_of_some _ (Heap.get?_push_of_some _ e))
          rcases List.mem_cons.mp z with z | z
          · exact Nat.ne_of_lt hlt z
          · have z2 := List.mem_singleton.mp z
            rw [z2, zz] at hlt
            exact Nat.lt_irrefl _ (Nat.lt_of_succ_lt hlt)
      · cases r₂ with
        | error e => exact hr₂
        | ok fl₂ =>
          cases fl₂ with
          | next => exact hr₂.elim
          | brk => exact hr₂.elim
          | cont => exact hr₂.elim
          | ret r =>
            obtain ⟨rfl, h', tk, rfl, X', hk'⟩ := hr₂
            repeat (any_goals (first | assumption | wp_step))
            exact h _ _ X' hk'
theorem call_setA {l : Addr} {its : Array Value} {ns : List Int} {Q : Value → Shared → Prop} (hh : A.handled = none) (hl : s.heap.IsList l its ∨ s.heap.IsTuple l its) (hi : PyProof.Rows.IntsAre its.toList ns) (hb : its.size + 1 < scanBound)
    (h : ∀ (h' : Heap) (tk : Nat), SetX prog w h' s.heap.objs.size (metN (fun i => ns.getD i 0) its.size) → (∀ b o, s.heap.get? b = some o → h'.get? b = some o) → Q (.ref s.heap.objs.size) { s with heap := h', toks := tk }) :
    wpAny (model prog w) A (call (.type "set") [.ref l]) Q E s := by
  rcases hl with hl | hl
  · exact call_setX hh hl hi hb h
  · exact call_setXT hh hl hi hb h
end
end PySem
namespace L2
open PySem PySem.Spec PyProof.Rows
/-- sorted(set(e)), e a list or a tuple of whole numbers -/
def tSortSetA (K : PySem.W.Frag) (te : TE) : TE := fun σ H Q => te σ H fun x H1 => ∃ (p : Addr) (ns : List Int), x = .ref p ∧ (SqL K H1 p (ns.map V.int) ∨ SqT K H1 p (ns.map V.int)) ∧ ns.length < 64 ∧
  ∀ (l : Addr) (ms : List Int), H1 l = none → ms.Pairwise (· < ·) → (∀ v, v ∈ ms ↔ v ∈ ns) → Q (.ref l) (upd H1 l (.lst (ms.map V.int)))
theorem pe_sortSetA {X : Cx} {e : Expr} {te : TE} {p p1 p2 p3 : Pos} (hgs : Gl X "sorted") (hms : X.mg "sorted" = none) (hg : Gl X "set") (hm : X.mg "set" = none) (hcalm : X.calm = true) (hx : PE X e te)
    (hs : starEach [.Call (.Name "set" p2) [e] [] p3] X.env = (false, eval (.Call (.Name "set" p2) [e] [] p3) X.env) :: starEach [] X.env := by rfl)
    (hs2 : starEach [e] X.env = (false, eval e X.env) :: starEach [] X.env := by rfl) :
    PE X (.Call (.Name "sorted" p) [.Call (.Name "set" p2) [e] [] p3] [] p1) (tSortSetA X.K te) := by
  intro pins s σ H Q I h
  refine wpAny_Call_Name_kw (ld_blt I hgs hms boot_sorted ?_ (by decide) (by decide))
  refine PyProof.Rows.callWith_builtin1 ?_ hs rfl
  refine Calls.spliced_cons ?_
  refine wpAny_Call_Name_kw (ld_blt I hg hm PyProof.Rows.boot_set ?_ (by decide) (by decide))
  refine PyProof.Rows.callWith_type1 (thn (pa_cons hx pa_nil hs2 p3 pins s σ H (fun vs H2 => match vs with
    | [y] => ∃ (p : Addr) (ns : List Int), y = .ref p ∧ (SqL X.K H2 p (ns.map V.int) ∨ SqT X.K H2 p (ns.map V.int)) ∧ ns.length < 64 ∧ ∀ (l : Addr) (ms : List Int), H2 l = none → ms.Pairwise (· < ·) → (∀ v, v ∈ ms ↔ v ∈ ns) → Q (.ref l) (upd H2 l (.lst (ms.map V.int)))
    | _ => False) I h) fun us s2 ⟨vs, H2, I2, r2, q2⟩ => ?_) hs2 rfl
  match vs, r2, q2 with
  | [y], r2, q2 =>
  obtain ⟨l, ns, ey, hl, h64, q⟩ := q2
  cases r2 with
  | cons ra rn =>
    cases rn
    subst ey
    cases ra
    have hobt : ∃ its : List Value, Vals (ns.map V.int) its ∧ (s2.heap.IsList l its.toArray ∨ s2.heap.IsTuple l its.toArray) := by
      rcases hl with hl | hl
      · obtain ⟨its, r', pl, _⟩ := I2.list hl
        exact ⟨its, r', .inl pl.isList⟩
      · obtain ⟨its, r', pl, _⟩ := I2.tuple hl
        exact ⟨its, r', .inr pl⟩
    obtain ⟨its, r', pl⟩ := hobt
    have hi := ints_are r'
    have hlen : its.length = ns.length := by rw [← r'.length, List.length_map]
    have hh := I2.ok.hd hcalm
    have hsb : its.toArray.size + 1 < scanBound := by
      rw [List.size_toArray, hlen]
      show ns.length + 1 < 4096
      omega
    refine call_setA hh pl (by simpa using hi) hsb fun h1 tk X1 k1 => ?_
    refine Calls.spliced_nil ?_
    have I3 : Inv X pins σ H2 { s2 with heap := h1, toks := tk } := I2.kept (t' := tk) fun b u e => k1 b u e
    have hsz : its.toArray.size = ns.length := by rw [List.size_toArray, hlen]
    rw [hsz] at X1
    have hml := metN_len (fun i => ns.getD i 0) ns.length
    refine sorted_set (s := { s2 with heap := h1, toks := tk }) hh X1 (by omega) fun h2 d tk2 lo out ms e2 a1 a2 a3 k2 hlo ho => ?_
    have hnd : ms.Nodup := by
      obtain ⟨_, _, _, _, _, _, _, XX⟩ := X1
      exact a2.nodup_iff.mpr XX.nd
    have hmem : ∀ v, v ∈ ms ↔ v ∈ ns := fun v => by
      rw [a2.mem_iff, metN_mem]
      constructor
      · rintro ⟨j, hj, e⟩
        rw [List.getD, List.getElem?_eq_getElem hj] at e
        exact e ▸ List.getElem_mem hj
      · intro hv
        obtain ⟨j, hj, e⟩ := List.mem_iff_getElem.mp hv
        exact ⟨j, hj, by rw [List.getD, List.getElem?_eq_getElem hj]; exact e⟩
    have hml2 : ms.length ≤ ns.length := by rw [a2.length_eq]; exact hml
    have I4 := I3.laid (a := lo) (o := .lst (ms.map V.int)) (h' := h2) (t' := tk2) (fun b o e => k2 b o e) hlo ⟨by rw [List.length_map]; have := sizeLine_eq; omega, out.toList, e2, are_ints a1, by simpa using ho⟩
    exact ⟨.ref lo, _, I4.draws d, rfl, q lo ms (I3.hok.fresh hlo) (lt_of_le_nd a3 hnd) hmem⟩
end L2

namespace Hs
/-! ### lots of rooms, each a whole number -/
theorem low_bit : ∀ (n : Nat), 0 < n → ∃ k, n.testBit k = true ∧ n - (n &&& (n - 1)) = 2 ^ k ∧ ∀ j, (n &&& (n - 1)).testBit j = (n.testBit j && !decide (j = k)) := by
  intro n
  induction n using Nat.strongRecOn with
  | _ n ih =>
  intro h
  by_cases ho : n % 2 = 1
  · have e : n &&& (n - 1) = n - 1 := by
      refine Nat.eq_of_testBit_eq fun j => ?_
      rw [Nat.testBit_and]
      cases j with
      | zero => rw [Nat.testBit_zero, Nat.testBit_zero]; have : (n - 1) % 2 = 0 := by omega
                simp [this]
      | succ j => rw [Nat.testBit_succ, Nat.testBit_succ, show (n - 1) / 2 = n / 2 by omega, Bool.and_self]
    refine ⟨0, by rw [Nat.testBit_zero]; exact decide_eq_true ho, by rw [e]; show n - (n - 1) = 1; omega, fun j => ?_⟩
    rw [e]
    cases j with
    | zero => rw [Nat.testBit_zero]; have : (n - 1) % 2 = 0 := by omega
              simp [this]
    | succ j => rw [Nat.testBit_succ, Nat.testBit_succ, show (n - 1) / 2 = n / 2 by omega]; simp
  · obtain ⟨m, rfl⟩ : ∃ m, n = 2 * m := ⟨n / 2, by omega⟩
    obtain ⟨k, h1, h2, h3⟩ := ih m (by omega) (by omega)
    have e : 2 * m &&& (2 * m - 1) = 2 * (m &&& (m - 1)) := by
      refine Nat.eq_of_testBit_eq fun j => ?_
      rw [Nat.testBit_and]
      cases j with
      | zero => rw [Nat.testBit_zero, Nat.testBit_zero, Nat.testBit_zero]; simp
      | succ j => rw [Nat.testBit_succ, Nat.testBit_succ, Nat.testBit_succ, show (2 * m) / 2 = m by omega, show (2 * m - 1) / 2 = m - 1 by omega, show (2 * (m &&& (m - 1))) / 2 = m &&& (m - 1) by omega, Nat.testBit_and]
    refine ⟨k + 1, by rw [Nat.testBit_succ, show (2 * m) / 2 = m by omega]; exact h1, by rw [e, Nat.pow_succ]; omega, fun j => ?_⟩
    rw [e]
    cases j with
    | zero => rw [Nat.testBit_zero, Nat.testBit_zero]; simp
    | succ j =>
      rw [Nat.testBit_succ, Nat.testBit_succ, show (2 * m) / 2 = m by omega, show (2 * (m &&& (m - 1))) / 2 = m &&& (m - 1) by omega, h3 j]
      simp
theorem bit_lt {c n j : Nat} (h : c < 2 ^ n) (hb : c.testBit j = true) : j < n := by
  refine Decidable.byContradiction fun z => ?_
  have := Nat.testBit_lt_two_pow (Nat.lt_of_lt_of_le h (Nat.pow_le_pow_right (by decide) (Nat.le_of_not_lt z)))
  rw [this] at hb
  cases hb
theorem lot_lt {c n : Nat} (h : ∀ j, c.testBit j = true → j < n) : c < 2 ^ n := by
  refine Nat.lt_pow_two_of_testBit c fun i hi => ?_
  cases e : c.testBit i with
  | false => rfl
  | true => have := h i e; omega
theorem pow_bit (k j : Nat) : (2 ^ k).testBit j = decide (k = j) := Nat.testBit_two_pow ..
/-- the lots of the list at the places chosen, joined -/
def jnF (lots : List Nat) (c : Nat) : Nat → Nat
  | 0 => 0
  | n + 1 => if c.testBit n then jnF lots c n ||| lots.getD n 0 else jnF lots c n
def jn (lots : List Nat) (c : Nat) : Nat := jnF lots c lots.length
theorem jnF_bit (lots : List Nat) (c r : Nat) : ∀ n, (jnF lots c n).testBit r = true ↔ ∃ j, j < n ∧ c.testBit j = true ∧ (lots.getD j 0).testBit r = true
  | 0 => by
    refine ⟨fun h => ?_, fun ⟨j, h, _⟩ => absurd h (Nat.not_lt_zero _)⟩
    rw [show jnF lots c 0 = 0 from rfl, Nat.zero_testBit] at h
    cases h
  | n + 1 => by
    show (if c.testBit n then jnF lots c n ||| lots.getD n 0 else jnF lots c n).testBit r = true ↔ _
    by_cases h : c.testBit n = true
    · rw [if_pos h, Nat.testBit_or, Bool.or_eq_true, jnF_bit lots c r n]
      constructor
      · rintro (⟨j, h1, h2⟩ | h1)
        · exact ⟨j, by omega, h2⟩
        · exact ⟨n, by omega, h, h1⟩
      · rintro ⟨j, h1, h2, h3⟩
        by_cases e : j = n
        · subst e; exact .inr h3
        · exact .inl ⟨j, by omega, h2, h3⟩
    · rw [if_neg h, jnF_bit lots c r n]
      constructor
      · rintro ⟨j, h1, h2⟩
        exact ⟨j, by omega, h2⟩
      · rintro ⟨j, h1, h2, h3⟩
        have : j ≠ n := fun e => h (e ▸ h2)
        exact ⟨j, by omega, h2, h3⟩
theorem jn_bit {lots : List Nat} {c r : Nat} : (jn lots c).testBit r = true ↔ ∃ j, j < lots.length ∧ c.testBit j = true ∧ (lots.getD j 0).testBit r = true := jnF_bit lots c r _
theorem jn_zero (lots : List Nat) : jn lots 0 = 0 := by
  refine Nat.eq_of_testBit_eq fun r => bool_ext ?_
  rw [jn_bit]
  constructor
  · rintro ⟨j, _, h, _⟩
    rw [Nat.zero_testBit] at h
    cases h
  · intro h
    rw [Nat.zero_testBit] at h
    cases h
theorem jn_step {lots : List Nat} {c k x w : Nat} (hx : lots[k]? = some x) (hk : c.testBit k = true) (h : ∀ j, (c &&& (c - 1)).testBit j = (c.testBit j && !decide (j = k))) : (w ||| x) ||| jn lots (c &&& (c - 1)) = w ||| jn lots c := by
  have hl := (List.getElem?_eq_some_iff.mp hx).1
  have hd : lots.getD k 0 = x := by rw [List.getD, hx]; rfl
  refine Nat.eq_of_testBit_eq fun r => bool_ext ?_
  rw [Nat.testBit_or, Nat.testBit_or, Nat.testBit_or, Bool.or_eq_true, Bool.or_eq_true, Bool.or_eq_true, jn_bit, jn_bit]
  constructor
  · rintro ((z | z) | ⟨j, h1, h2, h3⟩)
    · exact .inl z
    · exact .inr ⟨k, hl, hk, by rw [hd]; exact z⟩
    · rw [h, Bool.and_eq_true] at h2
      exact .inr ⟨j, h1, h2.1, h3⟩
  · rintro (z | ⟨j, h1, h2, h3⟩)
    · exact .inl (.inl z)
    · by_cases e : j = k
      · subst e; rw [hd] at h3; exact .inl (.inr h3)
      · refine .inr ⟨j, h1, ?_, h3⟩
        rw [h, h2]
        simp [e]
theorem jn_lt {lots : List Nat} {n : Nat} (h : ∀ x ∈ lots, x < 2 ^ n) (c : Nat) : jn lots c < 2 ^ n := by
  refine lot_lt fun r hr => ?_
  obtain ⟨j, h1, _, h3⟩ := jn_bit.mp hr
  have e : lots[j]? = some lots[j] := by simp [h1]
  rw [List.getD, e] at h3
  exact bit_lt (h _ (List.mem_of_getElem? e)) h3
/-- the lot of the rooms listed -/
def lotOf (L : List Nat) : Nat := L.foldl (fun w r => w ||| 2 ^ r) 0
theorem lotOf_snoc (L : List Nat) (r : Nat) : lotOf (L ++ [r]) = lotOf L ||| 2 ^ r := by
  unfold lotOf
  rw [List.foldl_append]
  rfl
theorem lotOf_bit (r : Nat) (L : List Nat) : (lotOf L).testBit r = true ↔ r ∈ L := by
  have key : ∀ (L : List Nat) (w : Nat), (L.foldl (fun w r => w ||| 2 ^ r) w).testBit r = true ↔ w.testBit r = true ∨ r ∈ L := by
    intro L
    induction L with
    | nil => intro w; simp
    | cons x L ih =>
      intro w
      rw [List.foldl_cons, ih, Nat.testBit_or, pow_bit, Bool.or_eq_true, decide_eq_true_iff, List.mem_cons]
      constructor
      · rintro ((z | z) | z)
        · exact .inl z
        · exact .inr (.inl z.symm)
        · exact .inr (.inr z)
      · rintro (z | z | z)
        · exact .inl (.inl z)
        · exact .inl (.inr z.symm)
        · exact .inr z
  unfold lotOf
  rw [key, Nat.zero_testBit]
  simp
/-! ### houses with forks, told by lots -/
structure Fn where
  n : Nat
  lf : List Nat
  rt : List Nat
  first : Nat
  lit : Nat
def Fn.sd (F : Fn) (b : Bool) : List Nat := if b then F.rt else F.lf
structure WfN (F : Fn) : Prop where
  few : F.n ≤ 20
  len : ∀ b, (F.sd b).length = F.n
  ex : ∀ b, ∀ x ∈ F.sd b, x < 2 ^ F.n
  st : F.first < 2 ^ F.n
  li : F.lit < 2 ^ F.n
def grLot (F : Fn) (wf : WfN F) : Gr Nat where
  nx := fun c b => jn (F.sd b) c
  s0 := F.first
  U := fun c => c < 2 ^ F.n
  num := fun c => c
  B := 2 ^ F.n
  h0 := wf.st
  cl := fun c b _ => jn_lt (wf.ex b) c
  lt := fun c h => h
  inj := fun a b _ _ e => e
def lotLit (F : Fn) (c : Nat) : Bool := decide (c &&& F.lit ≠ 0)
theorem and_ne {a b : Nat} : (a &&& b) ≠ 0 ↔ ∃ j, a.testBit j = true ∧ b.testBit j = true := by
  constructor
  · intro h
    obtain ⟨k, hk, _⟩ := low_bit (a &&& b) (by omega)
    rw [Nat.testBit_and, Bool.and_eq_true] at hk
    exact ⟨k, hk⟩
  · rintro ⟨j, h1, h2⟩ e
    have : (a &&& b).testBit j = true := by rw [Nat.testBit_and, h1, h2]; rfl
    rw [e, Nat.zero_testBit] at this
    cases this
theorem lotLit_iff {F : Fn} {c : Nat} : lotLit F c = true ↔ ∃ j, c.testBit j = true ∧ F.lit.testBit j = true := by
  unfold lotLit
  rw [decide_eq_true_iff, and_ne]
/-! ### told backwards -/
/-! ### lots for rows that fork -/
end Hs

namespace Hs
/-! ### again and again, by lots -/
structure AgOf (hs : List Rm) (F : Fn) : Prop where
  wf : WfN F
  ex : ∀ b i j, i < hs.length → (((F.sd b).getD i 0).testBit j = true ↔ j = stp hs i b ∨ (j = 0 ∧ litAt hs (stp hs i b) = true))
  li : ∀ i, i < hs.length → (F.lit.testBit i = true ↔ litAt hs i = true)
  cs : (litAt hs 0 = true ∧ F.n = hs.length ∧ F.first = 1) ∨ (litAt hs 0 = false ∧ F.n = hs.length + 1 ∧ F.first = 2 ^ hs.length ∧ (∀ b j, ((F.sd b).getD hs.length 0).testBit j = true ↔ j = stp hs 0 b ∨ (j = 0 ∧ litAt hs (stp hs 0 b) = true)) ∧ F.lit.testBit hs.length = true)
structure AgRel (hs : List Rm) (F : Fn) (c : Nat) (p : Bool × List Bool) : Prop where
  ul : p.2.length = hs.length
  one : p.1 = true → ∀ j, p.2.getD j false = true ↔ j = 0
  rel : ((∀ j, c.testBit j = true ↔ p.2.getD j false = true) ∧ (p.1 = true → litAt hs 0 = true)) ∨ (p.1 = true ∧ c = 2 ^ hs.length ∧ litAt hs 0 = false)
theorem AgOf.few {hs : List Rm} {F : Fn} (h : AgOf hs F) : hs.length ≤ F.n := by
  rcases h.cs with ⟨_, e, _⟩ | ⟨_, e, _⟩ <;> omega
theorem AgOf.most {hs : List Rm} {F : Fn} (h : AgOf hs F) : F.n ≤ hs.length + 1 := by
  rcases h.cs with ⟨_, e, _⟩ | ⟨_, e, _⟩ <;> omega
theorem AgRel.start {hs : List Rm} {F : Fn} (h : AgOf hs F) (w : Wf hs) : AgRel hs F F.first (grMany hs).s0 := by
  have n0 := w.ne
  have h1 : ∀ j, ((grMany hs).s0).2.getD j false = true ↔ j = 0 := fun j => by
    show (rowOf hs.length _).getD j false = true ↔ _
    constructor
    · intro z
      have hl := rowOf_out z
      rw [rowOf_get hl] at z
      exact of_decide_eq_true z
    · rintro rfl
      rw [rowOf_get n0]
      rfl
  refine ⟨rowOf_len _ _, fun _ => h1, ?_⟩
  rcases h.cs with ⟨e, _, f⟩ | ⟨e, _, f, _⟩
  · refine .inl ⟨fun j => ?_, fun _ => e⟩
    rw [h1, f, show (1 : Nat) = 2 ^ 0 from rfl, pow_bit, decide_eq_true_iff]
    exact ⟨fun z => z.symm, fun z => z.symm⟩
  · exact .inr ⟨rfl, f, e⟩
theorem mn_get {hs : List Rm} (w : Wf hs) {p : Bool × List Bool} (hp : p.2.length = hs.length) (b : Bool) (j : Nat) : (mnNx hs p b).2.getD j false = true ↔ ∃ i, p.2.getD i false = true ∧ (j = stp hs i b ∨ (j = 0 ∧ litAt hs (stp hs i b) = true)) := by
  have n0 := w.ne
  show (rowOf hs.length _).getD j false = true ↔ _
  constructor
  · intro z
    have hl := rowOf_out z
    rw [rowOf_get hl, Bool.or_eq_true, Bool.and_eq_true, anyRow_iff, anyRow_iff, decide_eq_true_iff] at z
    rcases z with ⟨i, h1, h2⟩ | ⟨h0, i, h1, h2⟩
    · exact ⟨i, h1, .inl (of_decide_eq_true h2).symm⟩
    · exact ⟨i, h1, .inr ⟨h0, h2⟩⟩
  · rintro ⟨i, h1, h2⟩
    have hi := row_lt h1
    rw [hp] at hi
    have hl : j < hs.length := by
      rcases h2 with h2 | h2
      · rw [h2]; exact w.stp hi b
      · omega
    rw [rowOf_get hl, Bool.or_eq_true, Bool.and_eq_true, anyRow_iff, anyRow_iff, decide_eq_true_iff]
    rcases h2 with h2 | h2
    · exact .inl ⟨i, h1, decide_eq_true h2.symm⟩
    · exact .inr ⟨h2.1, i, h1, h2.2⟩
theorem AgRel.step {hs : List Rm} {F : Fn} (h : AgOf hs F) (w : Wf hs) {c : Nat} {p : Bool × List Bool} (r : AgRel hs F c p) (b : Bool) : AgRel hs F (jn (F.sd b) c) (mnNx hs p b) := by
  refine ⟨rowOf_len _ _, fun z => (by cases z), .inl ⟨fun j => ?_, fun z => (by cases z)⟩⟩
  rw [mn_get w r.ul, jn_bit]
  have hF := h.few
  rcases r.rel with ⟨hc, _⟩ | ⟨h1, h2, h3⟩
  · constructor
    · rintro ⟨i, g1, g2, g3⟩
      have hi := (hc i).mp g2
      have hl := row_lt hi
      rw [r.ul] at hl
      exact ⟨i, hi, (h.ex b i j hl).mp g3⟩
    · rintro ⟨i, g1, g2⟩
      have hl := row_lt g1
      rw [r.ul] at hl
      exact ⟨i, by rw [h.wf.len b]; omega, (hc i).mpr g1, (h.ex b i j hl).mpr g2⟩
  · have h1' := r.one h1
    rcases h.cs with ⟨e, _⟩ | ⟨_, e1, e2, e3, _⟩
    · rw [e] at h3; cases h3
    constructor
    · rintro ⟨i, g1, g2, g3⟩
      rw [h2, pow_bit, decide_eq_true_iff] at g2
      rw [← g2] at g3
      exact ⟨0, (h1' 0).mpr rfl, (e3 b j).mp g3⟩
    · rintro ⟨i, g1, g2⟩
      rw [(h1' i).mp g1] at g2
      exact ⟨hs.length, by rw [h.wf.len b, e1]; omega, by rw [h2, pow_bit]; exact decide_eq_true rfl, (e3 b j).mpr g2⟩
theorem AgRel.lit {hs : List Rm} {F : Fn} (h : AgOf hs F) {c : Nat} {p : Bool × List Bool} (r : AgRel hs F c p) : lotLit F c = mnLit hs p := by
  refine bool_ext ?_
  unfold mnLit
  rw [lotLit_iff, Bool.or_eq_true, anyRow_iff]
  rcases r.rel with ⟨hc, h0⟩ | ⟨h1, h2, h3⟩
  · constructor
    · rintro ⟨j, g1, g2⟩
      have hj := (hc j).mp g1
      have hl := row_lt hj
      rw [r.ul] at hl
      exact .inr ⟨j, hj, (h.li j hl).mp g2⟩
    · intro z
      have : ∃ i, p.2.getD i false = true ∧ litAt hs i = true := by
        rcases z with z | z
        · exact ⟨0, (r.one z 0).mpr rfl, h0 z⟩
        · exact z
      obtain ⟨i, g1, g2⟩ := this
      have hl := row_lt g1
      rw [r.ul] at hl
      exact ⟨i, (hc i).mpr g1, (h.li i hl).mpr g2⟩
  · refine ⟨fun _ => .inl h1, fun _ => ?_⟩
    rcases h.cs with ⟨e, _⟩ | ⟨_, _, _, _, e⟩
    · rw [e] at h3; cases h3
    · exact ⟨hs.length, by rw [h2, pow_bit]; exact decide_eq_true rfl, e⟩
theorem AgRel.led {hs : List Rm} {F : Fn} (h : AgOf hs F) (w : Wf hs) : ∀ (wk : List Bool) {c : Nat} {p : Bool × List Bool}, AgRel hs F c p → AgRel hs F ((grLot F h.wf).led c wk) ((grMany hs).led p wk)
  | [], _, _, r => r
  | b :: wk, _, _, r => AgRel.led h w wk (r.step h w b)
theorem AgOf.walk {hs : List Rm} {F : Fn} (h : AgOf hs F) (w : Wf hs) (wk : List Bool) : lotLit F ((grLot F h.wf).led (grLot F h.wf).s0 wk) = mnD hs wk := ((AgRel.start h w).led h w wk).lit h
end Hs

namespace Hs
/-! ### the forks of a house; one behind the other; again; turned round -/
def fnHouse (hs : List Rm) : Fn := ⟨hs.length, hs.map fun r => 2 ^ r.l, hs.map fun r => 2 ^ r.r, 1, lotOf ((List.range hs.length).filter (litAt hs))⟩
theorem house_len (hs : List Rm) (b : Bool) : ((fnHouse hs).sd b).length = hs.length := by cases b <;> exact List.length_map ..
theorem house_get {hs : List Rm} {i : Nat} (h : i < hs.length) (b : Bool) : ((fnHouse hs).sd b)[i]? = some (2 ^ stp hs i b) := by
  have e : hs[i]? = some hs[i] := by simp [h]
  have es : stp hs i b = if b then hs[i].r else hs[i].l := by unfold stp; rw [e]
  cases b
  · show (hs.map fun r => 2 ^ r.l)[i]? = _
    rw [List.getElem?_map, e, es]
    rfl
  · show (hs.map fun r => 2 ^ r.r)[i]? = _
    rw [List.getElem?_map, e, es]
    rfl
theorem house_lit {hs : List Rm} (r : Nat) : (fnHouse hs).lit.testBit r = true ↔ r < hs.length ∧ litAt hs r = true := by
  show (lotOf _).testBit r = true ↔ _
  rw [lotOf_bit, List.mem_filter, List.mem_range]
theorem house_wf {hs : List Rm} (w : Wf hs) (few : hs.length ≤ 20) : WfN (fnHouse hs) := by
  refine ⟨few, house_len hs, fun b x hx => ?_, ?_, lot_lt fun j hj => ((house_lit j).mp hj).1⟩
  · obtain ⟨i, hi⟩ := List.getElem?_of_mem hx
    have hl : i < hs.length := by rw [← house_len hs b]; exact (List.getElem?_eq_some_iff.mp hi).1
    rw [house_get hl b] at hi
    cases hi
    exact Nat.pow_lt_pow_right (by decide) (w.stp hl b)
  · show 2 ^ 0 < 2 ^ hs.length
    exact Nat.pow_lt_pow_right (by decide) w.ne
theorem first_lit {hs : List Rm} (w : Wf hs) : (fnHouse hs).first &&& (fnHouse hs).lit ≠ 0 ↔ litAt hs 0 = true := by
  rw [and_ne]
  constructor
  · rintro ⟨j, h1, h2⟩
    rw [show (fnHouse hs).first = 2 ^ 0 from rfl, pow_bit, decide_eq_true_iff] at h1
    rw [← h1] at h2
    exact ((house_lit 0).mp h2).2
  · intro h
    exact ⟨0, by show (2 ^ 0).testBit 0 = true; rw [pow_bit]; rfl, (house_lit 0).mpr ⟨w.ne, h⟩⟩
def ent (lots : List Nat) (lit begun : Nat) : List Nat := lots.map fun x => if x &&& lit ≠ 0 then x ||| begun else x
theorem ent_len (lots : List Nat) (lit begun : Nat) : (ent lots lit begun).length = lots.length := List.length_map ..
/-- where a house's lots go on to another's beginning -/
theorem ent_bit {hs : List Rm} (w : Wf hs) {i : Nat} (h : i < hs.length) (b : Bool) (begun j : Nat) : (((ent ((fnHouse hs).sd b) (fnHouse hs).lit begun).getD i 0).testBit j = true ↔ j = stp hs i b ∨ (litAt hs (stp hs i b) = true ∧ begun.testBit j = true)) := by
  have hl := w.stp h b
  have e : (ent ((fnHouse hs).sd b) (fnHouse hs).lit begun).getD i 0 = if 2 ^ stp hs i b &&& (fnHouse hs).lit ≠ 0 then 2 ^ stp hs i b ||| begun else 2 ^ stp hs i b := by
    unfold ent
    rw [List.getD, List.getElem?_map, house_get h b]
    rfl
  rw [e]
  have hne : 2 ^ stp hs i b &&& (fnHouse hs).lit ≠ 0 ↔ litAt hs (stp hs i b) = true := by
    rw [and_ne]
    constructor
    · rintro ⟨k, h1, h2⟩
      rw [pow_bit, decide_eq_true_iff] at h1
      rw [← h1] at h2
      exact ((house_lit _).mp h2).2
    · intro z
      exact ⟨_, by rw [pow_bit]; exact decide_eq_true rfl, (house_lit _).mpr ⟨hl, z⟩⟩
  by_cases hz : litAt hs (stp hs i b) = true
  · rw [if_pos (hne.mpr hz), Nat.testBit_or, pow_bit, Bool.or_eq_true, decide_eq_true_iff]
    exact ⟨fun z => z.elim (fun y => .inl y.symm) fun y => .inr ⟨hz, y⟩, fun z => z.elim (fun y => .inl y.symm) fun y => .inr y.2⟩
  · rw [if_neg (fun y => hz (hne.mp y)), pow_bit, decide_eq_true_iff]
    exact ⟨fun z => .inl z.symm, fun z => z.elim (fun y => y.symm) fun y => absurd y.1 hz⟩
theorem getD_app1 {l m : List Nat} {i : Nat} (h : i < l.length) : (l ++ m).getD i 0 = l.getD i 0 := by
  rw [List.getD, List.getD, List.getElem?_append_left h]
theorem getD_app2 {l m : List Nat} {i : Nat} : (l ++ m).getD (l.length + i) 0 = m.getD i 0 := by
  rw [List.getD, List.getD, List.getElem?_append_right (by omega), Nat.add_sub_cancel_left]
theorem getD_mem {l : List Nat} {n : Nat} (h : ∀ i, i < l.length → ∀ j, (l.getD i 0).testBit j = true → j < n) : ∀ x ∈ l, x < 2 ^ n := fun x hx => by
  obtain ⟨i, hi⟩ := List.getElem?_of_mem hx
  have hl := (List.getElem?_eq_some_iff.mp hi).1
  refine lot_lt fun j hj => h i hl j ?_
  rw [List.getD, hi]
  exact hj
def fnAg (A : Fn) : Fn := if A.first &&& A.lit ≠ 0 then ⟨A.n, ent A.lf A.lit A.first, ent A.rt A.lit A.first, A.first, A.lit⟩
  else ⟨A.n + 1, ent A.lf A.lit A.first ++ [jn (ent A.lf A.lit A.first) A.first], ent A.rt A.lit A.first ++ [jn (ent A.rt A.lit A.first) A.first], 2 ^ A.n, A.lit ||| 2 ^ A.n⟩
theorem ag_of {hs : List Rm} (w : Wf hs) (few : hs.length ≤ 19) : AgOf hs (fnAg (fnHouse hs)) := by
  have n0 := w.ne
  have p0 : (fnHouse hs).first = 2 ^ 0 := rfl
  have eb : ∀ b i j, i < hs.length → (((ent ((fnHouse hs).sd b) (fnHouse hs).lit (fnHouse hs).first).getD i 0).testBit j = true ↔ j = stp hs i b ∨ (j = 0 ∧ litAt hs (stp hs i b) = true)) := fun b i j hi => by
    rw [ent_bit w hi b, p0, pow_bit, decide_eq_true_iff]
    exact or_congr Iff.rfl ⟨fun z => ⟨z.2.symm, z.1⟩, fun z => ⟨z.2, z.1.symm⟩⟩
  have el : ∀ b, (ent ((fnHouse hs).sd b) (fnHouse hs).lit (fnHouse hs).first).length = hs.length := fun b => by rw [ent_len, house_len]
  have lt : ∀ b i j, i < hs.length → (j = stp hs i b ∨ (j = 0 ∧ litAt hs (stp hs i b) = true)) → j < hs.length := fun b i j hi z => by
    have := w.stp hi b
    rcases z with z | z <;> omega
  by_cases hz : litAt hs 0 = true
  · have e : fnAg (fnHouse hs) = ⟨(fnHouse hs).n, ent (fnHouse hs).lf (fnHouse hs).lit (fnHouse hs).first, ent (fnHouse hs).rt (fnHouse hs).lit (fnHouse hs).first, (fnHouse hs).first, (fnHouse hs).lit⟩ := if_pos ((first_lit w).mpr hz)
    have sd : ∀ b, (fnAg (fnHouse hs)).sd b = ent ((fnHouse hs).sd b) (fnHouse hs).lit (fnHouse hs).first := fun b => by rw [e]; cases b <;> rfl
    refine ⟨⟨by rw [e]; show hs.length ≤ 20; omega, fun b => by rw [sd, el, e]; rfl, fun b => ?_, by rw [e]; exact (house_wf w (by omega)).st, by rw [e]; exact (house_wf w (by omega)).li⟩, fun b i j hi => by rw [sd]; exact eb b i j hi, fun i hi => ?_, .inl ⟨hz, by rw [e]; rfl, by rw [e]; rfl⟩⟩
    · rw [sd, e]
      refine getD_mem (n := hs.length) fun i hi j hj => ?_
      rw [el] at hi
      exact lt b i j hi ((eb b i j hi).mp hj)
    · rw [e, house_lit]
      exact ⟨fun z => z.2, fun z => ⟨hi, z⟩⟩
  · have e : fnAg (fnHouse hs) = ⟨(fnHouse hs).n + 1, ent (fnHouse hs).lf (fnHouse hs).lit (fnHouse hs).first ++ [jn (ent (fnHouse hs).lf (fnHouse hs).lit (fnHouse hs).first) (fnHouse hs).first], ent (fnHouse hs).rt (fnHouse hs).lit (fnHouse hs).first ++ [jn (ent (fnHouse hs).rt (fnHouse hs).lit (fnHouse hs).first) (fnHouse hs).first], 2 ^ (fnHouse hs).n, (fnHouse hs).lit ||| 2 ^ (fnHouse hs).n⟩ := if_neg fun y => hz ((first_lit w).mp y)
    have sd : ∀ b, (fnAg (fnHouse hs)).sd b = ent ((fnHouse hs).sd b) (fnHouse hs).lit (fnHouse hs).first ++ [jn (ent ((fnHouse hs).sd b) (fnHouse hs).lit (fnHouse hs).first) (fnHouse hs).first] := fun b => by rw [e]; cases b <;> rfl
    have nn : (fnHouse hs).n = hs.length := rfl
    have eb' : ∀ b i j, i < hs.length → ((((fnAg (fnHouse hs)).sd b).getD i 0).testBit j = true ↔ j = stp hs i b ∨ (j = 0 ∧ litAt hs (stp hs i b) = true)) := fun b i j hi => by
      rw [sd, getD_app1 (by rw [el]; exact hi)]
      exact eb b i j hi
    have en : ∀ b j, (((fnAg (fnHouse hs)).sd b).getD hs.length 0).testBit j = true ↔ j = stp hs 0 b ∨ (j = 0 ∧ litAt hs (stp hs 0 b) = true) := fun b j => by
      have e2 := getD_app2 (l := ent ((fnHouse hs).sd b) (fnHouse hs).lit (fnHouse hs).first) (m := [jn (ent ((fnHouse hs).sd b) (fnHouse hs).lit (fnHouse hs).first) (fnHouse hs).first]) (i := 0)
      rw [el] at e2
      rw [sd, show hs.length = hs.length + 0 from rfl, e2]
      show (jn _ _).testBit j = true ↔ _
      rw [jn_bit]
      constructor
      · rintro ⟨k, h1, h2, h3⟩
        rw [p0, pow_bit, decide_eq_true_iff] at h2
        subst h2
        exact (eb b 0 j n0).mp h3
      · intro z
        exact ⟨0, by rw [el]; exact n0, by rw [p0, pow_bit]; rfl, (eb b 0 j n0).mpr z⟩
    have li : ∀ i, (fnAg (fnHouse hs)).lit.testBit i = true ↔ (i < hs.length ∧ litAt hs i = true) ∨ i = hs.length := fun i => by
      rw [e]
      show ((fnHouse hs).lit ||| 2 ^ (fnHouse hs).n).testBit i = true ↔ _
      rw [Nat.testBit_or, Bool.or_eq_true, house_lit, pow_bit, decide_eq_true_iff, nn]
      exact or_congr Iff.rfl ⟨fun z => z.symm, fun z => z.symm⟩
    have hlen : ∀ b, ((fnAg (fnHouse hs)).sd b).length = hs.length + 1 := fun b => by rw [sd, List.length_append, el]; rfl
    have en1 : (fnAg (fnHouse hs)).n = hs.length + 1 := by rw [e]; rfl
    refine ⟨⟨by rw [en1]; omega, fun b => by rw [hlen, en1], fun b => ?_, ?_, ?_⟩, eb', fun i hi => ?_, .inr ⟨by simpa using hz, en1, by rw [e]; rfl, en, (li _).mpr (.inr rfl)⟩⟩
    · rw [en1]
      refine getD_mem fun i hi j hj => ?_
      rw [hlen] at hi
      by_cases hl : i < hs.length
      · have := lt b i j hl ((eb' b i j hl).mp hj)
        omega
      · have hi' : i = hs.length := by omega
        subst hi'
        have := lt b 0 j n0 ((en b j).mp hj)
        omega
    · rw [en1, e]
      show 2 ^ hs.length < 2 ^ (hs.length + 1)
      exact Nat.pow_lt_pow_right (by decide) (by omega)
    · rw [en1]
      refine lot_lt fun j hj => ?_
      rcases (li j).mp hj with z | z <;> omega
    · rw [li]
      constructor
      · rintro (z | z)
        · exact z.2
        · omega
      · intro z
        exact .inl ⟨hi, z⟩
/-! ### turned round -/
end Hs

set_option maxHeartbeats 4000000
namespace L2
open PySem PySem.Spec PySem.W PyProof.Rows
/-! ### bits of whole numbers -/
theorem bits_and (a b : Nat) : Builtin.bitAnd (a : Int) (b : Int) = ((a &&& b : Nat) : Int) := by
  rw [bitAnd_pp (Int.natCast_nonneg a) (Int.natCast_nonneg b), Int.toNat_natCast, Int.toNat_natCast]
theorem bits_or (a b : Nat) : Builtin.bitOr (a : Int) (b : Int) = ((a ||| b : Nat) : Int) := by
  have e : ∀ n : Nat, Builtin.bitNot (n : Int) = -(n : Int) - 1 := fun n => rfl
  have e2 : ∀ x : Int, Builtin.bitNot (Builtin.bitNot x) = x := fun x => by show -(-x - 1) - 1 = x; omega
  show Builtin.bitNot (Builtin.bitAnd (Builtin.bitNot (a : Int)) (Builtin.bitNot (b : Int))) = _
  rw [bitAnd_nn (by rw [e]; omega) (by rw [e]; omega), e2, e2, e2, Int.toNat_natCast, Int.toNat_natCast]
theorem bits_low {n : Nat} (h : 0 < n) : Builtin.bitAnd (n : Int) (-(n : Int)) = ((n - (n &&& (n - 1)) : Nat) : Int) := by
  rw [bitAnd_pn (Int.natCast_nonneg n) (by omega), Int.toNat_natCast]
  have e : (Builtin.bitNot (-(n : Int))).toNat = n - 1 := by
    show (-(-(n : Int)) - 1).toNat = n - 1
    omega
  rw [e]
  have : n &&& (n - 1) ≤ n := Nat.and_le_left
  omega
theorem bits_xor {n k : Nat} (h : n - (n &&& (n - 1)) = 2 ^ k) (hk : n.testBit k = true) : Builtin.bitXor (n : Int) ((2 ^ k : Nat) : Int) = ((n &&& (n - 1) : Nat) : Int) := by
  show Builtin.bitOr (n : Int) ((2 ^ k : Nat) : Int) - Builtin.bitAnd (n : Int) ((2 ^ k : Nat) : Int) = _
  rw [bits_or, bits_and]
  have e1 : n ||| 2 ^ k = n := by
    refine Nat.eq_of_testBit_eq fun j => ?_
    rw [Nat.testBit_or, Hs.pow_bit]
    by_cases e : k = j
    · subst e; rw [hk]; rfl
    · rw [decide_eq_false e, Bool.or_false]
  have e2 : n &&& 2 ^ k = 2 ^ k := by
    refine Nat.eq_of_testBit_eq fun j => ?_
    rw [Nat.testBit_and, Hs.pow_bit]
    by_cases e : k = j
    · subst e; rw [hk]; rfl
    · rw [decide_eq_false e, Bool.and_false]
  rw [e1, e2]
  have : n &&& (n - 1) ≤ n := Nat.and_le_left
  omega
theorem bits_len (k : Nat) : Builtin.Int.intBits ((2 ^ k : Nat) : Int) = k + 1 := by
  have h : 0 < 2 ^ k := Nat.two_pow_pos k
  unfold Builtin.Int.intBits
  rw [if_neg (by rw [beq_iff_eq]; omega), Int.natAbs_natCast, Nat.log2_two_pow]
theorem shl_one (r : Nat) : (1 : Int) * 2 ^ (r : Int).toNat = ((2 ^ r : Nat) : Int) := by
  rw [Int.toNat_natCast, Int.one_mul, Int.natCast_pow]
  rfl
section
variable {X : Cx}
theorem mt_bits : MtR X "int.bit_length" (fun x xs H Q => ∃ i : Int, x = .int i ∧ xs = [] ∧ Q (.int (Builtin.Int.intBits i : Nat)) H) := by
  intro pins s σ H x xs v us Q I rx rs h
  obtain ⟨i, rfl, rfl, q⟩ := h
  cases rs
  obtain ⟨t, rfl⟩ := rx
  exact call_int_bit_length ⟨.int _, H, I.tok _, ⟨_, rfl⟩, q⟩
end
end L2

set_option maxHeartbeats 8000000
namespace Law
open PySem L2 Hs PyProof.Rows
def top (i : Nat) : Stmt := PySem.Challenge.pw_turnhouse_k07_again_and_again.main.body.getD i (.Pass ⟨0, 0, 0, 0⟩)
/-! ### houses in the heap -/
def rmV (r : Rm) : List V := [.int r.l, .int r.r, .bl r.lit]
def Rooms (H : Hp) (ps : List Addr) (hs : List Rm) : Prop := ps.length = hs.length ∧ ∀ (i : Nat) p r, ps[i]? = some p → hs[i]? = some r → H p = some (.tup (rmV r))
structure HouseAt (H : Hp) (a : Addr) (ps : List Addr) (hs : List Rm) : Prop where
  ob : H a = some (.lst (ps.map V.ref))
  rm : Rooms H ps hs
theorem Rooms.same {H H' : Hp} {ps : List Addr} {hs : List Rm} (h : Rooms H ps hs) (s : Same H H') : Rooms H' ps hs := ⟨h.1, fun i p r e1 e2 => s _ _ (h.2 i p r e1 e2)⟩
theorem HouseAt.same {H H' : Hp} {a : Addr} {ps : List Addr} {hs : List Rm} (h : HouseAt H a ps hs) (s : Same H H') : HouseAt H' a ps hs := ⟨s _ _ h.ob, h.rm.same s⟩
theorem Rooms.snoc {H : Hp} {ps : List Addr} {hs : List Rm} {p : Addr} {r : Rm} (h : Rooms H ps hs) (hp : H p = some (.tup (rmV r))) : Rooms H (ps ++ [p]) (hs ++ [r]) := by
  refine ⟨by simp [h.1], fun i q z e1 e2 => ?_⟩
  by_cases hi : i < ps.length
  · rw [List.getElem?_append_left hi] at e1
    rw [List.getElem?_append_left (by rw [← h.1]; exact hi)] at e2
    exact h.2 i q z e1 e2
  · rw [List.getElem?_append_right (by omega)] at e1
    rw [List.getElem?_append_right (by rw [← h.1]; omega), ← h.1] at e2
    have hz : i - ps.length = 0 := by
      have := (List.getElem?_eq_some_iff.mp e1).1
      simp at this
      exact this
    rw [hz] at e1 e2
    simp at e1 e2
    subst e1 e2
    exact hp
theorem HouseAt.get {H : Hp} {a : Addr} {ps : List Addr} {hs : List Rm} (h : HouseAt H a ps hs) {i : Nat} {r : Rm} (hi : hs[i]? = some r) : ∃ p, ps[i]? = some p ∧ H p = some (.tup (rmV r)) ∧ atI (ps.map V.ref) (i : Int) = some (.ref p) := by
  have hl : i < hs.length := (List.getElem?_eq_some_iff.mp hi).1
  have hp : ps[i]? = some (ps[i]'(by rw [h.rm.1]; exact hl)) := by simp
  exact ⟨_, hp, h.rm.2 i _ r hp hi, atI_nat (by rw [List.getElem?_map, hp]; rfl)⟩
theorem same_upd {H : Hp} {p : Addr} {o : HO} (h : H p = none) : Same H (upd H p o) := fun b u e => by rw [upd_ne (ne_of_none e h)]; exact e
theorem _root_.L2.Same.upd {H H1 : Hp} {p : Addr} {o : HO} (s : Same H H1) (h : H1 p = none) : Same H (L2.upd H1 p o) := s.trans (same_upd h)
/-- a new list of ours is written -/
theorem _root_.L2.Same.put {H H1 : Hp} {p : Addr} {o : HO} (s : Same H H1) (h : H p = none) : Same H (L2.upd H1 p o) := fun b u e => by rw [upd_ne (ne_of_none e h)]; exact s b u e
theorem ifT {A B : Prop} {c : Bool} (h : c = true) (a : A) : if c = true then A else B := by rw [if_pos h]; exact a
theorem ifF {A B : Prop} {c : Bool} (h : c = false) (b : B) : if c = true then A else B := by rw [if_neg (by rw [h]; exact Bool.false_ne_true)]; exact b
/-! ### walks as texts -/
def sgn (b : Bool) : Nat := if b then 114 else 108
def txt (w : List Bool) : Str := ⟨(w.map sgn).toArray⟩
theorem txt_size (w : List Bool) : (txt w).cps.size = w.length := by simp [txt]
theorem txt_len (w : List Bool) : (txt w).length = w.length := by show (txt w).cps.size = _; exact txt_size w
theorem txt_get {w : List Bool} {i : Nat} {c : Nat} (h : (txt w).cps[i]? = some c) : ∃ b, w[i]? = some b ∧ c = sgn b := by
  have h' : (w.map sgn)[i]? = some c := by simpa [txt] using h
  rw [List.getElem?_map] at h'
  cases e : w[i]? with
  | none => rw [e] at h'; cases h'
  | some b => rw [e] at h'; exact ⟨b, rfl, (Option.some.inj h').symm⟩
theorem lr_cps : ("lr" : Str).cps = #[108, 114] := by decide +kernel
theorem sgn_txt (b : Bool) : (⟨#[sgn b]⟩ : Str) = txt [b] := rfl
theorem txt_append (w v : List Bool) : txt w ++ txt v = txt (w ++ v) := by
  refine Str.ext' ?_
  show (txt w).cps ++ (txt v).cps = _
  simp [txt]
theorem occ_sgn (b : Bool) : Builtin.Str.occurrences ("lr" : Str) ⟨#[sgn b]⟩ 0 ("lr" : Str).length 1 = [if b then 1 else 0] := by cases b <;> decide +kernel

/-! ### the promises of the small defs -/
def spLit : Sp := fun vs H Q _ => ∃ (a : Addr) (ps : List Addr) (hs : List Rm) (i : Nat) (r : Rm), vs = [.ref a, .int (i : Int)] ∧ HouseAt H a ps hs ∧ hs[i]? = some r ∧ Q (.bl r.lit) H
def spWhole : Sp := fun vs H Q _ => ∃ i : Int, vs = [.int i] ∧ Q (.bl true) H
def spAt (K : PySem.W.Frag) : Sp := fun vs H Q _ => ∃ (a : Addr) (ns : List Int) (k : Nat), vs = [.ref a, .int (k : Int)] ∧ SqL K H a (ns.map V.int) ∧ Q (.int (ns.getD k 0)) H
def spDrawn (K : PySem.W.Frag) : Sp := fun vs H Q _ => ∃ (a : Addr) (ns : List Int), vs = [.ref a] ∧ SqL K H a (ns.map V.int) ∧ ns.length ≤ 1000 ∧
  ∀ (l : Addr) (ps : List Addr) (H' : Hp), H l = none → Same H H' → HouseAt H' l ps (drawn ns) → Q (.ref l) H'
def spIsHouse : Sp := fun vs H Q _ => ∃ (a : Addr) (ps : List Addr) (hs : List Rm), vs = [.ref a] ∧ HouseAt H a ps hs ∧ Wf hs ∧ ∀ H', Same H H' → Q (.bl true) H'
def spUnhurt : Sp := fun vs H Q _ => ∃ (a b : Addr) (ps : List Addr) (hs : List Rm), vs = [.ref a, .ref b] ∧ HouseAt H a ps hs ∧ HouseAt H b ps hs ∧ Wf hs ∧ ∀ H', Same H H' → Q (.bl true) H'
def spLed : Sp := fun vs H Q _ => ∃ (a : Addr) (ps : List Addr) (hs : List Rm) (i : Nat) (w : List Bool), vs = [.ref a, .int (i : Int), .str (txt w)] ∧ HouseAt H a ps hs ∧ Wf hs ∧ i < hs.length ∧ Q (.int (led hs i w : Nat)) H
/-- names of Python's own that the text leaves alone -/
structure Blt (mg : Str → Option Value) : Prop where
  len : mg "len" = none
  max : mg "max" = none
  range : mg "range" = none
  isinstance : mg "isinstance" = none
  int : mg "int" = none
  bool : mg "bool" = none
  str : mg "str" = none
  list : mg "list" = none
  tuple : mg "tuple" = none
  zip : mg "zip" = none
/-- a def of the text: where it stands -/
structure Df (K : PySem.W.Frag) (mg : Str → Option Value) (x : Str) (i : Nat) (ps : List Str) (f : Addr) (fd : FuncData) : Prop where
  fn : Fun K x x (top i) f fd
  m : mg x = some (.ref f)
  b : Binds K fd ps []
section
variable {P : Program} {w : World} {K : PySem.W.Frag} {mg : Str → Option Value} {base : Heap} {f : Addr} {fd : FuncData}
theorem sc_is_lit : FnScope ["house", "room"] ["house", "room"] (defScope (top 5)) := ⟨rfl, rfl, rfl, by decide +kernel, rfl, by decide +kernel, by decide +kernel⟩
theorem ok_lit (F : Fun K "is_lit" "is_lit" (top 5) f fd) : FnOk P w K mg base CX0 1 f fd ["house", "room"] spLit := by
  refine F.ok sc_is_lit (fun vs H Q E h => ?_) (fun cdv A outer s H vs Q E hr h => ?_)
  · obtain ⟨a, ps, hs, i, r, rfl, _⟩ := h
    rfl
  · obtain ⟨a, ps, hs, i, r, rfl, hh, hi, k⟩ := h
    obtain ⟨p, _, hp, hat⟩ := hh.get hi
    refine ⟨_, (pss_one (ps_ret (pe_ix ix_tup (pe_ix ix_list (pv 0) (pv 1) (fun _ _ => rfl)) pe_int (fun _ _ => rfl)))), ?_⟩
    exact ⟨_, rfl, _, rfl, a, _, _, _, rfl, rfl, SqL.of hh.ob, hat, p, _, _, _, rfl, rfl, SqT.of hp, rfl, k⟩
theorem sc_law_whole : FnScope ["_law_found"] ["_law_found"] (defScope (top 17)) := ⟨rfl, rfl, rfl, by decide +kernel, rfl, by decide +kernel, by decide +kernel⟩
theorem ok_whole (F : Fun K "_law_whole" "_law_whole" (top 17) f fd) (T : Blt mg) : FnOk P w K mg base CX0 1 f fd ["_law_found"] spWhole := by
  refine F.ok sc_law_whole (fun vs H Q E h => ?_) (fun cdv A outer s H vs Q E hr h => ?_)
  · obtain ⟨i, rfl, _⟩ := h
    rfl
  · obtain ⟨i, rfl, k⟩ := h
    refine ⟨_, (pss_one (ps_ret (pe_and (pe_callB call_isinst (by rfl) T.isinstance boot_isinstance (pa_cons (pv 0) (pa_cons (pe_bltn (v := .ty "int") rfl T.int boot_int rfl) pa_nil))) (pe_one (pe_not (pe_callB call_isinst (by rfl) T.isinstance boot_isinstance (pa_cons (pv 0) (pa_cons (pe_bltn (v := .ty "bool") rfl T.bool boot_bool rfl) pa_nil)))))))), ?_⟩
    refine ⟨_, rfl, _, _, _, _, rfl, .int i, kit_int_int, _, rfl, iteT ?_⟩
    exact ⟨_, rfl, _, _, _, _, rfl, .int i, kit_int_bool, _, rfl, k⟩
theorem sc_law_at : FnScope ["_law_script", "_law_k"] ["_law_script", "_law_k"] (defScope (top 18)) := ⟨rfl, rfl, rfl, by decide +kernel, rfl, by decide +kernel, by decide +kernel⟩
theorem ok_at (F : Fun K "_law_at" "_law_at" (top 18) f fd) (T : Blt mg) : FnOk P w K mg base CX0 1 f fd ["_law_script", "_law_k"] (spAt K) := by
  refine F.ok sc_law_at (fun vs H Q E h => ?_) (fun cdv A outer s H vs Q E hr h => ?_)
  · obtain ⟨a, ns, k, rfl, _⟩ := h
    rfl
  · obtain ⟨a, ns, i, rfl, hS, k⟩ := h
    refine ⟨_, (pss_cons (ps_if (pt_cmpR op_lt (pv 1) (pe_callB call_len_seq (by rfl) T.len PySem.boot_len (pa_cons (pv 0) pa_nil)) (nomark _))
        (pss_one (ps_ret (pe_ix ix_list (pv 0) (pv 1) (fun _ _ => rfl))))
        pss_nil)
      (pss_one (ps_ret pe_int))), ?_⟩
    refine ⟨_, rfl, _, rfl, a, _, rfl, .inl hS, _, _, rfl, rfl, _, rfl, ?_⟩
    by_cases hi : i < ns.length
    · refine ifT (by rw [List.length_map]; exact decide_eq_true (by omega)) ?_
      have e : ns[i]? = some (ns.getD i 0) := by simp [hi]
      exact ⟨_, rfl, _, rfl, a, _, _, _, rfl, rfl, hS, atI_nat (by rw [List.getElem?_map, e]; rfl), k⟩
    · refine ifF (by rw [List.length_map]; exact decide_eq_false (by omega)) ?_
      have e : ns.getD i 0 = 0 := by
        rw [List.getD_eq_getElem?_getD, List.getElem?_eq_none (by omega)]
        rfl
      rw [e] at k
      exact k
theorem sc_law_drawn : FnScope ["_law_cells", "_law_size", "_law_house", "_law_k", "_law_cell", "_law_far", "_law_one", "_law_other"] ["_law_cells"] (defScope (top 19)) := ⟨rfl, rfl, rfl, by decide +kernel, rfl, by decide +kernel, by decide +kernel⟩
theorem max_len (n : Nat) : (if (n : Int) > 1 then (n : Int) else 1) = ((max 1 n : Nat) : Int) := by split <;> omega
theorem ok_drawn (F : Fun K "_law_drawn" "_law_drawn" (top 19) f fd) (T : Blt mg) : FnOk P w K mg base CX0 1 f fd ["_law_cells"] (spDrawn K) := by
  refine F.ok sc_law_drawn (fun vs H Q E h => ?_) (fun cdv A outer s H vs Q E hr h => ?_)
  · obtain ⟨a, ns, rfl, _⟩ := h
    rfl
  · obtain ⟨a, ns, rfl, hS, hn, k⟩ := h
    have hu := hu_of hr
    refine ⟨_, (pss_cons (ps_set (i := 1) sc_law_drawn.nd rfl (Or.inl rfl) (pe_callB (call_max2 rfl) (by rfl) T.max boot_max (pa_cons pe_int (pa_cons (pe_callB call_len_seq (by rfl) T.len PySem.boot_len (pa_cons (pv 0) pa_nil)) pa_nil))))
      (pss_cons (ps_set (i := 2) sc_law_drawn.nd rfl (Or.inl rfl) (pe_lst pa_nil))
      (pss_cons (ps_for PassesOwn.never rfl (pi_range1 rfl T.range (pa_cons (pv 1) pa_nil)) (pg_name (i := 3) sc_law_drawn.nd rfl (Or.inl rfl))
        (pss_cons (ps_set (i := 4) sc_law_drawn.nd rfl (Or.inl rfl) (pv 3))
        (pss_cons (ps_set (i := 5) sc_law_drawn.nd rfl (Or.inl rfl) (pv 3))
        (pss_cons (ps_if (pt_cmpR (op_neL hu) (pv 0) (pe_lst pa_nil) (nomark _))
          (pss_cons (ps_set (i := 4) sc_law_drawn.nd rfl (Or.inl rfl) (pe_ix ix_list (pv 0) (pv 3) (fun _ _ => rfl)))
          (pss_one (ps_set (i := 5) sc_law_drawn.nd rfl (Or.inl rfl) (pe_ix ix_list (pv 0) (pe_op op_mod (pe_op op_add (pv 3) pe_int) (pv 1)) (fun _ _ => rfl)))))
          pss_nil)
        (pss_cons (ps_set (i := 6) sc_law_drawn.nd rfl (Or.inl rfl) (pe_op op_mod (pe_op op_add (pv 4) (pv 3)) (pv 1)))
        (pss_cons (ps_set (i := 7) sc_law_drawn.nd rfl (Or.inl rfl) (pe_op op_mod (pe_op op_add (pe_op op_add (pe_op op_fdiv (pv 5) pe_int) (pe_op op_mul pe_int (pv 3))) pe_int) (pv 1)))
        (pss_one (ps_expr (pe_bm PySem.F.plainAttrs_list PySem.F.slot_list_append PySem.F.type_list_append mt_append (pv 2) (pa_cons (pe_tup (pa_cons (pv 6) (pa_cons (pv 7) (pa_cons (pe_cmpR op_eq (pe_op op_mod (pv 5) pe_int) pe_int (nomark _)) pa_nil)))) pa_nil))))))))))
      (pss_one (ps_ret (pv 2)))))), ?_⟩
    -- size = max(1, len(cells)); house = []
    refine ⟨_, rfl, a, _, rfl, .inl hS, _, _, rfl, ?_⟩
    rw [List.length_map, max_len]
    refine ⟨Nat.zero_le _, fun l hl => ?_⟩
    -- for k in range(size)
    have hm : max 1 ns.length ≤ 1000 := by omega
    refine ⟨_, rfl, _, rfl, by omega, by omega, ?_⟩
    rw [Int.toNat_natCast]
    refine for_range (lo := 0) (n := max 1 ns.length) (fun i σ H2 => ∃ (ps : List Addr) (v3 v4 v5 v6 v7 : Option V), σ = [some (.ref a), some (.int ((max 1 ns.length : Nat) : Int)), some (.ref l), v3, v4, v5, v6, v7] ∧ Same H H2 ∧
        H2 l = some (.lst (ps.map V.ref)) ∧ Rooms H2 ps ((drawn ns).take i) ∧ i ≤ max 1 ns.length)
      ⟨[], none, none, none, none, none, rfl, same_upd hl, upd_same, ⟨rfl, fun i p r e => by simp at e⟩, Nat.zero_le _⟩ ?_ ?_
    · rintro i σ H2 hi ⟨ps, v3, v4, v5, v6, v7, rfl, s2, hl2, hR, _⟩
      rw [Int.zero_add]
      -- cell = k; far = k; cells != []
      refine ⟨_, rfl, _, rfl, _, rfl, Nat.zero_le _, fun p hp => ?_⟩
      have nlp : l ≠ p := ne_of_none hl2 hp
      refine ⟨a, p, _, _, _, rfl, rfl, (s2.upd hp).seq hS, SqL.of upd_same, eqLs_nil, _, rfl, ?_⟩
      have hR3 : Rooms (upd H2 p (.lst [])) ps ((drawn ns).take i) := hR.same (same_upd hp)
      have hl3 : upd H2 p (.lst []) l = some (.lst (ps.map V.ref)) := by rw [upd_ne nlp]; exact hl2
      have s3 : Same H (upd H2 p (.lst [])) := s2.upd hp
      have hpl : ps.length ≤ 1000 := by rw [hR.1, List.length_take]; omega
      have hpos : (0 : Int) < ((max 1 ns.length : Nat) : Int) := by omega
      generalize upd H2 p (.lst []) = H3 at hR3 hl3 s3
      by_cases hns : ns = []
      case' pos =>
        refine ifF (by simp [hns]) ?_
      case' neg =>
        refine ifT (by simp [hns]) ?_
        have hml : max 1 ns.length = ns.length := by
          have : ns.length ≠ 0 := fun z => hns (List.length_eq_zero_iff.mp z)
          omega
        have e4 : ns[i]? = some (cellN ns i) := by
          rw [cellN, if_neg hns]
          have : i < ns.length := by omega
          simp [this]
        have em : ((i : Int) + 1) % ((max 1 ns.length : Nat) : Int) = (((i + 1) % max 1 ns.length : Nat) : Int) := by
          rw [Int.natCast_emod]; rfl
        have e5 : ns[(i + 1) % max 1 ns.length]? = some (farN ns i) := by
          rw [farN, if_neg hns]
          have : (i + 1) % max 1 ns.length < ns.length := by
            have := Nat.mod_lt (i + 1) (show 0 < max 1 ns.length by omega)
            omega
          simp [this]
        refine ⟨_, rfl, _, rfl, a, _, _, _, rfl, rfl, s3.seq hS, atI_nat (by rw [List.getElem?_map, e4]; rfl), ?_⟩
        refine ⟨_, rfl, _, rfl, _, _, rfl, rfl, _, rfl, _, _, rfl, rfl, hpos, a, _, _, _, rfl, rfl, s3.seq hS, (by rw [em]; exact atI_nat (by rw [List.getElem?_map, e5]; rfl)), ?_⟩
      all_goals
        -- one, other
        refine ⟨_, rfl, _, rfl, _, _, rfl, rfl, _, rfl, _, _, rfl, rfl, hpos, ?_⟩
        refine ⟨_, rfl, _, _, rfl, rfl, ⟨by decide, by decide⟩, _, rfl, _, _, rfl, rfl, .inl ⟨by decide, by decide⟩, _, _, rfl, rfl, _, _, rfl, rfl, _, rfl, _, _, rfl, rfl, hpos, ?_⟩
        -- house.append((one, other, far % 3 == 0))
        refine ⟨_, rfl, .inl ⟨rfl, _, SqL.of hl3⟩, _, rfl, _, rfl, _, rfl, _, _, rfl, rfl, (by show (0 : Int) < 3; decide), rfl, (by show 3 ≤ sizeLine; decide), fun q hq => ?_⟩
        have nlq : l ≠ q := ne_of_none hl3 hq
        refine ⟨l, _, _, rfl, rfl, (by rw [upd_ne nlq]; exact hl3), (by rw [List.length_map]; exact small1000 hpl), ?_⟩
        refine ⟨ps ++ [q], _, _, _, _, _, rfl, (s3.upd hq).put hl, (by rw [List.map_append]; exact upd_same), ?_, hi⟩
        rw [drawn_take ns hi]
        have nql : ∀ b o, (L2.upd H3 q o) b ≠ none → True := fun _ _ _ => trivial
        refine Rooms.snoc ⟨hR3.1, fun j x r e1 e2 => ?_⟩ ?_
        · have hx := hR3.2 j x r e1 e2
          have n1 : x ≠ l := fun z => by rw [z, hl3] at hx; cases hx
          rw [upd_ne n1, upd_ne (ne_of_none hx hq)]
          exact hx
        · rw [upd_ne nlq.symm, upd_same]
          have h1 := Int.toNat_of_nonneg (Int.emod_nonneg (cellN ns i + i) (show ((max 1 ns.length : Nat) : Int) ≠ 0 by omega))
          have h2 := Int.toNat_of_nonneg (Int.emod_nonneg (farN ns i / 3 + 2 * i + 1) (show ((max 1 ns.length : Nat) : Int) ≠ 0 by omega))
          have h3 : rmV (roomOf ns i) = [V.int ((cellN ns i + i) % ((max 1 ns.length : Nat) : Int)), V.int ((farN ns i / 3 + 2 * i + 1) % ((max 1 ns.length : Nat) : Int)), V.bl (decide (V.int (farN ns i % 3) = V.int 0))] := by
            rw [rmV, roomOf]
            dsimp only
            rw [h1, h2]
            simp
          rw [h3]
          all_goals first
            | (rw [show cellN ns i = (i : Int) from if_pos hns, show farN ns i = (i : Int) from if_pos hns])
            | rfl
    · rintro σ H2 ⟨ps, v3, v4, v5, v6, v7, rfl, s2, hl2, hR, _⟩
      rw [List.take_of_length_le (by rw [drawn_length]; omega)] at hR
      exact ⟨_, rfl, k l ps H2 hl s2 ⟨hl2, hR⟩⟩
theorem sc_law_is_house : FnScope ["_law_found", "_law_room", "_law_further"] ["_law_found"] (defScope (top 20)) := ⟨rfl, rfl, rfl, by decide +kernel, rfl, by decide +kernel, by decide +kernel⟩
theorem ok_ish {fw : Addr} {fdw : FuncData} (F : Fun K "_law_is_house" "_law_is_house" (top 20) f fd) (T : Blt mg) (W : Df K mg "_law_whole" 17 ["_law_found"] fw fdw) : FnOk P w K mg base CX0 2 f fd ["_law_found"] spIsHouse := by
  have G_whole : FnOk P w K mg base CX0 1 fw fdw ["_law_found"] spWhole := ok_whole W.fn T
  refine F.ok sc_law_is_house (fun vs H Q E h => ?_) (fun cdv A outer s H vs Q E hr h => ?_)
  · obtain ⟨a, ps, hs, rfl, _⟩ := h
    rfl
  · obtain ⟨a, ps, hs, rfl, hh, wf, k⟩ := h
    have hu := hu_of hr
    refine ⟨_, (pss_cons (ps_if (PW.pt (pw_or (pt_not (pt_val (pe_callB call_isinst (by rfl) T.isinstance boot_isinstance (pa_cons (pv 0) (pa_cons (pe_bltn (v := .ty "list") rfl T.list boot_list rfl) pa_nil))))) (pw_or1 (pt_cmpR (op_eqL hu) (pv 0) (pe_lst pa_nil) (nomark _)))))
        (pss_one (ps_ret pe_bl))
        pss_nil)
      (pss_cons (ps_for PassesOwn.never rfl (pi_list (pv 0)) (pg_name (i := 1) sc_law_is_house.nd rfl (Or.inl rfl))
        (pss_cons (ps_if (PW.pt (pw_or (pt_not (pt_val (pe_callB call_isinst (by rfl) T.isinstance boot_isinstance (pa_cons (pv 1) (pa_cons (pe_bltn (v := .ty "tuple") rfl T.tuple boot_tuple rfl) pa_nil))))) (pw_or (pt_cmpR op_ne (pe_callB call_len_seq (by rfl) T.len PySem.boot_len (pa_cons (pv 1) pa_nil)) pe_int (nomark _)) (pw_or1 (pt_not (pt_val (pe_callB call_isinst (by rfl) T.isinstance boot_isinstance (pa_cons (pe_ix ix_tup (pv 1) pe_int (fun _ _ => rfl)) (pa_cons (pe_bltn (v := .ty "bool") rfl T.bool boot_bool rfl) pa_nil)))))))))
          (pss_one (ps_ret pe_bl))
          pss_nil)
        (pss_one (ps_for PassesOwn.never rfl (pi_tup (pe_slice sl_tup (pv 1) po_none (po_some pe_int))) (pg_name (i := 2) sc_law_is_house.nd rfl (Or.inl rfl))
          (pss_one (ps_if (PW.pt (pw_or (pt_not (pt_val (pe_call G_whole hr rfl W.m W.fn.kp W.b .nil pass0 (pa_cons (pv 2) pa_nil)))) (pw_or (pt_cmpR op_lt (pv 2) pe_int (nomark _)) (pw_or1 (pt_cmpR op_ge (pv 2) (pe_callB call_len_seq (by rfl) T.len PySem.boot_len (pa_cons (pv 0) pa_nil)) (nomark _))))))
            (pss_one (ps_ret pe_bl))
            pss_nil))))))
      (pss_one (ps_ret pe_bl)))), ?_⟩
    have hne : ps.map V.ref ≠ [] := fun z => by
      have e1 := congrArg List.length z
      rw [List.length_map, hh.rm.1] at e1
      have e2 := wf.ne
      rw [e1] at e2
      exact absurd e2 (by decide)
    -- not isinstance(found, list) or found == []
    refine ⟨_, rfl, _, _, _, _, rfl, .lst hh.ob, kit_list_list, _, rfl, iteF ?_⟩
    refine ⟨_, rfl, Nat.zero_le _, fun p hp => ?_⟩
    have s1 : Same H (upd H p (.lst [])) := same_upd hp
    refine ⟨a, p, _, _, _, rfl, rfl, SqL.of (s1 _ _ hh.ob), SqL.of upd_same, eqLs_nil, _, rfl, ?_⟩
    refine ifF (decide_eq_false hne) ?_
    -- for room in found
    refine ⟨_, rfl, a, rfl, ⟨_, SqL.of (s1 _ _ hh.ob)⟩, for_list (K := K) (a := a) (xs := ps.map V.ref) (fun i σ H2 => ∃ v1 v2, σ = [some (.ref a), v1, v2] ∧ Same H H2) ⟨_, _, rfl, s1⟩ (fun i σ H2 _ ⟨_, _, _, s2⟩ => SqL.of (s2 _ _ hh.ob)) ?_ ?_⟩
    · rintro i y σ H2 hy ⟨v1, v2, rfl, s2⟩
      have hi : i < hs.length := by
        have := (List.getElem?_eq_some_iff.mp hy).1
        rw [List.length_map, hh.rm.1] at this
        exact this
      have hr0 : hs[i]? = some hs[i] := by simp [hi]
      obtain ⟨q, hq, hqt, _⟩ := hh.get hr0
      obtain rfl : y = V.ref q := by
        rw [List.getElem?_map, hq] at hy
        exact (Option.some.inj hy).symm
      have hw := wf.ex hs[i] (List.getElem_mem hi)
      generalize hs[i] = r at hqt hw
      have hq2 := s2 _ _ hqt
      refine ⟨_, rfl, _, _, _, _, rfl, .tup hq2, kit_tuple_tuple, _, rfl, iteF ?_⟩
      refine ⟨_, rfl, q, _, rfl, .inr (SqT.of hq2), rfl, _, rfl, iteF ?_⟩
      refine ⟨_, rfl, q, _, _, _, rfl, rfl, SqT.of hq2, rfl, _, _, _, _, rfl, .bl _, kit_bool_bool, _, rfl, iteF ?_⟩
      -- for further in room[:2]
      refine ⟨_, rfl, _, rfl, q, _, rfl, SqT.of hq2, fun z => absurd (show (2 : Nat) = 3 from z.2) (by decide), fun t ht => ?_⟩
      have s3 : Same H (upd H2 t (.tup (cutV (rmV r) none (some 2)))) := s2.upd ht
      refine ⟨t, rfl, ⟨_, SqT.of upd_same⟩, for_tup (K := K) (a := t) (xs := cutV (rmV r) none (some 2)) (fun j σ H3 => ∃ v2, σ = [some (.ref a), some (.ref q), v2] ∧ Same H H3 ∧ H3 t = some (.tup (cutV (rmV r) none (some 2)))) ⟨_, rfl, s3, upd_same⟩ (fun j σ H3 _ ⟨_, _, _, h3⟩ => SqT.of h3) ?_ ?_⟩
      · rintro j z σ H3 hz ⟨v2, rfl, s4, h4⟩
        obtain ⟨n, hn, rfl⟩ : ∃ n : Nat, n < hs.length ∧ z = V.int (n : Int) := by
          have e : cutV (rmV r) none (some 2) = [V.int r.l, V.int r.r] := rfl
          rw [e] at hz
          match j, hz with
          | 0, hz => exact ⟨r.l, hw.1, (Option.some.inj hz).symm⟩
          | 1, hz => exact ⟨r.r, hw.2, (Option.some.inj hz).symm⟩
          | j + 2, hz => simp at hz
        refine ⟨_, rfl, _, rfl, _, rfl, iteF ?_⟩
        refine ⟨_, rfl, _, _, rfl, rfl, _, rfl, ?_⟩
        refine ifF (decide_eq_false (by omega)) ?_
        refine ⟨_, rfl, _, rfl, a, _, rfl, .inl (SqL.of (s4 _ _ hh.ob)), _, _, rfl, rfl, _, rfl, ?_⟩
        refine ifF (by rw [List.length_map, hh.rm.1]; exact decide_eq_false (by omega)) ?_
        exact ⟨_, rfl, s4, h4⟩
      · rintro σ H3 ⟨v2, rfl, s4, _⟩
        exact ⟨_, _, rfl, s4⟩
    · rintro σ H2 ⟨v1, v2, rfl, s2⟩
      exact k H2 s2
theorem sc_law_unhurt : FnScope ["_law_handed", "_law_house"] ["_law_handed", "_law_house"] (defScope (top 22)) := ⟨rfl, rfl, rfl, by decide +kernel, rfl, by decide +kernel, by decide +kernel⟩
theorem ok_unhurt {fw fi : Addr} {fdw fdi : FuncData} (F : Fun K "_law_unhurt" "_law_unhurt" (top 22) f fd) (T : Blt mg) (W : Df K mg "_law_whole" 17 ["_law_found"] fw fdw) (IH : Df K mg "_law_is_house" 20 ["_law_found"] fi fdi) :
    FnOk P w K mg base CX0 3 f fd ["_law_handed", "_law_house"] spUnhurt := by
  have G_ish : FnOk P w K mg base CX0 2 fi fdi ["_law_found"] spIsHouse := ok_ish IH.fn T W
  refine F.ok sc_law_unhurt (fun vs H Q E h => ?_) (fun cdv A outer s H vs Q E hr h => ?_)
  · obtain ⟨a, b, ps, hs, rfl, _⟩ := h
    rfl
  · obtain ⟨a, b, ps, hs, rfl, ha, hb, wf, k⟩ := h
    have hu := hu_of hr
    refine ⟨_, (pss_one (ps_ret (pe_and (pe_call G_ish hr rfl IH.m IH.fn.kp IH.b .nil pass0 (pa_cons (pv 0) pa_nil)) (pe_one (pe_cmpR (op_eqL hu) (pv 0) (pv 1) (nomark _)))))), ?_⟩
    refine ⟨_, rfl, a, ps, hs, rfl, ha, wf, fun H' s' => ⟨_, rfl, iteT ?_⟩⟩
    exact ⟨_, rfl, _, rfl, a, b, _, _, _, rfl, rfl, SqL.of (s' _ _ ha.ob), SqL.of (s' _ _ hb.ob), EqLs.refl (fun x hx => by obtain ⟨p, _, rfl⟩ := List.mem_map.mp hx; exact .same p), k H' s'⟩
theorem sc_law_led : FnScope ["_law_house", "_law_room", "_law_walk", "_law_turn"] ["_law_house", "_law_room", "_law_walk"] (defScope (top 21)) := ⟨rfl, rfl, rfl, by decide +kernel, rfl, by decide +kernel, by decide +kernel⟩
theorem ok_led (F : Fun K "_law_led" "_law_led" (top 21) f fd) : FnOk P w K mg base CX0 1 f fd ["_law_house", "_law_room", "_law_walk"] spLed := by
  refine F.ok sc_law_led (fun vs H Q E h => ?_) (fun cdv A outer s H vs Q E hr h => ?_)
  · obtain ⟨a, ps, hs, i, v, rfl, _⟩ := h
    rfl
  · obtain ⟨a, ps, hs, i, v, rfl, hh, wf, hi, k⟩ := h
    refine ⟨_, (pss_cons (ps_for PassesOwn.never rfl (pi_str (pv 2)) (pg_name (i := 3) sc_law_led.nd rfl (Or.inl rfl))
        (pss_one (ps_set (i := 1) sc_law_led.nd rfl (Or.inl rfl) (pe_ix ix_tup (pe_ix ix_list (pv 0) (pv 1) (fun _ _ => rfl)) (pe_bm PySem.F.plainAttrs_str PySem.F.slot_str_index PySem.F.type_str_index mt_index pe_str (pa_cons (pv 3) pa_nil)) (fun _ _ => rfl)))))
      (pss_one (ps_ret (pv 1)))), ?_⟩
    refine ⟨_, rfl, _, rfl, for_str (x := txt v) (fun j σ H2 => ∃ v3, σ = [some (.ref a), some (.int (led hs i (v.take j) : Nat)), some (.str (txt v)), v3] ∧ H2 = H) ⟨none, rfl, rfl⟩ ?_ ?_⟩
    · rintro j c σ H2 hc ⟨v3, rfl, rfl⟩
      obtain ⟨b, hb, rfl⟩ := txt_get hc
      have hl := wf.led (v.take j) hi
      have hr0 : hs[led hs i (v.take j)]? = some hs[led hs i (v.take j)] := by simp [hl]
      obtain ⟨p, _, hp, hat⟩ := hh.get hr0
      have es : led hs i (v.take (j + 1)) = if b then hs[led hs i (v.take j)].r else hs[led hs i (v.take j)].l := by
        rw [List.take_add_one, hb]
        show led hs i (v.take j ++ [b]) = _
        rw [led_snoc, stp, hr0]
      generalize hs[led hs i (v.take j)] = r at hp es
      refine ⟨_, rfl, _, rfl, a, _, _, _, rfl, rfl, SqL.of hh.ob, hat, rfl, _, rfl, _, _, _, rfl, rfl, ⟨_, occ_sgn b⟩, p, _, _, _, rfl, rfl, SqT.of hp, (?_ : atI (rmV r) _ = some (.int ((if b then r.r else r.l : Nat) : Int))), ?_⟩
      · cases b <;> rfl
      · exact ⟨_, by rw [es]; rfl, rfl⟩
    · rintro σ H2 ⟨v3, rfl, rfl⟩
      rw [txt_size, List.take_length] at *
      exact ⟨_, rfl, k⟩
/-! ### places in the heap -/
structure Plc (α : Type) where
  k : Kd
  key : α → k.κ
section
variable {α : Type} {C : Plc α} {G : Gr α}
theorem valV_at {κ : Type} [DecidableEq κ] : ∀ {kvs : List (κ × V)} {i : Nat} {k : κ} {v : V}, (kvs.map (·.1)).Nodup → kvs[i]? = some (k, v) → valV kvs k = some v
  | [], i, k, v, _, h => by simp at h
  | p :: r, 0, k, v, hn, h => by
    have : p = (k, v) := by simpa using h
    subst this
    exact valV_pos rfl
  | p :: r, i + 1, k, v, hn, h => by
    have h' : r[i]? = some (k, v) := by simpa using h
    have hn' := List.nodup_cons.mp hn
    have ne : ¬ p.1 = k := fun z => hn'.1 (by
      show p.1 ∈ _
      rw [z]
      exact List.mem_map.mpr ⟨_, List.mem_of_getElem? h', rfl⟩)
    rw [valV_neg ne]
    exact valV_at hn'.2 h'
theorem valV_no {κ : Type} [DecidableEq κ] : ∀ {kvs : List (κ × V)} {k : κ}, k ∉ kvs.map (·.1) → valV kvs k = none
  | [], _, _ => rfl
  | p :: r, k, h => by
    have ne : ¬ p.1 = k := fun z => h (by rw [← z]; exact List.mem_cons_self ..)
    rw [valV_neg ne]
    exact valV_no fun z => h (List.mem_cons_of_mem _ z)
theorem putK_new {κ : Type} [DecidableEq κ] {kvs : List (κ × V)} {k : κ} {v : V} (h : k ∉ kvs.map (·.1)) : putK kvs k v = kvs ++ [(k, v)] := by
  unfold putK
  rw [if_neg]
  intro z
  obtain ⟨e, he, q⟩ := List.any_eq_true.mp z
  exact h (List.mem_map.mpr ⟨e, he, by simpa using q⟩)
theorem get_snoc {β : Type} {l : List β} {x y : β} {i : Nat} (e : (l ++ [x])[i]? = some y) : (i < l.length ∧ l[i]? = some y) ∨ (i = l.length ∧ y = x) := by
  by_cases hi : i < l.length
  · rw [List.getElem?_append_left hi] at e
    exact .inl ⟨hi, e⟩
  · rw [List.getElem?_append_right (by omega)] at e
    have h0 : i - l.length = 0 := by
      have := (List.getElem?_eq_some_iff.mp e).1
      simp at this
      exact this
    rw [h0] at e
    simp at e
    exact .inr ⟨by omega, e.symm⟩
/-! ### the steps of an exploring, in the heap -/
variable {H H' : Hp} {kvs : List (C.k.κ × V)} {es : List (GEnt α)} {ms : List V}
end
/-! ### the promises -/
end
end Law

set_option maxHeartbeats 8000000
namespace Law
open PySem L2 Hs PyProof.Rows
section
variable {P : Program} {w : World} {K : PySem.W.Frag} {mg : Str → Option Value} {base : Heap} {f : Addr} {fd : FuncData}
/-! ### into a closure's body and back -/
section
variable {H H1 H' F : Hp} {cs : List Addr} {L : List Cap} {b : Addr} {u : HO}
end
theorem HouseAt.sam {H H' : Hp} {a : Addr} {ps : List Addr} {hs : List Rm} (h : HouseAt H a ps hs) (s : SamT H H') : HouseAt H' a ps hs :=
  ⟨s _ _ h.ob (fun _ z => by cases z), h.rm.1, fun i p r e1 e2 => s _ _ (h.rm.2 i p r e1 e2) fun _ z => by cases z⟩
/-! ### the parts of a lambda -/
theorem _root_.L2.Same.none {H H' : Hp} {p : Addr} (s : Same H H') (h : H' p = Option.none) : H p = Option.none := by
  cases e : H p with
  | none => rfl
  | some u => rw [s _ _ e] at h; cases h
def spWide (K : PySem.W.Frag) : Sp := fun vs H Q _ => ∃ (a : Addr) (ns : List Int) (x y : Int), vs = [.ref a, .int x, .int y] ∧ SqL K H a (ns.map V.int) ∧ ns.length ≤ 63 ∧ Q (.int x) H
theorem sc_law_wide : FnScope ["_law_script", "_law_most", "_law_bound"] ["_law_script", "_law_most", "_law_bound"] (defScope (top 23)) := ⟨rfl, rfl, rfl, by decide +kernel, rfl, by decide +kernel, by decide +kernel⟩
theorem ok_wide (F : Fun K "_law_wide" "_law_wide" (top 23) f fd) (T : Blt mg) : FnOk P w K mg base CX0 1 f fd ["_law_script", "_law_most", "_law_bound"] (spWide K) := by
  refine F.ok sc_law_wide (fun vs H Q E h => ?_) (fun cdv A outer s H vs Q E hr h => ?_)
  · obtain ⟨a, ns, x, y, rfl, _⟩ := h
    rfl
  · obtain ⟨a, ns, x, y, rfl, hS, hn, k⟩ := h
    refine ⟨_, (pss_cons (ps_if (pt_cmpR op_gt (pe_callB call_len_seq (by rfl) T.len PySem.boot_len (pa_cons (pv 0) pa_nil)) pe_int (nomark _))
        (pss_one (ps_ret (pv 2)))
        pss_nil)
      (pss_one (ps_ret (pv 1)))), ?_⟩
    refine ⟨_, rfl, a, _, rfl, .inl hS, _, _, rfl, rfl, _, rfl, ?_⟩
    exact ifF (by rw [List.length_map]; exact decide_eq_false (by omega)) ⟨_, rfl, k⟩
theorem cutV_ints (ns : List Int) (lo hi : Option Int) : ∃ ms : List Int, cutV (ns.map V.int) lo hi = ms.map V.int ∧ ms.length ≤ ns.length ∧ ms.length ≤ HT.sIx ns.length ns.length hi - HT.sIx ns.length 0 lo :=
  ⟨(ns.drop (HT.sIx ns.length 0 lo)).take (HT.sIx ns.length ns.length hi - HT.sIx ns.length 0 lo), by rw [cutV, List.length_map, List.map_take, List.map_drop], by rw [List.length_take, List.length_drop]; omega, by rw [List.length_take]; omega⟩
theorem mod_nat (x : Int) {m : Nat} (hm : 0 < m) : ∃ n : Nat, x % (m : Int) = (n : Int) ∧ n < m := by
  have h1 := Int.emod_nonneg x (show (m : Int) ≠ 0 by omega)
  have h2 := Int.emod_lt_of_pos x (show (0 : Int) < (m : Int) by omega)
  exact ⟨(x % (m : Int)).toNat, by omega, by omega⟩
/-! ### comprehensions whose parts only add to the heap -/
def ItOk (J : It) (xs : List V) (H2 : Hp) : Prop := ∀ H5, Same H2 H5 → (∀ i, i < xs.length → J.go i H5) ∧ (∀ i x H6, J.yld i H5 x H6 → i < xs.length → H6 = H5 ∧ xs[i]? = some x) ∧ J.stop xs.length H5
theorem _root_.L2.Same.seqT {K : PySem.W.Frag} {H H' : Hp} {a : Addr} {xs : List V} (e : Same H H') (h : SqT K H a xs) : SqT K H' a xs := by
  obtain h | h := h
  · refine .inl ?_
    rcases h with h | ⟨o, h⟩
    · exact .inl (e _ _ h)
    · exact .inr ⟨o, e _ _ h⟩
  · exact .inr h
theorem it_list {K : PySem.W.Frag} {a : Addr} {xs : List V} {H2 : Hp} (h : SqL K H2 a xs) : ItOk (Itl K a) xs H2 := fun H5 s => by
  have q := s.seq h
  refine ⟨fun i hi => ⟨xs, xs[i], q, by simp [hi]⟩, fun i x H6 y _ => ⟨y.1, ?_⟩, ⟨xs, q, Nat.le_refl _⟩⟩
  have := y.2 xs q
  exact this
theorem it_tup {K : PySem.W.Frag} {a : Addr} {xs : List V} {H2 : Hp} (h : SqT K H2 a xs) : ItOk (Itt K a) xs H2 := fun H5 s => by
  have q := s.seqT h
  refine ⟨fun i hi => ⟨xs, xs[i], q, by simp [hi]⟩, fun i x H6 y _ => ⟨y.1, y.2 xs q⟩, ⟨xs, q, Nat.le_refl _⟩⟩
theorem it_range {n : Nat} {H2 : Hp} : ItOk (Itr 0 n) ((List.range n).map fun i : Nat => V.int (i : Int)) H2 := fun H5 s => by
  refine ⟨fun i hi => (by show i < n; simpa using hi), fun i x H6 y hi => ⟨y.1, ?_⟩, by simp [Itr]⟩
  have hi' : i < n := by simpa using hi
  rw [y.2]
  simp [hi']
theorem comp_gen {J : It} {g : TG} {ti : TT} {te : TE} {D : Addr} {σ0 : L2.St} {H2 : Hp} {Q : Hp → Prop} {xs : List V} {os : List (Option V)} (Sg : L2.St → Prop) (hJ : ItOk J xs H2) (hlen : os.length = xs.length) (hsz : xs.length ≤ 1000) (hD : H2 D = none) (h0 : Sg σ0)
    (hs : ∀ (i : Nat) x o σ H5 (Qk : Option V → L2.St → Hp → Prop), xs[i]? = some x → os[i]? = some o → Sg σ → Same H2 H5 → (∀ σ2 H8, Sg σ2 → Same H5 H8 → Qk o σ2 H8) → g x σ H5 fun σ2 H6 => ti σ2 H6 fun b H7 => if b = true then te σ2 H7 fun v H8 => Qk (some v) σ2 H8 else Qk none σ2 H7)
    (hq : ∀ H5, Same H2 H5 → H5 D = some (.lst (os.filterMap id)) → Q H5) : CompW J g ti te D σ0 (upd H2 D (.lst [])) Q := by
  refine ⟨fun i m σ H => m = xs.length - i ∧ i ≤ xs.length ∧ Sg σ ∧ Same H2 H ∧ H D = some (.lst ((os.take i).filterMap id)), ⟨xs.length, by simp, Nat.zero_le _, h0, same_upd hD, upd_same⟩, ?_⟩
  rintro i m σ H ⟨rfl, hi, hg, hS, hDe⟩
  obtain ⟨go, yl, st⟩ := hJ H hS
  by_cases hlt : i < xs.length
  · refine .inr ⟨go i hlt, fun σ' H' => i + 1 ≤ xs.length ∧ Sg σ' ∧ Same H2 H' ∧ H' D = some (.lst ((os.take (i + 1)).filterMap id)), fun σ' H' p' => ⟨xs.length - (i + 1), by omega, rfl, p'⟩, fun x H' y => ?_⟩
    obtain ⟨e, hx⟩ := yl i x H' y hlt
    subst e
    have ho : os[i]? = some (os[i]'(by omega)) := by simp
    generalize os[i]'(by omega) = o at ho
    have htk : (os.take (i + 1)).filterMap id = (os.take i).filterMap id ++ o.toList := by
      rw [List.take_add_one, ho, List.filterMap_append]
      cases o <;> rfl
    have hll : ((os.take i).filterMap id).length ≤ 1000 := Nat.le_trans (List.length_filterMap_le _ _) (by rw [List.length_take]; omega)
    refine hs i x o σ _ (fun o' σ2 H8 => match o' with
      | some v => ∃ zs, H8 D = some (.lst zs) ∧ zs.length < sizeLine ∧ (i + 1 ≤ xs.length ∧ Sg σ2 ∧ Same H2 (upd H8 D (.lst (zs ++ [v]))) ∧ upd H8 D (.lst (zs ++ [v])) D = some (.lst ((os.take (i + 1)).filterMap id)))
      | none => i + 1 ≤ xs.length ∧ Sg σ2 ∧ Same H2 H8 ∧ H8 D = some (.lst ((os.take (i + 1)).filterMap id))) hx ho hg hS fun σ2 H8 h2 h8 => ?_
    cases o with
    | some v => exact ⟨_, h8 _ _ hDe, small1000 hll, hlt, h2, (hS.trans h8).put hD, by rw [upd_same, htk]; rfl⟩
    | none => exact ⟨hlt, h2, hS.trans h8, by rw [h8 _ _ hDe, htk]; simp⟩
  · have e : i = xs.length := by omega
    subst e
    refine .inl ⟨st, hq H hS ?_⟩
    rw [hDe, ← hlen, List.take_length]
theorem filterMap_some {α : Type} (l : List α) : (l.map some).filterMap id = l := by
  induction l with
  | nil => rfl
  | cons a l ih => rw [List.map_cons, List.filterMap_cons, ih]; rfl
/-- without tests: the values, one for each -/
theorem comp_vals {J : It} {g : TG} {te : TE} {D : Addr} {σ0 : L2.St} {H2 : Hp} {Q : Hp → Prop} {xs ys : List V} (Sg : L2.St → Prop) (hJ : ItOk J xs H2) (hlen : ys.length = xs.length) (hsz : xs.length ≤ 1000) (hD : H2 D = none) (h0 : Sg σ0)
    (hs : ∀ (i : Nat) x y σ H5 (Qk : V → L2.St → Hp → Prop), xs[i]? = some x → ys[i]? = some y → Sg σ → Same H2 H5 → (∀ σ2 H8, Sg σ2 → Same H5 H8 → Qk y σ2 H8) → g x σ H5 fun σ2 H6 => te σ2 H6 fun v H8 => Qk v σ2 H8)
    (hq : ∀ H5, Same H2 H5 → H5 D = some (.lst ys) → Q H5) (hgm : ∀ x σ H5 (A B : L2.St → Hp → Prop), (∀ σ2 H6, A σ2 H6 → B σ2 H6) → g x σ H5 A → g x σ H5 B) : CompW J g (fun _ H Q => Q true H) te D σ0 (upd H2 D (.lst [])) Q := by
  refine comp_gen (os := ys.map some) Sg hJ (by rw [List.length_map]; exact hlen) hsz hD h0 (fun i x o σ H5 Qk hx ho hg hS hk => ?_) fun H5 s e => hq H5 s (by rw [e, filterMap_some])
  rw [List.getElem?_map] at ho
  cases hy : ys[i]? with
  | none => rw [hy] at ho; cases ho
  | some y =>
    rw [hy] at ho
    cases ho
    refine hgm _ _ _ _ _ (fun σ2 H6 h => ?_) (hs i x y σ H5 (fun v => Qk (some v)) hx hy hg hS hk)
    show if true = true then _ else _
    rw [if_pos rfl]
    exact h
theorem gm_name {i : Nat} : ∀ x σ H5 (A B : L2.St → Hp → Prop), (∀ σ2 H6, A σ2 H6 → B σ2 H6) → gName i x σ H5 A → gName i x σ H5 B := fun _ _ _ _ _ h a => h _ _ a
theorem ix_tupK {X : Cx} {K' : PySem.W.Frag} (hK : X.K = K') : IxR X (rIxT K') := by
  subst hK
  exact ix_tup
theorem ix_listK {X : Cx} {K' : PySem.W.Frag} (hK : X.K = K') : IxR X (rIxL K') := by
  subst hK
  exact ix_list
theorem sub_of {cl cells : List (Str × Addr)} (h : ∀ p ∈ cl, cells.lookup p.1 = some p.2) : ∀ x c, cl.lookup x = some c → cells.lookup x = some c := fun x c e => h _ (PySem.mem_of_lookup e)
theorem has_of {names : List (Str × NameKind)} {l : List (Str × Addr)} {ns : List Str} (h : ∀ p ∈ names, p.2 = .free → p.1 ∈ ns) (h2 : ∀ y ∈ ns, ∃ c, l.lookup y = some c) : ∀ p ∈ names, p.2 = .free → ∃ c, l.lookup p.1 = some c := fun p hp hf => h2 _ (h p hp hf)
end
end Law

set_option maxHeartbeats 8000000
namespace Law
open PySem L2 Hs PyProof.Rows
section
variable {P : Program} {w : World} {K : PySem.W.Frag} {mg : Str → Option Value} {base : Heap} {f : Addr} {fd : FuncData}
/-! ### lots -/
def nV (L : List Nat) : List V := L.map fun r : Nat => V.int (r : Int)
theorem nV_len (L : List Nat) : (nV L).length = L.length := by simp [nV]
theorem nV_get {L : List Nat} {i : Nat} {v : V} (h : (nV L)[i]? = some v) : ∃ r, L[i]? = some r ∧ v = .int (r : Int) := by
  unfold nV at h
  rw [List.getElem?_map] at h
  cases e : L[i]? with
  | none => rw [e] at h; cases h
  | some r => rw [e] at h; cases h; exact ⟨r, rfl, rfl⟩
theorem nV_at {L : List Nat} {i x : Nat} (h : L[i]? = some x) : atI (nV L) (i : Int) = some (.int (x : Int)) := atI_nat (by unfold nV; rw [List.getElem?_map, h]; rfl)
theorem nV_app (L M : List Nat) : nV (L ++ M) = nV L ++ nV M := by simp [nV]
theorem ne_bits (a b : Nat) : (!decide (V.int (Builtin.bitAnd (a : Int) (b : Int)) = V.int 0)) = decide (a &&& b ≠ 0) := by
  rw [bits_and]
  by_cases h : a &&& b = 0
  · rw [h]; rfl
  · rw [decide_eq_true h, decide_eq_false (fun z => h (by injection z with z; omega))]
    rfl
/-! ### joined -/
def spJoin (K : PySem.W.Frag) : Sp := fun vs H Q _ => ∃ (l : Addr) (lots : List Nat) (c : Nat), vs = [.ref l, .int (c : Int)] ∧ SqL K H l (nV lots) ∧ c < 2 ^ lots.length ∧ Q (.int (jn lots c : Nat)) H
theorem sc_join : FnScope ["lots", "chosen", "whole", "last"] ["lots", "chosen"] (defScope (top 3)) := ⟨rfl, rfl, rfl, by decide +kernel, rfl, by decide +kernel, by decide +kernel⟩
theorem ok_join (F : Fun K "joined" "joined" (top 3) f fd) : FnOk P w K mg base CX0 1 f fd ["lots", "chosen"] (spJoin K) := by
  refine F.ok sc_join (fun vs H Q E h => ?_) (fun cdv A outer s H vs Q E hr h => ?_)
  · obtain ⟨l, lots, c, rfl, _⟩ := h
    rfl
  · obtain ⟨l, lots, c, rfl, hl, hc, k⟩ := h
    refine ⟨_, (pss_cons (ps_set (i := 2) sc_join.nd rfl (Or.inl rfl) pe_int)
      (pss_cons (ps_while PassesOwn.never (pt_cmpR op_gt (pv 1) pe_int (nomark _))
        (pss_cons (ps_set (i := 3) sc_join.nd rfl (Or.inl rfl) (pe_op op_and (pv 1) (pe_un un_neg (pv 1))))
        (pss_cons (ps_aug (i := 2) sc_join.nd rfl (Or.inl rfl) (pe_ix ix_list (pv 0) (pe_op op_sub (pe_bm0 PySem.F.plainAttrs_int PySem.F.slot_int_bit_length PySem.F.type_int_bit_length mt_bits (pv 3)) pe_int) (fun _ _ => rfl)) iop_or)
        (pss_one (ps_aug (i := 1) sc_join.nd rfl (Or.inl rfl) (pv 3) iop_xor)))))
      (pss_one (ps_ret (pv 2))))), ?_⟩
    refine while_by (fun σ H2 => ∃ (ch wh : Nat) (v3 : Option V), σ = [some (.ref l), some (.int (ch : Int)), some (.int (wh : Int)), v3] ∧ H2 = H ∧ wh ||| jn lots ch = jn lots c ∧ ch < 2 ^ lots.length)
      (fun (σ : L2.St) H2 => match σ[1]? with | some (some (V.int i)) => i.toNat | _ => 0)
      ⟨c, 0, none, rfl, rfl, Nat.zero_or _, hc⟩ ?_ ?_
    · rintro σ H2 ⟨ch, wh, v3, rfl, rfl, hj, hlt⟩
      refine ⟨_, rfl, _, _, rfl, rfl, _, rfl, ?_⟩
      by_cases h0 : 0 < ch
      · refine ifT (decide_eq_true (by omega)) ?_
        obtain ⟨b, hb, e1, e2⟩ := low_bit ch h0
        have hbl : b < lots.length := bit_lt hlt hb
        have hx : lots[b]? = some lots[b] := by simp [hbl]
        generalize lots[b] = x at hx
        have eix : ((Builtin.Int.intBits ((2 ^ b : Nat) : Int) : Nat) : Int) - 1 = (b : Int) := by rw [bits_len]; omega
        refine ⟨_, rfl, _, rfl, _, rfl, _, _, rfl, rfl, ?_⟩
        rw [bits_low h0, e1]
        refine ⟨_, rfl, _, rfl, _, rfl, rfl, _, rfl, rfl, _, _, rfl, rfl, l, _, _, _, rfl, rfl, hl, (by rw [eix]; exact nV_at hx), _, _, rfl, rfl, ?_⟩
        rw [bits_or]
        refine ⟨_, rfl, _, rfl, _, _, rfl, rfl, ?_⟩
        rw [bits_xor e1 hb]
        have hle : ch &&& (ch - 1) < ch := by have := Nat.two_pow_pos b; omega
        refine ⟨⟨ch &&& (ch - 1), wh ||| x, _, rfl, rfl, ?_, by omega⟩, ?_⟩
        · rw [jn_step hx hb e2]; exact hj
        · show ((ch &&& (ch - 1) : Nat) : Int).toNat < ((ch : Nat) : Int).toNat
          rw [Int.toNat_natCast, Int.toNat_natCast]
          exact hle
      · refine ifF (decide_eq_false (by omega)) ?_
        have hz : ch = 0 := by omega
        subst hz
        rw [jn_zero, Nat.or_zero] at hj
        subst hj
        exact ⟨_, rfl, k⟩
    · intro σ H2 Q1 Q2 hq hc
      obtain ⟨x, e1, i, j, e8, e9, b, e10, q1⟩ := hc
      exact ⟨x, e1, i, j, e8, e9, b, e10, hq _ _ q1⟩
/-! ### rooms_in -/
def spLof (K : PySem.W.Frag) : Sp := fun vs H Q _ => ∃ (l : Addr) (L : List Nat), vs = [.ref l] ∧ SqL K H l (nV L) ∧ (∀ r ∈ L, r ≤ 1000) ∧ Q (.int (lotOf L : Nat)) H
theorem sc_lof : FnScope ["rooms", "lot", "room"] ["rooms"] (defScope (top 2)) := ⟨rfl, rfl, rfl, by decide +kernel, rfl, by decide +kernel, by decide +kernel⟩
theorem ok_lof (F : Fun K "lot_of" "lot_of" (top 2) f fd) : FnOk P w K mg base CX0 1 f fd ["rooms"] (spLof K) := by
  refine F.ok sc_lof (fun vs H Q E h => ?_) (fun cdv A outer s H vs Q E hr h => ?_)
  · obtain ⟨l, L, rfl, _⟩ := h
    rfl
  · obtain ⟨l, L, rfl, hl, hL, k⟩ := h
    refine ⟨_, (pss_cons (ps_set (i := 1) sc_lof.nd rfl (Or.inl rfl) pe_int)
      (pss_cons (ps_for PassesOwn.never rfl (pi_list (pv 0)) (pg_name (i := 2) sc_lof.nd rfl (Or.inl rfl))
        (pss_one (ps_aug (i := 1) sc_lof.nd rfl (Or.inl rfl) (pe_op op_shl pe_int (pv 2)) iop_or)))
      (pss_one (ps_ret (pv 1))))), ?_⟩
    refine ⟨_, rfl, l, rfl, ⟨_, hl⟩, ?_⟩
    refine for_list (xs := nV L) (fun i σ H2 => ∃ v2 : Option V, σ = [some (.ref l), some (.int (lotOf (L.take i) : Nat)), v2] ∧ H2 = H) ⟨none, by rw [List.take_zero]; rfl, rfl⟩ (fun i σ H2 _ ⟨_, _, e⟩ => by rw [e]; exact hl) ?_ ?_
    · rintro i y σ H2 hy ⟨v2, rfl, rfl⟩
      obtain ⟨r, hr', rfl⟩ := nV_get hy
      have hr1 := hL r (List.mem_of_getElem? hr')
      refine ⟨_, rfl, _, rfl, _, _, rfl, rfl, ⟨by omega, by omega, by decide⟩, _, _, rfl, rfl, ?_⟩
      rw [shl_one, bits_or]
      refine ⟨some (.int (r : Int)), ?_, rfl⟩
      rw [show L.take (i + 1) = L.take i ++ [r] from by rw [List.take_add_one, hr']; rfl, lotOf_snoc]
      rfl
    · rintro σ H2 ⟨v2, rfl, rfl⟩
      refine ⟨_, rfl, ?_⟩
      rw [nV_len, List.take_length]
      exact k
/-! ### classes, their methods -/
def clsBody : Stmt → List Stmt
  | .ClassDef _ _ _ b .. => b
  | _ => []
structure MdF (K : PySem.W.Frag) (C : Addr) (m q : Str) (st : Stmt) (ps : List Str) (f : Addr) (fd : FuncData) : Prop where
  mt : Meth K C m f
  fn : Fun K m q st f fd
  b : Binds K fd ps []
structure InF (K : PySem.W.Frag) (q : Str) (st : Stmt) (ps : List Str) (f : Addr) (fd : FuncData) : Prop where
  fn : Fun K "__init__" q st f fd
  b : Binds K fd ps []
def sF (i : Nat) : Stmt := (clsBody (top 7)).getD i (.Pass ⟨0, 0, 0, 0⟩)
def sS (i : Nat) : Stmt := (clsBody (top 12)).getD i (.Pass ⟨0, 0, 0, 0⟩)
structure CsF (K : PySem.W.Frag) (mg : Str → Option Value) (C fI : Addr) : Prop where
  cl : Cls K C
  nE : NoAttr K C "exits"
  nF : NoAttr K C "first"
  nL : NoAttr K C "lit"
  mkc : Mk K C fI
  m : mg "Forks" = some (.ref C)
/-! ### houses with forks, in the heap -/
def FnAt (C x : Addr) (H : Hp) (F : Fn) : Prop := ∃ dx te la ra, H x = some (.ins C dx [("exits", .ref te), ("first", .int (F.first : Int)), ("lit", .int (F.lit : Int))]) ∧ H te = some (.tup [.ref la, .ref ra]) ∧ H la = some (.lst (nV F.lf)) ∧ H ra = some (.lst (nV F.rt))
theorem FnAt.keep {C x : Addr} {H H' : Hp} {F : Fn} (h : FnAt C x H F) (s : Same H H') : FnAt C x H' F := by
  obtain ⟨dx, te, la, ra, h1, h2, h3, h4⟩ := h
  exact ⟨dx, te, la, ra, s _ _ h1, s _ _ h2, s _ _ h3, s _ _ h4⟩
/-! ### Forks(..) -/
theorem sc_fi : FnScope ["self", "lefts", "rights", "first", "lit"] ["self", "lefts", "rights", "first", "lit"] (defScope (sF 0)) := ⟨rfl, rfl, rfl, by decide +kernel, rfl, by decide +kernel, by decide +kernel⟩
theorem putF_cons {x y : Str} {u v : V} {fs : List (Str × V)} (h : x ≠ y) : putF y v ((x, u) :: fs) = (x, u) :: putF y v fs := if_neg h
theorem putF_3 (v1 v2 v3 : V) : putF "lit" v3 (putF "first" v2 (putF "exits" v1 [])) = ([("exits", v1), ("first", v2), ("lit", v3)] : List (Str × V)) := by
  have e1 : putF "exits" v1 [] = ([("exits", v1)] : List (Str × V)) := rfl
  have e2 : putF "first" v2 [("exits", v1)] = ([("exits", v1), ("first", v2)] : List (Str × V)) := by rw [putF_cons (by decide +kernel)]; rfl
  rw [e1, e2, putF_cons (by decide +kernel), putF_cons (by decide +kernel)]
  rfl
def spFi (C : Addr) : Sp := fun vs H Q _ => ∃ (x dx la ra : Addr) (F : Fn), vs = [.ref x, .ref la, .ref ra, .int (F.first : Int), .int (F.lit : Int)] ∧ H x = some (.ins C dx []) ∧ H la = some (.lst (nV F.lf)) ∧ H ra = some (.lst (nV F.rt)) ∧ ∀ H', (∀ b u, H b = some u → b ≠ x → H' b = some u) → FnAt C x H' F → Q .non H'
theorem ok_fi {C fI : Addr} {dI : FuncData} (Z : CsF K mg C fI) (N : InF K "Forks.__init__" (sF 0) ["self", "lefts", "rights", "first", "lit"] fI dI) : FnOk P w K mg base CX0 1 fI dI ["self", "lefts", "rights", "first", "lit"] (spFi C) := by
  refine N.fn.ok sc_fi (fun vs H Q E h => ?_) (fun cdv A outer s H vs Q E hr h => ?_)
  · obtain ⟨x, dx, la, ra, F, rfl, _⟩ := h
    rfl
  · obtain ⟨x, dx, la, ra, F, rfl, hx, hla, hra, k⟩ := h
    refine ⟨_, (pss_cons (ps_fld (pv 0) (pe_tup (pa_cons (pv 1) (pa_cons (pv 2) pa_nil))) rfl)
      (pss_cons (ps_fld (pv 0) (pv 3) rfl) (pss_one (ps_fld (pv 0) (pv 4) rfl)))), ?_⟩
    refine ⟨_, rfl, _, rfl, (by show 2 ≤ sizeLine; decide), fun te hte => ?_⟩
    have n1 : x ≠ te := ne_of_none hx hte
    have hx1 : upd H te (.tup [.ref la, .ref ra]) x = some (.ins C dx []) := by rw [upd_ne n1]; exact hx
    refine ⟨_, rfl, x, C, dx, _, rfl, hx1, Z.cl, Z.nE, (by show 0 < 1000; decide), ?_⟩
    refine ⟨_, rfl, _, rfl, x, C, dx, _, rfl, upd_same, Z.cl, Z.nF, (by show 1 < 1000; decide), ?_⟩
    rw [upd_upd]
    refine ⟨_, rfl, _, rfl, x, C, dx, _, rfl, upd_same, Z.cl, Z.nL, (by show 2 < 1000; decide), ?_⟩
    rw [upd_upd, putF_3]
    refine k _ (fun b u e n => by rw [upd_ne n, upd_ne (ne_of_none e hte)]; exact e) ⟨dx, te, la, ra, upd_same, ?_, ?_, ?_⟩
    · rw [upd_ne n1.symm, upd_same]
    · rw [upd_ne (ne_of hla hx (by intro z; cases z)), upd_ne (ne_of_none hla hte)]; exact hla
    · rw [upd_ne (ne_of hra hx (by intro z; cases z)), upd_ne (ne_of_none hra hte)]; exact hra
/-! ### size, led, lets_empty -/
theorem sc_fs : FnScope ["self"] ["self"] (defScope (sF 1)) := ⟨rfl, rfl, rfl, by decide +kernel, rfl, by decide +kernel, by decide +kernel⟩
def spFs (C : Addr) : Sp := fun vs H Q _ => ∃ (x : Addr) (F : Fn), vs = [.ref x] ∧ FnAt C x H F ∧ Q (.int (F.lf.length : Int)) H
theorem ok_fs {C fI fS : Addr} {dS : FuncData} (T : Blt mg) (Z : CsF K mg C fI) (N : MdF K C "size" "Forks.size" (sF 1) ["self"] fS dS) : FnOk P w K mg base CX0 1 fS dS ["self"] (spFs C) := by
  refine N.fn.ok sc_fs (fun vs H Q E h => ?_) (fun cdv A outer s H vs Q E hr h => ?_)
  · obtain ⟨x, F, rfl, _⟩ := h
    rfl
  · obtain ⟨x, F, rfl, ⟨dx, te, la, ra, h1, h2, h3, h4⟩, k⟩ := h
    refine ⟨_, (pss_one (ps_ret (pe_callB call_len_seq (by rfl) T.len PySem.boot_len (pa_cons (pe_ix ix_tup (pe_fld (pv 0) rfl) pe_int (fun _ _ => rfl)) pa_nil)))), ?_⟩
    refine ⟨_, rfl, x, C, dx, _, _, rfl, h1, Z.cl, Z.nE, rfl, te, _, _, _, rfl, rfl, SqT.of h2, rfl, la, _, rfl, .inl (SqL.of h3), ?_⟩
    rw [nV_len]
    exact k
theorem sc_fl : FnScope ["self", "lot", "side"] ["self", "lot", "side"] (defScope (sF 2)) := ⟨rfl, rfl, rfl, by decide +kernel, rfl, by decide +kernel, by decide +kernel⟩
def spFl (C : Addr) : Sp := fun vs H Q _ => ∃ (x : Addr) (F : Fn) (c : Nat) (b : Bool), vs = [.ref x, .int (c : Int), .int (if b then 1 else 0)] ∧ FnAt C x H F ∧ c < 2 ^ (F.sd b).length ∧ Q (.int (jn (F.sd b) c : Nat)) H
theorem ok_fl {C fI fL fj : Addr} {dL dj : FuncData} (Z : CsF K mg C fI) (N : MdF K C "led" "Forks.led" (sF 2) ["self", "lot", "side"] fL dL) (Jn : Df K mg "joined" 3 ["lots", "chosen"] fj dj) : FnOk P w K mg base CX0 2 fL dL ["self", "lot", "side"] (spFl C) := by
  have G_join : FnOk P w K mg base CX0 1 fj dj ["lots", "chosen"] (spJoin K) := ok_join Jn.fn
  refine N.fn.ok sc_fl (fun vs H Q E h => ?_) (fun cdv A outer s H vs Q E hr h => ?_)
  · obtain ⟨x, F, c, b, rfl, _⟩ := h
    rfl
  · obtain ⟨x, F, c, b, rfl, ⟨dx, te, la, ra, h1, h2, h3, h4⟩, hc, k⟩ := h
    refine ⟨_, (pss_one (ps_ret (pe_call G_join hr rfl Jn.m Jn.fn.kp Jn.b .nil pass0 (pa_cons (pe_ix ix_tup (pe_fld (pv 0) rfl) (pv 2) (fun _ _ => rfl)) (pa_cons (pv 1) pa_nil))))), ?_⟩
    cases b
    · exact ⟨_, rfl, x, C, dx, _, _, rfl, h1, Z.cl, Z.nE, rfl, _, rfl, te, _, _, _, rfl, rfl, SqT.of h2, rfl, _, rfl, la, F.lf, c, rfl, SqL.of h3, hc, k⟩
    · exact ⟨_, rfl, x, C, dx, _, _, rfl, h1, Z.cl, Z.nE, rfl, _, rfl, te, _, _, _, rfl, rfl, SqT.of h2, rfl, _, rfl, ra, F.rt, c, rfl, SqL.of h4, hc, k⟩
theorem sc_fe : FnScope ["self"] ["self"] (defScope (sF 3)) := ⟨rfl, rfl, rfl, by decide +kernel, rfl, by decide +kernel, by decide +kernel⟩
def spFe (C : Addr) : Sp := fun vs H Q _ => ∃ (x : Addr) (F : Fn), vs = [.ref x] ∧ FnAt C x H F ∧ Q (.bl (decide (F.first &&& F.lit ≠ 0))) H
theorem ok_fe {C fI fE : Addr} {dE : FuncData} (Z : CsF K mg C fI) (N : MdF K C "lets_empty" "Forks.lets_empty" (sF 3) ["self"] fE dE) : FnOk P w K mg base CX0 1 fE dE ["self"] (spFe C) := by
  refine N.fn.ok sc_fe (fun vs H Q E h => ?_) (fun cdv A outer s H vs Q E hr h => ?_)
  · obtain ⟨x, F, rfl, _⟩ := h
    rfl
  · obtain ⟨x, F, rfl, ⟨dx, te, la, ra, h1, h2, h3, h4⟩, k⟩ := h
    refine ⟨_, (pss_one (ps_ret (pe_cmpR op_ne (pe_op op_and (pe_fld (pv 0) rfl) (pe_fld (pv 0) rfl)) pe_int (nomark _)))), ?_⟩
    refine ⟨_, rfl, x, C, dx, _, _, rfl, h1, Z.cl, Z.nF, rfl, _, rfl, x, C, dx, _, _, rfl, h1, Z.cl, Z.nL, rfl, _, _, rfl, rfl, rfl, ?_⟩
    rw [ne_bits]
    exact k
end
end Law

set_option maxHeartbeats 8000000
namespace Law
open PySem L2 Hs PyProof.Rows
section
variable {P : Program} {w : World} {K : PySem.W.Frag} {mg : Str → Option Value} {base : Heap} {f : Addr} {fd : FuncData}
/-! ### forks_of_house -/
theorem nd_room1 : (["room"] : List Str).Nodup := by decide +kernel
theorem nd_rh : (["room", "house"] : List Str).Nodup := by decide +kernel
theorem sc_foh : FnScope ["house", "lefts", "rights"] ["house"] (defScope (top 8)) := ⟨rfl, rfl, rfl, by decide +kernel, rfl, by decide +kernel, by decide +kernel⟩
def spFoh (C : Addr) : Sp := fun vs H Q _ => ∃ (a : Addr) (ps : List Addr) (hs : List Rm), vs = [.ref a] ∧ HouseAt H a ps hs ∧ Wf hs ∧ hs.length ≤ 20 ∧ ∀ (x : Addr) (H' : Hp), Same H H' → FnAt C x H' (fnHouse hs) → Q (.ref x) H'
theorem lits_map (hs : List Rm) (n : Nat) : ((List.range n).map fun i => if litAt hs i then some (V.int (i : Int)) else none).filterMap id = nV ((List.range n).filter (litAt hs)) := by
  unfold nV
  generalize List.range n = l
  induction l with
  | nil => rfl
  | cons x l ih =>
    rw [List.map_cons]
    by_cases h : litAt hs x = true
    · rw [if_pos h, List.filter_cons_of_pos h, List.map_cons, ← ih]
      rfl
    · rw [if_neg h, List.filter_cons_of_neg h, ← ih]
      rfl
theorem ok_foh {C fI fo fl : Addr} {dI do' dl : FuncData} (F : Fun K "forks_of_house" "forks_of_house" (top 8) f fd) (T : Blt mg) (Z : CsF K mg C fI) (N : InF K "Forks.__init__" (sF 0) ["self", "lefts", "rights", "first", "lit"] fI dI)
    (Lf : Df K mg "lot_of" 2 ["rooms"] fo do') (Li : Df K mg "is_lit" 5 ["house", "room"] fl dl) : FnOk P w K mg base CX0 3 f fd ["house"] (spFoh C) := by
  have G_init : FnOk P w K mg base CX0 1 fI dI ["self", "lefts", "rights", "first", "lit"] (spFi C) := ok_fi Z N
  have G_lof : FnOk P w K mg base CX0 2 fo do' ["rooms"] (spLof K) := (ok_lof Lf.fn).mono (by decide)
  have G_lit : FnOk P w K mg base CX0 2 fl dl ["house", "room"] spLit := (ok_lit Li.fn).mono (by decide)
  refine F.ok sc_foh (fun vs H Q E h => ?_) (fun cdv A outer s H vs Q E hr h => ?_)
  · obtain ⟨a, ps, hs, rfl, _⟩ := h
    rfl
  · obtain ⟨a, ps, hs, rfl, hh, wf, few, k⟩ := h
    refine ⟨_, (pss_cons (ps_setComp (i := 1) (N' := ["room"]) (cap := [none]) (cl := []) (g := gName 0) sc_foh.nd rfl (Or.inl rfl) rfl ?cs1 (pi_list (pv 0)) (by exact fun _ _ _ _ => (pg_name (i := 0) nd_room1 rfl (Or.inl rfl))) (by exact fun _ _ _ _ => pf_nil) (by exact fun _ _ _ _ => (pe_op op_shl pe_int (pe_ix (ix_tupK (K' := K) rfl) (pv 0) pe_int (fun _ _ => rfl)))))
      (pss_cons (ps_setComp (i := 2) (N' := ["room"]) (cap := [none]) (cl := []) (g := gName 0) sc_foh.nd rfl (Or.inl rfl) rfl ?cs2 (pi_list (pv 0)) (by exact fun _ _ _ _ => (pg_name (i := 0) nd_room1 rfl (Or.inl rfl))) (by exact fun _ _ _ _ => pf_nil) (by exact fun _ _ _ _ => (pe_op op_shl pe_int (pe_ix (ix_tupK (K' := K) rfl) (pv 0) pe_int (fun _ _ => rfl)))))
      (pss_one (ps_ret (pe_make Z.mkc G_init hr rfl Z.m N.b .nil pass0 (pa_cons (pv 1) (pa_cons (pv 2) (pa_cons pe_int (pa_cons (pe_call G_lof hr rfl Lf.m Lf.fn.kp Lf.b .nil pass0 (pa_cons (pe_comp (N' := ["room", "house"]) (cap := [none, some 0]) (cl := [("house", s.heap.objs.size + 1)]) (g := gName 0) (te := tVar 0) (ti := tB (tCall spLit [] E0 (tCons (tVar 1) (tCons (tVar 0) tNil)))) rfl ?cs3 (pi_range1 rfl T.range (pa_cons (pe_callB call_len_seq (by rfl) T.len PySem.boot_len (pa_cons (pv 0) pa_nil)) pa_nil)) (by exact fun _ _ _ _ => (pg_name (i := 0) nd_rh rfl (Or.inl rfl))) (by exact fun _ _ _ _ => pf_one (pt_val (pe_call G_lit hr rfl Li.m Li.fn.kp Li.b .nil pass0 (pa_cons (pv 1) (pa_cons (pv 0) pa_nil))))) (by exact fun _ _ _ _ => pv 0)) pa_nil)) pa_nil))))))))), ?_⟩
    case cs1 =>
      refine ⟨rfl, by decide +kernel, by decide +kernel, by kernel_rfl, rfl, nd_room1, sub_of (fun p hp => by simp at hp), fun p hp hf => ?_, fun i x j h1 h2 => ?_⟩
      · exact has_of (l := []) (ns := []) (by decide +kernel) (by intro y hy; simp at hy) p hp hf
      · match i, h1, h2 with
        | 0, _, h2 => cases h2
        | i + 1, h1, _ => cases h1
    case cs2 =>
      refine ⟨rfl, by decide +kernel, by decide +kernel, by kernel_rfl, rfl, nd_room1, sub_of (fun p hp => by simp at hp), fun p hp hf => ?_, fun i x j h1 h2 => ?_⟩
      · exact has_of (l := []) (ns := []) (by decide +kernel) (by intro y hy; simp at hy) p hp hf
      · match i, h1, h2 with
        | 0, _, h2 => cases h2
        | i + 1, h1, _ => cases h1
    case cs3 =>
      refine ⟨rfl, by decide +kernel, by decide +kernel, by kernel_rfl, rfl, nd_rh, sub_of (fun p hp => ?_), fun p hp hf => ?_, fun i x j h1 h2 => ?_⟩
      · rw [List.mem_singleton.mp hp]; rfl
      · exact has_of (l := [("house", s.heap.objs.size + 1)]) (ns := ["house"]) (by decide +kernel) (by intro y hy; rw [List.mem_singleton.mp hy]; exact ⟨_, rfl⟩) p hp hf
      · match i, h1, h2 with
        | 0, _, h2 => cases h2
        | 1, h1, h2 => cases h1; cases h2; exact ⟨rfl, Or.inl rfl, rfl⟩
        | i + 2, h1, _ => cases h1
    have hpl : (ps.map V.ref).length = hs.length := by rw [List.length_map, hh.rm.1]
    have rmAt : ∀ {H5 : Hp}, Same H H5 → ∀ (i : Nat) (x : V), (ps.map V.ref)[i]? = some x → ∃ (p : Addr) (r : Rm), x = .ref p ∧ hs[i]? = some r ∧ H5 p = some (.tup (rmV r)) := fun s5 i x hx => by
      rw [List.getElem?_map] at hx
      cases hp : ps[i]? with
      | none => rw [hp] at hx; cases hx
      | some p =>
        rw [hp] at hx
        cases hx
        have hi : i < hs.length := by rw [← hh.rm.1]; exact (List.getElem?_eq_some_iff.mp hp).1
        exact ⟨p, hs[i], rfl, by simp [hi], s5 _ _ (hh.rm.2 i p _ hp (by simp [hi]))⟩
    -- lefts
    refine ⟨_, rfl, a, rfl, ⟨_, SqL.of hh.ob⟩, fun la hla => ?_⟩
    refine comp_vals (xs := ps.map V.ref) (ys := nV (fnHouse hs).lf) (fun σ => ∃ v0, σ = [v0]) (it_list (SqL.of hh.ob)) (by rw [nV_len, hpl]; exact house_len hs false) (by rw [hpl]; omega) hla ⟨none, rfl⟩ ?_ ?_ gm_name
    · rintro i y z σ H5 Qk hy hz ⟨v0, rfl⟩ s5 k5
      obtain ⟨p, r, rfl, hr', hp⟩ := rmAt s5 i y hy
      obtain ⟨c, hc, rfl⟩ := nV_get hz
      have hc' : (hs.map fun r => 2 ^ r.l)[i]? = some c := hc
      rw [List.getElem?_map, hr'] at hc'
      cases hc'
      have hlt := (wf.ex r (List.mem_of_getElem? hr')).1
      refine ⟨_, rfl, p, _, _, _, rfl, rfl, SqT.of hp, rfl, _, _, rfl, rfl, ⟨by omega, by omega, by decide⟩, ?_⟩
      rw [shl_one]
      exact k5 _ _ ⟨_, rfl⟩ (Same.refl _)
    intro H1 s1 hl1
    -- rights
    have hh1 := hh.same s1
    refine ⟨_, rfl, a, rfl, ⟨_, SqL.of hh1.ob⟩, fun ra hra => ?_⟩
    refine comp_vals (xs := ps.map V.ref) (ys := nV (fnHouse hs).rt) (fun σ => ∃ v0, σ = [v0]) (it_list (SqL.of hh1.ob)) (by rw [nV_len, hpl]; exact house_len hs true) (by rw [hpl]; omega) hra ⟨none, rfl⟩ ?_ ?_ gm_name
    · rintro i y z σ H5 Qk hy hz ⟨v0, rfl⟩ s5 k5
      obtain ⟨p, r, rfl, hr', hp⟩ := rmAt (s1.trans s5) i y hy
      obtain ⟨c, hc, rfl⟩ := nV_get hz
      have hc' : (hs.map fun r => 2 ^ r.r)[i]? = some c := hc
      rw [List.getElem?_map, hr'] at hc'
      cases hc'
      have hlt := (wf.ex r (List.mem_of_getElem? hr')).2
      refine ⟨_, rfl, p, _, _, _, rfl, rfl, SqT.of hp, rfl, _, _, rfl, rfl, ⟨by omega, by omega, by decide⟩, ?_⟩
      rw [shl_one]
      exact k5 _ _ ⟨_, rfl⟩ (Same.refl _)
    intro H2 s2 hr2
    have s02 := s1.trans s2
    have hh2 := hh.same s02
    -- Forks(lefts, rights, 1, lot_of(..))
    refine ⟨_, rfl, _, rfl, _, rfl, a, _, rfl, .inl (SqL.of hh2.ob), _, rfl, ?_⟩
    rw [hpl]
    refine ⟨by omega, by omega, ?_⟩
    rw [Int.toNat_natCast]
    refine fun D hD => ?_
    refine comp_gen (os := (List.range hs.length).map fun i => if litAt hs i then some (V.int (i : Int)) else none) (fun σ => ∃ v0, σ = [v0, some (.ref a)]) it_range (by simp) (by simp; omega) hD ⟨none, rfl⟩ ?_ ?_
    · rintro i x o σ H5 Qk hx ho ⟨v0, rfl⟩ s5 k5
      have hi : i < hs.length := by
        have := (List.getElem?_eq_some_iff.mp hx).1
        simpa using this
      obtain rfl : x = .int (i : Int) := by simpa [hi] using hx.symm
      obtain rfl : o = if litAt hs i then some (V.int (i : Int)) else none := by
        rw [List.getElem?_map, List.getElem?_range hi] at ho
        exact (Option.some.inj ho).symm
      have e0 : hs[i]? = some hs[i] := by simp [hi]
      have l0 : litAt hs i = hs[i].lit := by rw [litAt, e0]
      refine ⟨_, rfl, _, rfl, a, ps, hs, i, hs[i], rfl, hh2.same s5, e0, hs[i].lit, rfl, ?_⟩
      have k6 := k5 [some (.int (i : Int)), some (.ref a)] H5 ⟨_, rfl⟩ (Same.refl _)
      rw [l0] at k6
      cases hl : hs[i].lit
      · rw [hl] at k6
        exact ifF (by decide) k6
      · rw [hl] at k6
        exact ifT rfl ⟨_, rfl, k6⟩
    intro H3 s3 hD3
    rw [lits_map] at hD3
    refine ⟨D, _, rfl, SqL.of hD3, fun r hr' => ?_, ?_⟩
    · have := List.mem_range.mp (List.mem_filter.mp hr').1
      omega
    intro x dx hx hdx nxd
    have s03 := s02.trans s3
    have kx : ∀ b u, H3 b = some u → upd (upd H3 dx (.own x)) x (.ins C dx []) b = some u ∧ b ≠ x := fun b u e => by
      have n1 : b ≠ x := ne_of_none e hx
      rw [upd_ne n1, upd_ne (ne_of_none e hdx)]
      exact ⟨e, n1⟩
    refine ⟨x, dx, la, ra, fnHouse hs, rfl, upd_same, (kx _ _ (s3 _ _ (s2 _ _ hl1))).1, (kx _ _ (s3 _ _ hr2)).1, fun H4 k4 hF => ⟨rfl, k x H4 (fun b u e => ?_) hF⟩⟩
    exact k4 b u (kx _ _ (s03 _ _ e)).1 (kx _ _ (s03 _ _ e)).2
end
end Law

set_option maxHeartbeats 8000000
namespace Law
open PySem L2 Hs PyProof.Rows
section
variable {P : Program} {w : World} {K : PySem.W.Frag} {mg : Str → Option Value} {base : Heap} {f : Addr} {fd : FuncData}
/-! ### Survey -/
structure CsS (K : PySem.W.Frag) (mg : Str → Option Value) (C fI : Addr) : Prop where
  cl : Cls K C
  nF : NoAttr K C "forks"
  nN : NoAttr K C "numbers"
  nL : NoAttr K C "lots"
  nR : NoAttr K C "rooms"
  mkc : Mk K C fI
  m : mg "Survey" = some (.ref C)
def kvN : List Nat → Nat → List (Key × V)
  | [], _ => []
  | c :: r, i => (Sum.inl (c : Int), V.int (i : Int)) :: kvN r (i + 1)
theorem kvN_len : ∀ (as : List Nat) (i : Nat), (kvN as i).length = as.length
  | [], _ => rfl
  | c :: r, i => by show (kvN r (i + 1)).length + 1 = _; rw [kvN_len r]; rfl
theorem kvN_keys : ∀ (as : List Nat) (i : Nat), (kvN as i).map (·.1) = as.map fun c : Nat => (Sum.inl (c : Int) : Key)
  | [], _ => rfl
  | c :: r, i => by show Sum.inl (c : Int) :: (kvN r (i + 1)).map (·.1) = _; rw [kvN_keys r]; rfl
theorem kvN_snoc (c : Nat) : ∀ (as : List Nat) (i : Nat), kvN (as ++ [c]) i = kvN as i ++ [(Sum.inl (c : Int), V.int ((i + as.length : Nat) : Int))]
  | [], i => rfl
  | x :: r, i => by
    show (Sum.inl (x : Int), V.int (i : Int)) :: kvN (r ++ [c]) (i + 1) = (Sum.inl (x : Int), V.int (i : Int)) :: (kvN r (i + 1) ++ _)
    rw [kvN_snoc c r]
    rw [show i + 1 + r.length = i + (x :: r).length from by rw [List.length_cons]; omega]
theorem kvN_get {c : Nat} : ∀ (as : List Nat) (i k : Nat), as[k]? = some c → (kvN as i)[k]? = some (Sum.inl (c : Int), V.int ((i + k : Nat) : Int))
  | [], _, _, h => by simp at h
  | x :: r, i, 0, h => by cases h; rfl
  | x :: r, i, k + 1, h => by
    show (kvN r (i + 1))[k]? = _
    rw [kvN_get r (i + 1) k (by simpa using h), show i + 1 + k = i + (k + 1) from by omega]
theorem kvN_mem {as : List Nat} {c : Nat} : (Sum.inl (c : Int) : Key) ∈ (kvN as 0).map (·.1) ↔ c ∈ as := by
  rw [kvN_keys, List.mem_map]
  constructor
  · rintro ⟨x, hx, e⟩
    injection e with e
    have : x = c := by omega
    exact this ▸ hx
  · intro h
    exact ⟨c, h, rfl⟩
theorem kvN_nd : ∀ {as : List Nat} (i : Nat), as.Nodup → ((kvN as i).map (·.1)).Nodup
  | [], _, _ => by simp [kvN]
  | x :: r, i, h => by
    obtain ⟨h1, h2⟩ := List.nodup_cons.mp h
    show (Sum.inl (x : Int) :: (kvN r (i + 1)).map (·.1)).Nodup
    refine List.nodup_cons.mpr ⟨fun z => h1 ?_, kvN_nd (i + 1) h2⟩
    rw [kvN_keys, ← kvN_keys r 0] at z
    exact kvN_mem.mp z
theorem kvN_val {as : List Nat} {k c : Nat} (nd : as.Nodup) (h : as[k]? = some c) : valV (kvN as 0) (Sum.inl (c : Int)) = some (.int (k : Int)) := by
  refine valV_at (i := k) (kvN_nd 0 nd) ?_
  rw [kvN_get as 0 k h, Nat.zero_add]
theorem kvN_no {as : List Nat} {c : Nat} (h : c ∉ as) : valV (kvN as 0) (Sum.inl (c : Int)) = none := valV_no fun z => h (kvN_mem.mp z)
theorem kvN_put {as : List Nat} {c : Nat} (h : c ∉ as) : putK (kvN as 0) (Sum.inl (c : Int)) (.int (as.length : Int)) = kvN (as ++ [c]) 0 := by
  rw [putK_new fun z => h (kvN_mem.mp z), kvN_snoc, Nat.zero_add]
structure SvZ where
  x : Addr
  dx : Addr
  fx : Addr
  fd : Addr
  te : Addr
  la : Addr
  ra : Addr
  d : Addr
  m : Addr
  r : Addr
structure SvAt (C Cf : Addr) (Z : SvZ) (F : Fn) (H : Hp) (as : List Nat) (ps : List Addr) (rs : List Rm) : Prop where
  ob : H Z.x = some (.ins C Z.dx [("forks", .ref Z.fx), ("numbers", .ref Z.d), ("lots", .ref Z.m), ("rooms", .ref Z.r)])
  fo : H Z.fx = some (.ins Cf Z.fd [("exits", .ref Z.te), ("first", .int (F.first : Int)), ("lit", .int (F.lit : Int))])
  ft : H Z.te = some (.tup [.ref Z.la, .ref Z.ra])
  fl : H Z.la = some (.lst (nV F.lf))
  fr : H Z.ra = some (.lst (nV F.rt))
  num : H Z.d = some (.dK (kvN as 0))
  lots : H Z.m = some (.lst (nV as))
  rms : H Z.r = some (.lst (ps.map V.ref))
  rm : Rooms H ps rs
  n1 : Z.la ≠ Z.m
  n2 : Z.la ≠ Z.r
  n3 : Z.ra ≠ Z.m
  n4 : Z.ra ≠ Z.r
  n5 : Z.m ≠ Z.r
def FrZ (Z : SvZ) (H H' : Hp) : Prop := ∀ b u, H b = some u → b ≠ Z.d → b ≠ Z.m → b ≠ Z.r → H' b = some u
theorem FrZ.trans {Z : SvZ} {H H' H'' : Hp} (a : FrZ Z H H') (b : FrZ Z H' H'') : FrZ Z H H'' := fun c u e n1 n2 n3 => b c u (a c u e n1 n2 n3) n1 n2 n3
theorem FrZ.of {Z : SvZ} {H H' : Hp} (s : Same H H') : FrZ Z H H' := fun c u e _ _ _ => s c u e
section
variable {C Cf : Addr} {Z : SvZ} {F : Fn} {H H' : Hp} {as : List Nat} {ps : List Addr} {rs : List Rm}
theorem SvAt.fk (h : SvAt C Cf Z F H as ps rs) : FnAt Cf Z.fx H F := ⟨Z.fd, Z.te, Z.la, Z.ra, h.fo, h.ft, h.fl, h.fr⟩
theorem SvAt.same (h : SvAt C Cf Z F H as ps rs) (s : Same H H') : SvAt C Cf Z F H' as ps rs :=
  { h with
    ob := s _ _ h.ob
    fo := s _ _ h.fo
    ft := s _ _ h.ft
    fl := s _ _ h.fl
    fr := s _ _ h.fr
    num := s _ _ h.num
    lots := s _ _ h.lots
    rms := s _ _ h.rms
    rm := h.rm.same s }
theorem SvAt.setD (h : SvAt C Cf Z F H as ps rs) (c : Nat) : SvAt C Cf Z F (upd (upd H Z.d (.dK (kvN (as ++ [c]) 0))) Z.m (.lst (nV (as ++ [c])))) (as ++ [c]) ps rs := by
  have nd : ∀ b u, H b = some u → (∀ kvs, u ≠ .dK kvs) → b ≠ Z.m → upd (upd H Z.d (.dK (kvN (as ++ [c]) 0))) Z.m (.lst (nV (as ++ [c]))) b = some u := fun b u e n1 n2 => by
    rw [upd_ne n2, upd_ne (ne_of e h.num (n1 _))]
    exact e
  have nl : ∀ b u, H b = some u → (∀ xs, u ≠ .lst xs) → b ≠ Z.m := fun b u e n => ne_of e h.lots (n _)
  exact { h with
    ob := nd _ _ h.ob (fun _ z => by cases z) (nl _ _ h.ob fun _ z => by cases z)
    fo := nd _ _ h.fo (fun _ z => by cases z) (nl _ _ h.fo fun _ z => by cases z)
    ft := nd _ _ h.ft (fun _ z => by cases z) (nl _ _ h.ft fun _ z => by cases z)
    fl := nd _ _ h.fl (fun _ z => by cases z) h.n1
    fr := nd _ _ h.fr (fun _ z => by cases z) h.n3
    num := by rw [upd_ne (ne_of h.num h.lots (by intro z; cases z)), upd_same]
    lots := upd_same
    rms := nd _ _ h.rms (fun _ z => by cases z) h.n5.symm
    rm := ⟨h.rm.1, fun i p r e1 e2 => nd _ _ (h.rm.2 i p r e1 e2) (fun _ z => by cases z) (nl _ _ (h.rm.2 i p r e1 e2) fun _ z => by cases z)⟩ }
theorem SvAt.setR (h : SvAt C Cf Z F H as ps rs) {t : Addr} {r : Rm} (ht : H t = some (.tup (rmV r))) : SvAt C Cf Z F (upd H Z.r (.lst (ps.map V.ref ++ [.ref t]))) as (ps ++ [t]) (rs ++ [r]) := by
  have nl : ∀ b u, H b = some u → (∀ xs, u ≠ .lst xs) → upd H Z.r (.lst (ps.map V.ref ++ [.ref t])) b = some u := fun b u e n => by rw [upd_ne (ne_of e h.rms (n _))]; exact e
  exact { h with
    ob := nl _ _ h.ob fun _ z => by cases z
    fo := nl _ _ h.fo fun _ z => by cases z
    ft := nl _ _ h.ft fun _ z => by cases z
    fl := by rw [upd_ne h.n2]; exact h.fl
    fr := by rw [upd_ne h.n4]; exact h.fr
    num := nl _ _ h.num fun _ z => by cases z
    lots := by rw [upd_ne h.n5]; exact h.lots
    rms := by rw [upd_same, List.map_append]; rfl
    rm := Rooms.snoc ⟨h.rm.1, fun i p r e1 e2 => nl _ _ (h.rm.2 i p r e1 e2) fun _ z => by cases z⟩ (nl _ _ ht fun _ z => by cases z) }
end
/-! ### Survey(forks) -/
theorem sc_si : FnScope ["self", "forks"] ["self", "forks"] (defScope (sS 0)) := ⟨rfl, rfl, rfl, by decide +kernel, rfl, by decide +kernel, by decide +kernel⟩
def spSi (C Cf : Addr) : Sp := fun vs H Q _ => ∃ (x dx fx : Addr) (F : Fn), vs = [.ref x, .ref fx] ∧ H x = some (.ins C dx []) ∧ FnAt Cf fx H F ∧
  ∀ (Z : SvZ) (H' : Hp), Z.x = x → SvAt C Cf Z F H' [F.first] [] [] → H Z.d = none → H Z.m = none → H Z.r = none → (∀ b u, H b = some u → b ≠ x → H' b = some u) → Q .non H'
theorem ok_si {C Cf fI fI' : Addr} {dI : FuncData} (Z : CsS K mg C fI) (Zf : CsF K mg Cf fI') (N : InF K "Survey.__init__" (sS 0) ["self", "forks"] fI dI) : FnOk P w K mg base CX0 1 fI dI ["self", "forks"] (spSi C Cf) := by
  refine N.fn.ok sc_si (fun vs H Q E h => ?_) (fun cdv A outer s H vs Q E hr h => ?_)
  · obtain ⟨x, dx, fx, F, rfl, _⟩ := h
    rfl
  · obtain ⟨x, dx, fx, F, rfl, hx, ⟨fd, te, la, ra, h1, h2, h3, h4⟩, k⟩ := h
    have hu := hu_of hr
    refine ⟨_, (pss_cons (ps_fld (pv 0) (pv 1) rfl)
      (pss_cons (ps_fld (pv 0) (pe_disp1 .s (Nat.lt_of_succ_lt hu) (pe_fld (pv 1) rfl) pe_int) rfl)
      (pss_cons (ps_fld (pv 0) (pe_lst (pa_cons (pe_fld (pv 1) rfl) pa_nil)) rfl)
      (pss_one (ps_fld (pv 0) (pe_lst pa_nil) rfl))))), ?_⟩
    -- the address of the forks may be that of nothing else
    have fxx : fx ≠ x := fun z => by rw [z, hx] at h1; cases h1
    have KP : ∀ {H1 H2 : Hp} {o : HO}, (∀ b u, H b = some u → b ≠ x → H1 b = some u) → Same H1 H2 → (∀ b u, H b = some u → b ≠ x → upd H2 x o b = some u) := fun h s b u e n => by rw [upd_ne n]; exact s _ _ (h b u e n)
    -- self.forks = forks
    refine ⟨_, rfl, _, rfl, x, C, dx, _, rfl, hx, Z.cl, Z.nF, (by show 0 < 1000; decide), ?_⟩
    have K1 : ∀ b u, H b = some u → b ≠ x → upd H x (.ins C dx (putF "forks" (.ref fx) [])) b = some u := KP (fun b u e _ => e) (Same.refl H)
    have hx1 : upd H x (.ins C dx (putF "forks" (.ref fx) [])) x = some (.ins C dx [("forks", .ref fx)]) := upd_same
    have N1 : ∀ b, upd H x (.ins C dx (putF "forks" (.ref fx) [])) b = none → H b = none ∧ b ≠ x := fun b e => by
      by_cases z : b = x
      · rw [z, upd_same] at e; cases e
      · rw [upd_ne z] at e; exact ⟨e, z⟩
    generalize upd H x (.ins C dx (putF "forks" (.ref fx) [])) = H1 at K1 hx1 N1
    -- self.numbers = {forks.first: 0}
    refine fun d hd => ?_
    have sd : Same H1 (upd H1 d (.dK [])) := same_upd hd
    refine ⟨_, rfl, fx, Cf, fd, _, _, rfl, sd _ _ (K1 _ _ h1 fxx), Zf.cl, Zf.nF, rfl, upd_same, Sum.inl (F.first : Int), rfl, ?_⟩
    have dxn : d ≠ x := (N1 d hd).2
    have hx2 : upd (upd H1 d (Kd.mk .s [])) d (Kd.mk .s [(Sum.inl (F.first : Int), .int 0)]) x = some (.ins C dx [("forks", .ref fx)]) := by rw [upd_ne dxn.symm, upd_ne dxn.symm]; exact hx1
    refine ⟨_, rfl, x, C, dx, _, rfl, hx2, Z.cl, Z.nN, (by show 1 < 1000; decide), ?_⟩
    have e2 : putF "numbers" (.ref d) [("forks", .ref fx)] = ([("forks", .ref fx), ("numbers", .ref d)] : List (Str × V)) := by rw [putF_cons (by decide +kernel)]; rfl
    rw [e2, upd_upd]
    have K2 : ∀ b u, H b = some u → b ≠ x → upd (upd H1 d (Kd.mk .s [(Sum.inl (F.first : Int), .int 0)])) x (.ins C dx [("forks", .ref fx), ("numbers", .ref d)]) b = some u := KP K1 (same_upd hd)
    have N2 : ∀ b, upd (upd H1 d (Kd.mk .s [(Sum.inl (F.first : Int), .int 0)])) x (.ins C dx [("forks", .ref fx), ("numbers", .ref d)]) b = none → H1 b = none ∧ b ≠ x ∧ b ≠ d := fun b e => by
      by_cases z : b = x
      · rw [z, upd_same] at e; cases e
      · rw [upd_ne z] at e
        by_cases y : b = d
        · rw [y, upd_same] at e; cases e
        · rw [upd_ne y] at e; exact ⟨e, z, y⟩
    have hd2 : upd (upd H1 d (Kd.mk .s [(Sum.inl (F.first : Int), .int 0)])) x (.ins C dx [("forks", .ref fx), ("numbers", .ref d)]) d = some (.dK (kvN [F.first] 0)) := by rw [upd_ne dxn, upd_same]; rfl
    have hx3 : upd (upd H1 d (Kd.mk .s [(Sum.inl (F.first : Int), .int 0)])) x (.ins C dx [("forks", .ref fx), ("numbers", .ref d)]) x = some (.ins C dx [("forks", .ref fx), ("numbers", .ref d)]) := upd_same
    generalize upd (upd H1 d (Kd.mk .s [(Sum.inl (F.first : Int), .int 0)])) x (.ins C dx [("forks", .ref fx), ("numbers", .ref d)]) = H2 at K2 N2 hd2 hx3
    -- self.lots = [forks.first]
    refine ⟨_, rfl, fx, Cf, fd, _, _, rfl, K2 _ _ h1 fxx, Zf.cl, Zf.nF, rfl, (by show 1 ≤ sizeLine; decide), fun m hm => ?_⟩
    have mx : m ≠ x := (N2 m hm).2.1
    have md : m ≠ d := (N2 m hm).2.2
    have hx4 : upd H2 m (.lst [.int (F.first : Int)]) x = some (.ins C dx [("forks", .ref fx), ("numbers", .ref d)]) := by rw [upd_ne mx.symm]; exact hx3
    refine ⟨_, rfl, x, C, dx, _, rfl, hx4, Z.cl, Z.nL, (by show 2 < 1000; decide), ?_⟩
    have e3 : putF "lots" (.ref m) [("forks", .ref fx), ("numbers", .ref d)] = ([("forks", .ref fx), ("numbers", .ref d), ("lots", .ref m)] : List (Str × V)) := by rw [putF_cons (by decide +kernel), putF_cons (by decide +kernel)]; rfl
    rw [e3]
    have K3 : ∀ b u, H b = some u → b ≠ x → upd (upd H2 m (.lst [.int (F.first : Int)])) x (.ins C dx [("forks", .ref fx), ("numbers", .ref d), ("lots", .ref m)]) b = some u := KP K2 (same_upd hm)
    have N3 : ∀ b, upd (upd H2 m (.lst [.int (F.first : Int)])) x (.ins C dx [("forks", .ref fx), ("numbers", .ref d), ("lots", .ref m)]) b = none → H2 b = none ∧ b ≠ x ∧ b ≠ m := fun b e => by
      by_cases z : b = x
      · rw [z, upd_same] at e; cases e
      · rw [upd_ne z] at e
        by_cases y : b = m
        · rw [y, upd_same] at e; cases e
        · rw [upd_ne y] at e; exact ⟨e, z, y⟩
    have hd3 : upd (upd H2 m (.lst [.int (F.first : Int)])) x (.ins C dx [("forks", .ref fx), ("numbers", .ref d), ("lots", .ref m)]) d = some (.dK (kvN [F.first] 0)) := by rw [upd_ne dxn, upd_ne md.symm]; exact hd2
    have hm3 : upd (upd H2 m (.lst [.int (F.first : Int)])) x (.ins C dx [("forks", .ref fx), ("numbers", .ref d), ("lots", .ref m)]) m = some (.lst (nV [F.first])) := by rw [upd_ne mx, upd_same]; rfl
    have hx5 : upd (upd H2 m (.lst [.int (F.first : Int)])) x (.ins C dx [("forks", .ref fx), ("numbers", .ref d), ("lots", .ref m)]) x = some (.ins C dx [("forks", .ref fx), ("numbers", .ref d), ("lots", .ref m)]) := upd_same
    generalize upd (upd H2 m (.lst [.int (F.first : Int)])) x (.ins C dx [("forks", .ref fx), ("numbers", .ref d), ("lots", .ref m)]) = H3 at K3 N3 hd3 hm3 hx5
    -- self.rooms = []
    refine ⟨Nat.zero_le _, fun r hr1 => ?_⟩
    have rx : r ≠ x := (N3 r hr1).2.1
    have hx6 : upd H3 r (.lst []) x = some (.ins C dx [("forks", .ref fx), ("numbers", .ref d), ("lots", .ref m)]) := by rw [upd_ne rx.symm]; exact hx5
    refine ⟨_, rfl, x, C, dx, _, rfl, hx6, Z.cl, Z.nR, (by show 3 < 1000; decide), ?_⟩
    have e4 : putF "rooms" (.ref r) [("forks", .ref fx), ("numbers", .ref d), ("lots", .ref m)] = ([("forks", .ref fx), ("numbers", .ref d), ("lots", .ref m), ("rooms", .ref r)] : List (Str × V)) := by rw [putF_cons (by decide +kernel), putF_cons (by decide +kernel), putF_cons (by decide +kernel)]; rfl
    rw [e4]
    have K4 : ∀ b u, H b = some u → b ≠ x → upd (upd H3 r (.lst [])) x (.ins C dx [("forks", .ref fx), ("numbers", .ref d), ("lots", .ref m), ("rooms", .ref r)]) b = some u := KP K3 (same_upd hr1)
    have rn : ∀ b u, H3 b = some u → b ≠ r := fun b u e z => by rw [z, hr1] at e; cases e
    have mn : ∀ b u, H2 b = some u → b ≠ m := fun b u e z => by rw [z, hm] at e; cases e
    have tx : te ≠ x := ne_of h2 hx (by intro z; cases z)
    have lx : la ≠ x := ne_of h3 hx (by intro z; cases z)
    have rrx : ra ≠ x := ne_of h4 hx (by intro z; cases z)
    refine k ⟨x, dx, fx, fd, te, la, ra, d, m, r⟩ _ rfl ⟨upd_same, K4 _ _ h1 fxx, K4 _ _ h2 tx, K4 _ _ h3 lx, K4 _ _ h4 rrx, ?_, ?_, ?_, ⟨rfl, fun i p q e => by simp at e⟩, mn _ _ (K2 _ _ h3 lx), rn _ _ (K3 _ _ h3 lx), mn _ _ (K2 _ _ h4 rrx), rn _ _ (K3 _ _ h4 rrx), rn _ _ hm3⟩ (N1 d hd).1 (N1 m (N2 m hm).1).1 (N1 r (N2 r (N3 r hr1).1).1).1 K4
    · rw [upd_ne dxn, upd_ne (rn _ _ hd3)]; exact hd3
    · rw [upd_ne mx, upd_ne (rn _ _ hm3)]; exact hm3
    · rw [upd_ne rx, upd_same]; rfl
/-! ### is_whole, number -/
theorem sc_sw : FnScope ["self"] ["self"] (defScope (sS 1)) := ⟨rfl, rfl, rfl, by decide +kernel, rfl, by decide +kernel, by decide +kernel⟩
theorem dec_nat (a b : Nat) : decide (V.int (a : Int) = V.int (b : Int)) = decide (a = b) := by
  by_cases h : a = b
  · rw [h, decide_eq_true rfl, decide_eq_true rfl]
  · rw [decide_eq_false h, decide_eq_false fun z => h (by injection z with z; omega)]
def spSw (C Cf : Addr) : Sp := fun vs H Q _ => ∃ (Z : SvZ) (F : Fn) (as : List Nat) (ps : List Addr) (rs : List Rm), vs = [.ref Z.x] ∧ SvAt C Cf Z F H as ps rs ∧ Q (.bl (decide (rs.length = as.length))) H
theorem ok_sw {C Cf fI fW : Addr} {dW : FuncData} (T : Blt mg) (Z : CsS K mg C fI) (N : MdF K C "is_whole" "Survey.is_whole" (sS 1) ["self"] fW dW) : FnOk P w K mg base CX0 1 fW dW ["self"] (spSw C Cf) := by
  refine N.fn.ok sc_sw (fun vs H Q E h => ?_) (fun cdv A outer s H vs Q E hr h => ?_)
  · obtain ⟨Y, F, as, ps, rs, rfl, _⟩ := h
    rfl
  · obtain ⟨Y, F, as, ps, rs, rfl, hS, k⟩ := h
    refine ⟨_, (pss_one (ps_ret (pe_cmpR op_eq (pe_callB call_len_seq (by rfl) T.len PySem.boot_len (pa_cons (pe_fld (pv 0) rfl) pa_nil)) (pe_callB call_len_seq (by rfl) T.len PySem.boot_len (pa_cons (pe_fld (pv 0) rfl) pa_nil)) (nomark _)))), ?_⟩
    refine ⟨_, rfl, Y.x, C, Y.dx, _, _, rfl, hS.ob, Z.cl, Z.nR, rfl, Y.r, _, rfl, .inl (SqL.of hS.rms), _, rfl, Y.x, C, Y.dx, _, _, rfl, hS.ob, Z.cl, Z.nL, rfl, Y.m, _, rfl, .inl (SqL.of hS.lots), rfl, ?_⟩
    rw [nV_len, List.length_map, hS.rm.1, dec_nat]
    exact k
theorem sc_sn : FnScope ["self", "lot"] ["self", "lot"] (defScope (sS 2)) := ⟨rfl, rfl, rfl, by decide +kernel, rfl, by decide +kernel, by decide +kernel⟩
def spSn (C Cf : Addr) : Sp := fun vs H Q _ => ∃ (Z : SvZ) (F : Fn) (as : List Nat) (ps : List Addr) (rs : List Rm) (c : Nat), vs = [.ref Z.x, .int (c : Int)] ∧ SvAt C Cf Z F H as ps rs ∧ as.Nodup ∧ as.length < sizeLine ∧
  ∀ (i : Nat) (as' : List Nat) (H' : Hp), SvAt C Cf Z F H' as' ps rs → FrZ Z H H' → ((as' = as ∧ as[i]? = some c) ∨ (c ∉ as ∧ as' = as ++ [c] ∧ i = as.length)) → Q (.int (i : Int)) H'
theorem ok_sn {C Cf fI fN : Addr} {dN : FuncData} (T : Blt mg) (Z : CsS K mg C fI) (N : MdF K C "number" "Survey.number" (sS 2) ["self", "lot"] fN dN) : FnOk P w K mg base CX0 1 fN dN ["self", "lot"] (spSn C Cf) := by
  refine N.fn.ok sc_sn (fun vs H Q E h => ?_) (fun cdv A outer s H vs Q E hr h => ?_)
  · obtain ⟨Y, F, as, ps, rs, c, rfl, _⟩ := h
    rfl
  · obtain ⟨Y, F, as, ps, rs, c, rfl, hS, nd, few, k⟩ := h
    have hu := hu_of hr
    refine ⟨_, (pss_cons (ps_if (pt_cmp (pc_dnotin hu (pv 1) (pe_fld (pv 0) rfl)))
        (pss_cons (ps_dput hu (pe_fld (pv 0) rfl) (pv 1) (pe_callB call_len_seq (by rfl) T.len PySem.boot_len (pa_cons (pe_fld (pv 0) rfl) pa_nil)) rfl)
        (pss_one (ps_expr (pe_bm PySem.F.plainAttrs_list PySem.F.slot_list_append PySem.F.type_list_append mt_append (pe_fld (pv 0) rfl) (pa_cons (pv 1) pa_nil)))))
        pss_nil)
      (pss_one (ps_ret (pe_dget hu (pe_fld (pv 0) rfl) (pv 1) (fun _ _ => rfl))))), ?_⟩
    have g : DGet H Y.d (.int (c : Int)) (valV (kvN as 0) (Sum.inl (c : Int))) := DGet.k (k := Sum.inl (c : Int)) hS.num
    refine ⟨_, rfl, _, rfl, Y.x, C, Y.dx, _, _, rfl, hS.ob, Z.cl, Z.nN, rfl, Y.d, _, rfl, g, _, rfl, ?_⟩
    by_cases hin : c ∈ as
    · obtain ⟨i, hi⟩ := List.getElem?_of_mem hin
      have hv := kvN_val nd hi
      refine ifF (by rw [hv]; rfl) ?_
      rw [hv] at g
      exact ⟨_, rfl, Y.x, C, Y.dx, _, _, rfl, hS.ob, Z.cl, Z.nN, rfl, _, rfl, Y.d, _, rfl, g, k i as H hS (.of (Same.refl H)) (.inl ⟨rfl, hi⟩)⟩
    · refine ifT (by rw [kvN_no hin]; rfl) ?_
      refine ⟨_, rfl, Y.x, C, Y.dx, _, _, rfl, hS.ob, Z.cl, Z.nL, rfl, Y.m, _, rfl, .inl (SqL.of hS.lots), ?_⟩
      rw [nV_len]
      refine ⟨_, rfl, Y.x, C, Y.dx, _, _, rfl, hS.ob, Z.cl, Z.nN, rfl, _, rfl, Y.d, _, rfl, DPut.k (k := Sum.inl (c : Int)) hS.num (by rw [kvN_len]; exact few), ?_⟩
      rw [kvN_put hin]
      have ob1 : upd H Y.d (.dK (kvN (as ++ [c]) 0)) Y.x = some (.ins C Y.dx [("forks", .ref Y.fx), ("numbers", .ref Y.d), ("lots", .ref Y.m), ("rooms", .ref Y.r)]) := by rw [upd_ne (ne_of hS.ob hS.num (by intro z; cases z))]; exact hS.ob
      have lo1 : upd H Y.d (.dK (kvN (as ++ [c]) 0)) Y.m = some (.lst (nV as)) := by rw [upd_ne (ne_of hS.lots hS.num (by intro z; cases z))]; exact hS.lots
      refine ⟨_, rfl, Y.x, C, Y.dx, _, _, rfl, ob1, Z.cl, Z.nL, rfl, .inl ⟨rfl, _, SqL.of lo1⟩, _, rfl, Y.m, _, _, rfl, rfl, lo1, (by rw [nV_len]; exact few), ?_⟩
      have hS2 := hS.setD c
      have e : nV as ++ [V.int (c : Int)] = nV (as ++ [c]) := by rw [nV_app]; rfl
      rw [e]
      have hfr : FrZ Y H (upd (upd H Y.d (.dK (kvN (as ++ [c]) 0))) Y.m (.lst (nV (as ++ [c])))) := fun b u eb q1 q2 _ => by rw [upd_ne q2, upd_ne q1]; exact eb
      generalize upd (upd H Y.d (.dK (kvN (as ++ [c]) 0))) Y.m (.lst (nV (as ++ [c]))) = H2 at hS2 hfr
      have g2 : DGet H2 Y.d (.int (c : Int)) (valV (kvN (as ++ [c]) 0) (Sum.inl (c : Int))) := DGet.k (k := Sum.inl (c : Int)) hS2.num
      have nd2 : (as ++ [c]).Nodup := List.nodup_append.mpr ⟨nd, by simp, fun a ha b hb => by rw [List.mem_singleton.mp hb]; exact fun z => hin (z ▸ ha)⟩
      rw [kvN_val nd2 (show (as ++ [c])[as.length]? = some c by simp)] at g2
      exact ⟨_, rfl, Y.x, C, Y.dx, _, _, rfl, hS2.ob, Z.cl, Z.nN, rfl, _, rfl, Y.d, _, rfl, g2, k as.length (as ++ [c]) H2 hS2 hfr (.inr ⟨hin, rfl, rfl⟩)⟩
/-! ### look_on -/
theorem sc_sl : FnScope ["self", "lot", "left", "right"] ["self"] (defScope (sS 3)) := ⟨rfl, rfl, rfl, by decide +kernel, rfl, by decide +kernel, by decide +kernel⟩
def spSl (C Cf : Addr) : Sp := fun vs H Q _ => ∃ (Z : SvZ) (F : Fn) (wf : WfN F) (as : List Nat) (ps : List Addr) (rs : List Rm), vs = [.ref Z.x] ∧ SvAt C Cf Z F H as ps rs ∧ Lay (grLot F wf) (lotLit F) as rs [] ∧ rs.length < as.length ∧
  ∀ (as' : List Nat) (ps' : List Addr) (rs' : List Rm) (H' : Hp), SvAt C Cf Z F H' as' ps' rs' → Lay (grLot F wf) (lotLit F) as' rs' [] → rs'.length = rs.length + 1 → rs'.length ≤ as'.length → FrZ Z H H' → Q .non H'
theorem lay_num {F : Fn} {wf : WfN F} {as as' : List Nat} {rs : List Rm} {idx : List Nat} {c i : Nat} (h : Lay (grLot F wf) (lotLit F) as rs idx) (hr : (grLot F wf).Reach c) (hu : (grLot F wf).U c) (hc : (as' = as ∧ as[i]? = some c) ∨ (c ∉ as ∧ as' = as ++ [c] ∧ i = as.length)) :
    Lay (grLot F wf) (lotLit F) as' rs (idx ++ [i]) ∧ as'[i]? = some c ∧ ∀ (j : Nat) x, as[j]? = some x → as'[j]? = some x := by
  rcases hc with ⟨rfl, hi⟩ | ⟨hn, rfl, rfl⟩
  · exact ⟨h.old (List.getElem?_eq_some_iff.mp hi).1, hi, fun j x e => e⟩
  · exact ⟨h.add hr hu hn, by simp, fun j x e => get_app e⟩
theorem lot_few {F : Fn} (wf : WfN F) : 2 ^ F.n < sizeLine := Nat.lt_of_le_of_lt (Nat.pow_le_pow_right (by decide) wf.few) (by rw [sizeLine_eq]; decide)
theorem ok_sl {C Cf fI fI' fN fL fj fS : Addr} {dN dL dj dS : FuncData} (T : Blt mg) (Z : CsS K mg C fI) (Zf : CsF K mg Cf fI') (Nn : MdF K C "number" "Survey.number" (sS 2) ["self", "lot"] fN dN) (Nl : MdF K Cf "led" "Forks.led" (sF 2) ["self", "lot", "side"] fL dL) (Jn : Df K mg "joined" 3 ["lots", "chosen"] fj dj)
    (N : MdF K C "look_on" "Survey.look_on" (sS 3) ["self"] fS dS) : FnOk P w K mg base CX0 3 fS dS ["self"] (spSl C Cf) := by
  have G_num : FnOk P w K mg base CX0 2 fN dN ["self", "lot"] (spSn C Cf) := (ok_sn T Z Nn).mono (by decide)
  have G_led : FnOk P w K mg base CX0 2 fL dL ["self", "lot", "side"] (spFl Cf) := ok_fl Zf Nl Jn
  refine N.fn.ok sc_sl (fun vs H Q E h => ?_) (fun cdv A outer s H vs Q E hr h => ?_)
  · obtain ⟨Y, F, wf, as, ps, rs, rfl, _⟩ := h
    rfl
  · obtain ⟨Y, F, wf, as, ps, rs, rfl, hS, hL, hlt, k⟩ := h
    refine ⟨_, (pss_cons (ps_set (i := 1) sc_sl.nd rfl (Or.inl rfl) (pe_ix ix_list (pe_fld (pv 0) rfl) (pe_callB call_len_seq (by rfl) T.len PySem.boot_len (pa_cons (pe_fld (pv 0) rfl) pa_nil)) (fun _ _ => rfl)))
      (pss_cons (ps_set (i := 2) sc_sl.nd rfl (Or.inl rfl) (pe_meth (pv 0) Z.cl Nn.mt G_num hr Nn.b .nil pass0 (pa_cons (pe_meth (pe_fld (pv 0) rfl) Zf.cl Nl.mt G_led hr Nl.b .nil pass0 (pa_cons (pv 1) (pa_cons pe_int pa_nil))) pa_nil)))
      (pss_cons (ps_set (i := 3) sc_sl.nd rfl (Or.inl rfl) (pe_meth (pv 0) Z.cl Nn.mt G_num hr Nn.b .nil pass0 (pa_cons (pe_meth (pe_fld (pv 0) rfl) Zf.cl Nl.mt G_led hr Nl.b .nil pass0 (pa_cons (pv 1) (pa_cons pe_int pa_nil))) pa_nil)))
      (pss_one (ps_expr (pe_bm PySem.F.plainAttrs_list PySem.F.slot_list_append PySem.F.type_list_append mt_append (pe_fld (pv 0) rfl) (pa_cons (pe_tup (pa_cons (pv 2) (pa_cons (pv 3) (pa_cons (pe_cmpR op_ne (pe_op op_and (pv 1) (pe_fld (pe_fld (pv 0) rfl) rfl)) pe_int (nomark _)) pa_nil)))) pa_nil))))))), ?_⟩
    have hpr : (ps.map V.ref).length = rs.length := by rw [List.length_map, hS.rm.1]
    have he : as[rs.length]? = some as[rs.length] := by simp [hlt]
    have hU : as[rs.length] < 2 ^ F.n := hL.u _ (List.getElem_mem hlt)
    have hR : (grLot F wf).Reach as[rs.length] := hL.rch _ (List.getElem_mem hlt)
    generalize as[rs.length] = c at he hU hR
    have lenB : ∀ {as : List Nat} {idx : List Nat}, Lay (grLot F wf) (lotLit F) as rs idx → as.length < sizeLine := fun h => Nat.lt_of_le_of_lt h.len (lot_few wf)
    -- lot = self.lots[len(self.rooms)]
    refine ⟨_, rfl, Y.x, C, Y.dx, _, _, rfl, hS.ob, Z.cl, Z.nL, rfl, _, rfl, Y.x, C, Y.dx, _, _, rfl, hS.ob, Z.cl, Z.nR, rfl, Y.r, _, rfl, .inl (SqL.of hS.rms), Y.m, _, _, _, rfl, rfl, SqL.of hS.lots, (by rw [hpr]; exact nV_at he), ?_⟩
    -- left
    refine ⟨_, rfl, Y.x, Y.dx, _, rfl, hS.ob, rfl, _, rfl, Y.x, C, Y.dx, _, _, rfl, hS.ob, Z.cl, Z.nF, rfl, Y.fx, Y.fd, _, rfl, hS.fo, rfl, _, rfl, Y.fx, F, c, false, rfl, hS.fk, (by rw [wf.len]; exact hU), ?_⟩
    refine ⟨Y, F, as, ps, rs, _, rfl, hS, hL.nd, lenB hL, fun i as1 H1 hS1 fr1 hc1 => ?_⟩
    obtain ⟨hL1, hi1, up1⟩ := lay_num hL (hR.step false) ((grLot F wf).cl _ false hU) hc1
    -- right
    refine ⟨_, rfl, Y.x, Y.dx, _, rfl, hS1.ob, rfl, _, rfl, Y.x, C, Y.dx, _, _, rfl, hS1.ob, Z.cl, Z.nF, rfl, Y.fx, Y.fd, _, rfl, hS1.fo, rfl, _, rfl, Y.fx, F, c, true, rfl, hS1.fk, (by rw [wf.len]; exact hU), ?_⟩
    refine ⟨Y, F, as1, ps, rs, _, rfl, hS1, hL1.nd, lenB hL1, fun j as2 H2 hS2 fr2 hc2 => ?_⟩
    obtain ⟨hL2, hj2, up2⟩ := lay_num hL1 (hR.step true) ((grLot F wf).cl _ true hU) hc2
    -- self.rooms.append(..)
    refine ⟨_, rfl, Y.x, C, Y.dx, _, _, rfl, hS2.ob, Z.cl, Z.nR, rfl, .inl ⟨rfl, _, SqL.of hS2.rms⟩, _, rfl, _, rfl, _, rfl, _, rfl, Y.x, C, Y.dx, _, _, rfl, hS2.ob, Z.cl, Z.nF, rfl, Y.fx, Cf, Y.fd, _, _, rfl, hS2.fo, Zf.cl, Zf.nL, rfl, _, _, rfl, rfl, rfl, ?_⟩
    rw [ne_bits]
    refine ⟨(by show 3 ≤ sizeLine; decide), fun t ht => ?_⟩
    have s3 : Same H2 (upd H2 t (.tup [.int (i : Int), .int (j : Int), .bl (decide (c &&& F.lit ≠ 0))])) := same_upd ht
    have ht3 : upd H2 t (.tup [.int (i : Int), .int (j : Int), .bl (decide (c &&& F.lit ≠ 0))]) t = some (.tup (rmV ⟨i, j, lotLit F c⟩)) := upd_same
    have hS3 := hS2.same s3
    generalize upd H2 t (.tup [.int (i : Int), .int (j : Int), .bl (decide (c &&& F.lit ≠ 0))]) = H3 at s3 ht3 hS3
    refine ⟨Y.r, _, _, rfl, rfl, hS3.rms, (by rw [hpr]; exact Nat.lt_trans hlt (lenB hL)), ?_⟩
    have hL3 := hL2.put (up2 _ _ (up1 _ _ he)) (up2 _ _ hi1) hj2
    have h2l : rs.length < as2.length := (List.getElem?_eq_some_iff.mp (up2 _ _ (up1 _ _ he))).1
    refine k as2 (ps ++ [t]) (rs ++ [⟨i, j, lotLit F c⟩]) _ (hS3.setR ht3) hL3 (by rw [List.length_append]; rfl) (by rw [List.length_append]; exact h2l) ?_
    exact ((fr1.trans fr2).trans (.of s3)).trans fun b u e _ _ q3 => by rw [upd_ne q3]; exact e
/-! ### settled -/
theorem sc_set : FnScope ["forks", "survey"] ["forks"] (defScope (top 13)) := ⟨rfl, rfl, rfl, by decide +kernel, rfl, by decide +kernel, by decide +kernel⟩
def spSet (Cf : Addr) : Sp := fun vs H Q _ => ∃ (x : Addr) (F : Fn) (wf : WfN F), vs = [.ref x] ∧ FnAt Cf x H F ∧
  ∀ (l : Addr) (qs : List Addr) (rs : List Rm) (H' : Hp), H l = none → Same H H' → HouseAt H' l qs rs → Wf rs → rs.length ≤ 2 ^ F.n → (∀ wk, litAt rs (led rs 0 wk) = lotLit F ((grLot F wf).led (grLot F wf).s0 wk)) → Q (.ref l) H'
/-- all that the two classes and settled have -/
structure SvC (K : PySem.W.Frag) (mg : Str → Option Value) (C Cf fI fI' fW fN fL fj fS : Addr) (dI dW dN dL dj dS : FuncData) : Prop where
  Z : CsS K mg C fI
  Zf : CsF K mg Cf fI'
  Ni : InF K "Survey.__init__" (sS 0) ["self", "forks"] fI dI
  Nw : MdF K C "is_whole" "Survey.is_whole" (sS 1) ["self"] fW dW
  Nn : MdF K C "number" "Survey.number" (sS 2) ["self", "lot"] fN dN
  No : MdF K C "look_on" "Survey.look_on" (sS 3) ["self"] fS dS
  Nl : MdF K Cf "led" "Forks.led" (sF 2) ["self", "lot", "side"] fL dL
  Jn : Df K mg "joined" 3 ["lots", "chosen"] fj dj
theorem ok_set {C Cf fI fI' fW fN fL fj fS : Addr} {dI dW dN dL dj dS : FuncData} (F : Fun K "settled" "settled" (top 13) f fd) (T : Blt mg) (S : SvC K mg C Cf fI fI' fW fN fL fj fS dI dW dN dL dj dS) : FnOk P w K mg base CX0 4 f fd ["forks"] (spSet Cf) := by
  have G_init : FnOk P w K mg base CX0 2 fI dI ["self", "forks"] (spSi C Cf) := (ok_si S.Z S.Zf S.Ni).mono (by decide)
  have G_whole : FnOk P w K mg base CX0 3 fW dW ["self"] (spSw C Cf) := (ok_sw T S.Z S.Nw).mono (by decide)
  have G_look : FnOk P w K mg base CX0 3 fS dS ["self"] (spSl C Cf) := ok_sl T S.Z S.Zf S.Nn S.Nl S.Jn S.No
  refine F.ok sc_set (fun vs H Q E h => ?_) (fun cdv A outer s H vs Q E hr h => ?_)
  · obtain ⟨x, Fn, wf, rfl, _⟩ := h
    rfl
  · obtain ⟨fx, Fn, wf, rfl, hF, k⟩ := h
    refine ⟨_, (pss_cons (ps_set (i := 1) sc_set.nd rfl (Or.inl rfl) (pe_make S.Z.mkc G_init hr rfl S.Z.m S.Ni.b .nil pass0 (pa_cons (pv 0) pa_nil)))
      (pss_cons (ps_while PassesOwn.never (pt_not (pt_val (pe_meth0 (pv 1) S.Z.cl S.Nw.mt G_whole hr S.Nw.b .nil pass0)))
        (pss_one (ps_expr (pe_meth0 (pv 1) S.Z.cl S.No.mt G_look hr S.No.b .nil pass0))))
      (pss_one (ps_ret (pe_fld (pv 1) rfl))))), ?_⟩
    refine ⟨_, rfl, fun x dx hx hdx nxd => ?_⟩
    have kx : ∀ b u, H b = some u → upd (upd H dx (.own x)) x (.ins C dx []) b = some u ∧ b ≠ x := fun b u e => by
      have n1 : b ≠ x := ne_of_none e hx
      rw [upd_ne n1, upd_ne (ne_of_none e hdx)]
      exact ⟨e, n1⟩
    have nx : ∀ b, upd (upd H dx (.own x)) x (.ins C dx []) b = none → H b = none := fun b e => by
      cases q : H b with
      | none => rfl
      | some u => rw [(kx b u q).1] at e; cases e
    have hF1 : FnAt Cf fx (upd (upd H dx (.own x)) x (.ins C dx [])) Fn := hF.keep fun b u e => (kx b u e).1
    refine ⟨x, dx, fx, Fn, rfl, upd_same, hF1, fun Z H1 hZx hS hd hm hr1 k1 => ⟨rfl, ?_⟩⟩
    have hd0 := nx _ hd
    have hm0 := nx _ hm
    have hr0 := nx _ hr1
    have s1 : Same H H1 := fun b u e => k1 b u (kx b u e).1 (kx b u e).2
    have toS : ∀ {H2 : Hp}, FrZ Z H1 H2 → Same H H2 := fun fr b u e => fr b u (s1 b u e) (ne_of_none e hd0) (ne_of_none e hm0) (ne_of_none e hr0)
    have hx1 := hS.ob
    rw [hZx] at hx1
    refine while_by (fun σ H2 => ∃ (as : List Nat) (ps : List Addr) (rs : List Rm), σ = [some (.ref fx), some (.ref x)] ∧ SvAt C Cf Z Fn H2 as ps rs ∧ Lay (grLot Fn wf) (lotLit Fn) as rs [] ∧ rs.length ≤ as.length ∧ FrZ Z H1 H2)
      (fun σ H2 => match H2 Z.r with | some (.lst xs) => 2 ^ Fn.n - xs.length | _ => 0)
      ⟨[Fn.first], [], [], rfl, hS, Lay.start _ _, Nat.zero_le _, .of (Same.refl _)⟩ ?_ ?_
    · rintro σ H2 ⟨as, ps, rs, rfl, hS2, hL2, hle, fr2⟩
      have hob := hS2.ob
      rw [hZx] at hob
      refine ⟨_, rfl, x, Z.dx, _, rfl, hob, rfl, Z, Fn, as, ps, rs, by rw [hZx]; rfl, hS2, _, rfl, ?_⟩
      by_cases hw : rs.length = as.length
      · refine ifF (by rw [decide_eq_true hw]; rfl) ?_
        have hLd : Laid (grLot Fn wf) (lotLit Fn) as rs := ⟨hL2, hw.symm⟩
        refine ⟨_, rfl, x, C, Z.dx, _, _, rfl, hob, S.Z.cl, S.Z.nR, rfl, ?_⟩
        exact k Z.r ps rs H2 hr0 (toS fr2) ⟨hS2.rms, hS2.rm⟩ hLd.wf (by rw [hw]; exact hL2.len) fun wk => hLd.walk wk
      · refine ifT (by rw [decide_eq_false hw]; rfl) ?_
        refine ⟨_, rfl, x, Z.dx, _, rfl, hob, rfl, Z, Fn, wf, as, ps, rs, by rw [hZx]; rfl, hS2, hL2, by omega, fun as' ps' rs' H3 hS3 hL3 hl3 hle3 fr3 => ?_⟩
        refine ⟨⟨as', ps', rs', rfl, hS3, hL3, hle3, fr2.trans fr3⟩, ?_⟩
        rw [hS3.rms, hS2.rms]
        show 2 ^ Fn.n - (ps'.map V.ref).length < 2 ^ Fn.n - (ps.map V.ref).length
        have b2 : as.length ≤ 2 ^ Fn.n := hL2.len
        rw [List.length_map, List.length_map, hS3.rm.1, hS2.rm.1, hl3]
        omega
    · intro σ H2 Q1 Q2 hq hc
      obtain ⟨v, e1, x1, d1, fs1, g1, g2, g3, Z1, F1, as1, ps1, rs1, g4, g5, b, g6, q1⟩ := hc
      exact ⟨v, e1, x1, d1, fs1, g1, g2, g3, Z1, F1, as1, ps1, rs1, g4, g5, b, g6, hq _ _ q1⟩
end
end Law

set_option maxHeartbeats 8000000
namespace Law
open PySem L2 Hs PyProof.Rows
section
variable {P : Program} {w : World} {K : PySem.W.Frag} {mg : Str → Option Value} {base : Heap} {f : Addr} {fd : FuncData}
/-! ### entering, moved -/
theorem nd_ent : (["lot", "lit", "begun"] : List Str).Nodup := by decide +kernel
theorem sc_ent : FnScope ["lots", "lit", "begun"] ["lots", "lit", "begun"] (defScope (top 9)) := ⟨rfl, rfl, rfl, by decide +kernel, rfl, by decide +kernel, by decide +kernel⟩
def spEnt (K : PySem.W.Frag) : Sp := fun vs H Q _ => ∃ (l : Addr) (lots : List Nat) (lit begun : Nat), vs = [.ref l, .int (lit : Int), .int (begun : Int)] ∧ SqL K H l (nV lots) ∧ lots.length ≤ 1000 ∧ ∀ (p : Addr) (H' : Hp), H p = none → Same H H' → H' p = some (.lst (nV (ent lots lit begun))) → Q (.ref p) H'
theorem ok_ent (F : Fun K "entering" "entering" (top 9) f fd) : FnOk P w K mg base CX0 1 f fd ["lots", "lit", "begun"] (spEnt K) := by
  refine F.ok sc_ent (fun vs H Q E h => ?_) (fun cdv A outer s H vs Q E hr h => ?_)
  · obtain ⟨l, lots, lit, begun, rfl, _⟩ := h
    rfl
  · obtain ⟨l, lots, lit, begun, rfl, hl, few, k⟩ := h
    refine ⟨_, (pss_one (ps_ret (pe_comp (N' := ["lot", "lit", "begun"]) (cap := [none, some 1, some 2]) (cl := [("lit", s.heap.objs.size + 1), ("begun", s.heap.objs.size + 1 + 1)]) (g := gName 0) rfl ?cs1 (pi_list (pv 0)) (by exact fun _ _ _ _ => (pg_name (i := 0) nd_ent rfl (Or.inl rfl))) (by exact fun _ _ _ _ => pf_nil) (by exact fun _ _ _ _ => (pe_ifExp (pt_cmpR op_ne (pe_op op_and (pv 0) (pv 1)) pe_int (nomark _)) (pe_op op_or (pv 0) (pv 2)) (pv 0)))))), ?_⟩
    case cs1 =>
      refine ⟨rfl, by decide +kernel, by decide +kernel, by kernel_rfl, rfl, nd_ent, sub_of (fun p hp => ?_), fun p hp hf => ?_, fun i x j h1 h2 => ?_⟩
      · rcases List.mem_cons.mp hp with hp | hp
        · rw [hp]; rfl
        · rw [List.mem_singleton.mp hp]; rfl
      · exact has_of (l := [("lit", s.heap.objs.size + 1), ("begun", s.heap.objs.size + 1 + 1)]) (ns := ["lit", "begun"]) (by decide +kernel) (by intro y hy; rcases List.mem_cons.mp hy with hy | hy; (rw [hy]; exact ⟨_, rfl⟩); (rw [List.mem_singleton.mp hy]; exact ⟨_, rfl⟩)) p hp hf
      · match i, h1, h2 with
        | 0, _, h2 => cases h2
        | 1, h1, h2 => cases h1; cases h2; exact ⟨rfl, Or.inl rfl, rfl⟩
        | 2, h1, h2 => cases h1; cases h2; exact ⟨rfl, Or.inl rfl, rfl⟩
        | i + 3, h1, _ => cases h1
    refine ⟨_, rfl, l, rfl, ⟨_, hl⟩, fun D hD => ?_⟩
    refine comp_vals (xs := nV lots) (ys := nV (ent lots lit begun)) (fun σ => ∃ v0, σ = [v0, some (.int (lit : Int)), some (.int (begun : Int))]) (it_list hl) (by rw [nV_len, nV_len, ent_len]) (by rw [nV_len]; exact few) hD ⟨none, rfl⟩ ?_ ?_ gm_name
    · rintro i y z σ H5 Qk hy hz ⟨v0, rfl⟩ s5 k5
      obtain ⟨x, hx, rfl⟩ := nV_get hy
      obtain ⟨c, hc, rfl⟩ := nV_get hz
      unfold ent at hc
      rw [List.getElem?_map, hx] at hc
      have hc : (if x &&& lit ≠ 0 then x ||| begun else x) = c := Option.some.inj hc
      refine ⟨_, rfl, _, rfl, _, _, rfl, rfl, rfl, _, rfl, ?_⟩
      rw [ne_bits]
      by_cases h0 : x &&& lit ≠ 0
      · rw [if_pos h0] at hc
        refine ifT (decide_eq_true h0) ⟨_, rfl, _, rfl, _, _, rfl, rfl, ?_⟩
        rw [bits_or, hc]
        exact k5 _ _ ⟨_, rfl⟩ (Same.refl _)
      · rw [if_neg h0] at hc
        subst hc
        exact ifF (decide_eq_false h0) ⟨_, rfl, k5 _ _ ⟨_, rfl⟩ (Same.refl _)⟩
    · exact fun H5 s5 hD5 => k D H5 hD s5 hD5
theorem sc_af : FnScope ["part", "lefts", "rights", "more"] ["part"] (defScope (top 10)) := ⟨rfl, rfl, rfl, by decide +kernel, rfl, by decide +kernel, by decide +kernel⟩
def spAf (C : Addr) : Sp := fun vs H Q _ => ∃ (x : Addr) (A : Fn), vs = [.ref x] ∧ FnAt C x H A ∧ WfN A ∧ A.n ≤ 19 ∧ ∀ (z : Addr) (H' : Hp), Same H H' → FnAt C z H' (fnAg A) → Q (.ref z) H'
theorem ok_af {C fI fS fE fn fj : Addr} {dI dS dE dn dj : FuncData} (F : Fun K "again_forks" "again_forks" (top 10) f fd) (T : Blt mg) (Z : CsF K mg C fI) (Ni : InF K "Forks.__init__" (sF 0) ["self", "lefts", "rights", "first", "lit"] fI dI)
    (Ns : MdF K C "size" "Forks.size" (sF 1) ["self"] fS dS) (Ne : MdF K C "lets_empty" "Forks.lets_empty" (sF 3) ["self"] fE dE) (En : Df K mg "entering" 9 ["lots", "lit", "begun"] fn dn) (Jn : Df K mg "joined" 3 ["lots", "chosen"] fj dj) : FnOk P w K mg base CX0 3 f fd ["part"] (spAf C) := by
  have G_init : FnOk P w K mg base CX0 1 fI dI ["self", "lefts", "rights", "first", "lit"] (spFi C) := ok_fi Z Ni
  have G_size : FnOk P w K mg base CX0 2 fS dS ["self"] (spFs C) := (ok_fs T Z Ns).mono (by decide)
  have G_le : FnOk P w K mg base CX0 2 fE dE ["self"] (spFe C) := (ok_fe Z Ne).mono (by decide)
  have G_ent : FnOk P w K mg base CX0 2 fn dn ["lots", "lit", "begun"] (spEnt K) := (ok_ent En.fn).mono (by decide)
  have G_join : FnOk P w K mg base CX0 2 fj dj ["lots", "chosen"] (spJoin K) := (ok_join Jn.fn).mono (by decide)
  refine F.ok sc_af (fun vs H Q E h => ?_) (fun cdv A outer s H vs Q E hr h => ?_)
  · obtain ⟨x, A, rfl, _⟩ := h
    rfl
  · obtain ⟨x, A', rfl, hA, wA, few, k⟩ := h
    refine ⟨_, (pss_cons (ps_set (i := 1) sc_af.nd rfl (Or.inl rfl) (pe_call G_ent hr rfl En.m En.fn.kp En.b .nil pass0 (pa_cons (pe_ix ix_tup (pe_fld (pv 0) rfl) pe_int (fun _ _ => rfl)) (pa_cons (pe_fld (pv 0) rfl) (pa_cons (pe_fld (pv 0) rfl) pa_nil)))))
      (pss_cons (ps_set (i := 2) sc_af.nd rfl (Or.inl rfl) (pe_call G_ent hr rfl En.m En.fn.kp En.b .nil pass0 (pa_cons (pe_ix ix_tup (pe_fld (pv 0) rfl) pe_int (fun _ _ => rfl)) (pa_cons (pe_fld (pv 0) rfl) (pa_cons (pe_fld (pv 0) rfl) pa_nil)))))
      (pss_cons (ps_if (pt_val (pe_meth0 (pv 0) Z.cl Ne.mt G_le hr Ne.b .nil pass0))
        (pss_one (ps_ret (pe_make Z.mkc G_init hr rfl Z.m Ni.b .nil pass0 (pa_cons (pv 1) (pa_cons (pv 2) (pa_cons (pe_fld (pv 0) rfl) (pa_cons (pe_fld (pv 0) rfl) pa_nil)))))))
        pss_nil)
      (pss_cons (ps_set (i := 3) sc_af.nd rfl (Or.inl rfl) (pe_op op_shl pe_int (pe_meth0 (pv 0) Z.cl Ns.mt G_size hr Ns.b .nil pass0)))
      (pss_cons (ps_expr (pe_bm PySem.F.plainAttrs_list PySem.F.slot_list_append PySem.F.type_list_append mt_append (pv 1) (pa_cons (pe_call G_join hr rfl Jn.m Jn.fn.kp Jn.b .nil pass0 (pa_cons (pv 1) (pa_cons (pe_fld (pv 0) rfl) pa_nil))) pa_nil)))
      (pss_cons (ps_expr (pe_bm PySem.F.plainAttrs_list PySem.F.slot_list_append PySem.F.type_list_append mt_append (pv 2) (pa_cons (pe_call G_join hr rfl Jn.m Jn.fn.kp Jn.b .nil pass0 (pa_cons (pv 2) (pa_cons (pe_fld (pv 0) rfl) pa_nil))) pa_nil)))
      (pss_one (ps_ret (pe_make Z.mkc G_init hr rfl Z.m Ni.b .nil pass0 (pa_cons (pv 1) (pa_cons (pv 2) (pa_cons (pv 3) (pa_cons (pe_op op_or (pe_fld (pv 0) rfl) (pv 3)) pa_nil))))))))))))), ?_⟩
    have lA : ∀ b, (A'.sd b).length = A'.n := wA.len
    have l1 : A'.lf.length = A'.n := lA false
    have l2 : A'.rt.length = A'.n := lA true
    obtain ⟨dx, te, la, ra, a1, a2, a3, a4⟩ := id hA
    -- lefts, rights
    refine ⟨_, rfl, x, C, dx, _, _, rfl, a1, Z.cl, Z.nE, rfl, te, _, _, _, rfl, rfl, SqT.of a2, rfl, _, rfl, x, C, dx, _, _, rfl, a1, Z.cl, Z.nL, rfl, _, rfl, x, C, dx, _, _, rfl, a1, Z.cl, Z.nF, rfl, la, A'.lf, A'.lit, A'.first, rfl, SqL.of a3, (by rw [l1]; omega), fun L H1 hL s1 hl1 => ?_⟩
    refine ⟨_, rfl, x, C, dx, _, _, rfl, s1 _ _ a1, Z.cl, Z.nE, rfl, te, _, _, _, rfl, rfl, SqT.of (s1 _ _ a2), rfl, _, rfl, x, C, dx, _, _, rfl, s1 _ _ a1, Z.cl, Z.nL, rfl, _, rfl, x, C, dx, _, _, rfl, s1 _ _ a1, Z.cl, Z.nF, rfl, ra, A'.rt, A'.lit, A'.first, rfl, SqL.of (s1 _ _ a4), (by rw [l2]; omega), fun R H2 hR s2 hr2 => ?_⟩
    have hl2 := s2 _ _ hl1
    have s02 := s1.trans s2
    have nLR : L ≠ R := ne_of_none hl1 hR
    have hL0 : H L = none := hL
    have hR0 : H R = none := s1.none hR
    refine ⟨_, rfl, x, dx, _, rfl, s02 _ _ a1, rfl, x, A', rfl, hA.keep s02, _, rfl, ?_⟩
    have fin : ∀ (G : Fn) (H6 : Hp), Same H H6 → H6 L = some (.lst (nV G.lf)) → H6 R = some (.lst (nV G.rt)) → G = fnAg A' → ∀ zx dz, H6 zx = none → H6 dz = none → dz ≠ zx → spFi C [.ref zx, .ref L, .ref R, .int (G.first : Int), .int (G.lit : Int)] (upd (upd H6 dz (.own zx)) zx (.ins C dz [])) (fun v H2 => v = .non ∧ Q (.ref zx) H2) E0 := fun G H6 s06 hL6 hR6 hG zx dz hzx hdz nzd => by
      have kx : ∀ b u, H6 b = some u → upd (upd H6 dz (.own zx)) zx (.ins C dz []) b = some u ∧ b ≠ zx := fun b u e => by
        have n1 : b ≠ zx := ne_of_none e hzx
        rw [upd_ne n1, upd_ne (ne_of_none e hdz)]
        exact ⟨e, n1⟩
      exact ⟨zx, dz, L, R, G, rfl, upd_same, (kx _ _ hL6).1, (kx _ _ hR6).1, fun H8 k8 hF8 => ⟨rfl, k zx H8 (fun b u e => k8 b u (kx _ _ (s06 _ _ e)).1 (kx _ _ (s06 _ _ e)).2) (hG ▸ hF8)⟩⟩
    by_cases h0 : A'.first &&& A'.lit ≠ 0
    · refine ifT (decide_eq_true h0) ?_
      refine ⟨_, rfl, _, rfl, _, rfl, x, C, dx, _, _, rfl, s02 _ _ a1, Z.cl, Z.nF, rfl, _, rfl, x, C, dx, _, _, rfl, s02 _ _ a1, Z.cl, Z.nL, rfl, ?_⟩
      have hG : (⟨A'.n, ent A'.lf A'.lit A'.first, ent A'.rt A'.lit A'.first, A'.first, A'.lit⟩ : Fn) = fnAg A' := (if_pos h0).symm
      exact fin ⟨A'.n, ent A'.lf A'.lit A'.first, ent A'.rt A'.lit A'.first, A'.first, A'.lit⟩ H2 s02 hl2 hr2 hG
    · refine ifF (decide_eq_false h0) ?_
      -- more
      refine ⟨_, rfl, x, dx, _, rfl, s02 _ _ a1, rfl, x, A', rfl, hA.keep s02, _, _, rfl, rfl, ⟨by omega, by omega, by decide⟩, ?_⟩
      rw [l1, shl_one]
      have hc1 : A'.first < 2 ^ (ent A'.lf A'.lit A'.first).length := by rw [ent_len, l1]; exact wA.st
      have hc2 : A'.first < 2 ^ (ent A'.rt A'.lit A'.first).length := by rw [ent_len, l2]; exact wA.st
      have sz := sizeLine_eq
      -- lefts.append(..)
      refine ⟨_, rfl, .inl ⟨rfl, _, SqL.of hl2⟩, _, rfl, _, rfl, x, C, dx, _, _, rfl, s02 _ _ a1, Z.cl, Z.nF, rfl, L, _, _, rfl, SqL.of hl2, hc1, L, _, _, rfl, rfl, hl2, (by rw [nV_len, ent_len, l1]; omega), ?_⟩
      have e1 : nV (ent A'.lf A'.lit A'.first) ++ [V.int (jn (ent A'.lf A'.lit A'.first) A'.first : Nat)] = nV (ent A'.lf A'.lit A'.first ++ [jn (ent A'.lf A'.lit A'.first) A'.first]) := by rw [nV_app]; rfl
      rw [e1]
      have s3 : Same H (upd H2 L (.lst (nV (ent A'.lf A'.lit A'.first ++ [jn (ent A'.lf A'.lit A'.first) A'.first])))) := s02.put hL0
      have hl3 : upd H2 L (.lst (nV (ent A'.lf A'.lit A'.first ++ [jn (ent A'.lf A'.lit A'.first) A'.first]))) L = some (.lst (nV (ent A'.lf A'.lit A'.first ++ [jn (ent A'.lf A'.lit A'.first) A'.first]))) := upd_same
      have hr3 : upd H2 L (.lst (nV (ent A'.lf A'.lit A'.first ++ [jn (ent A'.lf A'.lit A'.first) A'.first]))) R = some (.lst (nV (ent A'.rt A'.lit A'.first))) := by rw [upd_ne nLR.symm]; exact hr2
      generalize upd H2 L (.lst (nV (ent A'.lf A'.lit A'.first ++ [jn (ent A'.lf A'.lit A'.first) A'.first]))) = H3 at s3 hl3 hr3
      -- rights.append(..)
      refine ⟨_, rfl, .inl ⟨rfl, _, SqL.of hr3⟩, _, rfl, _, rfl, x, C, dx, _, _, rfl, s3 _ _ a1, Z.cl, Z.nF, rfl, R, _, _, rfl, SqL.of hr3, hc2, R, _, _, rfl, rfl, hr3, (by rw [nV_len, ent_len, l2]; omega), ?_⟩
      have e2 : nV (ent A'.rt A'.lit A'.first) ++ [V.int (jn (ent A'.rt A'.lit A'.first) A'.first : Nat)] = nV (ent A'.rt A'.lit A'.first ++ [jn (ent A'.rt A'.lit A'.first) A'.first]) := by rw [nV_app]; rfl
      rw [e2]
      have s4 : Same H (upd H3 R (.lst (nV (ent A'.rt A'.lit A'.first ++ [jn (ent A'.rt A'.lit A'.first) A'.first])))) := s3.put hR0
      have hr4 : upd H3 R (.lst (nV (ent A'.rt A'.lit A'.first ++ [jn (ent A'.rt A'.lit A'.first) A'.first]))) R = some (.lst (nV (ent A'.rt A'.lit A'.first ++ [jn (ent A'.rt A'.lit A'.first) A'.first]))) := upd_same
      have hl4 : upd H3 R (.lst (nV (ent A'.rt A'.lit A'.first ++ [jn (ent A'.rt A'.lit A'.first) A'.first]))) L = some (.lst (nV (ent A'.lf A'.lit A'.first ++ [jn (ent A'.lf A'.lit A'.first) A'.first]))) := by rw [upd_ne nLR]; exact hl3
      generalize upd H3 R (.lst (nV (ent A'.rt A'.lit A'.first ++ [jn (ent A'.rt A'.lit A'.first) A'.first]))) = H4 at s4 hr4 hl4
      -- Forks(..)
      refine ⟨_, rfl, _, rfl, _, rfl, _, rfl, x, C, dx, _, _, rfl, s4 _ _ a1, Z.cl, Z.nL, rfl, _, rfl, _, _, rfl, rfl, ?_⟩
      rw [bits_or]
      have hG : (⟨A'.n + 1, ent A'.lf A'.lit A'.first ++ [jn (ent A'.lf A'.lit A'.first) A'.first], ent A'.rt A'.lit A'.first ++ [jn (ent A'.rt A'.lit A'.first) A'.first], 2 ^ A'.n, A'.lit ||| 2 ^ A'.n⟩ : Fn) = fnAg A' := (if_neg h0).symm
      exact fin ⟨A'.n + 1, ent A'.lf A'.lit A'.first ++ [jn (ent A'.lf A'.lit A'.first) A'.first], ent A'.rt A'.lit A'.first ++ [jn (ent A'.rt A'.lit A'.first) A'.first], 2 ^ A'.n, A'.lit ||| 2 ^ A'.n⟩ H4 s4 hl4 hr4 hG
/-! ### again -/
theorem sc_ag : FnScope ["house"] ["house"] (defScope (top 15)) := ⟨rfl, rfl, rfl, by decide +kernel, rfl, by decide +kernel, by decide +kernel⟩
def spAg (tabs : Tbs) : Sp := fun vs H Q _ => ∃ (a : Addr) (ps : List Addr) (hs : List Rm), vs = [.ref a] ∧ HouseAt H a ps hs ∧ Wf hs ∧ hs.length ≤ 19 ∧ TB tabs H ∧
  ∀ (l : Addr) (qs : List Addr) (rs : List Rm) (H' : Hp), (∀ u, H l = some u → ∃ ps, u = .tbl ps) → SamT H H' → TB tabs H' → HouseAt H' l qs rs → Wf rs → rs.length ≤ 2 ^ (hs.length + 1) → (∀ wk, litAt rs (led rs 0 wk) = mnD hs wk) → Q (.ref l) H'
theorem ok_ag {C Cf fI fI' fW fN fL fj fS fs fE fn fo fl fh fb fe : Addr} {dI dI' dW dN dL dj dS ds dE dn do' dl dh db de : FuncData} {tabs : Tbs} (F : Fun K "again" "again" (top 15) f fd) (T : Blt mg) (S : SvC K mg C Cf fI fI' fW fN fL fj fS dI dW dN dL dj dS) (Ni : InF K "Forks.__init__" (sF 0) ["self", "lefts", "rights", "first", "lit"] fI' dI')
    (Ns : MdF K Cf "size" "Forks.size" (sF 1) ["self"] fs ds) (Ne : MdF K Cf "lets_empty" "Forks.lets_empty" (sF 3) ["self"] fE dE) (Lf : Df K mg "lot_of" 2 ["rooms"] fo do') (Li : Df K mg "is_lit" 5 ["house", "room"] fl dl)
    (Fh : Df K mg "forks_of_house" 8 ["house"] fh dh) (En : Df K mg "entering" 9 ["lots", "lit", "begun"] fn dn) (Af : Df K mg "again_forks" 10 ["part"] fb db) (Se : Df K mg "settled" 13 ["forks"] fe de) : FnOk P w K mg base CX0 6 f fd ["house"] (spAg tabs) := by
  have G_foh : FnOk P w K mg base CX0 5 fh dh ["house"] (spFoh Cf) := (ok_foh Fh.fn T S.Zf Ni Lf Li).mono (by decide)
  have G_af : FnOk P w K mg base CX0 5 fb db ["part"] (spAf Cf) := (ok_af Af.fn T S.Zf Ni Ns Ne En S.Jn).mono (by decide)
  have G_se : FnOk P w K mg base CX0 5 fe de ["forks"] (spSet Cf) := (ok_set Se.fn T S).mono (by decide)
  refine F.ok sc_ag (fun vs H Q E h => ?_) (fun cdv A outer s H vs Q E hr h => ?_)
  · obtain ⟨a, ps, hs, rfl, _⟩ := h
    rfl
  · obtain ⟨a, ps, hs, rfl, hh, wf, few, hTb, k⟩ := h
    refine ⟨_, (pss_one (ps_ret (pe_call G_se hr rfl Se.m Se.fn.kp Se.b .nil pass0 (pa_cons (pe_call G_af hr rfl Af.m Af.fn.kp Af.b .nil pass0 (pa_cons (pe_call G_foh hr rfl Fh.m Fh.fn.kp Fh.b .nil pass0 (pa_cons (pv 0) pa_nil)) pa_nil)) pa_nil)))), ?_⟩
    refine ⟨_, rfl, a, ps, hs, rfl, hh, wf, by omega, fun x H1 s1 hF1 => ?_⟩
    refine ⟨x, _, rfl, hF1, house_wf wf (by omega), few, fun z H3 s3 hF3 => ?_⟩
    have hLo := ag_of wf few
    refine ⟨z, _, hLo.wf, rfl, hF3, fun l qs' rs H4 hl s4 hh4 wr hlen hw => ?_⟩
    have s03 := s1.trans s3
    have s04 := s03.trans s4
    refine k l qs' rs H4 (fun u e => ?_) s04.toSam (hTb.same s04) hh4 wr (Nat.le_trans hlen (Nat.pow_le_pow_right (by decide) hLo.most)) fun wk => (hw wk).trans (hLo.walk wf wk)
    rw [s03 _ _ e] at hl
    cases hl
end
end Law

set_option maxHeartbeats 8000000
namespace Law
open PySem L2 Hs PyProof.Rows
section
variable {P : Program} {w : World} {K : PySem.W.Frag} {mg : Str → Option Value} {base : Heap} {f : Addr} {fd : FuncData}
/-! ### a house walked through beside a machine -/
theorem _root_.L2.FnOk.ex {P : Program} {w : World} {K : PySem.W.Frag} {mg : Str → Option Value} {base : Heap} {k : Nat} {f : Addr} {fd : FuncData} {ps : List Str} {ι : Type} {sp : ι → Sp} (h : ∀ i, FnOk P w K mg base CX0 k f fd ps (sp i)) : FnOk P w K mg base CX0 k f fd ps (fun vs H Q E => ∃ i, sp i vs H Q E) :=
  ⟨fun vs H Q E ⟨i, z⟩ => (h i).len vs H Q E z, fun A outer s H args us vs Q E hr e0 hb r ⟨i, z⟩ => (h i).run A outer s H args us vs Q E hr e0 hb r z⟩
theorem while_n {c : TT} {tb : TS} {D : Ends} {σ : L2.St} {H : Hp} (Pv : Nat → L2.St → Hp → Prop) (h0 : ∃ m, Pv m σ H)
    (hs : ∀ m σ H, Pv m σ H → c σ H fun b H1 => if b = true then tb { D with nx := fun σ' H' => ∃ m', m' < m ∧ Pv m' σ' H', ct := fun σ' H' => ∃ m', m' < m ∧ Pv m' σ' H', bk := D.nx } σ H1 else D.nx σ H1)
    (mono : ∀ σ H Q Q', (∀ b H1, Q b H1 → Q' b H1) → c σ H Q → c σ H Q') : tWhile c tb D σ H := by
  refine ⟨Pv, h0, fun m σ H p => ?_⟩
  refine mono σ H _ _ (fun b H1 q => ?_) (hs m σ H p)
  cases b with
  | true => exact ⟨_, fun σ' H' z => z, q⟩
  | false => exact q
section
variable {X : Cx} {K1 : Type} [DecidableEq K1] {P' : Program} {w' : World}
theorem pc_dnotinX' {o i : Expr} {td ty : TE} (hP : X.prog = P') (hw : X.w = w') (κ : HK K1) (hu : X.A.units + (κ.dep + 1) < cLine) (hi : PE X i ty) (ho : PE X o td) : PC X .NotIn i o (tDNotInX κ P' w' ty td) := by
  subst hP hw
  exact pc_dnotinX κ hu hi ho
theorem ps_dputX' {o i value : Expr} {pos pos' : Pos} {td ty tv : TE} (hP : X.prog = P') (hw : X.w = w') (κ : HK K1) (hu : X.A.units + (κ.dep + 1) < cLine) (ho : PE X o td) (hi : PE X i ty) (hv : PE X value tv) (hs : swapsWith value (some (.Subscript o i pos')) pos.line X.env = pure false) :
    PS X (.Assign [.Subscript o i pos'] value pos) (sDPutX κ P' w' td ty tv) := by
  subst hP hw
  exact ps_dputX κ hu ho hi hv hs
theorem pe_dispX' {ke ve : Expr} {tk tv : TE} {pos : Pos} (hP : X.prog = P') (hw : X.w = w') (κ : HK K1) (hu : X.A.units + κ.dep < cLine) (hk : PE X ke tk) (hv : PE X ve tv) : PE X (.Dict [some ke] [ve] pos) (tDispX κ P' w' tk tv) := by
  subst hP hw
  exact pe_dispX κ hu hk hv
end
structure Mch (α κT : Type) [DecidableEq κT] where
  κ : HK κT
  q : ∀ (P : Program) (w : World), QuietK (κ.knd P w) 7
  dep : κ.dep ≤ 10
  key : α → κT
  G : Gr α
  shine : α → Bool
  Pre : Hp → Prop
  same : ∀ H H', Pre H → Same H H' → Pre H'
  inj : ∀ a b, G.U a → G.U b → key a = key b → a = b
  word : Str
  a : Addr
  b : Addr
section
variable {α κT : Type} [DecidableEq κT] (M : Mch α κT)
def Mch.k2 : HK (Key × κT) := hkP M.κ M.q
def Mch.key2 (p : Nat × α) : Key × κT := (Sum.inl (p.1 : Int), M.key p.2)
def spBeg : Sp := fun vs H Q _ => vs = [.str M.word, .ref M.a] ∧ M.Pre H ∧ ∀ t H', Same H H' → M.κ.is H' (M.key M.G.s0) t → Q (.ref t) H'
def spGo : Sp := fun vs H Q _ => ∃ (t : Addr) (x : α) (bb : Bool), vs = [.str M.word, .ref M.a, .ref M.b, .ref t, .int (if bb then 1 else 0)] ∧ M.Pre H ∧ M.G.U x ∧ M.κ.is H (M.key x) t ∧ ∀ t' H', Same H H' → M.κ.is H' (M.key (M.G.nx x bb)) t' → Q (.ref t') H'
def spSh : Sp := fun vs H Q _ => ∃ (t : Addr) (x : α), vs = [.str M.word, .ref M.a, .ref M.b, .ref t] ∧ M.Pre H ∧ M.G.U x ∧ M.κ.is H (M.key x) t ∧ ∀ H', Same H H' → Q (.bl (M.shine x)) H'
def spBeside : Sp := fun vs H Q _ => ∃ (c : Addr) (os : List Addr) (rs : List Rm), vs = [.ref c, .str M.word, .ref M.a, .ref M.b] ∧ M.Pre H ∧ HouseAt H c os rs ∧ Wf rs ∧ rs.length * M.G.B ≤ 8000000 ∧ (∀ wk, litAt rs (led rs 0 wk) = M.shine (M.G.led M.G.s0 wk)) ∧ ∀ H', Same H H' → Q (.bl true) H'
def TodoX (H : Hp) (ms : List V) (td : List (Nat × α)) : Prop := ms.length = td.length ∧ ∀ (i : Nat) v p, ms[i]? = some v → td[i]? = some p → ∃ q, v = .ref q ∧ M.k2.is H (M.key2 p) q
variable {M}
theorem TodoX.same {H H' : Hp} {ms : List V} {td : List (Nat × α)} (h : TodoX M H ms td) (s : ∀ t xs, H t = some (.tup xs) → H' t = some (.tup xs)) : TodoX M H' ms td := ⟨h.1, fun i v e e1 e2 => let ⟨q, a, b⟩ := h.2 i v e e1 e2; ⟨q, a, M.k2.same b s⟩⟩
theorem TodoX.snoc {H : Hp} {ms : List V} {td : List (Nat × α)} (h : TodoX M H ms td) {p : Nat × α} {q : Addr} (hq : M.k2.is H (M.key2 p) q) : TodoX M H (ms ++ [.ref q]) (td ++ [p]) := by
  refine ⟨by simp [h.1], fun i v' e' e1 e2 => ?_⟩
  rcases get_snoc e1 with ⟨h1, e1⟩ | ⟨h1, e1⟩ <;> rcases get_snoc e2 with ⟨h2, e2⟩ | ⟨h2, e2⟩
  · exact h.2 i v' e' e1 e2
  · have := h.1; omega
  · have := h.1; omega
  · subst e1 e2; exact ⟨q, rfl, hq⟩
theorem TodoX.split {H : Hp} {ms : List V} {td : List (Nat × α)} {v : V} (h : TodoX M H (ms ++ [v]) td) : ∃ td' p q, td = td' ++ [p] ∧ TodoX M H ms td' ∧ v = .ref q ∧ M.k2.is H (M.key2 p) q := by
  have hl := h.1
  rcases List.eq_nil_or_concat td with rfl | ⟨td', a, rfl⟩
  · simp at hl
  · rw [List.concat_eq_append] at *
    have hl' : ms.length = td'.length := by simpa using hl
    obtain ⟨q, e1, e2⟩ := h.2 ms.length v a (by simp) (by rw [hl']; simp)
    refine ⟨td', a, q, rfl, ⟨hl', fun i v' a' e1 e2 => ?_⟩, e1, e2⟩
    have h1 : i < ms.length := (List.getElem?_eq_some_iff.mp e1).1
    exact h.2 i v' a' (by rw [List.getElem?_append_left h1]; exact e1) (by rw [List.getElem?_append_left (by omega)]; exact e2)
theorem sc_beside : FnScope ["_law_found", "_law_word", "_law_one", "_law_other", "_law_start", "_law_seen", "_law_todo", "_law_room", "_law_state", "_law_turn", "_law_after", "_law_further"] ["_law_found", "_law_word", "_law_one", "_law_other"] (defScope (top 28)) := ⟨rfl, rfl, rfl, by decide +kernel, rfl, by decide +kernel, by decide +kernel⟩
theorem ok_beside {k : Nat} {fb fg fs : Addr} {db dg ds : FuncData} (F : Fun K "_law_walked_beside" "_law_walked_beside" (top 28) f fd) (T : Blt mg)
    (Bg : Df K mg "_law_begins" 25 ["_law_word", "_law_one"] fb db) (Go : Df K mg "_law_goes_on" 26 ["_law_word", "_law_one", "_law_other", "_law_state", "_law_turn"] fg dg) (Sh : Df K mg "_law_shines" 27 ["_law_word", "_law_one", "_law_other", "_law_state"] fs ds)
    (G_beg : FnOk P w K mg base CX0 k fb db ["_law_word", "_law_one"] (spBeg M)) (G_go : FnOk P w K mg base CX0 k fg dg ["_law_word", "_law_one", "_law_other", "_law_state", "_law_turn"] (spGo M)) (G_sh : FnOk P w K mg base CX0 k fs ds ["_law_word", "_law_one", "_law_other", "_law_state"] (spSh M)) :
    FnOk P w K mg base CX0 (k + 1) f fd ["_law_found", "_law_word", "_law_one", "_law_other"] (spBeside M) := by
  refine F.ok sc_beside (fun vs H Q E h => ?_) (fun cdv A outer s H vs Q E hr h => ?_)
  · obtain ⟨c, os, rs, rfl, _⟩ := h
    rfl
  · obtain ⟨c, os, rs, rfl, hPre, hc, wf, few, hsame, kk⟩ := h
    have hu := hu_of hr
    have hu2 := Nat.lt_of_le_of_lt (Nat.add_le_add_left (show M.k2.dep + 1 ≤ 64 by have := M.dep; show M.κ.dep + 1 + 1 ≤ 64; omega) _) hr.units
    refine ⟨_, (pss_cons (ps_set (i := 4) sc_beside.nd rfl (Or.inl rfl) (pe_tup (pa_cons pe_int (pa_cons (pe_call G_beg hr rfl Bg.m Bg.fn.kp Bg.b .nil pass0 (pa_cons (pv 1) (pa_cons (pv 2) pa_nil))) pa_nil))))
      (pss_cons (ps_set (i := 5) sc_beside.nd rfl (Or.inl rfl) (pe_dispX' (P' := P) (w' := w) rfl rfl M.k2 (Nat.lt_of_succ_lt hu2) (pv 4) pe_bl))
      (pss_cons (ps_set (i := 6) sc_beside.nd rfl (Or.inl rfl) (pe_lst (pa_cons (pv 4) pa_nil)))
      (pss_cons (ps_while PassesOwn.never (pt_cmpR (op_neL hu) (pv 6) (pe_lst pa_nil) (nomark _))
        (pss_cons (ps_asg (pe_bm0 PySem.F.plainAttrs_list PySem.F.slot_list_pop PySem.F.type_list_pop mt_pop (pv 6)) (pg_tup rfl (pgs_cons (pg_name (i := 7) sc_beside.nd rfl (Or.inl rfl)) (pgs_cons (pg_name (i := 8) sc_beside.nd rfl (Or.inl rfl)) pgs_nil))))
        (pss_cons (ps_if (pt_cmpR op_ne (pe_ix ix_tup (pe_ix ix_list (pv 0) (pv 7) (fun _ _ => rfl)) pe_int (fun _ _ => rfl)) (pe_call G_sh hr rfl Sh.m Sh.fn.kp Sh.b .nil pass0 (pa_cons (pv 1) (pa_cons (pv 2) (pa_cons (pv 3) (pa_cons (pv 8) pa_nil))))) (nomark _))
          (pss_one (ps_ret pe_bl))
          pss_nil)
        (pss_one (ps_for PassesOwn.never rfl (pi_range1 rfl T.range (pa_cons pe_int pa_nil)) (pg_name (i := 9) sc_beside.nd rfl (Or.inl rfl))
          (pss_cons (ps_set (i := 10) sc_beside.nd rfl (Or.inl rfl) (pe_call G_go hr rfl Go.m Go.fn.kp Go.b .nil pass0 (pa_cons (pv 1) (pa_cons (pv 2) (pa_cons (pv 3) (pa_cons (pv 8) (pa_cons (pv 9) pa_nil)))))))
          (pss_cons (ps_set (i := 11) sc_beside.nd rfl (Or.inl rfl) (pe_tup (pa_cons (pe_ix ix_tup (pe_ix ix_list (pv 0) (pv 7) (fun _ _ => rfl)) (pv 9) (fun _ _ => rfl)) (pa_cons (pv 10) pa_nil))))
          (pss_one (ps_if (pt_cmp (pc_dnotinX' (P' := P) (w' := w) rfl rfl M.k2 hu2 (pv 11) (pv 5)))
            (pss_cons (ps_dputX' (P' := P) (w' := w) rfl rfl M.k2 hu2 (pv 5) (pv 11) pe_bl rfl)
            (pss_one (ps_expr (pe_bm PySem.F.plainAttrs_list PySem.F.slot_list_append PySem.F.type_list_append mt_append (pv 6) (pa_cons (pv 11) pa_nil)))))
            pss_nil)))))))))
      (pss_one (ps_ret pe_bl)))))), ?_⟩
    obtain ⟨G, hG⟩ : ∃ G, G = grSide rs wf M.G := ⟨_, rfl⟩
    have hGB : G.B ≤ 8000000 := by rw [hG]; exact few
    have hGs : G.s0 = (0, M.G.s0) := by rw [hG]; rfl
    have hGn : ∀ p b, G.nx p b = (stp rs p.1 b, M.G.nx p.2 b) := fun p b => by rw [hG]; rfl
    have hGU : ∀ p, G.U p → p.1 < rs.length ∧ M.G.U p.2 := fun p h => by rw [hG] at h; exact h
    have hlit : ∀ p, G.Reach p → litAt rs p.1 = M.shine p.2 := fun p h => by
      rw [hG] at h
      obtain ⟨wk, rfl⟩ := side_reach h
      exact hsame wk
    have inj : ∀ p q, G.U p → G.U q → M.key2 p = M.key2 q → p = q := fun p q hp hq e => by
      have e1 : Sum.inl (p.1 : Int) = (Sum.inl (q.1 : Int) : Key) := congrArg (·.1) e
      have e2 : M.key p.2 = M.key q.2 := congrArg (·.2) e
      have e3 : p.1 = q.1 := by
        have := Sum.inl.inj e1
        omega
      exact Prod.ext e3 (M.inj _ _ (hGU p hp).2 (hGU q hq).2 e2)
    -- start
    refine ⟨_, rfl, _, rfl, rfl, hPre, fun t0 H0 s0 hk0 => ?_⟩
    refine ⟨(by show 2 ≤ sizeLine; decide), fun t ht => ?_⟩
    have s1 : Same H (upd H0 t (.tup [.int 0, .ref t0])) := s0.upd ht
    have hk1 : M.k2.is (upd H0 t (.tup [.int 0, .ref t0])) (M.key2 (0, M.G.s0)) t := ⟨t0, upd_same, M.κ.same hk0 fun b xs z => by rw [upd_ne (ne_of_none z ht)]; exact z⟩
    generalize upd H0 t (.tup [.int 0, .ref t0]) = H1 at s1 hk1
    -- seen = {start: True}
    refine fun d hd hsm => ⟨_, rfl, upd_same, M.key2 (0, M.G.s0), t, rfl, rfl, M.k2.same hk1 (fun b xs z => by rw [upd_ne (ne_of_none z hd)]; exact z), ?_⟩
    rw [upd_upd]
    have hd0 : H d = none := s1.none hd
    have s2 : Same H (upd H1 d (.ext (DXφ (M.k2.knd P w) d [(M.key2 (0, M.G.s0), t)]))) := s1.upd hd
    have tu2 : ∀ b xs, H1 b = some (.tup xs) → upd H1 d (.ext (DXφ (M.k2.knd P w) d [(M.key2 (0, M.G.s0), t)])) b = some (.tup xs) := fun b xs z => by rw [upd_ne (ne_of_none z hd)]; exact z
    have hk2 := M.k2.same hk1 tu2
    have hD2 : DX M.k2 P w (upd H1 d (.ext (DXφ (M.k2.knd P w) d [(M.key2 (0, M.G.s0), t)]))) d [(M.key2 (0, M.G.s0), t)] := ⟨upd_same, hsm, by show 1 ≤ sizeLine; decide, by simp, fun x hx => by rw [List.mem_singleton.mp hx]; exact hk2⟩
    generalize upd H1 d (.ext (DXφ (M.k2.knd P w) d [(M.key2 (0, M.G.s0), t)])) = H2 at s2 hk2 hD2
    -- todo = [start]
    refine ⟨_, rfl, (by show 1 ≤ sizeLine; decide), fun m hm => ?_⟩
    have s3 : Same H2 (upd H2 m (.lst [.ref t])) := same_upd hm
    have hm0 : H m = none := s2.none hm
    have ndm : d ≠ m := ne_of_none hD2.ob hm
    refine while_n (fun N σ H3 => ∃ (seen td : List (Nat × α)) (xs : List ((Key × κT) × Addr)) (ms : List V) (v7 v8 v9 v10 v11 : Option V), σ = [some (.ref c), some (.str M.word), some (.ref M.a), some (.ref M.b), some (.ref t), some (.ref d), some (.ref m), v7, v8, v9, v10, v11] ∧ Same H H3 ∧ DX M.k2 P w H3 d xs ∧ xs.map (·.1) = seen.map M.key2 ∧ H3 m = some (.lst ms) ∧ TodoX M H3 ms td ∧ Dfs G seen td ∧ td.length ≤ seen.length ∧ N = 2 * (G.B - seen.length) + td.length)
      ⟨_, [(0, M.G.s0)], [(0, M.G.s0)], [(M.key2 (0, M.G.s0), t)], [.ref t], none, none, none, none, none, rfl, s2.trans s3, hD2.same s3, rfl, upd_same, ⟨rfl, fun i v e e1 e2 => ?_⟩, hGs ▸ Dfs.start G, Nat.le_refl _, rfl⟩ ?_ ?_
    · match i, e1, e2 with
      | 0, e1, e2 => cases e1; cases e2; exact ⟨t, rfl, M.k2.same hk2 fun b xs z => s3 _ _ z⟩
      | i + 1, e1, e2 => simp at e2
    · rintro N σ H3 ⟨seen, td, xs, ms, v7, v8, v9, v10, v11, rfl, s4, hD3, hkv, hm3, hTd, hDf, hbd, hN⟩
      refine ⟨_, rfl, Nat.zero_le _, fun x hx => ?_⟩
      have s5 : Same H3 (upd H3 x (.lst [])) := same_upd hx
      refine ⟨m, x, _, _, _, rfl, rfl, SqL.of (s5 _ _ hm3), SqL.of upd_same, eqLs_nil, _, rfl, ?_⟩
      have hD5 := hD3.same s5
      have hm5 := s5 _ _ hm3
      have hT5 := hTd.same fun t xs z => s5 _ _ z
      have s45 := s4.trans s5
      generalize upd H3 x (.lst []) = H4 at s5 hD5 hm5 hT5 s45
      rcases List.eq_nil_or_concat ms with rfl | ⟨ms', vl, rfl⟩
      · refine ifF (by simp) ?_
        exact kk H4 s45
      · rw [List.concat_eq_append] at *
        refine ifT (by simp) ?_
        obtain ⟨td', pq, q, rfl, hT6, rfl, hkq⟩ := hT5.split
        obtain ⟨hDf', hR, hU⟩ := hDf.pop
        obtain ⟨x1, y1⟩ := pq
        -- room, state = todo.pop()
        refine ⟨_, rfl, .inl ⟨rfl, _, SqL.of hm5⟩, m, _, .ref q, rfl, rfl, hm5, (by simp), ?_⟩
        rw [List.dropLast_concat]
        have s6 : Same H (upd H4 m (.lst ms')) := s45.put hm0
        have tu6 : ∀ t xs, H4 t = some (.tup xs) → upd H4 m (.lst ms') t = some (.tup xs) := fun t xs z => by rw [upd_ne (ne_of z hm5 (by intro z; cases z))]; exact z
        have hD6 := hD5.keep (H' := upd H4 m (.lst ms')) (by rw [upd_ne ndm]) tu6
        have hm6 : upd H4 m (.lst ms') m = some (.lst ms') := upd_same
        have hkq6 := M.k2.same hkq tu6
        have hT7 := hT6.same tu6
        generalize upd H4 m (.lst ms') = H5 at s6 tu6 hD6 hm6 hkq6 hT7
        obtain ⟨b1, hq6, hks⟩ := hkq6
        have hq6 : H5 q = some (.tup [.int (x1 : Int), .ref b1]) := hq6
        have hks : M.κ.is H5 (M.key y1) b1 := hks
        obtain ⟨hxl, hUy⟩ := hGU _ hU
        have hxl : x1 < rs.length := hxl
        have hUy : M.G.U y1 := hUy
        have e0 : rs[x1]? = some rs[x1] := by simp [hxl]
        have l0 : litAt rs x1 = rs[x1].lit := by rw [litAt, e0]
        have st0 : ∀ b, stp rs x1 b = if b then rs[x1].r else rs[x1].l := fun b => by rw [stp, e0]
        have hll : litAt rs x1 = M.shine y1 := hlit _ hR
        obtain ⟨p0, hq0, hp0, hat0⟩ := (hc.same s6).get e0
        generalize rs[x1] = r0 at e0 l0 st0 hp0
        rw [l0] at hll
        refine ⟨q, _, rfl, SqT.of hq6, rfl, _, _, rfl, _, _, rfl, rfl, ?_⟩
        dsimp only [gName]
        -- the lights
        refine ⟨_, rfl, _, rfl, c, _, _, _, rfl, rfl, SqL.of (hc.same s6).ob, hat0, p0, _, _, _, rfl, rfl, SqT.of hp0, rfl, _, rfl, _, rfl, _, rfl, _, rfl, b1, y1, rfl, M.same _ _ hPre s6, hUy, hks, fun H6 s7 => ?_⟩
        refine ⟨rfl, _, rfl, ?_⟩
        refine ifF (by rw [hll]; simp) ?_
        have s67 := s6.trans s7
        have hm7 := s7 _ _ hm6
        have hD7 := hD6.same s7
        have hT8 := hT7.same fun t xs z => s7 _ _ z
        have hks7 := M.κ.same hks fun t xs z => s7 _ _ z
        have hp07 := s7 _ _ hp0
        -- for turn in range(2)
        refine ⟨2, rfl, by decide, by decide, for_range (lo := 0) (n := 2) (fun j σ H6 => ∃ (seen td : List (Nat × α)) (xs : List ((Key × κT) × Addr)) (ms : List V) (v9 v10 v11 : Option V), σ = [some (.ref c), some (.str M.word), some (.ref M.a), some (.ref M.b), some (.ref t), some (.ref d), some (.ref m), some (.int (x1 : Int)), some (.ref b1), v9, v10, v11] ∧ Same H H6 ∧ DX M.k2 P w H6 d xs ∧ xs.map (·.1) = seen.map M.key2 ∧ H6 m = some (.lst ms) ∧ TodoX M H6 ms td ∧ Dfs G seen td ∧ td.length ≤ seen.length ∧ M.κ.is H6 (M.key y1) b1 ∧ H6 p0 = some (.tup (rmV r0)) ∧ 2 * (G.B - seen.length) + td.length < N)
          ⟨seen, td', xs, ms', _, _, _, rfl, s67, hD7, hkv, hm7, hT8, hDf', ?_, hks7, hp07, ?_⟩ ?_ ?_⟩
        · rw [List.length_append] at hbd
          omega
        · rw [hN, List.length_append]
          simp
        · rintro j σ H6 hj ⟨seen, td, xs, ms, v9, v10, v11, rfl, s7, hD7, hkv7, hm7, hT8, hDf7, hbd7, hks7, hp07, hmea⟩
          rw [Int.zero_add]
          obtain ⟨bb, hjb⟩ : ∃ bb : Bool, (j : Int) = if bb then 1 else 0 := by
            match j, hj with
            | 0, _ => exact ⟨false, rfl⟩
            | 1, _ => exact ⟨true, rfl⟩
          have i0 : atI (rmV r0) (j : Int) = some (.int ((stp rs x1 bb : Nat) : Int)) := by rw [st0, hjb]; cases bb <;> rfl
          have hUn : G.U (G.nx (x1, y1) bb) := G.cl _ _ hU
          have hnx : G.nx (x1, y1) bb = (stp rs x1 bb, M.G.nx y1 bb) := hGn (x1, y1) bb
          -- after
          refine ⟨_, rfl, _, rfl, _, rfl, _, rfl, _, rfl, b1, y1, bb, by rw [hjb]; rfl, M.same _ _ hPre s7, hUy, hks7, fun t2 H7 s8 hk8 => ?_⟩
          refine ⟨_, rfl, _, rfl, c, _, _, _, rfl, rfl, SqL.of (hc.same (s7.trans s8)).ob, hat0, _, rfl, p0, _, _, _, rfl, rfl, SqT.of (s8 _ _ hp07), i0, _, rfl, (by show 2 ≤ sizeLine; decide), fun t3 ht3 => ?_⟩
          have s9 : Same H7 (upd H7 t3 (.tup [.int ((stp rs x1 bb : Nat) : Int), .ref t2])) := same_upd ht3
          have hP9 : M.k2.is (upd H7 t3 (.tup [.int ((stp rs x1 bb : Nat) : Int), .ref t2])) (M.key2 (G.nx (x1, y1) bb)) t3 := by rw [hnx]; exact ⟨t2, upd_same, M.κ.same hk8 fun t xs z => s9 _ _ z⟩
          generalize upd H7 t3 (.tup [.int ((stp rs x1 bb : Nat) : Int), .ref t2]) = H8 at s9 hP9
          have s89 := s8.trans s9
          have hD9 := hD7.same s89
          have hm9 := s89 _ _ hm7
          have hT9 := hT8.same fun t xs z => s89 _ _ z
          have hks9 := M.κ.same hks7 fun t xs z => s89 _ _ z
          have hp09 := s89 _ _ hp07
          refine ⟨_, rfl, _, rfl, d, t3, _, xs, rfl, rfl, hD9, hP9, _, rfl, ?_⟩
          have hmem : M.key2 (G.nx (x1, y1) bb) ∈ xs.map (·.1) ↔ G.nx (x1, y1) bb ∈ seen := by
            rw [hkv7]
            refine ⟨fun z => ?_, fun z => List.mem_map.mpr ⟨_, z, rfl⟩⟩
            obtain ⟨p, hp, e⟩ := List.mem_map.mp z
            rw [← inj _ _ (hDf7.u p hp) hUn e]
            exact hp
          by_cases hin : G.nx (x1, y1) bb ∈ seen
          · refine ifF (by simp only [Bool.not_eq_false', decide_eq_true_eq]; exact hmem.mpr hin) ?_
            exact ⟨seen, td, xs, ms, _, _, _, rfl, s7.trans s89, hD9, hkv7, hm9, hT9, hDf7, hbd7, hks9, hp09, hmea⟩
          · have hno : M.key2 (G.nx (x1, y1) bb) ∉ xs.map (·.1) := fun z => hin (hmem.mp z)
            refine ifT (by simp only [Bool.not_eq_true', decide_eq_false_iff_not]; exact hno) ?_
            have hkl : xs.length = seen.length := by have := congrArg List.length hkv7; simpa using this
            have hDf8 := hDf7.push hR hU hin
            have hsl8 := hDf8.len
            rw [List.length_append] at hsl8
            have hsl9 : seen.length + 1 ≤ G.B := hsl8
            have hml : ms.length = td.length := hT8.1
            have hlx : xs.length < sizeLine := by rw [hkl, sizeLine_eq]; omega
            refine ⟨_, rfl, _, rfl, d, t3, _, xs, rfl, rfl, rfl, hD9, hP9, hno, hlx, ?_⟩
            have tu9 : ∀ t ys, H8 t = some (.tup ys) → upd H8 d (.ext (DXφ (M.k2.knd P w) d (xs ++ [(M.key2 (G.nx (x1, y1) bb), t3)]))) t = some (.tup ys) := fun t xs z => by rw [upd_ne (ne_of z hD9.ob (by intro z; cases z))]; exact z
            have hDA := hD9.put hP9 hno hlx
            have hmA : upd H8 d (.ext (DXφ (M.k2.knd P w) d (xs ++ [(M.key2 (G.nx (x1, y1) bb), t3)]))) m = some (.lst ms) := by rw [upd_ne ndm.symm]; exact hm9
            have sA : Same H (upd H8 d (.ext (DXφ (M.k2.knd P w) d (xs ++ [(M.key2 (G.nx (x1, y1) bb), t3)])))) := (s7.trans s89).put hd0
            have hTA := hT9.same tu9
            have hPA := M.k2.same hP9 tu9
            have hksA := M.κ.same hks9 tu9
            have hp0A := tu9 _ _ hp09
            generalize upd H8 d (.ext (DXφ (M.k2.knd P w) d (xs ++ [(M.key2 (G.nx (x1, y1) bb), t3)]))) = H9 at hDA hmA sA hTA hPA hksA hp0A
            refine ⟨_, rfl, .inl ⟨rfl, _, SqL.of hmA⟩, _, rfl, m, _, _, rfl, rfl, hmA, (by rw [hml, sizeLine_eq]; omega), ?_⟩
            have tuB : ∀ t ys, H9 t = some (.tup ys) → upd H9 m (.lst (ms ++ [.ref t3])) t = some (.tup ys) := fun t xs z => by rw [upd_ne (ne_of z hmA (by intro z; cases z))]; exact z
            refine ⟨seen ++ [G.nx (x1, y1) bb], td ++ [G.nx (x1, y1) bb], xs ++ [(M.key2 (G.nx (x1, y1) bb), t3)], ms ++ [.ref t3], _, _, _, rfl, sA.put hm0, hDA.keep (by rw [upd_ne ndm]) tuB, by rw [List.map_append, List.map_append, hkv7]; rfl, upd_same, (hTA.same tuB).snoc (M.k2.same hPA tuB), hDf8, ?_, M.κ.same hksA tuB, tuB _ _ hp0A, ?_⟩
            · rw [List.length_append, List.length_append]
              exact Nat.add_le_add_right hbd7 1
            · rw [List.length_append, List.length_append]
              show 2 * (G.B - (seen.length + 1)) + (td.length + 1) < N
              omega
        · rintro σ H6 ⟨seen, td, xs, ms, v9, v10, v11, rfl, s7, hD7, hkv7, hm7, hT8, hDf7, hbd7, hks7, hp07, hmea⟩
          exact ⟨_, hmea, seen, td, xs, ms, _, _, _, _, _, rfl, s7, hD7, hkv7, hm7, hT8, hDf7, hbd7, rfl⟩
    · intro σ H3 Q1 Q2 hq hc
      obtain ⟨x, e1, hz, hall⟩ := hc
      refine ⟨x, e1, hz, fun p hp => ?_⟩
      obtain ⟨y1, y2, y3, y4, y5, y6, y7, y8, y9, y10, b, e3, q1⟩ := hall p hp
      exact ⟨y1, y2, y3, y4, y5, y6, y7, y8, y9, y10, b, e3, hq _ _ q1⟩
end
/-! ### the machine of a house told from the end -/
def keyOf (x : List Bool) : List Key := (setOf x).map fun i : Nat => (Sum.inl (i : Int) : Key)
theorem keyOf_inj {x y : List Bool} (hl : x.length = y.length) (h : keyOf x = keyOf y) : x = y := by
  refine setOf_inj hl ?_
  refine List.map_inj_right (fun i j e => ?_) |>.mp h
  have := Sum.inl.inj e
  omega
theorem sc_begins : FnScope ["_law_word", "_law_one"] ["_law_word", "_law_one"] (defScope (top 25)) := ⟨rfl, rfl, rfl, by decide +kernel, rfl, by decide +kernel, by decide +kernel⟩
theorem sc_goes : FnScope ["_law_word", "_law_one", "_law_other", "_law_state", "_law_turn", "_law_room", "_law_rooms"] ["_law_word", "_law_one", "_law_other", "_law_state", "_law_turn"] (defScope (top 26)) := ⟨rfl, rfl, rfl, by decide +kernel, rfl, by decide +kernel, by decide +kernel⟩
theorem sc_shines : FnScope ["_law_word", "_law_one", "_law_other", "_law_state"] ["_law_word", "_law_one", "_law_other", "_law_state"] (defScope (top 27)) := ⟨rfl, rfl, rfl, by decide +kernel, rfl, by decide +kernel, by decide +kernel⟩
end
end Law

set_option maxHeartbeats 8000000
namespace Law
open PySem L2 Hs PyProof.Rows
section
variable {P : Program} {w : World} {K : PySem.W.Frag} {mg : Str → Option Value} {base : Heap} {f : Addr} {fd : FuncData}
def iV (is : List Nat) : List V := (is.map fun i : Nat => (i : Int)).map V.int
theorem key_iV (a : List Bool) : (keyOf a).map kV = iV (setOf a) := by
  unfold keyOf iV
  rw [List.map_map, List.map_map]
  rfl
theorem iV_len (is : List Nat) : (iV is).length = is.length := by simp [iV]
/-! ### _law_any_lit -/
theorem row_iV {ms : List Int} {a : List Bool} (h : ms.Pairwise (· < ·)) (hm : ∀ v : Int, v ∈ ms ↔ ∃ i : Nat, v = (i : Int) ∧ a.getD i false = true) : iV (setOf a) = ms.map V.int := by
  rw [sorted_row h hm]
  rfl
theorem sc_anylit : FnScope ["_law_house", "_law_rooms", "_law_room"] ["_law_house", "_law_rooms"] (defScope (top 24)) := ⟨rfl, rfl, rfl, by decide +kernel, rfl, by decide +kernel, by decide +kernel⟩
def spAnyLit : Sp := fun vs H Q _ => ∃ (a t : Addr) (ps : List Addr) (hs : List Rm) (is : List Nat), vs = [.ref a, .ref t] ∧ HouseAt H a ps hs ∧ (∀ i ∈ is, i < hs.length) ∧ (H t = some (.lst (iV is)) ∨ H t = some (.tup (iV is))) ∧ Q (.bl (is.any (litAt hs))) H
theorem ok_anylit (F : Fun K "_law_any_lit" "_law_any_lit" (top 24) f fd) : FnOk P w K mg base CX0 1 f fd ["_law_house", "_law_rooms"] spAnyLit := by
  refine F.ok sc_anylit (fun vs H Q E h => ?_) (fun cdv A outer s H vs Q E hr h => ?_)
  · obtain ⟨a, t, ps, hs, is, rfl, _⟩ := h
    rfl
  · obtain ⟨a, t, ps, hs, is, rfl, hh, hi, ht, k⟩ := h
    refine ⟨_, (pss_cons (ps_for PassesOwn.never rfl (pi_seq (pv 1)) (pg_name (i := 2) sc_anylit.nd rfl (Or.inl rfl))
        (pss_one (ps_if (pt_val (pe_ix ix_tup (pe_ix ix_list (pv 0) (pv 2) (fun _ _ => rfl)) pe_int (fun _ _ => rfl))) (pss_one (ps_ret pe_bl)) pss_nil)))
      (pss_one (ps_ret pe_bl))), ?_⟩
    have ht' : ∃ O, H t = some O ∧ (O = .lst (iV is) ∨ O = .tup (iV is)) := by
      rcases ht with e | e
      · exact ⟨_, e, .inl rfl⟩
      · exact ⟨_, e, .inr rfl⟩
    obtain ⟨O, hO, hO'⟩ := ht'
    refine ⟨_, rfl, t, rfl, for_seq hO' (fun j σ H2 => ∃ v, σ = [some (.ref a), some (.ref t), v] ∧ H2 = H ∧ (is.take j).any (litAt hs) = false) ⟨none, rfl, rfl, rfl⟩ (fun j σ H2 _ ⟨_, _, e, _⟩ => e ▸ hO) ?_ ?_⟩
    · rintro j y σ H2 hy ⟨v, rfl, rfl, hno⟩
      unfold iV at hy
      rw [List.getElem?_map, List.getElem?_map] at hy
      cases hj : is[j]? with
      | none => rw [hj] at hy; cases hy
      | some i =>
        rw [hj] at hy
        cases hy
        have hil := hi i (List.mem_of_getElem? hj)
        have e0 : hs[i]? = some hs[i] := by simp [hil]
        have l0 : litAt hs i = hs[i].lit := by rw [litAt, e0]
        obtain ⟨p0, hq0, hp0, hat0⟩ := hh.get e0
        generalize hs[i] = r0 at e0 l0 hp0
        refine ⟨_, rfl, _, rfl, a, _, _, _, rfl, rfl, SqL.of hh.ob, hat0, p0, _, _, _, rfl, rfl, SqT.of hp0, rfl, r0.lit, rfl, ?_⟩
        rw [← l0]
        cases hl : litAt hs i
        · refine ifF rfl ?_
          refine ⟨_, rfl, rfl, ?_⟩
          rw [List.take_add_one, hj, List.any_append, hno]
          simp [hl]
        · refine ifT rfl ?_
          have e : is.any (litAt hs) = true := List.any_eq_true.mpr ⟨i, List.mem_of_getElem? hj, hl⟩
          rw [e] at k
          exact k
    · rintro σ H2 ⟨v, rfl, rfl, hno⟩
      rw [iV_len, List.take_length] at hno
      rw [hno] at k
      exact k
/-! ### the machine of a house again and again -/
def manyM (hs : List Rm) (a b : Addr) : Mch (Bool × List Bool) (Bool × List Key) where
  κ := hkB hkT (fun P w => quiet_tuple _ 6)
  q := fun P w {A E s k a Q} hk h => quiet_pair (quiet_tuple _ 5) hk h
  dep := by decide
  key := fun p => (p.1, keyOf p.2)
  G := grMany hs
  shine := mnLit hs
  Pre := fun H => ∃ ps, HouseAt H a ps hs
  same := fun _ _ ⟨ps, h⟩ s => ⟨ps, h.same s⟩
  inj := fun x y hx hy e => by
    have e1 : x.1 = y.1 := congrArg (·.1) e
    have e2 : keyOf x.2 = keyOf y.2 := congrArg (·.2) e
    exact Prod.ext e1 (keyOf_inj (by rw [show x.2.length = hs.length from hx, show y.2.length = hs.length from hy]) e2)
  word := "many"
  a := a
  b := b
theorem wm1 : decide (V.str (Str.ofString "many") = V.str (Str.ofString "not")) = false := by decide +kernel
theorem wm2 : decide (V.str (Str.ofString "many") = V.str (Str.ofString "then")) = false := by decide +kernel
theorem wm3 : decide (V.str (Str.ofString "many") = V.str (Str.ofString "many")) = true := by decide +kernel
theorem zero_row {n : Nat} (hn : 0 < n) : iV (setOf (rowOf n fun j => decide (j = 0))) = [V.int 0] := by
  refine row_iV (ms := [0]) (by simp) fun v => ?_
  constructor
  · intro hv
    have : v = 0 := by simpa using hv
    subst this
    exact ⟨0, rfl, by rw [rowOf_get hn]; rfl⟩
  · rintro ⟨i, rfl, hi⟩
    rw [rowOf_get (rowOf_out hi), decide_eq_true_iff] at hi
    subst hi
    simp
theorem many_row {hs : List Rm} (wf : Wf hs) {p : Bool × List Bool} (hx : p.2.length = hs.length) (b : Bool) (v : Int) : v ∈ (((setOf p.2).map fun k => stp hs k b).map fun i : Nat => (i : Int)) ++ (if ((setOf p.2).map fun k => stp hs k b).any (litAt hs) then [0] else []) ↔ ∃ i : Nat, v = (i : Int) ∧ (mnNx hs p b).2.getD i false = true := by
  have ea : ((setOf p.2).map fun k => stp hs k b).any (litAt hs) = anyRow p.2 fun i => litAt hs (stp hs i b) := by
    unfold anyRow
    rw [List.any_map]
    rfl
  rw [ea, List.mem_append, List.mem_map]
  constructor
  · rintro (⟨j, hj, rfl⟩ | hv)
    · obtain ⟨k, hk, rfl⟩ := List.mem_map.mp hj
      have hk' := mem_setOf.mp hk
      have hkl := row_lt hk'
      refine ⟨_, rfl, ?_⟩
      show (rowOf _ _).getD _ _ = true
      rw [rowOf_get (wf.stp (by omega) b), Bool.or_eq_true]
      exact .inl (anyRow_iff.mpr ⟨k, hk', decide_eq_true rfl⟩)
    · cases hl : anyRow p.2 fun i => litAt hs (stp hs i b) with
      | false => rw [hl] at hv; simp at hv
      | true =>
        rw [hl] at hv
        have : v = 0 := by simpa using hv
        subst this
        refine ⟨0, rfl, ?_⟩
        show (rowOf _ _).getD _ _ = true
        rw [rowOf_get wf.ne, hl, Bool.or_eq_true]
        exact .inr rfl
  · rintro ⟨i, rfl, hi⟩
    have hl := rowOf_out hi
    have hi : (rowOf _ _).getD _ _ = true := hi
    rw [rowOf_get hl, Bool.or_eq_true, Bool.and_eq_true, decide_eq_true_iff, anyRow_iff] at hi
    rcases hi with ⟨k, hk, hd⟩ | ⟨rfl, h⟩
    · exact .inl ⟨i, List.mem_map.mpr ⟨k, mem_setOf.mpr hk, of_decide_eq_true hd⟩, rfl⟩
    · exact .inr (by rw [h]; simp)
theorem ok_begM {hs : List Rm} {a b : Addr} (wf : Wf hs) (F : Fun K "_law_begins" "_law_begins" (top 25) f fd) : FnOk P w K mg base CX0 1 f fd ["_law_word", "_law_one"] (spBeg (manyM hs a b)) := by
  refine F.ok sc_begins (fun vs H Q E h => ?_) (fun cdv A outer s H vs Q E hr h => ?_)
  · obtain ⟨rfl, _⟩ := h
    rfl
  · obtain ⟨rfl, ⟨ps, hh⟩, k⟩ := h
    refine ⟨_, (pss_cons (ps_if (pt_cmpR op_eq (pv 0) pe_str (nomark _)) pss_never pss_nil)
      (pss_cons (ps_if (pt_cmpR op_eq (pv 0) pe_str (nomark _)) pss_never pss_nil)
      (pss_cons (ps_if (pt_cmpR op_eq (pv 0) pe_str (nomark _))
        (pss_one (ps_ret (pe_tup (pa_cons pe_bl (pa_cons (pe_tup (pa_cons pe_int pa_nil)) pa_nil)))))
        pss_nil)
      pss_never))), ?_⟩
    refine ⟨_, rfl, rfl, _, rfl, ifF wm1 ?_⟩
    refine ⟨_, rfl, rfl, _, rfl, ifF wm2 ?_⟩
    refine ⟨_, rfl, rfl, _, rfl, ifT wm3 ?_⟩
    refine ⟨(by show 1 ≤ sizeLine; decide), fun t1 ht1 => ?_⟩
    refine ⟨(by show 2 ≤ sizeLine; decide), fun t2 ht2 => ?_⟩
    have s1 : Same H _ := same_upd (o := .tup [.int 0]) ht1
    have s2 : Same _ _ := same_upd (o := .tup [.bl true, .ref t1]) ht2
    refine k t2 _ (s1.trans s2) ⟨t1, upd_same, ?_⟩
    show upd _ t2 _ t1 = some (.tup ((keyOf _).map kV))
    rw [key_iV]
    show upd _ t2 _ t1 = some (.tup (iV (setOf (rowOf hs.length fun j => decide (j = 0)))))
    rw [zero_row wf.ne]
    exact s2 _ _ upd_same
theorem nd_goM : (["_law_k", "_law_one", "_law_turn"] : List Str).Nodup := by decide +kernel
theorem ok_goM {fa : Addr} {da : FuncData} {hs : List Rm} {a b : Addr} (wf : Wf hs) (hn : hs.length ≤ 20) (F : Fun K "_law_goes_on" "_law_goes_on" (top 26) f fd) (T : Blt mg) (TS : mg "sorted" = none) (TE : mg "set" = none) (Al : Df K mg "_law_any_lit" 24 ["_law_house", "_law_rooms"] fa da) : FnOk P w K mg base CX0 2 f fd ["_law_word", "_law_one", "_law_other", "_law_state", "_law_turn"] (spGo (manyM hs a b)) := by
  have G_al : FnOk P w K mg base CX0 1 fa da ["_law_house", "_law_rooms"] spAnyLit := ok_anylit Al.fn
  refine F.ok sc_goes (fun vs H Q E h => ?_) (fun cdv A outer s H vs Q E hr h => ?_)
  · obtain ⟨t, x, bb, rfl, _⟩ := h
    rfl
  · obtain ⟨t, x, bb, rfl, ⟨ps, hh⟩, hx, ⟨t1, ht, ht1⟩, k⟩ := h
    have ht : H t = some (.tup [.bl x.1, .ref t1]) := ht
    have ht1 : H t1 = some (.tup ((keyOf x.2).map kV)) := ht1
    rw [key_iV] at ht1
    have hxl : x.2.length = hs.length := hx
    refine ⟨_, (pss_cons (ps_if (pt_cmpR op_eq (pv 0) pe_str (nomark _)) pss_never pss_nil)
      (pss_cons (ps_if (pt_cmpR op_eq (pv 0) pe_str (nomark _)) pss_never pss_nil)
      (pss_cons (ps_if (pt_cmpR op_eq (pv 0) pe_str (nomark _))
        (pss_cons (ps_setComp (i := 6) (te := tOp (rIxT K) (tOp (rIxL K) (tVar 1) (tVar 0)) (tVar 2)) (N' := ["_law_k", "_law_one", "_law_turn"]) (cap := [none, some 1, some 4]) (cl := [("_law_turn", s.heap.objs.size + 1 + 1 + 1 + 1), ("_law_one", s.heap.objs.size + 1)]) (g := gName 0) sc_goes.nd rfl (Or.inl rfl) rfl ?cs1 (pi_tup (pe_ix ix_tup (pv 3) pe_int (fun _ _ => rfl))) (by exact fun _ _ _ _ => (pg_name (i := 0) nd_goM rfl (Or.inl rfl))) (by exact fun _ _ _ _ => pf_nil) (by exact fun _ _ _ _ => (pe_ix (ix_tupK (K' := K) rfl) (pe_ix (ix_listK (K' := K) rfl) (pv 1) (pv 0) (fun _ _ => rfl)) (pv 2) (fun _ _ => rfl))))
        (pss_cons (ps_set (i := 6) sc_goes.nd rfl (Or.inl rfl) (pe_op op_cat (pv 6) (pe_op op_rep (pe_lst (pa_cons pe_int pa_nil)) (pe_callTy call_int1 (by rfl) T.int boot_int (pa_cons (pe_call G_al hr rfl Al.m Al.fn.kp Al.b .nil pass0 (pa_cons (pv 1) (pa_cons (pv 6) pa_nil))) pa_nil)))))
        (pss_one (ps_ret (pe_tup (pa_cons pe_bl (pa_cons (pe_callTy call_tuple_of (by rfl) T.tuple boot_tuple (pa_cons (pe_sortSetA (by rfl) TS (by rfl) TE rfl (pv 6)) pa_nil)) pa_nil)))))))
        pss_nil)
      pss_never))), ?_⟩
    case cs1 =>
      refine ⟨rfl, by decide +kernel, by decide +kernel, by kernel_rfl, rfl, nd_goM, sub_of (fun p hp => ?_), fun p hp hf => ?_, fun i x j h1 h2 => ?_⟩
      · rcases List.mem_cons.mp hp with hp | hp
        · rw [hp]; rfl
        · rw [List.mem_singleton.mp hp]; rfl
      · exact has_of (l := [("_law_turn", s.heap.objs.size + 1 + 1 + 1 + 1), ("_law_one", s.heap.objs.size + 1)]) (ns := ["_law_one", "_law_turn"]) (by decide +kernel) (by
          intro y hy
          rcases List.mem_cons.mp hy with hy | hy
          · rw [hy]; exact ⟨_, rfl⟩
          · rw [List.mem_singleton.mp hy]; exact ⟨_, rfl⟩) p hp hf
      · match i, h1, h2 with
        | 0, _, h2 => cases h2
        | 1, h1, h2 => cases h1; cases h2; exact ⟨rfl, Or.inl rfl, rfl⟩
        | 2, h1, h2 => cases h1; cases h2; exact ⟨rfl, Or.inl rfl, rfl⟩
        | i + 3, h1, _ => cases h1
    refine ⟨_, rfl, rfl, _, rfl, ifF wm1 ?_⟩
    refine ⟨_, rfl, rfl, _, rfl, ifF wm2 ?_⟩
    refine ⟨_, rfl, rfl, _, rfl, ifT wm3 ?_⟩
    -- rooms: the comprehension
    refine ⟨_, rfl, t, _, _, _, rfl, rfl, SqT.of ht, rfl, t1, rfl, ⟨_, SqT.of ht1⟩, fun D hD => ?_⟩
    have few : (setOf x.2).length ≤ 20 := Nat.le_trans (setOf_len x.2) (by rw [hxl]; exact hn)
    refine comp_vals (xs := iV (setOf x.2)) (ys := iV ((setOf x.2).map fun k => stp hs k bb)) (fun σ => ∃ v0, σ = [v0, some (.ref a), some (.int (if bb then 1 else 0))]) (it_tup (SqT.of ht1)) (by rw [iV_len, iV_len, List.length_map]) (by rw [iV_len]; omega) hD ⟨none, rfl⟩ ?_ ?_ gm_name
    · rintro i y z σ H5 Qk hy hz ⟨v0, rfl⟩ s5 k5
      unfold iV at hy hz
      rw [List.getElem?_map, List.getElem?_map] at hy
      rw [List.getElem?_map, List.getElem?_map, List.getElem?_map] at hz
      cases hj : (setOf x.2)[i]? with
      | none => rw [hj] at hy; cases hy
      | some j =>
        rw [hj] at hy hz
        cases hy
        cases hz
        have hjl : j < hs.length := by rw [← hxl]; exact row_lt (mem_setOf.mp (List.mem_of_getElem? hj))
        have e1 : hs[j]? = some hs[j] := by simp [hjl]
        have st1 : stp hs j bb = if bb then hs[j].r else hs[j].l := by rw [stp, e1]
        obtain ⟨p1, hq1, hp1, hat1⟩ := (hh.same s5).get e1
        generalize hs[j] = r1 at e1 st1 hp1
        have i1 : atI (rmV r1) (if bb then 1 else 0) = some (.int ((stp hs j bb : Nat) : Int)) := by rw [st1]; cases bb <;> rfl
        refine ⟨_, rfl, _, rfl, a, _, _, _, rfl, rfl, SqL.of (hh.same s5).ob, hat1, _, rfl, p1, _, _, _, rfl, rfl, SqT.of hp1, i1, ?_⟩
        exact k5 _ _ ⟨_, rfl⟩ (Same.refl _)
    intro H5 s5 hD5
    -- rooms + [0] * int(..)
    refine ⟨_, rfl, Nat.le_of_lt (by show 1 < sizeLine; decide), fun m hm => ?_⟩
    have s6 : Same H5 (upd H5 m (.lst [.int 0])) := same_upd hm
    have hm6 : upd H5 m (.lst [.int 0]) m = some (.lst [.int 0]) := upd_same
    generalize upd H5 m (.lst [.int 0]) = H6 at s6 hm6
    have s06 := s5.trans s6
    have hD6 := s6 _ _ hD5
    refine ⟨_, rfl, _, rfl, a, D, ps, hs, (setOf x.2).map fun k => stp hs k bb, rfl, hh.same s06, fun i hi => ?_, .inl hD6, ?_⟩
    · obtain ⟨j, hj, rfl⟩ := List.mem_map.mp hi
      exact wf.stp (by rw [← hxl]; exact row_lt (mem_setOf.mp hj)) bb
    have hme0 := many_row wf hxl bb
    have hal : (((setOf x.2).map fun k => stp hs k bb).map fun i : Nat => (i : Int)).length ≤ 20 := by rw [List.length_map, List.length_map]; exact few
    have hD6' : H6 D = some (.lst ((((setOf x.2).map fun k => stp hs k bb).map fun i : Nat => (i : Int)).map V.int)) := hD6
    generalize ((setOf x.2).map fun k => stp hs k bb).any (litAt hs) = la at hme0
    generalize ((setOf x.2).map fun k => stp hs k bb).map (fun i : Nat => (i : Int)) = is at hme0 hal hD6'
    refine .inr ⟨la, rfl, ?_⟩
    refine ⟨m, _, _, rfl, rfl, hm6, (by cases la <;> decide), (by cases la <;> decide), (by cases la <;> decide), fun m2 hm2 => ?_⟩
    have er : (List.replicate (if la then 1 else 0 : Int).toNat [V.int 0]).flatten = (if la then [0] else [] : List Int).map V.int := by cases la <;> rfl
    rw [er]
    have s7 : Same H6 (upd H6 m2 (.lst ((if la then [0] else [] : List Int).map V.int))) := same_upd hm2
    have hm7 : upd H6 m2 (.lst ((if la then [0] else [] : List Int).map V.int)) m2 = some (.lst ((if la then [0] else [] : List Int).map V.int)) := upd_same
    generalize upd H6 m2 (.lst ((if la then [0] else [] : List Int).map V.int)) = H7 at s7 hm7
    have hl1 : (if la then [0] else [] : List Int).length ≤ 1 := by cases la <;> decide
    refine ⟨D, m2, _, _, rfl, rfl, s7 _ _ hD6', hm7, ?_, fun l hl => ?_⟩
    · rw [List.length_map, List.length_map, sizeLine_eq]
      omega
    rw [← List.map_append]
    have s8 : Same H7 (upd H7 l (.lst ((is ++ (if la then [0] else [])).map V.int))) := same_upd hl
    have hl8 : upd H7 l (.lst ((is ++ (if la then [0] else [])).map V.int)) l = _ := upd_same
    generalize upd H7 l (.lst ((is ++ (if la then [0] else [])).map V.int)) = H8 at s8 hl8
    -- the tuple
    refine ⟨_, rfl, l, _, rfl, .inl (SqL.of hl8), ?_, fun l3 ms hl3 hri hme => ?_⟩
    · rw [List.length_append]
      omega
    refine ⟨l3, _, rfl, .inl ⟨SqL.of upd_same, fun t3 ht3 => ?_⟩⟩
    refine ⟨(by show 2 ≤ sizeLine; decide), fun t4 ht4 => ?_⟩
    have s9 : Same H8 _ := same_upd (o := .lst (ms.map V.int)) hl3
    have s10 : Same _ _ := same_upd (o := .tup (ms.map V.int)) ht3
    have s11 : Same _ _ := same_upd (o := .tup [.bl false, .ref t3]) ht4
    refine k t4 _ ((((s06.trans s7).trans s8).trans s9).trans (s10.trans s11)) ⟨t3, upd_same, ?_⟩
    show upd _ t4 _ t3 = some (.tup ((keyOf _).map kV))
    rw [key_iV, row_iV (a := ((manyM hs a b).G.nx x bb).2) hri fun v => (hme v).trans (hme0 v)]
    exact s11 _ _ upd_same
theorem ok_shM {fa : Addr} {da : FuncData} {hs : List Rm} {a b : Addr} (wf : Wf hs) (F : Fun K "_law_shines" "_law_shines" (top 27) f fd) (Al : Df K mg "_law_any_lit" 24 ["_law_house", "_law_rooms"] fa da) : FnOk P w K mg base CX0 2 f fd ["_law_word", "_law_one", "_law_other", "_law_state"] (spSh (manyM hs a b)) := by
  have G_al : FnOk P w K mg base CX0 1 fa da ["_law_house", "_law_rooms"] spAnyLit := ok_anylit Al.fn
  refine F.ok sc_shines (fun vs H Q E h => ?_) (fun cdv A outer s H vs Q E hr h => ?_)
  · obtain ⟨t, x, rfl, _⟩ := h
    rfl
  · obtain ⟨t, x, rfl, ⟨ps, hh⟩, hx, ⟨t1, ht, ht1⟩, k⟩ := h
    have ht : H t = some (.tup [.bl x.1, .ref t1]) := ht
    have ht1 : H t1 = some (.tup ((keyOf x.2).map kV)) := ht1
    rw [key_iV] at ht1
    have hxl : x.2.length = hs.length := hx
    refine ⟨_, (pss_cons (ps_if (pt_cmpR op_eq (pv 0) pe_str (nomark _)) pss_never pss_nil)
      (pss_cons (ps_if (pt_cmpR op_eq (pv 0) pe_str (nomark _)) pss_never pss_nil)
      (pss_cons (ps_if (pt_cmpR op_eq (pv 0) pe_str (nomark _))
        (pss_one (ps_ret (pe_or (pe_ix ix_tup (pv 3) pe_int (fun _ _ => rfl)) (pe_one (pe_call G_al hr rfl Al.m Al.fn.kp Al.b .nil pass0 (pa_cons (pv 1) (pa_cons (pe_ix ix_tup (pv 3) pe_int (fun _ _ => rfl)) pa_nil)))))))
        pss_nil)
      pss_never))), ?_⟩
    refine ⟨_, rfl, rfl, _, rfl, ifF wm1 ?_⟩
    refine ⟨_, rfl, rfl, _, rfl, ifF wm2 ?_⟩
    refine ⟨_, rfl, rfl, _, rfl, ifT wm3 ?_⟩
    have kk : Q (.bl (x.1 || anyRow x.2 (litAt hs))) H := k H (Same.refl _)
    refine ⟨_, rfl, t, _, _, _, rfl, rfl, SqT.of ht, rfl, x.1, rfl, ?_⟩
    cases hb : x.1 with
    | true =>
      rw [hb, Bool.true_or] at kk
      exact ifT rfl kk
    | false =>
      rw [hb, Bool.false_or] at kk
      refine ifF rfl ?_
      refine ⟨_, rfl, _, rfl, t, _, _, _, rfl, rfl, SqT.of ht, rfl, a, t1, ps, hs, setOf x.2, rfl, hh, fun i hi => ?_, .inr ht1, ?_⟩
      · rw [← hxl]; exact row_lt (mem_setOf.mp hi)
      · exact kk
end
end Law

set_option maxHeartbeats 8000000
namespace Law
open PySem L2 Hs PyProof.Rows
section
variable {P : Program} {w : World} {K : PySem.W.Frag} {mg : Str → Option Value} {base : Heap} {f : Addr} {fd : FuncData}
/-! ### the law -/
theorem slice_mid (z : Str) (m n : Nat) (hm : m ≤ n) (h : n ≤ z.length) : Txt.slice z (some (m : Int)) (some (n : Int)) = ⟨((z.cps.toList.drop m).take (n - m)).toArray⟩ := by
  have e2 := PySem.StrLaws.sliced_plain z hm h
  have hl : z.cps.toList.length = z.length := by simp [Str.length]
  unfold Txt.slice
  rw [e2]
  split
  · rename_i c
    have : n - m = z.length := by
      rw [PySem.StrLaws.strSliceIndices_plain hm h] at c
      simpa using c
    have hm0 : m = 0 := by omega
    have hn0 : n = z.length := by omega
    refine Str.ext' ?_
    subst hm0 hn0
    rw [List.drop_zero, List.take_of_length_le (by rw [hl]; omega)]
  · rfl
theorem txt_list (w : List Bool) : (txt w).cps.toList = w.map sgn := rfl
theorem txt_mid (w : List Bool) (m n : Nat) (hm : m ≤ n) (h : n ≤ w.length) : Txt.slice (txt w) (some (m : Int)) (some (n : Int)) = txt ((w.take n).drop m) := by
  rw [slice_mid _ _ _ hm (by rw [txt_len]; exact h), txt_list, ← List.map_drop, ← List.map_take, ← List.drop_take]
  rfl
def bitW (c : Int) : Bool := decide ((c / 7 + c) % 2 = 1)
theorem bitW_at (c : Int) : atI ("lr" : Str).cps.toList ((c / 7 + c) % 2) = some (sgn (bitW c)) := by
  rw [lr_cps]
  have h2 : (c / 7 + c) % 2 = 0 ∨ (c / 7 + c) % 2 = 1 := by omega
  unfold bitW
  rcases h2 with e | e <;> rw [e] <;> rfl
theorem join_sgn (a : List Bool) : Txt.join ("" : Str) (a.map fun b => (⟨#[sgn b]⟩ : Str)) = txt a := by
  show PySem.Builtin.Str.glued "" _ = _
  rw [PySem.StrLaws.glued_eq_join]
  induction a with
  | nil => rfl
  | cons b w ih =>
    cases w with
    | nil => rfl
    | cons c w =>
      show (⟨#[sgn b]⟩ : Str) ++ "" ++ Str.join "" (((c :: w).map fun b => (⟨#[sgn b]⟩ : Str))) = _
      rw [ih, sgn_txt, show txt [b] ++ ("" : Str) = txt [b] from Str.append_empty _, txt_append]
      rfl
theorem sum_ones {α : Type} (f : α → Nat) (l : List α) : ((l.map fun x => (⟨#[f x]⟩ : Str)).map (·.length)).sum = l.length := by
  induction l with
  | nil => rfl
  | cons r l ih => rw [List.map_cons, List.map_cons, List.sum_cons, ih, List.length_cons]; show 1 + l.length = _; omega
theorem txt_to (w : List Bool) (n : Nat) (h : n ≤ w.length) : Txt.slice (txt w) none (some (n : Int)) = txt (w.take n) := by
  rw [slice_to _ _ (by rw [txt_len]; exact h), txt_list, ← List.map_take]
  rfl
theorem sIx_le3 (n : Nat) (lo hi : Nat) : HT.sIx n n (some (hi : Int)) - HT.sIx n 0 (some (lo : Int)) ≤ hi - lo := by
  rw [HT.sIx_nat, HT.sIx_nat]
  omega
/-- what the cuttings before place n show -/
def fitTo (hs : List Rm) (wk : List Bool) (e n : Nat) : Bool := (List.range n).any fun q => mnD hs (wk.take q) && litAt hs (led hs 0 ((wk.take e).drop q))
theorem fitTo_succ (hs : List Rm) (wk : List Bool) (e n : Nat) : fitTo hs wk e (n + 1) = (fitTo hs wk e n || (mnD hs (wk.take n) && litAt hs (led hs 0 ((wk.take e).drop n)))) := by
  unfold fitTo
  rw [List.range_succ, List.any_append]
  simp
theorem fit_lit {hs : List Rm} (wf : Wf hs) (wk : List Bool) {e : Nat} (h0 : 0 < e) (he : e ≤ wk.length) : mnD hs (wk.take e) = fitTo hs wk e e := by
  have hl : (wk.take e).length = e := by rw [List.length_take, Nat.min_eq_left he]
  refine bool_ext ?_
  rw [mnD_cut wf _ (by rw [hl]; exact h0)]
  unfold fitTo
  rw [List.any_eq_true, hl]
  constructor
  · rintro ⟨c, hc, q1, q2⟩
    rw [List.take_take, Nat.min_eq_left (Nat.le_of_lt hc)] at q1
    exact ⟨c, List.mem_range.mpr hc, by rw [Bool.and_eq_true]; exact ⟨q1, q2⟩⟩
  · rintro ⟨c, hc, q⟩
    rw [Bool.and_eq_true] at q
    have hc := List.mem_range.mp hc
    exact ⟨c, hc, by rw [List.take_take, Nat.min_eq_left (Nat.le_of_lt hc)]; exact q.1, q.2⟩
def dues (hs : List Rm) (wk : List Bool) (n : Nat) : List V := (List.range n).map fun i => V.bl (mnD hs (wk.take i))
theorem dues_get {hs : List Rm} {wk : List Bool} {n i : Nat} (h : i < n) : (dues hs wk n)[i]? = some (.bl (mnD hs (wk.take i))) := by
  unfold dues
  rw [List.getElem?_map, List.getElem?_range h]
  rfl
theorem dues_succ (hs : List Rm) (wk : List Bool) (n : Nat) : dues hs wk (n + 1) = dues hs wk n ++ [.bl (mnD hs (wk.take n))] := by
  unfold dues
  rw [List.range_succ, List.map_append]
  rfl
theorem dues_len (hs : List Rm) (wk : List Bool) (n : Nat) : (dues hs wk n).length = n := by simp [dues]
def spAnyM : Sp := fun vs H Q E => ∃ i : { hs : List Rm // Wf hs ∧ hs.length ≤ 20 } × Addr × Addr, spBeside (manyM i.1.1 i.2.1 i.2.2) vs H Q E
def spLaw (K : PySem.W.Frag) (tabs : Tbs) : Sp := fun vs H Q _ => ∃ (a : Addr) (ns : List Int), vs = [.ref a] ∧ SqL K H a (ns.map V.int) ∧ ns.length ≤ 63 ∧ TB tabs H ∧ ∀ H', Q (.bl true) H'
theorem sc_law : FnScope ["_law_script", "_law_house", "_law_row", "_law_walk", "_law_handed", "_law_found", "_law_due", "_law_end", "_law_fits", "_law_cut"] ["_law_script"] (defScope (top 29)) := ⟨rfl, rfl, rfl, by decide +kernel, rfl, by decide +kernel, by decide +kernel⟩
theorem nd_c1 : (["_law_cell"] : List Str).Nodup := by decide +kernel
theorem ok_law {C Cf fI fI' fW fN fL fj fS fs fE fn fo fl fh fB fe fbe fa fd' fih fw fu fwd fle fal fbg fgo fsh fbs : Addr} {dI dI' dW dN dL dj dS ds dE dn do' dl dh dB de dbe da dd dih dw du dwd dle dal dbg dgo dsh dbs : FuncData} {tabs : Tbs} (F : Fun K "law" "law" (top 29) f fd) (T : Blt mg) (TS : mg "sorted" = none) (TE : mg "set" = none) (S : SvC K mg C Cf fI fI' fW fN fL fj fS dI dW dN dL dj dS) (Ni : InF K "Forks.__init__" (sF 0) ["self", "lefts", "rights", "first", "lit"] fI' dI')
    (Ns : MdF K Cf "size" "Forks.size" (sF 1) ["self"] fs ds) (Ne : MdF K Cf "lets_empty" "Forks.lets_empty" (sF 3) ["self"] fE dE) (Lf : Df K mg "lot_of" 2 ["rooms"] fo do') (Li : Df K mg "is_lit" 5 ["house", "room"] fl dl)
    (Fh : Df K mg "forks_of_house" 8 ["house"] fh dh) (En : Df K mg "entering" 9 ["lots", "lit", "begun"] fn dn) (Af : Df K mg "again_forks" 10 ["part"] fB dB) (Se : Df K mg "settled" 13 ["forks"] fe de) (Ag : Df K mg "again" 15 ["house"] fbe dbe)
    (At : Df K mg "_law_at" 18 ["_law_script", "_law_k"] fa da) (Dr : Df K mg "_law_drawn" 19 ["_law_cells"] fd' dd) (IH : Df K mg "_law_is_house" 20 ["_law_found"] fih dih) (W : Df K mg "_law_whole" 17 ["_law_found"] fw dw) (Un : Df K mg "_law_unhurt" 22 ["_law_handed", "_law_house"] fu du)
    (Wd : Df K mg "_law_wide" 23 ["_law_script", "_law_most", "_law_bound"] fwd dwd) (Le : Df K mg "_law_led" 21 ["_law_house", "_law_room", "_law_walk"] fle dle) (Al : Df K mg "_law_any_lit" 24 ["_law_house", "_law_rooms"] fal dal)
    (Bg : Df K mg "_law_begins" 25 ["_law_word", "_law_one"] fbg dbg) (Go : Df K mg "_law_goes_on" 26 ["_law_word", "_law_one", "_law_other", "_law_state", "_law_turn"] fgo dgo) (Sh : Df K mg "_law_shines" 27 ["_law_word", "_law_one", "_law_other", "_law_state"] fsh dsh)
    (Bs : Df K mg "_law_walked_beside" 28 ["_law_found", "_law_word", "_law_one", "_law_other"] fbs dbs) :
    FnOk P w K mg base CX0 8 f fd ["_law_script"] (spLaw K tabs) := by
  have G_at : FnOk P w K mg base CX0 7 fa da ["_law_script", "_law_k"] (spAt K) := (ok_at At.fn T).mono (by decide)
  have G_drawn : FnOk P w K mg base CX0 7 fd' dd ["_law_cells"] (spDrawn K) := (ok_drawn Dr.fn T).mono (by decide)
  have G_unhurt : FnOk P w K mg base CX0 7 fu du ["_law_handed", "_law_house"] spUnhurt := (ok_unhurt Un.fn T W IH).mono (by decide)
  have G_ish : FnOk P w K mg base CX0 7 fih dih ["_law_found"] spIsHouse := (ok_ish IH.fn T W).mono (by decide)
  have G_wide : FnOk P w K mg base CX0 7 fwd dwd ["_law_script", "_law_most", "_law_bound"] (spWide K) := (ok_wide Wd.fn T).mono (by decide)
  have G_led : FnOk P w K mg base CX0 7 fle dle ["_law_house", "_law_room", "_law_walk"] spLed := (ok_led Le.fn).mono (by decide)
  have G_ag : FnOk P w K mg base CX0 7 fbe dbe ["house"] (spAg tabs) := (ok_ag Ag.fn T S Ni Ns Ne Lf Li Fh En Af Se).mono (by decide)
  have G_bs : FnOk P w K mg base CX0 7 fbs dbs ["_law_found", "_law_word", "_law_one", "_law_other"] spAnyM := (FnOk.ex fun i => ok_beside Bs.fn T Bg Go Sh ((ok_begM i.1.2.1 Bg.fn).mono (by decide)) (ok_goM i.1.2.1 i.1.2.2 Go.fn T TS TE Al) (ok_shM i.1.2.1 Sh.fn Al)).mono (by decide)
  refine F.ok sc_law (fun vs H Q E h => ?_) (fun cdv A outer s H vs Q E hr h => ?_)
  · obtain ⟨a, ns, rfl, _⟩ := h
    rfl
  · obtain ⟨a, ns, rfl, hS, hn, hT, k⟩ := h
    refine ⟨_, (pss_cons (ps_set (i := 1) sc_law.nd rfl (Or.inl rfl) (pe_call G_drawn hr rfl Dr.m Dr.fn.kp Dr.b .nil pass0 (pa_cons (pe_slice sl_list (pv 0) (po_some pe_int) (po_some (pe_op op_add pe_int (pe_op op_mod (pe_call G_at hr rfl At.m At.fn.kp At.b .nil pass0 (pa_cons (pv 0) (pa_cons pe_int pa_nil))) (pe_call G_wide hr rfl Wd.m Wd.fn.kp Wd.b .nil pass0 (pa_cons (pv 0) (pa_cons pe_int (pa_cons pe_int pa_nil)))))))) pa_nil)))
      (pss_cons (ps_set (i := 2) sc_law.nd rfl (Or.inl rfl) (pe_slice sl_list (pv 0) (po_some pe_int) (po_some (pe_op op_add pe_int (pe_call G_wide hr rfl Wd.m Wd.fn.kp Wd.b .nil pass0 (pa_cons (pv 0) (pa_cons pe_int (pa_cons pe_int pa_nil))))))))
      (pss_cons (ps_set (i := 3) sc_law.nd rfl (Or.inl rfl) (pe_bm PySem.F.plainAttrs_str PySem.F.slot_str_join PySem.F.type_str_join mt_join pe_str (pa_cons (pe_comp (N' := ["_law_cell"]) (cap := [none]) (cl := []) (g := gName 0) rfl ?cs1 (pi_list (pv 2)) (by exact fun _ _ _ _ => (pg_name (i := 0) nd_c1 rfl (Or.inl rfl))) (by exact fun _ _ _ _ => pf_nil) (by exact fun _ _ _ _ => (pe_ix ix_str pe_str (pe_op op_mod (pe_op op_add (pe_op op_fdiv (pv 0) pe_int) (pv 0)) pe_int) (fun _ _ => rfl)))) pa_nil)))
      (pss_cons (ps_set (i := 4) sc_law.nd rfl (Or.inl rfl) (pe_callTy call_list_of (by rfl) T.list boot_list (pa_cons (pv 1) pa_nil)))
      (pss_cons (ps_set (i := 5) sc_law.nd rfl (Or.inl rfl) (pe_call G_ag hr rfl Ag.m Ag.fn.kp Ag.b .nil pass0 (pa_cons (pv 4) pa_nil)))
      (pss_cons (ps_if (PW.pt (pw_or (pt_not (pt_val (pe_call G_unhurt hr rfl Un.m Un.fn.kp Un.b .nil pass0 (pa_cons (pv 4) (pa_cons (pv 1) pa_nil))))) (pw_or1 (pt_not (pt_val (pe_call G_ish hr rfl IH.m IH.fn.kp IH.b .nil pass0 (pa_cons (pv 5) pa_nil)))))))
        (pss_one (ps_ret pe_bl))
        pss_nil)
      (pss_cons (ps_set (i := 6) sc_law.nd rfl (Or.inl rfl) (pe_lst (pa_cons pe_bl pa_nil)))
      (pss_cons (ps_for PassesOwn.never rfl (pi_range2 rfl T.range (pa_cons pe_int (pa_cons (pe_op op_add (pe_callB call_len_str (by rfl) T.len PySem.boot_len (pa_cons (pv 3) pa_nil)) pe_int) pa_nil))) (pg_name (i := 7) sc_law.nd rfl (Or.inl rfl))
        (pss_cons (ps_set (i := 8) sc_law.nd rfl (Or.inl rfl) pe_bl)
        (pss_cons (ps_for PassesOwn.never rfl (pi_range1 rfl T.range (pa_cons (pv 7) pa_nil)) (pg_name (i := 9) sc_law.nd rfl (Or.inl rfl))
          (pss_one (ps_if (pt_val (pe_ix ix_list (pv 6) (pv 9) (fun _ _ => rfl)))
            (pss_one (ps_set (i := 8) sc_law.nd rfl (Or.inl rfl) (pe_or (pv 8) (pe_one (pe_ix ix_tup (pe_ix ix_list (pv 1) (pe_call G_led hr rfl Le.m Le.fn.kp Le.b .nil pass0 (pa_cons (pv 1) (pa_cons pe_int (pa_cons (pe_slice sl_str (pv 3) (po_some (pv 9)) (po_some (pv 7))) pa_nil)))) (fun _ _ => rfl)) pe_int (fun _ _ => rfl))))))
            pss_nil)))
        (pss_one (ps_expr (pe_bm PySem.F.plainAttrs_list PySem.F.slot_list_append PySem.F.type_list_append mt_append (pv 6) (pa_cons (pv 8) pa_nil)))))))
      (pss_cons (ps_for PassesOwn.never rfl (pi_range1 rfl T.range (pa_cons (pe_op op_add (pe_callB call_len_str (by rfl) T.len PySem.boot_len (pa_cons (pv 3) pa_nil)) pe_int) pa_nil)) (pg_name (i := 7) sc_law.nd rfl (Or.inl rfl))
        (pss_one (ps_if (pt_cmpR op_ne (pe_ix ix_tup (pe_ix ix_list (pv 5) (pe_call G_led hr rfl Le.m Le.fn.kp Le.b .nil pass0 (pa_cons (pv 5) (pa_cons pe_int (pa_cons (pe_slice sl_str (pv 3) po_none (po_some (pv 7))) pa_nil)))) (fun _ _ => rfl)) pe_int (fun _ _ => rfl)) (pe_ix ix_list (pv 6) (pv 7) (fun _ _ => rfl)) (nomark _))
          (pss_one (ps_ret pe_bl))
          pss_nil)))
      (pss_one (ps_ret (pe_call G_bs hr rfl Bs.m Bs.fn.kp Bs.b .nil pass0 (pa_cons (pv 5) (pa_cons pe_str (pa_cons (pv 1) (pa_cons (pe_lst pa_nil) pa_nil)))))))))))))))), ?_⟩
    case cs1 =>
      refine ⟨rfl, by decide +kernel, by decide +kernel, by kernel_rfl, rfl, nd_c1, fun _ _ h => (by cases h), fun p hp hf => ?_, fun i x j h1 h2 => ?_⟩
      · exact has_of (l := []) (ns := []) (by decide +kernel) (by intro y hy; cases hy) p hp hf
      · match i, h1, h2 with
        | 0, _, h2 => cases h2
        | i + 1, h1, _ => cases h1
    -- house
    obtain ⟨k0, ek0, hk0⟩ := mod_nat (ns.getD 0 0) (show 0 < 6 by decide)
    refine ⟨_, rfl, _, rfl, _, rfl, a, ns, 0, rfl, hS, _, rfl, a, ns, 6, 8, rfl, hS, hn, _, _, rfl, rfl, (by show (0 : Int) < 6; decide), _, _, rfl, rfl, _, rfl, a, _, rfl, hS, fun c0 hc0 => ?_⟩
    obtain ⟨ms, hms, hml, hml2⟩ := cutV_ints ns (some 2) (some (3 + ns.getD 0 0 % 6))
    rw [hms]
    have hml3 : ms.length ≤ 6 := by
      rw [show (3 : Int) + ns.getD 0 0 % 6 = ((3 + k0 : Nat) : Int) by rw [show ns.getD 0 0 % 6 = (k0 : Int) from ek0]; omega] at hml2
      have := sIx_le3 ns.length 2 (3 + k0)
      have e2 : HT.sIx ns.length 0 (some ((2 : Nat) : Int)) = HT.sIx ns.length 0 (some 2) := rfl
      rw [e2] at this
      omega
    have s1 : Same H (upd H c0 (.lst (ms.map V.int))) := same_upd hc0
    refine ⟨c0, ms, rfl, SqL.of upd_same, by omega, fun l1 ps H1 hl1 s2 ha1 => ?_⟩
    have sA := s1.trans s2
    have hd1 : (drawn ms).length ≤ 6 := by rw [drawn_length]; omega
    have wf := drawn_wf ms
    generalize drawn ms = hs at ha1 hd1 wf
    -- row
    refine ⟨_, rfl, _, rfl, _, rfl, a, ns, 13, 60, rfl, sA.seq hS, hn, _, _, rfl, rfl, _, rfl, a, _, rfl, sA.seq hS, fun c1' hc1 => ?_⟩
    obtain ⟨m3, hm3, hmk, _⟩ := cutV_ints ns (some 1) (some (1 + 13))
    rw [hm3]
    have s3 : Same H1 (upd H1 c1' (.lst (m3.map V.int))) := same_upd hc1
    have hc3 : upd H1 c1' (.lst (m3.map V.int)) c1' = some (.lst (m3.map V.int)) := upd_same
    have sB := sA.trans s3
    have ha2 := ha1.same s3
    generalize upd H1 c1' (.lst (m3.map V.int)) = H2 at s3 hc3 sB ha2
    -- walk
    refine ⟨rfl, _, rfl, c1', rfl, ⟨_, SqL.of hc3⟩, fun D hD => ?_⟩
    refine comp_vals (ys := m3.map fun c => V.str ⟨#[sgn (bitW c)]⟩) (fun σ => ∃ v0, σ = [v0]) (it_list (SqL.of hc3)) (by simp) (by rw [List.length_map]; omega) hD ⟨none, rfl⟩ ?_ ?_ gm_name
    · rintro i x y σ H5 Qk hx hy ⟨v0, rfl⟩ s5 k5
      rw [List.getElem?_map] at hx hy
      cases hc : m3[i]? with
      | none => rw [hc] at hx; cases hx
      | some c =>
        rw [hc] at hx hy
        cases hx
        cases hy
        refine ⟨_, rfl, _, _, rfl, rfl, ⟨by decide, by decide⟩, _, rfl, _, _, rfl, rfl, _, _, rfl, rfl, (by show (0 : Int) < 2; decide), _, _, _, rfl, rfl, (by decide), bitW_at c, k5 _ _ ⟨_, rfl⟩ (Same.refl _)⟩
    intro H3 s4 hD3
    refine ⟨_, D, m3.map fun c => ⟨#[sgn (bitW c)]⟩, rfl, rfl, SqL.of (by rw [hD3, List.map_map]; rfl), ?_, ?_⟩
    · rw [sum_ones (fun c => sgn (bitW c)), List.length_map, show (Str.ofString "").length = 0 from rfl]
      omega
    have ej : Txt.join (Str.ofString "") (m3.map fun c => (⟨#[sgn (bitW c)]⟩ : Str)) = txt (m3.map bitW) := by
      have e := join_sgn (m3.map bitW)
      rw [List.map_map] at e
      exact e
    rw [ej]
    have hwl : (m3.map bitW).length ≤ 63 := by rw [List.length_map]; omega
    generalize m3.map bitW = wk at hwl
    have sC := sB.trans s4
    have ha3 := ha2.same s4
    -- handed
    refine ⟨_, rfl, l1, _, rfl, .inl (SqL.of ha3.ob), fun h1 hh1 => ?_⟩
    have s5 : Same H3 (upd H3 h1 (.lst (ps.map V.ref))) := same_upd hh1
    have hx4 : HouseAt (upd H3 h1 (.lst (ps.map V.ref))) h1 ps hs := ⟨upd_same, ha3.rm.same s5⟩
    have ha4 := ha3.same s5
    have sD := sC.trans s5
    generalize upd H3 h1 (.lst (ps.map V.ref)) = H4 at s5 hx4 ha4 sD
    -- found
    refine ⟨_, rfl, h1, ps, hs, rfl, hx4, wf, by omega, hT.same sD, fun l qs rs H5 hl5 s6 hT5 hR5 wr hrl hsame => ?_⟩
    have hx5 := hx4.sam s6
    have ha5 := ha4.sam s6
    have hrl2 : rs.length ≤ 128 := Nat.le_trans hrl (show 2 ^ (hs.length + 1) ≤ 2 ^ 7 from Nat.pow_le_pow_right (by decide) (by omega))
    refine ⟨_, rfl, _, rfl, h1, l1, ps, hs, rfl, hx5, ha5, wf, fun H6 s7 => ⟨_, rfl, iteF ?_⟩⟩
    refine ⟨_, rfl, l, qs, rs, rfl, hR5.same s7, wr, fun H7 s8 => ⟨_, rfl, iteF ?_⟩⟩
    have s78 := s7.trans s8
    have hR7 := hR5.same s78
    have ha7 := ha5.same s78
    have hz : (txt wk).length ≤ sizeLine := by rw [sizeLine_eq, txt_len]; omega
    -- due = [True]
    refine ⟨(by show 1 ≤ sizeLine; decide), fun m hm => ?_⟩
    have s9 : Same H7 (upd H7 m (.lst [.bl true])) := same_upd hm
    have hR8 := hR7.same s9
    have ha8 := ha7.same s9
    have hm8 : upd H7 m (.lst [.bl true]) m = some (.lst (dues hs wk 1)) := upd_same
    generalize upd H7 m (.lst [.bl true]) = H8 at s9 hR8 ha8 hm8
    -- for end in range(1, len(walk) + 1)
    refine ⟨_, rfl, _, rfl, (by rw [sizeLine_eq, txt_len]; omega), _, _, rfl, rfl, ?_⟩
    rw [txt_len]
    refine ⟨1, ((wk.length + 1 : Nat) : Int), rfl, ⟨by omega, by omega, by omega, by omega⟩, ?_⟩
    have ez : (((wk.length + 1 : Nat) : Int) - 1).toNat = wk.length := by omega
    rw [ez]
    refine for_range (lo := 1) (n := wk.length) (fun j σ Hx => ∃ v7 v8 v9 : Option V, σ = [some (.ref a), some (.ref l1), some (.ref c1'), some (.str (txt wk)), some (.ref h1), some (.ref l), some (.ref m), v7, v8, v9] ∧ Same H7 Hx ∧ Hx m = some (.lst (dues hs wk (j + 1)))) ⟨none, none, none, rfl, s9, hm8⟩ ?_ ?_
    · rintro j σ Hx hj ⟨v7, v8, v9, rfl, s10, hmx⟩
      have hjl : j + 1 ≤ wk.length := hj
      have ha9 := ha7.same s10
      rw [show (1 : Int) + (j : Int) = ((j + 1 : Nat) : Int) by omega]
      -- fits = False; for cut in range(end)
      refine ⟨_, rfl, ?_⟩
      refine ⟨((j + 1 : Nat) : Int), rfl, by omega, by omega, ?_⟩
      rw [Int.toNat_natCast]
      refine for_range (lo := 0) (n := j + 1) (fun q σ Hy => ∃ v9 : Option V, σ = [some (.ref a), some (.ref l1), some (.ref c1'), some (.str (txt wk)), some (.ref h1), some (.ref l), some (.ref m), some (.int ((j + 1 : Nat) : Int)), some (.bl (fitTo hs wk (j + 1) q)), v9] ∧ Hy = Hx) ⟨v9, rfl, rfl⟩ ?_ ?_
      · rintro q σ Hy hq ⟨v9, rfl, rfl⟩
        rw [Int.zero_add]
        have hql : q ≤ wk.length := by omega
        refine ⟨_, rfl, _, rfl, m, _, _, _, rfl, rfl, SqL.of hmx, atI_nat (dues_get (by omega)), mnD hs (wk.take q), rfl, ?_⟩
        have hsu := fitTo_succ hs wk (j + 1) q
        cases hl : mnD hs (wk.take q)
        · refine ifF rfl ?_
          rw [hl, Bool.false_and, Bool.or_false] at hsu
          exact ⟨_, by rw [hsu]; rfl, rfl⟩
        · refine ifT rfl ?_
          rw [hl, Bool.true_and] at hsu
          refine ⟨_, rfl, fitTo hs wk (j + 1) q, rfl, ?_⟩
          cases hdu : fitTo hs wk (j + 1) q
          · refine ifF rfl ?_
            rw [hdu, Bool.false_or] at hsu
            refine ⟨_, rfl, _, rfl, _, rfl, _, rfl, _, rfl, _, rfl, _, rfl, txt wk, rfl, hz, ?_⟩
            rw [txt_mid wk q (j + 1) (by omega) hjl]
            refine ⟨l1, ps, hs, 0, (wk.take (j + 1)).drop q, rfl, ha9, wf, wf.ne, ?_⟩
            have hx2 := wf.led ((wk.take (j + 1)).drop q) wf.ne
            have e2 : hs[led hs 0 ((wk.take (j + 1)).drop q)]? = some (hs[led hs 0 ((wk.take (j + 1)).drop q)]'hx2) := by simp
            have g2 : litAt hs (led hs 0 ((wk.take (j + 1)).drop q)) = (hs[led hs 0 ((wk.take (j + 1)).drop q)]'hx2).lit := by rw [litAt, e2]
            obtain ⟨p2, hq2, hp2, hat2⟩ := ha9.get e2
            rw [g2] at hsu
            generalize hs[led hs 0 ((wk.take (j + 1)).drop q)]'hx2 = r2 at e2 g2 hp2 hsu
            refine ⟨l1, _, _, _, rfl, rfl, SqL.of ha9.ob, hat2, p2, _, _, _, rfl, rfl, SqT.of hp2, rfl, ?_⟩
            exact ⟨_, by rw [hsu]; rfl, rfl⟩
          · refine ifT rfl ?_
            rw [hdu, Bool.true_or] at hsu
            exact ⟨_, by rw [hsu]; rfl, rfl⟩
      · rintro σ Hy ⟨v9, rfl, rfl⟩
        refine ⟨_, rfl, .inl ⟨rfl, _, SqL.of hmx⟩, _, rfl, m, _, _, rfl, rfl, hmx, (by rw [dues_len, sizeLine_eq]; omega), ?_⟩
        refine ⟨_, _, _, rfl, s10.put hm, ?_⟩
        rw [upd_same, dues_succ hs wk (j + 1), fit_lit wf wk (Nat.succ_pos j) hjl]
    · rintro σ Hx ⟨v7, v8, v9, rfl, s10, hmx⟩
      have hR9 := hR7.same s10
      have ha9 := ha7.same s10
      -- for end in range(len(walk) + 1)
      refine ⟨_, rfl, _, rfl, (by rw [sizeLine_eq, txt_len]; omega), _, _, rfl, rfl, ?_⟩
      rw [txt_len]
      refine ⟨((wk.length + 1 : Nat) : Int), rfl, by omega, by omega, ?_⟩
      rw [Int.toNat_natCast]
      refine for_range (lo := 0) (n := wk.length + 1) (fun j σ Hy => ∃ v7 v8 v9 : Option V, σ = [some (.ref a), some (.ref l1), some (.ref c1'), some (.str (txt wk)), some (.ref h1), some (.ref l), some (.ref m), v7, v8, v9] ∧ Hy = Hx) ⟨v7, v8, v9, rfl, rfl⟩ ?_ ?_
      · rintro j σ Hy hj ⟨v7, v8, v9, rfl, rfl⟩
        rw [Int.zero_add]
        have hjl : j ≤ wk.length := by omega
        refine ⟨_, rfl, _, rfl, _, rfl, _, rfl, _, rfl, txt wk, rfl, hz, ?_⟩
        rw [txt_to wk j hjl]
        refine ⟨l, qs, rs, 0, wk.take j, rfl, hR9, wr, wr.ne, ?_⟩
        have hx1 := wr.led (wk.take j) wr.ne
        have e1 : rs[led rs 0 (wk.take j)]? = some (rs[led rs 0 (wk.take j)]'hx1) := by simp
        have g1 : litAt rs (led rs 0 (wk.take j)) = (rs[led rs 0 (wk.take j)]'hx1).lit := by rw [litAt, e1]
        obtain ⟨p1, hq1, hp1, hat1⟩ := hR9.get e1
        have hsm := hsame (wk.take j)
        rw [g1] at hsm
        generalize rs[led rs 0 (wk.take j)]'hx1 = r1 at e1 g1 hp1 hsm
        refine ⟨l, _, _, _, rfl, rfl, SqL.of hR9.ob, hat1, p1, _, _, _, rfl, rfl, SqT.of hp1, rfl, _, rfl, _, rfl, m, _, _, _, rfl, rfl, SqL.of hmx, atI_nat (dues_get (by omega)), rfl, _, rfl, ?_⟩
        refine ifF (by rw [hsm]; simp) ?_
        exact ⟨_, _, _, rfl, rfl⟩
      · rintro σ Hy ⟨v7, v8, v9, rfl, rfl⟩
        refine ⟨_, rfl, _, rfl, Nat.zero_le _, fun e he => ?_⟩
        have sF : Same Hy (upd Hy e (.lst [])) := same_upd he
        refine ⟨(⟨hs, wf, by show hs.length ≤ 20; omega⟩, l1, e), l, qs, rs, rfl, ⟨ps, ha9.same sF⟩, hR9.same sF, wr, ?_, hsame, fun H9 _ => k H9⟩
        have h6 : 2 * 2 ^ hs.length ≤ 2 * 64 := Nat.mul_le_mul (Nat.le_refl 2) (show 2 ^ hs.length ≤ 2 ^ 6 from Nat.pow_le_pow_right (by decide) hd1)
        have := Nat.mul_le_mul hrl2 h6
        show rs.length * (2 * 2 ^ hs.length) ≤ 8000000
        omega
end
end Law

set_option maxHeartbeats 8000000
namespace Law
open PySem L2 Hs PyProof.Rows
section
end
/-! ### what the top has written -/
theorem all_mk {l : PySem.W.OpenLaw} {w : World} {K : PySem.W.Frag} {h : Heap} {mg : Str → Option Value} {fa0 : Addr} (X : K.In h) (G : h.Ns mainGlobals mg) (hfa : mg "law" = some (.ref fa0))
    {f_joined : Addr} {od_joined an_joined : Option Addr} {sl_joined : Array (Option Value)} {oc_joined kV_joined dc_joined pm_joined cd_joined ct_joined : Value}
    (a_joined : PySem.W.nsIn K mainGlobals "joined" = some (some (.ref f_joined))) (l_joined : K.lookup f_joined = some ⟨oc_joined, od_joined, .func (PySem.W.fnOf "joined" "joined" (defArgs (top 3)) (defBody (top 3)) (defScope (top 3)) .none kV_joined dc_joined pm_joined an_joined cd_joined ct_joined), sl_joined⟩) (c_joined : PySem.W.codeIn K cd_joined "joined" = true) (k_joined : PySem.W.keepIn K (.ref f_joined) = true)
    {f_lot_of : Addr} {od_lot_of an_lot_of : Option Addr} {sl_lot_of : Array (Option Value)} {oc_lot_of kV_lot_of dc_lot_of pm_lot_of cd_lot_of ct_lot_of : Value}
    (a_lot_of : PySem.W.nsIn K mainGlobals "lot_of" = some (some (.ref f_lot_of))) (l_lot_of : K.lookup f_lot_of = some ⟨oc_lot_of, od_lot_of, .func (PySem.W.fnOf "lot_of" "lot_of" (defArgs (top 2)) (defBody (top 2)) (defScope (top 2)) .none kV_lot_of dc_lot_of pm_lot_of an_lot_of cd_lot_of ct_lot_of), sl_lot_of⟩) (c_lot_of : PySem.W.codeIn K cd_lot_of "lot_of" = true) (k_lot_of : PySem.W.keepIn K (.ref f_lot_of) = true)
    {f_is_lit : Addr} {od_is_lit an_is_lit : Option Addr} {sl_is_lit : Array (Option Value)} {oc_is_lit kV_is_lit dc_is_lit pm_is_lit cd_is_lit ct_is_lit : Value}
    (a_is_lit : PySem.W.nsIn K mainGlobals "is_lit" = some (some (.ref f_is_lit))) (l_is_lit : K.lookup f_is_lit = some ⟨oc_is_lit, od_is_lit, .func (PySem.W.fnOf "is_lit" "is_lit" (defArgs (top 5)) (defBody (top 5)) (defScope (top 5)) .none kV_is_lit dc_is_lit pm_is_lit an_is_lit cd_is_lit ct_is_lit), sl_is_lit⟩) (c_is_lit : PySem.W.codeIn K cd_is_lit "is_lit" = true) (k_is_lit : PySem.W.keepIn K (.ref f_is_lit) = true)
    {f_forks_of_house : Addr} {od_forks_of_house an_forks_of_house : Option Addr} {sl_forks_of_house : Array (Option Value)} {oc_forks_of_house kV_forks_of_house dc_forks_of_house pm_forks_of_house cd_forks_of_house ct_forks_of_house : Value}
    (a_forks_of_house : PySem.W.nsIn K mainGlobals "forks_of_house" = some (some (.ref f_forks_of_house))) (l_forks_of_house : K.lookup f_forks_of_house = some ⟨oc_forks_of_house, od_forks_of_house, .func (PySem.W.fnOf "forks_of_house" "forks_of_house" (defArgs (top 8)) (defBody (top 8)) (defScope (top 8)) .none kV_forks_of_house dc_forks_of_house pm_forks_of_house an_forks_of_house cd_forks_of_house ct_forks_of_house), sl_forks_of_house⟩) (c_forks_of_house : PySem.W.codeIn K cd_forks_of_house "forks_of_house" = true) (k_forks_of_house : PySem.W.keepIn K (.ref f_forks_of_house) = true)
    {f_entering : Addr} {od_entering an_entering : Option Addr} {sl_entering : Array (Option Value)} {oc_entering kV_entering dc_entering pm_entering cd_entering ct_entering : Value}
    (a_entering : PySem.W.nsIn K mainGlobals "entering" = some (some (.ref f_entering))) (l_entering : K.lookup f_entering = some ⟨oc_entering, od_entering, .func (PySem.W.fnOf "entering" "entering" (defArgs (top 9)) (defBody (top 9)) (defScope (top 9)) .none kV_entering dc_entering pm_entering an_entering cd_entering ct_entering), sl_entering⟩) (c_entering : PySem.W.codeIn K cd_entering "entering" = true) (k_entering : PySem.W.keepIn K (.ref f_entering) = true)
    {f_again_forks : Addr} {od_again_forks an_again_forks : Option Addr} {sl_again_forks : Array (Option Value)} {oc_again_forks kV_again_forks dc_again_forks pm_again_forks cd_again_forks ct_again_forks : Value}
    (a_again_forks : PySem.W.nsIn K mainGlobals "again_forks" = some (some (.ref f_again_forks))) (l_again_forks : K.lookup f_again_forks = some ⟨oc_again_forks, od_again_forks, .func (PySem.W.fnOf "again_forks" "again_forks" (defArgs (top 10)) (defBody (top 10)) (defScope (top 10)) .none kV_again_forks dc_again_forks pm_again_forks an_again_forks cd_again_forks ct_again_forks), sl_again_forks⟩) (c_again_forks : PySem.W.codeIn K cd_again_forks "again_forks" = true) (k_again_forks : PySem.W.keepIn K (.ref f_again_forks) = true)
    {f_settled : Addr} {od_settled an_settled : Option Addr} {sl_settled : Array (Option Value)} {oc_settled kV_settled dc_settled pm_settled cd_settled ct_settled : Value}
    (a_settled : PySem.W.nsIn K mainGlobals "settled" = some (some (.ref f_settled))) (l_settled : K.lookup f_settled = some ⟨oc_settled, od_settled, .func (PySem.W.fnOf "settled" "settled" (defArgs (top 13)) (defBody (top 13)) (defScope (top 13)) .none kV_settled dc_settled pm_settled an_settled cd_settled ct_settled), sl_settled⟩) (c_settled : PySem.W.codeIn K cd_settled "settled" = true) (k_settled : PySem.W.keepIn K (.ref f_settled) = true)
    {f_again : Addr} {od_again an_again : Option Addr} {sl_again : Array (Option Value)} {oc_again kV_again dc_again pm_again cd_again ct_again : Value}
    (a_again : PySem.W.nsIn K mainGlobals "again" = some (some (.ref f_again))) (l_again : K.lookup f_again = some ⟨oc_again, od_again, .func (PySem.W.fnOf "again" "again" (defArgs (top 15)) (defBody (top 15)) (defScope (top 15)) .none kV_again dc_again pm_again an_again cd_again ct_again), sl_again⟩) (c_again : PySem.W.codeIn K cd_again "again" = true) (k_again : PySem.W.keepIn K (.ref f_again) = true)
    {f_Lat : Addr} {od_Lat an_Lat : Option Addr} {sl_Lat : Array (Option Value)} {oc_Lat kV_Lat dc_Lat pm_Lat cd_Lat ct_Lat : Value}
    (a_Lat : PySem.W.nsIn K mainGlobals "_law_at" = some (some (.ref f_Lat))) (l_Lat : K.lookup f_Lat = some ⟨oc_Lat, od_Lat, .func (PySem.W.fnOf "_law_at" "_law_at" (defArgs (top 18)) (defBody (top 18)) (defScope (top 18)) .none kV_Lat dc_Lat pm_Lat an_Lat cd_Lat ct_Lat), sl_Lat⟩) (c_Lat : PySem.W.codeIn K cd_Lat "_law_at" = true) (k_Lat : PySem.W.keepIn K (.ref f_Lat) = true)
    {f_Ldrawn : Addr} {od_Ldrawn an_Ldrawn : Option Addr} {sl_Ldrawn : Array (Option Value)} {oc_Ldrawn kV_Ldrawn dc_Ldrawn pm_Ldrawn cd_Ldrawn ct_Ldrawn : Value}
    (a_Ldrawn : PySem.W.nsIn K mainGlobals "_law_drawn" = some (some (.ref f_Ldrawn))) (l_Ldrawn : K.lookup f_Ldrawn = some ⟨oc_Ldrawn, od_Ldrawn, .func (PySem.W.fnOf "_law_drawn" "_law_drawn" (defArgs (top 19)) (defBody (top 19)) (defScope (top 19)) .none kV_Ldrawn dc_Ldrawn pm_Ldrawn an_Ldrawn cd_Ldrawn ct_Ldrawn), sl_Ldrawn⟩) (c_Ldrawn : PySem.W.codeIn K cd_Ldrawn "_law_drawn" = true) (k_Ldrawn : PySem.W.keepIn K (.ref f_Ldrawn) = true)
    {f_Lis_house : Addr} {od_Lis_house an_Lis_house : Option Addr} {sl_Lis_house : Array (Option Value)} {oc_Lis_house kV_Lis_house dc_Lis_house pm_Lis_house cd_Lis_house ct_Lis_house : Value}
    (a_Lis_house : PySem.W.nsIn K mainGlobals "_law_is_house" = some (some (.ref f_Lis_house))) (l_Lis_house : K.lookup f_Lis_house = some ⟨oc_Lis_house, od_Lis_house, .func (PySem.W.fnOf "_law_is_house" "_law_is_house" (defArgs (top 20)) (defBody (top 20)) (defScope (top 20)) .none kV_Lis_house dc_Lis_house pm_Lis_house an_Lis_house cd_Lis_house ct_Lis_house), sl_Lis_house⟩) (c_Lis_house : PySem.W.codeIn K cd_Lis_house "_law_is_house" = true) (k_Lis_house : PySem.W.keepIn K (.ref f_Lis_house) = true)
    {f_Lwhole : Addr} {od_Lwhole an_Lwhole : Option Addr} {sl_Lwhole : Array (Option Value)} {oc_Lwhole kV_Lwhole dc_Lwhole pm_Lwhole cd_Lwhole ct_Lwhole : Value}
    (a_Lwhole : PySem.W.nsIn K mainGlobals "_law_whole" = some (some (.ref f_Lwhole))) (l_Lwhole : K.lookup f_Lwhole = some ⟨oc_Lwhole, od_Lwhole, .func (PySem.W.fnOf "_law_whole" "_law_whole" (defArgs (top 17)) (defBody (top 17)) (defScope (top 17)) .none kV_Lwhole dc_Lwhole pm_Lwhole an_Lwhole cd_Lwhole ct_Lwhole), sl_Lwhole⟩) (c_Lwhole : PySem.W.codeIn K cd_Lwhole "_law_whole" = true) (k_Lwhole : PySem.W.keepIn K (.ref f_Lwhole) = true)
    {f_Lunhurt : Addr} {od_Lunhurt an_Lunhurt : Option Addr} {sl_Lunhurt : Array (Option Value)} {oc_Lunhurt kV_Lunhurt dc_Lunhurt pm_Lunhurt cd_Lunhurt ct_Lunhurt : Value}
    (a_Lunhurt : PySem.W.nsIn K mainGlobals "_law_unhurt" = some (some (.ref f_Lunhurt))) (l_Lunhurt : K.lookup f_Lunhurt = some ⟨oc_Lunhurt, od_Lunhurt, .func (PySem.W.fnOf "_law_unhurt" "_law_unhurt" (defArgs (top 22)) (defBody (top 22)) (defScope (top 22)) .none kV_Lunhurt dc_Lunhurt pm_Lunhurt an_Lunhurt cd_Lunhurt ct_Lunhurt), sl_Lunhurt⟩) (c_Lunhurt : PySem.W.codeIn K cd_Lunhurt "_law_unhurt" = true) (k_Lunhurt : PySem.W.keepIn K (.ref f_Lunhurt) = true)
    {f_Lwide : Addr} {od_Lwide an_Lwide : Option Addr} {sl_Lwide : Array (Option Value)} {oc_Lwide kV_Lwide dc_Lwide pm_Lwide cd_Lwide ct_Lwide : Value}
    (a_Lwide : PySem.W.nsIn K mainGlobals "_law_wide" = some (some (.ref f_Lwide))) (l_Lwide : K.lookup f_Lwide = some ⟨oc_Lwide, od_Lwide, .func (PySem.W.fnOf "_law_wide" "_law_wide" (defArgs (top 23)) (defBody (top 23)) (defScope (top 23)) .none kV_Lwide dc_Lwide pm_Lwide an_Lwide cd_Lwide ct_Lwide), sl_Lwide⟩) (c_Lwide : PySem.W.codeIn K cd_Lwide "_law_wide" = true) (k_Lwide : PySem.W.keepIn K (.ref f_Lwide) = true)
    {f_Lled : Addr} {od_Lled an_Lled : Option Addr} {sl_Lled : Array (Option Value)} {oc_Lled kV_Lled dc_Lled pm_Lled cd_Lled ct_Lled : Value}
    (a_Lled : PySem.W.nsIn K mainGlobals "_law_led" = some (some (.ref f_Lled))) (l_Lled : K.lookup f_Lled = some ⟨oc_Lled, od_Lled, .func (PySem.W.fnOf "_law_led" "_law_led" (defArgs (top 21)) (defBody (top 21)) (defScope (top 21)) .none kV_Lled dc_Lled pm_Lled an_Lled cd_Lled ct_Lled), sl_Lled⟩) (c_Lled : PySem.W.codeIn K cd_Lled "_law_led" = true) (k_Lled : PySem.W.keepIn K (.ref f_Lled) = true)
    {f_Lany_lit : Addr} {od_Lany_lit an_Lany_lit : Option Addr} {sl_Lany_lit : Array (Option Value)} {oc_Lany_lit kV_Lany_lit dc_Lany_lit pm_Lany_lit cd_Lany_lit ct_Lany_lit : Value}
    (a_Lany_lit : PySem.W.nsIn K mainGlobals "_law_any_lit" = some (some (.ref f_Lany_lit))) (l_Lany_lit : K.lookup f_Lany_lit = some ⟨oc_Lany_lit, od_Lany_lit, .func (PySem.W.fnOf "_law_any_lit" "_law_any_lit" (defArgs (top 24)) (defBody (top 24)) (defScope (top 24)) .none kV_Lany_lit dc_Lany_lit pm_Lany_lit an_Lany_lit cd_Lany_lit ct_Lany_lit), sl_Lany_lit⟩) (c_Lany_lit : PySem.W.codeIn K cd_Lany_lit "_law_any_lit" = true) (k_Lany_lit : PySem.W.keepIn K (.ref f_Lany_lit) = true)
    {f_Lbegins : Addr} {od_Lbegins an_Lbegins : Option Addr} {sl_Lbegins : Array (Option Value)} {oc_Lbegins kV_Lbegins dc_Lbegins pm_Lbegins cd_Lbegins ct_Lbegins : Value}
    (a_Lbegins : PySem.W.nsIn K mainGlobals "_law_begins" = some (some (.ref f_Lbegins))) (l_Lbegins : K.lookup f_Lbegins = some ⟨oc_Lbegins, od_Lbegins, .func (PySem.W.fnOf "_law_begins" "_law_begins" (defArgs (top 25)) (defBody (top 25)) (defScope (top 25)) .none kV_Lbegins dc_Lbegins pm_Lbegins an_Lbegins cd_Lbegins ct_Lbegins), sl_Lbegins⟩) (c_Lbegins : PySem.W.codeIn K cd_Lbegins "_law_begins" = true) (k_Lbegins : PySem.W.keepIn K (.ref f_Lbegins) = true)
    {f_Lgoes_on : Addr} {od_Lgoes_on an_Lgoes_on : Option Addr} {sl_Lgoes_on : Array (Option Value)} {oc_Lgoes_on kV_Lgoes_on dc_Lgoes_on pm_Lgoes_on cd_Lgoes_on ct_Lgoes_on : Value}
    (a_Lgoes_on : PySem.W.nsIn K mainGlobals "_law_goes_on" = some (some (.ref f_Lgoes_on))) (l_Lgoes_on : K.lookup f_Lgoes_on = some ⟨oc_Lgoes_on, od_Lgoes_on, .func (PySem.W.fnOf "_law_goes_on" "_law_goes_on" (defArgs (top 26)) (defBody (top 26)) (defScope (top 26)) .none kV_Lgoes_on dc_Lgoes_on pm_Lgoes_on an_Lgoes_on cd_Lgoes_on ct_Lgoes_on), sl_Lgoes_on⟩) (c_Lgoes_on : PySem.W.codeIn K cd_Lgoes_on "_law_goes_on" = true) (k_Lgoes_on : PySem.W.keepIn K (.ref f_Lgoes_on) = true)
    {f_Lshines : Addr} {od_Lshines an_Lshines : Option Addr} {sl_Lshines : Array (Option Value)} {oc_Lshines kV_Lshines dc_Lshines pm_Lshines cd_Lshines ct_Lshines : Value}
    (a_Lshines : PySem.W.nsIn K mainGlobals "_law_shines" = some (some (.ref f_Lshines))) (l_Lshines : K.lookup f_Lshines = some ⟨oc_Lshines, od_Lshines, .func (PySem.W.fnOf "_law_shines" "_law_shines" (defArgs (top 27)) (defBody (top 27)) (defScope (top 27)) .none kV_Lshines dc_Lshines pm_Lshines an_Lshines cd_Lshines ct_Lshines), sl_Lshines⟩) (c_Lshines : PySem.W.codeIn K cd_Lshines "_law_shines" = true) (k_Lshines : PySem.W.keepIn K (.ref f_Lshines) = true)
    {f_Lwalked_beside : Addr} {od_Lwalked_beside an_Lwalked_beside : Option Addr} {sl_Lwalked_beside : Array (Option Value)} {oc_Lwalked_beside kV_Lwalked_beside dc_Lwalked_beside pm_Lwalked_beside cd_Lwalked_beside ct_Lwalked_beside : Value}
    (a_Lwalked_beside : PySem.W.nsIn K mainGlobals "_law_walked_beside" = some (some (.ref f_Lwalked_beside))) (l_Lwalked_beside : K.lookup f_Lwalked_beside = some ⟨oc_Lwalked_beside, od_Lwalked_beside, .func (PySem.W.fnOf "_law_walked_beside" "_law_walked_beside" (defArgs (top 28)) (defBody (top 28)) (defScope (top 28)) .none kV_Lwalked_beside dc_Lwalked_beside pm_Lwalked_beside an_Lwalked_beside cd_Lwalked_beside ct_Lwalked_beside), sl_Lwalked_beside⟩) (c_Lwalked_beside : PySem.W.codeIn K cd_Lwalked_beside "_law_walked_beside" = true) (k_Lwalked_beside : PySem.W.keepIn K (.ref f_Lwalked_beside) = true)
    {f_law : Addr} {od_law an_law : Option Addr} {sl_law : Array (Option Value)} {oc_law kV_law dc_law pm_law cd_law ct_law : Value}
    (a_law : PySem.W.nsIn K mainGlobals "law" = some (some (.ref f_law))) (l_law : K.lookup f_law = some ⟨oc_law, od_law, .func (PySem.W.fnOf "law" "law" (defArgs (top 29)) (defBody (top 29)) (defScope (top 29)) .none kV_law dc_law pm_law an_law cd_law ct_law), sl_law⟩) (c_law : PySem.W.codeIn K cd_law "law" = true) (k_law : PySem.W.keepIn K (.ref f_law) = true)
    {CF : Addr} {fFinit : Addr} {od_Finit an_Finit : Option Addr} {sl_Finit : Array (Option Value)} {oc_Finit kV_Finit dc_Finit pm_Finit cd_Finit ct_Finit : Value} {fFsize : Addr} {od_Fsize an_Fsize : Option Addr} {sl_Fsize : Array (Option Value)} {oc_Fsize kV_Fsize dc_Fsize pm_Fsize cd_Fsize ct_Fsize : Value} {fFled : Addr} {od_Fled an_Fled : Option Addr} {sl_Fled : Array (Option Value)} {oc_Fled kV_Fled dc_Fled pm_Fled cd_Fled ct_Fled : Value} {fFlets_empty : Addr} {od_Flets_empty an_Flets_empty : Option Addr} {sl_Flets_empty : Array (Option Value)} {oc_Flets_empty kV_Flets_empty dc_Flets_empty pm_Flets_empty cd_Flets_empty ct_Flets_empty : Value} {CS : Addr} {fSinit : Addr} {od_Sinit an_Sinit : Option Addr} {sl_Sinit : Array (Option Value)} {oc_Sinit kV_Sinit dc_Sinit pm_Sinit cd_Sinit ct_Sinit : Value} {fSis_whole : Addr} {od_Sis_whole an_Sis_whole : Option Addr} {sl_Sis_whole : Array (Option Value)} {oc_Sis_whole kV_Sis_whole dc_Sis_whole pm_Sis_whole cd_Sis_whole ct_Sis_whole : Value} {fSnumber : Addr} {od_Snumber an_Snumber : Option Addr} {sl_Snumber : Array (Option Value)} {oc_Snumber kV_Snumber dc_Snumber pm_Snumber cd_Snumber ct_Snumber : Value} {fSlook_on : Addr} {od_Slook_on an_Slook_on : Option Addr} {sl_Slook_on : Array (Option Value)} {oc_Slook_on kV_Slook_on dc_Slook_on pm_Slook_on cd_Slook_on ct_Slook_on : Value} (aCF : PySem.W.nsIn K mainGlobals "Forks" = some (some (.ref CF))) (pgF : PySem.W.plainGet K CF Str.empty = true) (hdF : PySem.W.hasDictIn K CF = true) (poF : PySem.W.plainOver K CF = true) (saF : PySem.W.findIn K (.ref CF) "__setattr__" = some (some (.builtin "object.__setattr__"))) (mkF : PySem.W.makesIn K CF = true) (kcF : PySem.W.keepIn K (.ref CF) = true) (nF_exits : PySem.W.findIn K (.ref CF) "exits" = some none) (nF_first : PySem.W.findIn K (.ref CF) "first" = some none) (nF_lit : PySem.W.findIn K (.ref CF) "lit" = some none) (aFinit : PySem.W.findIn K (.ref CF) "__init__" = some (some (.ref fFinit))) (iFinit : PySem.W.isFn K (.ref fFinit) = true) (lFinit : K.lookup fFinit = some ⟨oc_Finit, od_Finit, .func (PySem.W.fnOf "__init__" "Forks.__init__" (defArgs (sF 0)) (defBody (sF 0)) (defScope (sF 0)) .none kV_Finit dc_Finit pm_Finit an_Finit cd_Finit ct_Finit), sl_Finit⟩) (cFinit : PySem.W.codeIn K cd_Finit "Forks.__init__" = true) (kFinit : PySem.W.keepIn K (.ref fFinit) = true) (aFsize : PySem.W.findIn K (.ref CF) "size" = some (some (.ref fFsize))) (iFsize : PySem.W.isFn K (.ref fFsize) = true) (lFsize : K.lookup fFsize = some ⟨oc_Fsize, od_Fsize, .func (PySem.W.fnOf "size" "Forks.size" (defArgs (sF 1)) (defBody (sF 1)) (defScope (sF 1)) .none kV_Fsize dc_Fsize pm_Fsize an_Fsize cd_Fsize ct_Fsize), sl_Fsize⟩) (cFsize : PySem.W.codeIn K cd_Fsize "Forks.size" = true) (kFsize : PySem.W.keepIn K (.ref fFsize) = true) (aFled : PySem.W.findIn K (.ref CF) "led" = some (some (.ref fFled))) (iFled : PySem.W.isFn K (.ref fFled) = true) (lFled : K.lookup fFled = some ⟨oc_Fled, od_Fled, .func (PySem.W.fnOf "led" "Forks.led" (defArgs (sF 2)) (defBody (sF 2)) (defScope (sF 2)) .none kV_Fled dc_Fled pm_Fled an_Fled cd_Fled ct_Fled), sl_Fled⟩) (cFled : PySem.W.codeIn K cd_Fled "Forks.led" = true) (kFled : PySem.W.keepIn K (.ref fFled) = true) (aFlets_empty : PySem.W.findIn K (.ref CF) "lets_empty" = some (some (.ref fFlets_empty))) (iFlets_empty : PySem.W.isFn K (.ref fFlets_empty) = true) (lFlets_empty : K.lookup fFlets_empty = some ⟨oc_Flets_empty, od_Flets_empty, .func (PySem.W.fnOf "lets_empty" "Forks.lets_empty" (defArgs (sF 3)) (defBody (sF 3)) (defScope (sF 3)) .none kV_Flets_empty dc_Flets_empty pm_Flets_empty an_Flets_empty cd_Flets_empty ct_Flets_empty), sl_Flets_empty⟩) (cFlets_empty : PySem.W.codeIn K cd_Flets_empty "Forks.lets_empty" = true) (kFlets_empty : PySem.W.keepIn K (.ref fFlets_empty) = true) (aCS : PySem.W.nsIn K mainGlobals "Survey" = some (some (.ref CS))) (pgS : PySem.W.plainGet K CS Str.empty = true) (hdS : PySem.W.hasDictIn K CS = true) (poS : PySem.W.plainOver K CS = true) (saS : PySem.W.findIn K (.ref CS) "__setattr__" = some (some (.builtin "object.__setattr__"))) (mkS : PySem.W.makesIn K CS = true) (kcS : PySem.W.keepIn K (.ref CS) = true) (nS_forks : PySem.W.findIn K (.ref CS) "forks" = some none) (nS_numbers : PySem.W.findIn K (.ref CS) "numbers" = some none) (nS_lots : PySem.W.findIn K (.ref CS) "lots" = some none) (nS_rooms : PySem.W.findIn K (.ref CS) "rooms" = some none) (aSinit : PySem.W.findIn K (.ref CS) "__init__" = some (some (.ref fSinit))) (iSinit : PySem.W.isFn K (.ref fSinit) = true) (lSinit : K.lookup fSinit = some ⟨oc_Sinit, od_Sinit, .func (PySem.W.fnOf "__init__" "Survey.__init__" (defArgs (sS 0)) (defBody (sS 0)) (defScope (sS 0)) .none kV_Sinit dc_Sinit pm_Sinit an_Sinit cd_Sinit ct_Sinit), sl_Sinit⟩) (cSinit : PySem.W.codeIn K cd_Sinit "Survey.__init__" = true) (kSinit : PySem.W.keepIn K (.ref fSinit) = true) (aSis_whole : PySem.W.findIn K (.ref CS) "is_whole" = some (some (.ref fSis_whole))) (iSis_whole : PySem.W.isFn K (.ref fSis_whole) = true) (lSis_whole : K.lookup fSis_whole = some ⟨oc_Sis_whole, od_Sis_whole, .func (PySem.W.fnOf "is_whole" "Survey.is_whole" (defArgs (sS 1)) (defBody (sS 1)) (defScope (sS 1)) .none kV_Sis_whole dc_Sis_whole pm_Sis_whole an_Sis_whole cd_Sis_whole ct_Sis_whole), sl_Sis_whole⟩) (cSis_whole : PySem.W.codeIn K cd_Sis_whole "Survey.is_whole" = true) (kSis_whole : PySem.W.keepIn K (.ref fSis_whole) = true) (aSnumber : PySem.W.findIn K (.ref CS) "number" = some (some (.ref fSnumber))) (iSnumber : PySem.W.isFn K (.ref fSnumber) = true) (lSnumber : K.lookup fSnumber = some ⟨oc_Snumber, od_Snumber, .func (PySem.W.fnOf "number" "Survey.number" (defArgs (sS 2)) (defBody (sS 2)) (defScope (sS 2)) .none kV_Snumber dc_Snumber pm_Snumber an_Snumber cd_Snumber ct_Snumber), sl_Snumber⟩) (cSnumber : PySem.W.codeIn K cd_Snumber "Survey.number" = true) (kSnumber : PySem.W.keepIn K (.ref fSnumber) = true) (aSlook_on : PySem.W.findIn K (.ref CS) "look_on" = some (some (.ref fSlook_on))) (iSlook_on : PySem.W.isFn K (.ref fSlook_on) = true) (lSlook_on : K.lookup fSlook_on = some ⟨oc_Slook_on, od_Slook_on, .func (PySem.W.fnOf "look_on" "Survey.look_on" (defArgs (sS 3)) (defBody (sS 3)) (defScope (sS 3)) .none kV_Slook_on dc_Slook_on pm_Slook_on an_Slook_on cd_Slook_on ct_Slook_on), sl_Slook_on⟩) (cSlook_on : PySem.W.codeIn K cd_Slook_on "Survey.look_on" = true) (kSlook_on : PySem.W.keepIn K (.ref fSlook_on) = true)
    (z0 : PySem.W.nsIn K mainGlobals "len" = some none) (z1 : PySem.W.nsIn K mainGlobals "max" = some none) (z2 : PySem.W.nsIn K mainGlobals "range" = some none) (z3 : PySem.W.nsIn K mainGlobals "isinstance" = some none) (z4 : PySem.W.nsIn K mainGlobals "int" = some none) (z5 : PySem.W.nsIn K mainGlobals "bool" = some none) (z6 : PySem.W.nsIn K mainGlobals "str" = some none) (z7 : PySem.W.nsIn K mainGlobals "list" = some none) (z8 : PySem.W.nsIn K mainGlobals "tuple" = some none) (z9 : PySem.W.nsIn K mainGlobals "zip" = some none) (y0 : PySem.W.nsIn K mainGlobals "sorted" = some none) (y1 : PySem.W.nsIn K mainGlobals "set" = some none) :
    ∃ fd : FuncData, (∀ (s : Shared) (v : Value), BindsTo s fd ⟨[v], []⟩ [("_law_script", v)]) ∧ ∀ base : Heap, K.In base → base.Ns mainGlobals mg → FnOk l.prog w K mg base CX0 8 fa0 fd ["_law_script"] (spLaw K []) := by
  have T : Blt mg := ⟨PySem.W.mg_none_of X G z0, PySem.W.mg_none_of X G z1, PySem.W.mg_none_of X G z2, PySem.W.mg_none_of X G z3, PySem.W.mg_none_of X G z4, PySem.W.mg_none_of X G z5, PySem.W.mg_none_of X G z6, PySem.W.mg_none_of X G z7, PySem.W.mg_none_of X G z8, PySem.W.mg_none_of X G z9⟩
  have TS : mg "sorted" = none := PySem.W.mg_none_of X G y0
  have TE : mg "set" = none := PySem.W.mg_none_of X G y1
  have F_joined := fun_mk (st := top 3) l_joined c_joined k_joined
  have D_joined : Df K mg "joined" 3 ["lots", "chosen"] _ _ := ⟨F_joined, PySem.W.mg_of X G a_joined, F_joined.binds (ps := ["lots", "chosen"]) fun _ _ _ _ _ _ us hl => match us, hl with | [_, _], _ => rfl⟩
  have F_lot_of := fun_mk (st := top 2) l_lot_of c_lot_of k_lot_of
  have D_lot_of : Df K mg "lot_of" 2 ["rooms"] _ _ := ⟨F_lot_of, PySem.W.mg_of X G a_lot_of, F_lot_of.binds (ps := ["rooms"]) fun _ _ _ _ _ _ us hl => match us, hl with | [_], _ => rfl⟩
  have F_is_lit := fun_mk (st := top 5) l_is_lit c_is_lit k_is_lit
  have D_is_lit : Df K mg "is_lit" 5 ["house", "room"] _ _ := ⟨F_is_lit, PySem.W.mg_of X G a_is_lit, F_is_lit.binds (ps := ["house", "room"]) fun _ _ _ _ _ _ us hl => match us, hl with | [_, _], _ => rfl⟩
  have F_forks_of_house := fun_mk (st := top 8) l_forks_of_house c_forks_of_house k_forks_of_house
  have D_forks_of_house : Df K mg "forks_of_house" 8 ["house"] _ _ := ⟨F_forks_of_house, PySem.W.mg_of X G a_forks_of_house, F_forks_of_house.binds (ps := ["house"]) fun _ _ _ _ _ _ us hl => match us, hl with | [_], _ => rfl⟩
  have F_entering := fun_mk (st := top 9) l_entering c_entering k_entering
  have D_entering : Df K mg "entering" 9 ["lots", "lit", "begun"] _ _ := ⟨F_entering, PySem.W.mg_of X G a_entering, F_entering.binds (ps := ["lots", "lit", "begun"]) fun _ _ _ _ _ _ us hl => match us, hl with | [_, _, _], _ => rfl⟩
  have F_again_forks := fun_mk (st := top 10) l_again_forks c_again_forks k_again_forks
  have D_again_forks : Df K mg "again_forks" 10 ["part"] _ _ := ⟨F_again_forks, PySem.W.mg_of X G a_again_forks, F_again_forks.binds (ps := ["part"]) fun _ _ _ _ _ _ us hl => match us, hl with | [_], _ => rfl⟩
  have F_settled := fun_mk (st := top 13) l_settled c_settled k_settled
  have D_settled : Df K mg "settled" 13 ["forks"] _ _ := ⟨F_settled, PySem.W.mg_of X G a_settled, F_settled.binds (ps := ["forks"]) fun _ _ _ _ _ _ us hl => match us, hl with | [_], _ => rfl⟩
  have F_again := fun_mk (st := top 15) l_again c_again k_again
  have D_again : Df K mg "again" 15 ["house"] _ _ := ⟨F_again, PySem.W.mg_of X G a_again, F_again.binds (ps := ["house"]) fun _ _ _ _ _ _ us hl => match us, hl with | [_], _ => rfl⟩
  have F_Lat := fun_mk (st := top 18) l_Lat c_Lat k_Lat
  have D_Lat : Df K mg "_law_at" 18 ["_law_script", "_law_k"] _ _ := ⟨F_Lat, PySem.W.mg_of X G a_Lat, F_Lat.binds (ps := ["_law_script", "_law_k"]) fun _ _ _ _ _ _ us hl => match us, hl with | [_, _], _ => rfl⟩
  have F_Ldrawn := fun_mk (st := top 19) l_Ldrawn c_Ldrawn k_Ldrawn
  have D_Ldrawn : Df K mg "_law_drawn" 19 ["_law_cells"] _ _ := ⟨F_Ldrawn, PySem.W.mg_of X G a_Ldrawn, F_Ldrawn.binds (ps := ["_law_cells"]) fun _ _ _ _ _ _ us hl => match us, hl with | [_], _ => rfl⟩
  have F_Lis_house := fun_mk (st := top 20) l_Lis_house c_Lis_house k_Lis_house
  have D_Lis_house : Df K mg "_law_is_house" 20 ["_law_found"] _ _ := ⟨F_Lis_house, PySem.W.mg_of X G a_Lis_house, F_Lis_house.binds (ps := ["_law_found"]) fun _ _ _ _ _ _ us hl => match us, hl with | [_], _ => rfl⟩
  have F_Lwhole := fun_mk (st := top 17) l_Lwhole c_Lwhole k_Lwhole
  have D_Lwhole : Df K mg "_law_whole" 17 ["_law_found"] _ _ := ⟨F_Lwhole, PySem.W.mg_of X G a_Lwhole, F_Lwhole.binds (ps := ["_law_found"]) fun _ _ _ _ _ _ us hl => match us, hl with | [_], _ => rfl⟩
  have F_Lunhurt := fun_mk (st := top 22) l_Lunhurt c_Lunhurt k_Lunhurt
  have D_Lunhurt : Df K mg "_law_unhurt" 22 ["_law_handed", "_law_house"] _ _ := ⟨F_Lunhurt, PySem.W.mg_of X G a_Lunhurt, F_Lunhurt.binds (ps := ["_law_handed", "_law_house"]) fun _ _ _ _ _ _ us hl => match us, hl with | [_, _], _ => rfl⟩
  have F_Lwide := fun_mk (st := top 23) l_Lwide c_Lwide k_Lwide
  have D_Lwide : Df K mg "_law_wide" 23 ["_law_script", "_law_most", "_law_bound"] _ _ := ⟨F_Lwide, PySem.W.mg_of X G a_Lwide, F_Lwide.binds (ps := ["_law_script", "_law_most", "_law_bound"]) fun _ _ _ _ _ _ us hl => match us, hl with | [_, _, _], _ => rfl⟩
  have F_Lled := fun_mk (st := top 21) l_Lled c_Lled k_Lled
  have D_Lled : Df K mg "_law_led" 21 ["_law_house", "_law_room", "_law_walk"] _ _ := ⟨F_Lled, PySem.W.mg_of X G a_Lled, F_Lled.binds (ps := ["_law_house", "_law_room", "_law_walk"]) fun _ _ _ _ _ _ us hl => match us, hl with | [_, _, _], _ => rfl⟩
  have F_Lany_lit := fun_mk (st := top 24) l_Lany_lit c_Lany_lit k_Lany_lit
  have D_Lany_lit : Df K mg "_law_any_lit" 24 ["_law_house", "_law_rooms"] _ _ := ⟨F_Lany_lit, PySem.W.mg_of X G a_Lany_lit, F_Lany_lit.binds (ps := ["_law_house", "_law_rooms"]) fun _ _ _ _ _ _ us hl => match us, hl with | [_, _], _ => rfl⟩
  have F_Lbegins := fun_mk (st := top 25) l_Lbegins c_Lbegins k_Lbegins
  have D_Lbegins : Df K mg "_law_begins" 25 ["_law_word", "_law_one"] _ _ := ⟨F_Lbegins, PySem.W.mg_of X G a_Lbegins, F_Lbegins.binds (ps := ["_law_word", "_law_one"]) fun _ _ _ _ _ _ us hl => match us, hl with | [_, _], _ => rfl⟩
  have F_Lgoes_on := fun_mk (st := top 26) l_Lgoes_on c_Lgoes_on k_Lgoes_on
  have D_Lgoes_on : Df K mg "_law_goes_on" 26 ["_law_word", "_law_one", "_law_other", "_law_state", "_law_turn"] _ _ := ⟨F_Lgoes_on, PySem.W.mg_of X G a_Lgoes_on, F_Lgoes_on.binds (ps := ["_law_word", "_law_one", "_law_other", "_law_state", "_law_turn"]) fun _ _ _ _ _ _ us hl => match us, hl with | [_, _, _, _, _], _ => rfl⟩
  have F_Lshines := fun_mk (st := top 27) l_Lshines c_Lshines k_Lshines
  have D_Lshines : Df K mg "_law_shines" 27 ["_law_word", "_law_one", "_law_other", "_law_state"] _ _ := ⟨F_Lshines, PySem.W.mg_of X G a_Lshines, F_Lshines.binds (ps := ["_law_word", "_law_one", "_law_other", "_law_state"]) fun _ _ _ _ _ _ us hl => match us, hl with | [_, _, _, _], _ => rfl⟩
  have F_Lwalked_beside := fun_mk (st := top 28) l_Lwalked_beside c_Lwalked_beside k_Lwalked_beside
  have D_Lwalked_beside : Df K mg "_law_walked_beside" 28 ["_law_found", "_law_word", "_law_one", "_law_other"] _ _ := ⟨F_Lwalked_beside, PySem.W.mg_of X G a_Lwalked_beside, F_Lwalked_beside.binds (ps := ["_law_found", "_law_word", "_law_one", "_law_other"]) fun _ _ _ _ _ _ us hl => match us, hl with | [_, _, _, _], _ => rfl⟩
  have F_law := fun_mk (st := top 29) l_law c_law k_law
  have D_law : Df K mg "law" 29 ["_law_script"] _ _ := ⟨F_law, PySem.W.mg_of X G a_law, F_law.binds (ps := ["_law_script"]) fun _ _ _ _ _ _ us hl => match us, hl with | [_], _ => rfl⟩
  have F_Finit := fun_mk (st := sF 0) lFinit cFinit kFinit
  have b_Finit := F_Finit.binds (ps := ["self", "lefts", "rights", "first", "lit"]) fun _ _ _ _ _ _ us hl => match us, hl with | [_, _, _, _, _], _ => rfl
  have N_Finit : InF K "Forks.__init__" (sF 0) ["self", "lefts", "rights", "first", "lit"] fFinit _ := ⟨F_Finit, b_Finit⟩
  have F_Fsize := fun_mk (st := sF 1) lFsize cFsize kFsize
  have b_Fsize := F_Fsize.binds (ps := ["self"]) fun _ _ _ _ _ _ us hl => match us, hl with | [_], _ => rfl
  have N_Fsize : MdF K CF "size" "Forks.size" (sF 1) ["self"] fFsize _ := ⟨⟨aFsize, iFsize, kFsize⟩, F_Fsize, b_Fsize⟩
  have F_Fled := fun_mk (st := sF 2) lFled cFled kFled
  have b_Fled := F_Fled.binds (ps := ["self", "lot", "side"]) fun _ _ _ _ _ _ us hl => match us, hl with | [_, _, _], _ => rfl
  have N_Fled : MdF K CF "led" "Forks.led" (sF 2) ["self", "lot", "side"] fFled _ := ⟨⟨aFled, iFled, kFled⟩, F_Fled, b_Fled⟩
  have F_Flets_empty := fun_mk (st := sF 3) lFlets_empty cFlets_empty kFlets_empty
  have b_Flets_empty := F_Flets_empty.binds (ps := ["self"]) fun _ _ _ _ _ _ us hl => match us, hl with | [_], _ => rfl
  have N_Flets_empty : MdF K CF "lets_empty" "Forks.lets_empty" (sF 3) ["self"] fFlets_empty _ := ⟨⟨aFlets_empty, iFlets_empty, kFlets_empty⟩, F_Flets_empty, b_Flets_empty⟩
  have ZF : CsF K mg CF fFinit := ⟨⟨pgF, hdF, poF, saF⟩, nF_exits, nF_first, nF_lit, ⟨mkF, aFinit, iFinit, kcF⟩, PySem.W.mg_of X G aCF⟩
  have F_Sinit := fun_mk (st := sS 0) lSinit cSinit kSinit
  have b_Sinit := F_Sinit.binds (ps := ["self", "forks"]) fun _ _ _ _ _ _ us hl => match us, hl with | [_, _], _ => rfl
  have N_Sinit : InF K "Survey.__init__" (sS 0) ["self", "forks"] fSinit _ := ⟨F_Sinit, b_Sinit⟩
  have F_Sis_whole := fun_mk (st := sS 1) lSis_whole cSis_whole kSis_whole
  have b_Sis_whole := F_Sis_whole.binds (ps := ["self"]) fun _ _ _ _ _ _ us hl => match us, hl with | [_], _ => rfl
  have N_Sis_whole : MdF K CS "is_whole" "Survey.is_whole" (sS 1) ["self"] fSis_whole _ := ⟨⟨aSis_whole, iSis_whole, kSis_whole⟩, F_Sis_whole, b_Sis_whole⟩
  have F_Snumber := fun_mk (st := sS 2) lSnumber cSnumber kSnumber
  have b_Snumber := F_Snumber.binds (ps := ["self", "lot"]) fun _ _ _ _ _ _ us hl => match us, hl with | [_, _], _ => rfl
  have N_Snumber : MdF K CS "number" "Survey.number" (sS 2) ["self", "lot"] fSnumber _ := ⟨⟨aSnumber, iSnumber, kSnumber⟩, F_Snumber, b_Snumber⟩
  have F_Slook_on := fun_mk (st := sS 3) lSlook_on cSlook_on kSlook_on
  have b_Slook_on := F_Slook_on.binds (ps := ["self"]) fun _ _ _ _ _ _ us hl => match us, hl with | [_], _ => rfl
  have N_Slook_on : MdF K CS "look_on" "Survey.look_on" (sS 3) ["self"] fSlook_on _ := ⟨⟨aSlook_on, iSlook_on, kSlook_on⟩, F_Slook_on, b_Slook_on⟩
  have ZS : CsS K mg CS fSinit := ⟨⟨pgS, hdS, poS, saS⟩, nS_forks, nS_numbers, nS_lots, nS_rooms, ⟨mkS, aSinit, iSinit, kcS⟩, PySem.W.mg_of X G aCS⟩
  have S : SvC K mg CS CF fSinit fFinit fSis_whole fSnumber fFled f_joined fSlook_on _ _ _ _ _ _ := ⟨ZS, ZF, N_Sinit, N_Sis_whole, N_Snumber, N_Slook_on, N_Fled, D_joined⟩
  have e := hfa.symm.trans (PySem.W.mg_of X G a_law)
  cases e
  exact ⟨_, fun s v => .of_eq rfl, fun base _ _ => ok_law D_law.fn T TS TE S N_Finit N_Fsize N_Flets_empty D_lot_of D_is_lit D_forks_of_house D_entering D_again_forks D_settled D_again D_Lat D_Ldrawn D_Lis_house D_Lwhole D_Lunhurt D_Lwide D_Lled D_Lany_lit D_Lbegins D_Lgoes_on D_Lshines D_Lwalked_beside⟩
theorem walk {l : PySem.W.OpenLaw} {q : Program} {loose : List Str} {XP : (Str → Option Value) → Heap → Prop} {YP : World → Heap → Prop} {d : DefRec} {K : Params → PySem.W.Frag} (hn : l.most = some 63) (hdf : d.params.defaults = [])
    (hY : ∀ (w : World) (h : Heap), YP w h → (K w.params).In h)
    (F : ∀ (w : World) (mg : Str → Option Value) (fa : Addr) (h : Heap), (K w.params).In h → h.Ns mainGlobals mg → mg d.name = some (.ref fa) →
      ∃ fd : FuncData, (∀ (s : Shared) (u : Value), BindsTo s fd ⟨[u], []⟩ [("_law_script", u)]) ∧ ∀ base : Heap, (K w.params).In base → base.Ns mainGlobals mg → FnOk l.prog w (K w.params) mg base CX0 8 fa fd ["_law_script"] (spLaw (K w.params) [])) :
    PySem.W.WalkO q loose XP YP l.row.toRowW d [] (fun f vs => PySem.call f vs) :=
  L2.walk_of (n := 63) (k := 8) (x := "_law_script") (CX := fun _ => CX0) (sp := fun w => spLaw (K w.params) []) hn (by decide) hdf ⟨rfl, by decide, by decide⟩ hY F (fun _ _ a ns hl _ hS => ⟨a, ns, rfl, hS, hl, (fun t ht => absurd ht (by simp)), fun _ => rfl⟩) fun _ _ _ _ _ z => z
end Law
open PySem PySem.W PyProof.Rows
set_option maxRecDepth 100000 in
set_option maxHeartbeats 0 in
theorem PySem.Challenge.cw_turnhouse_k07_again_and_again_holds : PySem.Challenge.rw_turnhouse_k07_again_and_again.Holds := by
  w_on; o_law; k_head; (case hw => w_witness2)
  k_fill
  refine Law.walk (l := PySem.Challenge.rw_turnhouse_k07_again_and_again) rfl rfl (fun w h Y => PySem.W.kIn_of Y) ?F
  case F =>
    intro w mg fa h KX G hmg
    refine' Law.all_mk KX G hmg ?a_joined ?l_joined ?c_joined ?k_joined ?a_lot_of ?l_lot_of ?c_lot_of ?k_lot_of ?a_is_lit ?l_is_lit ?c_is_lit ?k_is_lit ?a_forks_of_house ?l_forks_of_house ?c_forks_of_house ?k_forks_of_house ?a_entering ?l_entering ?c_entering ?k_entering ?a_again_forks ?l_again_forks ?c_again_forks ?k_again_forks ?a_settled ?l_settled ?c_settled ?k_settled ?a_again ?l_again ?c_again ?k_again ?a_Lat ?l_Lat ?c_Lat ?k_Lat ?a_Ldrawn ?l_Ldrawn ?c_Ldrawn ?k_Ldrawn ?a_Lis_house ?l_Lis_house ?c_Lis_house ?k_Lis_house ?a_Lwhole ?l_Lwhole ?c_Lwhole ?k_Lwhole ?a_Lunhurt ?l_Lunhurt ?c_Lunhurt ?k_Lunhurt ?a_Lwide ?l_Lwide ?c_Lwide ?k_Lwide ?a_Lled ?l_Lled ?c_Lled ?k_Lled ?a_Lany_lit ?l_Lany_lit ?c_Lany_lit ?k_Lany_lit ?a_Lbegins ?l_Lbegins ?c_Lbegins ?k_Lbegins ?a_Lgoes_on ?l_Lgoes_on ?c_Lgoes_on ?k_Lgoes_on ?a_Lshines ?l_Lshines ?c_Lshines ?k_Lshines ?a_Lwalked_beside ?l_Lwalked_beside ?c_Lwalked_beside ?k_Lwalked_beside ?a_law ?l_law ?c_law ?k_law ?aCF ?pgF ?hdF ?poF ?saF ?mkF ?kcF ?nF_exits ?nF_first ?nF_lit ?aFinit ?iFinit ?lFinit ?cFinit ?kFinit ?aFsize ?iFsize ?lFsize ?cFsize ?kFsize ?aFled ?iFled ?lFled ?cFled ?kFled ?aFlets_empty ?iFlets_empty ?lFlets_empty ?cFlets_empty ?kFlets_empty ?aCS ?pgS ?hdS ?poS ?saS ?mkS ?kcS ?nS_forks ?nS_numbers ?nS_lots ?nS_rooms ?aSinit ?iSinit ?lSinit ?cSinit ?kSinit ?aSis_whole ?iSis_whole ?lSis_whole ?cSis_whole ?kSis_whole ?aSnumber ?iSnumber ?lSnumber ?cSnumber ?kSnumber ?aSlook_on ?iSlook_on ?lSlook_on ?cSlook_on ?kSlook_on ?z0 ?z1 ?z2 ?z3 ?z4 ?z5 ?z6 ?z7 ?z8 ?z9 ?y0 ?y1
    (case a_joined => k_is); (case l_joined => k_is); (case c_joined => k_is); (case k_joined => k_is); (case a_lot_of => k_is); (case l_lot_of => k_is); (case c_lot_of => k_is); (case k_lot_of => k_is); (case a_is_lit => k_is); (case l_is_lit => k_is); (case c_is_lit => k_is); (case k_is_lit => k_is); (case a_forks_of_house => k_is); (case l_forks_of_house => k_is); (case c_forks_of_house => k_is); (case k_forks_of_house => k_is); (case a_entering => k_is); (case l_entering => k_is); (case c_entering => k_is); (case k_entering => k_is); (case a_again_forks => k_is); (case l_again_forks => k_is); (case c_again_forks => k_is); (case k_again_forks => k_is); (case a_settled => k_is); (case l_settled => k_is); (case c_settled => k_is); (case k_settled => k_is); (case a_again => k_is); (case l_again => k_is); (case c_again => k_is); (case k_again => k_is); (case a_Lat => k_is); (case l_Lat => k_is); (case c_Lat => k_is); (case k_Lat => k_is); (case a_Ldrawn => k_is); (case l_Ldrawn => k_is); (case c_Ldrawn => k_is); (case k_Ldrawn => k_is); (case a_Lis_house => k_is); (case l_Lis_house => k_is); (case c_Lis_house => k_is); (case k_Lis_house => k_is); (case a_Lwhole => k_is); (case l_Lwhole => k_is); (case c_Lwhole => k_is); (case k_Lwhole => k_is); (case a_Lunhurt => k_is); (case l_Lunhurt => k_is); (case c_Lunhurt => k_is); (case k_Lunhurt => k_is); (case a_Lwide => k_is); (case l_Lwide => k_is); (case c_Lwide => k_is); (case k_Lwide => k_is); (case a_Lled => k_is); (case l_Lled => k_is); (case c_Lled => k_is); (case k_Lled => k_is); (case a_Lany_lit => k_is); (case l_Lany_lit => k_is); (case c_Lany_lit => k_is); (case k_Lany_lit => k_is); (case a_Lbegins => k_is); (case l_Lbegins => k_is); (case c_Lbegins => k_is); (case k_Lbegins => k_is); (case a_Lgoes_on => k_is); (case l_Lgoes_on => k_is); (case c_Lgoes_on => k_is); (case k_Lgoes_on => k_is); (case a_Lshines => k_is); (case l_Lshines => k_is); (case c_Lshines => k_is); (case k_Lshines => k_is); (case a_Lwalked_beside => k_is); (case l_Lwalked_beside => k_is); (case c_Lwalked_beside => k_is); (case k_Lwalked_beside => k_is); (case a_law => k_is); (case l_law => k_is); (case c_law => k_is); (case k_law => k_is); (case aCF => k_is); (case pgF => k_is); (case hdF => k_is); (case poF => k_is); (case saF => k_is); (case mkF => k_is); (case kcF => k_is); (case nF_exits => k_is); (case nF_first => k_is); (case nF_lit => k_is); (case aFinit => k_is); (case iFinit => k_is); (case lFinit => k_is); (case cFinit => k_is); (case kFinit => k_is); (case aFsize => k_is); (case iFsize => k_is); (case lFsize => k_is); (case cFsize => k_is); (case kFsize => k_is); (case aFled => k_is); (case iFled => k_is); (case lFled => k_is); (case cFled => k_is); (case kFled => k_is); (case aFlets_empty => k_is); (case iFlets_empty => k_is); (case lFlets_empty => k_is); (case cFlets_empty => k_is); (case kFlets_empty => k_is); (case aCS => k_is); (case pgS => k_is); (case hdS => k_is); (case poS => k_is); (case saS => k_is); (case mkS => k_is); (case kcS => k_is); (case nS_forks => k_is); (case nS_numbers => k_is); (case nS_lots => k_is); (case nS_rooms => k_is); (case aSinit => k_is); (case iSinit => k_is); (case lSinit => k_is); (case cSinit => k_is); (case kSinit => k_is); (case aSis_whole => k_is); (case iSis_whole => k_is); (case lSis_whole => k_is); (case cSis_whole => k_is); (case kSis_whole => k_is); (case aSnumber => k_is); (case iSnumber => k_is); (case lSnumber => k_is); (case cSnumber => k_is); (case kSnumber => k_is); (case aSlook_on => k_is); (case iSlook_on => k_is); (case lSlook_on => k_is); (case cSlook_on => k_is); (case kSlook_on => k_is); (case z0 => k_is); (case z1 => k_is); (case z2 => k_is); (case z3 => k_is); (case z4 => k_is); (case z5 => k_is); (case z6 => k_is); (case z7 => k_is); (case z8 => k_is); (case z9 => k_is); (case y0 => k_is); (case y1 => k_is)
#print axioms PySem.Challenge.cw_turnhouse_k07_again_and_again_holds
