import PyProof.Rows.All
import Wide.All
import OpenK.AllK
import Wide.FinOn
import Lean
import PyProof.EqAt
import PyProof.EqKinds
import PyProof.TupleCall
import PyProof.ZipIter
import PyProof.Draws
import PyProof.StrWalks
import PyProof.CompFree
import PyProof.ExcArgsOwn
import PyProof.ExcAttrAll.ValueError
import PyProof.FString4
import PyProof.StrLawsRepr
import KE.KNest
import KE.KLam
import KE.KRevIter
import PyProof.CollectIter
import PyProof.JoinWalk
import PyProof.DictWalks
import PyProof.ListNew
import PyProof.ZipIter
import PyProof.Draws
import PyProof.StrWalks
import PyProof.CompFree
import PyProof.ExcArgsOwn
import PyProof.ExcAttrAll.ValueError
import OpenK.KDescr
import PyProof.FString4
import PyProof.StrLawsRepr
import KE.KNest
import KE.KLam
import KE.KRevIter
import PyProof.CollectIter
import PyProof.JoinWalk
import PyProof.DictWalks
import PyProof.ListNew
import PySem.SetOps
import PyProof.SetScanFacts
import PyProof.SetKind
import PyProof.Rows.SetFrom
import PyProof.Rows.SortShell
import PyProof.Rows.SortWalk
import PyProof.ConsumeWalk
import PyProof.ListMulRoad
import PyProof.DictValues
import KE.KSortKey
import KE.KDictList
import PyProof.MinMaxWalk
import PyProof.WalkInts
import PyProof.AttrMissHeap
import PySem.Challenge.RW_turnhouse_k08_whole_least
set_option Elab.async false
set_option linter.all false
set_option maxRecDepth 100000
section
local macro_rules | `(tactic| omega) => `(tactic| lia)
theorem L2.au1 (h : True:=by rfl) : True:=h
theorem L2.au2 (h : True:=by first | exact .inl rfl | exact .inr rfl | assumption) : True:=h
theorem L2.au3 (h : True:=by decide) : True:=h
theorem L2.au4 (h : True:=by intro _; rfl) : True:=h
namespace L2
open PySem PySem.Spec PyProof.Rows
noncomputable abbrev Key:=Sum Int Str
noncomputable def keyIs : Key -> Value -> Bool
 | .inl k,v => Value.isInt k v
 | .inr x,v => Value.isStrOf x v
noncomputable def keyH (w : World) : Key -> Int
 | .inl k => hashInt k
 | .inr x => hashStr w x
theorem keyIs_shape : ∀ {k : Key} {v : Value},keyIs k v = true -> (∃ i t,k = Sum.inl i /\ v = Value.int i t) ∨ (∃ x t,k = Sum.inr x /\ v = Value.str x t)
 | .inl i,v,h => by
  obtain ⟨t,e⟩:=Value.isInt_shape (k:=i) (v:=v) h
  exact .inl ⟨i,t,rfl,e⟩
 | .inr x,v,h => by
  obtain ⟨t,e⟩:=Value.isStrOf_shape (x:=x) (v:=v) h
  exact .inr ⟨x,t,rfl,e⟩
theorem keyIs_int (i : Int) (t : Tok) : keyIs (.inl i) (.int i t) = true:=by simp [keyIs,Value.isInt]
theorem keyIs_str (x : Str) (t : Tok) : keyIs (.inr x) (.str x t) = true:=by simp [keyIs,Value.isStrOf]
theorem key_ll (a b : Int) : decide ((Sum.inl a : Key) = Sum.inl b) = (a == b):=by
 by_cases e : a = b
 ·subst e; simp
 ·have h : ¬ (Sum.inl a : Key) = Sum.inl b:=fun q => e (Sum.inl.inj q)
  rw [decide_eq_false h]
  exact (beq_eq_false_iff_ne.mpr e).symm
theorem key_rr (a b : Str) : decide ((Sum.inr a : Key) = Sum.inr b) = decide (a = b):=by
 by_cases e : a = b
 ·subst e; simp
 ·have h : ¬ (Sum.inr a : Key) = Sum.inr b:=fun q => e (Sum.inr.inj q)
  rw [decide_eq_false h,decide_eq_false e]
theorem key_lr (a : Int) (b : Str) : decide ((Sum.inl a : Key) = Sum.inr b) = false:=decide_eq_false (fun q => nomatch q)
theorem key_rl (a : Str) (b : Int) : decide ((Sum.inr a : Key) = Sum.inl b) = false:=decide_eq_false (fun q => nomatch q)
noncomputable def mixKind (prog : Program) (w : World) : PySem.KeyKind prog w Key where
 is:=keyIs
 hash:=keyH w
 inj:=fun v a b ha hb => by
  rcases keyIs_shape ha with ⟨i,t,rfl,rfl⟩ | ⟨x,t,rfl,rfl⟩
  ·rcases keyIs_shape hb with ⟨j,u,rfl,e⟩ | ⟨y,u,rfl,e⟩
   ·injection e with e1 _; rw [e1]
   ·exact nomatch e
  ·rcases keyIs_shape hb with ⟨j,u,rfl,e⟩ | ⟨y,u,rfl,e⟩
   ·exact nomatch e
   ·injection e with e1 _; rw [e1]
 byValue:=fun k v h => by
  rcases keyIs_shape h with ⟨i,t,rfl,rfl⟩ | ⟨x,t,rfl,rfl⟩ <;> rfl
 pyHash:=fun hv h => by
  rcases keyIs_shape hv with ⟨i,t,rfl,rfl⟩ | ⟨x,t,rfl,rfl⟩
  ·exact wpAny_pyHash_int h
  ·exact wpAny_pyHash_str h
 eqBool:=fun hu hv h => by
  rcases keyIs_shape hu with ⟨i,t,rfl,rfl⟩ | ⟨x,t,rfl,rfl⟩
  ·rcases keyIs_shape hv with ⟨j,u,rfl,rfl⟩ | ⟨y,u,rfl,rfl⟩
   ·rw [key_ll] at h; exact wpAny_eqBool_int h
   ·rw [key_lr] at h; exact SeqAt.EqAt.int_str i t y u _ _ _ _ h
  ·rcases keyIs_shape hv with ⟨j,u,rfl,rfl⟩ | ⟨y,u,rfl,rfl⟩
   ·rw [key_rl] at h; exact SeqAt.EqAt.str_int x t j u _ _ _ _ h
   ·rw [key_rr] at h; exact wpAny_eqBool_str h
 «strs»:=fun k x t v h => by
  rcases keyIs_shape h with ⟨i,u,rfl,e⟩ | ⟨y,u,rfl,e⟩
  ·exact nomatch e
  ·injection e with e1 _
   subst e1
   cases v <;> rfl
theorem mixKind_is (prog : Program) (w : World) (k : Key) (v : Value) : (mixKind prog w).is k v = keyIs k v:=rfl
theorem mixKind_int (prog : Program) (w : World) (i : Int) (t : Tok) : (mixKind prog w).is (.inl i) (.int i t) = true:=keyIs_int i t
theorem mixKind_str (prog : Program) (w : World) (x : Str) (t : Tok) : (mixKind prog w).is (.inr x) (.str x t) = true:=keyIs_str x t
end L2
namespace L2
open PySem PySem.Spec PyProof.Rows
inductive V where
 | non | bl (b : Bool) | int (i : Int) | str (x : Str) | byt (b : Array UInt8) | flt (b : UInt64) | ref (a : Addr) | ty (n : String)
 deriving DecidableEq
noncomputable def RelV : V -> Value -> Prop
 | .non,u => u = Value.none
 | .bl b,u => u = Value.bool b
 | .int i,u => ∃ t,u = Value.int i t
 | .str x,u => ∃ t,u = Value.str x t
 | .byt b,u => ∃ t,u = Value.bytes b t
 | .flt b,u => ∃ t,u = Value.float b t
 | .ref a,u => u = Value.ref a
 | .ty n,u => u = Value.type n
noncomputable abbrev Vals : List V -> List Value -> Prop:=Paired RelV
theorem Vals.length {xs : List V} {us : List Value} (r : Vals xs us) : xs.length = us.length:=Paired.length r
theorem Vals.get : ∀ {xs : List V} {us : List Value} {i : Nat} {x : V},Vals xs us -> xs[i]? = some x -> ∃ u,us[i]? = some u /\ RelV x u
 | _,_,_,_,.nil,e => by simp at e
 | _,_,0,_,.cons r _,e => by simp at e; subst e; exact ⟨_,rfl,r⟩
 | _,_,i + 1,x,.cons _ t,e => by
  obtain ⟨u,h1,h2⟩:=Vals.get (i:=i) (x:=x) t (by simpa using e)
  exact ⟨u,by simpa using h1,h2⟩
theorem Vals.set {x : V} {u : Value} (r : RelV x u) : ∀ {xs : List V} {us : List Value} (i : Nat),Vals xs us -> Vals (xs.set i x) (us.set i u)
 | _,_,_,.nil => .nil
 | _,_,0,.cons _ t => .cons r t
 | _,_,i + 1,.cons q t => .cons q (Vals.set r i t)
theorem Vals.append : ∀ {xs ys : List V} {us ws : List Value},Vals xs us -> Vals ys ws -> Vals (xs ++ ys) (us ++ ws)
 | _,_,_,_,.nil,s => s
 | _,_,_,_,.cons r t,s => .cons r (Vals.append t s)
theorem Vals.take : ∀ {xs : List V} {us : List Value} (n : Nat),Vals xs us -> Vals (xs.take n) (us.take n)
 | _,_,0,_ => .nil
 | _,_,_ + 1,.nil => .nil
 | _,_,n + 1,.cons r t => .cons r (Vals.take n t)
theorem Vals.drop : ∀ {xs : List V} {us : List Value} (n : Nat),Vals xs us -> Vals (xs.drop n) (us.drop n)
 | _,_,0,r => r
 | _,_,_ + 1,.nil => .nil
 | _,_,n + 1,.cons _ t => Vals.drop n t
noncomputable def RelO : Option V -> Option Value -> Prop
 | some v,some u => RelV v u
 | none,none => True
 | _,_ => False
noncomputable def KV {κ : Type} : List (κ × V) -> List (κ × Value) -> Prop:=Paired fun (p : κ × V) (q : κ × Value) => p.1 = q.1 /\ RelV p.2 q.2
noncomputable def kV : Key -> V
 | .inl i => .int i
 | .inr x => .str x
inductive HO where
 | lst (xs : List V)
 | tup (xs : List V)
 | dK (kvs : List (Key × V)) | dT (kvs : List (List Key × V))
 | set (S : Int -> Bool) (n : Nat)
 | ins (C dx : Addr) (fs : List (Str × V))
 | own (x : Addr)
 | xd (fs : List (Str × V))
 | met (f x : Addr)
 | rng (lo hi : Int)
 | frz (o : Obj) (u : HO)
 | tbl (ps : Array Value)
 | ext (φ : Heap -> Prop)
noncomputable abbrev Hp:=Addr -> Option HO
noncomputable def upd (H : Hp) (a : Addr) (o : HO) : Hp:=fun b => if b = a then some o else H b
theorem upd_same {H : Hp} {a : Addr} {o : HO} : upd H a o a = some o:=by unfold upd; rw [if_pos rfl]
theorem upd_ne {H : Hp} {a b : Addr} {o : HO} (h : b ≠ a) : upd H a o b = H b:=by unfold upd; rw [if_neg h]
theorem upd_upd {H : Hp} {a : Addr} {o u : HO} : upd (upd H a o) a u = upd H a u:=by
 funext b; unfold upd; split <;> rfl
theorem ne_of {H : Hp} {a b : Addr} {o u : HO} (h : H a = some o) (h' : H b = some u) (d : o ≠ u) : a ≠ b:=by
 intro e; subst e; rw [h] at h'; exact d (Option.some.inj h')
theorem ne_of_none {H : Hp} {a b : Addr} {o : HO} (h : H a = some o) (h' : H b = none) : a ≠ b:=by
 intro e; subst e; rw [h] at h'; cases h'
section
variable (P : Program) (w : World)
noncomputable def ObjOk (H : Hp) (h : Heap) (a : Addr) : HO -> Prop
 | .lst xs => xs.length <= sizeLine /\ ∃ (its : List Value) (n : Nat),Vals xs its /\ h.get? a = some { cls:=.type "list",data:=.seq its.toArray n }
 | .tup xs => xs.length <= sizeLine /\ ∃ its : List Value,Vals xs its /\ IsTup h a its.toArray
 | .dK kvs => kvs.length <= sizeLine /\ (a == sysModules) = false /\ ∃ vs,KV kvs vs /\ h.DictOf (mixKind P w) a vs
 | .dT kvs => kvs.length <= sizeLine /\ (a == sysModules) = false /\ ∃ xs : List (List Key × Addr × Value),
   Paired (fun (p : List Key × V) (q : List Key × Addr × Value) => p.1 = q.1 /\ H q.2.1 = some (.tup (p.1.map kV)) /\ RelV p.2 q.2.2) kvs xs /\
   ∃ o es ep,h.get? a = some o /\ o.ExactDict /\ o.data = .dict es ep /\ es.toList = xs.map (entryOfKey (tupleKind (mixKind P w))) /\ (xs.map (·.1)).Nodup
 | .set S n => h.SetOf (intKind P w) a S n
 | .ins C dx fs => H dx = some (.own a) /\ fs.length <= 1000 /\ dx ≠ a /\ h.get? a = some (PySem.W.instObj C dx) /\
   ∃ mA,h.Ns1 dx mA /\ (∀ f,RelO (fs.lookup f) (mA f)) /\ PySem.Within mA (fs.map (·.1))
 | .own _ => ∃ o,h.get? a = some o
 | .xd fs => ∃ mA,h.Ns1 a mA /\ ∀ f,RelO (fs.lookup f) (mA f)
 | .rng lo hi => ∃ t u v,h.get? a = some { cls:=.type "range",data:=.fields #[.int lo t,.int hi u,.int 1 v] }
 | .frz o u => h.get? a = some o /\ ObjOk H h a u
 | .tbl ps => h.get? a = some { cls:=.none,data:=.fields ps }
 | .met f x => h.get? a = some (PySem.W.methodObj (.ref f) (.ref x))
 | .ext φ => φ h /\ (∃ o,h.get? a = some o) /\ ∀ h1 h2 : Heap,φ h1 -> (∀ o,h1.get? a = some o -> h2.get? a = some o) -> φ h2
noncomputable def HOk (H : Hp) (h : Heap) : Prop:=∀ a o,H a = some o -> ObjOk P w H h a o
end
section
variable {P : Program} {w : World} {H H' : Hp} {h h' : Heap} {a : Addr} {o : HO}
theorem ObjOk.lt (x : ObjOk P w H h a o) : a < h.objs.size:=by
 cases o with
 | lst xs => obtain ⟨_,_,_,_,e⟩:=x; exact Heap.lt_size e
 | tup xs => obtain ⟨_,_,_,p⟩:=x; exact p.lt
 | dK kvs => obtain ⟨_,_,_,_,o,_,_,e,_⟩:=x; exact Heap.lt_size e
 | dT kvs => obtain ⟨_,_,_,_,o,_,_,e,_⟩:=x; exact Heap.lt_size e
 | set S n => obtain ⟨o,_,_,_,e,_⟩:=x; exact Heap.lt_size e
 | ins C dx fs => obtain ⟨_,_,_,e,_⟩:=x; exact Heap.lt_size e
 | own y => obtain ⟨_,e⟩:=x; exact Heap.lt_size e
 | xd fs => obtain ⟨_,⟨_,_,_,e,_⟩,_⟩:=x; exact Heap.lt_size e
 | rng lo hi => obtain ⟨_,_,_,e⟩:=x; exact Heap.lt_size e
 | frz ob u => obtain ⟨e,_⟩:=x; exact Heap.lt_size e
 | tbl ps => exact Heap.lt_size (show h.get? a = some _ from x)
 | met f y => exact Heap.lt_size (show h.get? a = some _ from x)
 | ext φ => obtain ⟨_,⟨_,e⟩,_⟩:=x; exact Heap.lt_size e
theorem Paired.mapP {α β : Type} {F G : α -> β -> Prop} : ∀ {l₁ : List α} {l₂ : List β},Paired F l₁ l₂ -> (∀ a b,F a b -> G a b) -> Paired G l₁ l₂
 | _,_,.nil,_ => .nil
 | _,_,.cons r t,f => .cons (f _ _ r) (Paired.mapP t f)
theorem ObjOk.stay (x : ObjOk P w H h a o) (k : ∀ b u,(b = a ∨ H b = some (.own a)) -> h.get? b = some u -> h'.get? b = some u)
  (ho : ∀ b,H b = some (.own a) -> H' b = some (.own a)) (ht : ∀ b xs,H b = some (.tup xs) -> H' b = some (.tup xs)) : ObjOk P w H' h' a o:=by
 induction o with
 | lst xs => obtain ⟨z,its,n,r,e⟩:=x; exact ⟨z,its,n,r,k _ _ (.inl rfl) e⟩
 | tup xs => obtain ⟨z,its,r,ob,e,c⟩:=x; exact ⟨z,its,r,ob,k _ _ (.inl rfl) e,c⟩
 | dK kvs => obtain ⟨z,y,vs,r,ob,es,ep,e,c⟩:=x; exact ⟨z,y,vs,r,ob,es,ep,k _ _ (.inl rfl) e,c⟩
 | dT kvs =>
  obtain ⟨z,y,xs,r,ob,es,ep,e,c⟩:=x
  exact ⟨z,y,xs,Paired.mapP r fun p q z => ⟨z.1,ht _ _ z.2.1,z.2.2⟩,ob,es,ep,k _ _ (.inl rfl) e,c⟩
 | set S n => obtain ⟨ob,es,ep,t,e,c⟩:=x; exact ⟨ob,es,ep,t,k _ _ (.inl rfl) e,c⟩
 | ins C dx fs =>
  obtain ⟨d,z,ne,e,mA,⟨od,es,ep,e2,c⟩,r⟩:=x
  exact ⟨ho _ d,z,ne,k _ _ (.inl rfl) e,mA,⟨od,es,ep,k _ _ (.inr d) e2,c⟩,r⟩
 | own y => obtain ⟨ob,e⟩:=x; exact ⟨ob,k _ _ (.inl rfl) e⟩
 | xd fs => obtain ⟨mA,⟨od,es,ep,e,c⟩,r⟩:=x; exact ⟨mA,⟨od,es,ep,k _ _ (.inl rfl) e,c⟩,r⟩
 | rng lo hi => obtain ⟨t,u,v,e⟩:=x; exact ⟨t,u,v,k _ _ (.inl rfl) e⟩
 | frz ob u ih => obtain ⟨e,q⟩:=x; exact ⟨k _ _ (.inl rfl) e,ih q⟩
 | tbl ps =>
  have e : h.get? a = some { cls:=.none,data:=.fields ps }:=x
  show h'.get? a = some { cls:=.none,data:=.fields ps }
  exact k a _ (.inl rfl) e
 | met f y =>
  have e : h.get? a = some (PySem.W.methodObj (.ref f) (.ref y)):=x
  show h'.get? a = some (PySem.W.methodObj (.ref f) (.ref y))
  exact k a _ (.inl rfl) e
 | ext φ => obtain ⟨p,⟨o,e⟩,st⟩:=x; exact ⟨st _ _ p fun o q => k _ _ (.inl rfl) q,⟨o,k _ _ (.inl rfl) e⟩,st⟩
theorem HOk.lt (x : HOk P w H h) (e : H a = some o) : a < h.objs.size:=(x a o e).lt
theorem HOk.fresh (x : HOk P w H h) (e : h.objs.size <= a) : H a = none:=by
 cases q : H a with
 | none => rfl
 | some u => exact absurd (Nat.lt_of_lt_of_le (x.lt q) e) (Nat.lt_irrefl _)
theorem HOk.kept (x : HOk P w H h) (k : ∀ b u,h.get? b = some u -> h'.get? b = some u) : HOk P w H h':=fun a o e =>
 (x a o e).stay (fun b u _ q => k b u q) (fun _ q => q) fun _ _ q => q
theorem HOk.laid (x : HOk P w H h) (k : ∀ b u,h.get? b = some u -> h'.get? b = some u) (hp : h.objs.size <= a) (new : ObjOk P w (upd H a o) h' a o) : HOk P w (upd H a o) h':=fun b u e => by
 have hn:=x.fresh hp
 by_cases hb : b = a
 ·subst hb; rw [upd_same] at e; cases e; exact new
 ·rw [upd_ne hb] at e
  exact (x b u e).stay (fun c v _ q => k c v q) (fun c q => by rw [upd_ne (ne_of_none q hn)]; exact q) fun c xs q => by rw [upd_ne (ne_of_none q hn)]; exact q
end
noncomputable def Rd (H : Hp) (a : Addr) (u : HO) : Prop:=H a = some u ∨ ∃ o,H a = some (.frz o u)
theorem Rd.ok {P : Program} {w : World} {H : Hp} {h : Heap} {a : Addr} {u : HO} (r : Rd H a u) (x : HOk P w H h) : ObjOk P w H h a u:=by
 rcases r with r | ⟨o,r⟩
 ·exact x a u r
 ·obtain ⟨_,q⟩:=x a _ r
  exact q
noncomputable def Mut : Option HO -> Prop
 | some (.lst _) => True
 | some (.dK _) => True
 | some (.dT _) => True
 | some (.set _ _) => True
 | some (.ins _ _ _) => True
 | some (.ext _) => True
 | _ => False
section
variable {P : Program} {w : World} {H : Hp} {h h' : Heap} {x e : Addr} {o' : HO}
theorem HOk.write (ok : HOk P w H h) (mu : Mut (H x)) (he : e = x ∨ H e = some (.own x)) (k : ∀ b u,b ≠ e -> h.get? b = some u -> h'.get? b = some u) (heo : ∃ u,h'.get? e = some u)
  (new : ObjOk P w (upd H x o') h' x o') : HOk P w (upd H x o') h':=fun b u q => by
 have nown : ∀ c y,H c = some (.own y) -> c ≠ x:=fun c y r z => by subst z; rw [r] at mu; exact mu
 have ntup : ∀ c xs,H c = some (.tup xs) -> c ≠ x:=fun c xs r z => by subst z; rw [r] at mu; exact mu
 by_cases hb : b = x
 ·subst hb; rw [upd_same] at q; cases q; exact new
 ·rw [upd_ne hb] at q
  by_cases hbe : b = e
  ·have q' : H b = some (.own x):=by
    rcases he with z | z
    ·exact absurd (hbe.trans z) hb
    ·rw [hbe]; exact z
   rw [q] at q'; cases q'
   obtain ⟨v,hv⟩:=heo
   exact ⟨v,by rw [hbe]; exact hv⟩
  ·refine (ok b u q).stay (fun c v hc r => k c v ?_ r) (fun c r => by rw [upd_ne (nown c b r)]; exact r) fun c xs r => by rw [upd_ne (ntup c xs r)]; exact r
   rcases hc with rfl | hc
   ·exact hbe
   ·rintro rfl
    rcases he with z | z
    ·exact nown c b hc z
    ·rw [hc] at z; cases z; exact hb rfl
end
structure Un (fs ex : List Addr) (H H' : Hp) (h h' : Heap) : Prop where
 keep : ∀ b o,h.get? b = some o -> H b = none -> b ∉ fs -> b ∉ ex -> h'.get? b = some o
 slot : ∀ b o,h.get? b = some o -> H b = none -> b ∈ fs -> b ∉ ex -> ∃ sl,h'.get? b = some { o with slots:=sl }
 free : ∀ b o,h.get? b = some o -> H b = none -> b ∉ ex -> H' b = none
 there : ∀ b o,h.get? b = some o -> b ∉ ex -> ∃ o',h'.get? b = some o'
 tups : ∀ b xs,H b = some (.tup xs) -> H' b = some (.tup xs)
 frzs : ∀ b o u,H b = some (.frz o u) -> H' b = some (.frz o u)
 tbls : ∀ b ps,H b = some (.tbl ps) -> ∃ more,H' b = some (.tbl (ps ++ more))
section
variable {fs fs' ex ex' : List Addr} {H H1 H2 : Hp} {h h1 h2 h' : Heap} {a x e : Addr} {o : HO}
theorem Un.any (u : Un fs ex H H1 h h1) {b : Addr} {ob : Obj} (q : h.get? b = some ob) (n : H b = none) (hx : b ∉ ex) : ∃ sl,h1.get? b = some { ob with slots:=sl }:=by
 by_cases hb : b ∈ fs
 ·exact u.slot b ob q n hb hx
 ·exact ⟨ob.slots,u.keep b ob q n hb hx⟩
theorem Un.kept (k : ∀ b u,h.get? b = some u -> h'.get? b = some u) : Un fs ex H H h h' :=
 ⟨fun b ob q _ _ _ => k b ob q,fun b ob q _ _ _ => ⟨ob.slots,k b ob q⟩,fun _ _ _ n _ => n,fun b ob q _ => ⟨ob,k b ob q⟩,fun _ _ q => q,fun _ _ _ q => q,fun _ ps q => ⟨#[],by rw [q]; simp⟩⟩
theorem Un.refl : Un fs ex H H h h:=Un.kept fun _ _ q => q
theorem Un.laid (k : ∀ b u,h.get? b = some u -> h'.get? b = some u) (hp : h.objs.size <= a) (hn : H a = none) : Un fs ex H (upd H a o) h h' where
 keep:=fun b u q _ _ _ => k b u q
 slot:=fun b u q _ _ _ => ⟨u.slots,k b u q⟩
 free:=fun b u q n _ => by rw [upd_ne (Nat.ne_of_lt (Nat.lt_of_lt_of_le (Heap.lt_size q) hp))]; exact n
 there:=fun b u q _ => ⟨u,k b u q⟩
 tups:=fun b xs q => by rw [upd_ne (ne_of_none q hn)]; exact q
 frzs:=fun b u xs q => by rw [upd_ne (ne_of_none q hn)]; exact q
 tbls:=fun b ps q => ⟨#[],by rw [upd_ne (ne_of_none q hn),q]; simp⟩
theorem Un.write (mu : Mut (H x)) (he : e = x ∨ H e = some (.own x)) (k : ∀ b u,b ≠ e -> h.get? b = some u -> h'.get? b = some u) (heo : ∃ u,h'.get? e = some u) : Un fs ex H (upd H x o) h h':=by
 have hx : ∀ b,H b = none -> b ≠ x:=fun b n z => by subst z; rw [n] at mu; exact mu
 have hb : ∀ b,H b = none -> b ≠ e:=fun b n z => by
  subst z
  rcases he with r | r
  ·exact hx b n r
  ·rw [n] at r; cases r
 have hm : ∀ b u,H b = some u -> ¬ Mut (some u) -> b ≠ x:=fun b u q nm z => by subst z; rw [q] at mu; exact nm mu
 refine ⟨fun b u q n _ _ => k b u (hb b n) q,fun b u q n _ _ => ⟨u.slots,k b u (hb b n) q⟩,fun b u q n _ => by rw [upd_ne (hx b n)]; exact n,fun b u q _ => ?_,
  fun b xs q => by rw [upd_ne (hm b _ q fun z => z)]; exact q,fun b u xs q => by rw [upd_ne (hm b _ q fun z => z)]; exact q,fun b ps q => ⟨#[],by rw [upd_ne (hm b _ q fun z => z),q]; simp⟩⟩
 by_cases hbe : b = e
 ·subst hbe; exact heo
 ·exact ⟨u,k b u hbe q⟩
end
noncomputable def trk (h : Heap) (H : Hp) : List Addr:=(List.range h.objs.size).filter fun a => (H a).isSome
noncomputable def hidT (h : Heap) (H : Hp) : Heap:=PySem.W.hideAll h (trk h H)
theorem hidT_size (h : Heap) (H : Hp) : (hidT h H).objs.size = h.objs.size:=PySem.W.hideAll_size _ _
theorem hidT_get {h : Heap} {H : Hp} {b : Addr} {o : Obj} (e : h.get? b = some o) (n : H b = none) : (hidT h H).get? b = some o :=
 PySem.W.hideAll_get _ e fun hm => by
  have q : (H b).isSome = true:=(List.mem_filter.mp hm).2
  rw [n] at q; simp at q
theorem of_hidT {h : Heap} {H : Hp} {b : Addr} {o : Obj} (e : (hidT h H).get? b = some o) : h.get? b = some o /\ H b = none:=by
 have e' : h.get? b = some o:=PySem.W.of_hideAll (trk h H) e
 refine ⟨e',?_⟩
 cases q : H b with
 | none => rfl
 | some x =>
  have hm : b ∈ trk h H:=List.mem_filter.mpr ⟨List.mem_range.mpr (Heap.lt_size e'),by simp [q]⟩
  have z : (hidT h H).get? b = none:=PySem.W.hideAll_none (trk h H) hm
  rw [z] at e; cases e
noncomputable def allNews (g h : Heap) (L : Addr) : List (Addr × Obj):=(List.range h.objs.size).filterMap fun a => if a = L ∨ (g.get? a).isSome = true then none else (h.get? a).map fun o => (a,o)
theorem mem_allNews {g h : Heap} {L a : Addr} {o : Obj} (h1 : a ≠ L) (h2 : g.get? a = none) (h3 : h.get? a = some o) : (a,o) ∈ allNews g h L :=
 List.mem_filterMap.mpr ⟨a,List.mem_range.mpr (Heap.lt_size h3),by simp [h1,h2,h3]⟩
theorem of_mem_allNews {g h : Heap} {L : Addr} {p : Addr × Obj} (hp : p ∈ allNews g h L) : p.1 ≠ L /\ g.get? p.1 = none /\ h.get? p.1 = some p.2:=by
 obtain ⟨b,_,e⟩:=List.mem_filterMap.mp hp
 split at e
 ·cases e
 ·rename_i hn
  cases q : h.get? b with
  | none => rw [q] at e; simp at e
  | some u =>
   rw [q] at e
   simp only [Option.map_some,Option.some.injEq] at e
   subst e
   refine ⟨fun z => hn (.inl z),?_,q⟩
   show g.get? b = none
   cases r : g.get? b with
   | none => rfl
   | some v => exact (hn (.inr (by simp [r]))).elim
noncomputable def rest (g h : Heap) (L d : Addr) : List (Addr × Obj):=(allNews g h L).filter fun p => decide (p.1 ≠ d)
theorem news_all {g h : Heap} {L : Addr} : News g L h (allNews g h L):=fun p hp => let ⟨a,b,c⟩:=of_mem_allNews hp; ⟨c,a,b⟩
end L2
namespace L2
open PySem PySem.Spec PyProof.Rows
structure Mod (K : PySem.W.Frag) (mg : Str -> Option Value) (base : Heap) : Prop where
 kin : K.In base
 glob : base.Ns mainGlobals mg
 blt : ∃ mb,base.Ns builtinsNs mb /\ ∀ x : Str,x ≠ "__name__" -> mb x = bootBuiltins x
 nolimit : base.NoLimit
set_option genInjectivity false in
structure Cx where
 prog : Program
 w : World
 K : PySem.W.Frag
 mg : Str -> Option Value
 base : Heap
 A : Around
 N : List Str
 s₀ : Shared
 H₀ : Hp
 env : Env
 outer : List Env
 stack : List Env
 ex : List Addr
 fn : Str -> Bool
 calm : Bool
 pn : List (Addr × Obj)
 xe : Value -> Shared -> Prop
noncomputable def frs (l : List Env) : List Addr:=l.filterMap (·.frame)
noncomputable abbrev Cx.fs (X : Cx) : List Addr:=frs X.outer
noncomputable def Vis (sc : Scope) (x : Str) : Prop:=sc.names.lookup x = some .local ∨ sc.names.lookup x = some .cell ∨ sc.names.lookup x = some .free
noncomputable def Loc (sc : Scope) (x : Str) : Prop:=sc.names.lookup x = some .local ∨ sc.names.lookup x = some .cell
noncomputable def Look (env : Env) (h : Heap) (m : Str -> Option Value) (x : Str) (u : Value) : Prop :=
 (env.kindOf x = some .local /\ m x = some u) ∨ ((env.kindOf x = some .cell ∨ env.kindOf x = some .free) /\ ∃ c,env.cells.lookup x = some c /\ h.IsCell c (some u))
set_option genInjectivity false in
structure Cx.Ok (X : Cx) : Prop where
 mod : Mod X.K X.mg X.base
 kind : X.env.scope.kind = .function
 glob : X.env.globals = mainGlobals
 blt : X.env.builtins = builtinsNs
 above : X.s₀.heap.objs.size <= X.env.locals
 inj : ∀ x y c,X.env.cells.lookup x = some c -> X.env.cells.lookup y = some c -> x = y
 has : ∀ x,(X.env.kindOf x = some .cell ∨ X.env.kindOf x = some .free) -> ∃ c,X.env.cells.lookup x = some c
 cab : ∀ x c,X.fn x = true -> X.env.cells.lookup x = some c -> X.s₀.heap.objs.size <= c
 hd : X.calm = true -> X.A.handled = none
 frames : X.A.frames = some X.stack
 stk : X.stack = X.outer ∨ (X.stack = X.env :: X.outer /\ X.env.frame = some X.env.locals)
 exf : ∀ b ∈ X.ex,b ≠ X.env.locals /\ ∀ x c,X.env.cells.lookup x = some c -> c ≠ b
 bs : ∀ b o,X.base.get? b = some o -> X.s₀.heap.get? b = some o /\ X.H₀ b = none
 bsz : X.base.objs.size <= X.s₀.heap.objs.size
 noex : ∀ b o,X.base.get? b = some o -> b ∉ X.ex
 exfs : ∀ b ∈ X.ex,b ∉ X.fs
 funs : X.s₀.heap.FunFrames X.base X.outer
 frf : ∀ b ∈ X.fs,X.H₀ b = none
structure Inv (X : Cx) (pins : List (Addr × Obj)) (σ : List (Option V)) (H : Hp) (s : Shared) : Prop where
 ok : X.Ok
 os : s.os = X.s₀.os
 bare : AllBare s.gens
 base : Un X.fs X.ex X.H₀ H X.s₀.heap s.heap
 loc : ∃ m,s.heap.Ns X.env.locals m /\ ∀ (i : Nat) (x : Str) (v : V),X.N[i]? = some x -> σ[i]? = some (some v) -> Vis X.env.scope x -> ∃ u,RelV v u /\ Look X.env s.heap m x u
 cell : ∀ x c,X.env.cells.lookup x = some c -> ∃ v,s.heap.IsCell c v
 free : H X.env.locals = none
 freeC : ∀ x c,X.env.cells.lookup x = some c -> H c = none ∨ (X.fn x = false /\ ∃ o u,H c = some (.frz o u))
 pin : ∀ p ∈ X.pn ++ pins,s.heap.get? p.1 = some p.2 /\ H p.1 = none /\ p.1 ≠ X.env.locals /\ p.1 ∉ X.fs /\ ∀ v,p.2.data ≠ .cell v
 hok : HOk X.prog X.w H s.heap
 len : σ.length = X.N.length
section
variable {X : Cx} {pins : List (Addr × Obj)} {σ : List (Option V)} {H H' : Hp} {s : Shared} {h' : Heap}
theorem Cx.Ok.nofr (ok : X.Ok) {b : Addr} {o : Obj} (e : X.base.get? b = some o) : b ∉ X.fs:=fun hb => by
 have:=(ok.funs.mem hb).1
 rw [e] at this; cases this
theorem Inv.bs (I : Inv X pins σ H s) : ∀ b o,X.base.get? b = some o -> s.heap.get? b = some o /\ H b = none:=fun b o e =>
 ⟨I.base.keep b o (I.ok.bs b o e).1 (I.ok.bs b o e).2 (I.ok.nofr e) (I.ok.noex b o e),I.base.free b o (I.ok.bs b o e).1 (I.ok.bs b o e).2 (I.ok.noex b o e)⟩
theorem Inv.bk (I : Inv X pins σ H s) : ∀ b o,X.base.get? b = some o -> s.heap.get? b = some o:=fun b o e => (I.bs b o e).1
theorem Inv.mod (I : Inv X pins σ H s) : Mod X.K X.mg X.base:=I.ok.mod
theorem Inv.kIn (I : Inv X pins σ H s) : X.K.In s.heap:=I.ok.mod.kin.keeps I.bk
theorem Inv.fr (I : Inv X pins σ H s) : ∃ m,Fr X.base X.env.locals s.heap m :=
 let ⟨m,hn,_⟩:=I.loc
 ⟨m,hn,I.bk,Nat.le_trans I.ok.bsz I.ok.above⟩
theorem Inv.lt (I : Inv X pins σ H s) : X.env.locals < s.heap.objs.size:=let ⟨_,hn,_⟩:=I.loc; hn.lt
theorem Inv.sz (I : Inv X pins σ H s) : X.s₀.heap.objs.size <= s.heap.objs.size:=Nat.le_trans I.ok.above (Nat.le_of_lt I.lt)
theorem Inv.nofs (I : Inv X pins σ H s) {a : Addr} (h : s.heap.objs.size <= a) : a ∉ X.fs:=fun hb => by
 obtain ⟨_,o,ho,_⟩:=I.ok.funs.mem hb
 exact absurd (Nat.lt_of_lt_of_le (Heap.lt_size ho) (Nat.le_trans I.sz h)) (Nat.lt_irrefl _)
theorem Inv.cne (I : Inv X pins σ H s) : ∀ x c,X.env.cells.lookup x = some c -> c ≠ X.env.locals:=fun x c e z => by
 obtain ⟨v,o,ho,hd⟩:=I.cell x c e
 obtain ⟨m,⟨o',es,ep,ho',hd',_⟩,_⟩:=I.loc
 rw [z,ho'] at ho; cases ho; rw [hd'] at hd; cases hd
theorem Inv.funs (I : Inv X pins σ H s) : s.heap.FunFrames X.base X.outer:=by
 have all : ∀ (l : List Env),(∀ b ∈ frs l,b ∈ X.fs) -> X.s₀.heap.FunFrames X.base l -> s.heap.FunFrames X.base l:=by
  intro l
  induction l with
  | nil => intro _ _; trivial
  | cons env r ih =>
   intro hs hl
   obtain ⟨hk,⟨L,o,hf,hn,ho,hd⟩,hr⟩:=hl
   have hL : L ∈ X.fs:=hs L (by unfold frs; rw [List.filterMap_cons,hf]; exact List.mem_cons_self)
   obtain ⟨sl,e⟩:=I.base.slot L o ho (I.ok.frf L hL) hL fun z => I.ok.exfs L z hL
   exact ⟨hk,⟨L,_,hf,hn,e,hd⟩,ih (fun b hb => hs b (by unfold frs; rw [List.filterMap_cons,hf]; exact List.mem_cons_of_mem _ hb)) hr⟩
 exact all X.outer (fun _ hb => hb) I.ok.funs
theorem Inv.stack (I : Inv X pins σ H s) : s.heap.FunFrames X.base X.stack:=by
 rcases I.ok.stk with e | ⟨e,hf⟩
 ·rw [e]; exact I.funs
 ·rw [e]
  obtain ⟨m,hn,_⟩:=I.loc
  refine .cons (by rw [I.ok.kind]; decide) hf hn ?_ I.funs
  exact Heap.get?_none_of_le (Nat.le_trans I.ok.bsz I.ok.above)
theorem Inv.stkSub (I : Inv X pins σ H s) : ∀ b ∈ frs X.stack,b ∈ X.env.locals :: X.fs:=fun b hb => by
 rcases I.ok.stk with e | ⟨e,hf⟩
 ·rw [e] at hb; exact List.mem_cons_of_mem _ hb
 ·rw [e] at hb
  unfold frs at hb
  rw [List.filterMap_cons,hf] at hb
  exact hb
theorem Inv.stkFree (I : Inv X pins σ H s) : ∀ b ∈ frs X.stack,H b = none:=fun b hb => by
 rcases List.mem_cons.mp (I.stkSub b hb) with e | hb
 ·rw [e]; exact I.free
 ·obtain ⟨_,o,ho,_⟩:=I.ok.funs.mem hb
  exact I.base.free b o ho (I.ok.frf b hb) fun z => I.ok.exfs b z hb
theorem Inv.step {g' : Array GenState} {t' : Nat} {d' : Drawn} {ch : List Addr} (I : Inv X pins σ H s)
  (hch : ∀ b ∈ ch,(b ∈ X.ex ∨ X.s₀.heap.objs.size <= b) /\ b ≠ X.env.locals /\ (∀ x c,X.env.cells.lookup x = some c -> c ≠ b) /\ ∀ p ∈ X.pn ++ pins,p.1 ≠ b)
  (keep : ∀ b o,b ≠ X.env.locals -> b ∉ X.fs -> b ∉ ch -> s.heap.get? b = some o -> H b = none -> h'.get? b = some o)
  (slot : ∀ b o,b ≠ X.env.locals -> b ∈ X.fs -> b ∉ ch -> s.heap.get? b = some o -> H b = none -> ∃ sl,h'.get? b = some { o with slots:=sl }) (free : ∀ b o,b ∉ ch -> s.heap.get? b = some o -> H b = none -> H' b = none)
  (there : ∀ b o,b ∉ ch -> s.heap.get? b = some o -> ∃ o',h'.get? b = some o')
  (tups : ∀ b xs,H b = some (.tup xs) -> H' b = some (.tup xs)) (frzs : ∀ b o u,H b = some (.frz o u) -> H' b = some (.frz o u)) (tbls : ∀ b ps,H b = some (.tbl ps) -> ∃ more,H' b = some (.tbl (ps ++ more)))
  (ns : ∀ m,s.heap.Ns X.env.locals m -> h'.Ns X.env.locals m) (hok : HOk X.prog X.w H' h') (hg : AllBare g') :
  Inv X pins σ H' { s with heap:=h',gens:=g',drawn:=d',toks:=t' }:=by
 have neL : ∀ b o,X.s₀.heap.get? b = some o -> b ≠ X.env.locals:=fun b o e => Nat.ne_of_lt (Nat.lt_of_lt_of_le (Heap.lt_size e) I.ok.above)
 have neC : ∀ b o,X.s₀.heap.get? b = some o -> b ∉ X.ex -> b ∉ ch:=fun b o e hx hb => by
  rcases (hch b hb).1 with z | z
  ·exact hx z
  ·exact absurd (Nat.lt_of_lt_of_le (Heap.lt_size e) z) (Nat.lt_irrefl _)
 have cellK : ∀ x c,X.env.cells.lookup x = some c -> ∀ v,s.heap.IsCell c v -> h'.IsCell c v:=fun x c e v ⟨o,ho,hd⟩ => by
  have nch : c ∉ ch:=fun z => (hch c z).2.2.1 x c e rfl
  rcases I.freeC x c e with n | ⟨_,ob,ou,hfz⟩
  ·by_cases hc : c ∈ X.fs
   ·obtain ⟨sl,q⟩:=slot c o (I.cne x c e) hc nch ho n
    exact ⟨_,q,hd⟩
   ·exact ⟨o,keep c o (I.cne x c e) hc nch ho n,hd⟩
  ·have e1 : s.heap.get? c = some ob:=(I.hok c _ hfz).1
   rw [ho] at e1
   cases e1
   exact ⟨o,(hok c _ (frzs c o ou hfz)).1,hd⟩
 refine ⟨I.ok,I.os,hg,⟨fun b o e n hb hx => ?_,fun b o e n hb hx => ?_,fun b o e n hx => ?_,fun b o e hx => ?_,fun b xs e => tups b xs (I.base.tups b xs e),fun b o xs e => frzs b o xs (I.base.frzs b o xs e),fun b ps e => ?_⟩,?_,fun x c e => ?_,?_,fun x c e => ?_,fun p hp => ?_,hok,I.len⟩
 ·exact keep b o (neL b o e) hb (neC b o e hx) (I.base.keep b o e n hb hx) (I.base.free b o e n hx)
 ·obtain ⟨sl,e1⟩:=I.base.slot b o e n hb hx
  obtain ⟨sl',e2⟩:=slot b _ (neL b o e) hb (neC b o e hx) e1 (I.base.free b o e n hx)
  exact ⟨sl',e2⟩
 ·obtain ⟨o',e1⟩:=I.base.there b o e hx
  exact free b o' (neC b o e hx) e1 (I.base.free b o e n hx)
 ·obtain ⟨o',e1⟩:=I.base.there b o e hx
  exact there b o' (neC b o e hx) e1
 ·obtain ⟨m1,e1⟩:=I.base.tbls b ps e
  obtain ⟨m2,e2⟩:=tbls b _ e1
  exact ⟨m1 ++ m2,by rw [e2,Array.append_assoc]⟩
 ·obtain ⟨m,hn,hl⟩:=I.loc
  refine ⟨m,ns m hn,fun i x v e1 e2 e3 => ?_⟩
  obtain ⟨u,r,l⟩:=hl i x v e1 e2 e3
  refine ⟨u,r,?_⟩
  rcases l with l | ⟨k,c,e,z⟩
  ·exact .inl l
  ·exact .inr ⟨k,c,e,cellK x c e _ z⟩
 ·obtain ⟨v,z⟩:=I.cell x c e
  exact ⟨v,cellK x c e v z⟩
 ·obtain ⟨m,⟨o,_,_,ho,_⟩,_⟩:=I.loc
  exact free _ o (fun z => (hch _ z).2.1 rfl) ho I.free
 ·obtain ⟨v,o,ho,hd⟩:=I.cell x c e
  rcases I.freeC x c e with n | ⟨z,ob,ou,hfz⟩
  ·exact .inl (free c o (fun z => (hch c z).2.2.1 x c e rfl) ho n)
  ·exact .inr ⟨z,ob,ou,frzs c ob ou hfz⟩
 ·obtain ⟨e,n,ne,nf,d⟩:=I.pin p hp
  have nch : p.1 ∉ ch:=fun z => (hch p.1 z).2.2.2 p hp rfl
  exact ⟨keep p.1 p.2 ne nf nch e n,free p.1 p.2 nch e n,ne,nf,d⟩
theorem Inv.un {t' : Nat} (I : Inv X pins σ H s) (u : Un X.fs [] H H' s.heap h') (hok : HOk X.prog X.w H' h') : Inv X pins σ H' { s with heap:=h',toks:=t' }:=by
 obtain ⟨m,⟨o,es,ep,ho,r⟩,_⟩:=id I.loc
 obtain ⟨sl,hL⟩:=u.any ho I.free (by simp)
 exact I.step (g':=s.gens) (d':=s.drawn) (ch:=[]) (fun _ z => nomatch z) (fun b o _ hb _ e n => u.keep b o e n hb (by simp)) (fun b o _ hb _ e n => u.slot b o e n hb (by simp)) (fun b o _ e n => u.free b o e n (by simp)) (fun b o _ e => u.there b o e (by simp)) u.tups u.frzs u.tbls (fun m' hm => by
  obtain ⟨o',es',ep',ho',r'⟩:=hm
  rw [ho] at ho'; cases ho'
  exact ⟨_,es',ep',hL,r'⟩) hok I.bare
theorem Inv.call {g' : Array GenState} {t' : Nat} {d' : Drawn} {ch : List Addr} (I : Inv X pins σ H s) (u : Un (frs X.stack) ch H H' s.heap h') (hok : HOk X.prog X.w H' h') (hg : AllBare g')
  (hch : ∀ b ∈ ch,(b ∈ X.ex ∨ X.s₀.heap.objs.size <= b) /\ b ≠ X.env.locals /\ (∀ x c,X.env.cells.lookup x = some c -> c ≠ b) /\ ∀ p ∈ X.pn ++ pins,p.1 ≠ b) :
  Inv X pins σ H' { s with heap:=h',gens:=g',drawn:=d',toks:=t' }:=by
 obtain ⟨m,⟨o,es,ep,ho,r⟩,_⟩:=id I.loc
 obtain ⟨sl,hL⟩:=u.any ho I.free fun z => (hch _ z).2.1 rfl
 exact I.step (ch:=ch) hch (fun b o hL hb hc e n => u.keep b o e n (fun z => (List.mem_cons.mp (I.stkSub b z)).elim hL hb) hc) (fun b o _ _ hc e n => u.any e n hc) (fun b o hc e n => u.free b o e n hc) (fun b o hc e => u.there b o e hc) u.tups u.frzs u.tbls (fun m' hm => by
  obtain ⟨o',es',ep',ho',r'⟩:=hm
  rw [ho] at ho'; cases ho'
  exact ⟨_,es',ep',hL,r'⟩) hok hg
theorem Inv.turned {t' : Nat} {it : Addr} (I : Inv X pins σ H s) (k : ∀ b o,b ≠ it -> s.heap.get? b = some o -> h'.get? b = some o) (hn : H it = none) (hL : it ≠ X.env.locals)
  (h1 : it ∈ X.ex ∨ X.s₀.heap.objs.size <= it) (h2 : ∀ x c,X.env.cells.lookup x = some c -> c ≠ it) (h3 : ∀ p ∈ X.pn ++ pins,p.1 ≠ it) : Inv X pins σ H { s with heap:=h',toks:=t' }:=by
 have nit : ∀ b u,H b = some u -> b ≠ it:=fun b u e z => by rw [z,hn] at e; cases e
 refine I.step (g':=s.gens) (d':=s.drawn) (ch:=[it]) (fun b hb => ?_) (fun b o _ _ hc e _ => k b o (fun z => hc (by simp [z])) e) (fun b o _ _ hc e _ => ⟨o.slots,k b o (fun z => hc (by simp [z])) e⟩) (fun _ _ _ _ n => n)
  (fun b o hc e => ⟨o,k b o (fun z => hc (by simp [z])) e⟩) (fun _ _ e => e) (fun _ _ _ e => e) (fun b ps e => ⟨#[],by rw [e]; simp⟩) (fun m hm => ?_) (fun b u e => ?_) I.bare
 ·have e : b = it:=by simpa using hb
  subst e
  exact ⟨h1,hL,h2,h3⟩
 ·obtain ⟨o,es,ep,ho,r⟩:=hm
  exact ⟨o,es,ep,k _ o (Ne.symm hL) ho,r⟩
 ·refine (I.hok b u e).stay (fun c v hc q => k c v ?_ q) (fun _ q => q) fun _ _ q => q
  rcases hc with z | z
  ·rw [z]; exact nit b u e
  ·exact nit c _ z
theorem Inv.tok (I : Inv X pins σ H s) (t : Nat) : Inv X pins σ H { s with toks:=t }:=I.un (h':=s.heap) (t':=t) Un.refl I.hok
theorem Inv.kept {t' : Nat} (I : Inv X pins σ H s) (k : ∀ b u,s.heap.get? b = some u -> h'.get? b = some u) : Inv X pins σ H { s with heap:=h',toks:=t' }:=I.un (Un.kept k) (I.hok.kept k)
theorem Inv.laid {a : Addr} {o : HO} {t' : Nat} (I : Inv X pins σ H s) (k : ∀ b u,s.heap.get? b = some u -> h'.get? b = some u) (hp : s.heap.objs.size <= a) (new : ObjOk X.prog X.w (upd H a o) h' a o) :
  Inv X pins σ (upd H a o) { s with heap:=h',toks:=t' }:=I.un (Un.laid k hp (I.hok.fresh hp)) (I.hok.laid k hp new)
theorem Inv.write {x e : Addr} {o : HO} {t' : Nat} (I : Inv X pins σ H s) (mu : Mut (H x)) (he : e = x ∨ H e = some (.own x)) (k : ∀ b u,b ≠ e -> s.heap.get? b = some u -> h'.get? b = some u) (heo : ∃ u,h'.get? e = some u)
  (new : ObjOk X.prog X.w (upd H x o) h' x o) : Inv X pins σ (upd H x o) { s with heap:=h',toks:=t' }:=I.un (Un.write mu he k heo) (I.hok.write mu he k heo new)
theorem Inv.pins_of {pins' : List (Addr × Obj)} (I : Inv X pins σ H s) (h : ∀ p ∈ pins',s.heap.get? p.1 = some p.2 /\ H p.1 = none /\ p.1 ≠ X.env.locals /\ p.1 ∉ X.fs /\ ∀ v,p.2.data ≠ .cell v) : Inv X pins' σ H s :=
 ⟨I.ok,I.os,I.bare,I.base,I.loc,I.cell,I.free,I.freeC,fun p hp => (List.mem_append.mp hp).elim (fun z => I.pin p (List.mem_append_left _ z)) (h p),I.hok,I.len⟩
theorem nodup_ix {N : List Str} (hN : N.Nodup) {i j : Nat} {x : Str} (a : N[i]? = some x) (b : N[j]? = some x) : i = j:=by
 obtain ⟨h1,e1⟩:=List.getElem?_eq_some_iff.mp a
 obtain ⟨h2,e2⟩:=List.getElem?_eq_some_iff.mp b
 exact (List.getElem_inj hN).mp (e1.trans e2.symm)
theorem store_ok2 {M : Model} {A : Around} {E : Value -> Shared -> Prop} {i : Nat} {x : Str} {v : V} {u : Value} {Q : Unit -> Shared -> Prop} (I : Inv X pins σ H s) (hN : X.N.Nodup) (hi : X.N[i]? = some x) (hx : Loc X.env.scope x) (r : RelV v u)
  (h : ∀ s',Inv X pins (σ.set i (some v)) H s' -> (∃ a,Heap.SameBut a s.heap s'.heap /\ (a = X.env.locals ∨ X.env.cells.lookup x = some a)) -> Q () s') (hf : autoParam (X.fn x = true ∨ X.env.scope.names.lookup x = some .local) L2.au2._auto_1) : wpAny M A (storeName X.env x u) Q E s:=by
 obtain ⟨m,hn,hl⟩:=id I.loc
 have hcls : (X.env.scope.kind == .class || (X.env.scope.kind == .module && X.env.locals != X.env.globals)) = false:=by rw [I.ok.kind]; rfl
 have hiσ : i < σ.length:=by rw [I.len]; exact (List.getElem?_eq_some_iff.mp hi).1
 have cne:=I.cne
 have tracked : ∀ {a : Addr} {h' : Heap},(∃ o,s.heap.get? a = some o /\ H a = none) -> Heap.SameBut a s.heap h' -> HOk X.prog X.w H h':=fun {a h'} ha hs b ob e => by
  obtain ⟨_,_,hfree⟩:=ha
  refine (I.hok b ob e).stay (fun c w' hc q => (hs.2 c ?_).trans q) (fun _ q => q) fun _ _ q => q
  rintro rfl
  rcases hc with rfl | hc
  ·rw [hfree] at e; cases e
  ·rw [hfree] at hc; cases hc
 rcases hx with hk | hk
 ·refine wpAny_storeName_local hk hn (fun h' hn' hs => ?_) hcls
  obtain ⟨oL,_,_,hoL,_⟩:=id hn
  refine h _ ⟨I.ok,I.os,I.bare,⟨fun b o e n hb hx => ?_,fun b o e n hb hx => ?_,I.base.free,fun b o e hx => ?_,I.base.tups,I.base.frzs,I.base.tbls⟩,⟨_,hn',fun j y v' e1 e2 e3 => ?_⟩,fun y c e => ?_,I.free,I.freeC,fun p hp => ?_,tracked ⟨oL,hoL,I.free⟩ hs,by simpa using I.len⟩ ⟨_,hs,.inl rfl⟩
  ·exact (hs.2 b (Nat.ne_of_lt (Nat.lt_of_lt_of_le (Heap.lt_size e) I.ok.above))).trans (I.base.keep b o e n hb hx)
  ·obtain ⟨sl,e1⟩:=I.base.slot b o e n hb hx
   exact ⟨sl,(hs.2 b (Nat.ne_of_lt (Nat.lt_of_lt_of_le (Heap.lt_size e) I.ok.above))).trans e1⟩
  ·obtain ⟨o',e1⟩:=I.base.there b o e hx
   exact ⟨o',(hs.2 b (Nat.ne_of_lt (Nat.lt_of_lt_of_le (Heap.lt_size e) I.ok.above))).trans e1⟩
  ·by_cases hj : j = i
   ·subst hj
    rw [hi] at e1; cases e1
    rw [List.getElem?_set_self hiσ] at e2
    cases e2
    exact ⟨u,r,.inl ⟨hk,by simp⟩⟩
   ·rw [List.getElem?_set_ne (Ne.symm hj)] at e2
    obtain ⟨u',r',q⟩:=hl j y v' e1 e2 e3
    refine ⟨u',r',?_⟩
    rcases q with ⟨k,e⟩ | ⟨k,c,e,z⟩
    ·refine .inl ⟨k,?_⟩
     have : y ≠ x:=fun e => hj (nodup_ix hN e1 (e ▸ hi))
     simp [this,e]
    ·exact .inr ⟨k,c,e,z.sameBut hs (cne y c e)⟩
  ·obtain ⟨w',z⟩:=I.cell y c e
   exact ⟨w',z.sameBut hs (cne y c e)⟩
  ·obtain ⟨e,n,ne,nf,d⟩:=I.pin p hp
   exact ⟨(hs.2 p.1 ne).trans e,n,ne,nf,d⟩
 ·have hfn : X.fn x = true:=by
   rcases hf with z | z
   ·exact z
   ·rw [z] at hk; cases hk
  obtain ⟨c,hc⟩:=I.ok.has x (.inl hk)
  obtain ⟨w',z⟩:=I.cell x c hc
  refine wpAny_storeName_cell I.ok.kind hk hc z (fun h' hc' hs => ?_)
  obtain ⟨oc,hoc,hocd⟩:=id z
  refine h { s with heap:=h' } ⟨I.ok,I.os,I.bare,⟨fun b o e n hb hx => ?_,fun b o e n hb hx => ?_,I.base.free,fun b o e hx => ?_,I.base.tups,I.base.frzs,I.base.tbls⟩,⟨m,hn.sameBut hs (Ne.symm (cne x c hc)),fun j y v' e1 e2 e3 => ?_⟩,fun y c' e => ?_,I.free,I.freeC,fun p hp => ?_,tracked ⟨oc,hoc,(I.freeC x c hc).resolve_right fun z => by rw [hfn] at z; cases z.1⟩ hs,by simpa using I.len⟩ ⟨c,hs,.inr hc⟩
  ·exact (hs.2 b (Nat.ne_of_lt (Nat.lt_of_lt_of_le (Heap.lt_size e) (I.ok.cab x c hfn hc)))).trans (I.base.keep b o e n hb hx)
  ·obtain ⟨sl,e1⟩:=I.base.slot b o e n hb hx
   exact ⟨sl,(hs.2 b (Nat.ne_of_lt (Nat.lt_of_lt_of_le (Heap.lt_size e) (I.ok.cab x c hfn hc)))).trans e1⟩
  ·obtain ⟨o',e1⟩:=I.base.there b o e hx
   exact ⟨o',(hs.2 b (Nat.ne_of_lt (Nat.lt_of_lt_of_le (Heap.lt_size e) (I.ok.cab x c hfn hc)))).trans e1⟩
  ·by_cases hj : j = i
   ·subst hj
    rw [hi] at e1; cases e1
    rw [List.getElem?_set_self hiσ] at e2
    cases e2
    exact ⟨u,r,.inr ⟨.inl hk,c,hc,hc'⟩⟩
   ·rw [List.getElem?_set_ne (Ne.symm hj)] at e2
    obtain ⟨u',r',q⟩:=hl j y v' e1 e2 e3
    refine ⟨u',r',?_⟩
    rcases q with q | ⟨k,c',e,z'⟩
    ·exact .inl q
    ·refine .inr ⟨k,c',e,z'.sameBut hs ?_⟩
     rintro rfl
     exact hj (nodup_ix hN e1 (I.ok.inj _ _ _ e hc ▸ hi))
  ·by_cases hcc : c' = c
   ·subst hcc; exact ⟨_,hc'⟩
   ·obtain ⟨w2,z2⟩:=I.cell y c' e
    exact ⟨w2,z2.sameBut hs hcc⟩
  ·obtain ⟨e,n,ne,nf,d⟩:=I.pin p hp
   refine ⟨(hs.2 p.1 ?_).trans e,n,ne,nf,d⟩
   intro q
   rw [q,hoc] at e
   have q' : oc = p.2:=Option.some.inj e
   exact d w' (by rw [<- q']; exact hocd)
theorem store_ok {M : Model} {A : Around} {E : Value -> Shared -> Prop} {i : Nat} {x : Str} {v : V} {u : Value} {Q : Unit -> Shared -> Prop} (I : Inv X pins σ H s) (hN : X.N.Nodup) (hi : X.N[i]? = some x) (hx : Loc X.env.scope x) (r : RelV v u)
  (h : ∀ s',Inv X pins (σ.set i (some v)) H s' -> Q () s') (hf : autoParam (X.fn x = true ∨ X.env.scope.names.lookup x = some .local) L2.au2._auto_1) : wpAny M A (storeName X.env x u) Q E s :=
 store_ok2 I hN hi hx r (fun s' I' _ => h s' I') hf
theorem Inv.call' {s' : Shared} {ch : List Addr} (I : Inv X pins σ H s) (ho : s'.os = s.os) (u : Un (frs X.stack) ch H H' s.heap s'.heap) (hok : HOk X.prog X.w H' s'.heap) (hg : AllBare s'.gens)
  (hch : ∀ b ∈ ch,(b ∈ X.ex ∨ X.s₀.heap.objs.size <= b) /\ b ≠ X.env.locals /\ (∀ x c,X.env.cells.lookup x = some c -> c ≠ b) /\ ∀ p ∈ X.pn ++ pins,p.1 ≠ b) : Inv X pins σ H' s':=by
 obtain ⟨h',g',d',t',o'⟩:=s'
 have e : o' = s.os:=ho
 subst e
 exact I.call (g':=g') (t':=t') (d':=d') u hok hg hch
end
noncomputable abbrev XK:=Value -> Option Addr -> Hp -> Prop
noncomputable abbrev St:=List (Option V)
noncomputable abbrev VK:=V -> Hp -> Prop
noncomputable abbrev TE:=St -> Hp -> VK -> Prop
noncomputable abbrev TT:=St -> Hp -> (Bool -> Hp -> Prop) -> Prop
noncomputable abbrev TA:=St -> Hp -> (List V -> Hp -> Prop) -> Prop
set_option genInjectivity false in
structure Ends where
 nx : St -> Hp -> Prop
 rt : VK
 bk : St -> Hp -> Prop:=fun _ _ => False
 ct : St -> Hp -> Prop:=fun _ _ => False
noncomputable abbrev TS:=Ends -> St -> Hp -> Prop
noncomputable def EP (X : Cx) (pins : List (Addr × Obj)) (σ : St) (Q : VK) (u : Value) (s' : Shared) : Prop:=∃ v H',Inv X pins σ H' s' /\ RelV v u /\ Q v H'
noncomputable def TP (X : Cx) (pins : List (Addr × Obj)) (σ : St) (Q : Bool -> Hp -> Prop) (b : Bool) (s' : Shared) : Prop:=∃ H',Inv X pins σ H' s' /\ Q b H'
noncomputable def AP (X : Cx) (pins : List (Addr × Obj)) (σ : St) (Q : List V -> Hp -> Prop) (us : List Value) (s' : Shared) : Prop:=∃ vs H',Inv X pins σ H' s' /\ Vals vs us /\ Q vs H'
noncomputable def SP (X : Cx) (pins : List (Addr × Obj)) (D : Ends) (f : Flow) (s' : Shared) : Prop :=
 match f with
 | .next => ∃ σ' H',Inv X pins σ' H' s' /\ D.nx σ' H'
 | .brk => ∃ σ' H',Inv X pins σ' H' s' /\ D.bk σ' H'
 | .cont => ∃ σ' H',Inv X pins σ' H' s' /\ D.ct σ' H'
 | .ret u => ∃ v σ' H',Inv X pins σ' H' s' /\ RelV v u /\ D.rt v H'
noncomputable def PE (X : Cx) (e : Expr) (t : TE) : Prop :=
 ∀ (pins : List (Addr × Obj)) (s : Shared) (σ : St) (H : Hp) (Q : VK),Inv X pins σ H s -> t σ H Q -> wpAny (model X.prog X.w) X.A (eval e X.env) (EP X pins σ Q) X.xe s
noncomputable def PT (X : Cx) (e : Expr) (t : TT) : Prop :=
 ∀ (pins : List (Addr × Obj)) (s : Shared) (σ : St) (H : Hp) (Q : Bool -> Hp -> Prop),Inv X pins σ H s -> t σ H Q -> wpAny (model X.prog X.w) X.A (isTrue e X.env (eval e X.env)) (TP X pins σ Q) X.xe s
noncomputable def PW (X : Cx) (e : Expr) (t : TT) : Prop :=
 ∀ (whole : Sem Value) (pins : List (Addr × Obj)) (s : Shared) (σ : St) (H : Hp) (Q : Bool -> Hp -> Prop),Inv X pins σ H s -> t σ H Q -> wpAny (model X.prog X.w) X.A (isTrue e X.env whole) (TP X pins σ Q) X.xe s
theorem PW.pt {X : Cx} {e : Expr} {t : TT} (h : PW X e t) : PT X e t:=h _
noncomputable def PA (X : Cx) (es : List Expr) (t : TA) : Prop :=
 ∀ (pos : Pos) (pins : List (Addr × Obj)) (s : Shared) (σ : St) (H : Hp) (Q : List V -> Hp -> Prop),Inv X pins σ H s -> t σ H Q -> wpAny (model X.prog X.w) X.A (spliced (backTo pos (starEach es X.env))) (AP X pins σ Q) X.xe s
noncomputable def PS (X : Cx) (st : Stmt) (t : TS) : Prop :=
 ∀ (pins : List (Addr × Obj)) (s : Shared) (σ : St) (H : Hp) (D : Ends),Inv X pins σ H s -> t D σ H -> wpAny (model X.prog X.w) X.A (exec st X.env) (SP X pins D) X.xe s
noncomputable def PSs (X : Cx) (st : List Stmt) (t : TS) : Prop :=
 ∀ (pins : List (Addr × Obj)) (s : Shared) (σ : St) (H : Hp) (D : Ends),Inv X pins σ H s -> t D σ H -> wpAny (model X.prog X.w) X.A (execs st X.env) (SP X pins D) X.xe s
theorem thn {α : Type} {t : Sem α} {Q Q' : α -> Shared -> Prop} {M : Model} {A : Around} {E : Value -> Shared -> Prop} {s : Shared} (h : wpAny M A t Q E s) (hQ : ∀ a s,Q a s -> Q' a s) : wpAny M A t Q' E s:=wpAny_mono h hQ fun _ _ x => x
end L2
namespace L2
open PySem PySem.Spec PyProof.Rows
section
variable {X : Cx}
theorem bin {a b : Expr} {ta tb : TE} (ha : PE X a ta) (hb : PE X b tb) {pins : List (Addr × Obj)} {s : Shared} {σ : St} {H : Hp} {R : V -> V -> Hp -> Prop} (I : Inv X pins σ H s) (h : ta σ H fun x H1 => tb σ H1 fun y H2 => R x y H2)
  {α : Type} {Q : α -> Shared -> Prop} {f : Value -> Value -> Sem α}
  (hf : ∀ v u s2 x y H2,Inv X pins σ H2 s2 -> RelV x v -> RelV y u -> R x y H2 -> wpAny (model X.prog X.w) X.A (f v u) Q X.xe s2) :
  wpAny (model X.prog X.w) X.A (eval a X.env) (fun v s₁ => wpAny (model X.prog X.w) X.A (eval b X.env) (fun u s₂ => wpAny (model X.prog X.w) X.A (f v u) Q X.xe s₂) X.xe s₁) X.xe s:=by
 refine thn (ha pins s σ H _ I h) ?_
 rintro v s1 ⟨x,H1,I1,r1,q1⟩
 refine thn (hb pins s1 σ H1 _ I1 q1) ?_
 rintro u s2 ⟨y,H2,I2,r2,q2⟩
 exact hf v u s2 x y H2 I2 r1 r2 q2
inductive RdV (σ : St) (i : Nat) (H : Hp) (Q : VK) : Prop where | mk (v : V) (e : σ[i]? = some (some v)) (q : Q v H) : RdV σ i H Q
noncomputable def tVar (i : Nat) : TE:=fun σ H Q => RdV σ i H Q
noncomputable def tC (v : V) : TE:=fun _ H Q => Q v H
theorem pe_var {i : Nat} {x : Str} {pos : Pos} (hN : X.N[i]? = some x) (hv : Vis X.env.scope x) (hd : autoParam ((x == ("__debug__" : Str)) = false) L2.au3._auto_1) (hcd : autoParam ((x == ("__classdict__" : Str)) = false) L2.au3._auto_1) : PE X (.Name x pos) (tVar i):=by
 intro pins s σ H Q I h
 obtain ⟨v,e,h⟩:=h
 obtain ⟨m,hn,hl⟩:=I.loc
 obtain ⟨u,r,l⟩:=hl i x v hN e hv
 have fin : EP X pins σ Q u s:=⟨v,H,I,r,h⟩
 rcases l with ⟨hk,hm⟩ | ⟨hk,c,hc,hcell⟩
 ·exact wpAny_Name (wpAny_loadName_local I.ok.kind hk hn hm fin) hd
 ·rcases hk with hk | hk
  ·exact wpAny_Name (wpAny_loadName_cell I.ok.kind hk hc hcell fin) hd
  ·exact wpAny_Name (wpAny_loadName_free I.ok.kind hk hc hcell fin hcd) hd
theorem pe_int {i j pos} : PE X (.Constant (.int i) j pos) (tC (.int i)):=fun _ _ _ H _ I h => wpAny_Constant_int ⟨.int i,H,I.tok _,⟨_,rfl⟩,h⟩
theorem pe_bl {b j pos} : PE X (.Constant (.bool b) j pos) (tC (.bl b)):=fun _ _ _ H _ I h => Constant_bool ⟨.bl b,H,I,rfl,h⟩
theorem pe_non {j pos} : PE X (.Constant .none j pos) (tC .non):=fun _ _ _ H _ I h => Constant_none ⟨.non,H,I,rfl,h⟩
theorem pe_str {x j pos} : PE X (.Constant (.str x) j pos) (tC (.str x)):=fun _ _ _ H _ I h => Calls.Constant_str ⟨.str x,H,I.tok _,⟨_,rfl⟩,h⟩
noncomputable def Gl (X : Cx) (x : Str) : Prop:=X.env.kindOf x = some .globalImplicit
theorem ld_glob {E : Value -> Shared -> Prop} {pins : List (Addr × Obj)} {s : Shared} {σ : St} {H : Hp} {x : Str} {u : Value} {pos : Pos} {Q : Value -> Shared -> Prop} (I : Inv X pins σ H s) (hg : Gl X x) (hm : X.mg x = some u) (h : Q u s)
  (hd : autoParam ((x == ("__debug__" : Str)) = false) L2.au3._auto_1) : wpAny (model X.prog X.w) X.A (eval (.Name x pos) X.env) Q E s :=
 Calls.Name_function_global I.ok.kind hg (Calls.loadGlobal_global (by rw [I.ok.glob]; exact I.mod.glob.keeps I.bk) hm h) hd
theorem ld_blt {E : Value -> Shared -> Prop} {pins : List (Addr × Obj)} {s : Shared} {σ : St} {H : Hp} {x : Str} {u : Value} {pos : Pos} {Q : Value -> Shared -> Prop} (I : Inv X pins σ H s) (hg : Gl X x) (hm : X.mg x = none) (hv : bootBuiltins x = some u) (h : Q u s)
  (hn : autoParam (x ≠ "__name__") L2.au3._auto_1) (hd : autoParam ((x == ("__debug__" : Str)) = false) L2.au3._auto_1) : wpAny (model X.prog X.w) X.A (eval (.Name x pos) X.env) Q E s:=by
 obtain ⟨mb,h1,h2⟩:=I.mod.blt
 exact Calls.Name_function_global I.ok.kind hg (Calls.loadGlobal_builtin (by rw [I.ok.glob]; exact I.mod.glob.keeps I.bk) hm (by rw [I.ok.blt]; exact h1.keeps I.bk) ((h2 x hn).trans hv) h) hd
theorem pe_bltn {x : Str} {v : V} {u : Value} {pos : Pos} (hg : Gl X x) (hm : X.mg x = none) (hv : bootBuiltins x = some u) (r : RelV v u) (hn : autoParam (x ≠ "__name__") L2.au3._auto_1) (hd : autoParam ((x == ("__debug__" : Str)) = false) L2.au3._auto_1) : PE X (.Name x pos) (tC v) :=
 fun _ _ _ H _ I h => ld_blt I hg hm hv ⟨v,H,I,r,h⟩ hn hd
variable {a b : Expr} {ta tb : TE} {pos : Pos}
noncomputable def PC (X : Cx) (op : CmpOp) (a b : Expr) (t : TE) : Prop :=
 ∀ (pins : List (Addr × Obj)) (s : Shared) (σ : St) (H : Hp) (Q : VK),Inv X pins σ H s -> t σ H Q ->
  wpAny (model X.prog X.w) X.A (eval a X.env) (fun v s₁ => wpAny (model X.prog X.w) X.A (eval b X.env) (fun u s₂ => wpAny (model X.prog X.w) X.A (compareOp op v u) (EP X pins σ Q) X.xe s₂) X.xe s₁) X.xe s
inductive IsBl (x : V) (H : Hp) (Q : Bool -> Hp -> Prop) : Prop where | mk (c : Bool) (e : x = .bl c) (q : Q c H) : IsBl x H Q
noncomputable def tB (t : TE) : TT:=fun σ H Q => t σ H fun x H1 => IsBl x H1 Q
theorem pt_cmp {op : CmpOp} {t : TE} (h : PC X op a b t) (h1 : behindInMarks op b = false:=by first | exact nobehind _ (by decide) (by decide) | rfl) : PT X (.Compare a [op] [b] pos) (tB t):=by
 intro pins s σ H Q I hw
 refine wpAny_isTrue_Compare1 (thn (h pins s σ H _ I hw) fun v s1 h1 => thn h1 fun u s2 h2 => thn h2 fun c s3 ⟨x,H1,I1,r1,q1⟩ => ?_) h1
 obtain ⟨d,rfl,q⟩:=q1
 cases r1
 exact wpAny_truthy_bool ⟨H1,I1,q⟩
theorem pt_val {e : Expr} {t : TE} (h : PE X e t) (he : autoParam (∀ whole,isTrue e X.env whole = (do let v <- whole; standAt e.pos; holding [v] (truthy v))) L2.au4._auto_1) : PT X e (tB t):=by
 intro pins s σ H Q I hw
 refine isTrue_plain (thn (h pins s σ H _ I hw) ?_) (he _)
 rintro v s1 ⟨x,H1,I1,r1,q1⟩
 obtain ⟨d,rfl,q⟩:=q1
 cases r1
 exact wpAny_truthy_bool ⟨H1,I1,q⟩
variable {tA tB' : TT} {rest : List Expr}
noncomputable def tOr (t u : TT) : TT:=fun σ H Q => t σ H fun c H1 => if c = true then Q true H1 else u σ H1 Q
noncomputable def tNot (t : TT) : TT:=fun σ H Q => t σ H fun c H1 => Q (!c) H1
theorem pw_or1 (ha : PT X a tA) : PW X (.BoolOp .Or [a] pos) tA:=by
 intro wh pins s σ H Q I h
 refine isTrue_or (thn (ha pins s σ H Q I h) fun c s1 e => ?_)
 cases c with
 | false => exact isTrue_or_nil e
 | true => exact e
theorem pw_or (ha : PT X a tA) (hb : PW X (.BoolOp .Or (b :: rest) pos) tB') : PW X (.BoolOp .Or (a :: b :: rest) pos) (tOr tA tB'):=by
 intro wh pins s σ H Q I h
 refine isTrue_or (thn (ha pins s σ H _ I h) ?_)
 rintro c s1 ⟨H1,I1,q1⟩
 cases c with
 | true => exact ⟨H1,I1,q1⟩
 | false => exact hb wh pins s1 σ H1 Q I1 q1
theorem pt_not (ha : PT X a tA) : PT X (.UnaryOp .Not a pos) (tNot tA):=by
 intro pins s σ H Q I h
 exact isTrue_not (ha pins s σ H (fun c H1 => Q (!c) H1) I h)
noncomputable def tAndV (ta tb : TE) : TE:=fun σ H Q => ta σ H fun x H1 => ∃ c,x = .bl c /\ if c = true then tb σ H1 Q else Q (.bl false) H1
noncomputable def tNotV (ta : TE) : TE:=fun σ H Q => ta σ H fun x H1 => ∃ c,x = .bl c /\ Q (.bl (!c)) H1
theorem pe_one {op} {t : TE} (h : PE X a t) : PE X (.BoolOp op [a] pos) t:=fun pins s σ H Q I hw => BoolOp_one (h pins s σ H Q I hw)
theorem pe_and (ha : PE X a ta) (hb : PE X (.BoolOp .And (b :: rest) pos) tb) : PE X (.BoolOp .And (a :: b :: rest) pos) (tAndV ta tb):=by
 intro pins s σ H Q I h
 refine BoolOp_and (thn (ha pins s σ H _ I h) ?_)
 rintro v s1 ⟨x,H1,I1,r1,q1⟩
 obtain ⟨c,rfl,q1⟩:=q1
 cases r1
 refine wpAny_truthy_bool ?_
 cases c with
 | true => exact hb pins s1 σ H1 Q I1 q1
 | false => exact ⟨.bl false,H1,I1,rfl,q1⟩
theorem pe_not (ha : PE X a ta) : PE X (.UnaryOp .Not a pos) (tNotV ta):=by
 intro pins s σ H Q I h
 refine UnaryOp_ (thn (ha pins s σ H _ I h) ?_)
 rintro v s1 ⟨x,H1,I1,r1,q1⟩
 obtain ⟨c,rfl,q1⟩:=q1
 cases r1
 exact not_of (wpAny_truthy_bool ⟨.bl (!c),H1,I1,rfl,q1⟩)
noncomputable def tIf (t : TT) (ta tb : TE) : TE:=fun σ H Q => t σ H fun c H1 => if c = true then ta σ H1 Q else tb σ H1 Q
theorem pe_ifExp {c : Expr} (hc : PT X c tA) (ha : PE X a ta) (hb : PE X b tb) : PE X (.IfExp c a b pos) (tIf tA ta tb):=by
 intro pins s σ H Q I h
 refine wpAny_IfExp (thn (hc pins s σ H _ I h) ?_)
 rintro d s1 ⟨H1,I1,q1⟩
 cases d with
 | true => exact ha pins s1 σ H1 Q I1 q1
 | false => exact hb pins s1 σ H1 Q I1 q1
end
end L2
namespace L2
open PySem PySem.Spec PyProof.Rows
noncomputable def SqL (K : PySem.W.Frag) (H : Hp) (a : Addr) (xs : List V) : Prop :=
 Rd H a (.lst xs) ∨
  ∃ (o : Obj) (its : Array Value) (n : Nat),K.lookup a = some o /\ o.cls = .type "list" /\ o.dict = none /\ o.data = .seq its n /\ its.size <= sizeLine /\ Vals xs its.toList
noncomputable def SqT (K : PySem.W.Frag) (H : Hp) (a : Addr) (xs : List V) : Prop :=
 Rd H a (.tup xs) ∨
  ∃ (o : Obj) (its : Array Value) (n : Nat),K.lookup a = some o /\ o.cls = .type "tuple" /\ o.data = .seq its n /\ its.size <= sizeLine /\ Vals xs its.toList
noncomputable def absV : Value -> Option V
 | .none => some .non
 | .bool b => some (.bl b)
 | .int i _ => some (.int i)
 | .str x _ => some (.str x)
 | .bytes b _ => some (.byt b)
 | .float b _ => some (.flt b)
 | .ref a => some (.ref a)
 | .type n => some (.ty n)
 | _ => none
theorem RelV.abs {x : V} {u : Value} (r : RelV x u) : absV u = some x:=by
 cases x with
 | non => cases r; rfl
 | bl _ => cases r; rfl
 | int _ => obtain ⟨t,rfl⟩:=r; rfl
 | str _ => obtain ⟨t,rfl⟩:=r; rfl
 | byt _ => obtain ⟨t,rfl⟩:=r; rfl
 | flt _ => obtain ⟨t,rfl⟩:=r; rfl
 | ref _ => cases r; rfl
 | ty _ => cases r; rfl
theorem RelV.inj {x y : V} {u : Value} (r : RelV x u) (q : RelV y u) : x = y:=Option.some.inj (r.abs.symm.trans q.abs)
theorem Vals.inj : ∀ {xs ys : List V} {us : List Value},Vals xs us -> Vals ys us -> xs = ys
 | _,_,_,.nil,.nil => rfl
 | _,_,_,.cons r t,.cons r' t' => by rw [r.inj r',Vals.inj t t']
section
variable {X : Cx} {pins : List (Addr × Obj)} {σ : St} {H : Hp} {s : Shared} {a : Addr} {xs ys : List V}
theorem SqL.of {K : PySem.W.Frag} (h : H a = some (.lst xs)) : SqL K H a xs:=.inl (.inl h)
theorem SqT.of {K : PySem.W.Frag} (h : H a = some (.tup xs)) : SqT K H a xs:=.inl (.inl h)
theorem Inv.list (I : Inv X pins σ H s) (h : SqL X.K H a xs) : ∃ its : List Value,Vals xs its /\ PlainL s.heap a its.toArray /\ xs.length <= sizeLine:=by
 rcases h with h | ⟨o,its,n,hk,hc,hd,hs,hz,r⟩
 ·obtain ⟨z,its,n,r,e⟩:=h.ok I.hok
  exact ⟨its,r,⟨_,n,e,rfl,rfl,rfl⟩,z⟩
 ·refine ⟨its.toList,r,⟨o,n,I.kIn a o hk,hc,hd,by simpa using hs⟩,?_⟩
  have e:=r.length
  simp only [Array.length_toList] at e
  omega
theorem Inv.tuple (I : Inv X pins σ H s) (h : SqT X.K H a xs) : ∃ its : List Value,Vals xs its /\ IsTup s.heap a its.toArray /\ xs.length <= sizeLine:=by
 rcases h with h | ⟨o,its,n,hk,hc,hs,hz,r⟩
 ·obtain ⟨z,its,r,p⟩:=h.ok I.hok
  exact ⟨its,r,p,z⟩
 ·refine ⟨its.toList,r,⟨o,I.kIn a o hk,hc,n,by simpa using hs⟩,?_⟩
  have e:=r.length
  simp only [Array.length_toList] at e
  omega
theorem Inv.list_inj (I : Inv X pins σ H s) (h : SqL X.K H a xs) (h' : SqL X.K H a ys) : xs = ys:=by
 obtain ⟨its,r,⟨o,n,e,_,_,d⟩,_⟩:=I.list h
 obtain ⟨its',r',⟨o',n',e',_,_,d'⟩,_⟩:=I.list h'
 rw [e] at e'; cases e'
 rw [d] at d'
 injection d' with d1 _
 have : its = its':=by simpa using congrArg Array.toList d1
 subst this
 exact r.inj r'
theorem Inv.tuple_inj (I : Inv X pins σ H s) (h : SqT X.K H a xs) (h' : SqT X.K H a ys) : xs = ys:=by
 obtain ⟨its,r,⟨o,e,_,n,d⟩,_⟩:=I.tuple h
 obtain ⟨its',r',⟨o',e',_,n',d'⟩,_⟩:=I.tuple h'
 rw [e] at e'; cases e'
 rw [d] at d'
 injection d' with d1 _
 have : its = its':=by simpa using congrArg Array.toList d1
 subst this
 exact r.inj r'
end
noncomputable abbrev Cx.wish (X : Cx) (E : Value -> Shared -> Prop) : Cx:={ X with xe:=E }
noncomputable abbrev Cx.nox (X : Cx) : Cx:=X.wish fun _ _ => False
theorem Cx.Ok.wish {X : Cx} (ok : X.Ok) (E : Value -> Shared -> Prop) : (X.wish E).Ok :=
 ⟨ok.mod,ok.kind,ok.glob,ok.blt,ok.above,ok.inj,ok.has,ok.cab,ok.hd,ok.frames,ok.stk,ok.exf,ok.bs,ok.bsz,ok.noex,ok.exfs,ok.funs,ok.frf⟩
theorem Cx.Ok.unwish {X : Cx} {E : Value -> Shared -> Prop} (ok : (X.wish E).Ok) : X.Ok :=
 ⟨ok.mod,ok.kind,ok.glob,ok.blt,ok.above,ok.inj,ok.has,ok.cab,ok.hd,ok.frames,ok.stk,ok.exf,ok.bs,ok.bsz,ok.noex,ok.exfs,ok.funs,ok.frf⟩
section
variable {X : Cx} {pins : List (Addr × Obj)} {σ : St} {H : Hp} {s : Shared} {E : Value -> Shared -> Prop}
theorem Inv.wish (I : Inv X pins σ H s) (E : Value -> Shared -> Prop) : Inv (X.wish E) pins σ H s:=⟨I.ok.wish E,I.os,I.bare,I.base,I.loc,I.cell,I.free,I.freeC,I.pin,I.hok,I.len⟩
theorem Inv.unwish (I : Inv (X.wish E) pins σ H s) : Inv X pins σ H s:=⟨I.ok.unwish,I.os,I.bare,I.base,I.loc,I.cell,I.free,I.freeC,I.pin,I.hok,I.len⟩
theorem SP.unwish {D : Ends} {f : Flow} {s' : Shared} (h : SP (X.wish E) pins D f s') : SP X pins D f s':=by
 cases f with
 | next => obtain ⟨σ',H',I,q⟩:=h; exact ⟨σ',H',I.unwish,q⟩
 | brk => obtain ⟨σ',H',I,q⟩:=h; exact ⟨σ',H',I.unwish,q⟩
 | cont => obtain ⟨σ',H',I,q⟩:=h; exact ⟨σ',H',I.unwish,q⟩
 | ret u => obtain ⟨v,σ',H',I,r,q⟩:=h; exact ⟨v,σ',H',I.unwish,r,q⟩
theorem PE.nox {e : Expr} {t : TE} (h : PE X.nox e t) : PE X e t:=fun pins s σ H Q I hw =>
 wpAny_mono (h pins s σ H Q (I.wish _) hw) (fun _ _ ⟨v,H',I',r,q⟩ => ⟨v,H',I'.unwish,r,q⟩) fun _ _ z => False.elim z
theorem PSs.nox {st : List Stmt} {t : TS} (h : PSs X.nox st t) : PSs X st t:=fun pins s σ H D I hw =>
 wpAny_mono (h pins s σ H D (I.wish _) hw) (fun _ _ q => q.unwish) fun _ _ z => False.elim z
end
section
variable {X : Cx} {st : Stmt} {rest : List Stmt} {t u : TS} {e : Expr} {te : TE} {pos : Pos}
noncomputable def tNext : TS:=fun D σ H => D.nx σ H
noncomputable def tSeq (t u : TS) : TS:=fun D σ H => t { D with nx:=u D } σ H
theorem pss_nil : PSs X [] tNext:=fun _ _ σ H _ I h => wpAny_execs_nil ⟨σ,H,I,h⟩
theorem pss_cons (h1 : PS X st t) (h2 : PSs X rest u) : PSs X (st :: rest) (tSeq t u):=by
 intro pins s σ H D I h
 refine wpAny_execs_cons (thn (h1 pins s σ H { D with nx:=u D } I h) fun f s1 q => ?_)
 cases f with
 | next =>
  obtain ⟨σ',H',I',q⟩:=q
  exact h2 pins s1 σ' H' D I' q
 | ret v => exact q
 | brk => exact q
 | cont => exact q
theorem pss_one (h1 : PS X st t) : PSs X [st] t:=by
 intro pins s σ H D I h
 refine wpAny_execs_cons (thn (h1 pins s σ H D I h) fun f s1 q => ?_)
 cases f with
 | next => exact wpAny_execs_nil q
 | ret v => exact q
 | brk => exact q
 | cont => exact q
theorem Inv.quiet {pins : List (Addr × Obj)} {σ : St} {H : Hp} {s : Shared} (I : Inv X pins σ H s) : interactive X.env = false:=by simp [interactive,I.ok.kind]
noncomputable def tDrop (te : TE) : TS:=fun D σ H => te σ H fun _ H1 => D.nx σ H1
theorem ps_expr (he : PE X e te) (hs : autoParam (swapsWith e none pos.line X.env = pure false) L2.au1._auto_1) : PS X (.Expr e pos) (tDrop te):=by
 intro pins s σ H D I h
 refine wpAny_Expr_any (thn (he pins s σ H _ I h) ?_) I.quiet hs
 rintro v s1 ⟨x,H1,I1,r1,q1⟩
 exact ⟨σ,H1,I1,q1⟩
noncomputable def tRet (te : TE) : TS:=fun D σ H => te σ H D.rt
theorem ps_ret (he : PE X e te) : PS X (.Return (some e) pos) (tRet te):=by
 intro pins s σ H D I h
 refine wpAny_Return_some (thn (he pins s σ H _ I h) ?_)
 rintro v s1 ⟨x,H1,I1,r1,q1⟩
 exact ⟨x,σ,H1,I1,r1,q1⟩
noncomputable def tIfS (c : TT) (t u : TS) : TS:=fun D σ H => c σ H fun b H1 => if b = true then t D σ H1 else u D σ H1
theorem ps_if {c : Expr} {a b : List Stmt} {tc : TT} (hc : PT X c tc) (ha : PSs X a t) (hb : PSs X b u) : PS X (.If c a b pos) (tIfS tc t u):=by
 intro pins s σ H D I h
 refine wpAny_If (thn (hc pins s σ H _ I h) ?_)
 rintro d s1 ⟨H1,I1,q1⟩
 cases d with
 | true => exact ha pins s1 σ H1 D I1 q1
 | false => exact hb pins s1 σ H1 D I1 q1
noncomputable def tNever : TS:=fun _ _ _ => False
theorem pss_never {sts : List Stmt} : PSs X sts tNever:=fun _ _ _ _ _ _ h => h.elim
end
noncomputable abbrev TG:=V -> St -> Hp -> (St -> Hp -> Prop) -> Prop
noncomputable abbrev TGs:=List V -> St -> Hp -> (St -> Hp -> Prop) -> Prop
noncomputable def PG (X : Cx) (target : Expr) (t : TG) : Prop :=
 ∀ (pins : List (Addr × Obj)) (s : Shared) (σ : St) (H : Hp) (v : V) (u : Value) (Q : St -> Hp -> Prop),Inv X pins σ H s -> RelV v u -> t v σ H Q ->
  wpAny (model X.prog X.w) X.A (assign target X.env u) (fun _ s' => ∃ σ' H',Inv X pins σ' H' s' /\ Q σ' H') X.xe s
noncomputable def PGs (X : Cx) (ts : List Expr) (t : TGs) : Prop :=
 ∀ (pins : List (Addr × Obj)) (s : Shared) (σ : St) (H : Hp) (vs : List V) (us : List Value) (Q : St -> Hp -> Prop),Inv X pins σ H s -> Vals vs us -> t vs σ H Q ->
  wpAny (model X.prog X.w) X.A (assignInOrder ((assignEach ts X.env).map (·.2)) us) (fun _ s' => ∃ σ' H',Inv X pins σ' H' s' /\ Q σ' H') X.xe s
noncomputable abbrev TSet:=V -> V -> V -> Hp -> (Hp -> Prop) -> Prop
noncomputable def PSet (X : Cx) (t : TSet) : Prop :=
 ∀ (pins : List (Addr × Obj)) (s : Shared) (σ : St) (H : Hp) (o i v : V) (ov iv u : Value) (Q : Hp -> Prop),Inv X pins σ H s -> RelV o ov -> RelV i iv -> RelV v u -> t o i v H Q ->
  wpAny (model X.prog X.w) X.A (setItem ov iv u) (fun _ s' => ∃ H',Inv X pins σ H' s' /\ Q H') X.xe s
noncomputable abbrev TIp:=V -> V -> Hp -> VK -> Prop
noncomputable def PIp (X : Cx) (op : Operator) (t : TIp) : Prop :=
 ∀ (pins : List (Addr × Obj)) (s : Shared) (σ : St) (H : Hp) (x y : V) (v u : Value) (Q : VK),Inv X pins σ H s -> RelV x v -> RelV y u -> t x y H Q ->
  wpAny (model X.prog X.w) X.A (inplaceOp op v u) (EP X pins σ Q) X.xe s
section
variable {X : Cx} {pos : Pos}
noncomputable def gName (i : Nat) : TG:=fun v σ H Q => Q (σ.set i (some v)) H
theorem pg_name {i : Nat} {x : Str} (hN : X.N.Nodup) (hi : X.N[i]? = some x) (hx : Loc X.env.scope x) (hf : autoParam (X.fn x = true ∨ X.env.scope.names.lookup x = some .local) L2.au2._auto_1) : PG X (.Name x pos) (gName i):=by
 intro pins s σ H v u Q I r h
 exact wpAny_assign_Name (store_ok I hN hi hx r (fun s' I' => ⟨_,H,I',h⟩) hf)
noncomputable def gNil : TGs:=fun vs σ H Q => vs = [] /\ Q σ H
noncomputable def gCons (t : TG) (u : TGs) : TGs:=fun vs σ H Q => ∃ v r,vs = v :: r /\ t v σ H fun σ' H' => u r σ' H' Q
theorem pgs_nil : PGs X [] gNil:=by
 intro pins s σ H vs us Q I r h
 obtain ⟨e,h⟩:=h
 subst e
 cases r
 exact assignInOrder_nil ⟨σ,H,I,h⟩
theorem pgs_cons {e : Expr} {es : List Expr} {t : TG} {u : TGs} (h1 : PG X e t) (h2 : PGs X es u)
  (hs : autoParam ((assignEach (e :: es) X.env).map (·.2) = assign e X.env :: (assignEach es X.env).map (·.2)) L2.au1._auto_1) : PGs X (e :: es) (gCons t u):=by
 intro pins s σ H vs us Q I r h
 obtain ⟨v,vr,e1,h⟩:=h
 subst e1
 cases r with
 | cons r rr =>
  rw [hs]
  refine assignInOrder_cons (thn (h1 pins s σ H _ _ _ I r h) ?_)
  rintro _ s1 ⟨σ1,H1,I1,q1⟩
  exact h2 pins s1 σ1 H1 _ _ Q I1 rr q1
noncomputable def gTup (K : PySem.W.Frag) (n : Nat) (t : TGs) : TG:=fun v σ H Q => ∃ a xs,v = .ref a /\ SqT K H a xs /\ xs.length = n /\ t xs σ H Q
theorem pg_tup {es : List Expr} {k : Nat} {t : TGs} {n : Nat} (hc : X.calm = true) (h : PGs X es t)
  (hn : autoParam ((assignEach es X.env).length = n) L2.au1._auto_1) (hst : autoParam ((assignEach es X.env).findIdx? (·.1) = none) L2.au1._auto_1) : PG X (.Tuple es k pos) (gTup X.K n t):=by
 intro pins s σ H v u Q I r hw
 obtain ⟨a,xs,e1,hq,hl,hw⟩:=hw
 subst e1
 cases r
 obtain ⟨its,rv,ht,hz⟩:=I.tuple hq
 refine assign_Tuple_tuple (I.ok.hd hc) ht (by simp [hn,<- hl,rv.length]) hst fun h' hx => ?_
 have I1 : Inv X pins σ H { s with heap:=h' }:=I.kept (t':=s.toks) fun b o e => hx b o (Nat.ne_of_lt (Heap.lt_size e)) e
 exact h pins _ σ H xs _ Q I1 (by simpa using rv) hw
noncomputable def gSub (to ti : TE) (t : TSet) : TG:=fun v σ H Q => to σ H fun o H1 => ti σ H1 fun i H2 => t o i v H2 fun H3 => Q σ H3
theorem pg_sub {o i : Expr} {to ti : TE} {t : TSet} (ho : PE X o to) (hi : PE X i ti) (hs : PSet X t)
  (ha : autoParam (∀ v,assign (.Subscript o i pos) X.env v = (do
   let ov <- holding [v] (eval o X.env)
   let iv <- holding [v,ov] (eval i X.env)
   standAt pos
   holding [v,ov,iv] (setItem ov iv v)
   release [v,ov,iv] [])) L2.au4._auto_1) : PG X (.Subscript o i pos) (gSub to ti t):=by
 intro pins s σ H v u Q I r h
 rw [ha]
 refine wpAny_bind (wpAny_holding (thn (ho pins s σ H _ I h) ?_))
 rintro ov s1 ⟨x,H1,I1,r1,q1⟩
 refine wpAny_bind (wpAny_holding (thn (hi pins s1 σ H1 _ I1 q1) ?_))
 rintro iv s2 ⟨y,H2,I2,r2,q2⟩
 refine wpAny_bind (wpAny_standAt (wpAny_bind (wpAny_holding (thn (hs pins s2 σ H2 x y v ov iv u _ I2 r1 r2 r q2) ?_))))
 rintro _ s3 ⟨H3,I3,q3⟩
 exact wpAny_release ⟨σ,H3,I3,q3⟩
noncomputable def tAsg (te : TE) (g : TG) : TS:=fun D σ H => te σ H fun x H1 => g x σ H1 D.nx
theorem ps_asg {tg e : Expr} {te : TE} {g : TG} (he : PE X e te) (hg : PG X tg g) (hs : autoParam (swapsWithSole [tg] e pos.line X.env = pure false) L2.au1._auto_1) (hw : autoParam (swappedStores [tg] e X.env = pure none) L2.au1._auto_1)
  (h1 : autoParam ((assignEach [tg] X.env).map (·.2) = [assign tg X.env]) L2.au1._auto_1) : PS X (.Assign [tg] e pos) (tAsg te g):=by
 intro pins s σ H D I h
 refine wpAny_Assign_stores (thn (he pins s σ H _ I h) ?_) hs hw
 rintro v s1 ⟨x,H1,I1,r1,q1⟩
 rw [h1]
 exact thn (hg pins s1 σ H1 x v _ I1 r1 q1) fun _ s2 q => q
theorem ps_set {i : Nat} {x : Str} {e : Expr} {te : TE} {pos' : Pos} (hN : X.N.Nodup) (hi : X.N[i]? = some x) (hx : Loc X.env.scope x) (he : PE X e te) (hs : autoParam (swapsWith e (some (.Name x pos')) pos.line X.env = pure false) L2.au1._auto_1) (hf : autoParam (X.fn x = true ∨ X.env.scope.names.lookup x = some .local) L2.au2._auto_1) :
  PS X (.Assign [.Name x pos'] e pos) (tAsg te (gName i)):=by
 intro pins s σ H D I h
 refine wpAny_Assign_Name (thn (he pins s σ H _ I h) ?_) hs
 rintro v s1 ⟨y,H1,I1,r1,q1⟩
 exact store_ok I1 hN hi hx r1 (fun s2 I2 => ⟨_,H1,I2,q1⟩) hf
noncomputable def tAug (i : Nat) (te : TE) (ti : TIp) : TS:=fun D σ H => ∃ x,σ[i]? = some (some x) /\ te σ H fun y H1 => ti x y H1 fun z H2 => D.nx (σ.set i (some z)) H2
theorem ps_aug {i : Nat} {x : Str} {e : Expr} {te : TE} {op : Operator} {ti : TIp} {pos' : Pos} (hN : X.N.Nodup) (hi : X.N[i]? = some x) (hx : Loc X.env.scope x) (he : PE X e te) (ho : PIp X op ti) (hf : autoParam (X.fn x = true ∨ X.env.scope.names.lookup x = some .local) L2.au2._auto_1) :
  PS X (.AugAssign (.Name x pos') op e pos) (tAug i te ti):=by
 intro pins s σ H D I h
 obtain ⟨v,e1,h⟩:=h
 obtain ⟨m,hn,hl⟩:=I.loc
 have vis : Vis X.env.scope x:=by rcases hx with k | k; exact .inl k; exact .inr (.inl k)
 obtain ⟨u,r,l⟩:=hl i x v hi e1 vis
 refine wpAny_AugAssign_Name ?_
 have go : wpAny (model X.prog X.w) X.A (eval e X.env) (fun w s₂ => wpAny (model X.prog X.w) X.A (inplaceOp op u w) (fun r s₃ => wpAny (model X.prog X.w) X.A (storeName X.env x r) (fun _ => SP X pins D .next) X.xe s₃) X.xe s₂) X.xe s:=by
  refine thn (he pins s σ H _ I h) ?_
  rintro w s1 ⟨y,H1,I1,r1,q1⟩
  refine thn (ho pins s1 σ H1 v y u w _ I1 r r1 q1) ?_
  rintro z s2 ⟨zv,H2,I2,r2,q2⟩
  exact store_ok I2 hN hi hx r2 (fun s3 I3 => ⟨_,H2,I3,q2⟩) hf
 rcases l with ⟨hk,hm⟩ | ⟨hk,c,hc,hcell⟩
 ·exact wpAny_loadName_local I.ok.kind hk hn hm go
 ·rcases hk with hk | hk
  ·exact wpAny_loadName_cell I.ok.kind hk hc hcell go
  ·rcases hx with k | k
   ·have : X.env.scope.names.lookup x = some .free:=hk
    rw [k] at this; cases this
   ·have : X.env.scope.names.lookup x = some .free:=hk
    rw [k] at this; cases this
noncomputable def ipI (f : Int -> Int -> Int) : TIp:=fun x y H Q => ∃ i j,x = .int i /\ y = .int j /\ Q (.int (f i j)) H
theorem ip_add : PIp X .Add (ipI fun i j => i + j):=by
 intro pins s σ H x y v u Q I r1 r2 h
 obtain ⟨i,j,e1,e2,q⟩:=h
 subst e1; subst e2
 obtain ⟨t,rfl⟩:=r1
 obtain ⟨t',rfl⟩:=r2
 exact iadd_int ⟨.int _,H,I.tok _,⟨_,rfl⟩,q⟩
end
section
variable {X : Cx} {pos : Pos}
noncomputable def tWhile (c : TT) (tb : TS) : TS:=fun D σ H => ∃ W : Nat -> St -> Hp -> Prop,(∃ m,W m σ H) /\ ∀ m σ H,W m σ H ->
 c σ H fun b H1 => if b = true then ∃ N : St -> Hp -> Prop,(∀ σ' H',N σ' H' -> ∃ m',m' < m /\ W m' σ' H') /\ tb { D with nx:=N,ct:=N,bk:=D.nx } σ H1 else D.nx σ H1
theorem ps_while {c : Expr} {body : List Stmt} {tc : TT} {tb : TS} (hp : PassesOwn (model X.prog X.w) X.A X.env X.xe) (hc : PT X c tc) (hb : PSs X body tb) : PS X (.While c body [] pos) (tWhile tc tb):=by
 intro pins s σ H D I h
 obtain ⟨W,⟨m0,w0⟩,turn⟩:=h
 refine wpAny_While (codeAny_whileLoop (fun n s' => ∃ σ' H',Inv X pins σ' H' s' /\ W n σ' H') ?_ m0 ⟨σ,H,I,w0⟩)
 rintro n s1 ⟨σ1,H1,I1,w1⟩
 refine wpAny_passesOwn hp (thn (hc pins s1 σ1 H1 _ I1 (turn n σ1 H1 w1)) ?_)
 rintro b s2 ⟨H2,I2,q2⟩
 cases b with
 | true =>
  obtain ⟨N,hN,q2⟩:=q2
  rw [if_pos rfl]
  refine wpAny_passesOwn hp (thn (hb pins s2 σ1 H2 _ I2 q2) fun f s3 q3 => ?_)
  cases f with
  | next =>
   obtain ⟨σ3,H3,I3,n3⟩:=q3
   obtain ⟨m',hm,w3⟩:=hN σ3 H3 n3
   exact ⟨m',hm,σ3,H3,I3,w3⟩
  | cont =>
   obtain ⟨σ3,H3,I3,n3⟩:=q3
   obtain ⟨m',hm,w3⟩:=hN σ3 H3 n3
   exact ⟨m',hm,σ3,H3,I3,w3⟩
  | brk => exact q3
  | ret v => exact q3
 | false =>
  rw [if_neg Bool.false_ne_true]
  exact wpAny_execs_nil ⟨σ1,H2,I2,q2⟩
end
set_option genInjectivity false in
structure It where
 go : Nat -> Hp -> Prop
 yld : Nat -> Hp -> V -> Hp -> Prop
 stop : Nat -> Hp -> Prop
noncomputable def FpOk (X : Cx) (pins : List (Addr × Obj)) (H : Hp) (b : Addr) : Prop :=
 H b = none /\ b ≠ X.env.locals /\ b ∉ X.fs /\ (b ∈ X.ex ∨ X.s₀.heap.objs.size <= b) /\ (∀ x c,X.env.cells.lookup x = some c -> c ≠ b) /\ ∀ p ∈ X.pn ++ pins,p.1 ≠ b
theorem Inv.fpOk {X : Cx} {pins : List (Addr × Obj)} {σ : St} {H H' : Hp} {s : Shared} {b : Addr} (I : Inv X pins σ H s) (hb : s.heap.objs.size <= b) (hn : H' b = none) : FpOk X pins H' b:=by
 refine ⟨hn,Nat.ne_of_gt (Nat.lt_of_lt_of_le I.lt hb),I.nofs hb,.inr (Nat.le_trans I.sz hb),fun x c e z => ?_,fun p hp z => ?_⟩
 ·obtain ⟨v,q⟩:=I.cell x c e
  exact absurd (Nat.lt_of_lt_of_le q.lt (by rw [z]; exact hb)) (Nat.lt_irrefl _)
 ·exact absurd (Nat.lt_of_lt_of_le (Heap.lt_size (I.pin p hp).1) (by rw [z]; exact hb)) (Nat.lt_irrefl _)
set_option genInjectivity false in
structure Turn (P : Program) (w : World) (K : PySem.W.Frag) (tg : Expr) (J : It) (fp : List Addr) (it : Addr) (tn : Nat -> Heap -> Prop) : Prop where
 mem : it ∈ fp
 obj : ∀ i h,tn i h -> ∀ b ∈ fp,∃ o,h.get? b = some o /\ ∀ v,o.data ≠ .cell v
 keep : ∀ i h h',tn i h -> (∀ b ∈ fp,∀ o,h.get? b = some o -> h'.get? b = some o) -> tn i h'
 item : ∀ (X : Cx),X.prog = P -> X.w = w -> X.K = K -> X.calm = true -> ∀ (i : Nat) (pins : List (Addr × Obj)) (s : Shared) (σ : St) (H : Hp) (E : Value -> Shared -> Prop),Inv X pins σ H s -> (∀ b ∈ fp,FpOk X pins H b) -> tn i s.heap -> J.go i H ->
  wpAny (model P w) X.A (pyNext (.ref it)) (fun r s1 => ∃ u,r = some u /\
   wpAny (model P w) X.A (letOwnedTupleGo tg (.ref it) u) (fun _ s2 => ∃ x H',Inv X pins σ H' s2 /\ RelV x u /\ J.yld i H x H' /\ tn (i + 1) s2.heap /\ ∀ b ∈ fp,H' b = none) E s1) E s
 done : ∀ (X : Cx),X.prog = P -> X.w = w -> X.K = K -> X.calm = true -> ∀ (i : Nat) (pins : List (Addr × Obj)) (s : Shared) (σ : St) (H : Hp) (E : Value -> Shared -> Prop),Inv X pins σ H s -> (∀ b ∈ fp,FpOk X pins H b) -> tn i s.heap -> J.stop i H ->
  wpAny (model P w) X.A (pyNext (.ref it)) (fun r s1 => r = none /\ Inv X pins σ H s1) E s
 self : ∀ (A : Around) (i : Nat) (s : Shared) (Q : Value -> Shared -> Prop) (E : Value -> Shared -> Prop),tn i s.heap -> Q (.ref it) s -> wpAny (model P w) A (pyIter (.ref it)) Q E s
noncomputable abbrev TI:=St -> Hp -> (It -> Hp -> Prop) -> Prop
noncomputable def PIE (X : Cx) (pins : List (Addr × Obj)) (σ : St) (tg : Expr) (R : It -> Hp -> Prop) (itv : Value) (s2 : Shared) : Prop :=
 ∃ (it : Addr) (fp : List Addr) (tn : Nat -> Heap -> Prop) (J : It) (H' : Hp),itv = .ref it /\ Inv X pins σ H' s2 /\ Turn X.prog X.w X.K tg J fp it tn /\ tn 0 s2.heap /\ (∀ b ∈ fp,FpOk X pins H' b) /\ R J H'
noncomputable def PI (X : Cx) (tg iter : Expr) (wi : TI) : Prop :=
 ∀ (pins : List (Addr × Obj)) (s : Shared) (σ : St) (H : Hp) (R : It -> Hp -> Prop),Inv X pins σ H s -> wi σ H R ->
  wpAny (model X.prog X.w) X.A (eval iter X.env) (fun v s1 => wpAny (model X.prog X.w) X.A (pyIter v) (PIE X pins σ tg R) X.xe s1) X.xe s
theorem go_of {M : Model} {A : Around} {E : Value -> Shared -> Prop} {s : Shared} {tg : Expr} {it : Addr} {u : Value} {o : Obj} {n : String} {vs : Array Value} {Q : Unit -> Shared -> Prop} (ho : s.heap.get? it = some o) (hc : o.cls = .type n) (hd : o.data = .fields vs)
  (hn : ["enumerate","zip","dict_itemiterator","dict_reverseitemiterator","odict_iterator","itertools.zip_longest","itertools.pairwise"].contains n = false) (hQ : Q () s) : wpAny M A (letOwnedTupleGo tg (.ref it) u) Q E s:=by
 unfold letOwnedTupleGo
 cases tg <;> first
  | exact wpAny_pure hQ
  | (
    cases u <;> first
    | exact wpAny_pure hQ
    | (
      refine wpAny_bind (wpAny_load ho ?_)
      rw [hc,hd]
      show wpAny M A (if (["enumerate","zip","dict_itemiterator","dict_reverseitemiterator","odict_iterator","itertools.zip_longest","itertools.pairwise"].contains n && vs[0]? == some (rawInt _)) = true then _ else _) Q E s
      rw [if_neg (by intro h; rw [hn,Bool.false_and] at h; cases h)]
      exact wpAny_pure hQ))
noncomputable def Itl (K : PySem.W.Frag) (a : Addr) : It :=
 ⟨fun i H => ∃ xs x,SqL K H a xs /\ xs[i]? = some x,fun i H x H' => H' = H /\ ∀ xs,SqL K H a xs -> xs[i]? = some x,fun i H => ∃ xs,SqL K H a xs /\ xs.length <= i⟩
noncomputable def Itt (K : PySem.W.Frag) (a : Addr) : It :=
 ⟨fun i H => ∃ xs x,SqT K H a xs /\ xs[i]? = some x,fun i H x H' => H' = H /\ ∀ xs,SqT K H a xs -> xs[i]? = some x,fun i H => ∃ xs,SqT K H a xs /\ xs.length <= i⟩
noncomputable def Itr (lo : Int) (n : Nat) : It:=⟨fun i _ => i < n,fun i H x H' => H' = H /\ x = .int (lo + i),fun i _ => n <= i⟩
theorem turn_list {P : Program} {w : World} {K : PySem.W.Frag} {tg : Expr} (a it : Addr) : Turn P w K tg (Itl K a) [it] it (fun i h => h.IsListIter it a i) where
 mem:=by simp
 obj:=fun i h st b hb => by
  have e : b = it:=by simpa using hb
  subst e
  obtain ⟨o,e,c,d⟩:=st
  exact ⟨o,e,fun v z => by rw [d] at z; cases z⟩
 keep:=fun i h h' st k => st.at fun o e => k it (by simp) o e
 item:=by
  intro X hP hw hK hc i pins s σ H E I hf st hg
  subst hP hw hK
  obtain ⟨xs,x,hq,hx⟩:=hg
  obtain ⟨its,rv,p,hz⟩:=I.list hq
  obtain ⟨u,hu,ru⟩:=rv.get hx
  obtain ⟨f0,f1,f2,f3,f4,f5⟩:=hf it (by simp)
  refine wpAny_pyNext_list_item st p.isList (x:=u) (by simpa using hu) fun h' st' sb => ?_
  have I1 : Inv X pins σ H { s with heap:=h' }:=I.turned (t':=s.toks) (fun b o hb e => (sb.2 b hb).trans e) f0 f1 f3 f4 f5
  obtain ⟨o,e,c,d⟩:=id st'
  exact ⟨u,rfl,go_of (s:={ s with heap:=h' }) e c d (by decide) ⟨x,H,I1,ru,⟨rfl,fun ys hy => by rw [I.list_inj hy hq]; exact hx⟩,st',fun b hb => (hf b hb).1⟩⟩
 done:=by
  intro X hP hw hK hc i pins s σ H E I hf st hg
  subst hP hw hK
  obtain ⟨xs,hq,hx⟩:=hg
  obtain ⟨its,rv,p,hz⟩:=I.list hq
  obtain ⟨f0,f1,f2,f3,f4,f5⟩:=hf it (by simp)
  have hl:=rv.length
  exact wpAny_pyNext_list_end (I.ok.hd hc) st p.isList (by simp; omega) fun h' eb => ⟨rfl,I.turned (t':=s.toks) (fun b o hb e => eb b o hb e) f0 f1 f3 f4 f5⟩
 self:=fun _ _ _ _ _ st h => wpAny_pyIter_listiter st h
theorem turn_tuple {P : Program} {w : World} {K : PySem.W.Frag} {tg : Expr} (a it : Addr) : Turn P w K tg (Itt K a) [it] it (fun i h => h.IsTupleIter it a i) where
 mem:=by simp
 obj:=fun i h st b hb => by
  have e : b = it:=by simpa using hb
  subst e
  obtain ⟨o,e,c,d⟩:=st
  exact ⟨o,e,fun v z => by rw [d] at z; cases z⟩
 keep:=fun i h h' st k => st.at fun o e => k it (by simp) o e
 item:=by
  intro X hP hw hK hc i pins s σ H E I hf st hg
  subst hP hw hK
  obtain ⟨xs,x,hq,hx⟩:=hg
  obtain ⟨its,rv,p,hz⟩:=I.tuple hq
  obtain ⟨u,hu,ru⟩:=rv.get hx
  obtain ⟨f0,f1,f2,f3,f4,f5⟩:=hf it (by simp)
  refine wpAny_pyNext_tuple_item st (show s.heap.IsTuple a its.toArray from p) (x:=u) (by simpa using hu) fun h' st' sb => ?_
  have I1 : Inv X pins σ H { s with heap:=h' }:=I.turned (t':=s.toks) (fun b o hb e => (sb.2 b hb).trans e) f0 f1 f3 f4 f5
  obtain ⟨o,e,c,d⟩:=id st'
  exact ⟨u,rfl,go_of (s:={ s with heap:=h' }) e c d (by decide) ⟨x,H,I1,ru,⟨rfl,fun ys hy => by rw [I.tuple_inj hy hq]; exact hx⟩,st',fun b hb => (hf b hb).1⟩⟩
 done:=by
  intro X hP hw hK hc i pins s σ H E I hf st hg
  subst hP hw hK
  obtain ⟨xs,hq,hx⟩:=hg
  obtain ⟨its,rv,p,hz⟩:=I.tuple hq
  obtain ⟨f0,f1,f2,f3,f4,f5⟩:=hf it (by simp)
  have hl:=rv.length
  exact wpAny_pyNext_tuple_end (I.ok.hd hc) st (show s.heap.IsTuple a its.toArray from p) (by simp; omega) fun h' eb => ⟨rfl,I.turned (t':=s.toks) (fun b o hb e => eb b o hb e) f0 f1 f3 f4 f5⟩
 self:=fun _ _ _ _ _ st h => wpAny_pyIter_tupleiter st h
theorem turn_range {P : Program} {w : World} {K : PySem.W.Frag} {tg : Expr} (it : Addr) (lo : Int) (n : Nat) : Turn P w K tg (Itr lo n) [it] it (fun i h => IsRangeIter h it (lo + (i : Nat) * 1) ((n : Int) - (i : Nat)) 1) where
 mem:=by simp
 obj:=fun i h st b hb => by
  have e : b = it:=by simpa using hb
  subst e
  exact ⟨_,st,fun v z => by
   have z' : Data.fields _ = Data.cell v:=z
   cases z'⟩
 keep:=fun i h h' st k => k it (by simp) _ st
 item:=by
  intro X hP hw hK hc i pins s σ H E I hf st hg
  subst hP hw hK
  obtain ⟨f0,f1,f2,f3,f4,f5⟩:=hf it (by simp)
  have W:=Walks.range (prog:=X.prog) (w:=X.w) (I.ok.hd hc) it lo 1 n
  refine W.item i s _ _ hg st fun v h' tk hv st' kk => ?_
  obtain ⟨t,rfl⟩:=hv
  have I1 : Inv X pins σ H { s with heap:=h',toks:=tk }:=I.turned (fun b o hb e => kk b o (by simpa using hb) e) f0 f1 f3 f4 f5
  refine ⟨_,rfl,go_of (s:={ s with heap:=h',toks:=tk }) (n:="range_iterator") st' rfl rfl (by decide) ⟨.int (lo + i),H,I1,⟨t,?_⟩,⟨rfl,rfl⟩,st',fun b hb => (hf b hb).1⟩⟩
  rw [Int.mul_one]
 done:=by
  intro X hP hw hK hc i pins s σ H E I hf st hg
  subst hP hw hK
  obtain ⟨f0,f1,f2,f3,f4,f5⟩:=hf it (by simp)
  exact wpAny_pyNext_range_end (I.ok.hd hc) st (by have : n <= i:=hg; omega) fun h' eb => ⟨rfl,I.turned (t':=s.toks) (fun b o hb e => eb b o hb e) f0 f1 f3 f4 f5⟩
 self:=fun _ _ _ _ _ st h => wpAny_pyIter_rangeiter st h
end L2
namespace L2
open PySem PySem.Spec PyProof.Rows
section
variable {X : Cx} {tg : Expr}
noncomputable def iList (K : PySem.W.Frag) (tl : TE) : TI:=fun σ H R => tl σ H fun x H1 => ∃ a,x = .ref a /\ (∃ xs,SqL K H1 a xs) /\ R (Itl K a) H1
noncomputable def iTup (K : PySem.W.Frag) (tl : TE) : TI:=fun σ H R => tl σ H fun x H1 => ∃ a,x = .ref a /\ (∃ xs,SqT K H1 a xs) /\ R (Itt K a) H1
theorem pi_list {l : Expr} {tl : TE} (hl : PE X l tl) : PI X tg l (iList X.K tl):=by
 intro pins s σ H R I h
 refine thn (hl pins s σ H _ I h) ?_
 rintro v s1 ⟨x,H1,I1,r1,q1⟩
 obtain ⟨a,e,⟨xs,hq⟩,q⟩:=q1
 subst e
 cases r1
 obtain ⟨its,rv,p,hz⟩:=I1.list hq
 refine wpAny_pyIter_list p.isList ?_
 refine ⟨s1.heap.objs.size,[s1.heap.objs.size],_,_,H1,rfl,I1.kept (t':=s1.toks) fun b o e => Heap.get?_push_of_some _ e,turn_list a _,⟨_,Heap.get?_push_size _ rfl,rfl,rfl⟩,fun b hb => ?_,q⟩
 have e : b = s1.heap.objs.size:=by simpa using hb
 subst e
 exact I1.fpOk (Nat.le_refl _) (I1.hok.fresh (Nat.le_refl _))
theorem pi_tup {l : Expr} {tl : TE} (hl : PE X l tl) : PI X tg l (iTup X.K tl):=by
 intro pins s σ H R I h
 refine thn (hl pins s σ H _ I h) ?_
 rintro v s1 ⟨x,H1,I1,r1,q1⟩
 obtain ⟨a,e,⟨xs,hq⟩,q⟩:=q1
 subst e
 cases r1
 obtain ⟨its,rv,p,hz⟩:=I1.tuple hq
 refine wpAny_pyIter_tuple (show s1.heap.IsTuple a its.toArray from p) ?_
 refine ⟨s1.heap.objs.size,[s1.heap.objs.size],_,_,H1,rfl,I1.kept (t':=s1.toks) fun b o e => Heap.get?_push_of_some _ e,turn_tuple a _,⟨_,Heap.get?_push_size _ rfl,rfl,rfl⟩,fun b hb => ?_,q⟩
 have e : b = s1.heap.objs.size:=by simpa using hb
 subst e
 exact I1.fpOk (Nat.le_refl _) (I1.hok.fresh (Nat.le_refl _))
theorem range_it {pins : List (Addr × Obj)} {σ : St} {H : Hp} {s : Shared} {R : It -> Hp -> Prop} {E : Value -> Shared -> Prop} {lo hi : Int} {t u v : Tok} {tk : Nat} (I : Inv X pins σ H s) (h1 : -(2 ^ 62) <= lo) (h2 : lo < 2 ^ 62) (h3 : -(2 ^ 62) <= hi) (h4 : hi < 2 ^ 62)
  (q : R (Itr lo (hi - lo).toNat) H) : wpAny (model X.prog X.w) X.A (pyIter (.ref s.heap.objs.size)) (PIE X pins σ tg R) E { s with heap:=s.heap.push { cls:=.type "range",data:=.fields #[.int lo t,.int hi u,.int 1 v] },toks:=tk }:=by
 refine wpAny_pyIter_range (IsRange.new ..) (small_one h1 h2 h3 h4) ?_
 have I1 : Inv X pins σ H { s with heap:=s.heap.push { cls:=.type "range",data:=.fields #[.int lo t,.int hi u,.int 1 v] },toks:=tk }:=I.kept fun b o e => Heap.get?_push_of_some _ e
 refine ⟨(s.heap.push { cls:=.type "range",data:=.fields #[.int lo t,.int hi u,.int 1 v] }).objs.size,[(s.heap.push { cls:=.type "range",data:=.fields #[.int lo t,.int hi u,.int 1 v] }).objs.size],_,_,H,rfl,
  I1.kept (t':=tk) fun b o e => Heap.get?_push_of_some _ e,turn_range _ lo (hi - lo).toNat,?_,fun b hb => ?_,q⟩
 ·have e1 : lo + ((0 : Nat) : Int) * 1 = lo:=by simp
  have e2 : (((hi - lo).toNat : Nat) : Int) - ((0 : Nat) : Int) = Builtin.Range.rangeSize lo hi 1:=by rw [rangeSize_one]; split <;> omega
  show IsRangeIter _ _ (lo + ((0 : Nat) : Int) * 1) ((((hi - lo).toNat : Nat) : Int) - ((0 : Nat) : Int)) 1
  rw [e1,e2]
  exact Heap.get?_push_size _ rfl
 ·have e : b = (s.heap.push { cls:=.type "range",data:=.fields #[.int lo t,.int hi u,.int 1 v] }).objs.size:=by simpa using hb
  subst e
  exact I1.fpOk (Nat.le_refl _) (I1.hok.fresh (Nat.le_refl _))
noncomputable def iRng1 (ta : TA) : TI:=fun σ H R => ta σ H fun vs H1 => ∃ j : Int,vs = [.int j] /\ -(2 ^ 62) <= j /\ j < 2 ^ 62 /\ R (Itr 0 j.toNat) H1
theorem pi_range1 {a : Expr} {ta : TA} {p pos : Pos} (hg : Gl X "range") (hm : X.mg "range" = none) (ha : PA X [a] ta) (hs : autoParam (starEach [a] X.env = [(false,eval a X.env)]) L2.au1._auto_1) : PI X tg (.Call (.Name "range" p) [a] [] pos) (iRng1 ta):=by
 intro pins s σ H R I h
 refine Call_ (ld_blt I hg hm boot_range (PyProof.Rows.callWith_type1 (thn (ha pos pins s σ H _ I h) ?_) hs rfl))
 rintro us s1 ⟨vs,H1,I1,r1,q1⟩
 obtain ⟨j,e,q1,q2,q⟩:=q1
 subst e
 cases r1 with
 | cons r rr =>
  cases rr
  obtain ⟨t,rfl⟩:=r
  exact call_range_1 (range_it I1 (by omega) (by omega) q1 q2 (by simpa using q))
noncomputable def tFor (wi : TI) (g : TG) (tb : TS) : TS:=fun D σ H => wi σ H fun J H1 => ∃ W : Nat -> Nat -> St -> Hp -> Prop,(∃ m,W 0 m σ H1) /\ ∀ i m σ H,W i m σ H ->
 (J.stop i H /\ D.nx σ H) ∨ (J.go i H /\ ∃ N : St -> Hp -> Prop,(∀ σ' H',N σ' H' -> ∃ m',m' < m /\ W (i + 1) m' σ' H') /\ ∀ x H',J.yld i H x H' -> g x σ H' fun σ2 H2 => tb { D with nx:=N,ct:=N,bk:=D.nx } σ2 H2)
noncomputable def pinsAt (fp : List Addr) (h : Heap) : List (Addr × Obj):=fp.filterMap fun b => (h.get? b).map fun o => (b,o)
theorem mem_pinsAt {fp : List Addr} {h : Heap} {b : Addr} {o : Obj} (hb : b ∈ fp) (e : h.get? b = some o) : (b,o) ∈ pinsAt fp h:=List.mem_filterMap.mpr ⟨b,hb,by rw [e]; rfl⟩
theorem of_pinsAt {fp : List Addr} {h : Heap} {p : Addr × Obj} (hp : p ∈ pinsAt fp h) : p.1 ∈ fp /\ h.get? p.1 = some p.2:=by
 obtain ⟨b,hb,e⟩:=List.mem_filterMap.mp hp
 cases q : h.get? b with
 | none => rw [q] at e; cases e
 | some o =>
  rw [q] at e
  have e' : (b,o) = p:=Option.some.inj e
  subst e'
  exact ⟨hb,q⟩
theorem Inv.pinned {pins : List (Addr × Obj)} {σ : St} {H : Hp} {s : Shared} {fp : List Addr} (I : Inv X pins σ H s) (hf : ∀ b ∈ fp,FpOk X pins H b) (ho : ∀ b ∈ fp,∃ o,s.heap.get? b = some o /\ ∀ v,o.data ≠ .cell v) : Inv X (pins ++ pinsAt fp s.heap) σ H s :=
 I.pins_of fun p hp => (List.mem_append.mp hp).elim (fun z => I.pin p (List.mem_append_right _ z)) fun z => by
  obtain ⟨hb,e⟩:=of_pinsAt z
  obtain ⟨f0,f1,f2,_⟩:=hf p.1 hb
  obtain ⟨o,e',d⟩:=ho p.1 hb
  rw [e] at e'; cases e'
  exact ⟨e,f0,f1,f2,d⟩
theorem Inv.unpinned {pins pl : List (Addr × Obj)} {σ : St} {H : Hp} {s : Shared} (I : Inv X (pins ++ pl) σ H s) : Inv X pins σ H s:=I.pins_of fun p hp => I.pin p (List.mem_append_right _ (List.mem_append_left _ hp))
theorem ps_for {iter : Expr} {body : List Stmt} {wi : TI} {g : TG} {tb : TS} {pos : Pos} (hp : PassesOwn (model X.prog X.w) X.A X.env X.xe) (hc : X.calm = true) (hi : PI X tg iter wi) (hg : PG X tg g) (hb : PSs X body tb)
  (hs : autoParam (∀ x,foldedSetIterable iter X.env x = pure x) L2.au4._auto_1) : PS X (.For tg iter body [] pos) (tFor wi g tb):=by
 intro pins s σ H D I h
 refine wpAny_For (thn (hi pins s σ H _ I h) fun v s1 h1 => thn h1 fun itv s2 h2 => ?_) hs
 obtain ⟨it,fp,tn,J,H2,e,I2,T,st2,f2,W,⟨m0,w0⟩,turn⟩:=h2
 subst e
 have stat : ∀ {H' : Hp},(∀ b ∈ fp,H' b = none) -> ∀ b ∈ fp,FpOk X pins H' b:=fun hn b hb => ⟨hn b hb,(f2 b hb).2⟩
 refine codeAny_forLoop_any (fun n s' => ∃ i σ' H',Inv X pins σ' H' s' /\ tn i s'.heap /\ (∀ b ∈ fp,H' b = none) /\ W i n σ' H') ?_ m0 ⟨0,σ,H2,I2,st2,fun b hb => (f2 b hb).1,w0⟩
 rintro n s3 ⟨i,σ3,H3,I3,st3,fr3,w3⟩
 rcases turn i n σ3 H3 w3 with ⟨stop,qn⟩ | ⟨go,N,hN,step⟩
 ·refine wpAny_passesOwn hp (thn (T.done X rfl rfl rfl hc i pins s3 σ3 H3 X.xe I3 (stat fr3) st3 stop) ?_)
  rintro r s4 ⟨hr,I4⟩
  subst hr
  exact wpAny_execs_nil ⟨σ3,H3,I4,qn⟩
 ·refine wpAny_passesOwn hp (thn (T.item X rfl rfl rfl hc i pins s3 σ3 H3 X.xe I3 (stat fr3) st3 go) ?_)
  rintro r s4 ⟨u,hr,h4⟩
  subst hr
  refine wpAny_passesOwn hp (thn h4 ?_)
  rintro _ s5 ⟨x,H5,I5,r5,y5,st5,fr5⟩
  have I5':=I5.pinned (stat fr5) (T.obj _ _ st5)
  refine wpAny_passesOwn hp (thn (hg _ s5 σ3 H5 x u _ I5' r5 (step x H5 y5)) ?_)
  rintro _ s6 ⟨σ6,H6,I6,q6⟩
  refine wpAny_passesOwn hp (thn (hb _ s6 σ6 H6 _ I6 q6) fun f s7 q7 => ?_)
  have again : ∀ {σ7 : St} {H7 : Hp},Inv X (pins ++ pinsAt fp s5.heap) σ7 H7 s7 -> N σ7 H7 -> ∃ m,m < n /\ ∃ i σ' H',Inv X pins σ' H' s7 /\ tn i s7.heap /\ (∀ b ∈ fp,H' b = none) /\ W i m σ' H':=fun {σ7 H7} I7 n7 => by
   obtain ⟨m',hm,w7⟩:=hN σ7 H7 n7
   refine ⟨m',hm,i + 1,σ7,H7,I7.unpinned,T.keep _ _ _ st5 fun b hb o e => (I7.pin (b,o) (List.mem_append_right _ (List.mem_append_right _ (mem_pinsAt hb e)))).1,fun b hb => ?_,w7⟩
   obtain ⟨o,e,d⟩:=T.obj _ _ st5 b hb
   exact (I7.pin (b,o) (List.mem_append_right _ (List.mem_append_right _ (mem_pinsAt hb e)))).2.1
  cases f with
  | next => obtain ⟨σ7,H7,I7,n7⟩:=q7; exact again I7 n7
  | cont => obtain ⟨σ7,H7,I7,n7⟩:=q7; exact again I7 n7
  | brk => obtain ⟨σ7,H7,I7,q7⟩:=q7; exact ⟨σ7,H7,I7.unpinned,q7⟩
  | ret v => obtain ⟨x7,σ7,H7,I7,r7,q7⟩:=q7; exact ⟨x7,σ7,H7,I7.unpinned,r7,q7⟩
end
theorem for_list {K : PySem.W.Frag} {a : Addr} {xs : List V} {g : TG} {tb : TS} {D : Ends} {σ : St} {H : Hp} (Pv : Nat -> St -> Hp -> Prop) (h0 : Pv 0 σ H) (hl : ∀ i σ H,i <= xs.length -> Pv i σ H -> SqL K H a xs)
  (hs : ∀ i x σ H,xs[i]? = some x -> Pv i σ H -> g x σ H fun σ2 H2 => tb { D with nx:=Pv (i + 1),ct:=Pv (i + 1),bk:=D.nx } σ2 H2) (hd : ∀ σ H,Pv xs.length σ H -> D.nx σ H) :
  ∃ W : Nat -> Nat -> St -> Hp -> Prop,(∃ m,W 0 m σ H) /\ ∀ i m σ H,W i m σ H ->
   ((Itl K a).stop i H /\ D.nx σ H) ∨ ((Itl K a).go i H /\ ∃ N : St -> Hp -> Prop,(∀ σ' H',N σ' H' -> ∃ m',m' < m /\ W (i + 1) m' σ' H') /\ ∀ x H',(Itl K a).yld i H x H' -> g x σ H' fun σ2 H2 => tb { D with nx:=N,ct:=N,bk:=D.nx } σ2 H2):=by
 refine ⟨fun i m σ H => m = xs.length - i /\ i <= xs.length /\ Pv i σ H,⟨xs.length,by simp,Nat.zero_le _,h0⟩,?_⟩
 rintro i m σ H ⟨rfl,hi,p⟩
 have q:=hl i σ H hi p
 by_cases hlt : i < xs.length
 ·refine .inr ⟨⟨xs,xs[i],q,by simp [hlt]⟩,Pv (i + 1),fun σ' H' p' => ⟨xs.length - (i + 1),by omega,rfl,hlt,p'⟩,fun x H' y => ?_⟩
  obtain ⟨e,y⟩:=y
  subst e
  exact hs i x σ _ (y xs q) p
 ·have e : i = xs.length:=by omega
  subst e
  exact .inl ⟨⟨xs,q,Nat.le_refl _⟩,hd σ H p⟩
theorem for_tup {K : PySem.W.Frag} {a : Addr} {xs : List V} {g : TG} {tb : TS} {D : Ends} {σ : St} {H : Hp} (Pv : Nat -> St -> Hp -> Prop) (h0 : Pv 0 σ H) (hl : ∀ i σ H,i <= xs.length -> Pv i σ H -> SqT K H a xs)
  (hs : ∀ i x σ H,xs[i]? = some x -> Pv i σ H -> g x σ H fun σ2 H2 => tb { D with nx:=Pv (i + 1),ct:=Pv (i + 1),bk:=D.nx } σ2 H2) (hd : ∀ σ H,Pv xs.length σ H -> D.nx σ H) :
  ∃ W : Nat -> Nat -> St -> Hp -> Prop,(∃ m,W 0 m σ H) /\ ∀ i m σ H,W i m σ H ->
   ((Itt K a).stop i H /\ D.nx σ H) ∨ ((Itt K a).go i H /\ ∃ N : St -> Hp -> Prop,(∀ σ' H',N σ' H' -> ∃ m',m' < m /\ W (i + 1) m' σ' H') /\ ∀ x H',(Itt K a).yld i H x H' -> g x σ H' fun σ2 H2 => tb { D with nx:=N,ct:=N,bk:=D.nx } σ2 H2):=by
 refine ⟨fun i m σ H => m = xs.length - i /\ i <= xs.length /\ Pv i σ H,⟨xs.length,by simp,Nat.zero_le _,h0⟩,?_⟩
 rintro i m σ H ⟨rfl,hi,p⟩
 have q:=hl i σ H hi p
 by_cases hlt : i < xs.length
 ·refine .inr ⟨⟨xs,xs[i],q,by simp [hlt]⟩,Pv (i + 1),fun σ' H' p' => ⟨xs.length - (i + 1),by omega,rfl,hlt,p'⟩,fun x H' y => ?_⟩
  obtain ⟨e,y⟩:=y
  subst e
  exact hs i x σ _ (y xs q) p
 ·have e : i = xs.length:=by omega
  subst e
  exact .inl ⟨⟨xs,q,Nat.le_refl _⟩,hd σ H p⟩
theorem for_range {lo : Int} {n : Nat} {g : TG} {tb : TS} {D : Ends} {σ : St} {H : Hp} (Pv : Nat -> St -> Hp -> Prop) (h0 : Pv 0 σ H)
  (hs : ∀ i σ H,i < n -> Pv i σ H -> g (.int (lo + i)) σ H fun σ2 H2 => tb { D with nx:=Pv (i + 1),ct:=Pv (i + 1),bk:=D.nx } σ2 H2) (hd : ∀ σ H,Pv n σ H -> D.nx σ H) :
  ∃ W : Nat -> Nat -> St -> Hp -> Prop,(∃ m,W 0 m σ H) /\ ∀ i m σ H,W i m σ H ->
   ((Itr lo n).stop i H /\ D.nx σ H) ∨ ((Itr lo n).go i H /\ ∃ N : St -> Hp -> Prop,(∀ σ' H',N σ' H' -> ∃ m',m' < m /\ W (i + 1) m' σ' H') /\ ∀ x H',(Itr lo n).yld i H x H' -> g x σ H' fun σ2 H2 => tb { D with nx:=N,ct:=N,bk:=D.nx } σ2 H2):=by
 refine ⟨fun i m σ H => m = n - i /\ i <= n /\ Pv i σ H,⟨n,by simp,Nat.zero_le _,h0⟩,?_⟩
 rintro i m σ H ⟨rfl,hi,p⟩
 by_cases hlt : i < n
 ·refine .inr ⟨hlt,Pv (i + 1),fun σ' H' p' => ⟨n - (i + 1),by omega,rfl,hlt,p'⟩,fun x H' y => ?_⟩
  obtain ⟨e,y⟩:=y
  subst e y
  exact hs i σ _ hlt p
 ·have e : i = n:=by omega
  subst e
  exact .inl ⟨Nat.le_refl _,hd σ H p⟩
theorem while_by {c : TT} {tb : TS} {D : Ends} {σ : St} {H : Hp} (Pv : St -> Hp -> Prop) (μ : St -> Hp -> Nat) (h0 : Pv σ H)
  (hs : ∀ σ H,Pv σ H -> c σ H fun b H1 => if b = true then tb { D with nx:=fun σ' H' => Pv σ' H' /\ μ σ' H' < μ σ H,ct:=fun σ' H' => Pv σ' H' /\ μ σ' H' < μ σ H,bk:=D.nx } σ H1 else D.nx σ H1)
  (mono : ∀ σ H Q Q',(∀ b H1,Q b H1 -> Q' b H1) -> c σ H Q -> c σ H Q') : tWhile c tb D σ H:=by
 refine ⟨fun m σ H => m = μ σ H /\ Pv σ H,⟨_,rfl,h0⟩,?_⟩
 rintro m σ H ⟨rfl,p⟩
 refine mono σ H _ _ (fun b H1 q => ?_) (hs σ H p)
 cases b with
 | true => exact ⟨_,fun σ' H' ⟨p',l⟩ => ⟨_,l,rfl,p'⟩,q⟩
 | false => exact q
end L2
namespace L2
open PySem PySem.Spec PyProof.Rows
noncomputable abbrev R2:=V -> V -> Hp -> VK -> Prop
noncomputable def OpR (X : Cx) (f : Value -> Value -> Sem Value) (r : R2) : Prop :=
 ∀ (pins : List (Addr × Obj)) (s : Shared) (σ : St) (H : Hp) (x y : V) (v u : Value) (Q : VK),Inv X pins σ H s -> RelV x v -> RelV y u -> r x y H Q ->
  wpAny (model X.prog X.w) X.A (f v u) (EP X pins σ Q) X.xe s
noncomputable def CallR (X : Cx) (f : Value) (r : List V -> Hp -> VK -> Prop) : Prop :=
 ∀ (pins : List (Addr × Obj)) (s : Shared) (σ : St) (H : Hp) (xs : List V) (us : List Value) (Q : VK),Inv X pins σ H s -> Vals xs us -> r xs H Q ->
  wpAny (model X.prog X.w) X.A (call f us) (EP X pins σ Q) X.xe s
noncomputable def tOp (r : R2) (ta tb : TE) : TE:=fun σ H Q => ta σ H fun x H1 => tb σ H1 fun y H2 => r x y H2 Q
inductive RI (C : Int -> Int -> Prop) (g : Int -> Int -> V) (x y : V) (H : Hp) (Q : VK) : Prop where | mk (i j : Int) (ex : x = .int i) (ey : y = .int j) (c : C i j) (q : Q (g i j) H) : RI C g x y H Q
noncomputable def rI (C : Int -> Int -> Prop) (g : Int -> Int -> V) : R2:=fun x y H Q => RI C g x y H Q
inductive RI0 (g : Int -> Int -> V) (x y : V) (H : Hp) (Q : VK) : Prop where | mk (i j : Int) (ex : x = .int i) (ey : y = .int j) (q : Q (g i j) H) : RI0 g x y H Q
noncomputable def rI0 (g : Int -> Int -> V) : R2:=fun x y H Q => RI0 g x y H Q
section
variable {X : Cx} {a b c : Expr} {ta tb tc : TE} {pos : Pos}
theorem binT (ha : PE X a ta) (hb : PE X b tb) {pins : List (Addr × Obj)} {s : Shared} {σ : St} {H : Hp} {R : V -> V -> Hp -> Prop} (I : Inv X pins σ H s)
  (h : ta σ H fun x H1 => tb σ H1 fun y H2 => R x y H2) {Q : Value -> Shared -> Prop} {f : Value -> Value -> Sem Value}
  (hf : ∀ v u s2 x y H2,Inv X pins σ H2 s2 -> RelV x v -> RelV y u -> R x y H2 -> wpAny (model X.prog X.w) X.A (f v u) Q X.xe s2) :
  wpAny (model X.prog X.w) X.A (eval a X.env) (fun v s₁ => wpAny (model X.prog X.w) X.A (eval b X.env) (fun u s₂ => wpAny (model X.prog X.w) X.A (f v u) Q X.xe s₂) X.xe s₁) X.xe s:=by
 refine thn (ha pins s σ H _ I h) ?_
 rintro v s1 ⟨x,H1,I1,r1,q1⟩
 refine thn (hb pins s1 σ H1 _ I1 q1) ?_
 rintro u s2 ⟨y,H2,I2,r2,q2⟩
 exact hf v u s2 x y H2 I2 r1 r2 q2
theorem pe_op {op : Operator} {r : R2} (ho : OpR X (binaryOp op) r) (ha : PE X a ta) (hb : PE X b tb) : PE X (.BinOp a op b pos) (tOp r ta tb):=by
 intro pins s σ H Q I h
 exact wpAny_BinOp (binT ha hb I h fun v u s2 x y H2 I2 rx ry q => ho pins s2 σ H2 x y v u Q I2 rx ry q)
theorem opI {f : Value -> Value -> Sem Value} {C : Int -> Int -> Prop} {g : Int -> Int -> Int}
  (rule : ∀ (i j : Int) (t u : Tok) (s : Shared) (Q : Value -> Shared -> Prop) (E : Value -> Shared -> Prop),C i j -> Q (.int (g i j) s.toks) { s with toks:=s.toks + 1 } -> wpAny (model X.prog X.w) X.A (f (.int i t) (.int j u)) Q E s) :
  OpR X f (rI C fun i j => .int (g i j)):=by
 intro pins s σ H x y v u Q I rx ry h
 obtain ⟨i,j,rfl,rfl,hc,q⟩:=h
 obtain ⟨t,rfl⟩:=rx
 obtain ⟨t',rfl⟩:=ry
 exact rule i j t t' s _ _ hc ⟨.int (g i j),H,I.tok _,⟨_,rfl⟩,q⟩
theorem opI0 {f : Value -> Value -> Sem Value} {g : Int -> Int -> Int}
  (rule : ∀ (i j : Int) (t u : Tok) (s : Shared) (Q : Value -> Shared -> Prop) (E : Value -> Shared -> Prop),Q (.int (g i j) s.toks) { s with toks:=s.toks + 1 } -> wpAny (model X.prog X.w) X.A (f (.int i t) (.int j u)) Q E s) :
  OpR X f (rI0 fun i j => .int (g i j)):=by
 intro pins s σ H x y v u Q I rx ry h
 obtain ⟨i,j,rfl,rfl,q⟩:=h
 obtain ⟨t,rfl⟩:=rx
 obtain ⟨t',rfl⟩:=ry
 exact rule i j t t' s _ _ ⟨.int (g i j),H,I.tok _,⟨_,rfl⟩,q⟩
theorem opB0 {f : Value -> Value -> Sem Value} {g : Int -> Int -> Bool}
  (rule : ∀ (i j : Int) (t u : Tok) (s : Shared) (Q : Value -> Shared -> Prop) (E : Value -> Shared -> Prop),Q (.bool (g i j)) s -> wpAny (model X.prog X.w) X.A (f (.int i t) (.int j u)) Q E s) :
  OpR X f (rI0 fun i j => .bl (g i j)):=by
 intro pins s σ H x y v u Q I rx ry h
 obtain ⟨i,j,rfl,rfl,q⟩:=h
 obtain ⟨t,rfl⟩:=rx
 obtain ⟨t',rfl⟩:=ry
 exact rule i j t t' s _ _ ⟨.bl (g i j),H,I,rfl,q⟩
noncomputable def CDiv (i j : Int) : Prop:=0 < j /\ j < 1073741824
noncomputable def CMul (i j : Int) : Prop:=(-(2 ^ 64) < i /\ i < 2 ^ 64) ∨ (-(2 ^ 64) < j /\ j < 2 ^ 64)
theorem CMul.ok {i j : Int} (h : CMul i j) : IntMulOk i j:=by
 rcases h with ⟨h1,h2⟩ | ⟨h1,h2⟩
 ·exact .of_left (intBits_le_64 h1 h2)
 ·exact .of_right (intBits_le_64 h1 h2)
theorem op_add : OpR X (binaryOp .Add) (rI0 fun i j => .int (i + j)):=opI0 fun _ _ _ _ _ _ _ q => add_int q
theorem op_mul : OpR X (binaryOp .Mult) (rI CMul fun i j => .int (i * j)):=opI fun _ _ _ _ _ _ _ hc q => mul_int q hc.ok
theorem op_fdiv : OpR X (binaryOp .FloorDiv) (rI CDiv fun i j => .int (i / j)):=opI fun i j _ _ _ _ _ hc q => by
 have h1 : (0 : Int) < j:=hc.1
 have h2 : j < 1073741824:=hc.2
 exact floordiv_int (by omega) (by rw [Int.fdiv_eq_ediv_of_nonneg i (by omega)]; exact q) (.inl (PyProof.noPylong_small (by omega)))
theorem op_mod : OpR X (binaryOp .Mod) (rI (fun _ j => 0 < j) fun i j => .int (i % j)):=opI fun i j _ _ _ _ _ hc q => by
 have h1 : (0 : Int) < j:=hc
 exact mod_int' (by omega) (by rw [Int.fmod_eq_emod_of_nonneg i (by omega)]; exact q)
end
noncomputable def scal : V -> V -> Bool
 | .non,.non => true | .non,.int _ => true | .int _,.non => true | .non,.bl _ => true | .bl _,.non => true | .non,.str _ => true | .str _,.non => true
 | .int _,.int _ => true | .bl _,.bl _ => true | .str _,.str _ => true | .byt _,.byt _ => true
 | .int _,.str _ => true | .str _,.int _ => true | .bl _,.str _ => true | .str _,.bl _ => true
 | _,_ => false
inductive REq (x y : V) (H : Hp) (Q : VK) : Prop where | mk (s : scal x y = true) (q : Q (.bl (decide (x = y))) H) : REq x y H Q
noncomputable def rEq : R2:=fun x y H Q => REq x y H Q
inductive RNe (x y : V) (H : Hp) (Q : VK) : Prop where | mk (s : scal x y = true) (q : Q (.bl (!decide (x = y))) H) : RNe x y H Q
noncomputable def rNe : R2:=fun x y H Q => RNe x y H Q
theorem dec_int {i j : Int} : decide (V.int i = V.int j) = (i == j):=by
 rw [Bool.eq_iff_iff]
 simp
theorem dec_bl {i j : Bool} : decide (V.bl i = V.bl j) = (i == j):=by
 rw [Bool.eq_iff_iff]
 simp
theorem dec_str {i j : Str} : decide (V.str i = V.str j) = (i == j):=by
 rw [Bool.eq_iff_iff]
 simp
theorem dec_byt {i j : Array UInt8} : decide (V.byt i = V.byt j) = (i.toList == j.toList):=by
 rw [Bool.eq_iff_iff]
 cases i
 cases j
 simp
section
variable {X : Cx} {a b c : Expr} {ta tb tc : TE} {pos : Pos}
theorem fin_bl {pins : List (Addr × Obj)} {σ : St} {H : Hp} {s : Shared} {Q : VK} {k k' : Bool} (I : Inv X pins σ H s) (q : Q (.bl k) H) (e : k = k') : EP X pins σ Q (.bool k') s:=by
 subst e
 exact ⟨.bl k,H,I,rfl,q⟩
theorem op_eq : OpR X (compareOp .Eq) rEq:=by
 intro pins s σ H x y v u Q I rx ry h
 obtain ⟨hs,q⟩:=h
 cases x with
 | non =>
  cases rx
  cases y with
  | non => cases ry; exact PySem.EqNone.eq_none_none (fin_bl I q (by simp))
  | bl j => cases ry; exact PySem.EqNone.eq_none_bool (fin_bl I q (by simp))
  | int j => obtain ⟨t',rfl⟩:=ry; exact PySem.EqNone.eq_none_int (fin_bl I q (by simp))
  | str j => obtain ⟨t',rfl⟩:=ry; exact PySem.EqNone.eq_none_str (fin_bl I q (by simp))
  | _ => exact absurd (show false = true from hs) Bool.false_ne_true
 | bl i =>
  cases rx
  cases y with
  | non => cases ry; exact PySem.EqNone.eq_bool_none (fin_bl I q (by simp))
  | bl j => cases ry; exact eq_bool (fin_bl I q dec_bl)
  | str j => obtain ⟨t',rfl⟩:=ry; exact PySem.EqMixed.eq_bool_str (fin_bl I q (by simp))
  | _ => exact absurd (show false = true from hs) Bool.false_ne_true
 | int i =>
  obtain ⟨t,rfl⟩:=rx
  cases y with
  | non => cases ry; exact PySem.EqNone.eq_int_none (fin_bl I q (by simp))
  | int j => obtain ⟨t',rfl⟩:=ry; exact eq_int (fin_bl I q dec_int)
  | str j => obtain ⟨t',rfl⟩:=ry; exact PySem.EqMixed.eq_int_str (fin_bl I q (by simp))
  | _ => exact absurd (show false = true from hs) Bool.false_ne_true
 | str i =>
  obtain ⟨t,rfl⟩:=rx
  cases y with
  | non => cases ry; exact PySem.EqNone.eq_str_none (fin_bl I q (by simp))
  | bl j => cases ry; exact PySem.EqMixed.eq_str_bool (fin_bl I q (by simp))
  | int j => obtain ⟨t',rfl⟩:=ry; exact PySem.EqMixed.eq_str_int (fin_bl I q (by simp))
  | str j => obtain ⟨t',rfl⟩:=ry; exact eq_str (fin_bl I q dec_str)
  | _ => exact absurd (show false = true from hs) Bool.false_ne_true
 | byt i =>
  obtain ⟨t,rfl⟩:=rx
  cases y with
  | byt j => obtain ⟨t',rfl⟩:=ry; exact PySem.W.eq_bytes (fin_bl I q dec_byt)
  | _ => exact absurd (show false = true from hs) Bool.false_ne_true
 | _ => cases y <;> exact absurd (show false = true from hs) Bool.false_ne_true
theorem op_ne : OpR X (compareOp .NotEq) rNe:=by
 intro pins s σ H x y v u Q I rx ry h
 obtain ⟨hs,q⟩:=h
 cases x with
 | non =>
  cases rx
  cases y with
  | non => cases ry; exact PySem.EqNone.ne_none_none (fin_bl I q (by simp))
  | bl j => cases ry; exact PySem.EqNone.ne_none_bool (fin_bl I q (by simp))
  | int j => obtain ⟨t',rfl⟩:=ry; exact PySem.EqNone.ne_none_int (fin_bl I q (by simp))
  | str j => obtain ⟨t',rfl⟩:=ry; exact PySem.EqNone.ne_none_str (fin_bl I q (by simp))
  | _ => exact absurd (show false = true from hs) Bool.false_ne_true
 | bl i =>
  cases rx
  cases y with
  | non => cases ry; exact PySem.EqNone.ne_bool_none (fin_bl I q (by simp))
  | bl j => cases ry; exact ne_bool (fin_bl I q (congrArg not dec_bl))
  | str j => obtain ⟨t',rfl⟩:=ry; exact PySem.EqMixed.ne_bool_str (fin_bl I q (by simp))
  | _ => exact absurd (show false = true from hs) Bool.false_ne_true
 | int i =>
  obtain ⟨t,rfl⟩:=rx
  cases y with
  | non => cases ry; exact PySem.EqNone.ne_int_none (fin_bl I q (by simp))
  | int j => obtain ⟨t',rfl⟩:=ry; exact ne_int (fin_bl I q (congrArg not dec_int))
  | str j => obtain ⟨t',rfl⟩:=ry; exact PySem.EqMixed.ne_int_str (fin_bl I q (by simp))
  | _ => exact absurd (show false = true from hs) Bool.false_ne_true
 | str i =>
  obtain ⟨t,rfl⟩:=rx
  cases y with
  | non => cases ry; exact PySem.EqNone.ne_str_none (fin_bl I q (by simp))
  | bl j => cases ry; exact PySem.EqMixed.ne_str_bool (fin_bl I q (by simp))
  | int j => obtain ⟨t',rfl⟩:=ry; exact PySem.EqMixed.ne_str_int (fin_bl I q (by simp))
  | str j => obtain ⟨t',rfl⟩:=ry; exact ne_str (fin_bl I q (congrArg not dec_str))
  | _ => exact absurd (show false = true from hs) Bool.false_ne_true
 | byt i =>
  obtain ⟨t,rfl⟩:=rx
  cases y with
  | byt j => obtain ⟨t',rfl⟩:=ry; exact PySem.W.ne_bytes (fin_bl I q (congrArg not dec_byt))
  | _ => exact absurd (show false = true from hs) Bool.false_ne_true
 | _ => cases y <;> exact absurd (show false = true from hs) Bool.false_ne_true
theorem op_lt : OpR X (compareOp .Lt) (rI0 fun i j => .bl (decide (i < j))):=opB0 fun _ _ _ _ _ _ _ q => lt_int q
theorem op_le : OpR X (compareOp .LtE) (rI0 fun i j => .bl (decide (i <= j))):=opB0 fun _ _ _ _ _ _ _ q => le_int q
theorem op_gt : OpR X (compareOp .Gt) (rI0 fun i j => .bl (decide (j < i))):=opB0 fun _ _ _ _ _ _ _ q => gt_int q
theorem op_ge : OpR X (compareOp .GtE) (rI0 fun i j => .bl (decide (j <= i))):=opB0 fun _ _ _ _ _ _ _ q => ge_int q
theorem op_isN : OpR X (compareOp .Is) (fun x y H Q => y = .non /\ Q (.bl (decide (x = .non))) H):=by
 intro pins s σ H x y v u Q I rx ry h
 obtain ⟨rfl,q⟩:=h
 cases ry
 refine is_none_gen (fin_bl I q ?_)
 cases x <;> first
  | (cases rx; rfl)
  | (obtain ⟨t,rfl⟩:=rx; rfl)
theorem op_notN : OpR X (compareOp .IsNot) (fun x y H Q => y = .non /\ Q (.bl (!decide (x = .non))) H):=by
 intro pins s σ H x y v u Q I rx ry h
 obtain ⟨rfl,q⟩:=h
 cases ry
 refine isnot_none_gen (fin_bl I q ?_)
 cases x <;> first
  | (cases rx; rfl)
  | (obtain ⟨t,rfl⟩:=rx; rfl)
theorem nomark (b : Expr) {op : CmpOp} (h : autoParam (op ≠ .In) L2.au3._auto_1) (h2 : autoParam (op ≠ .NotIn) L2.au3._auto_1) : behindInMarks op b = false:=by
 have e1 : (op == CmpOp.In) = false:=by cases op <;> first | rfl | exact absurd rfl h
 have e2 : (op == CmpOp.NotIn) = false:=by cases op <;> first | rfl | exact absurd rfl h2
 cases b <;> simp [behindInMarks,e1,e2]
theorem pe_cmpR {op : CmpOp} {r : R2} (ho : OpR X (compareOp op) r) (ha : PE X a ta) (hb : PE X b tb) (hm : behindInMarks op b = false) : PE X (.Compare a [op] [b] pos) (tOp r ta tb):=by
 intro pins s σ H Q I h
 exact wpAny_Compare1 (binT ha hb I h fun v u s2 x y H2 I2 rx ry q => ho pins s2 σ H2 x y v u Q I2 rx ry q) hm
noncomputable def tTest (t : TE) : TT:=fun σ H Q => t σ H fun x H' => IsBl x H' Q
theorem pt_cmpR {op : CmpOp} {r : R2} (ho : OpR X (compareOp op) r) (ha : PE X a ta) (hb : PE X b tb) (hm : behindInMarks op b = false) : PT X (.Compare a [op] [b] pos) (tTest (tOp r ta tb)):=by
 intro pins s σ H Q I h
 refine wpAny_isTrue_Compare1 (thn (ha pins s σ H _ I h) fun v s1 ⟨x,H1,I1,r1,q1⟩ => thn (hb pins s1 σ H1 _ I1 q1) fun u s2 ⟨y,H2,I2,r2,q2⟩ =>
  thn (ho pins s2 σ H2 x y v u _ I2 r1 r2 q2) fun c s3 ⟨z,H3,I3,r3,k,e,q3⟩ => ?_) hm
 subst e
 cases r3
 exact wpAny_truthy_bool ⟨H3,I3,q3⟩
noncomputable def tChain (r r' : R2) (ta tb tc : TE) : TE:=fun σ H Q => ta σ H fun x H1 => tb σ H1 fun y H2 => r x y H2 fun z H3 => ∃ k,z = .bl k /\
 (if k = true then tc σ H3 fun w' H4 => r' y w' H4 Q else Q (.bl false) H3)
theorem pt_chain {op op' : CmpOp} {r r' : R2} (ho : OpR X (compareOp op) r) (ho' : OpR X (compareOp op') r') (ha : PE X a ta) (hb : PE X b tb) (hc : PE X c tc)
  (hm : lastMarks [op,op'] [b,c] = false:=by with_unfolding_all rfl) : PT X (.Compare a [op,op'] [b,c] pos) (tTest (tChain r r' ta tb tc)):=by
 intro pins s σ H Q I h
 refine isTrue_chain (thn (ha pins s σ H _ I h) fun v s1 ⟨x,H1,I1,r1,q1⟩ => test_link (thn (hb pins s1 σ H1 _ I1 q1) fun u s2 ⟨y,H2,I2,r2,q2⟩ =>
  thn (ho pins s2 σ H2 x y v u _ I2 r1 r2 q2) fun d s3 ⟨z,H3,I3,r3,k,e,q3⟩ => ?_)) hm
 subst e
 cases r3
 refine wpAny_truthy_bool ?_
 cases k with
 | false =>
  obtain ⟨k',e',q'⟩:=q3
  cases e'
  exact ite_ff ⟨H3,I3,q'⟩
 | true =>
  refine ite_tt (test_last (thn (hc pins s3 σ H3 _ I3 q3) ?_))
  rintro w' s4 ⟨z',H4,I4,r4,q4⟩
  refine thn (ho' pins s4 σ H4 y z' u w' _ I4 r2 r4 q4) ?_
  rintro d' s5 ⟨z2,H5,I5,r5,k2,e2,q5⟩
  subst e2
  cases r5
  exact wpAny_truthy_bool ⟨H5,I5,q5⟩
theorem line63 : (sizeLine : Nat) < 2 ^ 63:=by rw [sizeLine_eq]; decide
theorem vals1 {x : V} {us : List Value} (r : Vals [x] us) : ∃ u,us = [u] /\ RelV x u:=by
 cases r with
 | cons r1 r2 => cases r2; exact ⟨_,rfl,r1⟩
theorem vals2 {x y : V} {us : List Value} (r : Vals [x,y] us) : ∃ u w',us = [u,w'] /\ RelV x u /\ RelV y w':=by
 cases r with
 | cons r1 r2 =>
  cases r2 with
  | cons r3 r4 => cases r4; exact ⟨_,_,rfl,r1,r3⟩
theorem call_max2 (hc : X.calm = true) : CallR X (.builtin "max") (fun xs H Q => ∃ i j,xs = [.int i,.int j] /\ Q (.int (if j > i then j else i)) H):=by
 intro pins s σ H xs us Q I r h
 obtain ⟨i,j,rfl,q⟩:=h
 obtain ⟨u,w',rfl,⟨t,rfl⟩,⟨t',rfl⟩⟩:=vals2 r
 refine max_two_ints (I.ok.hd hc) fun h' tk k => ⟨_,H,I.kept k,?_,q⟩
 by_cases hj : j > i
 ·rw [if_pos hj,if_pos hj]; exact ⟨_,rfl⟩
 ·rw [if_neg hj,if_neg hj]; exact ⟨_,rfl⟩
end
end L2
namespace L2
open PySem PySem.Spec PyProof.Rows
structure ObjM (h : Heap) (x dx C : Addr) (mA : Str -> Option Value) : Prop where
 obj : h.get? x = some (PySem.W.instObj C dx)
 ns : h.Ns1 dx mA
 ne : dx ≠ x
theorem lookIn_ns {h : Heap} {dx : Addr} {mA : Str -> Option Value} (n : h.Ns1 dx mA) : ∃ od,h.get? dx = some od /\ ∀ name,PySem.W.lookIn name od = some (mA name):=by
 obtain ⟨o,es,ep,ho,hd,hk,_,hm⟩:=n
 refine ⟨o,ho,fun name => ?_⟩
 have e:=hm name
 unfold nsFind findBy at e
 rw [<- Array.find?_toList] at e
 unfold PySem.W.lookIn
 rw [hd]
 dsimp only
 split
 ·rename_i y q
  rw [q] at e
  exact congrArg some e
 ·rename_i q
  rw [q] at e
  have a : es.toList.any (·.refKey) = false:=by
   rw [List.any_eq_false]
   intro y hy
   obtain ⟨z,t,hkey⟩:=hk y (Array.mem_toList_iff.mp hy)
   simp [DictEntry.refKey,hkey]
  have a' : ¬ es.toList.any (·.refKey) = true:=by rw [a]; exact Bool.false_ne_true
  rw [if_neg a']
  exact congrArg some e
theorem ObjM.look {h : Heap} {x dx C : Addr} {mA : Str -> Option Value} (I : ObjM h x dx C mA) : ∃ od,PySem.W.InstAt h x (PySem.W.instObj C dx) C (some od) /\ ∀ name,PySem.W.lookIn name od = some (mA name) :=
 let ⟨od,ho,hl⟩:=lookIn_ns I.ns
 ⟨od,⟨I.obj,rfl,rfl,ho⟩,hl⟩
section
variable {prog : Program} {w : World} {A : Around} {E : Value -> Shared -> Prop} {s : Shared} {K : PySem.W.Frag} {x dx C f : Addr} {mA : Str -> Option Value} {name : Str} {v : Value}
theorem get_map {expr : Bool} {Q : Value -> Shared -> Prop} (X : K.In s.heap) (I : ObjM s.heap x dx C mA) (hg : PySem.W.plainGet K C name = true) (hh : PySem.W.hasDictIn K C = true)
  (ha : PySem.W.findIn K (.ref C) name = some none) (hv : mA name = some v) (hv' : PySem.W.handedIn v = true) (h : Q v { s with toks:=s.toks + 1 }) :
  wpAny (model prog w) A (getAttr (.ref x) name expr) Q E s:=by
 obtain ⟨od,J,hl⟩:=I.look
 exact PySem.W.get_value X J (PySem.W.plainGet_of hg).1 (PySem.W.findObj_own hh ha rfl (by rw [hl,hv])) hv' h
theorem get_meth {pl : Sem Bool} {Q : Value × List Value -> Shared -> Prop} (X : K.In s.heap) (I : ObjM s.heap x dx C mA) (hg : PySem.W.plainGet K C name = true)
  (hf : PySem.W.findIn K (.ref C) name = some (some (.ref f))) (ht : PySem.W.isFn K (.ref f) = true) (hv : mA name = none) (h : Q (.ref f,[.ref x]) s) :
  wpAny (model prog w) A (getMethod (.ref x) name pl) Q E s:=by
 obtain ⟨od,J,hl⟩:=I.look
 exact PySem.W.method_fn X J (PySem.W.plainGet_of hg).1 (PySem.W.plainGet_of hg).2 hf (beq_iff_eq.mp ht) (by show (PySem.W.lookIn name od).map (·.isSome) = some false; rw [hl,hv]; rfl) h
theorem set_map {ns : List Str} {Q : Unit -> Shared -> Prop} (X : K.In s.heap) (I : ObjM s.heap x dx C mA)
  (hs : PySem.W.findIn K (.ref C) "__setattr__" = some (some (.builtin "object.__setattr__"))) (hp : PySem.W.plainOver K C = true) (ht : PySem.W.takerIn K C name = some none) (hh : PySem.W.hasDictIn K C = true)
  (hw : PySem.Within mA ns) (hsz : ns.length <= sizeLine)
  (h : ∀ h',ObjM h' x dx C (fun y => if y = name then some v else mA y) -> Heap.SameBut dx s.heap h' -> Q () { s with heap:=h',toks:=s.toks + 2 }) :
  wpAny (model prog w) A (setAttr (.ref x) name v) Q E s:=by
 obtain ⟨od,J,hl⟩:=I.look
 refine PySem.W.set_plain X J hs (PySem.W.osa_open (s:={ s with toks:=s.toks + 1 }) (r:=none) X J hp ht fun b => ?_)
 obtain ⟨cd,hc,hd'⟩:=PySem.W.any_some hh
 have hx : s.heap.get? x = some ⟨.ref C,some dx,.plain,#[]⟩:=I.obj
 refine wpAny_bind (wpAny_pure (wpAny_bind (wpAny_bind (wpAny_loadPart hx (wpAny_bind (PySem.W.Looks.here (s:={ s with toks:=s.toks + 1 }) (PySem.W.looks_clsIn X hc) ?_))))))
 rw [hd']
 refine wpAny_pure (a:=some dx) (wpAny_bind (wpAny_pure (wpAny_bind ?_)))
 refine wpAny_nsSet1 (s:={ s with toks:=s.toks + 1 }) I.ns fun h' hn2 hs2 => ?_
 obtain ⟨oD,esD,epD,hoD,hdD,hcD⟩:=hn2.count (PySem.Within.cons name v hw)
 refine wpAny_bind (wpAny_lookBehind hoD (by rw [hdD]; exact pastItsLine_dict (Nat.le_trans hcD (by rw [List.length_cons]; omega))) ?_)
 exact wpAny_pure (h _ ⟨(hs2.2 _ (Ne.symm I.ne)).trans I.obj,hn2,I.ne⟩ hs2)
theorem make_map {R : Result -> Shared -> Prop} {vs : List Value} {kw : List (Str × Value)} (X : K.In s.heap) (hm : PySem.W.makesIn K C = true)
  (hi : PySem.W.findIn K (.ref C) "__init__" = some (some (.ref f))) (hf : PySem.W.typeIn K (.ref f) = some (.type "function"))
  (h : codeAny (model prog w) (A.under (.builtin "type.__call__" ⟨.ref C :: vs,kw⟩)) (.call (.ref f) ⟨.ref (s.heap.objs.size + 1) :: vs,kw⟩) (PySem.W.InitBack (s.heap.objs.size + 1) R)
   { s with heap:=(s.heap.push PySem.W.emptyDict).push (PySem.W.instObj C s.heap.objs.size) }) :
  codeAny (model prog w) A (.call (.ref C) ⟨vs,kw⟩) R s:=by
 obtain ⟨hh,g,d,t,os⟩:=s
 exact PySem.W.make_core (PySem.W.makes_of X hm) (PySem.W.looks_findIn X hi) (fun self => PySem.W.bind_fn X self hf) (.inl rfl) h
end
noncomputable def putF (f : Str) (v : V) : List (Str × V) -> List (Str × V)
 | [] => [(f,v)]
 | (g,x) :: r => if g = f then (g,v) :: r else (g,x) :: putF f v r
theorem lookup_putF (f g : Str) (v : V) : ∀ fs : List (Str × V),(putF f v fs).lookup g = if g = f then some v else fs.lookup g
 | [] => by
  show List.lookup g [(f,v)] = _
  by_cases h : g = f
  ·have hb : (g == f) = true:=beq_iff_eq.mpr h
   simp only [List.lookup,hb,if_pos h]
  ·have hb : (g == f) = false:=beq_eq_false_iff_ne.mpr h
   simp only [List.lookup,hb,if_neg h]
 | (k,x) :: r => by
  have ih:=lookup_putF f g v r
  rw [show putF f v ((k,x) :: r) = (if k = f then (k,v) :: r else (k,x) :: putF f v r) from rfl]
  by_cases hk : k = f
  ·rw [if_pos hk]
   by_cases h : g = k
   ·have hb : (g == k) = true:=beq_iff_eq.mpr h
    simp only [List.lookup,hb,if_pos (h.trans hk)]
   ·have hb : (g == k) = false:=beq_eq_false_iff_ne.mpr h
    simp only [List.lookup,hb,if_neg (fun e : g = f => h (e.trans hk.symm))]
  ·rw [if_neg hk]
   by_cases h : g = k
   ·have hb : (g == k) = true:=beq_iff_eq.mpr h
    simp only [List.lookup,hb,if_neg (fun e : g = f => hk (h.symm.trans e))]
   ·have hb : (g == k) = false:=beq_eq_false_iff_ne.mpr h
    simp only [List.lookup,hb]
    exact ih
theorem keys_putF (f : Str) (v : V) : ∀ fs : List (Str × V),f ∈ (putF f v fs).map (·.1) /\ ∀ g,g ∈ fs.map (·.1) -> g ∈ (putF f v fs).map (·.1)
 | [] => ⟨by simp [putF],fun g h => by simp at h⟩
 | (k,x) :: r => by
  obtain ⟨i1,i2⟩:=keys_putF f v r
  rw [show putF f v ((k,x) :: r) = (if k = f then (k,v) :: r else (k,x) :: putF f v r) from rfl]
  by_cases hk : k = f
  ·rw [if_pos hk]
   subst hk
   exact ⟨by simp,fun g h => by simpa using h⟩
  ·rw [if_neg hk]
   refine ⟨?_,fun g h => ?_⟩
   ·rw [List.map_cons]
    exact List.mem_cons_of_mem _ i1
   ·rw [List.map_cons] at h ⊢
    rcases List.mem_cons.mp h with e | e
    ·exact List.mem_cons.mpr (.inl e)
    ·exact List.mem_cons_of_mem _ (i2 g e)
theorem length_putF (f : Str) (v : V) : ∀ fs : List (Str × V),(putF f v fs).length <= fs.length + 1
 | [] => by simp [putF]
 | (k,x) :: r => by
  have ih:=length_putF f v r
  rw [show putF f v ((k,x) :: r) = (if k = f then (k,v) :: r else (k,x) :: putF f v r) from rfl]
  by_cases hk : k = f
  ·rw [if_pos hk,List.length_cons,List.length_cons]; omega
  ·rw [if_neg hk,List.length_cons,List.length_cons]; omega
theorem RelO.some_of {v : V} {o : Option Value} (r : RelO (some v) o) : ∃ u,o = some u /\ RelV v u:=by
 cases o with
 | none => exact (show False from r).elim
 | some u => exact ⟨u,rfl,r⟩
theorem RelO.none_of {o : Option Value} (r : RelO none o) : o = none:=by
 cases o with
 | none => rfl
 | some u => exact (show False from r).elim
theorem handed_of {v : V} {u : Value} (r : RelV v u) : PySem.W.handedIn u = true:=by
 cases v with
 | non => cases (show u = Value.none from r); rfl
 | bl b => cases (show u = Value.bool b from r); rfl
 | int i => obtain ⟨t,e⟩:=(show ∃ t,u = Value.int i t from r); cases e; rfl
 | str x => obtain ⟨t,e⟩:=(show ∃ t,u = Value.str x t from r); cases e; rfl
 | byt b => obtain ⟨t,e⟩:=(show ∃ t,u = Value.bytes b t from r); cases e; rfl
 | flt b => obtain ⟨t,e⟩:=(show ∃ t,u = Value.float b t from r); cases e; rfl
 | ref a => cases (show u = Value.ref a from r); rfl
 | ty n => cases (show u = Value.type n from r); rfl
section
variable {P : Program} {w : World} {H H' : Hp} {h h' : Heap} {a C dx : Addr} {fs fs' : List (Str × V)}
theorem ins_get (hok : HOk P w H h) (e : H a = some (.ins C dx fs)) : ∃ mA,ObjM h a dx C mA /\ (∀ f,RelO (fs.lookup f) (mA f)) /\ PySem.Within mA (fs.map (·.1)) /\ fs.length <= 1000 /\ H dx = some (.own a):=by
 obtain ⟨d,z,ne,ob,mA,n,r,q⟩:=(show ObjOk P w H h a (.ins C dx fs) from hok a _ e)
 exact ⟨mA,⟨ob,n,ne⟩,r,q,z,d⟩
end
structure Cls (K : PySem.W.Frag) (C : Addr) : Prop where
 pg : PySem.W.plainGet K C Str.empty = true
 hd : PySem.W.hasDictIn K C = true
 po : PySem.W.plainOver K C = true
 sa : PySem.W.findIn K (.ref C) "__setattr__" = some (some (.builtin "object.__setattr__"))
theorem Cls.get {K : PySem.W.Frag} {C : Addr} (c : Cls K C) (f : Str) : PySem.W.plainGet K C f = true:=c.pg
noncomputable def NoAttr (K : PySem.W.Frag) (C : Addr) (f : Str) : Prop:=PySem.W.findIn K (.ref C) f = some none
theorem NoAttr.taker {K : PySem.W.Frag} {C : Addr} {f : Str} (n : NoAttr K C f) : PySem.W.takerIn K C f = some none:=by
 unfold PySem.W.takerIn
 rw [show PySem.W.findIn K (.ref C) f = some none from n]
 rfl
structure Meth (K : PySem.W.Frag) (C : Addr) (m : Str) (f : Addr) : Prop where
 at_ : PySem.W.findIn K (.ref C) m = some (some (.ref f))
 fn : PySem.W.isFn K (.ref f) = true
 kp : PySem.W.keepIn K (.ref f) = true
section
variable {X : Cx} {pins : List (Addr × Obj)} {σ : St} {H : Hp} {s : Shared} {a C dx : Addr} {fs : List (Str × V)} {f : Str} {v : V} {A : Around} {E : Value -> Shared -> Prop}
theorem getattr_ok {b : Bool} {Q : Value -> Shared -> Prop} (I : Inv X pins σ H s) (e : H a = some (.ins C dx fs)) (c : Cls X.K C) (n : NoAttr X.K C f) (l : fs.lookup f = some v)
  (h : ∀ u s',Inv X pins σ H s' -> RelV v u -> Q u s') : wpAny (model X.prog X.w) A (getAttr (.ref a) f b) Q E s:=by
 obtain ⟨mA,O,r,_,_,_⟩:=ins_get I.hok e
 obtain ⟨u,hu,ru⟩:=RelO.some_of (v:=v) (o:=mA f) (by rw [<- l]; exact r f)
 exact get_map I.kIn O (c.get f) c.hd n hu (handed_of ru) (h u _ (I.tok _) ru)
theorem getmeth_ok {m : Str} {g : Addr} {pl : Sem Bool} {Q : Value × List Value -> Shared -> Prop} (I : Inv X pins σ H s) (e : H a = some (.ins C dx fs)) (c : Cls X.K C) (k : Meth X.K C m g) (l : fs.lookup m = none)
  (h : Q (.ref g,[.ref a]) s) : wpAny (model X.prog X.w) A (getMethod (.ref a) m pl) Q E s:=by
 obtain ⟨mA,O,r,_,_,_⟩:=ins_get I.hok e
 have hn : mA m = none:=RelO.none_of (by rw [<- l]; exact r m)
 exact get_meth I.kIn O (c.get m) k.at_ k.fn hn h
theorem setattr_ok {y : V} {u : Value} {Q : Unit -> Shared -> Prop} (I : Inv X pins σ H s) (e : H a = some (.ins C dx fs)) (c : Cls X.K C) (n : NoAttr X.K C f) (hl : fs.length < 1000) (ry : RelV y u)
  (h : ∀ s',Inv X pins σ (upd H a (.ins C dx (putF f y fs))) s' -> Q () s') : wpAny (model X.prog X.w) A (setAttr (.ref a) f u) Q E s:=by
 obtain ⟨mA,O,r,wi,_,ho⟩:=ins_get I.hok e
 have hz : (fs.map (·.1)).length <= sizeLine:=by rw [List.length_map,sizeLine_eq]; omega
 refine set_map I.kIn O c.sa c.po n.taker c.hd wi hz fun h' O' sb => h _ ?_
 have hd : ∃ o,h'.get? dx = some o:=let ⟨o,_,_,e',_⟩:=O'.ns; ⟨o,e'⟩
 refine I.write (x:=a) (e:=dx) (by rw [e]; exact True.intro) (.inr ho) (fun b q hb z => (sb.2 b hb).trans z) hd ?_
 refine ⟨by rw [upd_ne O.ne]; exact ho,?_,O.ne,O'.obj,_,O'.ns,fun g => ?_,fun g hg => ?_⟩
 ·have:=length_putF f y fs; omega
 ·show RelO ((putF f y fs).lookup g) (if g = f then some u else mA g)
  rw [lookup_putF]
  by_cases q : g = f
  ·rw [if_pos q,if_pos q]; exact ry
  ·rw [if_neg q,if_neg q]; exact r g
 ·by_cases q : g = f
  ·rw [q]; exact (keys_putF f y fs).1
  ·refine (keys_putF f y fs).2 g (wi g fun z => hg ?_)
   show (if g = f then some u else mA g) = none
   rw [if_neg q]; exact z
theorem Inv.made (I : Inv X pins σ H s) : Inv X pins σ (upd (upd H s.heap.objs.size (.own (s.heap.objs.size + 1))) (s.heap.objs.size + 1) (.ins C s.heap.objs.size []))
  { s with heap:=(s.heap.push PySem.W.emptyDict).push (PySem.W.instObj C s.heap.objs.size) }:=by
 have e1 : (s.heap.push PySem.W.emptyDict).get? s.heap.objs.size = some PySem.W.emptyDict:=Heap.get?_push_size s.heap rfl
 have e2 : ((s.heap.push PySem.W.emptyDict).push (PySem.W.instObj C s.heap.objs.size)).get? (s.heap.objs.size + 1) = some (PySem.W.instObj C s.heap.objs.size):=by
  have:=Heap.get?_push_size (s.heap.push PySem.W.emptyDict) (o:=PySem.W.instObj C s.heap.objs.size) rfl
  rwa [Heap.size_push] at this
 have e3 : (s.heap.push PySem.W.emptyDict).Ns s.heap.objs.size (fun _ => none):=⟨PySem.W.emptyDict,#[],_,e1,rfl,(fun e he => absurd he (by simp)),fun _ => rfl⟩
 have I1:=I.laid (a:=s.heap.objs.size) (o:=.own (s.heap.objs.size + 1)) (h':=s.heap.push PySem.W.emptyDict) (t':=s.toks) (fun b u q => Heap.get?_push_of_some _ q) (Nat.le_refl _) ⟨_,e1⟩
 refine I1.laid (a:=s.heap.objs.size + 1) (o:=.ins C s.heap.objs.size []) (t':=s.toks) (fun b u q => Heap.get?_push_of_some _ q) (Nat.le_of_eq (Heap.size_push _ _)) ?_
 have ne : s.heap.objs.size ≠ s.heap.objs.size + 1:=Nat.ne_of_lt (Nat.lt_succ_self _)
 refine ⟨by rw [upd_ne ne,upd_same],Nat.zero_le _,ne,e2,fun _ => none,(Heap.Ns1.of_empty e3).at fun o q => Heap.get?_push_of_some _ q,fun _ => True.intro,fun y hy => absurd rfl hy⟩
theorem attr_of {prog : Program} {w : World} {env : Env} {e : Expr} {f : Str} {pos : Pos} {s : Shared} {Q : Value -> Shared -> Prop} (hb : attributeBase e f env (eval e env) = eval e env)
  (h : wpAny (model prog w) A (eval e env) (fun o s₁ => wpAny (model prog w) A (getAttr o f true) Q E s₁) E s) : wpAny (model prog w) A (eval (.Attribute e f pos) env) Q E s :=
 Attribute_any_ h (by rw [arm_eval_Attribute,hb])
end
inductive RFld (K : PySem.W.Frag) (f : Str) (x : V) (H : Hp) (Q : VK) : Prop where | mk (a C dx : Addr) (fs : List (Str × V)) (v : V) (ex : x = .ref a) (hx : H a = some (.ins C dx fs)) (hc : Cls K C) (hn : NoAttr K C f) (hl : fs.lookup f = some v) (q : Q v H) : RFld K f x H Q
noncomputable def tFld (K : PySem.W.Frag) (ta : TE) (f : Str) : TE:=fun σ H Q => ta σ H fun x H1 => RFld K f x H1 Q
noncomputable def sFld (K : PySem.W.Frag) (ta tv : TE) (f : Str) : TS:=fun D σ H => tv σ H fun y H1 => ta σ H1 fun x H2 => ∃ a C dx fs,x = .ref a /\ H2 a = some (.ins C dx fs) /\ Cls K C /\ NoAttr K C f /\ fs.length < 1000 /\
 D.nx σ (upd H2 a (.ins C dx (putF f y fs)))
section
variable {X : Cx} {o e value : Expr} {f : Str} {pos pos' tpos : Pos} {ta tv : TE}
theorem pe_fld (he : PE X e ta) (hb : attributeBase e f X.env (eval e X.env) = eval e X.env) : PE X (.Attribute e f pos) (tFld X.K ta f):=by
 intro pins s σ H Q I h
 refine attr_of hb (thn (he pins s σ H _ I h) ?_)
 rintro u s1 ⟨x,H1,I1,rx,a,C,dx,fs,v,ex,ea,c,n,l,q⟩
 subst ex
 obtain rfl : u = Value.ref a:=rx
 exact getattr_ok I1 ea c n l fun u' s2 I2 ru => ⟨v,H1,I2,ru,q⟩
theorem ps_fld (ha : PE X o ta) (hv : PE X value tv) (hs : swapsWith value (some (.Attribute o f pos')) pos.line X.env = pure false) : PS X (.Assign [.Attribute o f pos'] value pos) (sFld X.K ta tv f):=by
 intro pins s σ H D I h
 refine plainObj_wpAny_Assign_Attribute (thn (hv pins s σ H _ I h) ?_) hs
 rintro u s1 ⟨y,H1,I1,ry,q⟩
 refine thn (ha pins s1 σ H1 _ I1 q) ?_
 rintro ov s2 ⟨x,H2,I2,rx,a,C,dx,fs,ex,ea,c,n,l,q2⟩
 subst ex
 obtain rfl : ov = Value.ref a:=rx
 exact setattr_ok I2 ea c n l ry fun s3 I3 => ⟨σ,_,I3,q2⟩
theorem methcall_of {pl : Sem Bool} {m : Str} {apos : Pos} {args : List Expr} {pins : List (Addr × Obj)} {s : Shared} {σ : St} {H : Hp} {Q : Value -> Shared -> Prop} {te : TE} (he : PE X e te) (I : Inv X pins σ H s)
  (h : te σ H fun x H1 => ∃ a C dx fs g,x = .ref a /\ H1 a = some (.ins C dx fs) /\ Cls X.K C /\ Meth X.K C m g /\ fs.lookup m = none /\
   ∀ s1,Inv X pins σ H1 s1 -> wpAny (model X.prog X.w) X.A (callWith pos (.ref g) [.ref a] (backTo pos (starEach args X.env)) (backToKw pos (keywordEach [] X.env))) Q X.xe s1)
  (ht : eval (.Call (.Attribute e m apos) args [] pos) X.env = (do
   let ov <- eval e X.env
   standAt apos.atName
   let (f,first) <- holding [ov] (getMethod ov m pl)
   callWith pos f first (backTo pos (starEach args X.env)) (backToKw pos (keywordEach [] X.env)))) :
  wpAny (model X.prog X.w) X.A (eval (.Call (.Attribute e m apos) args [] pos) X.env) Q X.xe s:=by
 refine PySem.W.methodCall_KW (pl:=pl) (thn (he pins s σ H _ I h) ?_) ht
 rintro u s1 ⟨x,H1,I1,rx,a,C,dx,fs,g,ex,ea,c,k,l,q⟩
 subst ex
 obtain rfl : u = Value.ref a:=rx
 exact getmeth_ok I1 ea c k l (q s1 I1)
end
section
variable {X : Cx} {pins : List (Addr × Obj)} {σ : St} {H : Hp} {s : Shared} {A : Around} {E : Value -> Shared -> Prop} {Q : Value -> Shared -> Prop} {c : Value} {b : Bool}
inductive TyOf (K : PySem.W.Frag) (H : Hp) : V -> Value -> Prop where
 | non : TyOf K H .non (.type "NoneType")
 | bl (x : Bool) : TyOf K H (.bl x) (.type "bool")
 | int (i : Int) : TyOf K H (.int i) (.type "int")
 | str (x : Str) : TyOf K H (.str x) (.type "str")
 | flt (x : UInt64) : TyOf K H (.flt x) (.type "float")
 | lst {a : Addr} {xs : List V} (e : H a = some (.lst xs)) : TyOf K H (.ref a) (.type "list")
 | frz {a : Addr} {o : Obj} {xs : List V} (e : H a = some (.frz o (.lst xs))) : TyOf K H (.ref a) (.type "list")
 | tup {a : Addr} {xs : List V} (e : H a = some (.tup xs)) : TyOf K H (.ref a) (.type "tuple")
 | dK {a : Addr} {kvs : List (Key × V)} (e : H a = some (.dK kvs)) : TyOf K H (.ref a) (.type "dict")
 | dT {a : Addr} {kvs : List (List Key × V)} (e : H a = some (.dT kvs)) : TyOf K H (.ref a) (.type "dict")
 | ins {a C dx : Addr} {fs : List (Str × V)} (e : H a = some (.ins C dx fs)) (cl : Cls K C) (ha : PySem.W.findIn K (.ref C) "__class__" = some (some (.builtin "object.__class__")))
   (hn : PySem.W.specialIn K (.builtin "object.__class__") "__get__" = some (some (.builtin "getset_descriptor.__get__"))) (htk : PySem.W.takesIn K (.builtin "object.__class__") = some true)
   (hm : PySem.W.mroIn K C (.type "object") = some true) : TyOf K H (.ref a) (.ref C)
theorem isinst_ok {x : V} {u t : Value} (I : Inv X pins σ H s) (rx : RelV x u) (ty : TyOf X.K H x t) (e : PySem.W.kitOne X.K t c = some b) (h : ∀ tk,Q (.bool b) { s with toks:=tk }) :
  wpAny (model X.prog X.w) A (call (.builtin "isinstance") [u,c]) Q E s:=by
 cases ty with
 | non => cases (show u = Value.none from rx); exact PySem.W.kia_one PySem.W.kitx_none I.kIn True.intro e (fun z => nomatch z) h
 | bl y => cases (show u = Value.bool y from rx); exact PySem.W.kia_one PySem.W.kitx_bool I.kIn True.intro e (fun z => nomatch z) h
 | int i => obtain ⟨t,q⟩:=(show ∃ t,u = Value.int i t from rx); cases q; exact PySem.W.kia_one PySem.W.kitx_int I.kIn True.intro e (fun z => nomatch z) h
 | str y => obtain ⟨t,q⟩:=(show ∃ t,u = Value.str y t from rx); cases q; exact PySem.W.kia_one PySem.W.kitx_str I.kIn True.intro e (fun z => nomatch z) h
 | flt y => obtain ⟨t,q⟩:=(show ∃ t,u = Value.float y t from rx); cases q; exact PySem.W.kia_one PySem.W.kitx_float I.kIn True.intro e (fun z => nomatch z) h
 | @lst a xs ea =>
  cases (show u = Value.ref a from rx)
  obtain ⟨_,_,n,_,h1⟩:=(show ObjOk X.prog X.w H s.heap a (.lst xs) from I.hok a _ ea)
  exact PySem.W.kia_one PySem.W.kitx_list I.kIn ⟨_,h1,rfl⟩ e (fun z => nomatch z) h
 | @frz a ob xs ea =>
  cases (show u = Value.ref a from rx)
  obtain ⟨_,_,_,n,_,h1⟩:=(show ObjOk X.prog X.w H s.heap a (.frz ob (.lst xs)) from I.hok a _ ea)
  exact PySem.W.kia_one PySem.W.kitx_list I.kIn ⟨_,h1,rfl⟩ e (fun z => nomatch z) h
 | @tup a xs ea =>
  cases (show u = Value.ref a from rx)
  obtain ⟨_,_,_,p⟩:=(show ObjOk X.prog X.w H s.heap a (.tup xs) from I.hok a _ ea)
  obtain ⟨o,h1,h2,_⟩:=p
  exact PySem.W.kia_one PySem.W.kitx_tuple I.kIn ⟨o,h1,h2⟩ e (fun z => nomatch z) h
 | @dK a kvs ea =>
  cases (show u = Value.ref a from rx)
  obtain ⟨_,_,vs,_,p⟩:=(show ObjOk X.prog X.w H s.heap a (.dK kvs) from I.hok a _ ea)
  obtain ⟨o,es,ep,h1,h2,_⟩:=p
  exact PySem.W.kia_one PySem.W.kitx_dict I.kIn ⟨o,h1,h2.1⟩ e (fun z => nomatch z) h
 | @dT a kvs ea =>
  cases (show u = Value.ref a from rx)
  obtain ⟨_,_,xs,_,o,es,ep,h1,h2,_⟩:=(show ObjOk X.prog X.w H s.heap a (.dT kvs) from I.hok a _ ea)
  exact PySem.W.kia_one PySem.W.kitx_dict I.kIn ⟨o,h1,h2.1⟩ e (fun z => nomatch z) h
 | @ins a C dx fs ea cl ha hn htk hm =>
  cases (show u = Value.ref a from rx)
  obtain ⟨mA,O,_⟩:=ins_get I.hok ea
  obtain ⟨od,J,_⟩:=O.look
  exact PySem.W.kia_one (PySem.W.kitx_own (cl.get _) cl.hd ha hn htk hm) I.kIn J e (fun z => nomatch z) h
end
end L2
namespace L2
open PySem PySem.Spec PyProof.Rows
structure Room (k : Nat) (A : Around) : Prop where
 hd : A.handled = none
 dp : A.depth + 3 * k + 5 < recursionLimit
 un : A.units + 16 * k + 200 < cLine
theorem Room.mono {j k : Nat} {A : Around} (r : Room k A) (h : j <= k) : Room j A:=⟨r.hd,by have:=r.dp; omega,by have:=r.un; omega⟩
theorem Room.deeper {k : Nat} {A : Around} (r : Room (k + 1) A) (env : Env) : Room k (A.deeper env) :=
 ⟨r.hd,by have:=r.dp; show A.depth + 1 + 3 * k + 5 < _; omega,by have:=r.un; show A.units + 3 + 16 * k + 200 < _; omega⟩
theorem make_depth {A : Around} {C : Addr} {us : List Value} {kw : List (Str × Value)} : (A.under (.builtin "type.__call__" ⟨.ref C :: us,kw⟩)).depth = A.depth + 1:=by
 first | rfl | simp [Around.under,Code.weight,Code.isCreation,Code.isGuard,Code.isCaller,Code.frames,Code.isFrame,guardIds]
theorem make_units {A : Around} {C : Addr} {us : List Value} {kw : List (Str × Value)} : (A.under (.builtin "type.__call__" ⟨.ref C :: us,kw⟩)).units = A.units + 1:=by
 first | rfl | simp [Around.under,Code.cUnits,Code.frames,Code.isFrame]
theorem Room.make {k : Nat} {A : Around} (r : Room (k + 1) A) (C : Addr) (us : List Value) (kw : List (Str × Value)) : Room k (A.under (.builtin "type.__call__" ⟨.ref C :: us,kw⟩)) :=
 ⟨r.hd,by have:=r.dp; rw [make_depth]; omega,by have:=r.un; rw [make_units]; omega⟩
theorem Room.depth {k : Nat} {A : Around} (r : Room k A) : A.depth < recursionLimit:=by have:=r.dp; omega
theorem Room.units {k : Nat} {A : Around} (r : Room k A) : A.units + 64 < cLine:=by have:=r.un; omega
noncomputable def tNil : TA:=fun _ H Q => Q [] H
noncomputable def tCons (ta : TE) (tr : TA) : TA:=fun σ H Q => ta σ H fun x H1 => tr σ H1 fun xs H2 => Q (x :: xs) H2
section
variable {X : Cx} {e : Expr} {es : List Expr} {te : TE} {t : TA} {pos : Pos}
theorem pa_nil : PA X [] tNil:=fun _ _ _ _ H Q I h => Calls.spliced_nil ⟨[],H,I,.nil,h⟩
theorem pa_cons (ha : PE X e te) (hr : PA X es t) (hs : autoParam (starEach (e :: es) X.env = (false,eval e X.env) :: starEach es X.env) L2.au1._auto_1) : PA X (e :: es) (tCons te t):=by
 intro pos pins s σ H Q I h
 rw [hs]
 show wpAny _ _ (spliced ((false,eval e X.env) :: backTo pos (starEach es X.env))) _ _ s
 refine Calls.spliced_cons (thn (ha pins s σ H _ I h) ?_)
 rintro u s1 ⟨x,H1,I1,r1,q1⟩
 refine thn (hr pos pins s1 σ H1 _ I1 q1) ?_
 rintro us s2 ⟨xs,H2,I2,r2,q2⟩
 exact ⟨x :: xs,H2,I2,.cons r1 r2,q2⟩
noncomputable def tTup (t : TA) : TE:=fun σ H Q => t σ H fun xs H1 => xs.length <= sizeLine /\ ∀ p,H1 p = none -> Q (.ref p) (upd H1 p (.tup xs))
noncomputable def tLst (t : TA) : TE:=fun σ H Q => t σ H fun xs H1 => xs.length <= sizeLine /\ ∀ p,H1 p = none -> Q (.ref p) (upd H1 p (.lst xs))
theorem pe_tup {x1} (h : PA X es t) : PE X (.Tuple es x1 pos) (tTup t):=by
 intro pins s σ H Q I hq
 refine wpAny_Tuple_spliced (thn (h pos pins s σ H _ I hq) ?_)
 rintro us s1 ⟨xs,H1,I1,r,z,q⟩
 refine ⟨by rw [<- r.length]; exact z,?_⟩
 have hf : H1 s1.heap.objs.size = none:=I1.hok.fresh (Nat.le_refl _)
 refine ⟨.ref s1.heap.objs.size,upd H1 s1.heap.objs.size (.tup xs),I1.laid (t':=s1.toks) (fun b u e => Heap.get?_push_of_some _ e) (Nat.le_refl _) ?_,rfl,q _ hf⟩
 exact ⟨z,us,r,⟨_,Heap.get?_push_size _ rfl,rfl,_,rfl⟩⟩
theorem pe_lst (h : PA X es t) : PE X (.List es pos) (tLst t):=by
 intro pins s σ H Q I hq
 refine wpAny_List_spliced (thn (h pos pins s σ H _ I hq) ?_)
 rintro us s1 ⟨xs,H1,I1,r,z,q⟩
 refine ⟨by rw [<- r.length]; exact z,?_⟩
 have hf : H1 s1.heap.objs.size = none:=I1.hok.fresh (Nat.le_refl _)
 refine ⟨.ref s1.heap.objs.size,upd H1 s1.heap.objs.size (.lst xs),I1.laid (t':=s1.toks) (fun b u e => Heap.get?_push_of_some _ e) (Nat.le_refl _) ?_,rfl,q _ hf⟩
 exact ⟨z,us,0,r,Heap.get?_push_size _ rfl⟩
end
noncomputable abbrev Sp:=List V -> Hp -> VK -> XK -> Prop
noncomputable abbrev CXT:=List Env -> Hp -> Shared -> XK -> Value -> Shared -> Prop
structure Env0 (P : Program) (w : World) (K : PySem.W.Frag) (mg : Str -> Option Value) (base : Heap) (A : Around) (outer : List Env) (s : Shared) (H : Hp) : Prop where
 frames : A.frames = some outer
 mod : Mod K mg base
 bs : ∀ b o,base.get? b = some o -> s.heap.get? b = some o /\ H b = none
 bsz : base.objs.size <= s.heap.objs.size
 funs : s.heap.FunFrames base outer
 frf : ∀ b ∈ frs outer,H b = none
 hok : HOk P w H s.heap
 bare : AllBare s.gens
noncomputable def CE (outer : List Env) (P : Program) (w : World) (H : Hp) (s : Shared) (Q : VK) (u : Value) (s' : Shared) : Prop :=
 ∃ v H',s'.os = s.os /\ AllBare s'.gens /\ Un (frs outer) [] H H' s.heap s'.heap /\ HOk P w H' s'.heap /\ RelV v u /\ Q v H'
noncomputable def CR (CX : CXT) (outer : List Env) (P : Program) (w : World) (H : Hp) (s : Shared) (Q : VK) (E : XK) (r : Result) (s' : Shared) : Prop :=
 match r with
 | .ok (.ret u) => CE outer P w H s Q u s'
 | .ok _ => False
 | .error e => CX outer H s E e s'
structure FnOk (P : Program) (w : World) (K : PySem.W.Frag) (mg : Str -> Option Value) (base : Heap) (CX : CXT) (k : Nat) (f : Addr) (fd : FuncData) (ps : List Str) (sp : Sp) : Prop where
 len : ∀ vs H Q E,sp vs H Q E -> vs.length = ps.length
 run : ∀ (A : Around) (outer : List Env) (s : Shared) (H : Hp) (args : Args) (us : List Value) (vs : List V) (Q : VK) (E : XK),Room k A -> Env0 P w K mg base A outer s H -> BindsTo s fd args (ps.zip us) -> Vals vs us -> sp vs H Q E ->
  codeAny (model P w) A (.call (.ref f) args) (CR CX outer P w H s Q E) s
theorem FnOk.mono {P : Program} {w : World} {K : PySem.W.Frag} {mg : Str -> Option Value} {base : Heap} {CX : CXT} {j k : Nat} {f : Addr} {fd : FuncData} {ps : List Str} {sp : Sp} (F : FnOk P w K mg base CX j f fd ps sp) (h : j <= k) :
  FnOk P w K mg base CX k f fd ps sp:=⟨F.len,fun A outer s H args us vs Q E hr => F.run A outer s H args us vs Q E (hr.mono h)⟩
theorem Env0.make {P : Program} {w : World} {K : PySem.W.Frag} {mg : Str -> Option Value} {base : Heap} {A : Around} {outer : List Env} {s : Shared} {H : Hp} (e : Env0 P w K mg base A outer s H) (C : Addr) (us : List Value) (kw : List (Str × Value)) :
  Env0 P w K mg base (A.under (.builtin "type.__call__" ⟨.ref C :: us,kw⟩)) outer s H:=⟨by first | exact e.frames | (simpa [Around.under,Code.envs,Code.isFrame,pushEnvs] using e.frames),e.mod,e.bs,e.bsz,e.funs,e.frf,e.hok,e.bare⟩
section
variable {X : Cx} {pins : List (Addr × Obj)} {σ : St} {H : Hp} {s s' : Shared}
theorem Inv.env0 (I : Inv X pins σ H s) : Env0 X.prog X.w X.K X.mg X.base X.A X.stack s H :=
 ⟨I.ok.frames,I.ok.mod,I.bs,Nat.le_trans I.ok.bsz I.sz,I.stack,I.stkFree,I.hok,I.bare⟩
theorem Inv.after {Q : VK} {u : Value} (I : Inv X pins σ H s) (h : CE X.stack X.prog X.w H s Q u s') : EP X pins σ Q u s':=by
 obtain ⟨v,H',os,bare,un,hok,r,q⟩:=h
 obtain ⟨hh,g,d,t,os'⟩:=s'
 obtain rfl : os' = s.os:=os
 exact ⟨v,H',I.call (h':=hh) (g':=g) (d':=d) (t':=t) (ch:=[]) un hok bare (fun b z => absurd z (by simp)),r,q⟩
end
noncomputable def tCall (sp : Sp) (dvs : List V) (E : XK) (t : TA) : TE:=fun σ H Q => t σ H fun vs H1 => sp (vs ++ dvs) H1 Q E
noncomputable def tMeth (C : Addr) (m : Str) (sp : Sp) (dvs : List V) (E : XK) (ta : TE) (t : TA) : TE:=fun σ H Q => ta σ H fun x H1 => ∃ a dx fs,x = .ref a /\ H1 a = some (.ins C dx fs) /\ fs.lookup m = none /\
 t σ H1 fun vs H2 => sp (x :: (vs ++ dvs)) H2 Q E
noncomputable def tMake (C : Addr) (sp : Sp) (dvs : List V) (E : XK) (t : TA) : TE:=fun σ H Q => t σ H fun vs H1 => ∀ x dx,H1 x = none -> H1 dx = none -> dx ≠ x ->
 sp (.ref x :: (vs ++ dvs)) (upd (upd H1 dx (.own x)) x (.ins C dx [])) (fun v H2 => v = .non /\ Q (.ref x) H2) E
noncomputable def Binds (K : PySem.W.Frag) (fd : FuncData) (ps : List Str) (ds : List Value) : Prop :=
 ∀ (s : Shared) (us : List Value),K.In s.heap -> (us ++ ds).length = ps.length -> BindsTo s fd ⟨us,[]⟩ (ps.zip (us ++ ds))
theorem Binds.all {K : PySem.W.Frag} {fd : FuncData} {ps : List Str} (h : ∀ us : List Value,us.length = ps.length -> bindArgs fd ⟨us,[]⟩ = pure (ps.zip us)) : Binds K fd ps []:=fun s us _ hl => by
 rw [List.append_nil] at hl ⊢
 exact .of_eq (h us hl)
noncomputable def Passes (CX : CXT) (X : Cx) (E : XK) : Prop:=∀ (pins : List (Addr × Obj)) (σ : St) (H : Hp) (s : Shared) (e : Value) (s' : Shared),Inv X pins σ H s -> CX X.stack H s E e s' -> X.xe e s'
section
variable {X : Cx} {CX : CXT} {k : Nat} {f C : Addr} {fd : FuncData} {ps : List Str} {sp : Sp} {dvs : List V} {ds : List Value} {E : XK} {x m : Str} {p pos apos : Pos} {e o : Expr} {es : List Expr} {ta : TE} {t : TA}
theorem run_fn {pins : List (Addr × Obj)} {σ : St} {H : Hp} {s : Shared} {Q : VK} {us : List Value} {vs : List V} (F : FnOk X.prog X.w X.K X.mg X.base CX k f fd ps sp) (hr : Room k X.A) (hb : Binds X.K fd ps ds) (hd : Vals dvs ds) (hx : Passes CX X E)
  (I : Inv X pins σ H s) (r : Vals vs us) (h : sp (vs ++ dvs) H Q E) : wpAny (model X.prog X.w) X.A (call (.ref f) us) (EP X pins σ Q) X.xe s:=by
 have r2 : Vals (vs ++ dvs) (us ++ ds):=r.append hd
 have hl : (us ++ ds).length = ps.length:=by rw [<- r2.length]; exact F.len _ _ _ _ h
 refine wpAny_call (codeAny_mono (F.run X.A X.stack s H ⟨us,[]⟩ (us ++ ds) (vs ++ dvs) Q E hr I.env0 (hb s us I.kIn hl) r2 h) fun r s' hq => ?_)
 cases r with
 | error e => exact hx pins σ H s e s' I hq
 | ok fl =>
  cases fl with
  | ret u => exact I.after hq
  | next => exact False.elim hq
  | brk => exact False.elim hq
  | cont => exact False.elim hq
theorem pe_call (F : FnOk X.prog X.w X.K X.mg X.base CX k f fd ps sp) (hr : Room k X.A) (hg : Gl X x) (hm : X.mg x = some (.ref f)) (hk : PySem.W.keepIn X.K (.ref f) = true) (hb : Binds X.K fd ps ds) (hd : Vals dvs ds) (hx : Passes CX X E)
  (ha : PA X (e :: es) t) (hdb : autoParam ((x == ("__debug__" : Str)) = false) L2.au3._auto_1) (he : autoParam (starEach (e :: es) X.env = (false,eval e X.env) :: starEach es X.env) L2.au1._auto_1) (hpl : autoParam ((backTo pos (starEach es X.env)).any (·.1) = false) L2.au1._auto_1) :
  PE X (.Call (.Name x p) (e :: es) [] pos) (tCall sp dvs E t):=by
 intro pins s σ H Q I h
 refine wpAny_Call_Name_kw (ld_glob I hg hm ?_ hdb)
 refine PySem.W.callWith_K (h₀:=X.base) I.ok.mod.kin hk (thn (ha pos pins s σ H _ I h) ?_) he hpl
 rintro us s1 ⟨vs,H1,I1,r,q⟩
 refine ⟨I1.kIn,?_⟩
 exact run_fn F hr hb hd hx I1 r q
theorem pe_meth {pl : Sem Bool} (he : PE X o ta) (c : Cls X.K C) (hm : Meth X.K C m f) (F : FnOk X.prog X.w X.K X.mg X.base CX k f fd ps sp) (hr : Room k X.A) (hb : Binds X.K fd ps ds) (hd : Vals dvs ds) (hx : Passes CX X E) (ha : PA X (e :: es) t)
  (hst : autoParam (starEach (e :: es) X.env = (false,eval e X.env) :: starEach es X.env) L2.au1._auto_1) (hpl : autoParam ((backTo pos (starEach es X.env)).any (·.1) = false) L2.au1._auto_1)
  (ht : autoParam (eval (.Call (.Attribute o m apos) (e :: es) [] pos) X.env = (do
   let ov <- eval o X.env
   standAt apos.atName
   let (f,first) <- holding [ov] (getMethod ov m pl)
   callWith pos f first (backTo pos (starEach (e :: es) X.env)) (backToKw pos (keywordEach [] X.env)))) L2.au1._auto_1) :
  PE X (.Call (.Attribute o m apos) (e :: es) [] pos) (tMeth C m sp dvs E ta t):=by
 intro pins s σ H Q I h
 refine PySem.W.methodCall_KW (pl:=pl) (thn (he pins s σ H _ I h) ?_) ht
 rintro u s1 ⟨x,H1,I1,rx,a,dx,fs,ex,ea,l,q⟩
 subst ex
 obtain rfl : u = Value.ref a:=rx
 refine getmeth_ok I1 ea c hm l ?_
 refine PySem.W.callWith_K (first:=[.ref a]) (h₀:=X.base) I.ok.mod.kin hm.kp (thn (ha pos pins s1 σ H1 _ I1 q) ?_) hst hpl
 rintro us s2 ⟨vs,H2,I2,r,q2⟩
 refine ⟨I2.kIn,?_⟩
 exact run_fn (us:=.ref a :: us) (vs:=.ref a :: vs) F hr hb hd hx I2 (.cons rfl r) q2
theorem pe_meth0 {pl : Sem Bool} (he : PE X o ta) (c : Cls X.K C) (hm : Meth X.K C m f) (F : FnOk X.prog X.w X.K X.mg X.base CX k f fd ps sp) (hr : Room k X.A) (hb : Binds X.K fd ps ds) (hd : Vals dvs ds) (hx : Passes CX X E)
  (ht : autoParam (eval (.Call (.Attribute o m apos) [] [] pos) X.env = (do
   let ov <- eval o X.env
   standAt apos.atName
   let (f,first) <- holding [ov] (getMethod ov m pl)
   callWith pos f first (backTo pos (starEach [] X.env)) (backToKw pos (keywordEach [] X.env)))) L2.au1._auto_1) :
  PE X (.Call (.Attribute o m apos) [] [] pos) (tMeth C m sp dvs E ta tNil):=by
 intro pins s σ H Q I h
 refine PySem.W.methodCall_KW (pl:=pl) (thn (he pins s σ H _ I h) ?_) ht
 rintro u s1 ⟨x,H1,I1,rx,a,dx,fs,ex,ea,l,q⟩
 subst ex
 obtain rfl : u = Value.ref a:=rx
 refine getmeth_ok I1 ea c hm l ?_
 exact PySem.W.callWith_K0 (first:=[.ref a]) I1.kIn hm.kp (run_fn (us:=[.ref a]) (vs:=[.ref a]) F hr hb hd hx I1 (.cons rfl .nil) q)
structure Mk (K : PySem.W.Frag) (C f : Addr) : Prop where
 makes : PySem.W.makesIn K C = true
 init : PySem.W.findIn K (.ref C) "__init__" = some (some (.ref f))
 fn : PySem.W.isFn K (.ref f) = true
 kp : PySem.W.keepIn K (.ref C) = true
theorem run_make {pins : List (Addr × Obj)} {σ : St} {H : Hp} {s : Shared} {Q : VK} {us : List Value} {vs : List V} (M : Mk X.K C f) (F : FnOk X.prog X.w X.K X.mg X.base CX k f fd ps sp) (hr : Room (k + 1) X.A) (hb : Binds X.K fd ps ds) (hd : Vals dvs ds)
  (hx : Passes CX X E) (I : Inv X pins σ H s) (r : Vals vs us)
  (h : ∀ x dx,H x = none -> H dx = none -> dx ≠ x -> sp (.ref x :: (vs ++ dvs)) (upd (upd H dx (.own x)) x (.ins C dx [])) (fun v H2 => v = .non /\ Q (.ref x) H2) E) :
  wpAny (model X.prog X.w) X.A (call (.ref C) us) (EP X pins σ Q) X.xe s:=by
 have hq:=h (s.heap.objs.size + 1) s.heap.objs.size (I.hok.fresh (Nat.le_succ _)) (I.hok.fresh (Nat.le_refl _)) (Nat.ne_of_lt (Nat.lt_succ_self _))
 have I2:=Inv.made (C:=C) I
 have r2 : Vals (V.ref (s.heap.objs.size + 1) :: (vs ++ dvs)) (Value.ref (s.heap.objs.size + 1) :: (us ++ ds)):=.cons rfl (r.append hd)
 have hl : (Value.ref (s.heap.objs.size + 1) :: us ++ ds).length = ps.length:=by
  have e:=r2.length
  rw [F.len _ _ _ _ hq] at e
  exact e.symm
 refine wpAny_call (make_map (f:=f) I.kIn M.makes M.init (beq_iff_eq.mp M.fn) (codeAny_mono (F.run _ X.stack _ _ ⟨Value.ref (s.heap.objs.size + 1) :: us,[]⟩ (Value.ref (s.heap.objs.size + 1) :: (us ++ ds)) _ _ E (hr.make C us [])
  (I2.env0.make C us []) (hb _ (Value.ref (s.heap.objs.size + 1) :: us) I2.kIn hl) r2 hq) fun r s' hq' => ?_))
 cases r with
 | error e => exact hx pins σ _ _ e s' I2 hq'
 | ok fl =>
  cases fl with
  | ret u =>
   obtain ⟨v,H',I3,rv,ev,q3⟩:=I2.after hq'
   subst ev
   exact ⟨rv,⟨V.ref (s.heap.objs.size + 1),H',I3,rfl,q3⟩⟩
  | next => exact False.elim hq'
  | brk => exact False.elim hq'
  | cont => exact False.elim hq'
theorem pe_make (M : Mk X.K C f) (F : FnOk X.prog X.w X.K X.mg X.base CX k f fd ps sp) (hr : Room (k + 1) X.A) (hg : Gl X x) (hm : X.mg x = some (.ref C)) (hb : Binds X.K fd ps ds) (hd : Vals dvs ds) (hx : Passes CX X E)
  (ha : PA X (e :: es) t) (hdb : autoParam ((x == ("__debug__" : Str)) = false) L2.au3._auto_1) (he : autoParam (starEach (e :: es) X.env = (false,eval e X.env) :: starEach es X.env) L2.au1._auto_1) (hpl : autoParam ((backTo pos (starEach es X.env)).any (·.1) = false) L2.au1._auto_1) :
  PE X (.Call (.Name x p) (e :: es) [] pos) (tMake C sp dvs E t):=by
 intro pins s σ H Q I h
 refine wpAny_Call_Name_kw (ld_glob I hg hm ?_ hdb)
 refine PySem.W.callWith_K (h₀:=X.base) I.ok.mod.kin M.kp (thn (ha pos pins s σ H _ I h) ?_) he hpl
 rintro us s1 ⟨vs,H1,I1,r,q⟩
 refine ⟨I1.kIn,?_⟩
 exact run_make M F hr hb hd hx I1 r q
end
section
variable {X : Cx} {CX : CXT} {k : Nat} {f C : Addr} {fd : FuncData} {ps ks : List Str} {sp : Sp} {E : XK} {x m : Str} {p pos apos kpos : Pos} {e o : Expr} {es : List Expr} {kws : List Keyword} {te ta : TE} {t tk : TA} {nm : Option Str}
variable {g : List Value -> List Value -> List Value} {gV : List V -> List V -> List V}
end
structure FnScope (N P : List Str) (sc : Scope) : Prop where
 kind : sc.kind = .function
 co : sc.isCoroutine = false
 gen : sc.isGenerator = false
 nd : N.Nodup
 pre : N.take P.length = P
 par : ∀ x ∈ P,sc.names.lookup x = some .local ∨ sc.names.lookup x = some .cell
 nofree : ∀ y ∈ sc.names,y.2 ≠ .free
theorem bindL_out {kindOf : Str -> Option NameKind} {x : Str} : ∀ {binds : List (Str × Value)} {m : Str -> Option Value},(∀ v,(x,v) ∉ binds) -> bindL kindOf binds m x = m x
 | [],_,_ => rfl
 | (n,v) :: r,m,h => by
  unfold bindL
  rw [bindL_out fun w hw => h w (List.mem_cons_of_mem _ hw)]
  split
  ·have : x ≠ n:=by rintro rfl; exact h v List.mem_cons_self
   simp [this]
  ·rfl
theorem bindC_out {kindOf : Str -> Option NameKind} {x : Str} : ∀ {binds : List (Str × Value)} {m : Str -> Option Value},(∀ v,(x,v) ∉ binds) -> bindC kindOf binds m x = m x
 | [],_,_ => rfl
 | (n,v) :: r,m,h => by
  unfold bindC
  rw [bindC_out fun w hw => h w (List.mem_cons_of_mem _ hw)]
  split
  ·rfl
  ·have : x ≠ n:=by rintro rfl; exact h v List.mem_cons_self
   simp [this]
theorem bindL_get {kindOf : Str -> Option NameKind} {x : Str} {v : Value} : ∀ {P : List Str} {vs : List Value} {i : Nat} {m : Str -> Option Value},P.Nodup -> P[i]? = some x -> vs[i]? = some v -> kindOf x = some .local ->
  bindL kindOf (P.zip vs) m x = some v
 | [],_,_,_,_,h,_,_ => by simp at h
 | _ :: _,[],_,_,_,_,h,_ => by simp at h
 | p :: P,w :: vs,0,m,nd,h1,h2,hk => by
  simp at h1 h2; subst h1; subst h2
  show bindL kindOf ((p,w) :: P.zip vs) m p = _
  unfold bindL
  rw [bindL_out fun v hv => (List.nodup_cons.mp nd).1 (List.of_mem_zip hv).1,if_pos hk]
  simp
 | p :: P,w :: vs,i + 1,m,nd,h1,h2,hk => by
  show bindL kindOf ((p,w) :: P.zip vs) m x = _
  unfold bindL
  exact bindL_get (i:=i) (List.nodup_cons.mp nd).2 (by simpa using h1) (by simpa using h2) hk
theorem bindC_get {kindOf : Str -> Option NameKind} {x : Str} {v : Value} : ∀ {P : List Str} {vs : List Value} {i : Nat} {m : Str -> Option Value},P.Nodup -> P[i]? = some x -> vs[i]? = some v -> kindOf x ≠ some .local ->
  bindC kindOf (P.zip vs) m x = some v
 | [],_,_,_,_,h,_,_ => by simp at h
 | _ :: _,[],_,_,_,_,h,_ => by simp at h
 | p :: P,w :: vs,0,m,nd,h1,h2,hk => by
  simp at h1 h2; subst h1; subst h2
  show bindC kindOf ((p,w) :: P.zip vs) m p = _
  unfold bindC
  rw [bindC_out fun v hv => (List.nodup_cons.mp nd).1 (List.of_mem_zip hv).1,if_neg hk]
  simp
 | p :: P,w :: vs,i + 1,m,nd,h1,h2,hk => by
  show bindC kindOf ((p,w) :: P.zip vs) m x = _
  unfold bindC
  exact bindC_get (i:=i) (List.nodup_cons.mp nd).2 (by simpa using h1) (by simpa using h2) hk
noncomputable def start (N : List Str) (vs : List V) : St:=vs.map some ++ List.replicate (N.length - vs.length) none
noncomputable def cxOf (CX : CXT) (P : Program) (w : World) (K : PySem.W.Frag) (mg : Str -> Option Value) (base : Heap) (N : List Str) (qual : Str) (scope : Scope) (f : Addr) (cd : Value) (A : Around) (outer : List Env) (s : Shared) (H : Hp) (E : XK) : Cx where
 prog:=P
 w:=w
 K:=K
 mg:=mg
 base:=base
 A:=A.deeper (envOfC qual scope s.heap.objs.size f cd)
 N:=N
 s₀:=s
 H₀:=H
 env:=envOfC qual scope s.heap.objs.size f cd
 outer:=outer
 stack:=envOfC qual scope s.heap.objs.size f cd :: outer
 ex:=[]
 calm:=true
 fn:=fun _ => true
 pn:=[]
 xe:=fun e s' => wpAny (model P w) (A.deeper (envOfC qual scope s.heap.objs.size f cd)) (leaving (envOfC qual scope s.heap.objs.size f cd) e) (fun _ s'' => CX outer H s E e s'') (fun e' s'' => CX outer H s E e' s'') s'
theorem cell_has {sc : Scope} {n : Nat} {x : Str} (h : sc.names.lookup x = some .cell) : ∃ c,(cellsFrom n sc.names []).lookup x = some c:=by
 have q:=PySem.W.cellsFrom_some sc.names n [] (.inl h)
 exact Option.isSome_iff_exists.mp q
theorem inv_start {CX : CXT} {P : Program} {w : World} {K : PySem.W.Frag} {mg : Str -> Option Value} {base : Heap} {N ps : List Str} {qual : Str} {scope : Scope} {f : Addr} {cd : Value} {A : Around} {outer : List Env} {s s1 : Shared} {H : Hp} {E : XK} {us : List Value} {vs : List V}
  (S : FnScope N ps scope) (hd : A.handled = none) (e0 : Env0 P w K mg base A outer s H) (hl : vs.length = ps.length) (r : Vals vs us)
  (x : InCallC s s.heap.objs.size (bindL (envOfC qual scope s.heap.objs.size f cd).kindOf (ps.zip us) fun _ => none) (cellsFrom (s.heap.objs.size + 1) scope.names []) (bindC (envOfC qual scope s.heap.objs.size f cd).kindOf (ps.zip us) fun _ => none) s1) :
  Inv (cxOf CX P w K mg base N qual scope f cd A outer s H E) [] (start N vs) H s1:=by
 have hpl : ps.length <= N.length:=by have:=congrArg List.length S.pre; rw [List.length_take] at this; omega
 obtain ⟨h1,tk,rfl,hk⟩:=x.done
 have noA : ∀ b : Addr,b ∉ (cxOf CX P w K mg base N qual scope f cd A outer s H E).ex:=fun b z => absurd (show b ∈ ([] : List Addr) from z) (by simp)
 refine ⟨⟨e0.mod,S.kind,rfl,rfl,Nat.le_refl _,fun y z c h1 h2 => ?_,fun y hy => ?_,fun y c _ h => ?_,fun _ => hd,Around.frames_deeper e0.frames,.inr ⟨rfl,rfl⟩,fun b z => absurd z (noA b),e0.bs,e0.bsz,fun b _ _ => noA b,fun b z => absurd z (noA b),e0.funs,e0.frf⟩,
  rfl,e0.bare,Un.kept hk,⟨_,x.toInCall.ns,fun i y v h1 h2 h3 => ?_⟩,fun y c h => ⟨_,x.cell y c h⟩,e0.hok.fresh (Nat.le_refl _),fun y c h => ?_,fun p hp => absurd (show p ∈ ([] : List (Addr × Obj)) from hp) (by simp),e0.hok.kept hk,?_⟩
 ·exact name_of_addr x.apart (PySem.mem_of_lookup h1) (PySem.mem_of_lookup h2)
 ·have hy : scope.names.lookup y = some .cell ∨ scope.names.lookup y = some .free:=hy
  rcases hy with hy | hy
  ·exact cell_has hy
  ·exact absurd rfl (S.nofree _ (PySem.mem_of_lookup hy))
 ·exact Nat.le_of_lt (x.above y c (PySem.mem_of_lookup h))
 ·have hi : i < vs.length:=by
   unfold start at h2
   by_cases hi : i < vs.length
   ·exact hi
   ·rw [List.getElem?_append_right (by simpa using hi)] at h2
    rw [List.getElem?_replicate] at h2
    split at h2 <;> cases h2
  have ha : vs[i]? = some v:=by
   unfold start at h2
   rw [List.getElem?_append_left (by simpa using hi),List.getElem?_map] at h2
   cases e : vs[i]? with
   | none => rw [e] at h2; cases h2
   | some a => rw [e] at h2; cases h2; rfl
  obtain ⟨u,hu,rv⟩:=r.get ha
  have hp : ps[i]? = some y:=by
   rw [<- S.pre,List.getElem?_take_of_lt (by omega)]; exact h1
  have ndP : ps.Nodup:=by rw [<- S.pre]; exact S.nd.sublist (List.take_sublist _ _)
  refine ⟨u,rv,?_⟩
  rcases S.par y (List.mem_of_getElem? hp) with k | k
  ·exact .inl ⟨k,bindL_get ndP hp hu k⟩
  ·obtain ⟨c,e⟩:=cell_has (n:=s.heap.objs.size + 1) k
   refine .inr ⟨.inl k,c,e,?_⟩
   have q:=x.cell y c e
   rw [bindC_get ndP hp hu (by show scope.names.lookup y ≠ _; rw [k]; decide)] at q
   exact q
 ·exact .inl (e0.hok.fresh (Nat.le_of_lt (x.above y c (PySem.mem_of_lookup h))))
 ·unfold start
  show _ = N.length
  rw [List.length_append,List.length_map,List.length_replicate]
  omega
theorem fn_of {CX : CXT} {P : Program} {w : World} {K : PySem.W.Frag} {mg : Str -> Option Value} {base : Heap} {k : Nat} {f : Addr} {name qual : Str} {params : Arguments} {body : List Stmt} {scope : Scope} {dV kV doc pm cdv ct oc : Value} {an od : Option Addr}
  {osl : Array (Option Value)} {N ps : List Str} {sp : Sp} (lk : K.lookup f = some ⟨oc,od,.func (PySem.W.fnOf name qual params body scope dV kV doc pm an cdv ct),osl⟩) (hcd : PySem.W.codeIn K cdv qual = true) (S : FnScope N ps scope)
  (len : ∀ vs H Q E,sp vs H Q E -> vs.length = ps.length)
  (hbody : ∀ (A : Around) (outer : List Env) (s : Shared) (H : Hp) (vs : List V) (Q : VK) (E : XK),Room k (A.deeper (envOfC qual scope s.heap.objs.size f cdv)) -> sp vs H Q E ->
   ∃ t,PSs (cxOf CX P w K mg base N qual scope f cdv A outer s H E) body t /\ t { nx:=fun _ H' => Q .non H',rt:=Q } (start N vs) H) :
  FnOk P w K mg base CX (k + 1) f (PySem.W.fnOf name qual params body scope dV kV doc pm an cdv ct) ps sp:=by
 refine ⟨len,fun A outer s H args us vs Q E hr e0 hb r hsp => ?_⟩
 have hl:=len _ _ _ _ hsp
 have KX : K.In s.heap:=e0.mod.kin.keeps fun b o e => (e0.bs b o e).1
 have lim : s.heap.NoLimit:=e0.mod.nolimit.keeps fun b o e => (e0.bs b o e).1
 have hkind : ∀ y ∈ ps.zip us,scope.names.lookup y.1 = some .local ∨ (scope.names.lookup y.1 = some .cell /\ ((cellsFrom (s.heap.objs.size + 1) scope.names []).lookup y.1).isSome = true):=fun ⟨n,v⟩ hy => by
  rcases S.par n (List.of_mem_zip hy).1 with q | q
  ·exact .inl q
  ·exact .inr ⟨q,PySem.W.cellsFrom_some _ _ _ (.inl q)⟩
 refine codeAny_call_function hr.depth (KX _ _ lk) rfl S.co S.gen rfl (PySem.W.codeRec_of KX hcd) (hb _ _ _ _ ?_)
 refine wpAny_newFunctionEnv_cells S.kind hkind fun env he s1 x => ?_
 subst he
 refine ⟨lim.keeps x.toInCall.keep,codeAny_func ?_⟩
 obtain ⟨t,ht,hq⟩:=hbody A outer s H vs Q E (hr.deeper _) hsp
 have I : Inv (cxOf CX P w K mg base N qual scope f cdv A outer s H E) [] (start N vs) H s1:=inv_start S hr.hd e0 hl r x
 refine wpAny_mono (ht [] s1 (start N vs) H _ I hq) (fun fl s' hs => ?_) fun e s' hs => hs
 have fin : ∀ {σ' : St} {H' : Hp} {v : V} {u : Value},Inv (cxOf CX P w K mg base N qual scope f cdv A outer s H E) [] σ' H' s' -> RelV v u -> Q v H' -> CE outer P w H s Q u s' :=
  fun {σ' H' v u} J rv q => ⟨v,H',J.os,J.bare,J.base,J.hok,rv,q⟩
 cases fl with
 | ret u =>
  obtain ⟨v,σ',H',J,rv,q⟩:=hs
  exact fin J rv q
 | next =>
  obtain ⟨σ',H',J,q⟩:=hs
  exact fin (v:=V.non) (u:=Value.none) J rfl q
 | brk =>
  obtain ⟨_,_,_,q⟩:=hs
  exact False.elim q
 | cont =>
  obtain ⟨_,_,_,q⟩:=hs
  exact False.elim q
end L2
namespace L2
open PySem PySem.Spec PyProof.Rows
section
variable {X : Cx} {x : Str} {p pos : Pos} {e : Expr} {es : List Expr} {t : TA} {id T : String} {r : List V -> Hp -> VK -> Prop}
noncomputable def tCB (r : List V -> Hp -> VK -> Prop) (t : TA) : TE:=fun σ H Q => t σ H fun vs H1 => r vs H1 Q
theorem pe_callB (hc : CallR X (.builtin id) r) (hg : Gl X x) (hm : X.mg x = none) (hv : bootBuiltins x = some (.builtin id)) (ha : PA X (e :: es) t) (hn : autoParam (x ≠ "__name__") L2.au3._auto_1) (hdb : autoParam ((x == ("__debug__" : Str)) = false) L2.au3._auto_1)
  (he : autoParam (starEach (e :: es) X.env = (false,eval e X.env) :: starEach es X.env) L2.au1._auto_1) (hpl : autoParam ((backTo pos (starEach es X.env)).any (·.1) = false) L2.au1._auto_1) : PE X (.Call (.Name x p) (e :: es) [] pos) (tCB r t):=by
 intro pins s σ H Q I h
 refine wpAny_Call_Name_kw (ld_blt I hg hm hv ?_ hn hdb)
 refine PyProof.Rows.callWith_builtin1 (thn (ha pos pins s σ H _ I h) ?_) he hpl
 rintro us s1 ⟨vs,H1,I1,r1,q1⟩
 exact hc pins s1 σ H1 vs us Q I1 r1 q1
theorem pe_callTy (hc : CallR X (.type T) r) (hg : Gl X x) (hm : X.mg x = none) (hv : bootBuiltins x = some (.type T)) (ha : PA X (e :: es) t) (hn : autoParam (x ≠ "__name__") L2.au3._auto_1) (hdb : autoParam ((x == ("__debug__" : Str)) = false) L2.au3._auto_1)
  (he : autoParam (starEach (e :: es) X.env = (false,eval e X.env) :: starEach es X.env) L2.au1._auto_1) (hpl : autoParam ((backTo pos (starEach es X.env)).any (·.1) = false) L2.au1._auto_1) : PE X (.Call (.Name x p) (e :: es) [] pos) (tCB r t):=by
 intro pins s σ H Q I h
 refine wpAny_Call_Name_kw (ld_blt I hg hm hv ?_ hn hdb)
 refine PyProof.Rows.callWith_type1 (thn (ha pos pins s σ H _ I h) ?_) he hpl
 rintro us s1 ⟨vs,H1,I1,r1,q1⟩
 exact hc pins s1 σ H1 vs us Q I1 r1 q1
end
end L2
namespace HT
open PySem PyProof.Rows
section
open PySem.SeqAt
open PySem.AutoSeq1 (wpAny_loadPart')
open PySem.MeetsSeq PySem.MeetsSeq2 PySem.MeetsSeq3
end
section
variable {prog : Program} {w : World} {A : Around} {E : Value -> Shared -> Prop} {s : Shared}
noncomputable def sIx (n d : Nat) : Option Int -> Nat
 | none => d
 | some v => if v < 0 then (v + (n : Int)).toNat else min v.toNat n
theorem sIx_none (n d : Nat) : sIx n d none = d:=rfl
theorem sIx_nat (n d k : Nat) : sIx n d (some (k : Int)) = min k n:=by
 show (if (k : Int) < 0 then ((k : Int) + (n : Int)).toNat else min (k : Int).toNat n) = min k n
 rw [if_neg (by omega),Int.toNat_natCast]
theorem sIx_le (n d : Nat) (hd : d <= n) (o : Option Int) : sIx n d o <= n:=by
 cases o with
 | none => exact hd
 | some v =>
  show (if v < 0 then (v + (n : Int)).toNat else min v.toNat n) <= n
  by_cases hv : v < 0
  ·rw [if_pos hv]; omega
  ·rw [if_neg hv]; exact Nat.min_le_right _ _
theorem clip_eq (v : Int) (n d : Nat) : (if v < 0 then max (v + (n : Int)) 0 else min v (n : Int)) = ((sIx n d (some v) : Nat) : Int):=by
 show (if v < 0 then max (v + (n : Int)) 0 else min v (n : Int)) = (((if v < 0 then (v + (n : Int)).toNat else min v.toNat n) : Nat) : Int)
 by_cases hv : v < 0
 ·simp only [if_pos hv]; omega
 ·simp only [if_neg hv]; omega
theorem adjust_gen (lo hi : Option Int) (n : Nat) : Builtin.Slice.sliceAdjust lo hi 1 (n : Int) = (((sIx n 0 lo : Nat) : Int),((sIx n n hi : Nat) : Int)):=by
 have h1 : ¬ ((1 : Int) < 0):=by omega
 unfold Builtin.Slice.sliceAdjust
 simp only [h1,if_false]
 refine Prod.ext ?_ ?_
 ·cases lo with
  | none => rfl
  | some v => exact clip_eq v n 0
 ·cases hi with
  | none => rfl
  | some v => exact clip_eq v n n
theorem places_gen (i j : Nat) : Builtin.Slice.slicePlaces (i : Int) (j : Int) 1 = j - i:=by
 unfold Builtin.Slice.slicePlaces
 have h1 : (1 : Int) > 0:=by omega
 simp only [h1,if_true,Int.ediv_one]
 split <;> omega
theorem slicePart_ {v : Value} {o : Option Int} {Q : Option Int -> Shared -> Prop} (p : IsPart v o) (h : Q o s) : wpAny (model prog w) A (Builtin.Slice.slicePartIndex v) Q E s:=by
 cases p with
 | none => exact slicePart_none h
 | int i t => exact slicePart_int h
theorem sliceApplied_gen {sl : Addr} {vl vu : Value} {lo hi : Option Int} {n : Nat} {Q : Int × Int × Nat -> Shared -> Prop} (hs : s.heap.IsSliceOf sl vl vu .none) (pl : IsPart vl lo) (pu : IsPart vu hi)
  (h : Q (((sIx n 0 lo : Nat) : Int),1,sIx n n hi - sIx n 0 lo) s) : wpAny (model prog w) A (Builtin.Slice.sliceApplied (.ref sl) (pure (n : Int))) Q E s:=by
 obtain ⟨os,hos,hcs,hds⟩:=id hs
 unfold Builtin.Slice.sliceApplied Builtin.Slice.sliceFields
 refine wpAny_bind (wpAny_bind (wpAny_field hos hds (x:=vl) rfl (wpAny_bind (wpAny_field hos hds (x:=vu) rfl (wpAny_bind (wpAny_field hos hds (x:=.none) rfl (wpAny_pure ?_)))))))
 refine wpAny_bind (slicePart_none ?_)
 show wpAny _ _ (if ((1 : Int) == 0) = true then _ else _) _ _ s
 rw [if_neg (by decide)]
 refine wpAny_bind (slicePart_ pl (wpAny_bind (slicePart_ pu (wpAny_bind (wpAny_pure ?_)))))
 show wpAny _ _ (match Builtin.Slice.sliceAdjust lo hi 1 (n : Int) with | (lo,hi) => pure (lo,(1 : Int),Builtin.Slice.slicePlaces lo hi 1)) _ _ s
 rw [adjust_gen lo hi n]
 show wpAny _ _ (pure (((sIx n 0 lo : Nat) : Int),(1 : Int),Builtin.Slice.slicePlaces ((sIx n 0 lo : Nat) : Int) ((sIx n n hi : Nat) : Int) 1)) _ _ s
 rw [places_gen]
 exact wpAny_pure h
theorem pick_gen (xs : Array Value) (i k : Nat) : ((List.range k).filterMap fun (m : Nat) => xs[((i : Int) + (m : Int) * 1).toNat]?).toArray = ((xs.toList.drop i).take k).toArray:=by
 have e : (fun (m : Nat) => xs[((i : Int) + (m : Int) * 1).toNat]?) = fun m => xs[i + m]?:=by
  funext m
  have : ((i : Int) + (m : Int) * 1).toNat = i + m:=by omega
  rw [this]
 rw [e]
 have:=pick_run xs i k
 rw [List.filterMap_map] at this
 have e2 : ((fun x => xs[x]?) ∘ fun x => i + x) = fun m => xs[i + m]?:=rfl
 rw [e2] at this
 rw [this]
theorem getItem_tuple_cut {t sl : Addr} {items : Array Value} {vl vu : Value} {lo hi : Option Int} {Q : Value -> Shared -> Prop} (ht : IsTup s.heap t items) (hs : s.heap.IsSliceOf sl vl vu .none) (pl : IsPart vl lo) (pu : IsPart vu hi)
  (hw : ¬ (sIx items.size 0 lo = 0 /\ sIx items.size items.size hi = items.size))
  (h : Q (.ref s.heap.objs.size) { s with heap:=s.heap.push { cls:=.type "tuple",data:=.seq ((items.toList.drop (sIx items.size 0 lo)).take (sIx items.size items.size hi - sIx items.size 0 lo)).toArray } })
  (hsz : items.size <= sizeLine) : wpAny (model prog w) A (getItem (.ref t) (.ref sl)) Q E s:=by
 have htake : sizeOk (.seq ((items.toList.drop (sIx items.size 0 lo)).take (sIx items.size items.size hi - sIx items.size 0 lo)).toArray):=by
  show ((items.toList.drop (sIx items.size 0 lo)).take (sIx items.size items.size hi - sIx items.size 0 lo)).toArray.size <= sizeLine
  rw [List.size_toArray,List.length_take,List.length_drop,Array.length_toList]
  omega +splitDisjunctions
 have hj : sIx items.size items.size hi <= items.size:=sIx_le _ _ (Nat.le_refl _) hi
 obtain ⟨os,hos,hcs,hds⟩:=id hs
 have hTs : s.TypeIs (.ref sl) "slice":=⟨os,hos,hcs⟩
 unfold getItem
 try with_reducible refine wpAny_holding ?_
 first | refine wpAny_bind (wpAny_pure ?_) | skip
 refine wpAny_bind (wpAny_sequenceKey ht.typeIs (by decide) ?_)
 refine wpAny_bind (wpAny_callSpecial?_slot (name:=Str.ofString "__getitem__") ht.typeIs PyProof.Rows.slot_tuple_getitem
  (wpAny_call_entry PyProof.Rows.slot_tuple_getitem ht.typeIs entry_tuple_getitem ?_ (args_tuple_getitem _ _)))
 show wpAny _ _ (Builtin.Tuple.tupleItemsOf (.ref t) >>= _) _ _ s
 refine wpAny_bind (tupleItemsOf_ ht ?_)
 refine wpAny_bind (wpAny_typeOf hTs ?_)
 rw [if_pos (by decide)]
 refine wpAny_bind (sliceApplied_gen hs pl pu ?_)
 have hno : ¬ ((((sIx items.size 0 lo : Nat) : Int) == 0 && (1 : Int) == 1 && (sIx items.size items.size hi - sIx items.size 0 lo) == items.size) = true):=by
  intro q
  rw [Bool.and_eq_true,Bool.and_eq_true] at q
  have q1 : ((sIx items.size 0 lo : Nat) : Int) = 0:=eq_of_beq q.1.1
  have q2 : sIx items.size items.size hi - sIx items.size 0 lo = items.size:=eq_of_beq q.2
  exact hw ⟨by omega +splitDisjunctions,by omega +splitDisjunctions⟩
 show wpAny _ _ (if (((sIx items.size 0 lo : Nat) : Int) == 0 && (1 : Int) == 1 && (sIx items.size items.size hi - sIx items.size 0 lo) == items.size) = true then _ else _) _ _ s
 rw [if_neg hno,pick_gen]
 first
  | exact wpAny_bind (m:=Builtin.Tuple.tupleExact _) (wpAny_newObj_type (wpAny_pure ⟨_,rfl,wpAny_pure h⟩) htake)
  | exact wpAny_bind (m:=Builtin.Tuple.tupleExact _) (wpAny_newObj_type (wpAny_bind (wpAny_pure (wpAny_pure ⟨_,rfl,wpAny_pure h⟩))) htake)
  | exact wpAny_bind (wpAny_bind (m:=Builtin.Tuple.tupleExact _) (wpAny_newObj_type (wpAny_pure (wpAny_pure ⟨_,rfl,wpAny_pure h⟩)) htake))
  | exact wpAny_bind (wpAny_bind (m:=Builtin.Tuple.tupleExact _) (wpAny_newObj_type (wpAny_pure ⟨_,rfl,wpAny_pure h⟩) htake))
end
end HT
namespace L2
open PySem PySem.Spec PyProof.Rows
noncomputable abbrev TO:=St -> Hp -> (Option Int -> Hp -> Prop) -> Prop
noncomputable def PO (X : Cx) (e : Option Expr) (t : TO) : Prop :=
 ∀ (pins : List (Addr × Obj)) (s : Shared) (σ : St) (H : Hp) (Q : Option Int -> Hp -> Prop),Inv X pins σ H s -> t σ H Q ->
  wpAny (model X.prog X.w) X.A (evalPart e X.env) (fun u s' => ∃ o H',Inv X pins σ H' s' /\ IsPart u o /\ Q o H') X.xe s
noncomputable def tNoPart : TO:=fun _ H Q => Q none H
inductive RPart (x : V) (H : Hp) (Q : Option Int -> Hp -> Prop) : Prop where | mk (i : Int) (e : x = .int i) (q : Q (some i) H) : RPart x H Q
noncomputable def tPart (t : TE) : TO:=fun σ H Q => t σ H fun x H1 => RPart x H1 Q
section
variable {X : Cx} {e : Expr} {te : TE} {lo hi : Option Expr} {tl th : TO} {pos p2 : Pos}
theorem po_none : PO X none tNoPart:=by
 intro pins s σ H Q I h
 rw [evalPart_none]
 exact wpAny_pure ⟨none,H,I,.none,h⟩
theorem po_some (h : PE X e te) : PO X (some e) (tPart te):=by
 intro pins s σ H Q I hw
 rw [evalPart_some]
 refine thn (h pins s σ H _ I hw) ?_
 rintro u s1 ⟨x,H1,I1,r1,q1⟩
 obtain ⟨i,rfl,q⟩:=q1
 obtain ⟨t,rfl⟩:=r1
 exact ⟨some i,H1,I1,.int i t,q⟩
noncomputable def SlR (X : Cx) (r : V -> Option Int -> Option Int -> Hp -> VK -> Prop) : Prop :=
 ∀ (pins : List (Addr × Obj)) (s : Shared) (σ : St) (H : Hp) (x : V) (v vl vu : Value) (lo hi : Option Int) (sl : Addr) (Q : VK),Inv X pins σ H s -> RelV x v -> s.heap.IsSliceOf sl vl vu .none -> IsPart vl lo -> IsPart vu hi -> r x lo hi H Q ->
  ∃ T id,typeLookup (.type T) "__getitem__" = pure (some (.builtin id)) /\ s.TypeIs v T /\ wpAny (model X.prog X.w) X.A (getItem v (.ref sl)) (EP X pins σ Q) X.xe s
noncomputable def tSl (r : V -> Option Int -> Option Int -> Hp -> VK -> Prop) (te : TE) (tl th : TO) : TE:=fun σ H Q => te σ H fun x H1 => tl σ H1 fun l H2 => th σ H2 fun u H3 => r x l u H3 Q
theorem pe_slice {r : V -> Option Int -> Option Int -> Hp -> VK -> Prop} (hr : SlR X r) (he : PE X e te) (hl : PO X lo tl) (hu : PO X hi th) : PE X (.Subscript e (.Slice lo hi none p2) pos) (tSl r te tl th):=by
 intro pins s σ H Q I h
 refine Subscript_ (thn (he pins s σ H _ I h) ?_)
 rintro v s1 ⟨x,H1,I1,r1,q1⟩
 refine wpAny_Slice (thn (hl pins s1 σ H1 _ I1 q1) ?_)
 rintro vl s2 ⟨l,H2,I2,pl,q2⟩
 refine thn (hu pins s2 σ H2 _ I2 q2) ?_
 rintro vu s3 ⟨u,H3,I3,pu,q3⟩
 rw [evalPart_none]
 refine wpAny_pure ?_
 have I4 : Inv X pins σ H3 { s3 with heap:=s3.heap.push { cls:=.type "slice",data:=.fields #[vl,vu,.none] } }:=I3.kept (t':=s3.toks) fun b ob q => Heap.get?_push_of_some _ q
 obtain ⟨T,id,hT,ht,hg⟩:=hr pins { s3 with heap:=s3.heap.push { cls:=.type "slice",data:=.fields #[vl,vu,.none] } } σ H3 x v vl vu l u s3.heap.objs.size Q I4 r1 (Heap.IsSliceOf.new ..) pl pu q3
 show wpAny (model X.prog X.w) X.A (subscriptTail e (.Slice lo hi none p2) v (.ref s3.heap.objs.size)) (EP X pins σ Q) X.xe { s3 with heap:=s3.heap.push { cls:=.type "slice",data:=.fields #[vl,vu,.none] } }
 exact tail_any (ops:=[.ref s3.heap.objs.size,v]) ht hT hg (by with_unfolding_all rfl)
noncomputable def cutV (xs : List V) (lo hi : Option Int) : List V:=(xs.drop (HT.sIx xs.length 0 lo)).take (HT.sIx xs.length xs.length hi - HT.sIx xs.length 0 lo)
theorem cutV_length (xs : List V) (lo hi : Option Int) : (cutV xs lo hi).length <= xs.length:=by
 unfold cutV
 rw [List.length_take,List.length_drop]
 omega
noncomputable def rSlT (K : PySem.W.Frag) : V -> Option Int -> Option Int -> Hp -> VK -> Prop:=fun x lo hi H Q => ∃ a xs,x = .ref a /\ SqT K H a xs /\
 ¬ (HT.sIx xs.length 0 lo = 0 /\ HT.sIx xs.length xs.length hi = xs.length) /\ ∀ p,H p = none -> Q (.ref p) (upd H p (.tup (cutV xs lo hi)))
theorem sl_tup : SlR X (rSlT X.K):=by
 intro pins s σ H x v vl vu lo hi sl Q I rx hs pl pu h
 obtain ⟨a,xs,rfl,hx,hw,q⟩:=h
 cases rx
 obtain ⟨its,r,ht,hz⟩:=I.tuple hx
 have hlen : its.toArray.size = xs.length:=by rw [List.size_toArray]; exact r.length.symm
 refine ⟨"tuple",_,PyProof.Rows.slot_tuple_getitem.lookup,ht.typeIs,?_⟩
 refine HT.getItem_tuple_cut ht hs pl pu (by rw [hlen]; exact hw) ?_ (by rw [hlen]; exact hz)
 rw [hlen]
 refine ⟨.ref s.heap.objs.size,_,I.laid (t':=s.toks) (o:=.tup (cutV xs lo hi)) (fun b ob q => Heap.get?_push_of_some _ q) (Nat.le_refl _) ?_,rfl,q _ (I.hok.fresh (Nat.le_refl _))⟩
 exact ⟨Nat.le_trans (cutV_length xs lo hi) hz,_,(r.drop (HT.sIx xs.length 0 lo)).take (HT.sIx xs.length xs.length hi - HT.sIx xs.length 0 lo),IsTup.new _ _⟩
end
end L2
namespace L2
open PySem PySem.Spec PyProof.Rows
noncomputable def ixN (n : Nat) (i : Int) : Option Nat:=if 0 <= i then (if i < n then some i.toNat else none) else if -(n : Int) <= i then some (i + n).toNat else none
noncomputable def atI {α : Type} (xs : List α) (i : Int) : Option α:=(ixN xs.length i).bind fun j => xs[j]?
theorem ixN_seq {n : Nat} {i : Int} {j : Nat} (h : ixN n i = some j) : seqIndex? i n = some j /\ j < n /\ -(n : Int) <= i /\ i < n:=by
 unfold ixN at h
 by_cases h0 : 0 <= i
 ·rw [if_pos h0] at h
  by_cases h1 : i < n
  ·rw [if_pos h1] at h
   have e : i.toNat = j:=Option.some.inj h
   exact ⟨by rw [seqIndex_of h0 h1,e],by omega,by omega,h1⟩
  ·rw [if_neg h1] at h; cases h
 ·rw [if_neg h0] at h
  by_cases h1 : -(n : Int) <= i
  ·rw [if_pos h1] at h
   have e : (i + n).toNat = j:=Option.some.inj h
   exact ⟨by rw [seqIndex_neg (by omega) h1,e],by omega,h1,by omega⟩
  ·rw [if_neg h1] at h; cases h
theorem atI_get {α : Type} {xs : List α} {i : Int} {v : α} (h : atI xs i = some v) : ∃ j,seqIndex? i xs.length = some j /\ xs[j]? = some v /\ j < xs.length /\ -(xs.length : Int) <= i /\ i < xs.length:=by
 unfold atI at h
 cases e : ixN xs.length i with
 | none => rw [e] at h; cases h
 | some j =>
  rw [e] at h
  obtain ⟨h1,h2,h3,h4⟩:=ixN_seq e
  exact ⟨j,h1,h,h2,h3,h4⟩
theorem atI_nat {α : Type} {xs : List α} {j : Nat} {v : α} (h : xs[j]? = some v) : atI xs (j : Int) = some v:=by
 have hj : j < xs.length:=(List.getElem?_eq_some_iff.mp h).1
 have e : ixN xs.length (j : Int) = some j:=by
  unfold ixN
  rw [if_pos (by omega),if_pos (by omega)]; simp
 unfold atI; rw [e]; exact h
noncomputable def PlainIx (b : Expr) : Prop:=∀ o i,subscripted b false o i = operate [o,i] (getItem o i)
noncomputable def IxR (X : Cx) (r : R2) : Prop :=
 ∀ (value slice : Expr) (pins : List (Addr × Obj)) (s : Shared) (σ : St) (H : Hp) (x y : V) (v u : Value) (Q : VK),Inv X pins σ H s -> RelV x v -> RelV y u -> r x y H Q ->
  subscripted slice false v u = operate [v,u] (getItem v u) -> wpAny (model X.prog X.w) X.A (subscriptTail value slice v u) (EP X pins σ Q) X.xe s
noncomputable def MtR (X : Cx) (id : String) (r : V -> List V -> Hp -> VK -> Prop) : Prop :=
 ∀ (pins : List (Addr × Obj)) (s : Shared) (σ : St) (H : Hp) (x : V) (xs : List V) (v : Value) (us : List Value) (Q : VK),Inv X pins σ H s -> RelV x v -> Vals xs us -> r x xs H Q ->
  wpAny (model X.prog X.w) X.A (call (.builtin id) (v :: us)) (EP X pins σ Q) X.xe s
section
variable {X : Cx} {a b : Expr} {ta tb : TE} {pos : Pos}
theorem pe_ix {r : R2} (hr : IxR X r) (ha : PE X a ta) (hb : PE X b tb) (hs : PlainIx b) : PE X (.Subscript a b pos) (tOp r ta tb):=by
 intro pins s σ H Q I h
 exact Subscript_ (binT ha hb I h fun v u s2 x y H2 I2 rx ry q => hr a b pins s2 σ H2 x y v u Q I2 rx ry q (hs _ _))
inductive RIxL (K : PySem.W.Frag) (x y : V) (H : Hp) (Q : VK) : Prop where | mk (p : Addr) (xs : List V) (i : Int) (v : V) (ex : x = .ref p) (ey : y = .int i) (hs : SqL K H p xs) (ha : atI xs i = some v) (q : Q v H) : RIxL K x y H Q
noncomputable def rIxL (K : PySem.W.Frag) : R2:=fun x y H Q => RIxL K x y H Q
inductive RIxT (K : PySem.W.Frag) (x y : V) (H : Hp) (Q : VK) : Prop where | mk (p : Addr) (xs : List V) (i : Int) (v : V) (ex : x = .ref p) (ey : y = .int i) (hs : SqT K H p xs) (ha : atI xs i = some v) (q : Q v H) : RIxT K x y H Q
noncomputable def rIxT (K : PySem.W.Frag) : R2:=fun x y H Q => RIxT K x y H Q
theorem ix_list : IxR X (rIxL X.K):=by
 intro value slice pins s σ H x y v u Q I rx ry h hs
 obtain ⟨p,xs,i,z,rfl,rfl,hq,he,q⟩:=h
 cases rx
 obtain ⟨t,rfl⟩:=ry
 obtain ⟨its,r,pl,hz⟩:=I.list hq
 obtain ⟨j,h1,h2,h3,h4,h5⟩:=atI_get he
 obtain ⟨w,ew,rw'⟩:=r.get h2
 have hl:=r.length
 have hn:=line63
 have fin : EP X pins σ Q w s:=⟨z,H,I,rw',q⟩
 by_cases h0 : 0 <= i
 ·have hj : i.toNat = j:=by
   rw [seqIndex_of h0 h5] at h1
   exact Option.some.inj h1
  exact item_listR pl.isList h0 (by omega) (by rw [hj]; simpa using ew) fin hs
 ·have hj : (i + (its.toArray.size : Int)).toNat = j:=by
   rw [seqIndex_neg (by omega) h4] at h1
   rw [List.size_toArray,<- hl]
   exact Option.some.inj h1
  exact subscriptTail_builtinR (x:=w) pl.isList.typeIs slot_list_getitem.lookup
   (wpAny_getItem_list_neg (Q:=fun r s' => r = w /\ EP X pins σ Q r s') pl.isList (by omega) (by rw [List.size_toArray] <;> omega) (by omega) (by rw [hj]; simpa using ew) ⟨rfl,fin⟩) hs
theorem ix_tup : IxR X (rIxT X.K):=by
 intro value slice pins s σ H x y v u Q I rx ry h hs
 obtain ⟨p,xs,i,z,rfl,rfl,hq,he,q⟩:=h
 cases rx
 obtain ⟨t,rfl⟩:=ry
 obtain ⟨its,r,pl,hz⟩:=I.tuple hq
 obtain ⟨j,h1,h2,h3,h4,h5⟩:=atI_get he
 obtain ⟨w,ew,rw'⟩:=r.get h2
 have hl:=r.length
 have hn:=line63
 have fin : EP X pins σ Q w s:=⟨z,H,I,rw',q⟩
 exact subscriptTail_builtinR (x:=w) pl.typeIs slot_tuple_getitem.lookup
  (getItem_tuple (j:=j) (Q:=fun r s' => r = w /\ EP X pins σ Q r s') pl (by omega) (by omega) (by rw [List.size_toArray,<- hl]; exact h1) (by simpa using ew) ⟨rfl,fin⟩) hs
theorem mapSeq_set (its : List Value) (n j : Nat) (u : Value) : Obj.mapSeq (·.setIfInBounds j u) { cls:=.type "list",data:=.seq its.toArray n } = { cls:=.type "list",data:=.seq (its.set j u).toArray n }:=by
 simp [Obj.mapSeq]
theorem Inv.lst {pins : List (Addr × Obj)} {σ : St} {H : Hp} {s : Shared} {p : Addr} {xs : List V} (I : Inv X pins σ H s) (h : H p = some (.lst xs)) :
  ∃ (its : List Value) (n : Nat),Vals xs its /\ s.heap.get? p = some { cls:=.type "list",data:=.seq its.toArray n } /\ xs.length <= sizeLine:=by
 obtain ⟨z,its,n,r,e⟩:=I.hok p _ h
 exact ⟨its,n,r,e,z⟩
theorem Inv.lstUpd {pins : List (Addr × Obj)} {σ : St} {H : Hp} {s : Shared} {p : Addr} {xs ys : List V} {its its' : List Value} {n n' : Nat} {f : Obj -> Obj} (I : Inv X pins σ H s) (h : H p = some (.lst xs))
  (ho : s.heap.get? p = some { cls:=.type "list",data:=.seq its.toArray n }) (hf : f { cls:=.type "list",data:=.seq its.toArray n } = { cls:=.type "list",data:=.seq its'.toArray n' }) (r : Vals ys its') (hz : ys.length <= sizeLine) (t : Nat) :
  Inv X pins σ (upd H p (.lst ys)) { s with heap:=s.heap.update p f,toks:=t }:=by
 have e : (s.heap.update p f).get? p = some { cls:=.type "list",data:=.seq its'.toArray n' }:=by
  rw [Heap.get?_update_self f ho (by rw [hf] <;> rfl),hf]
 refine I.write (x:=p) (e:=p) (by rw [h]; trivial) (.inl rfl) (fun b u hb q => (Heap.get?_update_other _ _ (Ne.symm hb)).trans q) ⟨_,e⟩ ?_
 exact ⟨hz,its',n',r,e⟩
noncomputable def rSetL : V -> V -> V -> Hp -> (Hp -> Prop) -> Prop:=fun o i v H Q => ∃ p xs k j,o = .ref p /\ i = .int k /\ H p = some (.lst xs) /\ ixN xs.length k = some j /\ Q (upd H p (.lst (xs.set j v)))
theorem set_list : PSet X rSetL:=by
 intro pins s σ H o i v ov iv u Q I ro ri rv h
 obtain ⟨p,xs,k,j,rfl,rfl,hp,hj,q⟩:=h
 cases ro
 obtain ⟨t,rfl⟩:=ri
 obtain ⟨its,n,r,ho,hz⟩:=I.lst hp
 obtain ⟨h1,h2,h3,h4⟩:=ixN_seq hj
 have hl:=r.length
 have hn:=line63
 have I' : Inv X pins σ (upd H p (.lst (xs.set j v))) { s with heap:=s.heap.update p (Obj.mapSeq (·.setIfInBounds j u)) } :=
  I.lstUpd hp ho (mapSeq_set its n j u) (r.set rv j) (by rw [List.length_set]; exact hz) s.toks
 by_cases h0 : 0 <= k
 ·have hk : k.toNat = j:=by
   rw [seqIndex_of h0 h4] at h1
   exact Option.some.inj h1
  exact PySem.W.ki_setAt ho h0 (by omega) (by rw [List.size_toArray,<- hl]; exact h4) (by rw [hk]; exact ⟨_,I',q⟩)
 ·have hk : (k + (its.toArray.size : Int)).toNat = j:=by
   rw [seqIndex_neg (by omega) h3] at h1
   rw [List.size_toArray,<- hl]
   exact Option.some.inj h1
  exact PySem.W.ki_setBack ho (by omega) (by rw [List.size_toArray,<- hl]; exact h3) (by omega) (by rw [hk]; exact ⟨_,I',q⟩)
theorem slice_bounds (lo hi : Option Int) (n : Nat) : (sliceBounds lo hi none n).1 = ((HT.sIx n 0 lo : Nat) : Int) /\ (sliceBounds lo hi none n).2.1 = ((HT.sIx n n hi : Nat) : Int) /\ (sliceBounds lo hi none n).2.2 = 1:=by
 refine ⟨?_,?_,rfl⟩
 ·cases lo with
  | none => simp [sliceBounds,HT.sIx]
  | some i =>
   simp only [sliceBounds,HT.sIx,Option.getD_none,show (1 : Int) > 0 by decide,if_true]
   by_cases h : i < 0
   ·simp only [h,if_true] <;> omega
   ·simp only [h,if_false] <;> omega
 ·cases hi with
  | none => simp [sliceBounds,HT.sIx]
  | some i =>
   simp only [sliceBounds,HT.sIx,Option.getD_none,show (1 : Int) > 0 by decide,if_true]
   by_cases h : i < 0
   ·simp only [h,if_true] <;> omega
   ·simp only [h,if_false] <;> omega
theorem slicePick_cut (its : List Value) (lo hi : Option Int) : slicePick its.toArray lo hi none = ((its.drop (HT.sIx its.length 0 lo)).take (HT.sIx its.length its.length hi - HT.sIx its.length 0 lo)).toArray:=by
 obtain ⟨h1,h2,h3⟩:=slice_bounds lo hi its.toArray.size
 unfold slicePick
 rw [h1,h2,h3]
 simp only [sliceRange_one,pick_run,List.size_toArray] <;> rfl
inductive RSlL (K : PySem.W.Frag) (x : V) (lo hi : Option Int) (H : Hp) (Q : VK) : Prop where | mk (a : Addr) (xs : List V) (ex : x = .ref a) (hs : SqL K H a xs) (q : ∀ p,H p = none -> Q (.ref p) (upd H p (.lst (cutV xs lo hi)))) : RSlL K x lo hi H Q
noncomputable def rSlL (K : PySem.W.Frag) : V -> Option Int -> Option Int -> Hp -> VK -> Prop:=fun x lo hi H Q => RSlL K x lo hi H Q
theorem sl_list : SlR X (rSlL X.K):=by
 intro pins s σ H x v vl vu lo hi sl Q I rx hs pl pu h
 obtain ⟨a,xs,rfl,hx,q⟩:=h
 cases rx
 obtain ⟨its,r,ht,hz⟩:=I.list hx
 have hlen:=r.length
 refine ⟨"list",_,slot_list_getitem.lookup,ht.isList.typeIs,?_⟩
 refine wpAny_getItem_list_slice ht.isList hs pl pu .none (by simp) ?_ (by rw [List.size_toArray] <;> omega)
 rw [slicePick_cut,<- hlen]
 refine ⟨.ref s.heap.objs.size,_,I.laid (t':=s.toks) (o:=.lst (cutV xs lo hi)) (fun b ob q => Heap.get?_push_of_some _ q) (Nat.le_refl _) ?_,rfl,q _ (I.hok.fresh (Nat.le_refl _))⟩
 exact ⟨Nat.le_trans (cutV_length xs lo hi) hz,_,0,(r.drop (HT.sIx xs.length 0 lo)).take (HT.sIx xs.length xs.length hi - HT.sIx xs.length 0 lo),Heap.get?_push_size _ rfl⟩
noncomputable def flatV : V -> Bool
 | .non => true
 | .bl _ => true
 | .int _ => true
 | .str _ => true
 | _ => false
noncomputable def eqV : V -> V -> Bool
 | .non,.non => true
 | .bl a,.bl b => a == b
 | .bl a,.int b => (if a then 1 else 0) == b
 | .int a,.bl b => a == (if b then 1 else 0)
 | .int a,.int b => a == b
 | .str a,.str b => a == b
 | _,_ => false
theorem eqAt_V {A : Around} {s : Shared} {y x : V} {u v : Value} (ry : RelV y u) (rx : RelV x v) (fy : flatV y = true) (fx : flatV x = true) : SeqAt.EqAt A s u v (eqV y x):=by
 cases y with
 | non =>
  cases ry
  cases x with
  | non => cases rx; exact SeqAt.EqAt.same _
  | bl b => cases rx; exact SeqAt.EqAt.none_bool b
  | int b => obtain ⟨t,rfl⟩:=rx; exact SeqAt.EqAt.none_int b t
  | str b => obtain ⟨t,rfl⟩:=rx; exact SeqAt.EqAt.none_str b t
  | _ => exact absurd (show false = true from fx) Bool.false_ne_true
 | bl a =>
  cases ry
  cases x with
  | non => cases rx; exact SeqAt.EqAt.bool_none a
  | bl b => cases rx; exact SeqAt.EqAt.bool_bool a b
  | int b => obtain ⟨t,rfl⟩:=rx; exact SeqAt.EqAt.bool_int a b t
  | str b => obtain ⟨t,rfl⟩:=rx; exact SeqAt.EqAt.bool_str a b t
  | _ => exact absurd (show false = true from fx) Bool.false_ne_true
 | int a =>
  obtain ⟨t',rfl⟩:=ry
  cases x with
  | non => cases rx; exact SeqAt.EqAt.int_none a t'
  | bl b => cases rx; exact SeqAt.EqAt.int_bool a t' b
  | int b => obtain ⟨t,rfl⟩:=rx; exact SeqAt.EqAt.int_int a t' b t
  | str b => obtain ⟨t,rfl⟩:=rx; exact SeqAt.EqAt.int_str a t' b t
  | _ => exact absurd (show false = true from fx) Bool.false_ne_true
 | str a =>
  obtain ⟨t',rfl⟩:=ry
  cases x with
  | non => cases rx; exact SeqAt.EqAt.str_none a t'
  | bl b => cases rx; exact SeqAt.EqAt.str_bool a t' b
  | int b => obtain ⟨t,rfl⟩:=rx; exact SeqAt.EqAt.str_int a t' b t
  | str b => obtain ⟨t,rfl⟩:=rx; exact SeqAt.EqAt.str_str a t' b t
  | _ => exact absurd (show false = true from fx) Bool.false_ne_true
 | _ => exact absurd (show false = true from fy) Bool.false_ne_true
theorem op_notIn_str : OpR X (compareOp .NotIn) (fun x y H Q => ∃ i j,x = .str i /\ y = .str j /\ Q (.bl (!(!(Builtin.Str.occurrences j i 0 j.length 1).isEmpty))) H):=by
 intro pins s σ H x y v u Q I rx ry h
 obtain ⟨i,j,rfl,rfl,q⟩:=h
 obtain ⟨t,rfl⟩:=rx
 obtain ⟨t',rfl⟩:=ry
 exact notIn_str ⟨.bl _,H,I,rfl,q⟩
theorem call_len_seq : CallR X (.builtin "len") (fun xs H Q => ∃ p ys,xs = [.ref p] /\ (SqL X.K H p ys ∨ SqT X.K H p ys) /\ Q (.int ys.length) H):=by
 intro pins s σ H xs us Q I r h
 obtain ⟨p,ys,rfl,hq,q⟩:=h
 obtain ⟨u,rfl,rx⟩:=vals1 r
 cases rx
 have hn:=line63
 rcases hq with hq | hq
 ·obtain ⟨its,r',pl,hz⟩:=I.list hq
  have hlen:=r'.length
  exact Calls.call_len_list pl.isList (by simp only [List.size_toArray] <;> omega) ⟨.int ys.length,H,I.tok _,⟨s.toks + 1,by rw [List.size_toArray,hlen]⟩,q⟩
 ·obtain ⟨its,r',pl,hz⟩:=I.tuple hq
  have hlen:=r'.length
  exact len_tuple pl (by simp only [List.size_toArray] <;> omega) ⟨.int ys.length,H,I.tok _,⟨s.toks + 1,by rw [List.size_toArray,hlen]⟩,q⟩
theorem call_list_of : CallR X (.type "list") (fun xs H Q => ∃ p ys,xs = [.ref p] /\ (SqL X.K H p ys ∨ SqT X.K H p ys) /\ ∀ l,H l = none -> Q (.ref l) (upd H l (.lst ys))):=by
 intro pins s σ H xs us Q I r h
 obtain ⟨p,ys,rfl,hq,q⟩:=h
 obtain ⟨u,rfl,rx⟩:=vals1 r
 cases rx
 have fin : ∀ (its : List Value),Vals ys its -> ys.length <= sizeLine -> ∀ (h' : Heap) (c' : Nat),(∀ b o',s.heap.get? b = some o' -> h'.get? b = some o') ->
   h'.get? s.heap.objs.size = some { cls:=.type "list",dict:=none,data:=.seq its.toArray c',slots:=#[] } -> EP X pins σ Q (.ref s.heap.objs.size) { s with heap:=h' }:=fun its r' hz h' c' kp e =>
  ⟨.ref s.heap.objs.size,_,I.laid (t':=s.toks) kp (Nat.le_refl _) (show ObjOk X.prog X.w _ h' _ (.lst ys) from ⟨hz,its,c',r',e⟩),rfl,q _ (I.hok.fresh (Nat.le_refl _))⟩
 rcases hq with hq | hq
 ·obtain ⟨its,r',pl,hz⟩:=I.list hq
  have hlen:=r'.length
  obtain ⟨o,ho,hc,n,hd⟩:=pl.isList
  exact call_list_seq p (.inl rfl) ho hc hd (fun h' c' kp e => fin its r' hz h' c' kp e) (by simp only [List.size_toArray] <;> omega)
 ·obtain ⟨its,r',pl,hz⟩:=I.tuple hq
  have hlen:=r'.length
  obtain ⟨o,ho,hc,n,hd⟩:=pl
  exact call_list_seq p (.inr rfl) ho hc hd (fun h' c' kp e => fin its r' hz h' c' kp e) (by simp only [List.size_toArray] <;> omega)
noncomputable def tyV (K : PySem.W.Frag) (T : String) (x : V) (H : Hp) : Prop:=match x with
 | .str _ => T = "str"
 | .int _ => T = "int"
 | .ref p => (T = "list" /\ ∃ xs,SqL K H p xs) ∨ (T = "tuple" /\ ∃ o,K.lookup p = some o /\ o.cls = .type "tuple" /\ o.dict = none) ∨
   (T = "dict" /\ ((∃ kvs,H p = some (.dK kvs)) ∨ ∃ kvs,H p = some (.dT kvs))) ∨ (T = "set" /\ ∃ S n,H p = some (.set S n))
 | _ => False
theorem tyV_is {pins : List (Addr × Obj)} {σ : St} {H : Hp} {s : Shared} {T : String} {x : V} {v : Value} (I : Inv X pins σ H s) (r : RelV x v) (ty : tyV X.K T x H) :
  s.TypeIs v T /\ ∀ a,v = .ref a -> ∃ ob,s.heap.get? a = some ob /\ ob.dict = none:=by
 cases x with
 | str z =>
  obtain ⟨t,rfl⟩:=r
  cases (show T = "str" from ty)
  exact ⟨typeIs_str s z t,fun _ e => nomatch e⟩
 | int i =>
  obtain ⟨t,rfl⟩:=r
  cases (show T = "int" from ty)
  exact ⟨typeIs_int s i t,fun _ e => nomatch e⟩
 | ref p =>
  cases r
  rcases ty with ⟨rfl,xs,hq⟩ | ⟨rfl,o,hk,hc,hd⟩ | ⟨rfl,hk⟩ | ⟨rfl,S,n,hk⟩
  ·obtain ⟨its,_,pl,_⟩:=I.list hq
   refine ⟨pl.isList.typeIs,fun a e => ?_⟩
   cases e
   obtain ⟨o,n,e,c,hd,_⟩:=pl
   exact ⟨o,e,hd⟩
  ·refine ⟨⟨o,I.kIn p o hk,hc⟩,fun a e => ?_⟩
   cases e
   exact ⟨o,I.kIn _ o hk,hd⟩
  ·have z : ∃ o,s.heap.get? p = some o /\ o.ExactDict:=by
    rcases hk with ⟨kvs,hk⟩ | ⟨kvs,hk⟩
    ·obtain ⟨_,_,_,_,o,_,_,e,ex,_⟩:=I.hok p _ hk
     exact ⟨o,e,ex⟩
    ·obtain ⟨_,_,_,_,o,_,_,e,ex,_⟩:=I.hok p _ hk
     exact ⟨o,e,ex⟩
   obtain ⟨o,e,ex⟩:=z
   refine ⟨⟨o,e,ex.1⟩,fun a e2 => ?_⟩
   cases e2
   exact ⟨o,e,ex.2.1⟩
  ·obtain ⟨o,_,_,_,e,ex,_⟩:=I.hok p _ hk
   refine ⟨⟨o,e,ex.1⟩,fun a e2 => ?_⟩
   cases e2
   exact ⟨o,e,ex.2.1⟩
 | _ => exact False.elim ty
noncomputable def tBM0 (K : PySem.W.Frag) (T : String) (r : V -> List V -> Hp -> VK -> Prop) (to : TE) : TE:=fun σ H Q => to σ H fun x H1 => tyV K T x H1 /\ r x [] H1 Q
noncomputable def tBM (K : PySem.W.Frag) (T : String) (r : V -> List V -> Hp -> VK -> Prop) (to : TE) (t : TA) : TE:=fun σ H Q => to σ H fun x H1 => tyV K T x H1 /\ t σ H1 fun xs H2 => r x xs H2 Q
variable {o e : Expr} {es : List Expr} {to : TE} {t : TA} {name : Str} {apos cpos : Pos} {T id : String} {r : V -> List V -> Hp -> VK -> Prop}
theorem pe_bm0 (pa : PlainAttrs T) (slot : Slot T name id) (hty : typeOf (.builtin id) = pure (.type "method_descriptor")) (hm : MtR X id r) (ho : PE X o to)
  (hbase : autoParam (attributeBase o name X.env (eval o X.env) = eval o X.env) L2.au1._auto_1) (hline : autoParam ((apos.endLine == cpos.line) = true) L2.au1._auto_1) : PE X (.Call (.Attribute o name apos) [] [] cpos) (tBM0 X.K T r to):=by
 intro pins s σ H Q I h
 refine wpAny_Call_method0_late hbase hline (thn (ho pins s σ H _ I h) ?_)
 rintro v s1 ⟨x,H1,I1,r1,ty,q1⟩
 obtain ⟨h1,h2⟩:=tyV_is I1 r1 ty
 exact ⟨T,id,pa,slot,hty,h1,h2,Calls.callWith_builtin rfl (PySem.evalArgs_none (hm pins s1 σ H1 x [] v [] Q I1 r1 .nil q1))⟩
theorem pe_bm (pa : PlainAttrs T) (slot : Slot T name id) (hty : typeOf (.builtin id) = pure (.type "method_descriptor")) (hm : MtR X id r) (ho : PE X o to) (ha : PA X (e :: es) t)
  (hbase : autoParam (attributeBase o name X.env (eval o X.env) = eval o X.env) L2.au1._auto_1)
  (hfew : autoParam (((backTo cpos (starEach (e :: es) X.env)).all (fun x => !x.1) && (backToKw cpos (keywordEach [] X.env)).all (fun x => x.1.isSome)
   && decide ((e :: es).length + ([] : List Keyword).length + (if ([] : List Keyword).isEmpty then 0 else 1) < 30)) = true) L2.au1._auto_1)
  (hline : autoParam ((apos.endLine == cpos.line) = true) L2.au1._auto_1) (hs : autoParam (starEach (e :: es) X.env = (false,eval e X.env) :: starEach es X.env) L2.au1._auto_1) (hplain : autoParam ((backTo cpos (starEach es X.env)).any (·.1) = false) L2.au1._auto_1) :
  PE X (.Call (.Attribute o name apos) (e :: es) [] cpos) (tBM X.K T r to t):=by
 intro pins s σ H Q I h
 refine wpAny_Call_method_late hbase hfew hline rfl (thn (ho pins s σ H _ I h) ?_)
 rintro v s1 ⟨x,H1,I1,r1,ty,q1⟩
 obtain ⟨h1,h2⟩:=tyV_is I1 r1 ty
 refine ⟨T,id,pa,slot,hty,h1,h2,?_⟩
 have hA:=ha cpos pins s1 σ H1 _ I1 q1
 rw [hs] at hA ⊢
 refine Calls.callWith_builtin (by show (false || (backTo cpos (starEach es X.env)).any (·.1)) = false; rw [hplain] <;> rfl) (Calls.evalArgs_plain ?_)
 refine thn hA ?_
 rintro us s2 ⟨vs,H2,I2,r2,q2⟩
 exact hm pins s2 σ H2 x vs v us Q I2 r1 r2 q2
end
end L2
namespace L2
open PySem PySem.Spec PyProof.Rows
noncomputable def MtM (X : Cx) (id : String) (r : V -> List V -> Hp -> VK -> Prop) : Prop :=
 ∀ (pins : List (Addr × Obj)) (s : Shared) (σ : St) (H : Hp) (x : V) (xs : List V) (v : Value) (us : List Value) (Q : VK),Inv X pins σ H s -> RelV x v -> Vals xs us -> r x xs H Q ->
  wpAny (model X.prog X.w) X.A (call (.builtin id) (v :: us)) (EP X pins σ Q) X.xe s
theorem Vals.one {x : V} {us : List Value} (h : Vals [x] us) : ∃ u,us = [u] /\ RelV x u:=by
 cases h with
 | cons r t =>
  cases t
  exact ⟨_,rfl,r⟩
theorem Vals.zero : ∀ {us : List Value},Vals [] us -> us = []
 | _,.nil => rfl
theorem Vals.dropLast {xs : List V} {us : List Value} (h : Vals xs us) : Vals xs.dropLast us.dropLast:=by
 induction h with
 | nil => exact .nil
 | cons r t ih =>
  cases t with
  | nil => exact .nil
  | cons q t' => exact .cons r ih
theorem erase_last {α : Type} (l : List α) : l.eraseIdx (l.length - 1) = l.dropLast:=by
 induction l with
 | nil => rfl
 | cons a r ih =>
  cases r with
  | nil => rfl
  | cons b r =>
   have e : (a :: b :: r).length - 1 = ((b :: r).length - 1) + 1:=by
    have h1 : (a :: b :: r).length = r.length + 2:=rfl
    have h2 : (b :: r).length = r.length + 1:=rfl
    omega
   rw [e,List.eraseIdx_cons_succ,ih]
   all_goals rfl
section
variable {X : Cx} {pins : List (Addr × Obj)} {σ : St} {H : Hp} {s : Shared} {l b : Addr} {xs ys zs : List V}
theorem Inv.lset {its its' : List Value} {n : Nat} {f : Array Value -> Array Value} {t' : Nat} (I : Inv X pins σ H s) (hH : H l = some (.lst xs))
  (e : s.heap.get? l = some { cls:=.type "list",data:=.seq its.toArray n }) (hf : f its.toArray = its'.toArray) (hv : Vals ys its') (hz : ys.length <= sizeLine) :
  Inv X pins σ (upd H l (.lst ys)) { s with heap:=s.heap.update l (Obj.mapSeq f),toks:=t' }:=by
 have q:=PySem.IsL.update e f
 rw [hf] at q
 refine I.write (x:=l) (e:=l) (by rw [hH]; exact trivial) (.inl rfl) (fun b' u hb hu => (Heap.get?_update_other s.heap (Obj.mapSeq f) (Ne.symm hb)).trans hu) ⟨_,q⟩ ?_
 exact ⟨hz,its',_,hv,q⟩
theorem Inv.lnew {its : List Value} {t' : Nat} (I : Inv X pins σ H s) (hv : Vals ys its) (hz : ys.length <= sizeLine) :
  Inv X pins σ (upd H s.heap.objs.size (.lst ys)) { s with heap:=s.heap.push { cls:=.type "list",data:=.seq its.toArray },toks:=t' } :=
 I.laid (fun _ _ q => Heap.get?_push_of_some _ q) (Nat.le_refl _) ⟨hz,its,0,hv,Heap.get?_push_size _ rfl⟩
theorem Inv.fresh (I : Inv X pins σ H s) : H s.heap.objs.size = none:=I.hok.fresh (Nat.le_refl _)
theorem Inv.lstM (I : Inv X pins σ H s) (hH : H l = some (.lst xs)) : xs.length <= sizeLine /\ ∃ (its : List Value) (n : Nat),Vals xs its /\ xs.length = its.length /\ s.heap.get? l = some { cls:=.type "list",data:=.seq its.toArray n }:=by
 obtain ⟨z,its,n,r,e⟩:=I.hok l _ hH
 exact ⟨z,its,n,r,r.length,e⟩
theorem notLongL {n : Nat} (h : n <= sizeLine) : Builtin.List.listTooLong n = false:=by
 unfold Builtin.List.listTooLong
 exact decide_eq_false (by omega)
end
section
variable {X : Cx}
inductive RApp (x : V) (vs : List V) (H : Hp) (Q : VK) : Prop where | mk (l : Addr) (xs : List V) (y : V) (ex : x = .ref l) (ev : vs = [y]) (hl : H l = some (.lst xs)) (hs : xs.length < sizeLine) (q : Q .non (upd H l (.lst (xs ++ [y])))) : RApp x vs H Q
noncomputable def rAppend : V -> List V -> Hp -> VK -> Prop:=fun x vs H Q => RApp x vs H Q
theorem mt_append : MtM X "list.append" rAppend:=by
 intro pins s σ H x vs v us Q I rx rv h
 obtain ⟨l,xs,y,rfl,rfl,hH,hz,q⟩:=h
 cases rx
 obtain ⟨u,rfl,ru⟩:=rv.one
 obtain ⟨z,its,n,r,hl,e⟩:=I.lstM hH
 refine call_meets F.slot_list_append ⟨_,e,rfl⟩ F.entry_list_append (F.args_list_append_2 _ _) (PySem.list_append l its.toArray n u (by rw [List.size_toArray]; omega)) ⟨e,?_⟩
 refine ⟨.non,_,I.lset (its':=its ++ [u]) hH e (by simp) (r.append (.cons ru .nil)) ?_,rfl,q⟩
 rw [List.length_append,List.length_singleton]
 omega
noncomputable def rExtend : V -> List V -> Hp -> VK -> Prop:=fun x vs H Q => ∃ l b xs zs,x = .ref l /\ vs = [.ref b] /\ H l = some (.lst xs) /\ H b = some (.lst zs) /\ xs.length + zs.length <= sizeLine /\ Q .non (upd H l (.lst (xs ++ zs)))
theorem mt_extend : MtM X "list.extend" rExtend:=by
 intro pins s σ H x vs v us Q I rx rv h
 obtain ⟨l,b,xs,zs,rfl,rfl,hH,hB,hz,q⟩:=h
 cases rx
 obtain ⟨u,rfl,ru⟩:=rv.one
 cases ru
 obtain ⟨z,its,n,r,hl,e⟩:=I.lstM hH
 obtain ⟨z2,its2,n2,r2,hl2,e2⟩:=I.lstM hB
 have hsz : its.toArray.size + its2.toArray.size <= sizeLine:=by rw [List.size_toArray,List.size_toArray]; omega
 have hlong : ¬ (!its.toArray.isEmpty && Builtin.List.listTooLong (its.toArray.size + its2.toArray.size)) = true:=by
  rw [notLongL hsz,Bool.and_false]
  exact Bool.false_ne_true
 refine call_meets F.slot_list_extend ⟨_,e,rfl⟩ F.entry_list_extend (F.args_list_extend_2 _ _)
  (AutoSeq1.list_extend_list_list_0 l its.toArray n b its2.toArray n2 hlong (by rw [List.size_toArray]; omega) (by omega)) ⟨e,e2,?_⟩
 refine ⟨.non,_,I.lset (its':=its ++ its2) hH e (by simp) (r.append r2) ?_,rfl,q⟩
 rw [List.length_append]
 omega
noncomputable def rPop : V -> List V -> Hp -> VK -> Prop:=fun x vs H Q => ∃ l xs y,x = .ref l /\ vs = [] /\ H l = some (.lst xs) /\ xs[xs.length - 1]? = some y /\ Q y (upd H l (.lst xs.dropLast))
theorem mt_pop : MtM X "list.pop" rPop:=by
 intro pins s σ H x vs v us Q I rx rv h
 obtain ⟨l,xs,y,rfl,rfl,hH,hy,q⟩:=h
 cases rx
 have hus:=rv.zero
 subst hus
 obtain ⟨z,its,n,r,hl,e⟩:=I.lstM hH
 obtain ⟨u,hu,ru⟩:=r.get hy
 have hy' : its.toArray[its.toArray.size - 1]? = some u:=by
  show its.toArray[its.length - 1]? = some u
  rw [<- Array.getElem?_toList,<- hl]
  exact hu
 refine call_meets F.slot_list_pop ⟨_,e,rfl⟩ F.entry_list_pop (F.args_list_pop_1 _) (MeetsSeq.list_pop_last l its.toArray n u hy' (by rw [List.size_toArray]; omega)) ⟨e,?_⟩
 refine ⟨y,_,I.lset (its':=its.dropLast) hH e ?_ r.dropLast ?_,ru,q⟩
 ·show its.toArray.eraseIdxIfInBounds (its.toArray.size - 1) = its.dropLast.toArray
  rw [List.size_toArray,List.eraseIdxIfInBounds_toArray,erase_last]
 ·rw [List.length_dropLast]
  omega
noncomputable def rCat : R2:=fun x y H Q => ∃ l b xs zs,x = .ref l /\ y = .ref b /\ H l = some (.lst xs) /\ H b = some (.lst zs) /\ xs.length + zs.length <= sizeLine /\ ∀ p,H p = none -> Q (.ref p) (upd H p (.lst (xs ++ zs)))
theorem op_cat : OpR X (binaryOp .Add) rCat:=by
 intro pins s σ H x y v u Q I rx ry h
 obtain ⟨l,b,xs,zs,rfl,rfl,hH,hB,hz,q⟩:=h
 cases rx
 cases ry
 obtain ⟨z,its,n,r,hl,e⟩:=I.lstM hH
 obtain ⟨z2,its2,n2,r2,hl2,e2⟩:=I.lstM hB
 refine PySem.P.add_list e e2 ?_ (by rw [List.size_toArray,List.size_toArray]; omega)
 have ea : its.toArray ++ its2.toArray = (its ++ its2).toArray:=by simp
 rw [ea]
 exact ⟨.ref _,_,I.lnew (t':=s.toks) (r.append r2) (by rw [List.length_append]; omega),rfl,q _ I.fresh⟩
end
section
variable {prog : Program} {w : World} {A : Around} {E : Value -> Shared -> Prop} {s : Shared}
end
section
variable {X : Cx}
end
end L2
namespace Att
open PySem PySem.W PySem.Calls PyProof.Rows
theorem ints_of_wellAll {P : Params} {h : Heap} : ∀ (ns : List Int) (vs : List Value),WellAll P h vs (ns.map WData.int) -> IntsAre vs ns:=by
 intro ns
 induction ns with
 | nil =>
  intro vs w
  rw [List.map_nil] at w
  cases w
  exact .nil
 | cons n ns ih =>
  intro vs w
  rw [List.map_cons] at w
  cases w with
  | cons a b =>
   cases a
   exact .cons _ _ (ih _ b)
theorem script_of {l : OpenLaw} {n : Nat} (hn : l.most = some n) {P : Params} {h : Heap} {args : List WData} {vals : List Value}
  (hpre : l.row.toRowW.claim.pre args = true) (hwl : WellAll P h vals args) :
  ∃ a vs ns,vals = [Value.ref a] /\ args = [WData.list (ns.map WData.int)] /\ h.get? a = some { cls:=.type "list",data:=.seq vs.toArray } /\ IntsAre vs ns /\ ns.length <= n:=by
 have hsh : WShape.hasAll [] args [.list .int] = true:=(pre_splitW hpre).1
 have hc : l.pre.holds [] { args:=args } = true:=(pre_splitW hpre).2
 obtain ⟨d,r,rfl,h1,h2⟩:=hasAllW_cons hsh
 obtain rfl:=hasAllW_nil h2
 obtain ⟨xs,rfl,h3⟩:=hasW_list h1
 obtain ⟨ns,rfl⟩:=items_int h3
 have hlen : ns.length <= n:=by
  unfold OpenLaw.pre at hc
  have h4 : (WTm.not (.lt (.lit (.int (n : Int))) (.len (.arg 0)))).holds [] { args:=[.list (ns.map .int)] } = true:=by
   have h4:=(holds_andW hc).1
   rw [hn] at h4
   exact h4
  have h5:=condW_of h4 (w_not (w_lt w_lit (w_len_list (w_arg rfl))))
  rw [List.length_map] at h5
  refine Nat.le_of_not_lt fun q => ?_
  have q' : (n : Int) < ((ns.length : Nat) : Int):=by omega +splitDisjunctions
  first
   | (rw [decide_eq_true q'] at h5; exact absurd h5 (by decide))
   | (simp at h5; omega +splitDisjunctions)
 cases hwl with
 | cons w1 w2 =>
  cases w2
  cases w1 with
  | list ho hall => exact ⟨_,_,ns,rfl,rfl,ho,ints_of_wellAll ns _ hall,hlen⟩
theorem post_true (l : OpenLaw) (args : List WData) : l.row.toRowW.claim.post args (.bool true) args = true :=
 postW_of (r:=l.row.toRowW) (X:=(true == true))
  (show WShape.has [] (.bool true) .bool = true by first | rfl | decide | simp [WShape.has,WShape.arms,WShape.armsAll])
  (show (WTm.eq .res (.lit (.bool true))).value [] { args:=args,res:=some (.bool true),after:=args } = some (.bool (true == true)) from w_eq_bool (w_res rfl) w_lit) rfl
theorem attach_call {l : OpenLaw} {n : Nat} {q : Program} {loose : List Str} {XP : (Str -> Option Value) -> Heap -> Prop} {YP : World -> Heap -> Prop} {d : DefRec}
  (hn : l.most = some n) (hdf : d.params.defaults = [])
  (call : ∀ (w : World) (s₀ s₁ : Shared) (mg mb : Str -> Option Value) (fa : Addr) (o : Obj) (pm cd doc : Value) (a : Addr) (vs : List Value) (ns : List Int),
   Ground q loose [] XP w s₀ mg mb s₁.heap -> YP w s₁.heap ->
   s₁.heap.get? fa = some o -> o.data = .func (docDef d.name d.params d.body d.scope pm cd doc) -> s₁.heap.CodeRec cd d.name -> mg d.name = some (.ref fa) ->
   s₁.heap.get? a = some { cls:=.type "list",data:=.seq vs.toArray } -> IntsAre vs ns -> ns.length <= n -> s₁.gens = #[] ->
   codeAny (model l.prog w) callerA (.call (.ref fa) ⟨[.ref a],[]⟩) (fun r s' => r = .ok (.ret (.bool true)) /\ OldK s₁.heap s'.heap /\ s'.os = s₁.os /\ AllBare s'.gens) s₁) :
  WalkO q loose XP YP l.row.toRowW d [] (fun f vs => PySem.call f vs):=by
 intro w s₀ s₁ mg mb G Y fa o pm cd doc dV kV ho hd hcd hD hmg hg args vals as hpre hlay hrd hwl hlo
 obtain rfl : dV = .none:=Dflts.none hD hdf
 obtain rfl : kV = .none:=Dflts.noKw hD
 obtain ⟨a,vs,ns,rfl,rfl,hobj,hints,hlen⟩:=script_of hn hpre hwl
 refine enter_call (codeAny_mono (call w s₀ s₁ mg mb fa o pm cd doc a vs ns G Y ho (fd_plain hd) hcd hmg hobj hints hlen hg) fun r s' hq => ?_)
 obtain ⟨rfl,h2,h3,h4⟩:=hq
 exact ⟨.inl ⟨.bool true,.bool true,[],rfl,fun _ => rfl,.bool true,post_true l _,fun _ => ⟨List.Pairwise.nil,fun _ hm => (nomatch hm)⟩⟩,h2,h3,h4⟩
section
variable {prog : Program} {w : World} {A : Around} {E : Value -> Shared -> Prop} {s : Shared} {K : Frag}
noncomputable def ledger (h : Heap) (L d : Addr) : List (Addr × Obj):=(List.range h.objs.size).filterMap fun a => if a = L ∨ a = d then none else (h.get? a).map fun o => (a,o)
end
end Att
namespace L2
open PySem PySem.Spec PyProof.Rows
theorem vals_ints : ∀ {vs : List Value} {ns : List Int},IntsAre vs ns -> Vals (ns.map V.int) vs
 | _,_,.nil => .nil
 | _,_,.cons n t h => .cons ⟨t,rfl⟩ (vals_ints h)
end L2
namespace L2
open PySem PySem.Spec PyProof.Rows
noncomputable abbrev KOf {K : PySem.W.Frag} {h : Heap} (_ : K.In h) : PySem.W.Frag:=K
end L2
namespace L2
open PySem PySem.Spec PyProof.Rows
noncomputable def defArgs (s : Stmt) : Arguments:=match s with
 | .FunctionDef _ a _ _ _ _ _ _ _ _ => a
 | _ => { posonlyargs:=[],args:=[],vararg:=none,kwonlyargs:=[],kw_defaults:=[],kwarg:=none,defaults:=[] }
noncomputable def defBody (s : Stmt) : List Stmt:=match s with
 | .FunctionDef _ _ b _ _ _ _ _ _ _ => b
 | _ => []
noncomputable def defScope (s : Stmt) : Scope:=match s with
 | .FunctionDef _ _ _ _ _ _ sc _ _ _ => sc
 | _ => { kind:=.function,names:=[],isGenerator:=false,isCoroutine:=false }
noncomputable abbrev CX0 : CXT:=fun _ _ _ _ _ _ => False
noncomputable abbrev E0 : XK:=fun _ _ _ => False
theorem pass0 {X : Cx} : Passes CX0 X E0:=fun _ _ _ _ _ _ _ h => h.elim
structure Fun (K : PySem.W.Frag) (x qual : Str) (st : Stmt) (f : Addr) (fd : FuncData) : Prop where
 ex : ∃ (oc : Value) (od : Option Addr) (kV doc pm : Value) (an : Option Addr) (cdv ct : Value) (osl : Array (Option Value)),
  fd = PySem.W.fnOf x qual (defArgs st) (defBody st) (defScope st) .none kV doc pm an cdv ct /\ K.lookup f = some ⟨oc,od,.func fd,osl⟩ /\ PySem.W.codeIn K cdv qual = true
 kp : PySem.W.keepIn K (.ref f) = true
section
variable {P : Program} {w : World} {K : PySem.W.Frag} {mg : Str -> Option Value} {base : Heap}
theorem Fun.ok {x qual : Str} {st : Stmt} {f : Addr} {fd : FuncData} {N ps : List Str} {k : Nat} {sp : Sp} (F : Fun K x qual st f fd) (S : FnScope N ps (defScope st)) (len : ∀ vs H Q E,sp vs H Q E -> vs.length = ps.length)
  (hbody : ∀ (cdv : Value) (A : Around) (outer : List Env) (s : Shared) (H : Hp) (vs : List V) (Q : VK) (E : XK),Room k (A.deeper (envOfC qual (defScope st) s.heap.objs.size f cdv)) -> sp vs H Q E ->
   ∃ t,PSs (cxOf CX0 P w K mg base N qual (defScope st) f cdv A outer s H E).nox (defBody st) t /\ t { nx:=fun _ H' => Q .non H',rt:=Q } (start N vs) H) : FnOk P w K mg base CX0 (k + 1) f fd ps sp:=by
 obtain ⟨oc,od,kV,doc,pm,an,cdv,ct,osl,rfl,lk,hcd⟩:=F.ex
 refine fn_of lk hcd S len fun A outer s H vs Q E hr hsp => ?_
 obtain ⟨t,h,q⟩:=hbody cdv A outer s H vs Q E hr hsp
 exact ⟨t,h.nox,q⟩
theorem Fun.binds {x qual : Str} {st : Stmt} {f : Addr} {fd : FuncData} {ps : List Str} (F : Fun K x qual st f fd)
  (h : ∀ (kV doc pm : Value) (an : Option Addr) (cdv ct : Value) (us : List Value),us.length = ps.length -> bindArgs (PySem.W.fnOf x qual (defArgs st) (defBody st) (defScope st) .none kV doc pm an cdv ct) ⟨us,[]⟩ = pure (ps.zip us)) : Binds K fd ps []:=by
 obtain ⟨oc,od,kV,doc,pm,an,cdv,ct,osl,rfl,lk,hcd⟩:=F.ex
 exact .all (h kV doc pm an cdv ct)
theorem fun_mk {x qual : Str} {st : Stmt} {f : Addr} {oc : Value} {od an : Option Addr} {osl : Array (Option Value)} {kV doc pm cdv ct : Value} (l : K.lookup f = some ⟨oc,od,.func (PySem.W.fnOf x qual (defArgs st) (defBody st) (defScope st) .none kV doc pm an cdv ct),osl⟩)
  (c : PySem.W.codeIn K cdv qual = true) (k : PySem.W.keepIn K (.ref f) = true) : Fun K x qual st f (PySem.W.fnOf x qual (defArgs st) (defBody st) (defScope st) .none kV doc pm an cdv ct):=⟨⟨oc,od,kV,doc,pm,an,cdv,ct,osl,rfl,l,c⟩,k⟩
end
theorem hu_of {A : Around} {k : Nat} (hr : Room k A) : A.units + 1 < cLine:=Nat.lt_of_le_of_lt (Nat.add_le_add_left (by decide : 1 <= 64) _) hr.units
theorem small1000 {n : Nat} (h : n <= 1000) : n < sizeLine:=Nat.lt_of_le_of_lt h (by decide)
section
variable {X : Cx}
theorem pv (i : Nat) {x : Str} {pos : Pos} (hN : autoParam (X.N[i]? = some x) L2.au1._auto_1) (hv : Vis X.env.scope x:=by first | exact Or.inl rfl | exact Or.inr (Or.inl rfl) | exact Or.inr (Or.inr rfl)) (hd : autoParam ((x == ("__debug__" : Str)) = false) L2.au3._auto_1)
  (hcd : autoParam ((x == ("__classdict__" : Str)) = false) L2.au3._auto_1) : PE X (.Name x pos) (tVar i):=pe_var hN hv hd hcd
end
theorem iteF {A B : Prop} (h : B) : if false = true then A else B:=by
 rw [if_neg Bool.false_ne_true]
 exact h
theorem iteT {A B : Prop} (h : A) : if true = true then A else B:=by
 rw [if_pos rfl]
 exact h
noncomputable def Same (H H' : Hp) : Prop:=∀ b o,H b = some o -> H' b = some o
theorem Same.refl (H : Hp) : Same H H:=fun _ _ h => h
theorem Same.trans {H H1 H2 : Hp} (a : Same H H1) (b : Same H1 H2) : Same H H2:=fun c o h => b c o (a c o h)
theorem Same.seq {K : PySem.W.Frag} {H H' : Hp} {a : Addr} {xs : List V} (e : Same H H') (h : SqL K H a xs) : SqL K H' a xs:=by
 rcases h with (h | ⟨o,h⟩) | h
 ·exact .inl (.inl (e _ _ h))
 ·exact .inl (.inr ⟨o,e _ _ h⟩)
 ·exact .inr h
end L2
namespace L2
open PySem PySem.Spec PyProof.Rows
section
variable {κ : Type} [DecidableEq κ]
noncomputable def valV (kvs : List (κ × V)) (k : κ) : Option V:=(kvs.find? fun kv => decide (kv.1 = k)).map (·.2)
noncomputable def putK (kvs : List (κ × V)) (k : κ) (v : V) : List (κ × V) :=
 if (kvs.any fun kv => decide (kv.1 = k)) = true then kvs.map (fun kv => if kv.1 = k then (kv.1,v) else kv) else kvs ++ [(k,v)]
noncomputable def dropK (kvs : List (κ × V)) (k : κ) : List (κ × V):=kvs.filter fun kv => decide (kv.1 ≠ k)
theorem valV_pos {p : κ × V} {r : List (κ × V)} {k : κ} (e : p.1 = k) : valV (p :: r) k = some p.2:=by simp [valV,List.find?_cons,e]
theorem valV_neg {p : κ × V} {r : List (κ × V)} {k : κ} (e : ¬ p.1 = k) : valV (p :: r) k = valV r k:=by simp [valV,List.find?_cons,e]
theorem valV_any (k : κ) : ∀ kvs : List (κ × V),(kvs.any fun kv => decide (kv.1 = k)) = (valV kvs k).isSome
 | [] => rfl
 | p :: r => by
  rw [List.any_cons]
  by_cases e : p.1 = k
  ·simp only [valV_pos e,decide_eq_true e,Bool.true_or,Option.isSome_some]
  ·rw [valV_neg e,decide_eq_false e,Bool.false_or]; exact valV_any k r
theorem length_putK (kvs : List (κ × V)) (k : κ) (v : V) : (putK kvs k v).length <= kvs.length + 1:=by
 unfold putK
 split
 ·rw [List.length_map]; omega
 ·rw [List.length_append,List.length_cons,List.length_nil]; omega
theorem putK_new {kvs : List (κ × V)} {k : κ} (v : V) (h : valV kvs k = none) : putK kvs k v = kvs ++ [(k,v)]:=by
 unfold putK
 rw [valV_any,h]
 exact if_neg (by decide)
theorem RelO.isSome_eq {o : Option V} {u : Option Value} (r : RelO o u) : o.isSome = u.isSome:=by
 cases o with
 | none => cases u with
  | none => rfl
  | some _ => exact (show False from r).elim
 | some _ => cases u with
  | none => exact (show False from r).elim
  | some _ => rfl
theorem KV.val {kvs : List (κ × V)} {vs : List (κ × Value)} (r : KV kvs vs) (k : κ) : RelO (valV kvs k) (valueAt vs k):=by
 unfold KV at r
 induction r with
 | nil => exact True.intro
 | @cons p q ps qs h t ih =>
  obtain ⟨h1,h2⟩:=h
  by_cases e : p.1 = k
  ·have e' : q.1 = k:=h1.symm.trans e
   have b : valueAt (q :: qs) k = some q.2:=by simp [valueAt,List.find?_cons,e']
   rw [valV_pos e,b]; exact h2
  ·have e' : ¬ q.1 = k:=fun z => e (h1.trans z)
   have b : valueAt (q :: qs) k = valueAt qs k:=by simp [valueAt,List.find?_cons,e']
   rw [valV_neg e,b]; exact ih
theorem KV.any {kvs : List (κ × V)} {vs : List (κ × Value)} (r : KV kvs vs) (k : κ) : (kvs.any fun kv => decide (kv.1 = k)) = vs.any fun kv => decide (kv.1 = k):=by
 unfold KV at r
 induction r with
 | nil => rfl
 | cons h t ih => rw [List.any_cons,List.any_cons,ih,h.1]
theorem KV.repl {kvs : List (κ × V)} {vs : List (κ × Value)} (r : KV kvs vs) (k : κ) {y : V} {u : Value} (ry : RelV y u) :
  KV (kvs.map fun kv => if kv.1 = k then (kv.1,y) else kv) (vs.map fun kv => if kv.1 = k then (kv.1,u) else kv):=by
 unfold KV at r ⊢
 induction r with
 | nil => exact .nil
 | @cons p q ps qs h t ih =>
  rw [List.map_cons,List.map_cons]
  refine .cons ?_ ih
  obtain ⟨h1,h2⟩:=h
  by_cases e : p.1 = k
  ·rw [if_pos e,if_pos (h1.symm.trans e)]; exact ⟨h1,ry⟩
  ·rw [if_neg e,if_neg (fun z => e (h1.trans z))]; exact ⟨h1,h2⟩
theorem KV.put {kvs : List (κ × V)} {vs : List (κ × Value)} (r : KV kvs vs) (k : κ) {y : V} {u : Value} (ry : RelV y u) : KV (putK kvs k y) (stored vs k u):=by
 unfold putK stored
 rw [r.any k]
 by_cases e : (vs.any fun kv => decide (kv.1 = k)) = true
 ·rw [if_pos e,if_pos e]; exact r.repl k ry
 ·rw [if_neg e,if_neg e]; exact Paired.snoc r ⟨rfl,ry⟩
theorem KV.drop {kvs : List (κ × V)} {vs : List (κ × Value)} (r : KV kvs vs) (k : κ) : KV (dropK kvs k) (without vs k):=by
 unfold KV at r ⊢
 unfold dropK without
 induction r with
 | nil => exact .nil
 | @cons p q ps qs h t ih =>
  obtain ⟨h1,h2⟩:=h
  rw [List.filter_cons,List.filter_cons]
  by_cases e : p.1 = k
  ·have a : ¬ decide (p.1 ≠ k) = true:=by simp [e]
   have b : ¬ decide (q.1 ≠ k) = true:=by simp [h1.symm.trans e]
   rw [if_neg a,if_neg b]; exact ih
  ·have e' : ¬ q.1 = k:=fun z => e (h1.trans z)
   have a : decide (p.1 ≠ k) = true:=by simp [e]
   have b : decide (q.1 ≠ k) = true:=by simp [e']
   rw [if_pos a,if_pos b]; exact .cons ⟨h1,h2⟩ ih
theorem KV.length {kvs : List (κ × V)} {vs : List (κ × Value)} (r : KV kvs vs) : kvs.length = vs.length:=Paired.length r
theorem dropK_le (kvs : List (κ × V)) (k : κ) : (dropK kvs k).length <= kvs.length:=List.length_filter_le _ _
end
theorem kV_is {P : Program} {w : World} {k : Key} {u : Value} (r : RelV (kV k) u) : (mixKind P w).is k u = true:=by
 cases k with
 | inl i => obtain ⟨t,e⟩:=(show ∃ t,u = Value.int i t from r); subst e; exact mixKind_int P w i t
 | inr x => obtain ⟨t,e⟩:=(show ∃ t,u = Value.str x t from r); subst e; exact mixKind_str P w x t
theorem items_are {P : Program} {w : World} : ∀ {ks : List Key} {us : List Value},Vals (ks.map kV) us -> ItemsAre (mixKind P w) ks us
 | [],_,r => by rw [List.map_nil] at r; cases r; exact .nil
 | k :: ks,_,r => by
  rw [List.map_cons] at r
  cases r with
  | cons h t => exact .cons (kV_is h) (items_are t)
noncomputable abbrev KT (H : Hp) : List (List Key × V) -> List (List Key × Addr × Value) -> Prop:=Paired fun p q => p.1 = q.1 /\ H q.2.1 = some (.tup (p.1.map kV)) /\ RelV p.2 q.2.2
theorem KT.val {H : Hp} {kvs : List (List Key × V)} {xs : List (List Key × Addr × Value)} (r : KT H kvs xs) (k : List Key) : RelO (valV kvs k) ((atKey xs k).map (·.2)):=by
 induction r with
 | nil => exact True.intro
 | @cons p q ps qs h t ih =>
  obtain ⟨h1,_,h2⟩:=h
  by_cases e : p.1 = k
  ·have e' : q.1 = k:=h1.symm.trans e
   have b : atKey (q :: qs) k = some q.2:=by simp [atKey,List.find?_cons,e']
   rw [valV_pos e,b]; exact h2
  ·have e' : ¬ q.1 = k:=fun z => e (h1.trans z)
   have b : atKey (q :: qs) k = atKey qs k:=by simp [atKey,List.find?_cons,e']
   rw [valV_neg e,b]; exact ih
theorem KT.repl {H : Hp} {kvs : List (List Key × V)} {xs : List (List Key × Addr × Value)} (r : KT H kvs xs) (k : List Key) {y : V} {u : Value} (ry : RelV y u) :
  KT H (kvs.map fun kv => if kv.1 = k then (kv.1,y) else kv) (xs.map (putAt k u)):=by
 induction r with
 | nil => exact .nil
 | @cons p q ps qs h t ih =>
  rw [List.map_cons,List.map_cons]
  refine .cons ?_ ih
  obtain ⟨h1,h2,h3⟩:=h
  unfold putAt
  by_cases e : p.1 = k
  ·rw [if_pos e,if_pos (h1.symm.trans e)]; exact ⟨h1,h2,ry⟩
  ·rw [if_neg e,if_neg (fun z => e (h1.trans z))]; exact ⟨h1,h2,h3⟩
theorem KT.put {H : Hp} {kvs : List (List Key × V)} {xs : List (List Key × Addr × Value)} (r : KT H kvs xs) (k : List Key) {b : Addr} {y : V} {u : Value} (hb : H b = some (.tup (k.map kV))) (ry : RelV y u) :
  KT H (putK kvs k y) (storedH xs k b u):=by
 have e : (kvs.any fun kv => decide (kv.1 = k)) = (atKey xs k).isSome:=by
  rw [valV_any,(r.val k).isSome_eq,Option.isSome_map]
 unfold putK storedH
 rw [e]
 by_cases q : (atKey xs k).isSome = true
 ·rw [if_pos q,if_pos q]; exact r.repl k ry
 ·rw [if_neg q,if_neg q]; exact Paired.snoc r ⟨rfl,hb,ry⟩
theorem KT.keeps {H H' : Hp} {kvs : List (List Key × V)} {xs : List (List Key × Addr × Value)} (r : KT H kvs xs) (ht : ∀ b ys,H b = some (.tup ys) -> H' b = some (.tup ys)) : KT H' kvs xs :=
 Paired.mapP r fun _ _ z => ⟨z.1,ht _ _ z.2.1,z.2.2⟩
section
variable {P : Program} {w : World} {H : Hp} {h : Heap} {a : Addr}
theorem rd_of {u : HO} (ok : HOk P w H h) (e : Rd H a u) : ObjOk P w H h a u:=e.ok ok
theorem dk_rd {kvs : List (Key × V)} (ok : HOk P w H h) (e : Rd H a (.dK kvs)) : kvs.length <= sizeLine /\ (a == sysModules) = false /\ ∃ vs,KV kvs vs /\ h.DictOf (mixKind P w) a vs :=
 show ObjOk P w H h a (.dK kvs) from rd_of ok e
theorem dk_of {kvs : List (Key × V)} (ok : HOk P w H h) (e : H a = some (.dK kvs)) : kvs.length <= sizeLine /\ (a == sysModules) = false /\ ∃ vs,KV kvs vs /\ h.DictOf (mixKind P w) a vs:=dk_rd ok (.inl e)
theorem key_of {ks : List Key} (ok : HOk P w H h) (e : H a = some (.tup (ks.map kV))) : (tupleKind (mixKind P w)).is h ks a:=by
 obtain ⟨_,its,r,o,h1,h2,n,h3⟩:=(show ObjOk P w H h a (.tup (ks.map kV)) from ok a _ e)
 exact ⟨o,its.toArray,n,h1,h2,h3,by simpa using items_are r⟩
theorem dt_rd {kvs : List (List Key × V)} (ok : HOk P w H h) (e : Rd H a (.dT kvs)) : kvs.length <= sizeLine /\ (a == sysModules) = false /\
  ∃ xs,KT H kvs xs /\ h.DictOfH (tupleKind (mixKind P w)) a xs:=by
 obtain ⟨z,y,xs,r,o,es,ep,h1,h2,h3,h4,h5⟩:=(show ObjOk P w H h a (.dT kvs) from rd_of ok e)
 refine ⟨z,y,xs,r,o,es,ep,h1,h2,h3,h4,fun x hx => ?_,h5⟩
 have all : ∀ {l : List (List Key × V)} {m : List (List Key × Addr × Value)},KT H l m -> ∀ x ∈ m,(tupleKind (mixKind P w)).is h x.1 x.2.1:=by
  intro l m q
  induction q with
  | nil => intro x hx; exact nomatch hx
  | @cons p q ps qs hq t ih =>
   intro x hx
   rcases List.mem_cons.mp hx with e | hx
   ·subst e
    exact key_of ok (by rw [<- hq.1]; exact hq.2.1)
   ·exact ih x hx
 exact all r x hx
theorem dt_of {kvs : List (List Key × V)} (ok : HOk P w H h) (e : H a = some (.dT kvs)) : kvs.length <= sizeLine /\ (a == sysModules) = false /\
  ∃ xs,KT H kvs xs /\ h.DictOfH (tupleKind (mixKind P w)) a xs:=dt_rd ok (.inl e)
end
noncomputable def DGet (H : Hp) (a : Addr) (y : V) (r : Option V) : Prop :=
 (∃ kvs k,Rd H a (.dK kvs) /\ y = kV k /\ r = valV kvs k) ∨ ∃ kvs k b,Rd H a (.dT kvs) /\ y = .ref b /\ H b = some (.tup (k.map kV)) /\ r = valV kvs k
noncomputable def DPut (H : Hp) (a : Addr) (y v : V) (H' : Hp) : Prop :=
 (∃ kvs k,H a = some (.dK kvs) /\ y = kV k /\ kvs.length < sizeLine /\ H' = upd H a (.dK (putK kvs k v))) ∨
 ∃ kvs k b,H a = some (.dT kvs) /\ y = .ref b /\ H b = some (.tup (k.map kV)) /\ kvs.length < sizeLine /\ H' = upd H a (.dT (putK kvs k v))
theorem DGet.k {H : Hp} {a : Addr} {kvs : List (Key × V)} {k : Key} (e : H a = some (.dK kvs)) : DGet H a (kV k) (valV kvs k):=.inl ⟨kvs,k,.inl e,rfl,rfl⟩
theorem DGet.t {H : Hp} {a b : Addr} {kvs : List (List Key × V)} {k : List Key} (e : H a = some (.dT kvs)) (eb : H b = some (.tup (k.map kV))) : DGet H a (.ref b) (valV kvs k):=.inr ⟨kvs,k,b,.inl e,rfl,eb,rfl⟩
theorem DPut.k {H : Hp} {a : Addr} {kvs : List (Key × V)} {k : Key} {v : V} (e : H a = some (.dK kvs)) (hl : kvs.length < sizeLine) : DPut H a (kV k) v (upd H a (.dK (putK kvs k v))):=.inl ⟨kvs,k,e,rfl,hl,rfl⟩
theorem DPut.t {H : Hp} {a b : Addr} {kvs : List (List Key × V)} {k : List Key} {v : V} (e : H a = some (.dT kvs)) (eb : H b = some (.tup (k.map kV))) (hl : kvs.length < sizeLine) :
  DPut H a (.ref b) v (upd H a (.dT (putK kvs k v))):=.inr ⟨kvs,k,b,e,rfl,eb,hl,rfl⟩
section
variable {X : Cx} {pins : List (Addr × Obj)} {σ : St} {H : Hp} {s : Shared} {a : Addr} {y v : V} {u r : Value} {o : Option V} {A : Around} {E : Value -> Shared -> Prop}
theorem Inv.big (I : Inv X pins σ H s) : sysModules < s.heap.objs.size:=by
 have h : mainGlobals < s.heap.objs.size:=(I.mod.glob.keeps I.bk).lt
 exact Nat.lt_trans (by decide) h
theorem d_getItem {Q : Value -> Shared -> Prop} (hu : A.units + 1 < cLine) (I : Inv X pins σ H s) (g : DGet H a y (some v)) (ry : RelV y u) (h : ∀ w' s',Inv X pins σ H s' -> RelV v w' -> Q w' s') :
  wpAny (model X.prog X.w) A (getItem (.ref a) u) Q E s:=by
 rcases g with ⟨kvs,k,e,ey,l⟩ | ⟨kvs,k,b,e,ey,eb,l⟩
 ·subst ey
  obtain ⟨z,hd,vs,rel,dd⟩:=dk_rd I.hok e
  obtain ⟨w',hw,rw'⟩:=RelO.some_of (v:=v) (o:=valueAt vs k) (by rw [l]; exact rel.val k)
  exact wpAny_getItem_of (kV_is ry) dd.mapOf hw (h w' _ (I.tok _) rw')
 ·subst ey
  cases (show u = Value.ref b from ry)
  obtain ⟨z,hd,xs,rel,dd⟩:=dt_rd I.hok e
  obtain ⟨w',hw,rw'⟩:=RelO.some_of (v:=v) (o:=(atKey xs k).map (·.2)) (by rw [l]; exact rel.val k)
  obtain ⟨p,hp,hp2⟩:=Option.map_eq_some_iff.mp hw
  refine wpAny_getItem_heap (tupleKind_room_in1 hu) (key_of I.hok eb) dd hp ?_
  rw [hp2]
  exact h w' _ (I.tok _) rw'
theorem d_in {Q : Value -> Shared -> Prop} (hu : A.units + 1 < cLine) (I : Inv X pins σ H s) (g : DGet H a y o) (ry : RelV y u) (h : ∀ s',Inv X pins σ H s' -> Q (.bool o.isSome) s') :
  wpAny (model X.prog X.w) A (compareOp .In u (.ref a)) Q E s:=by
 rcases g with ⟨kvs,k,e,ey,l⟩ | ⟨kvs,k,b,e,ey,eb,l⟩
 ·subst ey
  obtain ⟨z,hd,vs,rel,dd⟩:=dk_rd I.hok e
  refine wpAny_in_of (kV_is ry) hd dd.mapOf ?_
  rw [<- (rel.val k).isSome_eq,<- l]
  exact h _ (I.tok _)
 ·subst ey
  cases (show u = Value.ref b from ry)
  obtain ⟨z,hd,xs,rel,dd⟩:=dt_rd I.hok e
  refine wpAny_in_heap (tupleKind_room_in1 hu) (key_of I.hok eb) hd dd ?_
  have q:=(rel.val k).isSome_eq
  rw [Option.isSome_map] at q
  rw [<- q,<- l]
  exact h _ (I.tok _)
theorem d_notIn {Q : Value -> Shared -> Prop} (hu : A.units + 1 < cLine) (I : Inv X pins σ H s) (g : DGet H a y o) (ry : RelV y u) (h : ∀ s',Inv X pins σ H s' -> Q (.bool (!o.isSome)) s') :
  wpAny (model X.prog X.w) A (compareOp .NotIn u (.ref a)) Q E s:=by
 rcases g with ⟨kvs,k,e,ey,l⟩ | ⟨kvs,k,b,e,ey,eb,l⟩
 ·subst ey
  obtain ⟨z,hd,vs,rel,dd⟩:=dk_rd I.hok e
  refine wpAny_notIn_of (kV_is ry) hd dd.mapOf ?_
  rw [<- (rel.val k).isSome_eq,<- l]
  exact h _ (I.tok _)
 ·subst ey
  cases (show u = Value.ref b from ry)
  obtain ⟨z,hd,xs,rel,dd⟩:=dt_rd I.hok e
  refine wpAny_notIn_heap (tupleKind_room_in1 hu) (key_of I.hok eb) hd dd ?_
  have q:=(rel.val k).isSome_eq
  rw [Option.isSome_map] at q
  rw [<- q,<- l]
  exact h _ (I.tok _)
theorem d_write {h' : Heap} {t' : Nat} {ob : HO} (I : Inv X pins σ H s) (mu : Mut (H a)) (hs : Heap.SameBut a s.heap h') (he : ∃ q,h'.get? a = some q) (new : ObjOk X.prog X.w (upd H a ob) h' a ob) :
  Inv X pins σ (upd H a ob) { s with heap:=h',toks:=t' } :=
 I.write (x:=a) (e:=a) mu (.inl rfl) (fun b q hb z => (hs.2 b hb).trans z) he new
theorem dk_new {P : Program} {w : World} {H' : Hp} {h' : Heap} {kvs : List (Key × V)} {vs : List (Key × Value)} (z : kvs.length <= sizeLine) (hd : (a == sysModules) = false) (rel : KV kvs vs) (dd : h'.DictOf (mixKind P w) a vs) :
  ObjOk P w H' h' a (.dK kvs):=⟨z,hd,vs,rel,dd⟩
theorem d_setItem {H' : Hp} {Q : Unit -> Shared -> Prop} (hu : A.units + 1 < cLine) (I : Inv X pins σ H s) (g : DPut H a y v H') (ry : RelV y u) (rv : RelV v r) (h : ∀ s',Inv X pins σ H' s' -> Q () s') :
  wpAny (model X.prog X.w) A (setItem (.ref a) u r) Q E s:=by
 rcases g with ⟨kvs,k,e,ey,l,eH⟩ | ⟨kvs,k,b,e,ey,eb,l,eH⟩
 ·subst ey eH
  obtain ⟨z,hd,vs,rel,dd⟩:=dk_of I.hok e
  have hz : vs.length <= sizeLine:=by rw [<- rel.length]; exact z
  have hl : (putK kvs k v).length <= sizeLine:=by have:=length_putK kvs k v; omega
  refine wpAny_setItem_pairs (hsz:=hz) (kV_is ry) dd fun h' dd' hs => h _ ?_
  have he : ∃ q,h'.get? a = some q:=let ⟨q,_,_,hq,_⟩:=dd'; ⟨q,hq⟩
  exact d_write I (by rw [e]; exact True.intro) hs he (dk_new hl hd (rel.put k rv) dd')
 ·subst ey eH
  cases (show u = Value.ref b from ry)
  obtain ⟨z,hd,xs,rel,dd⟩:=dt_of I.hok e
  have hz : xs.length <= sizeLine:=by rw [<- Paired.length rel]; exact z
  have hl : (putK kvs k v).length <= sizeLine:=by have:=length_putK kvs k v; omega
  refine wpAny_setItem_heap (hsz:=hz) (tupleKind_room_in1 hu) (key_of I.hok eb) dd fun h' dd' hs => h _ ?_
  obtain ⟨q,es,ep,hq,h2,h3,h4,_,h5⟩:=dd'
  refine d_write I (by rw [e]; exact True.intro) hs ⟨q,hq⟩ ⟨hl,hd,_,(rel.put k eb rv).keeps fun c ys ec => ?_,q,es,ep,hq,h2,h3,h4,h5⟩
  rw [upd_ne (ne_of ec e (fun z => nomatch z))]
  exact ec
end
section
variable {X : Cx} {pins : List (Addr × Obj)} {σ : St} {H : Hp} {s : Shared} {a : Addr} {kvs : List (Key × V)} {k : Key} {u : Value} {A : Around} {E : Value -> Shared -> Prop}
theorem d_delItem {Q : Unit -> Shared -> Prop} (I : Inv X pins σ H s) (e : H a = some (.dK kvs)) (ry : RelV (kV k) u) (l : (valV kvs k).isSome = true) (h : ∀ s',Inv X pins σ (upd H a (.dK (dropK kvs k))) s' -> Q () s') :
  wpAny (model X.prog X.w) A (delItem (.ref a) u) Q E s:=by
 obtain ⟨z,hd,vs,rel,dd⟩:=dk_of I.hok e
 refine wpAny_delItem_slot dd.typeIs (by decide) PySem.F.slot_dict_delitem
  (call_meetsIn PySem.F.slot_dict_delitem dd.typeIs PySem.F.entry_dict_delitem (PySem.F.args_dict_delitem_2 _ _) (meets_dict_delitem_pairs (mixKind X.prog X.w) a (kV_is ry)) ⟨vs,dd,by rw [<- rel.length]; exact z,by rw [<- (rel.val k).isSome_eq]; exact l,fun h' dd' hs => h _ ?_⟩)
 have he : ∃ q,h'.get? a = some q:=let ⟨q,_,_,hq,_⟩:=dd'; ⟨q,hq⟩
 exact d_write I (by rw [e]; exact True.intro) hs he (dk_new (Nat.le_trans (dropK_le kvs k) z) hd (rel.drop k) dd')
theorem d_pop {v : V} {more : List Value} {Q : Value -> Shared -> Prop} (I : Inv X pins σ H s) (e : H a = some (.dK kvs)) (ry : RelV (kV k) u) (l : valV kvs k = some v) (hm : more = [] ∨ ∃ x,more = [x])
  (h : ∀ w' s',Inv X pins σ (upd H a (.dK (dropK kvs k))) s' -> RelV v w' -> Q w' s') : wpAny (model X.prog X.w) A (call (.builtin "dict.pop") (.ref a :: u :: more)) Q E s:=by
 obtain ⟨z,hd,vs,rel,dd⟩:=dk_of I.hok e
 obtain ⟨w',hw,rw'⟩:=RelO.some_of (v:=v) (o:=valueAt vs k) (by rw [<- l]; exact rel.val k)
 have hp : (keyPart u).isSome = true:=by
  cases k with
  | inl i => obtain ⟨t,q⟩:=(show ∃ t,u = Value.int i t from ry); subst q; rfl
  | inr x => obtain ⟨t,q⟩:=(show ∃ t,u = Value.str x t from ry); subst q; rfl
 have ha : argsOk "dict.pop" ⟨.ref a :: u :: more,[]⟩:=by
  rcases hm with q | ⟨x,q⟩
  ·subst q; exact PySem.F.args_dict_pop_2 _ _
  ·subst q; exact PySem.F.args_dict_pop_3 _ _ _
 refine call_meetsIn PySem.F.slot_dict_pop dd.typeIs PySem.F.entry_dict_pop ha (meets_dict_pop_there (mixKind X.prog X.w) a (kV_is ry) more hm hp)
  ⟨vs,w',dd,by rw [<- rel.length]; exact z,hw,fun h' dd' hs => h w' _ ?_ rw'⟩
 have he : ∃ q,h'.get? a = some q:=let ⟨q,_,_,hq,_⟩:=dd'; ⟨q,hq⟩
 exact d_write I (by rw [e]; exact True.intro) hs he (dk_new (Nat.le_trans (dropK_le kvs k) z) hd (rel.drop k) dd')
theorem d_len {Q : Value -> Shared -> Prop} (I : Inv X pins σ H s) (e : Rd H a (.dK kvs)) (h : ∀ t s',Inv X pins σ H s' -> Q (.int kvs.length t) s') : wpAny (model X.prog X.w) A (call (.builtin "len") [.ref a]) Q E s:=by
 obtain ⟨z,hd,vs,rel,dd⟩:=dk_rd I.hok e
 refine call_len_dict hd dd (by rw [<- rel.length]; rw [sizeLine_eq] at z; omega) ?_
 rw [<- rel.length]
 exact h _ _ (I.tok _)
end
noncomputable def NoSl (i : Expr) : Prop:=∀ ov iv,subscripted i false ov iv = operate [ov,iv] (getItem ov iv)
theorem subD_of {prog : Program} {w : World} {A : Around} {E : Value -> Shared -> Prop} {s : Shared} {env : Env} {value slice : Expr} {pos : Pos} {T id : String} {Q : Value -> Shared -> Prop}
  (hl : typeLookup (.type T) "__getitem__" = pure (some (.builtin id))) (hs : NoSl slice)
  (h : wpAny (model prog w) A (eval value env) (fun o s₁ => wpAny (model prog w) A (eval slice env) (fun i s₂ => s₂.TypeIs o T /\ wpAny (model prog w) A (getItem o i) Q E s₂) E s₁) E s) :
  wpAny (model prog w) A (eval (.Subscript value slice pos) env) Q E s:=by
 refine Subscript_ (wpAny_mono h (fun o s₁ h₁ => wpAny_mono h₁ (fun i s₂ h₂ => ?_) fun _ _ x => x) fun _ _ x => x)
 obtain ⟨hT,h₂⟩:=h₂
 unfold subscriptTail
 refine wpAny_bind ?_
 rw [getitemInPython_of_ne hT.not_modules]
 refine wpAny_bind (wpAny_specialOf hT hl ?_)
 have fin : wpAny (model prog w) A (subscripted slice false o i) (fun r s₃ => wpAny (model prog w) A (letTemporaryGo value o r >>= fun _ => pure r) Q E s₃) E s₂:=by
  rw [hs o i]
  exact wpAny_operating (wpAny_mono h₂ (fun r s₃ h₃ => wpAny_bind (wpAny_letTemporaryGo (wpAny_pure h₃))) fun _ _ x => x)
 first
  | exact wpAny_pure (wpAny_bind fin)
  | exact wpAny_bind (wpAny_pure (wpAny_bind fin))
  | exact wpAny_bind fin
theorem dict_typeIs {X : Cx} {pins : List (Addr × Obj)} {σ : St} {H : Hp} {s : Shared} {a : Addr} {y : V} {o : Option V} (I : Inv X pins σ H s) (g : DGet H a y o) : s.TypeIs (.ref a) "dict":=by
 rcases g with ⟨kvs,k,e,_,_⟩ | ⟨kvs,k,b,e,_,_,_⟩
 ·obtain ⟨_,_,vs,_,dd⟩:=dk_rd I.hok e
  exact dd.typeIs
 ·obtain ⟨_,_,xs,_,dd⟩:=dt_rd I.hok e
  exact dd.typeIs
inductive RDGet (x y : V) (H : Hp) (Q : VK) : Prop where | mk (a : Addr) (v : V) (ex : x = .ref a) (d : DGet H a y (some v)) (q : Q v H) : RDGet x y H Q
noncomputable def tDGet (td ty : TE) : TE:=fun σ H Q => td σ H fun x H1 => ty σ H1 fun y H2 => RDGet x y H2 Q
noncomputable def tDIn (ty td : TE) : TE:=fun σ H Q => ty σ H fun y H1 => td σ H1 fun x H2 => ∃ a o,x = .ref a /\ DGet H2 a y o /\ Q (.bl o.isSome) H2
noncomputable def tDNotIn (ty td : TE) : TE:=fun σ H Q => ty σ H fun y H1 => td σ H1 fun x H2 => ∃ a o,x = .ref a /\ DGet H2 a y o /\ Q (.bl (!o.isSome)) H2
noncomputable def sDPut (td ty tv : TE) : TS:=fun D σ H => tv σ H fun v H1 => td σ H1 fun x H2 => ty σ H2 fun y H3 => ∃ a H4,x = .ref a /\ DPut H3 a y v H4 /\ D.nx σ H4
section
variable {X : Cx} {o i e value : Expr} {pos pos' tpos : Pos} {td ty tv : TE}
theorem pe_dget (hu : X.A.units + 1 < cLine) (ho : PE X o td) (hi : PE X i ty) (hs : NoSl i) : PE X (.Subscript o i pos) (tDGet td ty):=by
 intro pins s σ H Q I h
 refine subD_of PySem.F.slot_dict_getitem.lookup hs (thn (ho pins s σ H _ I h) ?_)
 rintro u s1 ⟨x,H1,I1,rx,q1⟩
 refine thn (hi pins s1 σ H1 _ I1 q1) ?_
 rintro iv s2 ⟨y,H2,I2,ry,a,v,ex,g,q2⟩
 subst ex
 obtain rfl : u = Value.ref a:=rx
 exact ⟨dict_typeIs I2 g,d_getItem hu I2 g ry fun w' s3 I3 rw' => ⟨v,H2,I3,rw',q2⟩⟩
theorem pc_din (hu : X.A.units + 1 < cLine) (hi : PE X i ty) (ho : PE X o td) : PC X .In i o (tDIn ty td):=by
 intro pins s σ H Q I h
 refine thn (hi pins s σ H _ I h) ?_
 rintro iv s1 ⟨y,H1,I1,ry,q1⟩
 refine thn (ho pins s1 σ H1 _ I1 q1) ?_
 rintro u s2 ⟨x,H2,I2,rx,a,ov,ex,g,q2⟩
 subst ex
 obtain rfl : u = Value.ref a:=rx
 exact d_in hu I2 g ry fun s3 I3 => ⟨.bl ov.isSome,H2,I3,rfl,q2⟩
theorem pc_dnotin (hu : X.A.units + 1 < cLine) (hi : PE X i ty) (ho : PE X o td) : PC X .NotIn i o (tDNotIn ty td):=by
 intro pins s σ H Q I h
 refine thn (hi pins s σ H _ I h) ?_
 rintro iv s1 ⟨y,H1,I1,ry,q1⟩
 refine thn (ho pins s1 σ H1 _ I1 q1) ?_
 rintro u s2 ⟨x,H2,I2,rx,a,ov,ex,g,q2⟩
 subst ex
 obtain rfl : u = Value.ref a:=rx
 exact d_notIn hu I2 g ry fun s3 I3 => ⟨.bl (!ov.isSome),H2,I3,rfl,q2⟩
theorem ps_dput (hu : X.A.units + 1 < cLine) (ho : PE X o td) (hi : PE X i ty) (hv : PE X value tv) (hs : swapsWith value (some (.Subscript o i pos')) pos.line X.env = pure false) :
  PS X (.Assign [.Subscript o i pos'] value pos) (sDPut td ty tv):=by
 intro pins s σ H D I h
 refine wpAny_Assign_Subscript (thn (hv pins s σ H _ I h) ?_) hs
 rintro r s1 ⟨v,H1,I1,rv,q1⟩
 refine thn (ho pins s1 σ H1 _ I1 q1) ?_
 rintro u s2 ⟨x,H2,I2,rx,q2⟩
 refine thn (hi pins s2 σ H2 _ I2 q2) ?_
 rintro iv s3 ⟨y,H3,I3,ry,a,H4,ex,g,q3⟩
 subst ex
 obtain rfl : u = Value.ref a:=rx
 exact d_setItem hu I3 g ry rv fun s4 I4 => ⟨σ,H4,I4,q3⟩
end
theorem dk_empty {P : Program} {w : World} {H : Hp} (h : Heap) (hb : sysModules < h.objs.size) : ObjOk P w H (h.push { cls:=.type "dict",data:=.dict #[] }) h.objs.size (.dK []) :=
 ⟨Nat.zero_le _,beq_eq_false_iff_ne.mpr (Ne.symm (Nat.ne_of_lt hb)),[],.nil,Heap.DictOf.new h⟩
theorem dt_empty {P : Program} {w : World} {H : Hp} (h : Heap) (hb : sysModules < h.objs.size) : ObjOk P w H (h.push { cls:=.type "dict",data:=.dict #[] }) h.objs.size (.dT []) :=
 ⟨Nat.zero_le _,beq_eq_false_iff_ne.mpr (Ne.symm (Nat.ne_of_lt hb)),[],.nil,_,#[],0,Heap.get?_push_size _ rfl,⟨rfl,rfl,rfl⟩,rfl,rfl,List.nodup_nil⟩
noncomputable def tDNewK : TE:=fun _ H Q => ∀ p,H p = none -> Q (.ref p) (upd H p (.dK []))
section
variable {X : Cx} {pos : Pos}
theorem pe_dnewK : PE X (.Dict [] [] pos) tDNewK:=fun pins s σ H Q I h =>
 wpAny_Dict_empty ⟨.ref s.heap.objs.size,_,I.laid (a:=s.heap.objs.size) (o:=.dK []) (t':=s.toks) (fun _ _ q => Heap.get?_push_of_some _ q) (Nat.le_refl _) (dk_empty s.heap I.big),rfl,h _ (I.hok.fresh (Nat.le_refl _))⟩
end
structure M1 (X : Cx) (o : Expr) (m : Str) (apos : Pos) (e : Expr) (cpos : Pos) : Prop where
 base : attributeBase o m X.env (eval o X.env) = eval o X.env
 few : ((backTo cpos (starEach [e] X.env)).all (fun x => !x.1) && (backToKw cpos (keywordEach [] X.env)).all (fun x => x.1.isSome)
  && decide (([e] : List Expr).length + ([] : List Keyword).length + (if ([] : List Keyword).isEmpty then 0 else 1) < 30)) = true
 line : (apos.endLine == cpos.line) = true
 trees : backTo cpos (starEach [e] X.env) = [(false,eval e X.env)]
noncomputable def IsD (H : Hp) (a : Addr) : Prop:=(∃ kvs,Rd H a (.dK kvs)) ∨ ∃ kvs,Rd H a (.dT kvs)
theorem isD_at {X : Cx} {pins : List (Addr × Obj)} {σ : St} {H : Hp} {s : Shared} {a : Addr} (I : Inv X pins σ H s) (d : IsD H a) :
  s.TypeIs (.ref a) "dict" /\ (∀ b,Value.ref a = .ref b -> ∃ ob,s.heap.get? b = some ob /\ ob.dict = none) /\ (a == sysModules) = false:=by
 rcases d with ⟨kvs,e⟩ | ⟨kvs,e⟩
 ·obtain ⟨_,hd,vs,_,dd⟩:=dk_rd I.hok e
  refine ⟨dd.typeIs,fun b q => ?_,hd⟩
  cases q
  obtain ⟨ob,_,_,h1,h2,_⟩:=dd
  exact ⟨ob,h1,h2.2.1⟩
 ·obtain ⟨_,hd,xs,_,dd⟩:=dt_rd I.hok e
  refine ⟨dd.typeIs,fun b q => ?_,hd⟩
  cases q
  obtain ⟨ob,_,_,h1,h2,_⟩:=dd
  exact ⟨ob,h1,h2.2.1⟩
section
variable {X : Cx} {pins : List (Addr × Obj)} {σ : St} {H : Hp} {s : Shared} {a : Addr} {y d : V} {u r : Value} {o : Option V} {A : Around} {E : Value -> Shared -> Prop}
end
noncomputable def tDPop1 (td ty : TE) : TE:=fun σ H Q => td σ H fun x H1 => ∃ a,x = .ref a /\ IsD H1 a /\ ty σ H1 fun y H2 => ∃ kvs k v,H2 a = some (.dK kvs) /\ y = kV k /\ valV kvs k = some v /\ Q v (upd H2 a (.dK (dropK kvs k)))
section
variable {X : Cx} {o e f : Expr} {apos cpos : Pos} {td ty tx : TE}
theorem pe_dpop1 (ho : PE X o td) (he : PE X e ty) (m : M1 X o "pop" apos e cpos) : PE X (.Call (.Attribute o "pop" apos) [e] [] cpos) (tDPop1 td ty):=by
 intro pins s σ H Q I h
 refine wpAny_Call_method m.base m.few m.line PySem.F.plainAttrs_dict PySem.F.slot_dict_pop PySem.F.type_dict_pop (thn (ho pins s σ H _ I h) ?_)
 rintro u s1 ⟨x,H1,I1,rx,a,ex,d,q1⟩
 subst ex
 obtain rfl : u = Value.ref a:=rx
 obtain ⟨t1,t2,_⟩:=isD_at I1 d
 refine ⟨t1,t2,?_⟩
 rw [m.trees]
 refine Calls.callWith_builtin rfl (Calls.evalArgs_plain (Calls.spliced_cons (thn (he pins s1 σ H1 _ I1 q1) ?_)))
 rintro iv s2 ⟨y,H2,I2,ry,kvs,k,v,ea,ey,l,q2⟩
 refine Calls.spliced_nil ?_
 subst ey
 exact d_pop I2 ea ry l (.inl rfl) fun w' s3 I3 rw' => ⟨v,_,I3,rw',q2⟩
end
section
variable {X : Cx} {pins : List (Addr × Obj)} {σ : St} {H : Hp} {s : Shared} {a : Addr} {kvs : List (Key × V)} {A : Around} {E : Value -> Shared -> Prop}
theorem d_copyOf {Q : Value -> Shared -> Prop} (I : Inv X pins σ H s) (e : Rd H a (.dK kvs)) (h : ∀ p s',H p = none -> Inv X pins σ (upd H p (.dK kvs)) s' -> Q (.ref p) s') : wpAny (model X.prog X.w) A (call (.type "dict") [.ref a]) Q E s:=by
 obtain ⟨z,hd,vs,rel,dd⟩:=dk_rd I.hok e
 refine kt_call_dict hd dd (by rw [<- rel.length]; exact z) fun h' dd' hs => ?_
 refine h _ _ (I.hok.fresh (Nat.le_refl _)) (I.laid (a:=s.heap.objs.size) (o:=.dK kvs) (t':=s.toks) (fun b q hq => ?_) (Nat.le_refl _) (dk_new z (beq_eq_false_iff_ne.mpr (Ne.symm (Nat.ne_of_lt I.big))) rel dd'))
 exact (hs.2 b (Nat.ne_of_lt (Heap.lt_size hq))).trans (Heap.get?_push_of_some _ hq)
end
section
variable {X : Cx} {pins : List (Addr × Obj)} {σ : St} {H : Hp} {s : Shared} {a : Addr} {y : V} {u : Value} {A : Around} {E : Value -> Shared -> Prop}
end
end L2
namespace L2
open PySem PySem.Spec PyProof.Rows
section
variable {X : Cx}
theorem call_lenD : CallR X (.builtin "len") (fun xs H Q => ∃ a kvs,xs = [V.ref a] /\ H a = some (.dK kvs) /\ Q (.int kvs.length) H):=by
 intro pins s σ H xs us Q I r h
 obtain ⟨a,kvs,rfl,ha,q⟩:=h
 obtain ⟨u,rfl,ru⟩:=vals1 r
 cases ru
 exact d_len I (.inl ha) fun t s' I' => ⟨.int kvs.length,H,I',⟨t,rfl⟩,q⟩
end
section
variable {κ : Type} [DecidableEq κ]
end
end L2
set_option maxHeartbeats 4000000
namespace L2
open PySem PySem.Spec PyProof.Rows
noncomputable instance : Inhabited V:=⟨.non⟩
section
variable {X : Cx}
theorem call_isinst : CallR X (.builtin "isinstance") (fun xs H Q => ∃ x n t b,xs = [x,.ty n] /\ TyOf X.K H x t /\ PySem.W.kitOne X.K t (.type n) = some b /\ Q (.bl b) H):=by
 intro pins s σ H xs us Q I r h
 obtain ⟨x,n,t,b,rfl,ty,e,q⟩:=h
 obtain ⟨u,u',rfl,rx,ru⟩:=vals2 r
 cases (show u' = Value.type n from ru)
 exact isinst_ok I rx ty e fun tk => ⟨.bl b,H,I.tok tk,rfl,q⟩
end
section
variable {K : PySem.W.Frag}
theorem kit_int_int : PySem.W.kitOne K (.type "int") (.type "int") = some true:=by first | rfl | (unfold PySem.W.kitOne; simp)
theorem kit_int_bool : PySem.W.kitOne K (.type "int") (.type "bool") = some false:=by first | rfl | decide +kernel
theorem kit_bool_bool : PySem.W.kitOne K (.type "bool") (.type "bool") = some true:=by first | rfl | (unfold PySem.W.kitOne; simp)
theorem kit_list_list : PySem.W.kitOne K (.type "list") (.type "list") = some true:=by first | rfl | (unfold PySem.W.kitOne; simp)
theorem kit_tuple_tuple : PySem.W.kitOne K (.type "tuple") (.type "tuple") = some true:=by first | rfl | (unfold PySem.W.kitOne; simp)
theorem kit_str_str : PySem.W.kitOne K (.type "str") (.type "str") = some true:=by first | rfl | (unfold PySem.W.kitOne; simp)
end
inductive EqH (K : PySem.W.Frag) (H : Hp) : V -> V -> Bool -> Prop where
 | flat {x y : V} (hx : flatV x = true) (hy : flatV y = true) : EqH K H x y (eqV x y)
 | same (p : Addr) : EqH K H (.ref p) (.ref p) true
 | tup {p q : Addr} {xs ys : List V} (hn : p ≠ q) (hp : SqT K H p xs) (hq : SqT K H q ys) (fx : xs.all flatV = true) (fy : ys.all flatV = true) :
   EqH K H (.ref p) (.ref q) ((List.range (min xs.length ys.length)).all (fun j => eqV (xs.getD j .non) (ys.getD j .non)) && xs.length == ys.length)
theorem all_flat_get {xs : List V} (f : xs.all flatV = true) {j : Nat} {x : V} (h : xs[j]? = some x) : flatV x = true :=
 List.all_eq_true.mp f x (List.mem_of_getElem? h)
theorem eqAt_items {A : Around} {s : Shared} {xs ys : List V} {its its2 : List Value} (r : Vals xs its) (r2 : Vals ys its2) (fx : xs.all flatV = true) (fy : ys.all flatV = true) :
  ∀ j (h1 : j < its.toArray.size) (h2 : j < its2.toArray.size),SeqAt.EqAt A s its.toArray[j] its2.toArray[j] (eqV (xs.getD j .non) (ys.getD j .non)):=by
 intro j h1 h2
 rw [List.size_toArray] at h1 h2
 have hx : xs[j]? = some xs[j]!:=by
  have : j < xs.length:=by rw [r.length]; exact h1
  simp [this]
 have hy : ys[j]? = some ys[j]!:=by
  have : j < ys.length:=by rw [r2.length]; exact h2
  simp [this]
 obtain ⟨u,hu,ru⟩:=r.get hx
 obtain ⟨v,hv,rv⟩:=r2.get hy
 have e1 : its.toArray[j] = u:=by
  have:=List.getElem?_eq_some_iff.mp hu
  obtain ⟨_,e⟩:=this
  simpa using e
 have e2 : its2.toArray[j] = v:=by
  have:=List.getElem?_eq_some_iff.mp hv
  obtain ⟨_,e⟩:=this
  simpa using e
 rw [e1,e2]
 have g1 : xs.getD j .non = xs[j]!:=by rw [List.getD_eq_getElem?_getD,hx]; rfl
 have g2 : ys.getD j .non = ys[j]!:=by rw [List.getD_eq_getElem?_getD,hy]; rfl
 rw [g1,g2]
 exact eqAt_V ru rv (all_flat_get fx hx) (all_flat_get fy hy)
theorem EqH.at {X : Cx} {pins : List (Addr × Obj)} {σ : St} {H : Hp} {s : Shared} {A : Around} {x y : V} {u v : Value} {b : Bool} (h : EqH X.K H x y b) (I : Inv X pins σ H s) (rx : RelV x u) (ry : RelV y v) (hu : A.units < cLine) : SeqAt.EqAt A s u v b:=by
 cases h with
 | flat hx hy => exact eqAt_V rx ry hx hy
 | same p =>
  cases (show u = Value.ref p from rx)
  cases (show v = Value.ref p from ry)
  exact SeqAt.EqAt.same _
 | @tup p q xs ys hn hp hq fx fy =>
  cases (show u = Value.ref p from rx)
  cases (show v = Value.ref q from ry)
  obtain ⟨its,r,pl,_⟩:=I.tuple hp
  obtain ⟨its2,r2,pl2,_⟩:=I.tuple hq
  refine SeqAt.EqAt.of_refs hn ?_
  have e1 : its.toArray.size = xs.length:=by rw [List.size_toArray]; exact r.length.symm
  have e2 : its2.toArray.size = ys.length:=by rw [List.size_toArray]; exact r2.length.symm
  have z:=SeqAt.RcAt.tuples (A:=A) pl pl2 hu (eqAt_items r r2 fx fy)
  rw [e1,e2] at z
  exact z
noncomputable def EqLs (K : PySem.W.Frag) (H : Hp) (xs ys : List V) (b : Bool) : Prop :=
 (xs.length ≠ ys.length /\ b = false) ∨ (xs.length = ys.length /\ ∃ e : Nat -> Bool,(∀ (j : Nat) x y,xs[j]? = some x -> ys[j]? = some y -> EqH K H x y (e j)) /\ b = (List.range xs.length).all e)
theorem EqLs.refl {K : PySem.W.Frag} {H : Hp} {xs : List V} (h : ∀ x ∈ xs,EqH K H x x true) : EqLs K H xs xs true :=
 .inr ⟨rfl,fun _ => true,fun j x y hx hy => by rw [hx] at hy; cases hy; exact h x (List.mem_of_getElem? hx),by simp⟩
section
variable {X : Cx}
theorem eqLs_at {A : Around} {pins : List (Addr × Obj)} {σ : St} {H : Hp} {s : Shared} {xs ys : List V} {its its2 : List Value} {e : Nat -> Bool} (I : Inv X pins σ H s) (hu : A.units < cLine) (r : Vals xs its) (r2 : Vals ys its2)
  (he : ∀ (j : Nat) x y,xs[j]? = some x -> ys[j]? = some y -> EqH X.K H x y (e j)) :
  ∀ j (h1 : j < its.toArray.size) (h2 : j < its2.toArray.size),SeqAt.EqAt A s its.toArray[j] its2.toArray[j] (e j):=by
 intro j h1 h2
 rw [List.size_toArray] at h1 h2
 have hx : xs[j]? = some xs[j]!:=by
  have : j < xs.length:=by rw [r.length]; exact h1
  simp [this]
 have hy : ys[j]? = some ys[j]!:=by
  have : j < ys.length:=by rw [r2.length]; exact h2
  simp [this]
 obtain ⟨u,hu',ru⟩:=r.get hx
 obtain ⟨v,hv,rv⟩:=r2.get hy
 have e1 : its.toArray[j] = u:=by
  obtain ⟨_,e⟩:=List.getElem?_eq_some_iff.mp hu'
  simpa using e
 have e2 : its2.toArray[j] = v:=by
  obtain ⟨_,e⟩:=List.getElem?_eq_some_iff.mp hv
  simpa using e
 rw [e1,e2]
 exact (he j _ _ hx hy).at I ru rv hu
noncomputable def rEqL (K : PySem.W.Frag) (neg : Bool) : R2:=fun x y H Q => ∃ a b xs ys k,x = .ref a /\ y = .ref b /\ SqL K H a xs /\ SqL K H b ys /\ EqLs K H xs ys k /\ Q (.bl (if neg then !k else k)) H
theorem op_eqL (hu : X.A.units + 1 < cLine) : OpR X (compareOp .Eq) (rEqL X.K false):=by
 intro pins s σ H x y v u Q I rx ry h
 obtain ⟨a,b,xs,ys,k,rfl,rfl,ha,hb,he,q⟩:=h
 cases (show v = Value.ref a from rx)
 cases (show u = Value.ref b from ry)
 obtain ⟨its,r,pl,_⟩:=I.list ha
 obtain ⟨its2,r2,pl2,_⟩:=I.list hb
 have l1:=r.length
 have l2:=r2.length
 rcases he with ⟨hn,rfl⟩ | ⟨hn,e,he,rfl⟩
 ·exact SeqAt.eq_list_lengthsAt pl.isList pl2.isList (by simp only [List.size_toArray,bne_iff_ne]; omega) (by omega) ⟨.bl false,H,I,rfl,q⟩
 ·refine SeqAt.eq_listAt pl.isList pl2.isList (by simp only [List.size_toArray]; omega) (by omega) (eqLs_at (A:=X.A.in1) I (by show X.A.units + 1 < cLine; omega) r r2 he) ⟨.bl _,H,I,rfl,?_⟩
  rw [List.size_toArray,<- l1]
  exact q
theorem op_neL (hu : X.A.units + 1 < cLine) : OpR X (compareOp .NotEq) (rEqL X.K true):=by
 intro pins s σ H x y v u Q I rx ry h
 obtain ⟨a,b,xs,ys,k,rfl,rfl,ha,hb,he,q⟩:=h
 cases (show v = Value.ref a from rx)
 cases (show u = Value.ref b from ry)
 obtain ⟨its,r,pl,_⟩:=I.list ha
 obtain ⟨its2,r2,pl2,_⟩:=I.list hb
 have l1:=r.length
 have l2:=r2.length
 rcases he with ⟨hn,rfl⟩ | ⟨hn,e,he,rfl⟩
 ·exact SeqAt.RcNeAt.lists_lengths (A:=X.A) (s:=s) pl.isList pl2.isList (by simp only [List.size_toArray,bne_iff_ne]; omega) (by omega) _ _ _ _ ⟨.bl true,H,I,rfl,q⟩
 ·refine SeqAt.RcNeAt.lists (A:=X.A) (s:=s) pl.isList pl2.isList (by simp only [List.size_toArray]; omega) (by omega) (eqLs_at (A:=X.A.in1) I (by show X.A.units + 1 < cLine; omega) r r2 he) _ _ _ _ ⟨.bl _,H,I,rfl,?_⟩
  rw [List.size_toArray,<- l1]
  exact q
theorem eqLs_nil {K : PySem.W.Frag} {H : Hp} {xs : List V} : EqLs K H xs [] (decide (xs = [])):=by
 cases xs with
 | nil => exact .inr ⟨rfl,fun _ => true,fun j x y hx hy => by simp at hx,by simp⟩
 | cons x r => exact .inl ⟨by simp,by simp⟩
theorem mt_index : MtR X "str.index" (fun x vs H Q => ∃ i j k,x = .str i /\ vs = [.str j] /\ (∃ r,Builtin.Str.occurrences i j 0 i.length 1 = k :: r) /\ Q (.int (k : Nat)) H):=by
 intro pins s σ H x xs v us Q I rx rs h
 obtain ⟨i,j,k,rfl,rfl,⟨r,ho⟩,q⟩:=h
 obtain ⟨t,rfl⟩:=(show ∃ t,v = Value.str i t from rx)
 obtain ⟨u,rfl,ru⟩:=vals1 rs
 obtain ⟨t',rfl⟩:=(show ∃ t,u = Value.str j t from ru)
 exact SC.index ho ⟨.int (k : Nat),H,I.tok _,⟨_,rfl⟩,q⟩
end
end L2
set_option maxHeartbeats 4000000
namespace L2
open PySem
open PySem.Sem (wp)
section
variable {prog : Program} {w : World} {A : Around} {E : Value -> Shared -> Prop} {s : Shared}
theorem nextOf_tuple_item {it t : Addr} {i : Nat} {items : Array Value} {x : Value} {Q : Value -> Shared -> Prop} (hit : s.heap.IsTupleIter it t i)
  (ht : s.heap.IsTuple t items) (hx : items[i]? = some x)
  (hQ : ∀ h',h'.IsTupleIter it t (i + 1) -> Heap.SameBut it s.heap h' -> Q x { s with heap:=h' }) :
  wpAny (model prog w) A (Builtin.SmallTypes.nextOf (.ref it)) Q E s:=by
 obtain ⟨o,ho,hc,hd⟩:=id hit
 obtain ⟨ol,hol,_,nl,hdl⟩:=ht
 unfold Builtin.SmallTypes.nextOf
 refine wpAny_bind (wpAny_callSpecial?_slot (name:=Str.ofString "__next__") hit.typeIs F.slot_tuple_iterator_next
  (wpAny_call_entry F.slot_tuple_iterator_next hit.typeIs F.entry_tuple_iterator_next ?_ (F.args_tuple_iterator_next_1 _)))
 show wpAny _ _ (field (.ref it) 0 >>= _) _ _ s
 refine wpAny_bind (wpAny_field ho hd (x:=.ref t) rfl ?_)
 show wpAny _ _ (if (Value.ref t == Value.none) = true then _ else _) _ _ s
 rw [if_neg (show ¬ ((Value.ref t == Value.none) = true) from Bool.false_ne_true)]
 show wpAny _ _ (field (.ref it) 1 >>= _) _ _ s
 refine wpAny_bind (wpAny_field ho hd (x:=.int i 0) rfl ?_)
 show wpAny _ _ (seqItems? (.ref t) >>= _) _ _ s
 refine wpAny_bind (wpAny_seqItems hol hdl ?_)
 simp only [Int.toNat_natCast,hx]
 refine wpAny_bind (wpAny_setField ho hd (by simp) (wpAny_pure ⟨x,rfl,wpAny_pure (hQ _ ?_ (Heap.SameBut.update ..))⟩))
 exact ⟨_,Heap.get?_update_self _ ho (Obj.isFreed_of_fields (Obj.data_mapFields hd _)),(Obj.cls_mapFields ..).trans hc,by
  rw [Obj.data_mapFields hd]; simp [rawInt]⟩
theorem zipST_item {z TI TO i1 i2 l2 : Addr} {k : Nat} {x : Str} {tx : Tok} {ys : Array Value} {c : Nat} {y a b : Value} {Q : Value -> Shared -> Prop} (D : ZipApart z TI TO i1 i2 TI l2)
  (hz : IsZip s.heap z TI TO .none) (hTI : IsPair s.heap TI (.ref i1) (.ref i2)) (hTO : IsPair s.heap TO a b)
  (h1 : s.heap.IsStrIter i1 "str_ascii_iterator" x tx k) (h2 : s.heap.IsTupleIter i2 l2 k) (hl2 : s.heap.IsTuple l2 ys) (hx : x.cps[k]? = some c) (hy : ys[k]? = some y)
  (hQ : ∀ h',IsZip h' z TI TO (rawInt s.heap.objs.size) -> IsPair h' TO (.str ⟨#[c]⟩ s.toks) y -> h'.IsStrIter i1 "str_ascii_iterator" x tx (k + 1) -> h'.IsTupleIter i2 l2 (k + 1) -> IsPair h' s.heap.objs.size (.str ⟨#[c]⟩ s.toks) y -> h'.objs.size = s.heap.objs.size + 1 ->
   (∀ c o,c ≠ z -> c ≠ TO -> c ≠ i1 -> c ≠ i2 -> s.heap.get? c = some o -> h'.get? c = some o) -> Q (.ref s.heap.objs.size) { s with heap:=h',toks:=s.toks + 1 }) :
  wpAny (model prog w) A (Builtin.«zip.__next__» ⟨[.ref z],[]⟩) (fun fin s' => ∃ v,fin = .done (.ret v) /\ Q v s') E s:=by
 show wpAny _ _ (field (.ref z) 2 >>= _) _ _ _
 refine wpAny_bind (wpAny_field hz rfl (x:=.bool false) rfl ?_)
 show wpAny _ _ (field (.ref z) 3 >>= _) _ _ _
 refine wpAny_bind (wpAny_field hz rfl (x:=.ref TI) rfl ?_)
 refine wpAny_bind (wpAny_seqItems hTI rfl ?_)
 show wpAny _ _ (Builtin.SmallTypes.ownedTupleIsFree (.ref z) >>= _) _ _ _
 refine wpAny_bind ?_
 unfold Builtin.SmallTypes.ownedTupleIsFree
 refine wpAny_bind (wpAny_field hz rfl (x:=.none) rfl (wpAny_pure ?_))
 simp only [if_true]
 refine wpAny_bind (wpAny_rule ?_)
 refine wpAny_bind (wpAny_field hz rfl (x:=.ref TO) rfl ?_)
 refine wpAny_bind (wpAny_setField_rec hz (by simp) fun h₁ hz₁ hs₁ => ?_)
 replace hz₁ : IsZip h₁ z TI TO .ellipsis:=hz₁
 refine wpAny_bind ?_
 simp only [List.zipIdx_cons,List.zipIdx_nil,List.forIn_cons,List.forIn_nil]
 refine wpAny_bind (wpAny_bind (wpAny_onRaise ?_))
 show wpAny _ _ (Builtin.SmallTypes.nextOf (.ref i1) >>= _) _ _ _
 refine wpAny_bind (wpAny_nextOf_ascii_item (h1.extBut hs₁.extBut D.i1z) hx fun h₂ h1₂ hs₂ => wpAny_pure ?_)
 have hTO₂ : IsPair h₂ TO a b:=hs₂.extBut _ _ D.TOi1 (hs₁.extBut _ _ D.TOz hTO)
 refine wpAny_bind (wpAny_seqItems hTO₂ rfl ?_)
 refine wpAny_bind (wpAny_updateSeq_pair hTO₂ fun h₃ hTO₃ hs₃ => ?_)
 replace hTO₃ : IsPair h₃ TO (.str ⟨#[c]⟩ s.toks) b:=hTO₃
 refine wpAny_bind (wpAny_letGo (wpAny_pure ?_))
 refine wpAny_bind (wpAny_bind (wpAny_onRaise ?_))
 show wpAny _ _ (Builtin.SmallTypes.nextOf (.ref i2) >>= _) _ _ _
 refine wpAny_bind (nextOf_tuple_item (((h2.extBut hs₁.extBut D.i2z).extBut hs₂.extBut D.i12.symm).extBut hs₃.extBut D.TOi2.symm)
  (((hl2.extBut hs₁.extBut D.l2z).extBut hs₂.extBut D.l2i1).extBut hs₃.extBut D.l2TO) hy fun h₄ h2₄ hs₄ => wpAny_pure ?_)
 have hTO₄ : IsPair h₄ TO (.str ⟨#[c]⟩ s.toks) b:=hs₄.extBut _ _ D.TOi2 hTO₃
 refine wpAny_bind (wpAny_seqItems hTO₄ rfl ?_)
 refine wpAny_bind (wpAny_updateSeq_pair hTO₄ fun h₅ hTO₅ hs₅ => ?_)
 replace hTO₅ : IsPair h₅ TO (.str ⟨#[c]⟩ s.toks) y:=hTO₅
 refine wpAny_bind (wpAny_letGo (wpAny_pure (wpAny_pure ?_)))
 refine wpAny_bind (wpAny_seqItems hTO₅ rfl ?_)
 refine wpAny_bind (wpAny_newTuple ?_)
 have hsz : h₅.objs.size = s.heap.objs.size:=by rw [hs₅.1,hs₄.1,hs₃.1,hs₂.1,hs₁.1]
 have hz₅ : IsZip h₅ z TI TO .ellipsis:=hs₅.extBut _ _ D.TOz.symm (hs₄.extBut _ _ D.i2z.symm (hs₃.extBut _ _ D.TOz.symm (hs₂.extBut _ _ D.i1z.symm hz₁)))
 have hk₅ : ∀ c o,c ≠ z -> c ≠ TO -> c ≠ i1 -> c ≠ i2 -> s.heap.get? c = some o -> h₅.get? c = some o:=fun c o c1 c2 c3 c4 e =>
  hs₅.extBut _ _ c2 (hs₄.extBut _ _ c4 (hs₃.extBut _ _ c2 (hs₂.extBut _ _ c3 (hs₁.extBut _ _ c1 e))))
 have h1₅ : h₅.IsStrIter i1 "str_ascii_iterator" x tx (k + 1):=((h1₂.extBut hs₃.extBut D.TOi1.symm).extBut hs₄.extBut D.i12).extBut hs₅.extBut D.TOi1.symm
 have h2₅ : h₅.IsTupleIter i2 l2 (k + 1):=h2₄.extBut hs₅.extBut D.TOi2.symm
 have hzlt : z < h₅.objs.size:=Heap.lt_size hz₅
 show wpAny _ _ (Builtin.SmallTypes.ownedTupleHandOut (.ref z) (.ref h₅.objs.size) >>= _) _ _ _
 refine wpAny_bind ?_
 unfold Builtin.SmallTypes.ownedTupleHandOut
 have hz₆ : IsZip (h₅.push { cls:=.type "tuple",data:=.seq #[.str ⟨#[c]⟩ s.toks,y] }) z TI TO .ellipsis:=Heap.get?_push_of_some _ hz₅
 refine wpAny_bind (wpAny_setField_rec hz₆ (by simp) fun h₇ hz₇ hs₇ => ?_)
 replace hz₇ : IsZip h₇ z TI TO (rawInt h₅.objs.size):=hz₇
 refine wpAny_setField_rec hz₇ (by simp) fun h₈ hz₈ hs₈ => ?_
 replace hz₈ : IsZip h₈ z TI TO (rawInt h₅.objs.size):=hz₈
 have up : ∀ c o,c ≠ z -> h₅.get? c = some o -> h₈.get? c = some o:=fun c o c1 e => hs₈.extBut _ _ c1 (hs₇.extBut _ _ c1 (Heap.get?_push_of_some _ e))
 have hT₈ : IsPair h₈ h₅.objs.size (.str ⟨#[c]⟩ s.toks) y:=hs₈.extBut _ _ (Nat.ne_of_gt hzlt) (hs₇.extBut _ _ (Nat.ne_of_gt hzlt) (Heap.get?_push_size _ rfl))
 have hz8 : h₈.objs.size = h₅.objs.size + 1:=by rw [hs₈.1,hs₇.1,Heap.size_push]
 rw [hsz] at hz₈ hT₈ hz8
 refine wpAny_pure ⟨_,rfl,?_⟩
 show Q (.ref h₅.objs.size) _
 rw [hsz]
 refine hQ h₈ hz₈ (up _ _ D.TOz hTO₅) ?_ ?_ hT₈ hz8 fun c o c1 c2 c3 c4 e => up c o c1 (hk₅ c o c1 c2 c3 c4 e)
 ·obtain ⟨o,e,r⟩:=h1₅
  exact ⟨o,up _ o D.i1z e,r⟩
 ·obtain ⟨o,e,r⟩:=h2₅
  exact ⟨o,up _ o D.i2z e,r⟩
theorem zipST_end {z TI TO i1 i2 l2 : Addr} {k : Nat} {x : Str} {tx : Tok} {a b : Value} {Q : Fin -> Shared -> Prop} (hh : A.handled = none) (D : ZipApart z TI TO i1 i2 TI l2)
  (hz : IsZip s.heap z TI TO .none) (hTI : IsPair s.heap TI (.ref i1) (.ref i2)) (hTO : IsPair s.heap TO a b)
  (h1 : s.heap.IsStrIter i1 "str_ascii_iterator" x tx k) (hx : x.cps[k]? = none)
  (hE : ∀ h' e,(∀ c o,c ≠ z -> c ≠ TO -> c ≠ i1 -> c ≠ i2 -> s.heap.get? c = some o -> h'.get? c = some o) -> (∃ o,h'.get? e = some o /\ o.cls = .type "StopIteration") -> E (.ref e) { s with heap:=h' }) :
  wpAny (model prog w) A (Builtin.«zip.__next__» ⟨[.ref z],[]⟩) Q E s:=by
 show wpAny _ _ (field (.ref z) 2 >>= _) _ _ _
 refine wpAny_bind (wpAny_field hz rfl (x:=.bool false) rfl ?_)
 show wpAny _ _ (field (.ref z) 3 >>= _) _ _ _
 refine wpAny_bind (wpAny_field hz rfl (x:=.ref TI) rfl ?_)
 refine wpAny_bind (wpAny_seqItems hTI rfl ?_)
 show wpAny _ _ (Builtin.SmallTypes.ownedTupleIsFree (.ref z) >>= _) _ _ _
 refine wpAny_bind ?_
 unfold Builtin.SmallTypes.ownedTupleIsFree
 refine wpAny_bind (wpAny_field hz rfl (x:=.none) rfl (wpAny_pure ?_))
 simp only [if_true]
 refine wpAny_bind (wpAny_rule ?_)
 refine wpAny_bind (wpAny_field hz rfl (x:=.ref TO) rfl ?_)
 refine wpAny_bind (wpAny_setField_rec hz (by simp) fun h₁ hz₁ hs₁ => ?_)
 replace hz₁ : IsZip h₁ z TI TO .ellipsis:=hz₁
 refine wpAny_bind ?_
 simp only [List.zipIdx_cons,List.zipIdx_nil,List.forIn_cons,List.forIn_nil]
 refine wpAny_bind (wpAny_bind (wpAny_onRaise ?_))
 show wpAny _ _ (Builtin.SmallTypes.nextOf (.ref i1) >>= _) _ _ _
 refine wpAny_bind (wpAny_nextOf_ascii_end hh (h1.extBut hs₁.extBut D.i1z) hx fun h₂ e hs₂ he => ?_)
 obtain ⟨oe,hoe,hce⟩:=he
 have hz₂ : IsZip h₂ z TI TO .ellipsis:=hs₂ _ _ D.i1z.symm hz₁
 have hez : e ≠ z:=fun x => by subst x; rw [hz₂] at hoe; cases hoe; simp at hce
 refine wpAny_setField_rec hz₂ (by simp) fun h₃ _ hs₃ => hE h₃ e (fun c o c1 _ c3 _ x => hs₃.extBut _ _ c1 (hs₂ _ _ c3 (hs₁.extBut _ _ c1 x))) ⟨oe,hs₃.extBut _ _ hez hoe,hce⟩
theorem pyNext_zipST_item {z TI TO i1 i2 l2 : Addr} {k : Nat} {x : Str} {tx : Tok} {ys : Array Value} {c : Nat} {y a b : Value} {Q : Option Value -> Shared -> Prop} (D : ZipApart z TI TO i1 i2 TI l2)
  (hz : IsZip s.heap z TI TO .none) (hTI : IsPair s.heap TI (.ref i1) (.ref i2)) (hTO : IsPair s.heap TO a b)
  (h1 : s.heap.IsStrIter i1 "str_ascii_iterator" x tx k) (h2 : s.heap.IsTupleIter i2 l2 k) (hl2 : s.heap.IsTuple l2 ys) (hx : x.cps[k]? = some c) (hy : ys[k]? = some y)
  (hQ : ∀ h',IsZip h' z TI TO (rawInt s.heap.objs.size) -> IsPair h' TO (.str ⟨#[c]⟩ s.toks) y -> h'.IsStrIter i1 "str_ascii_iterator" x tx (k + 1) -> h'.IsTupleIter i2 l2 (k + 1) -> IsPair h' s.heap.objs.size (.str ⟨#[c]⟩ s.toks) y -> h'.objs.size = s.heap.objs.size + 1 ->
   (∀ c o,c ≠ z -> c ≠ TO -> c ≠ i1 -> c ≠ i2 -> s.heap.get? c = some o -> h'.get? c = some o) -> Q (some (.ref s.heap.objs.size)) { s with heap:=h',toks:=s.toks + 1 }) :
  wpAny (model prog w) A (pyNext (.ref z)) Q E s:=by
 have hT : s.TypeIs (.ref z) "zip":=⟨_,hz,rfl⟩
 unfold pyNext
 exact wpAny_bind (wpAny_attempt (wpAny_callSpecial?_slot (name:=Str.ofString "__next__") hT F.slot_zip_next
  (wpAny_call_entry F.slot_zip_next hT F.entry_zip_next
   (zipST_item D hz hTI hTO h1 h2 hl2 hx hy fun h' a1 a2 a3 a4 a5 a6 a7 => wpAny_pure (hQ h' a1 a2 a3 a4 a5 a6 a7)) (F.args_zip_next_1 _))))
theorem pyNext_zipST_end {z TI TO i1 i2 l2 : Addr} {k : Nat} {x : Str} {tx : Tok} {a b : Value} {Q : Option Value -> Shared -> Prop} (hh : A.handled = none) (D : ZipApart z TI TO i1 i2 TI l2)
  (hz : IsZip s.heap z TI TO .none) (hTI : IsPair s.heap TI (.ref i1) (.ref i2)) (hTO : IsPair s.heap TO a b)
  (h1 : s.heap.IsStrIter i1 "str_ascii_iterator" x tx k) (hx : x.cps[k]? = none)
  (hQ : ∀ h',(∀ c o,c ≠ z -> c ≠ TO -> c ≠ i1 -> c ≠ i2 -> s.heap.get? c = some o -> h'.get? c = some o) -> Q none { s with heap:=h' }) : wpAny (model prog w) A (pyNext (.ref z)) Q E s:=by
 have hT : s.TypeIs (.ref z) "zip":=⟨_,hz,rfl⟩
 unfold pyNext
 refine wpAny_bind (wpAny_attempt (wpAny_callSpecial?_slot (name:=Str.ofString "__next__") hT F.slot_zip_next
  (wpAny_call_entry F.slot_zip_next hT F.entry_zip_next (zipST_end hh D hz hTI hTO h1 hx fun h' e hk he => ?_) (F.args_zip_next_1 _))))
 obtain ⟨o,ho,hc⟩:=he
 refine wpAny_bind (wpAny_isInstance (T:="StopIteration") (b:=true) ⟨o,ho,hc⟩ isSubtype_stop ?_)
 exact wpAny_pure (hQ _ hk)
end
noncomputable abbrev zs1 (h : Heap) (x : Str) (t : Tok) : Heap:=h.push { cls:=.type "str_ascii_iterator",data:=.fields #[.str x t,.int 0 0] }
noncomputable abbrev zs2 (h : Heap) (x : Str) (t : Tok) (l2 : Addr) : Heap:=(zs1 h x t).push { cls:=.type "tuple_iterator",data:=.fields #[.ref l2,.int 0 0] }
noncomputable abbrev zs3 (h : Heap) (x : Str) (t : Tok) (l2 : Addr) : Heap:=(zs2 h x t l2).push { cls:=.type "tuple",data:=.seq #[.ref h.objs.size,.ref (zs1 h x t).objs.size] }
noncomputable abbrev zs4 (h : Heap) (x : Str) (t : Tok) (l2 : Addr) : Heap:=(zs3 h x t l2).push { cls:=.type "tuple",data:=.seq #[.none,.none] }
noncomputable abbrev zs5 (h : Heap) (x : Str) (t : Tok) (l2 : Addr) : Heap:=(zs4 h x t l2).push { cls:=.type "zip",data:=.fields #[.none,.bool false,.bool false,.ref (zs2 h x t l2).objs.size,.ref (zs3 h x t l2).objs.size] }
theorem meets_zipST_new (x : Str) (t : Tok) (l2 : Addr) (ys : Array Value) (ha : x.cps.all (· < 128) = true) :
  Meets (Builtin.«zip.__new__» ⟨[.type "zip",.str x t,.ref l2],[]⟩) (fun _ R s => s.heap.IsTuple l2 ys /\
   R (.ok (.ret (.ref (zs4 s.heap x t l2).objs.size))) { s with heap:=zs5 s.heap x t l2 }) :=
 .of_wp fun prog w A R s h => by
  obtain ⟨hp,g,d,tk,os⟩:=s; obtain ⟨hl2,h⟩:=h
  have hsub:=sub_zip
  have hL2 : Heap.IsTuple (Shared.heap ⟨hp.push { cls:=.type "str_ascii_iterator",data:=.fields #[.str x t,.int 0 0] },g,d,tk,os⟩) l2 ys:=Heap.IsTuple.push hl2 _
  wp_walk using wpAny_pyIter_ascii ha,wpAny_pyIter_tuple hL2
  exact ⟨_,rfl,h⟩
section
variable {prog : Program} {w : World} {A : Around} {E : Value -> Shared -> Prop} {s : Shared}
theorem call_zipST {x : Str} {t : Tok} {l2 : Addr} {ys : Array Value} {Q : Value -> Shared -> Prop} (ha : x.cps.all (· < 128) = true) (hl2 : s.heap.IsTuple l2 ys)
  (h : ∀ h',IsZip h' (s.heap.objs.size + 4) (s.heap.objs.size + 2) (s.heap.objs.size + 3) .none -> IsPair h' (s.heap.objs.size + 2) (.ref s.heap.objs.size) (.ref (s.heap.objs.size + 1)) ->
   IsPair h' (s.heap.objs.size + 3) .none .none -> h'.IsStrIter s.heap.objs.size "str_ascii_iterator" x t 0 -> h'.IsTupleIter (s.heap.objs.size + 1) l2 0 -> h'.objs.size = s.heap.objs.size + 5 ->
   (∀ c o,s.heap.get? c = some o -> h'.get? c = some o) -> Q (.ref (s.heap.objs.size + 4)) { s with heap:=h' }) :
  wpAny (model prog w) A (call (.type "zip") [.str x t,.ref l2]) Q E s:=by
 refine callType_new F.called_zip (by decide) (F.typeCall_zip_2 _ _) (F.newCall_zip_2 _ _) (fun obj => F.args_object_init_3 obj _ _) F.entry_zip_new
  (meets_zipST_new x t l2 ys ha) ⟨hl2,?_⟩
 have z1 : (zs1 s.heap x t).objs.size = s.heap.objs.size + 1:=Heap.size_push ..
 have z2 : (zs2 s.heap x t l2).objs.size = s.heap.objs.size + 2:=by rw [Heap.size_push,z1]
 have z3 : (zs3 s.heap x t l2).objs.size = s.heap.objs.size + 3:=by rw [Heap.size_push,z2]
 have z4 : (zs4 s.heap x t l2).objs.size = s.heap.objs.size + 4:=by rw [Heap.size_push,z3]
 have z5 : (zs5 s.heap x t l2).objs.size = s.heap.objs.size + 5:=by rw [Heap.size_push,z4]
 have g5 : (zs5 s.heap x t l2).get? (zs4 s.heap x t l2).objs.size = some _:=Heap.get?_push_size _ rfl
 have g4 : (zs5 s.heap x t l2).get? (zs3 s.heap x t l2).objs.size = some _:=Heap.get?_push_of_some _ (Heap.get?_push_size _ rfl)
 have g3 : (zs5 s.heap x t l2).get? (zs2 s.heap x t l2).objs.size = some _:=Heap.get?_push_of_some _ (Heap.get?_push_of_some _ (Heap.get?_push_size _ rfl))
 have g2 : (zs5 s.heap x t l2).get? (zs1 s.heap x t).objs.size = some _:=Heap.get?_push_of_some _ (Heap.get?_push_of_some _ (Heap.get?_push_of_some _ (Heap.get?_push_size _ rfl)))
 have g1 : (zs5 s.heap x t l2).get? s.heap.objs.size = some _:=Heap.get?_push_of_some _ (Heap.get?_push_of_some _ (Heap.get?_push_of_some _ (Heap.get?_push_of_some _ (Heap.get?_push_size _ rfl))))
 show _ /\ _
 rw [z2,z3,z4] at g5
 rw [z1,z2] at g3
 rw [z3] at g4
 rw [z1] at g2
 rw [z4]
 exact ⟨⟨_,g5,rfl⟩,h _ g5 g3 g4 ⟨_,g1,rfl,rfl⟩ ⟨_,g2,rfl,rfl⟩ z5 fun c o x =>
  Heap.get?_push_of_some _ (Heap.get?_push_of_some _ (Heap.get?_push_of_some _ (Heap.get?_push_of_some _ (Heap.get?_push_of_some _ x))))⟩
end
end L2
set_option maxHeartbeats 4000000
namespace L2
open PySem PySem.Spec PyProof.Rows
section
variable {X : Cx} {pins : List (Addr × Obj)} {σ : St} {H : Hp} {s : Shared} {h' : Heap} {ch : List Addr}
theorem Inv.turnedNew {a : Addr} {o : HO} {t' : Nat} (I : Inv X pins σ H s) (hf : ∀ b ∈ ch,FpOk X pins H b) (k : ∀ b u,b ∉ ch -> s.heap.get? b = some u -> h'.get? b = some u)
  (hp : s.heap.objs.size <= a) (new : ObjOk X.prog X.w (upd H a o) h' a o) : Inv X pins σ (upd H a o) { s with heap:=h',toks:=t' }:=by
 have hn : H a = none:=I.hok.fresh hp
 have nch : ∀ b u,H b = some u -> b ∉ ch:=fun b u e hb => by rw [(hf b hb).1] at e; cases e
 refine I.step (g':=s.gens) (d':=s.drawn) (ch:=ch) (fun b hb => ?_) (fun b ob _ _ hc e _ => k b ob hc e) (fun b ob _ _ hc e _ => ⟨ob.slots,k b ob hc e⟩) (fun b ob hc e n => ?_)
  (fun b ob hc e => ⟨ob,k b ob hc e⟩) (fun b xs e => by rw [upd_ne (ne_of_none e hn)]; exact e) (fun b ob u e => by rw [upd_ne (ne_of_none e hn)]; exact e)
  (fun b ps e => ⟨#[],by rw [upd_ne (ne_of_none e hn),e]; simp⟩) (fun m hm => ?_) (fun b u e => ?_) I.bare
 ·obtain ⟨_,f1,_,f3,f4,f5⟩:=hf b hb
  exact ⟨f3,f1,f4,f5⟩
 ·rw [upd_ne (Nat.ne_of_lt (Nat.lt_of_lt_of_le (Heap.lt_size e) hp))]
  exact n
 ·obtain ⟨ob,es,ep,ho,r⟩:=hm
  exact ⟨ob,es,ep,k _ ob (fun z => (hf _ z).2.1 rfl) ho,r⟩
 ·by_cases hb : b = a
  ·subst hb
   rw [upd_same] at e
   cases e
   exact new
  ·rw [upd_ne hb] at e
   refine (I.hok b u e).stay (fun c v hc q => k c v ?_ q) (fun c q => by rw [upd_ne (ne_of_none q hn)]; exact q) fun c xs q => by rw [upd_ne (ne_of_none q hn)]; exact q
   rcases hc with z | z
   ·rw [z]
    exact nch b u e
   ·exact nch c _ z
theorem Inv.turnedAll {t' : Nat} (I : Inv X pins σ H s) (hf : ∀ b ∈ ch,FpOk X pins H b) (k : ∀ b u,b ∉ ch -> s.heap.get? b = some u -> h'.get? b = some u) : Inv X pins σ H { s with heap:=h',toks:=t' }:=by
 have nch : ∀ b u,H b = some u -> b ∉ ch:=fun b u e hb => by rw [(hf b hb).1] at e; cases e
 refine I.step (g':=s.gens) (d':=s.drawn) (ch:=ch) (fun b hb => ?_) (fun b ob _ _ hc e _ => k b ob hc e) (fun b ob _ _ hc e _ => ⟨ob.slots,k b ob hc e⟩) (fun _ _ _ _ n => n)
  (fun b ob hc e => ⟨ob,k b ob hc e⟩) (fun _ _ e => e) (fun _ _ _ e => e) (fun b ps e => ⟨#[],by rw [e]; simp⟩) (fun m hm => ?_) (fun b u e => ?_) I.bare
 ·obtain ⟨_,f1,_,f3,f4,f5⟩:=hf b hb
  exact ⟨f3,f1,f4,f5⟩
 ·obtain ⟨ob,es,ep,ho,r⟩:=hm
  exact ⟨ob,es,ep,k _ ob (fun z => (hf _ z).2.1 rfl) ho,r⟩
 ·refine (I.hok b u e).stay (fun c v hc q => k c v ?_ q) (fun _ q => q) fun _ _ q => q
  rcases hc with z | z
  ·rw [z]
   exact nch b u e
  ·exact nch c _ z
end
noncomputable def Its (x : Str) : It:=⟨fun i _ => i < x.cps.size,fun i H v H' => H' = H /\ ∃ c,x.cps[i]? = some c /\ v = .str ⟨#[c]⟩,fun i _ => x.cps.size <= i⟩
theorem go_str {M : Model} {A : Around} {E : Value -> Shared -> Prop} {s : Shared} {tg : Expr} {it : Value} {x : Str} {t : Tok} {Q : Unit -> Shared -> Prop} (hQ : Q () s) : wpAny M A (letOwnedTupleGo tg it (.str x t)) Q E s:=by
 unfold letOwnedTupleGo
 cases tg <;> first
  | exact wpAny_pure hQ
  | (cases it <;> exact wpAny_pure hQ)
theorem turn_str {P : Program} {w : World} {K : PySem.W.Frag} {tg : Expr} {x : Str} {t : Tok} {T : String} {it : Addr}
  (W : ∀ A' : Around,A'.handled = none -> Walks P w A' it [it] [it] x.cps.size (SignAt x) (fun i h => h.IsStrIter it T x t i))
  (hself : ∀ (A : Around) (i : Nat) (s : Shared) (Q : Value -> Shared -> Prop) (E : Value -> Shared -> Prop),s.heap.IsStrIter it T x t i -> Q (.ref it) s -> wpAny (model P w) A (pyIter (.ref it)) Q E s) :
  Turn P w K tg (Its x) [it] it (fun i h => i <= x.cps.size /\ h.IsStrIter it T x t i) where
 mem:=by simp
 obj:=fun i h st b hb => by
  have e : b = it:=by simpa using hb
  subst e
  obtain ⟨_,o,e,c,d⟩:=st
  exact ⟨o,e,fun v z => by rw [d] at z; cases z⟩
 keep:=fun i h h' st k => by
  obtain ⟨hi,o,e,c⟩:=st
  exact ⟨hi,o,k it (by simp) o e,c⟩
 item:=by
  intro X hP hw hK hc i pins s σ H E I hf st hg
  subst hP hw hK
  obtain ⟨f0,f1,f2,f3,f4,f5⟩:=hf it (by simp)
  refine (W X.A (I.ok.hd hc)).item i s _ _ hg st.2 fun v h' tk hv st' kk => ?_
  obtain ⟨c,u,hcx,rfl⟩:=hv
  have I1 : Inv X pins σ H { s with heap:=h',toks:=tk }:=I.turned (fun b o hb e => kk b o (by simpa using hb) e) f0 f1 f3 f4 f5
  exact ⟨_,rfl,go_str ⟨.str ⟨#[c]⟩,H,I1,⟨u,rfl⟩,⟨rfl,c,hcx,rfl⟩,⟨hg,st'⟩,fun b hb => (hf b hb).1⟩⟩
 done:=by
  intro X hP hw hK hc i pins s σ H E I hf st hg
  subst hP hw hK
  obtain ⟨f0,f1,f2,f3,f4,f5⟩:=hf it (by simp)
  have e : i = x.cps.size:=Nat.le_antisymm st.1 hg
  subst e
  exact (W X.A (I.ok.hd hc)).done s _ _ st.2 fun h' tk kk => ⟨rfl,I.turned (fun b o hb e => kk b o (by simpa using hb) e) f0 f1 f3 f4 f5⟩
 self:=fun A i s Q E st h => hself A i s Q E st.2 h
noncomputable def iStr (tl : TE) : TI:=fun σ H R => tl σ H fun v H1 => ∃ x,v = .str x /\ R (Its x) H1
section
variable {X : Cx} {tg : Expr}
theorem pi_str {l : Expr} {tl : TE} (hl : PE X l tl) : PI X tg l (iStr tl):=by
 intro pins s σ H R I h
 refine thn (hl pins s σ H _ I h) ?_
 rintro v s1 ⟨x,H1,I1,r1,q1⟩
 obtain ⟨x,rfl,q⟩:=q1
 obtain ⟨t,rfl⟩:=r1
 have fp : ∀ b ∈ [s1.heap.objs.size],FpOk X pins H1 b:=fun b hb => by
  have e : b = s1.heap.objs.size:=by simpa using hb
  subst e
  exact I1.fpOk (Nat.le_refl _) (I1.hok.fresh (Nat.le_refl _))
 cases ha : x.cps.all (· < 128)
 ·refine wpAny_pyIter_wide ha ?_
  exact ⟨s1.heap.objs.size,[s1.heap.objs.size],_,_,H1,rfl,I1.kept (t':=s1.toks) fun b o e => Heap.get?_push_of_some _ e,
   turn_str (T:="str_iterator") (fun A' hA => Walks.strWide hA _ x t) (fun A i s Q E st h => wpAny_pyIter_striter_wide st h),⟨Nat.zero_le _,_,Heap.get?_push_size _ rfl,rfl,rfl⟩,fp,q⟩
 ·refine wpAny_pyIter_ascii ha ?_
  exact ⟨s1.heap.objs.size,[s1.heap.objs.size],_,_,H1,rfl,I1.kept (t':=s1.toks) fun b o e => Heap.get?_push_of_some _ e,
   turn_str (T:="str_ascii_iterator") (fun A' hA => Walks.strAscii hA _ x t) (fun A i s Q E st h => wpAny_pyIter_striter_ascii st h),⟨Nat.zero_le _,_,Heap.get?_push_size _ rfl,rfl,rfl⟩,fp,q⟩
end
theorem for_str {x : Str} {g : TG} {tb : TS} {D : Ends} {σ : St} {H : Hp} (Pv : Nat -> St -> Hp -> Prop) (h0 : Pv 0 σ H)
  (hs : ∀ i c σ H,x.cps[i]? = some c -> Pv i σ H -> g (.str ⟨#[c]⟩) σ H fun σ2 H2 => tb { D with nx:=Pv (i + 1),ct:=Pv (i + 1),bk:=D.nx } σ2 H2) (hd : ∀ σ H,Pv x.cps.size σ H -> D.nx σ H) :
  ∃ W : Nat -> Nat -> St -> Hp -> Prop,(∃ m,W 0 m σ H) /\ ∀ i m σ H,W i m σ H ->
   ((Its x).stop i H /\ D.nx σ H) ∨ ((Its x).go i H /\ ∃ N : St -> Hp -> Prop,(∀ σ' H',N σ' H' -> ∃ m',m' < m /\ W (i + 1) m' σ' H') /\ ∀ v H',(Its x).yld i H v H' -> g v σ H' fun σ2 H2 => tb { D with nx:=N,ct:=N,bk:=D.nx } σ2 H2):=by
 refine ⟨fun i m σ H => m = x.cps.size - i /\ i <= x.cps.size /\ Pv i σ H,⟨x.cps.size,by simp,Nat.zero_le _,h0⟩,?_⟩
 rintro i m σ H ⟨rfl,hi,p⟩
 by_cases hlt : i < x.cps.size
 ·refine .inr ⟨hlt,Pv (i + 1),fun σ' H' p' => ⟨x.cps.size - (i + 1),by omega +splitDisjunctions,rfl,hlt,p'⟩,fun v H' y => ?_⟩
  obtain ⟨e,c,hc,rfl⟩:=y
  subst e
  exact hs i c σ _ hc p
 ·have e : i = x.cps.size:=by omega +splitDisjunctions
  subst e
  exact .inl ⟨Nat.le_refl _,hd σ H p⟩
noncomputable def Itz (x : Str) (l2 : Addr) : It :=
 ⟨fun i H => i < x.cps.size /\ ∃ ys y,H l2 = some (.tup ys) /\ ys[i]? = some y,
  fun i H v H' => ∃ c y p ys,x.cps[i]? = some c /\ H l2 = some (.tup ys) /\ ys[i]? = some y /\ v = .ref p /\ H p = none /\ H' = upd H p (.tup [.str ⟨#[c]⟩,y]),
  fun i _ => x.cps.size <= i⟩
structure ZipNow (x : Str) (tx : Tok) (z TI TO i1 i2 l2 : Addr) (i : Nat) (h : Heap) : Prop where
 le : i <= x.cps.size
 zip : IsZip h z TI TO .none
 its : IsPair h TI (.ref i1) (.ref i2)
 own : ∃ a b,IsPair h TO a b
 one : h.IsStrIter i1 "str_ascii_iterator" x tx i
 two : h.IsTupleIter i2 l2 i
theorem turn_zip {P : Program} {w : World} {K : PySem.W.Frag} {es : List Expr} {kk : Nat} {tpos : Pos} {x : Str} {tx : Tok} {z TI TO i1 i2 l2 : Addr} (D : ZipApart z TI TO i1 i2 TI TI) :
  Turn P w K (.Tuple es kk tpos) (Itz x l2) [z,TI,TO,i1,i2] z (fun i h => ZipNow x tx z TI TO i1 i2 l2 i h) where
 mem:=by simp
 obj:=fun i h st b hb => by
  have hb' : b = z ∨ b = TI ∨ b = TO ∨ b = i1 ∨ b = i2:=by simpa using hb
  rcases hb' with rfl | rfl | rfl | rfl | rfl
  ·exact ⟨_,st.zip,fun v q => by cases q⟩
  ·exact ⟨_,st.its,fun v q => by cases q⟩
  ·obtain ⟨a,b,e⟩:=st.own
   exact ⟨_,e,fun v q => by cases q⟩
  ·obtain ⟨o,e,c,d⟩:=st.one
   exact ⟨o,e,fun v q => by rw [d] at q; cases q⟩
  ·obtain ⟨o,e,c,d⟩:=st.two
   exact ⟨o,e,fun v q => by rw [d] at q; cases q⟩
 keep:=fun i h h' st k => by
  obtain ⟨a,b,e⟩:=st.own
  obtain ⟨o1,e1,r1⟩:=st.one
  obtain ⟨o2,e2,r2⟩:=st.two
  exact ⟨st.le,k z (by simp) _ st.zip,k TI (by simp) _ st.its,⟨a,b,k TO (by simp) _ e⟩,⟨o1,k i1 (by simp) _ e1,r1⟩,⟨o2,k i2 (by simp) _ e2,r2⟩⟩
 item:=by
  intro X hP hw hK hc i pins s σ H E I hf st hg
  subst hP hw hK
  obtain ⟨hi,ys,y,hl2,hy⟩:=hg
  obtain ⟨a,b,hTO⟩:=st.own
  obtain ⟨its,rv,pl,hz⟩:=I.tuple (SqT.of hl2)
  obtain ⟨u,hu,ru⟩:=rv.get hy
  have nf : ∀ c ∈ [z,TI,TO,i1,i2],l2 ≠ c:=fun c hc q => by subst q; rw [(hf _ hc).1] at hl2; cases hl2
  have D2 : ZipApart z TI TO i1 i2 TI l2:=⟨D.TIz,D.TOz,D.i1z,D.i2z,D.TITO,D.TIi1,D.TIi2,D.TOi1,D.TOi2,D.i12,D.l1z,D.l1TO,D.l1i1,D.l1i2,nf z (by simp),nf TO (by simp),nf i1 (by simp),nf i2 (by simp)⟩
  have hx : x.cps[i]? = some x.cps[i]:=by simp [hi]
  refine pyNext_zipST_item D2 st.zip st.its hTO st.one st.two (show s.heap.IsTuple l2 its.toArray from pl) hx (by simpa using hu) fun h' a1 a2 a3 a4 a5 a6 kk => ⟨_,rfl,?_⟩
  refine wpAny_letOwnedTupleGo_zip a1 fun h'' hz'' hs'' => ?_
  have up : ∀ c o,c ≠ z -> h'.get? c = some o -> h''.get? c = some o:=fun c o n e => hs''.extBut _ _ n e
  have lt : z < s.heap.objs.size:=Heap.lt_size st.zip
  have pz : s.heap.objs.size ≠ z:=Nat.ne_of_gt lt
  have hp:=I.hok.fresh (Nat.le_refl s.heap.objs.size)
  have ch : ∀ b ∈ [z,TO,i1,i2],FpOk X pins H b:=fun b hb => hf b (by simp at hb ⊢; rcases hb with q | q | q | q <;> simp [q])
  have I1 : Inv X pins σ (upd H s.heap.objs.size (.tup [.str ⟨#[x.cps[i]]⟩,y])) { s with heap:=h'',toks:=s.toks + 1 }:=by
   refine I.turnedNew (ch:=[z,TO,i1,i2]) ch (fun b o hb e => ?_) (Nat.le_refl _) ?_
   ·have n : b ≠ z /\ b ≠ TO /\ b ≠ i1 /\ b ≠ i2:=by simpa using hb
    exact up b o n.1 (kk b o n.1 n.2.1 n.2.2.1 n.2.2.2 e)
   ·exact ⟨by show 2 <= sizeLine; decide,[.str ⟨#[x.cps[i]]⟩ s.toks,u],.cons ⟨_,rfl⟩ (.cons ru .nil),⟨_,up _ _ pz a5,rfl,_,rfl⟩⟩
  refine ⟨.ref s.heap.objs.size,_,I1,rfl,⟨_,y,_,ys,hx,hl2,hy,rfl,hp,rfl⟩,⟨hi,hz'',?_,?_,?_,?_⟩,fun b hb => ?_⟩
  ·exact up _ _ D.TIz (kk _ _ D.TIz D.TITO D.TIi1 D.TIi2 st.its)
  ·exact ⟨_,_,up _ _ D.TOz a2⟩
  ·obtain ⟨o,e,r⟩:=a3
   exact ⟨o,up _ o D.i1z e,r⟩
  ·obtain ⟨o,e,r⟩:=a4
   exact ⟨o,up _ o D.i2z e,r⟩
  ·have n : b ≠ s.heap.objs.size:=by
    have hb' : b = z ∨ b = TI ∨ b = TO ∨ b = i1 ∨ b = i2:=by simpa using hb
    rcases hb' with rfl | rfl | rfl | rfl | rfl
    ·exact Nat.ne_of_lt lt
    ·exact Nat.ne_of_lt (Heap.lt_size st.its)
    ·exact Nat.ne_of_lt (Heap.lt_size hTO)
    ·obtain ⟨o,e,r⟩:=st.one
     exact Nat.ne_of_lt (Heap.lt_size e)
    ·obtain ⟨o,e,r⟩:=st.two
     exact Nat.ne_of_lt (Heap.lt_size e)
   rw [upd_ne n]
   exact (hf b hb).1
 done:=by
  intro X hP hw hK hc i pins s σ H E I hf st hg
  subst hP hw hK
  obtain ⟨a,b,hTO⟩:=st.own
  have e : i = x.cps.size:=Nat.le_antisymm st.le hg
  have ch : ∀ b ∈ [z,TO,i1,i2],FpOk X pins H b:=fun b hb => hf b (by simp at hb ⊢; rcases hb with q | q | q | q <;> simp [q])
  refine pyNext_zipST_end (I.ok.hd hc) D st.zip st.its hTO st.one (by rw [e]; simp) fun h' kk => ⟨rfl,?_⟩
  refine I.turnedAll (t':=s.toks) (ch:=[z,TO,i1,i2]) ch fun b o hb e => ?_
  have n : b ≠ z /\ b ≠ TO /\ b ≠ i1 /\ b ≠ i2:=by simpa using hb
  exact kk b o n.1 n.2.1 n.2.2.1 n.2.2.2 e
 self:=fun _ _ _ _ _ st h => wpAny_pyIter_zip st.zip h
noncomputable def iZip (ta : TA) : TI:=fun σ H R => ta σ H fun vs H1 => ∃ x l2 ys,vs = [.str x,.ref l2] /\ x.cps.all (· < 128) = true /\ H1 l2 = some (.tup ys) /\ R (Itz x l2) H1
section
variable {X : Cx}
theorem pi_zip {a b : Expr} {ta : TA} {p pos tpos : Pos} {es : List Expr} {kk : Nat} (hg : Gl X "zip") (hm : X.mg "zip" = none) (ha : PA X [a,b] ta) (hs : autoParam (starEach [a,b] X.env = [(false,eval a X.env),(false,eval b X.env)]) L2.au1._auto_1) (hs2 : autoParam (starEach [b] X.env = [(false,eval b X.env)]) L2.au1._auto_1) :
  PI X (.Tuple es kk tpos) (.Call (.Name "zip" p) [a,b] [] pos) (iZip ta):=by
 intro pins s σ H R I h
 refine Call_ (ld_blt I hg hm boot_zip (PyProof.Rows.callWith_type1 (thn (ha pos pins s σ H _ I h) ?_) (by rw [hs,hs2]) (by rw [hs2]; rfl)))
 rintro us s1 ⟨vs,H1,I1,r1,q1⟩
 obtain ⟨x,l2,ys,e,has,hl2,q⟩:=q1
 subst e
 cases r1 with
 | cons r rr =>
  cases rr with
  | cons r' rr =>
   cases rr
   obtain ⟨t,rfl⟩:=r
   cases r'
   obtain ⟨its,rv,pl,hz⟩:=I1.tuple (SqT.of hl2)
   refine call_zipST has (show s1.heap.IsTuple l2 its.toArray from pl) fun h' a1 a2 a3 a4 a5 a6 kk => ?_
   refine wpAny_pyIter_zip a1 ?_
   have I2 : Inv X pins σ H1 { s1 with heap:=h' }:=I1.kept (t':=s1.toks) kk
   refine ⟨s1.heap.objs.size + 4,[s1.heap.objs.size + 4,s1.heap.objs.size + 2,s1.heap.objs.size + 3,s1.heap.objs.size,s1.heap.objs.size + 1],_,_,H1,rfl,I2,turn_zip (x:=x) (tx:=t) (l2:=l2) ?_,⟨Nat.zero_le _,a1,a2,⟨_,_,a3⟩,a4,a5⟩,fun b hb => ?_,q⟩
   ·constructor <;> first | exact Nat.ne_of_lt (by omega) | exact Nat.ne_of_gt (by omega)
   ·have hb' : s1.heap.objs.size <= b:=by
     have hb' : b = s1.heap.objs.size + 4 ∨ b = s1.heap.objs.size + 2 ∨ b = s1.heap.objs.size + 3 ∨ b = s1.heap.objs.size ∨ b = s1.heap.objs.size + 1:=by simpa using hb
     rcases hb' with q | q | q | q | q
     ·rw [q]; exact Nat.le_add_right _ _
     ·rw [q]; exact Nat.le_add_right _ _
     ·rw [q]; exact Nat.le_add_right _ _
     ·rw [q]; exact Nat.le_refl _
     ·rw [q]; exact Nat.le_add_right _ _
    exact I1.fpOk hb' (I1.hok.fresh hb')
end
theorem for_zip {x : Str} {l2 : Addr} {ys : List V} {g : TG} {tb : TS} {D : Ends} {σ : St} {H : Hp} (hn : x.cps.size <= ys.length) (Pv : Nat -> St -> Hp -> Prop) (h0 : Pv 0 σ H) (hl : ∀ i σ H,i <= x.cps.size -> Pv i σ H -> H l2 = some (.tup ys))
  (hs : ∀ (i : Nat) c y p σ H,x.cps[i]? = some c -> ys[i]? = some y -> Pv i σ H -> H p = none -> g (.ref p) σ (upd H p (.tup [.str ⟨#[c]⟩,y])) fun σ2 H2 => tb { D with nx:=Pv (i + 1),ct:=Pv (i + 1),bk:=D.nx } σ2 H2)
  (hd : ∀ σ H,Pv x.cps.size σ H -> D.nx σ H) :
  ∃ W : Nat -> Nat -> St -> Hp -> Prop,(∃ m,W 0 m σ H) /\ ∀ i m σ H,W i m σ H ->
   ((Itz x l2).stop i H /\ D.nx σ H) ∨ ((Itz x l2).go i H /\ ∃ N : St -> Hp -> Prop,(∀ σ' H',N σ' H' -> ∃ m',m' < m /\ W (i + 1) m' σ' H') /\ ∀ v H',(Itz x l2).yld i H v H' -> g v σ H' fun σ2 H2 => tb { D with nx:=N,ct:=N,bk:=D.nx } σ2 H2):=by
 refine ⟨fun i m σ H => m = x.cps.size - i /\ i <= x.cps.size /\ Pv i σ H,⟨x.cps.size,by simp,Nat.zero_le _,h0⟩,?_⟩
 rintro i m σ H ⟨rfl,hi,p⟩
 have q:=hl i σ H hi p
 by_cases hlt : i < x.cps.size
 ·have hy : ys[i]? = some (ys[i]'(by omega)):=by simp
  refine .inr ⟨⟨hlt,ys,_,q,hy⟩,Pv (i + 1),fun σ' H' p' => ⟨x.cps.size - (i + 1),by omega,rfl,hlt,p'⟩,fun v H' y => ?_⟩
  obtain ⟨c,y,pa,zs,hc,hz,hy',rfl,hp,rfl⟩:=y
  rw [q] at hz
  cases hz
  exact hs i c y pa σ H hc hy' p hp
 ·have e : i = x.cps.size:=by omega
  subst e
  exact .inl ⟨Nat.le_refl _,hd σ H p⟩
end L2
set_option maxHeartbeats 4000000
namespace L2
open PySem
open PySem.Sem (wp)
section
variable {prog : Program} {w : World} {A : Around} {E : Value -> Shared -> Prop} {R : Result -> Shared -> Prop} {s : Shared}
theorem compLoop_any {elt target iter : Expr} {ifs : List Expr} {scope : Scope} {pos : Pos} {it acc : Value} {env : Env} (I : Nat -> Shared -> Prop)
  (turn : ∀ n s,I n s -> wpAny (model prog w) A (pyNext it) (fun r s₁ => match r with
   | none => R (.ok .next) s₁
   | some v => wpAny (model prog w) A (letOwnedTupleGo target it v) (fun _ s₁' => wpAny (model prog w) A (assign target env v) (fun _ s₂ =>
     wpAny (model prog w) A (forIn ifs true fun c r => if r = true then do let ok <- isTrue c env (eval c env); pure (ForInStep.yield ok) else pure (ForInStep.yield r)) (fun ok s₃ =>
      if ok = true then wpAny (model prog w) A (eval elt env) (fun x s₄ =>
       wpAny (model prog w) A (call (.builtin "list.append") [acc,x]) (fun _ s₅ => ∃ m,m < n /\ I m s₅) (notedBy (model prog w) A env fun e s' => R (.error e) s') s₄) (notedBy (model prog w) A env fun e s' => R (.error e) s') s₃
      else ∃ m,m < n /\ I m s₃) (notedBy (model prog w) A env fun e s' => R (.error e) s') s₂) (notedBy (model prog w) A env fun e s' => R (.error e) s') s₁')
     (notedBy (model prog w) A env fun e s' => R (.error e) s') s₁) (notedBy (model prog w) A env fun e s' => R (.error e) s') s)
  (n : Nat) (h : I n s) :
  codeAny (model prog w) A (.compLoop (.ListComp elt [⟨target,iter,ifs,0⟩] scope pos) 0 it acc env) R s:=by
 refine codeAny_loop rfl I (fun n s hI => ?_) n h
 show wpAny _ A ((compTurn (.ListComp elt [⟨target,iter,ifs,0⟩] scope pos) 0 it acc env).onRaise (fun x => do noteFrame x env; theTreesLotGoes x)) _ _ s
 refine wpAny_noted ?_
 rw [compTurn_list]
 refine wpAny_bind (wpAny_standAt (wpAny_bind (wpAny_mono (turn n s hI) (fun r s₁ h₁ => ?_) fun _ _ h' => h')))
 cases r with
 | none => exact wpAny_pure h₁
 | some v =>
  refine wpAny_bind (wpAny_mono h₁ (fun _ s₁' h₁' => ?_) fun _ _ h' => h')
  refine wpAny_bind (wpAny_mono h₁' (fun _ s₂ h₂ => wpAny_bind (wpAny_mono h₂ (fun ok s₃ h₃ => ?_) fun _ _ h' => h')) fun _ _ h' => h')
  cases ok with
  | false =>
   simp only [Bool.false_eq_true,if_false] at h₃ ⊢
   first
    | exact wpAny_pure ⟨rfl,h₃⟩
    | exact wpAny_bind (wpAny_pure (wpAny_pure ⟨rfl,h₃⟩))
  | true =>
   simp only [if_true] at h₃ ⊢
   first
    | exact wpAny_bind (wpAny_bind (wpAny_mono h₃ (fun x s₄ h₄ => wpAny_bind (wpAny_mono h₄ (fun _ s₅ h₅ => wpAny_pure (wpAny_pure ⟨rfl,h₅⟩)) fun _ _ h' => h')) fun _ _ h' => h'))
    | exact wpAny_bind (wpAny_mono h₃ (fun x s₄ h₄ => wpAny_bind (wpAny_mono h₄ (fun _ s₅ h₅ => wpAny_pure ⟨rfl,h₅⟩) fun _ _ h' => h')) fun _ _ h' => h')
end
end L2
set_option maxHeartbeats 4000000
namespace L2
open PySem PySem.Spec PyProof.Rows
noncomputable def cxComp (X : Cx) (N' : List Str) (scope : Scope) (cl : List (Str × Addr)) (C : Addr) (s₃ : Shared) (H₃ : Hp) (fp : List Addr) : Cx :=
 { X with N:=N',s₀:=s₃,H₀:=H₃,env:=compEnvC scope cl C X.env,outer:=X.stack,stack:=X.stack,ex:=fp,fn:=fun _ => false,pn:=[],xe:=fun _ _ => False }
noncomputable def capσ (cap : List (Option Nat)) (σ : St) : St:=cap.map fun o => o.bind fun j => (σ[j]?).join
structure CompScope (X : Cx) (N' : List Str) (cap : List (Option Nat)) (scope : Scope) (cl : List (Str × Addr)) : Prop where
 kind : scope.kind = .function
 nocell : ∀ y ∈ scope.names,y.2 ≠ .cell
 names : ∀ y ∈ scope.names,y.2 = .local -> scope.names.lookup y.1 = some .local
 clos : closureFor scope X.env = pure cl
 len : cap.length = N'.length
 nd : N'.Nodup
 sub : ∀ x c,cl.lookup x = some c -> X.env.cells.lookup x = some c
 hasF : ∀ p ∈ scope.names,p.2 = .free -> ∃ c,cl.lookup p.1 = some c
 capF : ∀ (i : Nat) x j,N'[i]? = some x -> cap[i]? = some (some j) -> X.N[j]? = some x /\ (X.env.kindOf x = some .cell ∨ X.env.kindOf x = some .free) /\ scope.names.lookup x = some .free
theorem lookup_relabel {env : Env} (x : Str) : ∀ names : List (Str × NameKind),(names.map fun (n,k) => if (k == NameKind.free && env.scope.kind == .function && env.kindOf n == some .cell) then (n,NameKind.cell) else (n,k)).lookup x =
  (names.lookup x).map fun k => if (k == NameKind.free && env.scope.kind == .function && env.kindOf x == some .cell) then NameKind.cell else k
 | [] => rfl
 | (n,k) :: r => by
  have ih:=lookup_relabel (env:=env) x r
  show List.lookup x ((if (k == NameKind.free && env.scope.kind == .function && env.kindOf n == some .cell) = true then (n,NameKind.cell) else (n,k)) :: _) = _
  cases hx : x == n with
  | true =>
   have e : x = n:=eq_of_beq hx
   subst e
   by_cases hc : (k == NameKind.free && env.scope.kind == .function && env.kindOf x == some .cell) = true
   ·rw [if_pos hc]
    simp only [List.lookup_cons,hx,Option.map_some,hc,if_true]
   ·rw [if_neg hc]
    simp only [List.lookup_cons,hx,Option.map_some,hc]
    simp
  | false =>
   by_cases hc : (k == NameKind.free && env.scope.kind == .function && env.kindOf n == some .cell) = true
   ·rw [if_pos hc]; simp only [List.lookup_cons,hx]; exact ih
   ·rw [if_neg hc]; simp only [List.lookup_cons,hx]; exact ih
theorem CompScope.has {X : Cx} {N' : List Str} {cap : List (Option Nat)} {scope : Scope} {cl : List (Str × Addr)} (S : CompScope X N' cap scope cl) (x : Str)
  (h : (relabel scope X.env).names.lookup x = some .cell ∨ (relabel scope X.env).names.lookup x = some .free) : ∃ c,cl.lookup x = some c:=by
 have hf : scope.names.lookup x = some .free:=by
  have e : (relabel scope X.env).names.lookup x = _:=lookup_relabel x scope.names
  rw [e] at h
  cases q : scope.names.lookup x with
  | none => rw [q] at h; rcases h with h | h <;> cases h
  | some k =>
   have hk : k ≠ .cell:=S.nocell (x,k) (PySem.mem_of_lookup q)
   by_cases hkf : k = .free
   ·rw [hkf]
   ·exfalso
    rw [q] at h
    have z : (k == NameKind.free) = false:=by simpa using hkf
    simp only [Option.map_some,z,Bool.false_and,Bool.false_eq_true,if_false] at h
    rcases h with h | h
    ·exact hk (Option.some.inj h)
    ·exact hkf (Option.some.inj h)
 exact S.hasF (x,.free) (PySem.mem_of_lookup hf) rfl
theorem CompScope.cap {X : Cx} {N' : List Str} {cap : List (Option Nat)} {scope : Scope} {cl : List (Str × Addr)} (S : CompScope X N' cap scope cl) (i : Nat) (x : Str) (j : Nat) (h1 : N'[i]? = some x) (h2 : cap[i]? = some (some j)) :
  X.N[j]? = some x /\ (X.env.kindOf x = some .cell ∨ X.env.kindOf x = some .free) /\ ((relabel scope X.env).names.lookup x = some .cell ∨ (relabel scope X.env).names.lookup x = some .free):=by
 obtain ⟨a,b,c⟩:=S.capF i x j h1 h2
 refine ⟨a,b,?_⟩
 have e : (relabel scope X.env).names.lookup x = _:=lookup_relabel x scope.names
 rw [e,c]
 simp only [Option.map_some]
 split
 ·exact .inl rfl
 ·exact .inr rfl
noncomputable def PF (X : Cx) (ifs : List Expr) (t : TT) : Prop :=
 ∀ (pins : List (Addr × Obj)) (s : Shared) (σ : St) (H : Hp) (Q : Bool -> Hp -> Prop),Inv X pins σ H s -> t σ H Q ->
  wpAny (model X.prog X.w) X.A (forIn ifs true fun c r => if r = true then do let ok <- isTrue c X.env (eval c X.env); pure (ForInStep.yield ok) else pure (ForInStep.yield r)) (TP X pins σ Q) X.xe s
theorem pf_nil {X : Cx} : PF X [] (fun _ H Q => Q true H):=fun _ _ _ H _ I h => wpAny_tests_nil ⟨H,I,h⟩
theorem pf_one {X : Cx} {c : Expr} {t : TT} (h : PT X c t) : PF X [c] t:=fun pins s σ H Q I hw => wpAny_tests_one (h pins s σ H Q I hw)
noncomputable def CompW (J : It) (g : TG) (ti : TT) (te : TE) (D : Addr) (σ₀ : St) (H₀ : Hp) (Q : Hp -> Prop) : Prop :=
 ∃ W : Nat -> Nat -> St -> Hp -> Prop,(∃ m,W 0 m σ₀ H₀) /\ ∀ i m σ H,W i m σ H -> (J.stop i H /\ Q H) ∨ (J.go i H /\ ∃ N : St -> Hp -> Prop,(∀ σ' H',N σ' H' -> ∃ m',m' < m /\ W (i + 1) m' σ' H') /\ ∀ x H',J.yld i H x H' -> g x σ H' fun σ2 H2 => ti σ2 H2 fun b H3 =>
  if b = true then te σ2 H3 fun v H4 => ∃ xs,H4 D = some (.lst xs) /\ xs.length < sizeLine /\ N σ2 (upd H4 D (.lst (xs ++ [v]))) else N σ2 H3)
noncomputable def tComp (cap : List (Option Nat)) (wi : TI) (g : TG) (ti : TT) (te : TE) : TE:=fun σ H Q => wi σ H fun J H1 => ∀ D,H1 D = none -> CompW J g ti te D (capσ cap σ) (upd H1 D (.lst [])) (Q (.ref D))
section
variable {X : Cx} {tg iter elt : Expr} {ifs : List Expr} {scope : Scope} {pos : Pos} {cl : List (Str × Addr)} {N' : List Str} {cap : List (Option Nat)} {wi : TI} {g : TG} {ti : TT} {te : TE}
theorem comp_core {pins : List (Addr × Obj)} {σ : St} {H2 : Hp} {s2 : Shared} {it : Addr} {fp : List Addr} {tn : Nat -> Heap -> Prop} {J : It} {E : Value -> Shared -> Prop} {Q : VK} {RR : Value -> Addr -> Result -> Shared -> Prop}
  (hc : X.calm = true) (S : CompScope X N' cap scope cl) (I2 : Inv X pins σ H2 s2) (T : Turn X.prog X.w X.K tg J fp it tn) (st2 : tn 0 s2.heap) (f2 : ∀ b ∈ fp,FpOk X pins H2 b)
  (hg : ∀ C s₃ H₃ fp,PG (cxComp X N' scope cl C s₃ H₃ fp) tg g) (ht : ∀ C s₃ H₃ fp,PF (cxComp X N' scope cl C s₃ H₃ fp) ifs ti) (he : ∀ C s₃ H₃ fp,PE (cxComp X N' scope cl C s₃ H₃ fp) elt te)
  (hW : ∀ D,H2 D = none -> CompW J g ti te D (capσ cap σ) (upd H2 D (.lst [])) (Q (.ref D)))
  (hRR : ∀ D C s' H',(∃ m,s'.heap.Ns C m) -> Inv X pins σ H' s' -> FpOk X pins H' C -> Q (.ref D) H' -> RR (.ref D) C (.ok .next) s') :
  wpAny (model X.prog X.w) X.A (newList []) (fun acc s₃ => wpAny (model X.prog X.w) X.A (newFunctionEnv scope X.env.globals cl [] X.env.qual none .none (some X.env)) (fun cenv s₄ =>
   codeAny (model X.prog X.w) X.A (.compStart (.ListComp elt [⟨tg,iter,ifs,0⟩] scope pos) 0 (.ref it) acc { cenv with scope:=relabel scope X.env }) (RR acc cenv.locals) s₄) E s₃) E s2:=by
 refine wpAny_newObj_type (wpAny_newFunctionEnv S.nocell (by intro y hy; simp at hy) (fun h₁ hns₁ hsb₁ => ?_) S.kind)
 dsimp only at hns₁ hsb₁ ⊢
 have I3 : Inv X pins σ (upd H2 s2.heap.objs.size (.lst [])) { s2 with heap:=s2.heap.push { cls:=.type "list",dict:=none,data:=.seq ([] : List Value).toArray },toks:=s2.toks }:=I2.lnew (its:=[]) (t':=s2.toks) .nil (Nat.zero_le _)
 generalize hs3 : ({ s2 with heap:=s2.heap.push { cls:=.type "list",dict:=none,data:=.seq ([] : List Value).toArray },toks:=s2.toks } : Shared) = s3 at I3
 have eh3 : s3.heap = s2.heap.push { cls:=.type "list",dict:=none,data:=.seq ([] : List Value).toArray }:=by rw [<- hs3]
 have eo3 : s3.os = s2.os:=by rw [<- hs3]
 have eg3 : s3.gens = s2.gens:=by rw [<- hs3]
 have hD : H2 s2.heap.objs.size = none:=I2.fresh
 rw [<- eh3] at hns₁ hsb₁ ⊢
 generalize hC : s3.heap.objs.size = C at hns₁ hsb₁ ⊢
 have hCle : s3.heap.objs.size <= C:=Nat.le_of_eq hC
 have old : ∀ b o,s3.heap.get? b = some o -> h₁.get? b = some o:=fun b o e => hsb₁.extBut b o (Nat.ne_of_lt (Nat.lt_of_lt_of_le (Heap.lt_size e) hCle)) (Heap.get?_push_of_some _ e)
 have up2 : ∀ b o,s2.heap.get? b = some o -> h₁.get? b = some o:=fun b o e => old b o (by rw [eh3]; exact Heap.get?_push_of_some _ e)
 have H3C : upd H2 s2.heap.objs.size (.lst []) C = none:=I3.hok.fresh hCle
 have fpH3 : ∀ b ∈ fp,upd H2 s2.heap.objs.size (.lst []) b = none:=fun b hb => by
  obtain ⟨o,e,_⟩:=T.obj 0 _ st2 b hb
  rw [upd_ne (Nat.ne_of_lt (Heap.lt_size e))]
  exact (f2 b hb).1
 have fpC : ∀ b ∈ fp,b ≠ C:=fun b hb q => by
  obtain ⟨o,e,_⟩:=T.obj 0 _ st2 b hb
  have h3 : s2.heap.objs.size <= s3.heap.objs.size:=by rw [eh3,Heap.size_push]; exact Nat.le_succ _
  have h4:=Nat.lt_of_lt_of_le (Nat.lt_of_lt_of_le (Heap.lt_size e) h3) hCle
  rw [q] at h4
  exact absurd h4 (Nat.lt_irrefl _)
 have cellsC : ∀ x c,cl.lookup x = some c -> c ≠ C:=fun x c e q => by
  obtain ⟨v,z⟩:=I3.cell x c (S.sub x c e)
  have h4:=Nat.lt_of_lt_of_le z.lt hCle
  rw [q] at h4
  exact absurd h4 (Nat.lt_irrefl _)
 let X' : Cx:=cxComp X N' scope cl C s3 (upd H2 s2.heap.objs.size (.lst [])) fp
 have okX' : X'.Ok:=by
  refine ⟨I3.ok.mod,S.kind,I3.ok.glob,I3.ok.blt,hCle,fun x y c e1 e2 => I3.ok.inj x y c (S.sub x c e1) (S.sub y c e2),fun x hx => S.has x hx,fun x c z _ => absurd (show false = true from z) (by simp),I3.ok.hd,I3.ok.frames,.inl rfl,
   fun b hb => ⟨fpC b hb,fun x c e => (f2 b hb).2.2.2.2.1 x c (S.sub x c e)⟩,I3.bs,Nat.le_trans I3.ok.bsz I3.sz,fun b o e hb => ?_,fun b hb z => ?_,I3.stack,I3.stkFree⟩
  ·rcases (f2 b hb).2.2.2.1 with q | q
   ·exact I3.ok.noex b o e q
   ·exact absurd (Nat.lt_of_lt_of_le (Heap.lt_size (I3.ok.bs b o e).1) q) (Nat.lt_irrefl _)
  ·rcases List.mem_cons.mp (I3.stkSub b z) with q | q
   ·exact (f2 b hb).2.1 q
   ·exact (f2 b hb).2.2.1 q
 have J0 : ∀ tk,Inv X' [] (capσ cap σ) (upd H2 s2.heap.objs.size (.lst [])) { s2 with heap:=h₁,toks:=tk }:=fun tk => by
  refine ⟨okX',eo3.symm,I2.bare,Un.kept old,⟨_,hns₁,fun i x v e1 e2 e3 => ?_⟩,fun x c e => ?_,H3C,fun x c e => (I3.freeC x c (S.sub x c e)).imp id (fun z => ⟨rfl,z.2⟩),fun p hp => absurd (show p ∈ ([] : List (Addr × Obj)) from hp) (by simp),I3.hok.kept old,?_⟩
  ·have e1 : N'[i]? = some x:=e1
   unfold capσ at e2
   rw [List.getElem?_map] at e2
   cases ec : cap[i]? with
   | none => rw [ec] at e2; cases e2
   | some o =>
    rw [ec] at e2
    cases o with
    | none => cases e2
    | some j =>
     have e2 : (σ[j]?).join = some v:=Option.some.inj e2
     obtain ⟨hj,hk,hr⟩:=S.cap i x j e1 ec
     have ej : σ[j]? = some (some v):=by
      cases q : σ[j]? with
      | none => rw [q] at e2; cases e2
      | some o => rw [q] at e2; cases o with
       | none => cases e2
       | some v' => cases e2; rfl
     obtain ⟨m,hn,hl⟩:=I3.loc
     obtain ⟨u,r,l⟩:=hl j x v hj ej (by rcases hk with z | z; exact .inr (.inl z); exact .inr (.inr z))
     refine ⟨u,r,.inr ⟨hr,?_⟩⟩
     obtain ⟨c,ecl⟩:=S.has x hr
     rcases l with ⟨z,_⟩ | ⟨_,c',ec',hcell⟩
     ·rcases hk with y | y
      ·rw [y] at z; cases z
      ·rw [y] at z; cases z
     ·have:=S.sub x c ecl
      rw [this] at ec'
      cases ec'
      obtain ⟨oc,hoc,hd⟩:=hcell
      exact ⟨c,ecl,oc,old c oc hoc,hd⟩
  ·obtain ⟨v,oc,hoc,hd⟩:=I3.cell x c (S.sub x c e)
   exact ⟨v,oc,old c oc hoc,hd⟩
  ·show (capσ cap σ).length = N'.length
   unfold capσ
   rw [List.length_map]
   exact S.len
 have stat : ∀ {H' : Hp},(∀ b ∈ fp,H' b = none) -> ∀ b ∈ fp,FpOk X' [] H' b:=fun hn b hb =>
  ⟨hn b hb,fpC b hb,okX'.exfs b hb,.inl hb,fun x c e => (f2 b hb).2.2.2.2.1 x c (S.sub x c e),fun p hp => absurd (show p ∈ ([] : List (Addr × Obj)) from hp) (by simp)⟩
 obtain ⟨W,⟨m0,w0⟩,turn⟩:=hW _ hD
 have st1 : tn 0 h₁:=T.keep 0 _ _ st2 fun b _ o e => up2 b o e
 have fin : ∀ {σ' : St} {H' : Hp} {s' : Shared},Inv X' [] σ' H' s' -> Q (.ref s2.heap.objs.size) H' -> RR (.ref s2.heap.objs.size) C (.ok .next) s':=fun {σ' H' s'} J q => by
  obtain ⟨m,hn,_⟩:=J.loc
  have un : Un (frs X.stack) fp (upd H2 s2.heap.objs.size (.lst [])) H' s3.heap s'.heap:=J.base
  have I' : Inv X pins σ H' s':=I3.call' (show s'.os = s3.os from J.os) un J.hok J.bare fun b hb => ⟨(f2 b hb).2.2.2.1,(f2 b hb).2.1,(f2 b hb).2.2.2.2.1,(f2 b hb).2.2.2.2.2⟩
  exact hRR _ C s' H' ⟨m,hn⟩ I' (I3.fpOk hCle J.free) q
 have loop : ∀ tk,codeAny (model X.prog X.w) X.A (.compLoop (.ListComp elt [⟨tg,iter,ifs,0⟩] scope pos) 0 (.ref it) (.ref s2.heap.objs.size) (compEnvC scope cl C X.env)) (RR (.ref s2.heap.objs.size) C) { s2 with heap:=h₁,toks:=tk }:=fun tk => by
  refine compLoop_any (fun n s' => ∃ i σ' H',Inv X' [] σ' H' s' /\ tn i s'.heap /\ (∀ b ∈ fp,H' b = none) /\ W i n σ' H') ?_ m0 ⟨0,capσ cap σ,_,J0 tk,st1,fpH3,w0⟩
  rintro n s4 ⟨i,σ4,H4,I4,st4,fr4,w4⟩
  rcases turn i n σ4 H4 w4 with ⟨stop,q⟩ | ⟨go,N,hN,step⟩
  ·refine thn (T.done X' rfl rfl rfl hc i [] s4 σ4 H4 _ I4 (stat fr4) st4 stop) ?_
   rintro r s5 ⟨hr,I5⟩
   subst hr
   exact fin I5 q
  ·refine thn (T.item X' rfl rfl rfl hc i [] s4 σ4 H4 _ I4 (stat fr4) st4 go) ?_
   rintro r s5 ⟨u,hr,h5⟩
   subst hr
   refine thn h5 ?_
   rintro _ s6 ⟨x,H6,I6,r6,y6,st6,fr6⟩
   have I6':=I6.pinned (stat fr6) (T.obj _ _ st6)
   have back : ∀ {σ7 : St} {H7 : Hp} {s7 : Shared},Inv X' ([] ++ pinsAt fp s6.heap) σ7 H7 s7 -> N σ7 H7 -> ∃ m,m < n /\ ∃ i σ' H',Inv X' [] σ' H' s7 /\ tn i s7.heap /\ (∀ b ∈ fp,H' b = none) /\ W i m σ' H':=fun {σ7 H7 s7} I7 n7 => by
    obtain ⟨m',hm,w7⟩:=hN σ7 H7 n7
    refine ⟨m',hm,i + 1,σ7,H7,I7.unpinned,T.keep _ _ _ st6 fun b hb o e => (I7.pin (b,o) (List.mem_append_right _ (List.mem_append_right _ (mem_pinsAt hb e)))).1,fun b hb => ?_,w7⟩
    obtain ⟨o,e,d⟩:=T.obj _ _ st6 b hb
    exact (I7.pin (b,o) (List.mem_append_right _ (List.mem_append_right _ (mem_pinsAt hb e)))).2.1
   refine wpAny_mono (hg C s3 _ fp _ s6 σ4 H6 x u _ I6' r6 (step x H6 y6)) (?_) fun _ _ f => f.elim
   rintro _ s7 ⟨σ7,H7,I7,q7⟩
   refine wpAny_mono (ht C s3 _ fp _ s7 σ7 H7 _ I7 q7) (?_) fun _ _ f => f.elim
   rintro b s8 ⟨H8,I8,q8⟩
   cases b with
   | false =>
    rw [if_neg Bool.false_ne_true] at q8 ⊢
    exact back I8 q8
   | true =>
    rw [if_pos rfl] at q8 ⊢
    refine wpAny_mono (he C s3 _ fp _ s8 σ7 H8 _ I8 q8) (?_) fun _ _ f => f.elim
    rintro u9 s9 ⟨v9,H9,I9,r9,xs,hD9,hl9,q9⟩
    refine wpAny_mono (mt_append (X:=X') _ s9 σ7 H9 (.ref s2.heap.objs.size) [v9] (.ref s2.heap.objs.size) [u9] (fun _ H' => N σ7 H') I9 rfl (.cons r9 .nil) ⟨_,xs,v9,rfl,rfl,hD9,hl9,q9⟩) (fun _ s10 ⟨_,H10,I10,_,q10⟩ => ?_) fun _ _ f => f.elim
    exact back I10 q10
 exact codeAny_compStart_list (loop _) (T.self _ 0 _ _ _ st1 (loop _))
theorem pe_comp (hc : X.calm = true) (S : CompScope X N' cap scope cl) (hi : PI X tg iter wi)
  (hg : ∀ C s₃ H₃ fp,PG (cxComp X N' scope cl C s₃ H₃ fp) tg g) (ht : ∀ C s₃ H₃ fp,PF (cxComp X N' scope cl C s₃ H₃ fp) ifs ti) (he : ∀ C s₃ H₃ fp,PE (cxComp X N' scope cl C s₃ H₃ fp) elt te)
  (hs : autoParam (∀ x,foldedSetIterable iter X.env x = pure x) L2.au4._auto_1) : PE X (.ListComp elt [⟨tg,iter,ifs,0⟩] scope pos) (tComp cap wi g ti te):=by
 intro pins s σ H Q I hw
 rw [eval_ListComp]
 refine wpAny_comprehension_free (use:=none) rfl hs S.clos S.kind S.names (thn (hi pins s σ H _ I hw) fun v s1 h1 => thn h1 fun itv s2 h2 => ?_)
 obtain ⟨it,fp,tn,J,H2,e,I2,T,st2,f2,hW⟩:=h2
 subst e
 refine comp_core (RR:=fun acc C => compPost (model X.prog X.w) X.A X.xe none (EP X pins σ Q) acc C) hc S I2 T st2 f2 hg ht he hW ?_
 intro D C s' H' hn I' fC q
 obtain ⟨m,hn⟩:=hn
 refine ⟨m,hn,fun h' hs' => ?_⟩
 obtain ⟨f0,f1,_,f3,f4,f5⟩:=fC
 exact ⟨.ref D,H',I'.turned (t':=s'.toks) (fun b o hb e => (hs'.2 b hb).trans e) f0 f1 f3 f4 f5,rfl,q⟩
theorem ps_setComp {i : Nat} {y : Str} {py spos : Pos} (hN : X.N.Nodup) (hyi : X.N[i]? = some y) (hy : Loc X.env.scope y) (hc : X.calm = true) (S : CompScope X N' cap scope cl) (hi : PI X tg iter wi)
  (hg : ∀ C s₃ H₃ fp,PG (cxComp X N' scope cl C s₃ H₃ fp) tg g) (ht : ∀ C s₃ H₃ fp,PF (cxComp X N' scope cl C s₃ H₃ fp) ifs ti) (he : ∀ C s₃ H₃ fp,PE (cxComp X N' scope cl C s₃ H₃ fp) elt te)
  (hsw : autoParam (swapsWith (.ListComp elt [⟨tg,iter,ifs,0⟩] scope pos) (some (.Name y py)) spos.line X.env = pure true) L2.au1._auto_1)
  (hs : autoParam (∀ x,foldedSetIterable iter X.env x = pure x) L2.au4._auto_1) (hf : autoParam (X.fn y = true ∨ X.env.scope.names.lookup y = some .local) L2.au2._auto_1) :
  PS X (.Assign [.Name y py] (.ListComp elt [⟨tg,iter,ifs,0⟩] scope pos) spos) (tAsg (tComp cap wi g ti te) (gName i)):=by
 intro pins s σ H Dd I hw
 rw [exec_Assign_Name_used _ _ _ _ hsw]
 refine wpAny_bind (wpAny_standAt (wpAny_bind ?_))
 show wpAny _ X.A (do let _ <- comprehension (.ListComp elt [⟨tg,iter,ifs,0⟩] scope pos) scope X.env _ (newList []) false (eval iter X.env) (some (assign (.Name y py) X.env))) _ _ s
 refine wpAny_bind (wpAny_mono (wpAny_comprehension_free (use:=some (assign (.Name y py) X.env)) (Q:=fun _ s' => SP X pins Dd .next s') rfl hs S.clos S.kind S.names
  (thn (hi pins s σ H _ I hw) fun v s1 h1 => thn h1 fun itv s2 h2 => ?_)) (fun _ s' hq => wpAny_pure (wpAny_pure hq)) fun _ _ e => e)
 obtain ⟨it,fp,tn,J,H2,e,I2,T,st2,f2,hW⟩:=h2
 subst e
 refine comp_core (RR:=fun acc C => compPost (model X.prog X.w) X.A X.xe (some (assign (.Name y py) X.env)) (fun _ s' => SP X pins Dd .next s') acc C) (Q:=fun v H' => Dd.nx (σ.set i (some v)) H') hc S I2 T st2 f2 hg ht he hW ?_
 intro D C s' H' hn I' fC q
 obtain ⟨m,hn⟩:=hn
 obtain ⟨f0,f1,_,f3,f4,f5⟩:=fC
 show wpAny _ X.A (assign (.Name y py) X.env (.ref D)) _ _ _
 refine wpAny_assign_Name (store_ok2 (v:=.ref D) I' hN hyi hy rfl (fun s'' I'' sb => ?_) hf)
 obtain ⟨a,sb,ha⟩:=sb
 have hCa : C ≠ a:=by
  rcases ha with q | q
  ·rw [q]; exact f1
  ·exact fun z => f4 y a q z.symm
 refine ⟨m,hn.sameBut sb hCa,fun h' hs' => ?_⟩
 exact ⟨_,H',I''.turned (t':=s''.toks) (fun b o hb e => (hs'.2 b hb).trans e) f0 f1 f3 f4 f5,q⟩
end
theorem comp_range {lo : Int} {n : Nat} {g : TG} {ti : TT} {te : TE} {D : Addr} {σ₀ : St} {H₀ : Hp} {Q : Hp -> Prop} (Pv : Nat -> St -> Hp -> Prop)
  (h0 : Pv 0 σ₀ H₀)
  (hs : ∀ (i : Nat) σ H,i < n -> Pv i σ H -> g (.int (lo + i)) σ H fun σ2 H2 => ti σ2 H2 fun b H3 => if b = true then te σ2 H3 fun v H4 => ∃ ys,H4 D = some (.lst ys) /\ ys.length < sizeLine /\ Pv (i + 1) σ2 (upd H4 D (.lst (ys ++ [v]))) else Pv (i + 1) σ2 H3)
  (hd : ∀ σ H,Pv n σ H -> Q H) : CompW (Itr lo n) g ti te D σ₀ H₀ Q:=by
 refine ⟨fun i m σ H => m = n - i /\ i <= n /\ Pv i σ H,⟨n,by simp,Nat.zero_le _,h0⟩,?_⟩
 rintro i m σ H ⟨rfl,hi,p⟩
 by_cases hlt : i < n
 ·refine .inr ⟨hlt,Pv (i + 1),fun σ' H' p' => ⟨n - (i + 1),by omega,rfl,hlt,p'⟩,fun x H' y => ?_⟩
  obtain ⟨e,y⟩:=y
  subst e y
  exact hs i σ _ hlt p
 ·have e : i = n:=by omega
  subst e
  exact .inl ⟨Nat.le_refl _,hd σ H p⟩
end L2
namespace Hs
structure Rm where
 l : Nat
 r : Nat
 lit : Bool
deriving DecidableEq,Inhabited
noncomputable def stp (hs : List Rm) (i : Nat) (b : Bool) : Nat:=match hs[i]? with
 | some r => if b then r.r else r.l
 | none => 0
noncomputable def led (hs : List Rm) (i : Nat) (w : List Bool) : Nat:=w.foldl (stp hs) i
noncomputable def litAt (hs : List Rm) (i : Nat) : Bool:=match hs[i]? with
 | some r => r.lit
 | none => false
structure Wf (hs : List Rm) : Prop where
 ne : 0 < hs.length
 ex : ∀ r ∈ hs,r.l < hs.length /\ r.r < hs.length
theorem Wf.stp {hs : List Rm} (h : Wf hs) {i : Nat} (hi : i < hs.length) (b : Bool) : stp hs i b < hs.length:=by
 unfold Hs.stp
 have e : hs[i]? = some hs[i]:=by simp [hi]
 rw [e]
 have:=h.ex hs[i] (List.getElem_mem hi)
 cases b
 ·exact this.1
 ·exact this.2
theorem led_snoc (hs : List Rm) (i : Nat) (w : List Bool) (b : Bool) : led hs i (w ++ [b]) = stp hs (led hs i w) b:=by
 unfold led
 rw [List.foldl_append]
 rfl
theorem led_append (hs : List Rm) (i : Nat) (w v : List Bool) : led hs i (w ++ v) = led hs (led hs i w) v:=by
 unfold led
 rw [List.foldl_append]
theorem Wf.led {hs : List Rm} (h : Wf hs) : ∀ (w : List Bool) {i : Nat},i < hs.length -> led hs i w < hs.length
 | [],_,hi => hi
 | b :: w,_,hi => Wf.led h w (h.stp hi b)
noncomputable def cellN (ns : List Int) (k : Nat) : Int:=if ns = [] then (k : Int) else ns.getD k 0
noncomputable def farN (ns : List Int) (k : Nat) : Int:=if ns = [] then (k : Int) else ns.getD ((k + 1) % max 1 ns.length) 0
noncomputable def roomOf (ns : List Int) (k : Nat) : Rm :=
 ⟨((cellN ns k + k) % ((max 1 ns.length : Nat) : Int)).toNat,((farN ns k / 3 + 2 * k + 1) % ((max 1 ns.length : Nat) : Int)).toNat,decide (farN ns k % 3 = 0)⟩
noncomputable def drawn (ns : List Int) : List Rm:=(List.range (max 1 ns.length)).map (roomOf ns)
theorem drawn_length (ns : List Int) : (drawn ns).length = max 1 ns.length:=by simp [drawn]
theorem drawn_wf (ns : List Int) : Wf (drawn ns):=by
 have hp : 0 < max 1 ns.length:=by omega
 refine ⟨by rw [drawn_length]; exact hp,fun r hr => ?_⟩
 rw [drawn_length]
 obtain ⟨k,_,rfl⟩:=List.mem_map.mp hr
 have h1:=Int.emod_lt_of_pos (cellN ns k + k) (show (0 : Int) < ((max 1 ns.length : Nat) : Int) by omega)
 have h2:=Int.emod_lt_of_pos (farN ns k / 3 + 2 * k + 1) (show (0 : Int) < ((max 1 ns.length : Nat) : Int) by omega)
 exact ⟨by show ((cellN ns k + k) % ((max 1 ns.length : Nat) : Int)).toNat < _; omega,by show ((farN ns k / 3 + 2 * k + 1) % ((max 1 ns.length : Nat) : Int)).toNat < _; omega⟩
theorem drawn_get (ns : List Int) {k : Nat} (hk : k < max 1 ns.length) : (drawn ns)[k]? = some (roomOf ns k):=by
 simp [drawn,hk]
theorem drawn_take (ns : List Int) {k : Nat} (hk : k < max 1 ns.length) : (drawn ns).take (k + 1) = (drawn ns).take k ++ [roomOf ns k]:=by
 rw [List.take_add_one,drawn_get ns hk]
 rfl
end Hs
set_option maxHeartbeats 4000000
namespace L2
open PySem PySem.Spec PyProof.Rows
section
variable {X : Cx} {pins : List (Addr × Obj)} {σ : St} {H H' : Hp} {s s' : Shared} {B h'' : Heap}
end
section
variable {X : Cx} {E : XK}
end
end L2
set_option maxHeartbeats 4000000
namespace L2
section
open PySem PySem.W PySem.Spec PySem.Calls PyProof.Rows Builtin Builtin.ObjectAttr Builtin.Getset_descriptor
variable {prog : Program} {w : World} {A : Around} {E : Value -> Shared -> Prop} {h : Heap} {g : Array GenState} {d : Drawn} {t : Nat} {os : OsState} {a C : Addr} {o : Obj} {K : Frag}
end
end L2
set_option maxHeartbeats 4000000
namespace L2
open PySem PySem.Spec PyProof.Rows
section
variable {X : Cx} {pins pins' : List (Addr × Obj)} {σ : St} {H : Hp} {s : Shared} {E' : Value -> Shared -> Prop} {e : Addr}
end
section
variable {X : Cx} {pins : List (Addr × Obj)} {σ : St} {H : Hp} {s : Shared} {B h'' : Heap}
end
section
variable {X : Cx} {x : Str} {C2 : Addr} {np pos : Pos} {b₀ : Stmt} {body : List Stmt} {rest : List ExceptHandler} {ts : TS} {tr : TH}
end
end L2
set_option maxHeartbeats 4000000
namespace L2
open PySem PySem.Spec PyProof.Rows
noncomputable def tCut (I : St -> Hp -> Prop) (t : TS) : TS:=fun D σ H => t { D with nx:=I } σ H /\ ∀ σ' H',I σ' H' -> D.nx σ' H'
theorem ps_cut {X : Cx} {st : Stmt} {t : TS} (I : St -> Hp -> Prop) (h : PS X st t) : PS X st (tCut I t):=by
 intro pins s σ H D V hw
 refine wpAny_mono (h pins s σ H _ V hw.1) (fun f s' q => ?_) fun _ _ z => z
 cases f with
 | next => obtain ⟨σ',H',V',q⟩:=q; exact ⟨σ',H',V',hw.2 _ _ q⟩
 | brk => exact q
 | cont => exact q
 | ret u => exact q
end L2
namespace Hs
end Hs
set_option maxHeartbeats 4000000
namespace L2
open PySem PySem.Spec PyProof.Rows
noncomputable def BMain (mg : Str -> Option Value) (h : Heap) : Prop:=∃ bm ob,mg "__builtins__" = some (.ref bm) /\ bm ≠ builtinsNs /\ h.get? bm = some ob /\ ob.cls = .type "module" /\ ob.dict = some builtinsNs /\ ob.data = .plain
theorem law_callT {P : Program} {w : World} {K : PySem.W.Frag} {mg mb : Str -> Option Value} {CX : CXT} {k : Nat} {fa a : Addr} {fd : FuncData} {x : Str} {sp : Sp} {s₁ : Shared} {vs : List Value} {ns : List Int} {tabs : List (Addr × Addr)}
  (hT : PySem.W.TabsAt tabs s₁.heap) (hKT : PySem.W.noTabs K = true) (hbm : BMain mg s₁.heap)
  (KX : K.In s₁.heap) (hns : s₁.heap.Ns mainGlobals mg) (hb : s₁.heap.Ns builtinsNs mb) (hbb : ∀ x : Str,x ≠ "__name__" -> mb x = bootBuiltins x) (hlim : s₁.heap.NoLimit) (hg : s₁.gens = #[])
  (ha : s₁.heap.get? a = some { cls:=.type "list",data:=.seq vs.toArray }) (hi : IntsAre vs ns) (hl : ns.length <= sizeLine) (hr : Room k callerA)
  (F : ∀ base : Heap,K.In base -> base.Ns mainGlobals mg -> PySem.W.CodeAll tabs base -> BMain mg base -> FnOk P w K mg base CX k fa fd [x] sp) (hbind : ∀ (s : Shared) (u : Value),BindsTo s fd ⟨[u],[]⟩ [(x,u)])
  (hsp : ∀ H : Hp,SqL K H a (ns.map V.int) -> (∀ q ∈ tabs,H q.2 = some (.tbl #[])) -> sp [.ref a] H (fun v _ => v = .bl true) fun _ _ _ => False)
  (hCX : ∀ H e s',CX [] H s₁ (fun _ _ _ => False) e s' -> False) :
  codeAny (model P w) callerA (.call (.ref fa) ⟨[.ref a],[]⟩) (fun r s' => r = .ok (.ret (.bool true)) /\ OldK s₁.heap s'.heap /\ s'.os = s₁.os /\ AllBare s'.gens) s₁:=by
 have rv:=vals_ints hi
 have lenV:=hi.length
 have core : ∀ H : Hp,(∀ b u,H b = some u -> (b = a /\ ∃ ob xs,u = .frz ob (.lst xs)) ∨ ∃ q ∈ tabs,b = q.2 /\ u = .tbl #[]) -> SqL K H a (ns.map V.int) -> (∀ q ∈ tabs,H q.2 = some (.tbl #[])) -> HOk P w H s₁.heap -> (H a ≠ none -> K.lookup a = none) ->
   codeAny (model P w) callerA (.call (.ref fa) ⟨[.ref a],[]⟩) (fun r s' => r = .ok (.ret (.bool true)) /\ OldK s₁.heap s'.heap /\ s'.os = s₁.os /\ AllBare s'.gens) s₁:=by
  intro H hO hS hTb hok hK
  have base_of : ∀ {b : Addr} {o : Obj},s₁.heap.get? b = some o -> H b = none -> (hidT s₁.heap H).get? b = some o:=fun e n => hidT_get e n
  have kind : ∀ {b : Addr} {o : Obj} {u : HO},s₁.heap.get? b = some o -> H b = some u -> (b = a /\ ∃ vs n,o.data = .seq vs n) ∨ (∃ q ∈ tabs,b = q.2 /\ o = PySem.W.tabObj #[]):=fun {b o u} e q => by
   rcases hO b u q with ⟨rfl,_⟩ | ⟨q',hq',rfl,rfl⟩
   ·rw [ha] at e; cases e
    exact .inl ⟨rfl,_,_,rfl⟩
   ·have:=(hT q' hq').2
    rw [e] at this
    exact .inr ⟨q',hq',rfl,Option.some.inj this⟩
  have free : ∀ {b : Addr} {o : Obj},s₁.heap.get? b = some o -> (∀ vs n,o.data ≠ .seq vs n) -> o ≠ PySem.W.tabObj #[] -> H b = none:=fun {b o} e n1 n2 => by
   cases q : H b with
   | none => rfl
   | some u =>
    rcases kind e q with ⟨_,vs,n,z⟩ | ⟨_,_,_,z⟩
    ·exact absurd z (n1 vs n)
    ·exact absurd z n2
  have noA : ∀ {b : Addr} {o : Obj} {es : Array DictEntry} {ep : Nat},s₁.heap.get? b = some o -> o.data = .dict es ep -> H b = none:=fun {b o es ep} e d =>
   free e (fun vs n z => by rw [d] at z; cases z) (fun z => by rw [z] at d; cases d)
  have nsK : ∀ {b : Addr} {m : Str -> Option Value},s₁.heap.Ns b m -> (hidT s₁.heap H).Ns b m:=fun {b m} ⟨o,es,ep,e,d,r⟩ => ⟨o,es,ep,base_of e (noA e d),d,r⟩
  have hKb : K.In (hidT s₁.heap H):=fun b o e => base_of (KX b o e) (by
   cases q : H b with
   | none => rfl
   | some u =>
    rcases kind (KX b o e) q with ⟨rfl,_⟩ | ⟨_,_,_,z⟩
    ·rw [hK (by rw [q]; simp)] at e; cases e
    ·have h2:=List.all_eq_true.mp hKT (b,o) (PySem.W.mem_of_lookupK e)
     rw [z] at h2
     cases h2)
  have hM : Mod K mg (hidT s₁.heap H):=⟨hKb,nsK hns,⟨mb,nsK hb,hbb⟩,let ⟨mc,h1,h2⟩:=hlim; ⟨mc,nsK h1,h2⟩⟩
  have hC : PySem.W.CodeAll tabs (hidT s₁.heap H):=.of fun q hq => by
   obtain ⟨o,ws,file,tf,flags,tg,inF,text,tt,e1,r1,r2,r3⟩:=(hT q hq).1
   exact ⟨o,ws,file,tf,flags,tg,inF,text,tt,base_of e1 (free e1 (fun _ _ z => by rw [r2] at z; cases z) (fun z => by rw [z] at r1; cases r1)),r1,r2,r3⟩
  have hB : BMain mg (hidT s₁.heap H):=by
   obtain ⟨bm,ob,b1,b2,b3,b4,b5,b6⟩:=hbm
   exact ⟨bm,ob,b1,b2,base_of b3 (free b3 (fun _ _ z => by rw [b6] at z; cases z) (fun z => by rw [z] at b4; cases b4)),b4,b5,b6⟩
  have e0 : Env0 P w K mg (hidT s₁.heap H) callerA [] s₁ H:=⟨rfl,hM,fun b o e => of_hidT e,Nat.le_of_eq (hidT_size _ _),trivial,fun b hb => absurd (show b ∈ ([] : List Addr) from hb) (by simp),hok,.of_eq hg⟩
  refine codeAny_mono ((F _ hKb (nsK hns) hC hB).run callerA [] s₁ H ⟨[.ref a],[]⟩ [.ref a] [.ref a] _ _ hr e0 (hbind s₁ (.ref a)) (.cons rfl .nil) (hsp H hS hTb)) fun r s' h => ?_
  cases r with
  | error e => exact (hCX H e s' h).elim
  | ok fl =>
   cases fl with
   | next => exact False.elim h
   | brk => exact False.elim h
   | cont => exact False.elim h
   | ret u =>
    obtain ⟨v,H',os,bare,un,hok',r',q⟩:=h
    have q' : v = .bl true:=q
    subst q'
    obtain rfl : u = Value.bool true:=r'
    have key : ∀ b o,s₁.heap.get? b = some o -> s'.heap.get? b = some o ∨ (∃ q ∈ tabs,b = q.2 /\ o = PySem.W.tabObj #[] /\ ∃ ps,s'.heap.get? b = some (PySem.W.tabObj ps)):=fun b o e => by
     cases q : H b with
     | none => exact .inl (un.keep b o e q (by intro z; exact absurd (show b ∈ ([] : List Addr) from z) (by simp)) (by simp))
     | some u =>
      rcases hO b u q with ⟨rfl,ob,xs,rfl⟩ | ⟨q',hq',rfl,rfl⟩
      ·have z2:=un.frzs b ob _ q
       obtain ⟨e1,_⟩:=hok b _ q
       obtain ⟨e2,_⟩:=hok' b _ z2
       rw [e] at e1; cases e1
       exact .inl e2
      ·obtain ⟨more,z2⟩:=un.tbls _ _ q
       have e1:=(hT q' hq').2
       rw [e] at e1
       have e2 : s'.heap.get? q'.2 = some (PySem.W.tabObj (#[] ++ more)):=hok' _ _ z2
       exact .inr ⟨q',hq',rfl,Option.some.inj e1,_,e2⟩
    refine ⟨rfl,⟨fun b o e => ?_,fun b o e => ?_⟩,os,bare⟩
    ·rcases key b o e with z | ⟨q',hq',rfl,rfl,ps,hP⟩
     ·exact .inl z
     ·exact .inr (.inl ⟨((hT q' hq').1.tab (hT q' hq').2).isCodeTable,rfl,#[],ps,rfl,by rw [Array.empty_append]; exact hP⟩)
    ·rcases key b o e with z | ⟨q',hq',rfl,rfl,ps,hP⟩
     ·exact ⟨o,z⟩
     ·exact ⟨_,hP⟩
 have hTa : ∀ q ∈ tabs,q.2 ≠ a:=fun q hq z => by
  have:=(hT q hq).2
  rw [z,ha] at this
  cases this
 have hokT : ∀ q ∈ tabs,ObjOk P w (fun _ => none) s₁.heap q.2 (.tbl #[]):=fun q hq => (hT q hq).2
 cases hk : K.lookup a with
 | some o =>
  have e:=KX a o hk
  rw [ha] at e
  cases e
  refine core (fun b => if b ∈ tabs.map (·.2) then some (.tbl #[]) else none) (fun b u z => ?_) (.inr ⟨_,vs.toArray,_,hk,rfl,rfl,rfl,by rw [List.size_toArray,lenV]; exact hl,by simpa using rv⟩)
   (fun q hq => if_pos (List.mem_map_of_mem hq)) (fun b u z => ?_) fun z => ?_
  ·by_cases hb : b ∈ tabs.map (·.2)
   ·obtain ⟨q,hq,e⟩:=List.mem_map.mp hb
    exact .inr ⟨q,hq,e.symm,by have z':=(if_pos hb).symm.trans z; cases z'; rfl⟩
   ·have z':=(if_neg hb).symm.trans z
    cases z'
  ·by_cases hb : b ∈ tabs.map (·.2)
   ·have z':=(if_pos hb).symm.trans z
    cases z'
    obtain ⟨q,hq,e⟩:=List.mem_map.mp hb
    have h1:=(hT q hq).2
    rw [e] at h1
    exact h1
   ·have z':=(if_neg hb).symm.trans z
    cases z'
  ·exfalso
   refine z (if_neg fun hb => ?_)
   obtain ⟨q,hq,e⟩:=List.mem_map.mp hb
   exact hTa q hq e
 | none =>
  have nA : ¬ a ∈ tabs.map (·.2):=fun hb => by
   obtain ⟨q,hq,e⟩:=List.mem_map.mp hb
   exact hTa q hq e
  refine core (fun b => if b ∈ tabs.map (·.2) then some (.tbl #[]) else if b = a then some (.frz { cls:=.type "list",data:=.seq vs.toArray } (.lst (ns.map V.int))) else none) (fun b u z => ?_) (.inl (.inr ⟨{ cls:=.type "list",data:=.seq vs.toArray },(if_neg nA).trans (if_pos rfl)⟩))
   (fun q hq => if_pos (List.mem_map_of_mem hq)) (fun b u z => ?_) fun _ => hk
  ·by_cases hb : b ∈ tabs.map (·.2)
   ·obtain ⟨q,hq,e⟩:=List.mem_map.mp hb
    exact .inr ⟨q,hq,e.symm,by have z':=(if_pos hb).symm.trans z; cases z'; rfl⟩
   ·have z':=(if_neg hb).symm.trans z
    by_cases hb2 : b = a
    ·have z':=(if_pos hb2).symm.trans z'
     cases z'
     exact .inl ⟨hb2,_,_,rfl⟩
    ·have z':=(if_neg hb2).symm.trans z'
     cases z'
  ·by_cases hb : b ∈ tabs.map (·.2)
   ·have z':=(if_pos hb).symm.trans z
    cases z'
    obtain ⟨q,hq,e⟩:=List.mem_map.mp hb
    have h1:=(hT q hq).2
    rw [e] at h1
    exact h1
   ·have z':=(if_neg hb).symm.trans z
    by_cases hb2 : b = a
    ·have z':=(if_pos hb2).symm.trans z'
     cases z'
     subst hb2
     exact ⟨ha,by rw [List.length_map]; exact hl,vs,_,rv,ha⟩
    ·have z':=(if_neg hb2).symm.trans z'
     cases z'
theorem walk_ofT {l : PySem.W.OpenLaw} {n k : Nat} {q : Program} {loose : List Str} {XP : (Str -> Option Value) -> Heap -> Prop} {YP : World -> Heap -> Prop} {d : DefRec} {K : Params -> PySem.W.Frag} {CX : World -> CXT} {sp : World -> Sp} {x : Str} {tabs : List (Addr × Addr)} {xs : List (Str × DefRec)}
  (hn : l.most = some n) (hn2 : n <= sizeLine) (hdf : d.params.defaults = []) (hr : Room k callerA)
  (hY : ∀ (w : World) (h : Heap),YP w h -> (K w.params).In h) (hKT : ∀ w : World,PySem.W.noTabs (K w.params) = true)
  (hx : ∀ y ∈ xs,(recsOf q).find? (fun e => e.name == y.1) = some y.2) (htb : ∀ (w : World) (t : Addr × Addr),t ∈ tabs -> ∃ y ∈ xs,PySem.W.tabIn (K w.params) y.1 = some t)
  (F : ∀ (w : World) (mg : Str -> Option Value) (fa : Addr) (h : Heap),(K w.params).In h -> h.Ns mainGlobals mg -> mg d.name = some (.ref fa) ->
   ∃ fd : FuncData,(∀ (s : Shared) (u : Value),BindsTo s fd ⟨[u],[]⟩ [(x,u)]) /\
    ∀ base : Heap,(K w.params).In base -> base.Ns mainGlobals mg -> PySem.W.CodeAll tabs base -> BMain mg base -> FnOk l.prog w (K w.params) mg base (CX w) k fa fd [x] (sp w))
  (hsp : ∀ (w : World) (H : Hp) (a : Addr) (ns : List Int),ns.length <= n -> SqL (K w.params) H a (ns.map V.int) -> (∀ t ∈ tabs,H t.2 = some (.tbl #[])) -> sp w [.ref a] H (fun v _ => v = .bl true) fun _ _ _ => False)
  (hCX : ∀ (w : World) (H : Hp) (s : Shared) (e : Value) (s' : Shared),CX w [] H s (fun _ _ _ => False) e s' -> False) :
  PySem.W.WalkO q loose XP YP l.row.toRowW d [] (fun f vs => PySem.call f vs):=by
 refine Att.attach_call hn hdf fun w s₀ s₁ mg mb fa o pm cd doc a vs ns G Y ho hd hcd hmg hobj hints hlen hg => ?_
 have KX:=hY w _ Y
 obtain ⟨fd,hb,hF⟩:=F w mg fa _ KX G.T.g hmg
 have hT : PySem.W.TabsAt tabs s₁.heap:=fun t ht => by
  obtain ⟨y,hy,e⟩:=htb w t ht
  exact PySem.W.tab_of (x:=y.1) G.T KX (hx y hy) e
 exact law_callT hT (hKT w) G.T.bmain KX G.T.g G.T.b G.T.builtins G.T.nolimit hg hobj hints (Nat.le_trans hlen hn2) hr hF hb (fun H hS hTb => hsp w H a ns hlen hS hTb) fun H e s' => hCX w H s₁ e s'
end L2
set_option maxHeartbeats 4000000
namespace L2
open PySem PySem.Spec PyProof.Rows
noncomputable def Exact (c : Addr) (o : Obj) : Heap -> Prop:=fun h => h.get? c = some o
noncomputable abbrev frzC (c : Addr) (o : Obj) : HO:=.frz o (.ext (Exact c o))
section
variable {P : Program} {w : World} {H : Hp} {h : Heap} {c : Addr} {o : Obj}
theorem frzC_ok (e : h.get? c = some o) : ObjOk P w H h c (frzC c o):=⟨e,e,⟨o,e⟩,fun _ _ x k => k o x⟩
end
noncomputable def LamObj (f : Addr) (qual : Str) (params : Arguments) (body : Expr) (scope : Scope) (clos : List (Str × Addr)) (c' : Addr) : Heap -> Prop:=fun h => ∃ pm ctv,h.get? f = some (PySem.W.kla_obj "<lambda>" qual params body scope clos pm c' ctv)
noncomputable def RecAt (c' : Addr) (qual : Str) : Heap -> Prop:=fun h => h.CodeRec (.ref c') qual
noncomputable def Lam (H : Hp) (f : Addr) (qual : Str) (params : Arguments) (body : Expr) (scope : Scope) (clos : List (Str × Addr)) : Prop:=∃ c',H f = some (.ext (LamObj f qual params body scope clos c')) /\ H c' = some (.ext (RecAt c' qual))
noncomputable def SameT (P : Addr) (H H' : Hp) : Prop:=∀ b u,b ≠ P -> H b = some u -> H' b = some u
theorem triples_snoc {p : Pos} {c : Value} (l : List Value) (h : TriplesOk l) : TriplesOk (l ++ [rawInt p.line,rawInt p.col,c]):=by
 fun_induction TriplesOk l with
 | case1 => exact trivial
 | case2 a t b u y rest ih => exact ih h
 | case3 => exact False.elim h
theorem rec_stable {c' : Addr} {qual : Str} : ∀ h1 h2 : Heap,RecAt c' qual h1 -> (∀ o,h1.get? c' = some o -> h2.get? c' = some o) -> RecAt c' qual h2:=fun h1 h2 ⟨c,o,vs,t,e,ho,r⟩ k => by
 cases e
 exact ⟨c',o,vs,t,rfl,k o ho,r⟩
noncomputable def FvOk (P : Program) (w : World) (K : PySem.W.Frag) (mg : Str -> Option Value) (base : Heap) (k : Nat) (f : Addr) (R : Hp -> Prop) (sp : Sp) : Prop :=
 (∀ H h,R H -> HOk P w H h -> PySem.W.FnAt f h) /\ ∀ (A : Around) (outer : List Env) (s : Shared) (H : Hp) (us : List Value) (vs : List V) (Q : VK) (E : XK),Room k A -> Env0 P w K mg base A outer s H -> R H -> Vals vs us -> sp vs H Q E ->
  codeAny (model P w) A (.call (.ref f) ⟨us,[]⟩) (CR CX0 outer P w H s Q E) s
noncomputable def tCallV (P : Program) (w : World) (K : PySem.W.Frag) (mg : Str -> Option Value) (base : Heap) (k i : Nat) (t : TA) : TE:=fun σ H Q => ∃ f R sp,σ[i]? = some (some (.ref f)) /\ FvOk P w K mg base k f R sp /\ R H /\ t σ H fun vs H1 => R H1 /\ sp vs H1 Q fun _ _ _ => False
theorem pe_callV {X : Cx} {k i : Nat} {x : Str} {p pos : Pos} {e : Expr} {es : List Expr} {t : TA} (hr : Room k X.A) (hN : X.N[i]? = some x) (hv : Vis X.env.scope x) (ha : PA X (e :: es) t)
  (hd : autoParam ((x == ("__debug__" : Str)) = false) L2.au3._auto_1) (hcd : autoParam ((x == ("__classdict__" : Str)) = false) L2.au3._auto_1) (he : autoParam (starEach (e :: es) X.env = (false,eval e X.env) :: starEach es X.env) L2.au1._auto_1) (hpl : autoParam ((backTo pos (starEach es X.env)).any (·.1) = false) L2.au1._auto_1) :
  PE X (.Call (.Name x p) (e :: es) [] pos) (tCallV X.prog X.w X.K X.mg X.base k i t):=by
 intro pins s σ H Q I h
 obtain ⟨f,R,sp,hi,F,hR,h⟩:=h
 refine wpAny_Call_Name_kw (thn (pe_var hN hv hd hcd pins s σ H (fun v H' => v = .ref f /\ H' = H) I ⟨_,hi,rfl,rfl⟩) fun u s1 ⟨v,H1,I1,r1,e1,e2⟩ => ?_)
 subst e1 e2
 cases r1
 refine PySem.W.callWith_F (F.1 _ _ hR I1.hok) (thn (ha pos pins s1 σ _ _ I1 h) ?_) he hpl
 rintro us s2 ⟨vs,H2,I2,r2,hR2,q⟩
 refine ⟨F.1 _ _ hR2 I2.hok,?_⟩
 refine wpAny_call (codeAny_mono (F.2 X.A X.stack s2 H2 us vs Q _ hr I2.env0 hR2 r2 q) fun r s' hq => ?_)
 cases r with
 | error e => exact False.elim hq
 | ok fl =>
  cases fl with
  | ret u => exact I2.after hq
  | next => exact False.elim hq
  | brk => exact False.elim hq
  | cont => exact False.elim hq
noncomputable def CellIs (H : Hp) (c : Addr) (v : V) : Prop:=∃ o u,H c = some (frzC c o) /\ RelV v u /\ o.data = .cell (some u)
end L2
set_option maxHeartbeats 4000000
namespace PySem
open Sem (wp)
open Builtin Builtin.Str
theorem F.nolen_lri : typeLookup (.type "list_reverseiterator") "__len__" = pure none:=by rw [typeLookup_type,builtinLookup_eq_fast]; kernel_rfl
theorem F.hint_lri : typeLookup (.type "list_reverseiterator") "__length_hint__" = pure (some (.builtin "list_reverseiterator.__length_hint__")):=by rw [typeLookup_type,builtinLookup_eq_fast]; kernel_rfl
section
variable {prog : Program} {w : World} {A : Around} {E : Value -> Shared -> Prop} {s : Shared} {I : Addr} {fp wr : List Addr} {G : Array GenState -> Array GenState -> Prop} {n : Nat} {P : Nat -> Value -> Prop} {St : Nat -> Shared -> Prop}
theorem collect_lri {Q : List Value -> Shared -> Prop}
  (W : WalksS prog w A.in1 I fp wr G n P St) (hT : ∀ i s,St i s -> s.TypeIs (.ref I) "list_reverseiterator") (hst : St 0 s) (hfp : ∀ b ∈ fp,b < s.heap.objs.size) (hI : I ∈ fp)
  (hQ : ∀ s' acc,Moved wr G s s' -> ItemsOf P acc n -> Q acc.toList s') (hn : n <= sizeLine) : wpAny (model prog w) A (collect (.ref I)) Q E s:=by
 have off : s.heap.objs.size ∉ fp:=fun hm => Nat.lt_irrefl _ (hfp _ hm)
 have ne : s.heap.objs.size ≠ I:=fun e => off (e ▸ hI)
 unfold collect
 refine wpAny_bind (wpAny_runValue (codeAny_builtin F.entry_proto_collect ?_))
 rw [Around.under_plainId F.plain_proto_collect _]
 show wpAny _ A.in1 (newList [] >>= fun l => again (.builtin "list.__iadd__" ⟨[l,.ref I],[]⟩)) _ _ s
 refine wpAny_bind (wpAny_newObj_type ?_)
 refine wpAny_pure ⟨plainId_quiet F.plain_list_iadd _,codeAny_builtin F.entry_list_iadd ?_⟩
 rw [Around.under_plainId F.plain_list_iadd _]
 have st1:=W.frame 0 s (s.heap.push { cls:=.type "list",data:=.seq ([] : List Value).toArray }) s.toks hst (Nat.le_refl _) fun b _ o e => Heap.get?_push_of_some _ e
 have at1 : (s.heap.push { cls:=.type "list",data:=.seq ([] : List Value).toArray }).get? s.heap.objs.size = some { cls:=.type "list",data:=.seq ([] : List Value).toArray }:=Heap.get?_push_size _ rfl
 have dif : Builtin.List.listSameRef (.ref s.heap.objs.size) (.ref I) = false:=by simp [Builtin.List.listSameRef,ne]
 show wpAny _ A.in1 (Builtin.List.listExtendWith (.ref s.heap.objs.size) (.ref I) (.ref s.heap.objs.size)) _ _ _
 unfold Builtin.List.listExtendWith
 refine wpAny_bind (wpAny_typeOf (hT 0 _ st1) ?_)
 rw [if_neg (by rw [dif]; decide)]
 refine wpAny_bind (W.self 0 _ _ _ st1 ?_)
 refine wpAny_bind (wpAny_holding ?_)
 unfold Builtin.List.listLengthHint
 refine wpAny_bind (wpAny_specialOf (hT 0 _ st1) F.nolen_lri ?_)
 show wpAny _ A.in1 (specialOf (Value.ref I) (Str.ofString "__length_hint__") >>= _) _ _ _
 refine wpAny_bind (wpAny_specialOf (hT 0 _ st1) F.hint_lri ?_)
 (generalize hid : ("list_reverseiterator.__length_hint__" : String) = id0; (fail_if_success (clear hid id0)); wp_delta; rw [show splitId id0 = some ("list_reverseiterator","__length_hint__") from by subst hid; decide +kernel]; subst hid)
 refine wpAny_bind (wpAny_isInstance (b:=true) (hT 0 _ st1) (by rw [isSubtype_type]; kernel_rfl) ?_)
 refine wpAny_pure ?_
 rw [if_neg (by decide)]
 refine wpAny_pure ⟨plainId_quiet F.plain_extend_loop _,codeAny_extend_loopS W hn _ off _ n 0 _ _ _ rfl (Nat.zero_le _) st1 at1 (ItemsOf.nil P) fun s' acc' c' hm hS' hacc => ?_⟩
 show wpAny _ A (load s.heap.objs.size >>= _) _ _ s'
 refine wpAny_bind (wpAny_load hS' ?_)
 exact wpAny_pure (hQ s' acc' (Moved.drop_new (o:={ cls:=.type "list",data:=.seq ([] : List Value).toArray }) (tk:=s.toks) hm (Nat.le_refl _)) hacc)
variable {x : Str} {t : Tok} {Q : Value -> Shared -> Prop}
theorem join_lri (W : WalksS prog w A.in1.in1 I fp wr G n P St) (hT : ∀ i s,St i s -> s.TypeIs (.ref I) "list_reverseiterator") (hst : St 0 s) (hfp : ∀ b ∈ fp,b < s.heap.objs.size) (hI : I ∈ fp)
  (hstr : ∀ i v,P i v -> ∃ y u,v = Value.str y u)
  (hq : ∀ s' (l : List (Str × Tok)),Moved wr G s s' -> ItemsOf P (strValues l).toArray n -> JoinOk x (l.map (·.1)) = true /\ ∀ t' k,Q (.str (Txt.join x (l.map (·.1))) t') { s' with toks:=k }) (hn : n <= sizeLine) :
  wpAny (model prog w) A (call (.builtin "str.join") [.str x t,.ref I]) Q E s:=by
 refine wpAny_call (codeAny_call_builtin F.slot_str_join.plain F.entry_str_join (F.slot_str_join.check _ _ _ _ _ _ _ _ (typeIs_str _ _ _) (F.args_str_join_2 _ _) ?_))
 rw [join_tree_other]
 refine wpAny_bind (wpAny_typeOf (hT 0 s hst) ?_)
 show wpAny _ A.in1 ((pyIter (.ref I)).tryCatch _ >>= fun it => collect it >>= fun items => joinTail x items) _ _ s
 refine wpAny_bind (wpAny_tryCatch (W.of_in1.self 0 s _ _ hst ?_))
 refine wpAny_bind (collect_lri W hT hst hfp hI (fun s' acc hm hacc => ?_) hn)
 obtain ⟨l,hl⟩:=exists_strValues acc.toList fun v hv => by
  obtain ⟨j,hj,rfl⟩:=Array.mem_iff_getElem.mp (Array.mem_toList_iff.mp hv)
  exact hstr j _ (hacc.2 j _ (Array.getElem?_eq_getElem hj))
 rw [<- hl]
 have hacc' : ItemsOf P (strValues l).toArray n:=by rw [hl]; simpa using hacc
 obtain ⟨hok,hpost⟩:=hq s' l hm hacc'
 unfold JoinOk at hok
 rw [Bool.not_eq_true'] at hok
 have g : Gives (joinTail x (strValues l)) (joinMade x l):=by
  have g0:=gives_joinTail x l hok
  cases l with
  | nil => exact g0
  | cons p r => cases r with
   | nil => exact g0
   | cons q r' => exact g0
 exact g prog w A (wants Q E) s' (post_join l ⟨joinFit_length hok,hpost⟩)
end
end PySem
namespace L2
open PySem PySem.Spec PyProof.Rows
theorem sum_len_rev (ys : List Str) : ((ys.reverse).map (·.length)).sum = (ys.map (·.length)).sum:=by
 rw [List.map_reverse,List.sum_reverse]
theorem vals_back {xs : List V} {us : List Value} {i : Nat} {u : Value} (r : Vals xs us) (h : us[i]? = some u) : ∃ x,xs[i]? = some x /\ RelV x u:=by
 have hi : i < xs.length:=by rw [r.length]; exact (List.getElem?_eq_some_iff.mp h).1
 have hx : xs[i]? = some xs[i]:=by simp [hi]
 obtain ⟨u',e,rv⟩:=r.get hx
 rw [h] at e
 cases e
 exact ⟨_,hx,rv⟩
theorem boot_reversed' : bootBuiltins "reversed" = some (.type "reversed"):=by decide +kernel
noncomputable def tJoinRev (K : PySem.W.Frag) (to tx : TE) : TE:=fun σ H Q => to σ H fun x H1 => ∃ sep : Str,x = .str sep /\ tx σ H1 fun y H2 => ∃ (p : Addr) (ys : List Str),y = .ref p /\ SqL K H2 p (ys.map V.str) /\
 (ys.map (·.length)).sum + ys.length * sep.length <= 16777216 /\ Q (.str (Txt.join sep ys.reverse)) H2
theorem pe_joinRev {X : Cx} {o e : Expr} {to tx : TE} {p apos cpos p2 : Pos} (hg : Gl X "reversed") (hm : X.mg "reversed" = none) (hcalm : X.calm = true) (ho : PE X o to) (hx : PE X e tx)
  (hbase : autoParam (attributeBase o "join" X.env (eval o X.env) = eval o X.env) L2.au1._auto_1)
  (hfew : autoParam (((backTo cpos (starEach [.Call (.Name "reversed" p) [e] [] p2] X.env)).all (fun x => !x.1) && (backToKw cpos (keywordEach [] X.env)).all (fun x => x.1.isSome)
   && decide (([.Call (.Name "reversed" p) [e] [] p2] : List Expr).length + ([] : List Keyword).length + (if ([] : List Keyword).isEmpty then 0 else 1) < 30)) = true) L2.au1._auto_1)
  (hline : autoParam ((apos.endLine == cpos.line) = true) L2.au1._auto_1) (hs : autoParam (starEach [.Call (.Name "reversed" p) [e] [] p2] X.env = [(false,eval (.Call (.Name "reversed" p) [e] [] p2) X.env)]) L2.au1._auto_1)
  (hs2 : autoParam (starEach [e] X.env = (false,eval e X.env) :: starEach [] X.env) L2.au1._auto_1) :
  PE X (.Call (.Attribute o "join" apos) [.Call (.Name "reversed" p) [e] [] p2] [] cpos) (tJoinRev X.K to tx):=by
 intro pins s σ H Q I h
 refine wpAny_Call_method_late hbase hfew hline rfl (thn (ho pins s σ H _ I h) ?_)
 rintro v s1 ⟨x,H1,I1,r1,sep,ex,q1⟩
 subst ex
 obtain ⟨t,rfl⟩:=r1
 refine ⟨"str","str.join",PySem.F.plainAttrs_str,PySem.F.slot_str_join,PySem.F.type_str_join,typeIs_str s1 sep t,(fun _ e => by cases e),?_⟩
 rw [hs]
 refine Calls.callWith_builtin rfl (Calls.evalArgs_plain ?_)
 show wpAny _ _ (spliced ((false,eval (.Call (.Name "reversed" p) [e] [] p2) X.env) :: backTo cpos [])) _ _ s1
 refine Calls.spliced_cons ?_
 refine wpAny_Call_Name_kw (ld_blt I1 hg hm boot_reversed' ?_ (by decide) (by decide))
 refine PyProof.Rows.callWith_type1 (thn (pa_cons hx pa_nil hs2 p2 pins s1 σ H1 (fun vs H2 => match vs with
  | [y] => ∃ (p : Addr) (ys : List Str),y = .ref p /\ SqL X.K H2 p (ys.map V.str) /\ (ys.map (·.length)).sum + ys.length * sep.length <= 16777216 /\ Q (.str (Txt.join sep ys.reverse)) H2
  | _ => False) I1 q1) fun us s2 ⟨vs,H2,I2,r2,q2⟩ => ?_) hs2 rfl
 match vs,r2,q2 with
 | [y],r2,q2 =>
 obtain ⟨l,ys,ey,hl,hz,q⟩:=q2
 cases r2 with
 | cons ra rn =>
  cases rn
  subst ey
  cases ra
  obtain ⟨its,r',pl,hzl⟩:=I2.list hl
  have hlen:=r'.length
  refine call_reversed_list pl.isList ?_
  refine Calls.spliced_nil ?_
  have I3 : Inv X pins σ H2 { s2 with heap:=s2.heap.push (revObj l ((its.toArray.size : Int) - 1)) }:=I2.kept (t':=s2.toks) fun b u e => Heap.get?_push_of_some _ e
  have hlt : l < s2.heap.objs.size:=by obtain ⟨ol,hol,_⟩:=pl.isList; exact Heap.lt_size hol
  have hne : l ≠ s2.heap.objs.size:=Nat.ne_of_lt hlt
  have fp : ∀ b ∈ [s2.heap.objs.size],FpOk X pins H2 b:=fun b hb => by
   rw [List.mem_singleton.mp hb]
   exact I2.fpOk (Nat.le_refl _) (I2.hok.fresh (Nat.le_refl _))
  have hsz : its.length <= sizeLine:=by rw [<- hlen]; exact hzl
  refine join_lri (A:=X.A) (Walks.listRev (show X.A.in1.in1.handled = none from I2.ok.hd hcalm) s2.heap.objs.size l hne its.toArray).toS (fun i s' st => st.2.1.typeIs) (s:={ s2 with heap:=s2.heap.push (revObj l ((its.toArray.size : Int) - 1)) })
   ⟨Nat.zero_le _,⟨_,Heap.get?_push_size _ rfl,rfl,by rw [show ((its.toArray.size : Int) - 1 - ((0 : Nat) : Int)) = (its.toArray.size : Int) - 1 by omega]; rfl⟩,pl.isList.at fun o e => Heap.get?_push_of_some _ e⟩
   (fun b hb => ?_) (by simp) (fun i v hv => ?_) (fun s' lt hm hi => ?_) (by simpa using hsz)
  ·rw [Heap.size_push]
   rcases List.mem_cons.mp hb with e | e
   ·rw [e]; exact Nat.lt_succ_self _
   ·rw [List.mem_singleton.mp e]; exact Nat.lt_succ_of_lt hlt
  ·have hv' : its[its.toArray.size - 1 - i]? = some v:=by simpa using hv
   obtain ⟨z,hz',rz⟩:=vals_back r' hv'
   rw [List.getElem?_map] at hz'
   cases ey : ys[its.toArray.size - 1 - i]? with
   | none => rw [ey] at hz'; cases hz'
   | some y =>
    rw [ey] at hz'
    cases hz'
    obtain ⟨t',rfl⟩:=rz
    exact ⟨y,t',rfl⟩
  ·have hys : lt.map (·.1) = ys.reverse:=by
    have hn : lt.length = ys.length:=by
     have:=hi.1
     simp [strValues] at this
     rw [this,<- hlen,List.length_map]
    refine List.ext_getElem? fun j => ?_
    by_cases hj : j < ys.length
    ·have hlj : lt[j]? = some lt[j]:=by simp [hn,hj]
     have hv:=hi.2 j (.str lt[j].1 lt[j].2) (by simp [strValues,hlj])
     have hv' : its[its.toArray.size - 1 - j]? = some (.str lt[j].1 lt[j].2):=by simpa using hv
     obtain ⟨z,hz',rz⟩:=vals_back r' hv'
     rw [List.getElem?_map] at hz'
     have hn2 : its.toArray.size - 1 - j = ys.length - 1 - j:=by rw [List.size_toArray,<- hlen,List.length_map]
     rw [hn2] at hz'
     rw [List.getElem?_map,hlj,List.getElem?_reverse hj]
     cases ey : ys[ys.length - 1 - j]? with
     | none => rw [ey] at hz'; cases hz'
     | some y =>
      rw [ey] at hz'
      cases hz'
      obtain ⟨t',e'⟩:=rz
      cases e'
      rfl
    ·rw [List.getElem?_eq_none (by rw [List.length_map]; omega),List.getElem?_eq_none (by rw [List.length_reverse]; omega)]
   refine ⟨joinOk_of (by rw [hys,sum_len_rev,List.length_reverse]; exact hz),fun t' k => ?_⟩
   rw [hys]
   obtain ⟨h',g',d',tk',o'⟩:=s'
   obtain rfl : g' = s2.gens:=hm.gens
   obtain rfl : d' = s2.drawn:=hm.drawn
   obtain rfl : o' = s2.os:=hm.os
   exact ⟨.str _,H2,I3.turnedAll (t':=k) (ch:=[s2.heap.objs.size]) fp (fun b u hb e => hm.heap b u hb e),⟨_,rfl⟩,q⟩
end L2
set_option maxHeartbeats 4000000
namespace L2
open PySem PySem.Spec PyProof.Rows
theorem paired_at {α β : Type} {F : α -> β -> Prop} : ∀ {l₁ : List α} {l₂ : List β} {i : Nat} {a : α} {b : β},Paired F l₁ l₂ -> l₁[i]? = some a -> l₂[i]? = some b -> F a b
 | _,_,0,_,_,.cons h _,e1,e2 => by cases e1; cases e2; exact h
 | _,_,i + 1,_,_,.cons _ r,e1,e2 => paired_at r e1 e2
 | _,_,_,_,_,.nil,e1,_ => by simp at e1
theorem rel_of_is {P : Program} {w : World} {k : Key} {u : Value} (h : (mixKind P w).is k u = true) : RelV (kV k) u:=by
 rw [mixKind_is] at h
 cases k with
 | inl i =>
  have h' : Value.isInt i u = true:=h
  cases u with
  | int j t =>
   have : j = i:=by simpa [Value.isInt] using h'
   subst this
   exact ⟨t,rfl⟩
  | _ => cases h'
 | inr x =>
  have h' : Value.isStrOf x u = true:=h
  cases u with
  | str y t =>
   have : y = x:=by simpa [Value.isStrOf] using h'
   subst this
   exact ⟨t,rfl⟩
  | _ => cases h'
noncomputable def Itd (a : Addr) (o : Obj) (kvs : List (Key × V)) : It :=
 ⟨fun i H => H a = some (.frz o (.dK kvs)) /\ i < kvs.length,fun i H x H' => H' = H /\ ∃ k v,kvs[i]? = some (k,v) /\ x = kV k,fun i H => H a = some (.frz o (.dK kvs)) /\ kvs.length <= i⟩
theorem turn_dict {P : Program} {w : World} {K : PySem.W.Frag} {tg : Expr} {a it : Addr} {o : Obj} {es : Array DictEntry} {ep : Nat} {kvs : List (Key × V)} (hod : o.data = .dict es ep) :
  Turn P w K tg (Itd a o kvs) [it] it (fun i h => h.IsKeyIter it a i kvs.length ep) where
 mem:=by simp
 obj:=fun i h st b hb => by
  have e : b = it:=by simpa using hb
  subst e
  obtain ⟨ob,ho,_,hd⟩:=st
  exact ⟨ob,ho,fun v z => by rw [hd] at z; cases z⟩
 keep:=fun i h h' st k => st.at fun o e => k it (by simp) o e
 item:=by
  intro X hP hw hK hc i pins s σ H E I hf st hg
  subst hP hw hK
  obtain ⟨f0,f1,f2,f3,f4,f5⟩:=hf it (by simp)
  obtain ⟨hfz,hi⟩:=hg
  obtain ⟨ho,hz,hsm,vs,rk,od,es',ep',ho',hex,hdd,hk,hp,hn⟩:=I.hok a _ hfz
  rw [ho] at ho'
  cases ho'
  rw [hod] at hdd
  cases hdd
  have hl : vs.length = kvs.length:=(Paired.length rk).symm
  have hm : s.heap.DictAt (mixKind X.prog X.w) a vs ep:=⟨o,es,ho,hex,hod,hk,hp,hn⟩
  have hx : vs[i]? = some vs[i]:=by simp [hl,hi]
  have hkv : kvs[i]? = some kvs[i]:=by simp [hi]
  have hrel:=paired_at rk hkv hx
  rw [<- hl] at st
  refine wpAny_pyNext_dict_item (k:=vs[i].1) (v:=vs[i].2) st hm hx fun key h' hkey hit' hs' => ?_
  have I1 : Inv X pins σ H { s with heap:=h',toks:=s.toks }:=I.turned (t':=s.toks) (fun b ob hb e => hs'.extBut b ob (by simpa using hb) e) f0 f1 f3 f4 f5
  rw [hl] at hit'
  obtain ⟨oi,hoi,hci,hdi⟩:=id hit'
  refine ⟨_,rfl,go_of (s:={ s with heap:=h',toks:=s.toks }) (n:="dict_keyiterator") hoi hci hdi (by decide) ⟨kV kvs[i].1,H,I1,?_,⟨rfl,kvs[i].1,kvs[i].2,hkv,rfl⟩,hit',fun b hb => (hf b hb).1⟩⟩
  rw [hrel.1]
  exact rel_of_is hkey
 done:=by
  intro X hP hw hK hc i pins s σ H E I hf st hg
  subst hP hw hK
  obtain ⟨f0,f1,f2,f3,f4,f5⟩:=hf it (by simp)
  obtain ⟨hfz,hi⟩:=hg
  obtain ⟨ho,hz,hsm,vs,rk,od,es',ep',ho',hex,hdd,hk,hp,hn⟩:=I.hok a _ hfz
  rw [ho] at ho'
  cases ho'
  rw [hod] at hdd
  cases hdd
  have hl : vs.length = kvs.length:=(Paired.length rk).symm
  have hm : s.heap.DictAt (mixKind X.prog X.w) a vs ep:=⟨o,es,ho,hex,hod,hk,hp,hn⟩
  rw [<- hl] at st
  exact wpAny_pyNext_dict_end (I.ok.hd hc) st hm (by rw [List.getElem?_eq_none]; omega) fun h' eb => ⟨rfl,I.turned (t':=s.toks) (fun b ob hb e => eb b ob hb e) f0 f1 f3 f4 f5⟩
 self:=fun _ _ _ _ _ st h => wpAny_pyIter_keyiter st h
noncomputable def iDict (tl : TE) : TI:=fun σ H R => tl σ H fun x H1 => ∃ a kvs,x = .ref a /\ H1 a = some (.dK kvs) /\ ∀ o,R (Itd a o kvs) (upd H1 a (.frz o (.dK kvs)))
theorem pi_dict {X : Cx} {tg l : Expr} {tl : TE} (hl : PE X l tl) : PI X tg l (iDict tl):=by
 intro pins s σ H R I h
 refine thn (hl pins s σ H _ I h) ?_
 rintro v s1 ⟨x,H1,I1,r1,q1⟩
 obtain ⟨a,kvs,e,ha,q⟩:=q1
 subst e
 cases r1
 obtain ⟨hz,hsm,vs,rk,hd⟩:=dk_of I1.hok ha
 obtain ⟨o,es,ep,ho,hex,hdd,hk,hp,hn⟩:=id hd
 have hlen : vs.length = kvs.length:=(Paired.length rk).symm
 refine wpAny_pyIter_dict hsm ⟨o,es,ho,hex,hdd,hk,hp,hn⟩ ?_
 have I2 : Inv X pins σ (upd H1 a (.frz o (.dK kvs))) { s1 with heap:=s1.heap.push { cls:=.type "dict_keyiterator",data:=.fields #[.ref a,.int 0 0,.int vs.length 0,.int ep 0] } } :=
  I1.write (x:=a) (e:=a) (t':=s1.toks) (by rw [ha]; trivial) (.inl rfl) (fun b u _ e => Heap.get?_push_of_some _ e) ⟨o,Heap.get?_push_of_some _ ho⟩
   ⟨Heap.get?_push_of_some _ ho,hz,hsm,vs,rk,o,es,ep,Heap.get?_push_of_some _ ho,hex,hdd,hk,hp,hn⟩
 refine ⟨s1.heap.objs.size,[s1.heap.objs.size],_,_,_,rfl,I2,turn_dict hdd,⟨_,Heap.get?_push_size _ rfl,rfl,by rw [hlen]; rfl⟩,fun b hb => ?_,q o⟩
 have e : b = s1.heap.objs.size:=by simpa using hb
 subst e
 have hf:=I1.hok.fresh (Nat.le_refl s1.heap.objs.size)
 exact I1.fpOk (Nat.le_refl _) (by rw [upd_ne (fun z => by rw [z,ha] at hf; cases hf)]; exact hf)
theorem for_dict {a : Addr} {o : Obj} {kvs : List (Key × V)} {g : TG} {tb : TS} {D : Ends} {σ : St} {H : Hp} (Pv : Nat -> St -> Hp -> Prop) (h0 : Pv 0 σ H) (hl : ∀ i σ H,i <= kvs.length -> Pv i σ H -> H a = some (.frz o (.dK kvs)))
  (hs : ∀ i k v σ H,kvs[i]? = some (k,v) -> Pv i σ H -> g (kV k) σ H fun σ2 H2 => tb { D with nx:=Pv (i + 1),ct:=Pv (i + 1),bk:=D.nx } σ2 H2) (hd : ∀ σ H,Pv kvs.length σ H -> D.nx σ H) :
  ∃ W : Nat -> Nat -> St -> Hp -> Prop,(∃ m,W 0 m σ H) /\ ∀ i m σ H,W i m σ H ->
   ((Itd a o kvs).stop i H /\ D.nx σ H) ∨ ((Itd a o kvs).go i H /\ ∃ N : St -> Hp -> Prop,(∀ σ' H',N σ' H' -> ∃ m',m' < m /\ W (i + 1) m' σ' H') /\ ∀ v H',(Itd a o kvs).yld i H v H' -> g v σ H' fun σ2 H2 => tb { D with nx:=N,ct:=N,bk:=D.nx } σ2 H2):=by
 refine ⟨fun i m σ H => m = kvs.length - i /\ i <= kvs.length /\ Pv i σ H,⟨kvs.length,by simp,Nat.zero_le _,h0⟩,?_⟩
 rintro i m σ H ⟨rfl,hi,p⟩
 by_cases hlt : i < kvs.length
 ·refine .inr ⟨⟨hl i σ H hi p,hlt⟩,Pv (i + 1),fun σ' H' p' => ⟨kvs.length - (i + 1),by omega +splitDisjunctions,rfl,hlt,p'⟩,fun v H' y => ?_⟩
  obtain ⟨e,k,u,hk,rfl⟩:=y
  subst e
  exact hs i k u σ _ hk p
 ·have e : i = kvs.length:=by omega +splitDisjunctions
  subst e
  exact .inl ⟨⟨hl _ σ H hi p,Nat.le_refl _⟩,hd σ H p⟩
end L2
namespace Hs
noncomputable def Reach (hs : List Rm) (p : Nat) : Prop:=∃ w,led hs 0 w = p
theorem Reach.step {hs : List Rm} {p : Nat} (h : Reach hs p) (b : Bool) : Reach hs (stp hs p b):=by
 obtain ⟨w,rfl⟩:=h
 exact ⟨w ++ [b],led_snoc hs 0 w b⟩
theorem nodup_lt : ∀ (n : Nat) (l : List Nat),l.Nodup -> (∀ x ∈ l,x < n) -> l.length <= n
 | 0,l,_,h => by
  cases l with
  | nil => exact Nat.le_refl _
  | cons a l => exact absurd (h a (List.mem_cons_self ..)) (by omega)
 | n + 1,l,hn,h => by
  have ih:=nodup_lt n (l.filter (· ≠ n)) (hn.sublist List.filter_sublist) fun x hx => by
   obtain ⟨h1,h2⟩:=List.mem_filter.mp hx
   have:=h x h1
   have h2' : x ≠ n:=by simpa using h2
   omega
  have h2 : l.length <= (l.filter (· ≠ n)).length + 1:=by
   by_cases hm : n ∈ l
   ·have:=List.length_erase_of_mem hm
    have e:=hn.erase_eq_filter n
    have e2 : (l.filter (· != n)).length = l.length - 1:=by rw [<- e]; exact this
    have e3 : (l.filter (· ≠ n)) = (l.filter (· != n)):=by
     congr
     funext x
     by_cases hx : x = n <;> simp [bne,hx]
    rw [e3]
    omega
   ·have : l.filter (· ≠ n) = l:=List.filter_eq_self.mpr fun x hx => by
     have : x ≠ n:=fun z => hm (z ▸ hx)
     simpa using this
    rw [this]
    omega
  omega
end Hs
set_option maxHeartbeats 4000000
namespace L2
open PySem PySem.Spec PyProof.Rows
noncomputable def put (H F : Hp) (cs : List Addr) : Hp:=fun b => if b ∈ cs then F b else H b
noncomputable def noH : Hp:=fun _ => none
theorem put_in {H F : Hp} {cs : List Addr} {b : Addr} (h : b ∈ cs) : put H F cs b = F b:=if_pos h
theorem put_out {H F : Hp} {cs : List Addr} {b : Addr} (h : b ∉ cs) : put H F cs b = H b:=if_neg h
theorem put_no {H : Hp} {cs : List Addr} {b : Addr} {u : HO} (h : put H noH cs b = some u) : b ∉ cs /\ H b = some u:=by
 by_cases hb : b ∈ cs
 ·rw [put_in hb] at h; cases h
 ·rw [put_out hb] at h; exact ⟨hb,h⟩
theorem put_noin {H : Hp} {cs : List Addr} {b : Addr} (h : b ∈ cs) : put H noH cs b = none:=put_in h
section
variable {P : Program} {w : World} {H F : Hp} {h : Heap} {cs : List Addr}
theorem hok_put (k : HOk P w H h) (hn : ∀ c ∈ cs,H c = none) (hF : ∀ c ∈ cs,∃ o,F c = some (frzC c o) /\ h.get? c = some o) : HOk P w (put H F cs) h:=fun b u q => by
 by_cases hb : b ∈ cs
 ·rw [put_in hb] at q
  obtain ⟨o,e1,e2⟩:=hF b hb
  rw [e1] at q
  cases q
  exact frzC_ok e2
 ·rw [put_out hb] at q
  have ne : ∀ {d : Addr} {x : HO},H d = some x -> d ∉ cs:=fun e z => by rw [hn _ z] at e; cases e
  exact (k b u q).stay (fun _ _ _ z => z) (fun d z => by rw [put_out (ne z)]; exact z) fun d xs z => by rw [put_out (ne z)]; exact z
theorem hok_out (k : HOk P w H h) (hF : ∀ c ∈ cs,∃ o,H c = some (frzC c o)) : HOk P w (put H noH cs) h:=fun b u q => by
 obtain ⟨hb,q⟩:=put_no q
 have ne1 : ∀ {d x : Addr},H d = some (.own x) -> d ∉ cs:=fun e z => by obtain ⟨o,e'⟩:=hF _ z; rw [e'] at e; cases e
 have ne2 : ∀ {d : Addr} {xs : List V},H d = some (.tup xs) -> d ∉ cs:=fun e z => by obtain ⟨o,e'⟩:=hF _ z; rw [e'] at e; cases e
 exact (k b u q).stay (fun _ _ _ z => z) (fun d z => by rw [put_out (ne1 z)]; exact z) fun d xs z => by rw [put_out (ne2 z)]; exact z
end
noncomputable def CellAt (X : Cx) (p : Nat × Addr) : Prop:=∃ y,X.N[p.1]? = some y /\ Vis X.env.scope y /\ (X.env.kindOf y = some .cell ∨ X.env.kindOf y = some .free) /\ X.env.cells.lookup y = some p.2 /\ X.fn y = true
section
variable {X : Cx} {pins : List (Addr × Obj)} {σ : St} {H : Hp} {s s' : Shared} {sl : List (Nat × Addr)}
theorem Inv.frozen (I : Inv X pins σ H s) (hsl : ∀ p ∈ sl,CellAt X p) :
  ∃ F : Hp,(∀ c ∈ sl.map (·.2),∃ o,F c = some (frzC c o) /\ s.heap.get? c = some o) /\ (∀ p ∈ sl,∀ v,σ[p.1]? = some (some v) -> CellIs F p.2 v) /\
   (∀ c ∈ sl.map (·.2),H c = none /\ c ∉ frs X.stack /\ X.base.get? c = none) /\ Env0 X.prog X.w X.K X.mg X.base X.A X.stack s (put H F (sl.map (·.2))):=by
 let F : Hp:=fun b => match s.heap.get? b with | some o => some (frzC b o) | none => none
 have hF : ∀ {b : Addr} {o : Obj},s.heap.get? b = some o -> F b = some (frzC b o):=fun {b o} e => by
  show (match s.heap.get? b with | some o => some (frzC b o) | none => none) = _
  rw [e]
 have facts : ∀ c ∈ sl.map (·.2),H c = none /\ c ∉ frs X.stack /\ X.base.get? c = none /\ ∃ o,s.heap.get? c = some o:=fun c hc => by
  obtain ⟨p,hp,rfl⟩:=List.mem_map.mp hc
  obtain ⟨y,h1,h2,h3,h4,h5⟩:=hsl p hp
  obtain ⟨val,o,e1,e2⟩:=I.cell y p.2 h4
  refine ⟨(I.freeC y p.2 h4).resolve_right (fun z => by rw [h5] at z; cases z.1),fun z => ?_,?_,o,e1⟩
  ·rcases List.mem_cons.mp (I.stkSub p.2 z) with z | z
   ·exact I.cne y p.2 h4 z
   ·obtain ⟨_,o',ho',_⟩:=I.ok.funs.mem z
    exact Nat.lt_irrefl _ (Nat.lt_of_lt_of_le (Heap.lt_size ho') (I.ok.cab y p.2 h5 h4))
  ·exact Heap.get?_none_of_le (Nat.le_trans I.ok.bsz (I.ok.cab y p.2 h5 h4))
 have hFz : ∀ c ∈ sl.map (·.2),∃ o,F c = some (frzC c o) /\ s.heap.get? c = some o:=fun c hc => by
  obtain ⟨_,_,_,o,ho⟩:=facts c hc
  exact ⟨o,hF ho,ho⟩
 refine ⟨F,hFz,fun p hp v hv => ?_,fun c hc => let ⟨a,b,d,_⟩:=facts c hc; ⟨a,b,d⟩,?_⟩
 ·obtain ⟨y,h1,h2,h3,h4,h5⟩:=hsl p hp
  obtain ⟨m,hn,hl⟩:=I.loc
  obtain ⟨u,ru,lk⟩:=hl p.1 y v h1 hv h2
  have hic : s.heap.IsCell p.2 (some u):=by
   rcases lk with ⟨z,_⟩ | ⟨_,c',e',z⟩
   ·rcases h3 with h3 | h3 <;> (rw [h3] at z; cases z)
   ·rw [h4] at e'; cases e'; exact z
  obtain ⟨o,ho,hod⟩:=hic
  exact ⟨o,u,hF ho,ru,hod⟩
 ·have e0:=I.env0
  refine ⟨e0.frames,e0.mod,fun b o' eb => ⟨(e0.bs b o' eb).1,?_⟩,e0.bsz,e0.funs,fun b hb' => ?_,hok_put e0.hok (fun c hc => (facts c hc).1) hFz,e0.bare⟩
  ·have hbc : b ∉ sl.map (·.2):=fun z => by have:=(facts b z).2.2.1; rw [this] at eb; cases eb
   rw [put_out hbc]; exact (e0.bs b o' eb).2
  ·have hbc : b ∉ sl.map (·.2):=fun z => (facts b z).2.1 hb'
   rw [put_out hbc]; exact e0.frf b hb'
theorem Inv.afterCs {F : Hp} {Q : VK} {u : Value} (I : Inv X pins σ H s) (hF : ∀ c ∈ sl.map (·.2),∃ o,F c = some (frzC c o) /\ s.heap.get? c = some o) (hn : ∀ c ∈ sl.map (·.2),H c = none /\ c ∉ frs X.stack /\ X.base.get? c = none)
  (h : CE X.stack X.prog X.w (put H F (sl.map (·.2))) s (fun v H' => Q v (put H' noH (sl.map (·.2)))) u s') : EP X pins σ Q u s':=by
 obtain ⟨v',H',os,bare,un,hok',r',q'⟩:=h
 have hf : ∀ c ∈ sl.map (·.2),∃ o,H' c = some (frzC c o) /\ s.heap.get? c = some o /\ s'.heap.get? c = some o:=fun c hc => by
  obtain ⟨o,e1,e2⟩:=hF c hc
  have e3:=un.frzs c o _ (by rw [put_in hc]; exact e1)
  exact ⟨o,e3,e2,(hok' c _ e3).1⟩
 refine ⟨v',put H' noH (sl.map (·.2)),I.call' (ch:=[]) os ⟨fun b ob e2 n1 hb' hx => ?_,fun b ob e2 n1 hb' hx => ?_,fun b ob e2 n1 hx => ?_,fun b ob e2 hx => un.there b ob e2 hx,fun b xs e2 => ?_,fun b ob u e2 => ?_,fun b ps' e2 => ?_⟩ (hok_out hok' fun c hc => let ⟨o,a,_⟩:=hf c hc; ⟨o,a⟩) bare (fun b z => absurd z (by simp)),r',q'⟩
 ·by_cases hbc : b ∈ sl.map (·.2)
  ·obtain ⟨o,_,e3,e4⟩:=hf b hbc
   rw [e3] at e2; cases e2
   exact e4
  ·exact un.keep b ob e2 (by rw [put_out hbc]; exact n1) hb' hx
 ·have hbc : b ∉ sl.map (·.2):=fun z => (hn b z).2.1 hb'
  exact un.slot b ob e2 (by rw [put_out hbc]; exact n1) hb' hx
 ·by_cases hbc : b ∈ sl.map (·.2)
  ·exact put_noin hbc
  ·rw [put_out hbc]
   exact un.free b ob e2 (by rw [put_out hbc]; exact n1) hx
 ·have hbc : b ∉ sl.map (·.2):=fun z => by rw [(hn b z).1] at e2; cases e2
  rw [put_out hbc]
  exact un.tups b xs (by rw [put_out hbc]; exact e2)
 ·have hbc : b ∉ sl.map (·.2):=fun z => by rw [(hn b z).1] at e2; cases e2
  rw [put_out hbc]
  exact un.frzs b ob u (by rw [put_out hbc]; exact e2)
 ·have hbc : b ∉ sl.map (·.2):=fun z => by rw [(hn b z).1] at e2; cases e2
  obtain ⟨more,e3⟩:=un.tbls b ps' (by rw [put_out hbc]; exact e2)
  exact ⟨more,by rw [put_out hbc]; exact e3⟩
end
noncomputable def tCallCs (sl : List (Nat × Addr)) (sp : Sp) (E : XK) (t : TA) : TE:=fun σ H Q => t σ H fun vs H1 => ∀ F : Hp,(∀ c ∈ sl.map (·.2),H1 c = none /\ ∃ o,F c = some (frzC c o)) -> (∀ p ∈ sl,∀ v,σ[p.1]? = some (some v) -> CellIs F p.2 v) ->
 sp vs (put H1 F (sl.map (·.2))) (fun v' H' => Q v' (put H' noH (sl.map (·.2)))) E
theorem pe_callCs {X : Cx} {k : Nat} {f : Addr} {fd : FuncData} {ps : List Str} {sp : Sp} {E : XK} {x : Str} {p pos : Pos} {e : Expr} {es : List Expr} {t : TA} {sl : List (Nat × Addr)}
  (F : FnOk X.prog X.w X.K X.mg X.base CX0 k f fd ps sp) (hr : Room k X.A) (hg : Gl X x) (hm : X.mg x = some (.ref f)) (hk : PySem.W.keepIn X.K (.ref f) = true) (hb : Binds X.K fd ps [])
  (hsl : ∀ p ∈ sl,CellAt X p) (ha : PA X (e :: es) t) (hdb : autoParam ((x == ("__debug__" : Str)) = false) L2.au3._auto_1) (he : autoParam (starEach (e :: es) X.env = (false,eval e X.env) :: starEach es X.env) L2.au1._auto_1) (hpl : autoParam ((backTo pos (starEach es X.env)).any (·.1) = false) L2.au1._auto_1) :
  PE X (.Call (.Name x p) (e :: es) [] pos) (tCallCs sl sp E t):=by
 intro pins s σ H Q I h
 refine wpAny_Call_Name_kw (ld_glob I hg hm ?_ hdb)
 refine PySem.W.callWith_K (h₀:=X.base) I.ok.mod.kin hk (thn (ha pos pins s σ H _ I h) ?_) he hpl
 rintro us s1 ⟨vs,H1,I1,r,q⟩
 refine ⟨I1.kIn,?_⟩
 obtain ⟨Fz,hF,hFv,hn,e1⟩:=I1.frozen hsl
 have q:=q Fz (fun c hc => ⟨(hn c hc).1,let ⟨o,z,_⟩:=hF c hc; ⟨o,z⟩⟩) hFv
 have hl' : us.length = ps.length:=by rw [<- r.length]; exact F.len _ _ _ _ q
 have hbb:=hb s1 us I1.kIn (by rw [List.append_nil]; exact hl')
 rw [List.append_nil] at hbb
 refine wpAny_call (codeAny_mono (F.run X.A X.stack s1 _ ⟨us,[]⟩ us vs _ E hr e1 hbb r q) fun r s' hq => ?_)
 cases r with
 | error e => exact False.elim hq
 | ok fl =>
  cases fl with
  | next => exact False.elim hq
  | brk => exact False.elim hq
  | cont => exact False.elim hq
  | ret u' => exact I1.afterCs hF hn hq
noncomputable def Tab (H : Hp) (P : Addr) (qs : Nat -> Nat -> Option Str) : Prop:=∃ ps,H P = some (.tbl ps) /\ TriplesOk ps.toList /\ ∀ pos c,codeAmong pos ps.toList = some c -> ∃ c' q,c = .ref c' /\ qs pos.line pos.col = some q /\ H c' = some (.ext (RecAt c' q))
theorem Tab.start {H : Hp} {P : Addr} {qs : Nat -> Nat -> Option Str} (h : H P = some (.tbl #[])) : Tab H P qs:=⟨#[],h,trivial,fun pos c e => by cases e⟩
theorem Tab.keep {H H' : Hp} {P : Addr} {qs : Nat -> Nat -> Option Str} (h : Tab H P qs) (s : ∀ b u,H b = some u -> H' b = some u) : Tab H' P qs:=by
 obtain ⟨ps,h1,h2,h3⟩:=h
 exact ⟨ps,s _ _ h1,h2,fun pos c e => let ⟨c',q,a,b,d⟩:=h3 pos c e; ⟨c',q,a,b,s _ _ d⟩⟩
theorem Tab.other {H H' : Hp} {P P' : Addr} {qs : Nat -> Nat -> Option Str} (h : Tab H P qs) (n : P ≠ P') (ht : ∃ ps,H P' = some (.tbl ps)) (s : SameT P' H H') : Tab H' P qs:=by
 obtain ⟨ps,h1,h2,h3⟩:=h
 obtain ⟨ps',ht⟩:=ht
 exact ⟨ps,s _ _ n h1,h2,fun pos c e => let ⟨c',q,a,b,d⟩:=h3 pos c e; ⟨c',q,a,b,s _ _ (fun z => by rw [z,ht] at d; cases d) d⟩⟩
theorem among_snoc2 {pos p : Pos} {c x : Value} (l : List Value) (h : TriplesOk l) (hx : codeAmong pos (l ++ [rawInt p.line,rawInt p.col,c]) = some x) : codeAmong pos l = some x ∨ (x = c /\ pos.line = p.line /\ pos.col = p.col):=by
 fun_induction TriplesOk l with
 | case1 =>
  simp only [List.nil_append,codeAmong,rawInt] at hx
  split at hx
  ·rename_i hc
   simp at hc
   exact .inr ⟨(Option.some.inj hx).symm,by omega,by omega⟩
  ·cases hx
 | case2 a t b u y rest ih =>
  simp only [List.cons_append,codeAmong] at hx ⊢
  split at hx
  ·rename_i hc
   rw [if_pos hc]
   exact .inl hx
  ·rename_i hc
   rw [if_neg hc]
   exact ih h hx
 | case3 => exact False.elim h
noncomputable def SamT (H H' : Hp) : Prop:=∀ b u,H b = some u -> (∀ ps,u ≠ .tbl ps) -> H' b = some u
theorem SamT.refl (H : Hp) : SamT H H:=fun _ _ h _ => h
theorem SamT.trans {H1 H2 H3 : Hp} (a : SamT H1 H2) (b : SamT H2 H3) : SamT H1 H3:=fun x u e n => b x u (a x u e n) n
theorem Same.toSam {H1 H2 : Hp} (a : Same H1 H2) : SamT H1 H2:=fun x u e _ => a x u e
theorem SameT.toSam {P : Addr} {H1 H2 : Hp} (a : SameT P H1 H2) (t : ∃ ps,H1 P = some (.tbl ps)) : SamT H1 H2:=fun x u e n => a x u (fun z => by obtain ⟨ps,t⟩:=t; rw [z,t] at e; exact n ps (Option.some.inj e).symm) e
noncomputable abbrev Tbs:=List (Addr × (Nat -> Nat -> Option Str))
noncomputable def TB (tabs : Tbs) (H : Hp) : Prop:=∀ t ∈ tabs,Tab H t.1 t.2
theorem TB.same {tabs : Tbs} {H H' : Hp} (h : TB tabs H) (s : Same H H') : TB tabs H':=fun t ht => (h t ht).keep s
theorem TB.grown {tabs : Tbs} {H H' : Hp} {t : Addr × (Nat -> Nat -> Option Str)} (h : TB tabs H) (nd : (tabs.map (·.1)).Nodup) (ht : t ∈ tabs) (s : SameT t.1 H H') (n : Tab H' t.1 t.2) : TB tabs H':=fun t' ht' => by
 by_cases e : t'.1 = t.1
 ·have : t' = t:=by
   clear s n h
   induction tabs with
   | nil => cases ht
   | cons a r ih =>
    obtain ⟨n1,n2⟩:=List.nodup_cons.mp nd
    rcases List.mem_cons.mp ht with z1 | z1 <;> rcases List.mem_cons.mp ht' with z2 | z2
    ·rw [z1,z2]
    ·exact absurd (List.mem_map.mpr ⟨t',z2,by rw [e,z1]⟩) n1
    ·exact absurd (List.mem_map.mpr ⟨t,z1,by rw [<- e,z2]⟩) n1
    ·exact ih n2 z1 z2
  rw [this]
  exact n
 ·exact (h t' ht').other e (let ⟨ps,a,_⟩:=h t ht; ⟨ps,a⟩) s
noncomputable def DefObj (f : Addr) (name qual : Str) (params : Arguments) (body : List Stmt) (scope : Scope) (clos : List (Str × Addr)) (c' : Addr) : Heap -> Prop:=fun h => ∃ doc pm ctv,h.get? f = some (PySem.W.fnMade name qual params body scope clos doc pm c' ctv)
noncomputable def Ndf (H : Hp) (f : Addr) (name qual : Str) (params : Arguments) (body : List Stmt) (scope : Scope) (clos : List (Str × Addr)) : Prop:=∃ c',H f = some (.ext (DefObj f name qual params body scope clos c')) /\ H c' = some (.ext (RecAt c' qual))
section
variable {X : Cx} {pins : List (Addr × Obj)} {σ : St} {H : Hp} {s : Shared}
theorem fn_new {P c' f : Addr} {ps : Array Value} {pos : Pos} {qual : Str} {qs : Nat -> Nat -> Option Str} {h2 : Heap} {tk : Nat} {φ : Heap -> Prop} (I : Inv X pins σ H s) (hP : H P = some (.tbl ps)) (ht : TriplesOk ps.toList)
  (hcs : ∀ pos c,codeAmong pos ps.toList = some c -> ∃ c' q,c = .ref c' /\ qs pos.line pos.col = some q /\ H c' = some (.ext (RecAt c' q))) (hq : qs pos.line pos.col = some qual)
  (hge : s.heap.objs.size <= c') (hgf : s.heap.objs.size <= f) (ncf : c' ≠ f)
  (kx : ∀ b o,b ≠ P -> s.heap.get? b = some o -> h2.get? b = some o) (hPn : h2.get? P = some (PySem.W.tabObj (ps ++ #[rawInt pos.line,rawInt pos.col,.ref c'])))
  (hrec : RecAt c' qual h2) (hφ : φ h2) (hfo : ∃ o,h2.get? f = some o) (st : ∀ h1 h2 : Heap,φ h1 -> (∀ o,h1.get? f = some o -> h2.get? f = some o) -> φ h2) :
  ∃ H',Inv X pins σ H' { s with heap:=h2,toks:=tk } /\ H f = none /\ SameT P H H' /\ Tab H' P qs /\ H' f = some (.ext φ) /\ H' c' = some (.ext (RecAt c' qual)):=by
 have hPo : s.heap.get? P = some (PySem.W.tabObj ps):=I.hok P _ hP
 have hlt : P < s.heap.objs.size:=Heap.lt_size hPo
 have nPc : P ≠ c':=Nat.ne_of_lt (Nat.lt_of_lt_of_le hlt hge)
 have nPf : P ≠ f:=Nat.ne_of_lt (Nat.lt_of_lt_of_le hlt hgf)
 have fc : H c' = none:=I.hok.fresh hge
 have ff : H f = none:=I.hok.fresh hgf
 let H' : Hp:=upd (upd (upd H P (.tbl (ps ++ #[rawInt pos.line,rawInt pos.col,.ref c']))) c' (.ext (RecAt c' qual))) f (.ext φ)
 have eP : H' P = some (.tbl (ps ++ #[rawInt pos.line,rawInt pos.col,.ref c'])):=by
  show upd _ _ _ P = _
  rw [upd_ne nPf,upd_ne nPc,upd_same]
 have ec : H' c' = some (.ext (RecAt c' qual)):=by
  show upd _ _ _ c' = _
  rw [upd_ne ncf,upd_same]
 have ef : H' f = some (.ext φ):=upd_same
 have eo : ∀ b,b ≠ P -> b ≠ c' -> b ≠ f -> H' b = H b:=fun b n1 n2 n3 => by
  show upd _ _ _ b = _
  rw [upd_ne n3,upd_ne n2,upd_ne n1]
 have stay : ∀ b u,b ≠ P -> H b = some u -> H' b = some u:=fun b u n e => by rw [eo b n (ne_of_none e fc) (ne_of_none e ff)]; exact e
 have I2 : Inv X pins σ H' { s with heap:=h2,toks:=tk }:=by
  refine I.un ⟨fun b o e n _ _ => ?_,fun b o e n hb _ => ?_,fun b o e n _ => ?_,fun b o e _ => ?_,fun b xs e => ?_,fun b o u e => ?_,fun b qs e => ?_⟩ fun b u e => ?_
  ·exact kx b o (fun z => by rw [z,hP] at n; cases n) e
  ·exact ⟨o.slots,kx b o (fun z => by rw [z,hP] at n; cases n) e⟩
  ·have hb : b < s.heap.objs.size:=Heap.lt_size e
   rw [eo b (fun z => by rw [z,hP] at n; cases n) (Nat.ne_of_lt (Nat.lt_of_lt_of_le hb hge)) (Nat.ne_of_lt (Nat.lt_of_lt_of_le hb hgf))]
   exact n
  ·by_cases hb : b = P
   ·rw [hb]; exact ⟨_,hPn⟩
   ·exact ⟨o,kx b o hb e⟩
  ·exact stay b _ (fun z => by rw [z,hP] at e; cases e) e
  ·exact stay b _ (fun z => by rw [z,hP] at e; cases e) e
  ·by_cases hb : b = P
   ·rw [hb,hP] at e
    cases e
    exact ⟨_,by rw [hb]; exact eP⟩
   ·exact ⟨#[],by rw [stay b _ hb e]; simp⟩
  ·by_cases hb : b = P
   ·rw [hb,eP] at e
    cases e
    rw [hb]
    exact hPn
   ·by_cases hb2 : b = c'
    ·rw [hb2,ec] at e
     cases e
     rw [hb2]
     obtain ⟨c₂,o2,vs2,t2,e2,ho2,_⟩:=id hrec
     cases e2
     exact ⟨hrec,⟨o2,ho2⟩,rec_stable⟩
    ·by_cases hb3 : b = f
     ·rw [hb3,ef] at e
      cases e
      rw [hb3]
      exact ⟨hφ,hfo,st⟩
     ·rw [eo b hb hb2 hb3] at e
      refine (I.hok b u e).stay (fun d v hd' z => kx d v (fun y => ?_) z) (fun d z => stay d _ (fun y => by rw [y,hP] at z; cases z) z) fun d xs z => stay d _ (fun y => by rw [y,hP] at z; cases z) z
      rcases hd' with y' | y'
      ·exact hb (y'.symm.trans y)
      ·rw [y,hP] at y'; cases y'
 refine ⟨H',I2,ff,stay,⟨_,eP,?_,fun pos' x hx' => ?_⟩,ef,ec⟩
 ·have:=triples_snoc (p:=pos) (c:=.ref c') ps.toList ht
  simpa using this
 ·have hx2 : codeAmong pos' (ps.toList ++ [rawInt pos.line,rawInt pos.col,.ref c']) = some x:=by simpa using hx'
  rcases among_snoc2 _ ht hx2 with z | ⟨z,z1,z2⟩
  ·obtain ⟨c2,q2,e1,e2,e3⟩:=hcs pos' x z
   exact ⟨c2,q2,e1,e2,stay c2 _ (fun y => by rw [y,hP] at e3; cases e3) e3⟩
  ·exact ⟨c',qual,z,by rw [z1,z2]; exact hq,ec⟩
theorem Inv.bat (I : Inv X pins σ H s) {P : Addr} {ps : Array Value} (hB : BMain X.mg X.base) (hPo : s.heap.get? P = some (PySem.W.tabObj ps)) : s.heap.Ns mainGlobals X.mg /\ mainGlobals ≠ P /\ s.heap.BuiltinsAt X.mg P:=by
 have hgs : s.heap.Ns mainGlobals X.mg:=I.mod.glob.keeps I.bk
 obtain ⟨bm,ob,b1,b2,b3,b4,b5,b6⟩:=hB
 have hgP : mainGlobals ≠ P:=fun z => by
  obtain ⟨o,es,ep,e,hd,_⟩:=hgs
  rw [z,hPo] at e; cases e; cases hd
 have hbP : bm ≠ P:=fun z => by
  have e:=I.bk _ _ b3
  rw [z,hPo] at e; cases e; cases b4
 have hbG : bm ≠ mainGlobals:=fun z => by
  obtain ⟨o,es,ep,e,hd,_⟩:=hgs
  have e3:=I.bk _ _ b3
  rw [z,e] at e3; cases e3; rw [hd] at b6; cases b6
 exact ⟨hgs,hgP,bm,ob,b1,b2,hbG,hbP,I.bk _ _ b3,b4,b5,b6⟩
end
noncomputable def tLamT (P : Addr) (qs : Nat -> Nat -> Option Str) (qual : Str) (params : Arguments) (body : Expr) (scope : Scope) (clos : List (Str × Addr)) : TE:=fun _ H Q => Tab H P qs /\ ∀ f H',H f = none -> SameT P H H' -> Tab H' P qs -> Lam H' f qual params body scope clos -> Q (.ref f) H'
theorem pe_lamT {X : Cx} {c P : Addr} {qs : Nat -> Nat -> Option Str} {params : Arguments} {body : Expr} {scope : Scope} {clos : List (Str × Addr)} {pos : Pos} (hC : PySem.W.CodeHd X.base c P) (hcd : X.env.code = .ref c) (hB : BMain X.mg X.base) (hcl : closureFor scope X.env = pure clos)
  (hq : qs pos.line pos.col = some (X.env.qual ++ "<lambda>")) (hdef : autoParam (defaultsOf params X.env = ([],[])) L2.au1._auto_1) :
  PE X (.Lambda params body scope pos) (tLamT P qs (X.env.qual ++ "<lambda>") params body scope clos):=by
 intro pins s σ H Q I h
 obtain ⟨⟨ps,hP,ht,hcs⟩,q⟩:=h
 refine PySem.W.kla_eval hdef ?_
 have hPo : s.heap.get? P = some (PySem.W.tabObj ps):=I.hok P _ hP
 obtain ⟨hgs,hgP,hBA⟩:=I.bat hB hPo
 cases hca : codeAmong pos ps.toList with
 | none =>
  refine PySem.W.kla_makeFunction (mg:=X.mg) hcl I.ok.glob hgs hcd (hC.keeps I.bk) hPo ht hca hgP hBA fun c' ctv h' tk hx hge hlt' hrec htb => ?_
  have hsz : s.heap.objs.size <= h'.objs.size:=Nat.le_of_lt (Nat.lt_of_le_of_lt hge hlt')
  obtain ⟨H',I2,ff,st,tb,ef,ec⟩:=fn_new (tk:=tk) (f:=h'.objs.size) (φ:=LamObj h'.objs.size (X.env.qual ++ "<lambda>") params body scope clos c') I hP ht hcs hq hge hsz (Nat.ne_of_lt hlt')
   (h2:=h'.push (PySem.W.kla_obj "<lambda>" (X.env.qual ++ "<lambda>") params body scope clos ((X.mg "__name__").getD .none) c' ctv))
   (fun b o n e => Heap.get?_push_of_some _ (hx b o n e)) (Heap.get?_push_of_some _ htb) (rec_stable _ _ hrec fun o e => Heap.get?_push_of_some _ e) ⟨_,_,Heap.get?_push_size _ rfl⟩ ⟨_,Heap.get?_push_size _ rfl⟩ fun h1 h2 ⟨pm,ct,z⟩ k => ⟨pm,ct,k _ z⟩
  exact ⟨.ref _,H',I2,rfl,q _ H' ff st tb ⟨c',ef,ec⟩⟩
 | some cv =>
  obtain ⟨c',q',rfl,hq',hc'⟩:=hcs pos cv hca
  obtain rfl : X.env.qual ++ "<lambda>" = q':=by rw [hq] at hq'; exact Option.some.inj hq'
  refine PySem.W.kla_makeFunctionHit (mg:=X.mg) hcl I.ok.glob hgs hcd (hC.keeps I.bk) hPo ht hca hBA fun ctv h' tk hk hsz => ?_
  have ff : H h'.objs.size = none:=I.hok.fresh hsz
  have I2:=I.laid (a:=h'.objs.size) (o:=.ext (LamObj h'.objs.size (X.env.qual ++ "<lambda>") params body scope clos c')) (t':=tk) (fun b u e => Heap.get?_push_of_some (PySem.W.kla_obj "<lambda>" (X.env.qual ++ "<lambda>") params body scope clos ((X.mg "__name__").getD .none) c' ctv) (hk b u e)) hsz
   ⟨⟨_,_,Heap.get?_push_size _ rfl⟩,⟨_,Heap.get?_push_size _ rfl⟩,fun h1 h2 ⟨pm,ct,z⟩ k => ⟨pm,ct,k _ z⟩⟩
  have st : ∀ b u,H b = some u -> upd H h'.objs.size (.ext (LamObj h'.objs.size (X.env.qual ++ "<lambda>") params body scope clos c')) b = some u:=fun b u e => by rw [upd_ne (ne_of_none e ff)]; exact e
  exact ⟨.ref _,_,I2,rfl,q _ _ ff (fun b u _ e => st b u e) (Tab.keep ⟨ps,hP,ht,hcs⟩ st) ⟨c',upd_same,st _ _ hc'⟩⟩
noncomputable def tDefT (i : Nat) (P : Addr) (qs : Nat -> Nat -> Option Str) (name qual : Str) (params : Arguments) (body : List Stmt) (scope : Scope) (clos : List (Str × Addr)) : TS:=fun D σ H => Tab H P qs /\ ∀ f H',H f = none -> SameT P H H' -> Tab H' P qs -> Ndf H' f name qual params body scope clos -> D.nx (σ.set i (some (.ref f))) H'
theorem ps_def {X : Cx} {i : Nat} {c P : Addr} {qs : Nat -> Nat -> Option Str} {name : Str} {params : Arguments} {body : List Stmt} {scope : Scope} {clos : List (Str × Addr)} {pos : Pos} (hN : X.N.Nodup) (hi : X.N[i]? = some name) (hx : Loc X.env.scope name)
  (hC : PySem.W.CodeHd X.base c P) (hcd : X.env.code = .ref c) (hB : BMain X.mg X.base) (hcl : closureFor scope X.env = pure clos)
  (hq : qs pos.line pos.col = some (qualnameIn X.env name name)) (hd0 : autoParam (params.defaults = []) L2.au1._auto_1) (hk0 : autoParam (params.kw_defaults = []) L2.au1._auto_1) (ha : autoParam (annTrees params none X.env = []) L2.au1._auto_1)
  (hf : autoParam (X.fn name = true ∨ X.env.scope.names.lookup name = some .local) L2.au2._auto_1) :
  PS X (.FunctionDef name params body [] none [] scope none name pos) (tDefT i P qs name (qualnameIn X.env name name) params body scope clos):=by
 intro pins s σ H D I h
 obtain ⟨⟨ps,hP,ht,hcs⟩,q⟩:=h
 refine PySem.W.nestDef_K hd0 hk0 ha ?_
 have hPo : s.heap.get? P = some (PySem.W.tabObj ps):=I.hok P _ hP
 obtain ⟨hgs,hgP,hBA⟩:=I.bat hB hPo
 generalize qualnameIn X.env name name = qual at hq q
 cases hca : codeAmong pos ps.toList with
 | none =>
  refine PySem.W.makeFunction_K (mg:=X.mg) hcl I.ok.glob hgs hcd (hC.keeps I.bk) hPo ht hca hgP hBA fun c' ctv doc h' tk hx' hge hlt' hrec htb => ?_
  have hsz : s.heap.objs.size <= h'.objs.size:=Nat.le_of_lt (Nat.lt_of_le_of_lt hge hlt')
  obtain ⟨H',I2,ff,st,tb,ef,ec⟩:=fn_new (tk:=tk) (f:=h'.objs.size) (φ:=DefObj h'.objs.size name qual params body scope clos c') I hP ht hcs hq hge hsz (Nat.ne_of_lt hlt')
   (h2:=h'.push (PySem.W.fnMade name qual params body scope clos doc ((X.mg "__name__").getD .none) c' ctv))
   (fun b o n e => Heap.get?_push_of_some _ (hx' b o n e)) (Heap.get?_push_of_some _ htb) (rec_stable _ _ hrec fun o e => Heap.get?_push_of_some _ e) ⟨_,_,_,Heap.get?_push_size _ rfl⟩ ⟨_,Heap.get?_push_size _ rfl⟩ fun h1 h2 ⟨dc,pm,ct,z⟩ k => ⟨dc,pm,ct,k _ z⟩
  exact store_ok I2 hN hi hx (v:=.ref h'.objs.size) rfl (fun s2 I3 => ⟨_,H',I3,q _ H' ff st tb ⟨c',ef,ec⟩⟩) hf
 | some cv =>
  obtain ⟨c',q',rfl,hq',hc'⟩:=hcs pos cv hca
  obtain rfl : qual = q':=by rw [hq] at hq'; exact Option.some.inj hq'
  refine PySem.W.makeFunction_hit (mg:=X.mg) hcl I.ok.glob hgs hcd (hC.keeps I.bk) hPo ht hca hBA fun ctv doc h' tk hk hsz => ?_
  have ff : H h'.objs.size = none:=I.hok.fresh hsz
  have I2:=I.laid (a:=h'.objs.size) (o:=.ext (DefObj h'.objs.size name qual params body scope clos c')) (t':=tk) (fun b u e => Heap.get?_push_of_some (PySem.W.fnMade name qual params body scope clos doc ((X.mg "__name__").getD .none) c' ctv) (hk b u e)) hsz
   ⟨⟨_,_,_,Heap.get?_push_size _ rfl⟩,⟨_,Heap.get?_push_size _ rfl⟩,fun h1 h2 ⟨dc,pm,ct,z⟩ k => ⟨dc,pm,ct,k _ z⟩⟩
  have st : ∀ b u,H b = some u -> upd H h'.objs.size (.ext (DefObj h'.objs.size name qual params body scope clos c')) b = some u:=fun b u e => by rw [upd_ne (ne_of_none e ff)]; exact e
  exact store_ok I2 hN hi hx (v:=.ref h'.objs.size) rfl (fun s2 I3 => ⟨_,_,I3,q _ _ ff (fun b u _ e => st b u e) (Tab.keep ⟨ps,hP,ht,hcs⟩ st) ⟨c',upd_same,st _ _ hc'⟩⟩) hf
end L2
set_option maxHeartbeats 4000000
namespace L2
open PySem PySem.Spec PyProof.Rows
set_option genInjectivity false in
structure Cap where
 y : Str
 c : Addr
 v : V
noncomputable def capC (L : List Cap) : List (Str × Addr):=L.map fun q => (q.y,q.c)
noncomputable def capA (L : List Cap) : List Addr:=L.map (·.c)
noncomputable def Caps (H : Hp) (L : List Cap) : Prop:=∀ q ∈ L,CellIs H q.c q.v
theorem CellIs.sam {H H' : Hp} {c : Addr} {v : V} (h : CellIs H c v) (s : SamT H H') : CellIs H' c v:=by
 obtain ⟨o,u,e1,e2,e3⟩:=h
 exact ⟨o,u,s _ _ e1 (fun _ z => by cases z),e2,e3⟩
theorem Caps.sam {H H' : Hp} {L : List Cap} (h : Caps H L) (s : SamT H H') : Caps H' L:=fun q hq => (h q hq).sam s
theorem Caps.same {H H' : Hp} {L : List Cap} (h : Caps H L) (s : Same H H') : Caps H' L:=h.sam s.toSam
theorem Lam.sam {H H' : Hp} {f : Addr} {qual : Str} {params : Arguments} {body : Expr} {scope : Scope} {clos : List (Str × Addr)} (h : Lam H f qual params body scope clos) (s : SamT H H') : Lam H' f qual params body scope clos:=by
 obtain ⟨c',e1,e2⟩:=h
 exact ⟨c',s _ _ e1 (fun _ z => by cases z),s _ _ e2 (fun _ z => by cases z)⟩
theorem Ndf.sam {H H' : Hp} {f : Addr} {name qual : Str} {params : Arguments} {body : List Stmt} {scope : Scope} {clos : List (Str × Addr)} (h : Ndf H f name qual params body scope clos) (s : SamT H H') : Ndf H' f name qual params body scope clos:=by
 obtain ⟨c',e1,e2⟩:=h
 exact ⟨c',s _ _ e1 (fun _ z => by cases z),s _ _ e2 (fun _ z => by cases z)⟩
theorem lookup_nodup {α : Type} {x : Str} {a : α} : ∀ {l : List (Str × α)},(l.map (·.1)).Nodup -> (x,a) ∈ l -> l.lookup x = some a
 | [],_,h => by cases h
 | (k,b) :: r,nd,h => by
  obtain ⟨n1,n2⟩:=List.nodup_cons.mp nd
  rw [List.lookup_cons]
  rcases List.mem_cons.mp h with z | z
  ·cases z
   simp
  ·have : (x == k) = false:=beq_eq_false_iff_ne.mpr fun e => n1 (List.mem_map.mpr ⟨_,z,e⟩)
   rw [this]
   exact lookup_nodup n2 z
theorem cap_lookup {L : List Cap} (nd : (L.map (·.y)).Nodup) {q : Cap} (hq : q ∈ L) : (capC L).lookup q.y = some q.c:=by
 refine lookup_nodup ?_ (List.mem_map.mpr ⟨q,hq,rfl⟩)
 rw [show (capC L).map (·.1) = L.map (·.y) from by simp [capC]]
 exact nd
theorem cap_of {L : List Cap} {z : Str} {d : Addr} (h : (capC L).lookup z = some d) : ∃ q ∈ L,q.y = z /\ q.c = d:=by
 obtain ⟨q,hq,e⟩:=List.mem_map.mp (PySem.mem_of_lookup h)
 cases e
 exact ⟨q,hq,rfl,rfl⟩
theorem lookup_app {α : Type} {x : Str} {c : α} : ∀ {l m : List (Str × α)},(l ++ m).lookup x = some c -> l.lookup x = some c ∨ (l.lookup x = none /\ m.lookup x = some c)
 | [],m,h => .inr ⟨rfl,h⟩
 | (k,v) :: l,m,h => by
  rw [List.cons_append,List.lookup_cons] at h
  rw [List.lookup_cons]
  cases hx : x == k with
  | true => rw [hx] at h; exact .inl h
  | false => rw [hx] at h; exact lookup_app h
theorem lookup_appL {α : Type} {x : Str} {c : α} : ∀ {l m : List (Str × α)},l.lookup x = some c -> (l ++ m).lookup x = some c
 | (k,v) :: l,m,h => by
  rw [List.lookup_cons] at h
  rw [List.cons_append,List.lookup_cons]
  cases hx : x == k with
  | true => rw [hx] at h; exact h
  | false => rw [hx] at h; exact lookup_appL h
theorem lookup_appR {α : Type} {x : Str} : ∀ {l m : List (Str × α)},x ∉ l.map (·.1) -> (l ++ m).lookup x = m.lookup x
 | [],_,_ => rfl
 | (k,v) :: l,m,h => by
  rw [List.cons_append,List.lookup_cons]
  have : (x == k) = false:=beq_eq_false_iff_ne.mpr fun e => h (by rw [e]; exact List.mem_cons_self ..)
  rw [this]
  exact lookup_appR fun z => h (List.mem_cons_of_mem _ z)
theorem lookup_isSome {α : Type} {x : Str} : ∀ {l : List (Str × α)},x ∈ l.map (·.1) -> ∃ c,l.lookup x = some c
 | (k,v) :: l,h => by
  rw [List.lookup_cons]
  cases hx : x == k with
  | true => exact ⟨v,rfl⟩
  | false =>
   rcases List.mem_cons.mp h with e | h
   ·rw [e] at hx; simp at hx
   ·exact lookup_isSome h
structure OwnC (scope : Scope) (on : List Str) (own : Nat -> List (Str × Addr)) : Prop where
 eq : ∀ n acc,cellsFrom n scope.names acc = own n ++ acc
 nm : ∀ n,(own n).map (·.1) = on
 ge : ∀ n,∀ p ∈ own n,n <= p.2
 ap : ∀ n,(own n).Pairwise fun x y => x.2 ≠ y.2
 cell : ∀ x,scope.names.lookup x = some .cell -> x ∈ on
 kind : ∀ x ∈ on,scope.names.lookup x = some .cell
section
variable {M : Model} {A : Around} {E : Value -> Shared -> Prop} {s₀ s : Shared} {env : Env} {own : List (Str × Addr)}
theorem bindParamsO (f : Str × Value -> PUnit -> Sem (ForInStep PUnit)) (hf : ∀ n v u,f (n,v) u = (do storeName env n v; pure (.yield ⟨⟩))) (hk : env.scope.kind = .function) (hown : ∀ n c,own.lookup n = some c -> env.cells.lookup n = some c) :
  ∀ (binds : List (Str × Value)) (m cm : Str -> Option Value) (s : Shared) (Q : PUnit -> Shared -> Prop),InCallC s₀ env.locals m own cm s ->
   (∀ x ∈ binds,env.kindOf x.1 = some .local ∨ (env.kindOf x.1 = some .cell /\ (own.lookup x.1).isSome = true)) ->
   (∀ s',InCallC s₀ env.locals (bindL env.kindOf binds m) own (bindC env.kindOf binds cm) s' -> Q ⟨⟩ s') -> wpAny M A (forIn binds ⟨⟩ f) Q E s
 | [],m,cm,s,Q,x,_,h => by rw [List.forIn_nil]; exact wpAny_pure (h s x)
 | (n,v) :: r,m,cm,s,Q,x,hkind,h => by
  rw [List.forIn_cons,hf]
  have hr : ∀ y ∈ r,env.kindOf y.1 = some .local ∨ (env.kindOf y.1 = some .cell /\ (own.lookup y.1).isSome = true):=fun y hy => hkind y (List.mem_cons_of_mem _ hy)
  rcases hkind (n,v) List.mem_cons_self with hl | ⟨hl,hc⟩
  ·refine wpAny_bind (wpAny_bind (wpAny_storeName_local hl x.toInCall.ns (fun h' hn' hs' => wpAny_pure (bindParamsO f hf hk hown r (fun y => if y = n then some v else m y) cm _ Q ⟨⟨?_,hn',fun b o e => ?_,x.toInCall.fresh⟩,fun k c hc => ?_,x.apart,x.above⟩ hr fun s'' x'' => h s'' ?_)) (by rw [hk]; rfl)))
   ·obtain ⟨h₁,tk,rfl⟩:=x.toInCall.same
    exact ⟨h',_,rfl⟩
   ·exact hs'.extBut b o (Nat.ne_of_lt (Nat.lt_of_lt_of_le (Heap.lt_size e) x.toInCall.fresh)) (x.toInCall.keep b o e)
   ·exact (x.cell k c hc).sameBut hs' (Nat.ne_of_gt (x.above k c (PySem.mem_of_lookup hc)))
   ·unfold bindL bindC; rw [if_pos hl,if_pos hl]; exact x''
  ·obtain ⟨c,hc⟩:=Option.isSome_iff_exists.mp hc
   have hnl : ¬ env.kindOf n = some .local:=by rw [hl]; decide
   have hLc:=x.above n c (PySem.mem_of_lookup hc)
   refine wpAny_bind (wpAny_bind (wpAny_storeName_cell hk hl (hown n c hc) (x.cell n c hc) fun h' hc' hs' => wpAny_pure (bindParamsO f hf hk hown r m (fun y => if y = n then some v else cm y) _ Q ⟨⟨?_,x.toInCall.ns.sameBut hs' (Nat.ne_of_lt hLc),fun b o e => ?_,x.toInCall.fresh⟩,fun k c' hk' => ?_,x.apart,x.above⟩ hr fun s'' x'' => h s'' ?_)))
   ·obtain ⟨h₁,tk,rfl⟩:=x.toInCall.same
    exact ⟨h',_,rfl⟩
   ·exact hs'.extBut b o (Nat.ne_of_lt (Nat.lt_trans (Nat.lt_of_lt_of_le (Heap.lt_size e) x.toInCall.fresh) hLc)) (x.toInCall.keep b o e)
   ·by_cases hkn : k = n
    ·subst hkn
     rw [hc] at hk'; cases hk'
     simpa using hc'
    ·rw [if_neg hkn]
     exact (x.cell k c' hk').sameBut hs' fun e => hkn (PySem.name_of_addr x.apart (PySem.mem_of_lookup hk') (e ▸ PySem.mem_of_lookup hc))
   ·unfold bindL bindC; rw [if_neg hnl,if_neg hnl]; exact x''
end
theorem newEnv_own {M : Model} {A : Around} {E : Value -> Shared -> Prop} {s : Shared} {scope : Scope} {on : List Str} {own : Nat -> List (Str × Addr)} {globals : Addr} {cl : List (Str × Addr)} {binds : List (Str × Value)} {qual : Str} {func : Option Addr} {code : Value} {builtins : Addr} {Q : Env -> Shared -> Prop}
  (hk : scope.kind = .function) (O : OwnC scope on own) (hkind : ∀ x ∈ binds,scope.names.lookup x.1 = some .local ∨ scope.names.lookup x.1 = some .cell)
  (hQ : ∀ s',InCallC s s.heap.objs.size (bindL (fun x => scope.names.lookup x) binds fun _ => none) (own (s.heap.objs.size + 1)) (bindC (fun x => scope.names.lookup x) binds fun _ => none) s' -> Q (newEnv scope s.heap.objs.size globals (own (s.heap.objs.size + 1) ++ cl) qual func code none builtins) s') :
  wpAny M A (newFunctionEnv scope globals cl binds qual func code none builtins) Q E s:=by
 simp only [newFunctionEnv,Option.isSome_none,Bool.false_eq_true,if_false]
 refine wpAny_bind (wpAny_alloc ?_)
 refine wpAny_bind (wpAny_layCells _ (fun name kind cells => by cases hkc : kind == NameKind.cell <;> simp [hkc]) _ _ _ _ ?_)
 have ok:=cellsFrom_ok scope.names (s.heap.push { cls:=.type "frame",data:=.dict #[] }) (s.heap.objs.size + 1) [] ⟨fun _ _ hm => (nomatch hm),List.Pairwise.nil⟩ (by rw [Heap.size_push]; exact Nat.le_refl _)
 rw [Heap.size_push,O.eq,List.append_nil] at ok
 rw [show ({ s with heap:=s.heap.push { cls:=.type "frame",data:=.dict #[] } } : Shared).heap.objs.size = s.heap.objs.size + 1 from Heap.size_push ..,O.eq]
 refine wpAny_bind (bindParamsO (s₀:=s) (own:=own (s.heap.objs.size + 1)) (env:=newEnv scope s.heap.objs.size globals (own (s.heap.objs.size + 1) ++ cl) qual func code none builtins)
  _ (fun _ _ _ => rfl) hk (fun n c h => lookup_appL h) binds (fun _ => none) (fun _ => none) _ _
  ⟨⟨⟨_,_,rfl⟩,(Heap.Ns.new s.heap (.type "frame")).keeps (pushCells_keeps _ _),fun b o e => pushCells_keeps _ _ b o (Heap.get?_push_of_some _ e),Nat.le_refl _⟩,
   fun n c hc => (ok.empty n c (PySem.mem_of_lookup hc)).1,ok.apart,fun n c hm => (ok.empty n c hm).2⟩
  (fun x hx => (hkind x hx).imp id fun z => ⟨z,Option.isSome_iff_exists.mpr (lookup_isSome (by rw [O.nm]; exact O.cell _ z))⟩) fun s' x => wpAny_pure (hQ s' x))
structure CloScope (N ps fv : List Str) (scope : Scope) : Prop where
 kind : scope.kind = .function
 co : scope.isCoroutine = false
 gen : scope.isGenerator = false
 free : ∀ z ∈ scope.names,z.2 = .free -> z.1 ∈ fv
 nd : N.Nodup
 pre : N.take (ps ++ fv).length = ps ++ fv
 par : ∀ x ∈ ps,scope.names.lookup x = some .local ∨ scope.names.lookup x = some .cell
 fvs : ∀ y ∈ fv,scope.names.lookup y = some .free
noncomputable def cxClo (P : Program) (w : World) (K : PySem.W.Frag) (mg : Str -> Option Value) (base : Heap) (N : List Str) (qual : Str) (scope : Scope) (f c' : Addr) (on : List Str) (own : Nat -> List (Str × Addr)) (cl : List (Str × Addr)) (A : Around) (outer : List Env) (s : Shared) (H : Hp) : Cx where
 prog:=P
 w:=w
 K:=K
 mg:=mg
 base:=base
 A:=A.deeper (PySem.W.envX qual scope s.heap.objs.size f (.ref c') (own (s.heap.objs.size + 1) ++ cl))
 N:=N
 s₀:=s
 H₀:=H
 env:=PySem.W.envX qual scope s.heap.objs.size f (.ref c') (own (s.heap.objs.size + 1) ++ cl)
 outer:=outer
 stack:=PySem.W.envX qual scope s.heap.objs.size f (.ref c') (own (s.heap.objs.size + 1) ++ cl) :: outer
 ex:=[]
 calm:=true
 fn:=fun x => decide (x ∈ on)
 pn:=[]
 xe:=fun _ _ => False
section
variable {P : Program} {w : World} {K : PySem.W.Frag} {mg : Str -> Option Value} {base : Heap} {N ps on : List Str} {own : Nat -> List (Str × Addr)} {qual : Str} {scope : Scope} {f c' : Addr} {A : Around} {outer : List Env} {s s1 s' : Shared} {H H' : Hp} {us : List Value} {vs : List V} {L : List Cap}
theorem inv_clo (S : CloScope N ps (L.map (·.y)) scope) (O : OwnC scope on own) (hnd : (capA L).Nodup) (hd : A.handled = none) (e0 : Env0 P w K mg base A outer s H) (hC : Caps H L) (hl : vs.length = ps.length) (r : Vals vs us)
  (x : InCallC s s.heap.objs.size (bindL (fun x => scope.names.lookup x) (ps.zip us) fun _ => none) (own (s.heap.objs.size + 1)) (bindC (fun x => scope.names.lookup x) (ps.zip us) fun _ => none) s1) :
  Inv (cxClo P w K mg base N qual scope f c' on own (capC L) A outer s H) [] (start N (vs ++ L.map (·.v))) H s1:=by
 obtain ⟨h₁,tk,rfl,hk₁⟩:=x.done
 have noA : ∀ b : Addr,b ∉ (cxClo P w K mg base N qual scope f c' on own (capC L) A outer s H).ex:=fun b z => absurd (show b ∈ ([] : List Addr) from z) (by simp)
 have ndN : (ps ++ L.map (·.y)).Nodup:=by rw [<- S.pre]; exact S.nd.sublist (List.take_sublist _ _)
 have ndP : ps.Nodup:=(List.nodup_append.mp ndN).1
 have ndF : (L.map (·.y)).Nodup:=(List.nodup_append.mp ndN).2.1
 have hpl : (ps ++ L.map (·.y)).length <= N.length:=by have:=congrArg List.length S.pre; rw [List.length_take] at this; omega
 have old : ∀ q ∈ L,q.c < s.heap.objs.size:=fun q hq => by
  obtain ⟨o,u,e1,_⟩:=hC q hq
  exact Heap.lt_size (e0.hok q.c _ e1).1
 have ownge : ∀ {z : Str} {c : Addr},(own (s.heap.objs.size + 1)).lookup z = some c -> s.heap.objs.size < c:=fun e => O.ge _ _ (PySem.mem_of_lookup e)
 have fvno : ∀ y ∈ L.map (·.y),y ∉ on:=fun y hy z => by
  have h1:=S.fvs y hy
  rw [O.kind y z] at h1
  cases h1
 have fvl : ∀ q ∈ L,(own (s.heap.objs.size + 1) ++ capC L).lookup q.y = some q.c:=fun q hq => by
  rw [lookup_appR (by rw [O.nm]; exact fvno _ (List.mem_map.mpr ⟨q,hq,rfl⟩))]
  exact cap_lookup ndF hq
 have look : ∀ {z : Str} {d : Addr},(own (s.heap.objs.size + 1) ++ capC L).lookup z = some d -> ((own (s.heap.objs.size + 1)).lookup z = some d) ∨ (∃ q ∈ L,q.y = z /\ q.c = d):=fun h => (lookup_app h).imp id fun z => cap_of z.2
 refine ⟨⟨e0.mod,S.kind,rfl,rfl,Nat.le_refl _,fun z1 z2 d h1 h2 => ?_,fun z hz => ?_,fun z d h h2 => ?_,fun _ => hd,Around.frames_deeper e0.frames,.inr ⟨rfl,rfl⟩,fun b z => absurd z (noA b),e0.bs,e0.bsz,fun b _ _ => noA b,fun b z => absurd z (noA b),e0.funs,e0.frf⟩,
  rfl,e0.bare,Un.kept hk₁,⟨_,x.toInCall.ns,fun i z v' h1 h2 h3 => ?_⟩,fun z d h => ?_,e0.hok.fresh (Nat.le_refl _),fun z d h => ?_,fun p hp => absurd (show p ∈ ([] : List (Addr × Obj)) from hp) (by simp),e0.hok.kept hk₁,?_⟩
 ·rcases look h1 with a1 | ⟨q1,m1,e1,e2⟩ <;> rcases look h2 with a2 | ⟨q2,m2,e3,e4⟩
  ·exact PySem.name_of_addr (O.ap _) (PySem.mem_of_lookup a1) (PySem.mem_of_lookup a2)
  ·exact absurd (ownge a1) (by rw [<- e4]; exact Nat.lt_asymm (old q2 m2))
  ·exact absurd (ownge a2) (by rw [<- e2]; exact Nat.lt_asymm (old q1 m1))
  ·have : q1 = q2:=by
    clear e1 e3 h1 h2 hC S ndN ndF hpl noA x old fvno fvl look
    induction L with
    | nil => cases m1
    | cons a t ih =>
     obtain ⟨n1,n2⟩:=List.nodup_cons.mp (show (a.c :: capA t).Nodup from hnd)
     rcases List.mem_cons.mp m1 with y1 | y1 <;> rcases List.mem_cons.mp m2 with y2 | y2
     ·rw [y1,y2]
     ·exact absurd (List.mem_map.mpr ⟨q2,y2,by rw [e4,<- e2,y1]⟩) n1
     ·exact absurd (List.mem_map.mpr ⟨q1,y1,by rw [e2,<- e4,y2]⟩) n1
     ·exact ih n2 y1 y2
   rw [<- e1,<- e3,this]
 ·have hz : scope.names.lookup z = some .cell ∨ scope.names.lookup z = some .free:=hz
  rcases hz with hz | hz
  ·obtain ⟨c,e⟩:=lookup_isSome (l:=own (s.heap.objs.size + 1)) (x:=z) (by rw [O.nm]; exact O.cell z hz)
   exact ⟨c,lookup_appL e⟩
  ·obtain ⟨q,hq,e⟩:=List.mem_map.mp (S.free _ (PySem.mem_of_lookup hz) rfl)
   exact ⟨q.c,by rw [<- show q.y = z from e]; exact fvl q hq⟩
 ·rcases look h2 with a | ⟨q,hq,e1,e2⟩
  ·exact Nat.le_of_lt (ownge a)
  ·have : z ∈ on:=of_decide_eq_true h
   exact absurd this (fvno z (List.mem_map.mpr ⟨q,hq,e1⟩))
 ·have hi : i < (vs ++ L.map (·.v)).length:=by
   unfold start at h2
   by_cases hi : i < (vs ++ L.map (·.v)).length
   ·exact hi
   ·rw [List.getElem?_append_right (by simpa using hi)] at h2
    rw [List.getElem?_replicate] at h2
    split at h2 <;> cases h2
  have ha : (vs ++ L.map (·.v))[i]? = some v':=by
   unfold start at h2
   rw [List.getElem?_append_left (by simpa using hi),List.getElem?_map] at h2
   cases e : (vs ++ L.map (·.v))[i]? with
   | none => rw [e] at h2; cases h2
   | some a => rw [e] at h2; cases h2; rfl
  have hi' : i < (ps ++ L.map (·.y)).length:=by simp at hi ⊢; omega
  have hp : (ps ++ L.map (·.y))[i]? = some z:=by
   rw [<- S.pre,List.getElem?_take_of_lt hi']; exact h1
  by_cases hc : i < ps.length
  ·rw [List.getElem?_append_left (by omega)] at ha
   rw [List.getElem?_append_left hc] at hp
   obtain ⟨u,hu,rv⟩:=r.get ha
   refine ⟨u,rv,?_⟩
   rcases S.par z (List.mem_of_getElem? hp) with k | k
   ·exact .inl ⟨k,bindL_get ndP hp hu k⟩
   ·obtain ⟨c,e⟩:=lookup_isSome (l:=own (s.heap.objs.size + 1)) (x:=z) (by rw [O.nm]; exact O.cell z k)
    refine .inr ⟨.inl k,c,lookup_appL e,?_⟩
    have q:=x.cell z c e
    rw [bindC_get ndP hp hu (by show scope.names.lookup z ≠ _; rw [k]; decide)] at q
    exact q
  ·rw [List.getElem?_append_right (by omega),hl,List.getElem?_map] at ha
   rw [List.getElem?_append_right (by omega),List.getElem?_map] at hp
   cases e : L[i - ps.length]? with
   | none => rw [e] at ha; cases ha
   | some q =>
    rw [e] at ha hp
    cases ha
    cases hp
    have hq:=List.mem_of_getElem? e
    obtain ⟨o,u,e1,e2,e3⟩:=hC q hq
    exact ⟨u,e2,.inr ⟨.inr (S.fvs _ (List.mem_map.mpr ⟨q,hq,rfl⟩)),q.c,fvl q hq,o,hk₁ _ _ (e0.hok q.c _ e1).1,e3⟩⟩
 ·rcases look h with a | ⟨q,hq,e1,rfl⟩
  ·exact ⟨_,x.cell z d a⟩
  ·obtain ⟨o,u,e1,e2,e3⟩:=hC q hq
   exact ⟨some u,o,hk₁ _ _ (e0.hok q.c _ e1).1,e3⟩
 ·rcases look h with a | ⟨q,hq,e1,rfl⟩
  ·exact .inl (e0.hok.fresh (Nat.le_of_lt (ownge a)))
  ·obtain ⟨o,u,e2,_⟩:=hC q hq
   refine .inr ⟨?_,o,_,e2⟩
   show decide (z ∈ on) = false
   exact decide_eq_false (fvno z (List.mem_map.mpr ⟨q,hq,e1⟩))
 ·unfold start
  show _ = N.length
  rw [List.length_append,List.length_map,List.length_replicate]
  simp at hpl ⊢
  omega
end
theorem clo_lam {P : Program} {w : World} {K : PySem.W.Frag} {mg : Str -> Option Value} {base : Heap} {k : Nat} {f : Addr} {N ps on : List Str} {own : Nat -> List (Str × Addr)} {qual : Str} {params : Arguments} {body : Expr} {scope : Scope} {L : List Cap} {sp : Sp} (S : CloScope N ps (L.map (·.y)) scope) (O : OwnC scope on own) (hnd : (capA L).Nodup)
  (hbind : ∀ (pm ctv : Value) (c' : Addr) (us : List Value),us.length = ps.length -> bindArgs (PySem.W.kla_fn "<lambda>" qual params body scope (capC L) pm (.ref c') ctv) ⟨us,[]⟩ = pure (ps.zip us))
  (len : ∀ vs H Q E,sp vs H Q E -> vs.length = ps.length)
  (hbody : ∀ (c' : Addr) (A : Around) (outer : List Env) (s : Shared) (H : Hp) (vs : List V) (Q : VK) (E : XK),Room k (A.deeper (PySem.W.envX qual scope s.heap.objs.size f (.ref c') (own (s.heap.objs.size + 1) ++ capC L))) -> Caps H L -> sp vs H Q E ->
   ∃ t,PE (cxClo P w K mg base N qual scope f c' on own (capC L) A outer s H) body t /\ t (start N (vs ++ L.map (·.v))) H Q) :
  FvOk P w K mg base (k + 1) f (fun H => Lam H f qual params body scope (capC L) /\ Caps H L) sp:=by
 refine ⟨fun H h ⟨⟨c',hf,_⟩,_⟩ hok => ?_,fun A outer s H us vs Q E hr e0 ⟨⟨c',hf,hc'⟩,hC⟩ r hsp => ?_⟩
 ·obtain ⟨⟨pm,ctv,e⟩,_⟩:=hok f _ hf
  exact ⟨_,_,_,_,e⟩
 ·have hl:=len _ _ _ _ hsp
  obtain ⟨⟨pm,ctv,hfo⟩,_⟩:=e0.hok f _ hf
  obtain ⟨hrec,_⟩:=e0.hok c' _ hc'
  have lim : s.heap.NoLimit:=e0.mod.nolimit.keeps fun b o e => (e0.bs b o e).1
  obtain ⟨t,ht,hq⟩:=hbody c' A outer s H vs Q E (hr.deeper _) hC hsp
  have hul : us.length = ps.length:=by rw [<- hl,r.length]
  refine PySem.W.kla_callFunE hr.depth hfo rfl S.co S.gen rfl hrec ?_
  rw [hbind _ _ _ _ hul]
  refine wpAny_pure (newEnv_own S.kind O (fun z hz => S.par _ (List.of_mem_zip hz).1) fun s1 x => ⟨lim.keeps x.toInCall.keep,?_⟩)
  have I:=inv_clo (qual:=qual) (f:=f) (c':=c') S O hnd hr.hd e0 hC hl r x
  refine PySem.W.kla_codeExpr (wpAny_mono (ht [] _ _ _ _ I hq) (fun u' s' hs => ?_) fun e s' hs => False.elim hs)
  obtain ⟨r',H',J,rv,q'⟩:=hs
  exact ⟨r',H',J.os,J.bare,J.base,J.hok,rv,q'⟩
theorem clo_def {P : Program} {w : World} {K : PySem.W.Frag} {mg : Str -> Option Value} {base : Heap} {k : Nat} {f : Addr} {N ps on : List Str} {own : Nat -> List (Str × Addr)} {name qual : Str} {params : Arguments} {body : List Stmt} {scope : Scope} {L : List Cap} {sp : Sp} (S : CloScope N ps (L.map (·.y)) scope) (O : OwnC scope on own) (hnd : (capA L).Nodup)
  (hbind : ∀ (doc pm ctv : Value) (c' : Addr) (us : List Value),us.length = ps.length -> bindArgs (PySem.W.fnX name qual params body scope (capC L) .none .none doc pm none (.ref c') ctv) ⟨us,[]⟩ = pure (ps.zip us))
  (len : ∀ vs H Q E,sp vs H Q E -> vs.length = ps.length)
  (hbody : ∀ (c' : Addr) (A : Around) (outer : List Env) (s : Shared) (H : Hp) (vs : List V) (Q : VK) (E : XK),Room k (A.deeper (PySem.W.envX qual scope s.heap.objs.size f (.ref c') (own (s.heap.objs.size + 1) ++ capC L))) -> Caps H L -> sp vs H Q E ->
   ∃ t,PSs (cxClo P w K mg base N qual scope f c' on own (capC L) A outer s H) body t /\ t { nx:=fun _ H' => Q .non H',rt:=Q } (start N (vs ++ L.map (·.v))) H) :
  FvOk P w K mg base (k + 1) f (fun H => Ndf H f name qual params body scope (capC L) /\ Caps H L) sp:=by
 refine ⟨fun H h ⟨⟨c',hf,_⟩,_⟩ hok => ?_,fun A outer s H us vs Q E hr e0 ⟨⟨c',hf,hc'⟩,hC⟩ r hsp => ?_⟩
 ·obtain ⟨⟨doc,pm,ctv,e⟩,_⟩:=hok f _ hf
  exact ⟨_,_,_,_,e⟩
 ·have hl:=len _ _ _ _ hsp
  obtain ⟨⟨doc,pm,ctv,hfo⟩,_⟩:=e0.hok f _ hf
  obtain ⟨hrec,_⟩:=e0.hok c' _ hc'
  have lim : s.heap.NoLimit:=e0.mod.nolimit.keeps fun b o e => (e0.bs b o e).1
  obtain ⟨t,ht,hq⟩:=hbody c' A outer s H vs Q E (hr.deeper _) hC hsp
  have hul : us.length = ps.length:=by rw [<- hl,r.length]
  refine codeAny_call_function hr.depth hfo rfl S.co S.gen rfl hrec ?_
  rw [hbind _ _ _ _ _ hul]
  refine wpAny_pure (newEnv_own S.kind O (fun z hz => S.par _ (List.of_mem_zip hz).1) fun s1 x => ⟨lim.keeps x.toInCall.keep,codeAny_func ?_⟩)
  have I:=inv_clo (qual:=qual) (f:=f) (c':=c') S O hnd hr.hd e0 hC hl r x
  refine wpAny_mono (ht [] _ _ _ _ I hq) (fun fl s' hs => ?_) fun e s' hs => False.elim hs
  cases fl with
  | ret u =>
   obtain ⟨v,σ',H',J,rv,q⟩:=hs
   exact ⟨v,H',J.os,J.bare,J.base,J.hok,rv,q⟩
  | next =>
   obtain ⟨σ',H',J,q⟩:=hs
   exact ⟨.non,H',J.os,J.bare,J.base,J.hok,rfl,q⟩
  | brk =>
   obtain ⟨_,_,_,q⟩:=hs
   exact False.elim q
  | cont =>
   obtain ⟨_,_,_,q⟩:=hs
   exact False.elim q
section
variable {P : Program} {w : World} {K : PySem.W.Frag} {mg : Str -> Option Value} {base : Heap}
theorem okR {x qual : Str} {st : Stmt} {f c : Addr} {fd : FuncData} {N ps : List Str} {k : Nat} {sp : Sp} {e : Expr} {pos : Pos} (F : Fun K x qual st f fd) (hc : fd.code = .ref c) (S : FnScope N ps (defScope st)) (hst : defBody st = [.Return (some e) pos]) (sl : Nat -> List (Nat × Addr))
  (hsl : ∀ n,∀ p ∈ sl n,∃ y,N[p.1]? = some y /\ (defScope st).names.lookup y = some .cell /\ (cellsFrom (n + 1) (defScope st).names []).lookup y = some p.2)
  (len : ∀ vs H Q E,sp vs H Q E -> vs.length = ps.length)
  (hbody : ∀ (A : Around) (outer : List Env) (s : Shared) (H : Hp) (vs : List V) (Q : VK) (E : XK),Room k (A.deeper (envOfC qual (defScope st) s.heap.objs.size f (.ref c))) -> sp vs H Q E ->
   ∃ t,PE (cxOf CX0 P w K mg base N qual (defScope st) f (.ref c) A outer s H E).nox e t /\ t (start N vs) H fun v H' => ∀ Fz : Hp,(∀ c ∈ (sl s.heap.objs.size).map (·.2),H' c = none /\ ∃ o,Fz c = some (frzC c o)) -> (∀ p ∈ sl s.heap.objs.size,∀ v,(start N vs)[p.1]? = some (some v) -> CellIs Fz p.2 v) ->
    Q v (put H' Fz ((sl s.heap.objs.size).map (·.2)))) : FnOk P w K mg base CX0 (k + 1) f fd ps sp:=by
 obtain ⟨oc,od,kV,doc,pm,an,cdv,ct,osl,rfl,lk,hcd⟩:=F.ex
 have e1 : cdv = .ref c:=hc
 subst e1
 refine ⟨len,fun A outer s H args us vs Q E hr e0 hb r hsp => ?_⟩
 have hl:=len _ _ _ _ hsp
 have KX : K.In s.heap:=e0.mod.kin.keeps fun b o e => (e0.bs b o e).1
 have lim : s.heap.NoLimit:=e0.mod.nolimit.keeps fun b o e => (e0.bs b o e).1
 have hkind : ∀ y ∈ ps.zip us,(defScope st).names.lookup y.1 = some .local ∨ ((defScope st).names.lookup y.1 = some .cell /\ ((cellsFrom (s.heap.objs.size + 1) (defScope st).names []).lookup y.1).isSome = true):=fun ⟨n,v⟩ hy => by
  rcases S.par n (List.of_mem_zip hy).1 with q | q
  ·exact .inl q
  ·exact .inr ⟨q,PySem.W.cellsFrom_some _ _ _ (.inl q)⟩
 refine codeAny_call_function hr.depth (KX _ _ lk) rfl S.co S.gen rfl (PySem.W.codeRec_of KX hcd) (hb _ _ _ _ ?_)
 refine wpAny_newFunctionEnv_cells S.kind hkind fun env he s1 x => ?_
 subst he
 refine ⟨lim.keeps x.toInCall.keep,codeAny_func ?_⟩
 obtain ⟨t,ht,hq⟩:=hbody A outer s H vs Q E (hr.deeper _) hsp
 have I : Inv (cxOf CX0 P w K mg base N qual (defScope st) f (.ref c) A outer s H E) [] (start N vs) H s1:=inv_start S hr.hd e0 hl r x
 rw [hst]
 refine wpAny_execs_cons (wpAny_Return_some (thn (ht.nox [] s1 (start N vs) H _ I hq) ?_))
 rintro u s' ⟨v,H',J,rv,q⟩
 obtain ⟨Fz,hF,hFv,hn,e2⟩:=J.frozen (sl:=sl s.heap.objs.size) fun p hp => by
  obtain ⟨y,h1,h2,h3⟩:=hsl s.heap.objs.size p hp
  exact ⟨y,h1,.inr (.inl h2),.inl h2,h3,rfl⟩
 have hF1 : ∀ c ∈ (sl s.heap.objs.size).map (·.2),H c = none /\ s.heap.objs.size <= c:=fun c hc => by
  obtain ⟨p,hp,rfl⟩:=List.mem_map.mp hc
  obtain ⟨y,h1,h2,h3⟩:=hsl s.heap.objs.size p hp
  have:=J.ok.cab y p.2 rfl h3
  exact ⟨e0.hok.fresh this,this⟩
 have no : ∀ {b : Addr} {o : Obj},s.heap.get? b = some o -> b ∉ (sl s.heap.objs.size).map (·.2):=fun {b o} e z => Nat.lt_irrefl _ (Nat.lt_of_lt_of_le (Heap.lt_size e) (hF1 b z).2)
 have noH : ∀ {b : Addr} {u : HO},H b = some u -> b ∉ (sl s.heap.objs.size).map (·.2):=fun {b u} e z => by rw [(hF1 b z).1] at e; cases e
 refine ⟨v,put H' Fz ((sl s.heap.objs.size).map fun p : Nat × Addr => p.2),J.os,J.bare,⟨fun b ob e n hb hx => J.base.keep b ob e n hb hx,fun b ob e n hb hx => J.base.slot b ob e n hb hx,fun b ob e n hx => ?_,fun b ob e hx => J.base.there b ob e hx,fun b xs e => ?_,fun b ob u e => ?_,fun b qs e => ?_⟩,e2.hok,rv,q Fz (fun c hc => ⟨(hn c hc).1,let ⟨o,z,_⟩:=hF c hc; ⟨o,z⟩⟩) hFv⟩
 ·rw [put_out (no e)]
  exact J.base.free b ob e n hx
 ·rw [put_out (noH e)]
  exact J.base.tups b xs e
 ·rw [put_out (noH e)]
  exact J.base.frzs b ob u e
 ·obtain ⟨more,z⟩:=J.base.tbls b qs e
  exact ⟨more,by rw [put_out (noH e)]; exact z⟩
end
end L2
set_option maxHeartbeats 4000000
namespace L2
open PySem PySem.Spec PyProof.Rows
section
variable {X : Cx} {tg iter elt : Expr} {ifs : List Expr} {scope : Scope} {pos : Pos} {cl : List (Str × Addr)} {N' on : List Str} {own : Nat -> List (Str × Addr)} {cap : List (Option Nat)} {wi : TI} {g : TG} {ti : TT} {te : TE} {sl : List (Nat × Addr)}
end
end L2
set_option maxHeartbeats 4000000
namespace L2
open PySem PySem.Spec PyProof.Rows
inductive Kd where
 | s
 | t
noncomputable abbrev Kd.κ : Kd -> Type
 | .s => Key
 | .t => List Key
noncomputable instance instDecKd : (k : Kd) -> DecidableEq k.κ
 | .s => inferInstanceAs (DecidableEq Key)
 | .t => inferInstanceAs (DecidableEq (List Key))
noncomputable def Kd.mk : (k : Kd) -> List (k.κ × V) -> HO
 | .s,kvs => .dK kvs
 | .t,kvs => .dT kvs
noncomputable def Kd.isV (H : Hp) : (k : Kd) -> k.κ -> V -> Prop
 | .s,p,v => v = kV p
 | .t,p,v => ∃ t,v = .ref t /\ H t = some (.tup (p.map kV))
section
variable {k : Kd} {H H' : Hp} {d : Addr} {kvs : List (k.κ × V)} {p : k.κ} {v x : V}
theorem Kd.get (e : H d = some (k.mk kvs)) (h : k.isV H p v) : DGet H d v (valV kvs p):=by
 cases k with
 | s => have h : v = kV p:=h; subst h; exact DGet.k e
 | t => obtain ⟨t,rfl,ht⟩:=h; exact DGet.t e ht
theorem Kd.put (e : H d = some (k.mk kvs)) (h : k.isV H p v) (hl : kvs.length < sizeLine) : DPut H d v x (upd H d (k.mk (putK kvs p x))):=by
 cases k with
 | s => have h : v = kV p:=h; subst h; exact DPut.k e hl
 | t => obtain ⟨t,rfl,ht⟩:=h; exact DPut.t e ht hl
theorem Kd.same (h : k.isV H p v) (s : ∀ t xs,H t = some (.tup xs) -> H' t = some (.tup xs)) : k.isV H' p v:=by
 cases k with
 | s => exact h
 | t => obtain ⟨t,rfl,ht⟩:=h; exact ⟨t,rfl,s _ _ ht⟩
theorem Kd.nt : ∀ xs,k.mk kvs ≠ .tup xs:=fun xs z => by cases k <;> cases z
theorem Kd.nn (h : k.isV H p v) : v ≠ .non:=fun z => by
 subst z
 cases k with
 | s => have h : V.non = kV p:=h; cases p <;> cases h
 | t => obtain ⟨t,e,_⟩:=h; cases e
end
section
variable {X : Cx} {pins : List (Addr × Obj)} {σ : St} {H : Hp} {s : Shared} {a : Addr} {y v : V} {u r : Value} {A : Around} {E : Value -> Shared -> Prop}
theorem d_set {H' : Hp} {Q : Unit -> Shared -> Prop} (hu : A.units < cLine) (I : Inv X pins σ H s) (g : DPut H a y v H') (ry : RelV y u) (rv : RelV v r) (h : ∀ s',Inv X pins σ H' s' -> Q () s') :
  wpAny (model X.prog X.w) A (dictSet a u r) Q E s:=by
 rcases g with ⟨kvs,k,e,ey,l,eH⟩ | ⟨kvs,k,b,e,ey,eb,l,eH⟩
 ·subst ey eH
  obtain ⟨z,hd,vs,rel,dd⟩:=dk_of I.hok e
  have hz : vs.length <= sizeLine:=by rw [<- rel.length]; exact z
  have hl : (putK kvs k v).length <= sizeLine:=by have:=length_putK kvs k v; omega
  refine wpAny_dictSet_pairs (hsz:=hz) (kV_is ry) dd fun h' dd' hs => h _ ?_
  have he : ∃ q,h'.get? a = some q:=let ⟨q,_,_,hq,_⟩:=dd'; ⟨q,hq⟩
  exact d_write I (by rw [e]; exact True.intro) hs he (dk_new hl hd (rel.put k rv) dd')
 ·subst ey eH
  cases (show u = Value.ref b from ry)
  obtain ⟨z,hd,xs,rel,dd⟩:=dt_of I.hok e
  have hz : xs.length <= sizeLine:=by rw [<- Paired.length rel]; exact z
  have hl : (putK kvs k v).length <= sizeLine:=by have:=length_putK kvs k v; omega
  refine wpAny_dictSet_heap (hsz:=hz) hu (key_of I.hok eb) dd fun h' dd' hs => h _ ?_
  obtain ⟨q,es,ep,hq,h2,h3,h4,_,h5⟩:=dd'
  refine d_write I (by rw [e]; exact True.intro) hs ⟨q,hq⟩ ⟨hl,hd,_,(rel.put k eb rv).keeps fun c ys ec => ?_,q,es,ep,hq,h2,h3,h4,h5⟩
  rw [upd_ne (ne_of ec e (fun z => nomatch z))]
  exact ec
end
theorem mk_empty (k : Kd) {P : Program} {w : World} {H : Hp} (h : Heap) (hb : sysModules < h.objs.size) : ObjOk P w H (h.push { cls:=.type "dict",data:=.dict #[] }) h.objs.size (k.mk []):=by
 cases k with
 | s => exact dk_empty h hb
 | t => exact dt_empty h hb
noncomputable def tDisp1 (k : Kd) (tk tv : TE) : TE:=fun σ H Q => ∀ d,H d = none -> tk σ (upd H d (k.mk [])) fun x H1 => tv σ H1 fun y H2 => H2 d = some (k.mk []) /\ ∃ p,k.isV H2 p x /\ Q (.ref d) (upd H2 d (k.mk [(p,y)]))
theorem pe_disp1 (k : Kd) {X : Cx} {pos : Pos} {ke ve : Expr} {tk tv : TE} (hu : X.A.units < cLine) (hk : PE X ke tk) (hv : PE X ve tv) : PE X (.Dict [some ke] [ve] pos) (tDisp1 k tk tv):=by
 intro pins s σ H Q I q
 have hn:=I.hok.fresh (Nat.le_refl s.heap.objs.size)
 have I1:=I.laid (a:=s.heap.objs.size) (o:=k.mk []) (h':=s.heap.push { cls:=.type "dict",data:=.dict #[] }) (t':=s.toks) (fun _ _ q => Heap.get?_push_of_some _ q) (Nat.le_refl _) (mk_empty k s.heap I.big)
 have hlen : (pairTrees [some ke] [ve] X.env pos).length = 1:=pairTrees_length [some ke] [ve] X.env pos rfl rfl
 rw [arm_eval_Dict,zip_pairTrees [some ke] [ve] X.env pos rfl rfl,dictDisplay_pairs _ (fun z => by rw [z] at hlen; cases hlen) (by omega)]
 refine wpAny_bind (wpAny_standAt (wpAny_bind ?_))
 unfold subDict
 refine wpAny_bind (wpAny_alloc ?_)
 refine wpAny_bind (wpAny_holding ?_)
 rw [if_pos (by omega)]
 refine wpAny_bind (pairTrees_cons_walk (thn (hk pins _ σ _ _ I1 (q _ hn)) ?_))
 rintro kv s2 ⟨x,H2,I2,rx,q2⟩
 refine thn (hv pins s2 σ H2 _ I2 q2) ?_
 rintro vv s3 ⟨y,H3,I3,ry,e3,p,hp,q3⟩
 refine pairTrees_nil_walk ?_
 refine wpAny_holding ?_
 rw [List.forIn_cons]
 have hput : DPut H3 s.heap.objs.size x y (upd H3 s.heap.objs.size (k.mk (putK [] p y))):=Kd.put e3 hp (by show 0 < sizeLine; rw [sizeLine_eq]; omega)
 refine wpAny_bind (wpAny_bind (wpAny_bind (d_set hu I3 hput rx ry fun s4 I4 => wpAny_pure ?_)))
 dsimp only
 rw [List.forIn_nil]
 exact wpAny_pure (wpAny_pure (wpAny_pure (wpAny_pure ⟨.ref s.heap.objs.size,_,I4,rfl,q3⟩)))
noncomputable def iSeq (K : PySem.W.Frag) (tl : TE) : TI:=fun σ H R => tl σ H fun x H1 => ∃ a,x = .ref a /\ (((∃ xs,SqL K H1 a xs) /\ R (Itl K a) H1) ∨ ((∃ xs,SqT K H1 a xs) /\ R (Itt K a) H1))
theorem pi_seq {X : Cx} {tg l : Expr} {tl : TE} (hl : PE X l tl) : PI X tg l (iSeq X.K tl):=by
 intro pins s σ H R I h
 refine thn (hl pins s σ H _ I h) ?_
 rintro v s1 ⟨x,H1,I1,r1,q1⟩
 obtain ⟨a,e,⟨⟨xs,hq⟩,q⟩ | ⟨⟨xs,hq⟩,q⟩⟩:=q1
 ·subst e
  cases r1
  obtain ⟨its,rv,p,hz⟩:=I1.list hq
  refine wpAny_pyIter_list p.isList ?_
  refine ⟨s1.heap.objs.size,[s1.heap.objs.size],_,_,H1,rfl,I1.kept (t':=s1.toks) fun b o e => Heap.get?_push_of_some _ e,turn_list a _,⟨_,Heap.get?_push_size _ rfl,rfl,rfl⟩,fun b hb => ?_,q⟩
  have e : b = s1.heap.objs.size:=by simpa using hb
  subst e
  exact I1.fpOk (Nat.le_refl _) (I1.hok.fresh (Nat.le_refl _))
 ·subst e
  cases r1
  obtain ⟨its,rv,p,hz⟩:=I1.tuple hq
  refine wpAny_pyIter_tuple (show s1.heap.IsTuple a its.toArray from p) ?_
  refine ⟨s1.heap.objs.size,[s1.heap.objs.size],_,_,H1,rfl,I1.kept (t':=s1.toks) fun b o e => Heap.get?_push_of_some _ e,turn_tuple a _,⟨_,Heap.get?_push_size _ rfl,rfl,rfl⟩,fun b hb => ?_,q⟩
  have e : b = s1.heap.objs.size:=by simpa using hb
  subst e
  exact I1.fpOk (Nat.le_refl _) (I1.hok.fresh (Nat.le_refl _))
end L2
set_option maxHeartbeats 4000000
namespace L2
open PySem PySem.Spec PyProof.Rows
theorem for_seq {K : PySem.W.Frag} {a : Addr} {xs : List V} {O : HO} {g : TG} {tb : TS} {D : Ends} {σ : St} {H : Hp} (hO : O = .lst xs ∨ O = .tup xs) (Pv : Nat -> St -> Hp -> Prop) (h0 : Pv 0 σ H) (hl : ∀ i σ H,i <= xs.length -> Pv i σ H -> H a = some O)
  (hs : ∀ i x σ H,xs[i]? = some x -> Pv i σ H -> g x σ H fun σ2 H2 => tb { D with nx:=Pv (i + 1),ct:=Pv (i + 1),bk:=D.nx } σ2 H2) (hd : ∀ σ H,Pv xs.length σ H -> D.nx σ H) :
  ((∃ ys,SqL K H a ys) /\ ∃ W : Nat -> Nat -> St -> Hp -> Prop,(∃ m,W 0 m σ H) /\ ∀ i m σ H,W i m σ H ->
   ((Itl K a).stop i H /\ D.nx σ H) ∨ ((Itl K a).go i H /\ ∃ N : St -> Hp -> Prop,(∀ σ' H',N σ' H' -> ∃ m',m' < m /\ W (i + 1) m' σ' H') /\ ∀ x H',(Itl K a).yld i H x H' -> g x σ H' fun σ2 H2 => tb { D with nx:=N,ct:=N,bk:=D.nx } σ2 H2)) ∨
  ((∃ ys,SqT K H a ys) /\ ∃ W : Nat -> Nat -> St -> Hp -> Prop,(∃ m,W 0 m σ H) /\ ∀ i m σ H,W i m σ H ->
   ((Itt K a).stop i H /\ D.nx σ H) ∨ ((Itt K a).go i H /\ ∃ N : St -> Hp -> Prop,(∀ σ' H',N σ' H' -> ∃ m',m' < m /\ W (i + 1) m' σ' H') /\ ∀ x H',(Itt K a).yld i H x H' -> g x σ H' fun σ2 H2 => tb { D with nx:=N,ct:=N,bk:=D.nx } σ2 H2)):=by
 rcases hO with rfl | rfl
 ·exact .inl ⟨⟨xs,SqL.of (hl 0 σ H (Nat.zero_le _) h0)⟩,for_list Pv h0 (fun i σ H hi p => SqL.of (hl i σ H hi p)) hs hd⟩
 ·exact .inr ⟨⟨xs,SqT.of (hl 0 σ H (Nat.zero_le _) h0)⟩,for_tup Pv h0 (fun i σ H hi p => SqT.of (hl i σ H hi p)) hs hd⟩
end L2
namespace Hs
set_option genInjectivity false in
structure Gr (α : Type) where
 nx : α -> Bool -> α
 s0 : α
 U : α -> Prop
 num : α -> Nat
 B : Nat
 h0 : U s0
 cl : ∀ a b,U a -> U (nx a b)
 lt : ∀ a,U a -> num a < B
 inj : ∀ a b,U a -> U b -> num a = num b -> a = b
section
variable {α : Type} {G : Gr α}
noncomputable def Gr.led (G : Gr α) (a : α) (w : List Bool) : α:=w.foldl G.nx a
noncomputable def Gr.Reach (G : Gr α) (a : α) : Prop:=∃ w,G.led G.s0 w = a
theorem Gr.led_snoc (G : Gr α) (a : α) (w : List Bool) (b : Bool) : G.led a (w ++ [b]) = G.nx (G.led a w) b:=by
 unfold Gr.led
 rw [List.foldl_append]
 rfl
theorem Gr.Reach.zero (G : Gr α) : G.Reach G.s0:=⟨[],rfl⟩
theorem Gr.Reach.step {a : α} (h : G.Reach a) (b : Bool) : G.Reach (G.nx a b):=by
 obtain ⟨w,rfl⟩:=h
 exact ⟨w ++ [b],G.led_snoc _ w b⟩
theorem Gr.Reach.closed {C : α -> Prop} (h0 : C G.s0) (hs' : ∀ a b,C a -> C (G.nx a b)) : ∀ {a},G.Reach a -> C a:=by
 rintro a ⟨w,rfl⟩
 have : ∀ (w : List Bool) (a : α),C a -> C (G.led a w):=by
  intro w
  induction w with
  | nil => intro i h; exact h
  | cons b w ih => intro i h; exact ih _ (hs' i b h)
 exact this w _ h0
theorem Gr.nodup_le (G : Gr α) (l : List α) (hn : l.Nodup) (hU : ∀ a ∈ l,G.U a) : l.length <= G.B:=by
 have:=nodup_lt G.B (l.map G.num) ?_ ?_
 ·rwa [List.length_map] at this
 ·induction l with
  | nil => simp
  | cons a l ih =>
   rw [List.map_cons,List.nodup_cons]
   obtain ⟨h1,h2⟩:=List.nodup_cons.mp hn
   refine ⟨fun z => ?_,ih h2 fun b hb => hU b (List.mem_cons_of_mem _ hb)⟩
   obtain ⟨b,hb,e⟩:=List.mem_map.mp z
   have:=G.inj b a (hU b (List.mem_cons_of_mem _ hb)) (hU a (List.mem_cons_self ..)) e
   exact h1 (this ▸ hb)
 ·intro x hx
  obtain ⟨a,ha,rfl⟩:=List.mem_map.mp hx
  exact G.lt a (hU a ha)
noncomputable abbrev GEnt (α : Type):=α × Option (α × Bool)
structure GEx (G : Gr α) (es : List (GEnt α)) (k : Nat) : Prop where
 first : es[0]? = some (G.s0,none)
 nd : (es.map (·.1)).Nodup
 u : ∀ e ∈ es,G.U e.1
 par : ∀ (i : Nat) p q b,es[i]? = some (p,some (q,b)) -> ∃ (j : Nat) (v : Option (α × Bool)),j < i /\ es[j]? = some (q,v) /\ G.nx q b = p
 only : ∀ (i : Nat) p,es[i]? = some (p,none) -> p = G.s0
 done : ∀ (i : Nat) (e : GEnt α),i < k -> es[i]? = some e -> ∀ b,G.nx e.1 b ∈ es.map (·.1)
 le : k <= es.length
theorem GEx.start (G : Gr α) : GEx G [(G.s0,none)] 0 where
 first:=rfl
 nd:=by simp
 u:=fun e he => by rw [List.mem_singleton.mp he]; exact G.h0
 par:=fun i p q b e => by
  match i,e with
  | 0,e => cases e
  | i + 1,e => simp at e
 only:=fun i p e => by
  match i,e with
  | 0,e => cases e; rfl
  | i + 1,e => simp at e
 done:=fun i e h => by omega
 le:=Nat.zero_le _
variable {es : List (GEnt α)} {k : Nat}
theorem GEx.length (h : GEx G es k) : es.length <= G.B:=by
 have:=G.nodup_le (es.map (·.1)) h.nd fun a ha => by
  obtain ⟨e,he,rfl⟩:=List.mem_map.mp ha
  exact h.u e he
 rwa [List.length_map] at this
theorem GEx.pos (h : GEx G es k) : 0 < es.length:=(List.getElem?_eq_some_iff.mp h.first).1
theorem GEx.add (h : GEx G es k) {i : Nat} {p q : α} {b : Bool} {v : Option (α × Bool)} (hi : es[i]? = some (q,v)) (hp : G.nx q b = p) (hn : p ∉ es.map (·.1)) : GEx G (es ++ [(p,some (q,b))]) k where
 first:=by rw [List.getElem?_append_left h.pos]; exact h.first
 nd:=by
  rw [List.map_append,List.nodup_append]
  refine ⟨h.nd,by simp,fun x hx y hy => ?_⟩
  have : y = p:=by simpa using hy
  rw [this]
  exact fun z => hn (z ▸ hx)
 u:=fun e he => by
  rcases List.mem_append.mp he with he | he
  ·exact h.u e he
  ·rw [List.mem_singleton.mp he]
   show G.U p
   rw [<- hp]
   exact G.cl _ _ (h.u _ (List.mem_of_getElem? hi))
 par:=fun j p' q' b' e => by
  by_cases hj : j < es.length
  ·rw [List.getElem?_append_left hj] at e
   obtain ⟨j',v',h1,h2,h3⟩:=h.par j p' q' b' e
   exact ⟨j',v',h1,by rw [List.getElem?_append_left (by omega)]; exact h2,h3⟩
  ·rw [List.getElem?_append_right (by omega)] at e
   have h0 : j - es.length = 0:=by
    have:=(List.getElem?_eq_some_iff.mp e).1
    simp at this
    exact this
   rw [h0] at e
   simp at e
   obtain ⟨rfl,rfl,rfl⟩:=e
   have hil : i < es.length:=(List.getElem?_eq_some_iff.mp hi).1
   exact ⟨i,v,by omega,by rw [List.getElem?_append_left hil]; exact hi,hp⟩
 only:=fun j p' e => by
  by_cases hj : j < es.length
  ·rw [List.getElem?_append_left hj] at e
   exact h.only j p' e
  ·rw [List.getElem?_append_right (by omega)] at e
   have h0 : j - es.length = 0:=by
    have:=(List.getElem?_eq_some_iff.mp e).1
    simp at this
    exact this
   rw [h0] at e
   simp at e
 done:=fun j e hj he b' => by
  have hjl : j < es.length:=Nat.lt_of_lt_of_le hj h.le
  rw [List.getElem?_append_left hjl] at he
  rw [List.map_append]
  exact List.mem_append_left _ (h.done j e hj he b')
 le:=by rw [List.length_append]; exact Nat.le_trans h.le (Nat.le_add_right _ _)
theorem GEx.next (h : GEx G es k) {e : GEnt α} (he : es[k]? = some e) (hb : ∀ b,G.nx e.1 b ∈ es.map (·.1)) : GEx G es (k + 1) :=
 { h with
  done:=fun i e' hi he' b => by
   by_cases hk : i < k
   ·exact h.done i e' hk he' b
   ·have : i = k:=by omega
    subst this
    rw [he] at he'
    cases he'
    exact hb b
  le:=(List.getElem?_eq_some_iff.mp he).1 }
theorem GEx.reach (h : GEx G es k) {a : α} (hp : a ∈ es.map (·.1)) : G.Reach a:=by
 obtain ⟨e,he,rfl⟩:=List.mem_map.mp hp
 obtain ⟨i,hi⟩:=List.getElem?_of_mem he
 have : ∀ (n i : Nat) (e : GEnt α),i <= n -> es[i]? = some e -> G.Reach e.1:=by
  intro n
  induction n with
  | zero =>
   intro i e hi he
   obtain rfl : i = 0:=by omega
   rw [h.first] at he
   cases he
   exact Gr.Reach.zero G
  | succ n ih =>
   intro i e hi he
   obtain ⟨p,v⟩:=e
   cases v with
   | none =>
    have:=h.only i p he
    rw [this]
    exact Gr.Reach.zero G
   | some qb =>
    obtain ⟨q,b⟩:=qb
    obtain ⟨j,v',hj,hjq,hst⟩:=h.par i p q b he
    have:=ih j (q,v') (by omega) hjq
    show G.Reach p
    rw [<- hst]
    exact this.step b
 exact this i i e (Nat.le_refl _) hi
theorem GEx.all (h : GEx G es es.length) (a : α) : G.Reach a ↔ a ∈ es.map (·.1):=by
 refine ⟨?_,h.reach⟩
 refine Gr.Reach.closed (C:=fun p => p ∈ es.map (·.1)) ?_ ?_
 ·exact List.mem_map.mpr ⟨_,List.mem_of_getElem? h.first,rfl⟩
 ·intro p b hp
  obtain ⟨e,he,rfl⟩:=List.mem_map.mp hp
  obtain ⟨i,hi⟩:=List.getElem?_of_mem he
  exact h.done i e (List.getElem?_eq_some_iff.mp hi).1 hi b
end
noncomputable def grRooms (hs : List Rm) (w : Wf hs) : Gr Nat where
 nx:=stp hs
 s0:=0
 U:=fun p => p < hs.length
 num:=id
 B:=hs.length
 h0:=w.ne
 cl:=fun a b h => w.stp h b
 lt:=fun a h => h
 inj:=fun a b _ _ e => e
theorem pair_inj {n p q p' q' : Nat} (hq : q < n) (hq' : q' < n) (e : p * n + q = p' * n + q') : p = p' /\ q = q':=by
 have h1 : (p * n + q) / n = p:=by rw [Nat.mul_comm,Nat.mul_add_div (by omega),Nat.div_eq_of_lt hq]; rfl
 have h2 : (p' * n + q') / n = p':=by rw [Nat.mul_comm,Nat.mul_add_div (by omega),Nat.div_eq_of_lt hq']; rfl
 have : p = p':=by rw [<- h1,e,h2]
 subst this
 exact ⟨rfl,by omega⟩
noncomputable def grPairs (hs gs : List Rm) (w : Wf hs) (v : Wf gs) (s : Nat × Nat) (h1 : s.1 < hs.length) (h2 : s.2 < gs.length) : Gr (Nat × Nat) where
 nx:=fun p b => (stp hs p.1 b,stp gs p.2 b)
 s0:=s
 U:=fun p => p.1 < hs.length /\ p.2 < gs.length
 num:=fun p => p.1 * gs.length + p.2
 B:=hs.length * gs.length
 h0:=⟨h1,h2⟩
 cl:=fun a b h => ⟨w.stp h.1 b,v.stp h.2 b⟩
 lt:=fun a h => by
  have : (a.1 + 1) * gs.length <= hs.length * gs.length:=Nat.mul_le_mul_right _ h.1
  rw [Nat.add_mul] at this
  omega +splitDisjunctions
 inj:=fun a b ha hb e => by
  obtain ⟨e1,e2⟩:=pair_inj ha.2 hb.2 e
  exact Prod.ext e1 e2
theorem grPairs_led (hs gs : List Rm) (w : Wf hs) (v : Wf gs) (s : Nat × Nat) (h1 : s.1 < hs.length) (h2 : s.2 < gs.length) : ∀ (x : List Bool) (a : Nat × Nat),(grPairs hs gs w v s h1 h2).led a x = (led hs a.1 x,led gs a.2 x)
 | [],a => rfl
 | b :: x,a => grPairs_led hs gs w v s h1 h2 x _
end Hs
namespace Hs
noncomputable def cellB (cs : List Int) (k : Nat) : Int:=if cs = [] then (k : Int) else cs.getD (k % cs.length) 0 + k
noncomputable def blownR (bs : List Rm) (m : Nat) (cs : List Int) (k : Nat) : Rm :=
 ⟨(bs.getD (k % bs.length) default).l + bs.length * (cellB cs k % (m : Int)).toNat,(bs.getD (k % bs.length) default).r + bs.length * (cellB cs k / (m : Int) % (m : Int)).toNat,(bs.getD (k % bs.length) default).lit⟩
noncomputable def blown (bs : List Rm) (m : Nat) (cs : List Int) : List Rm:=(List.range (bs.length * m)).map (blownR bs m cs)
theorem blown_length (bs : List Rm) (m : Nat) (cs : List Int) : (blown bs m cs).length = bs.length * m:=by simp [blown]
theorem mod_toNat (x : Int) {m : Nat} (hm : 0 < m) : (x % (m : Int)).toNat < m /\ (((x % (m : Int)).toNat : Nat) : Int) = x % (m : Int):=by
 have h1:=Int.emod_nonneg x (show (m : Int) ≠ 0 by omega)
 have h2:=Int.emod_lt_of_pos x (show (0 : Int) < (m : Int) by omega)
 omega
theorem blown_lt {n x y m : Nat} (hx : x < n) (hy : y < m) : x + n * y < n * m:=by
 have : n * (y + 1) <= n * m:=Nat.mul_le_mul_left _ hy
 rw [Nat.mul_add] at this
 omega
theorem blown_wf {bs : List Rm} (w : Wf bs) {m : Nat} (hm : 0 < m) (cs : List Int) : Wf (blown bs m cs):=by
 refine ⟨by rw [blown_length]; exact Nat.mul_pos w.ne hm,fun r hr => ?_⟩
 rw [blown_length]
 obtain ⟨k,_,rfl⟩:=List.mem_map.mp hr
 have hk : k % bs.length < bs.length:=Nat.mod_lt _ w.ne
 have e : bs.getD (k % bs.length) default = bs[k % bs.length]:=by simp [List.getD,hk]
 have:=w.ex _ (List.getElem_mem hk)
 rw [<- e] at this
 exact ⟨blown_lt this.1 (mod_toNat _ hm).1,blown_lt this.2 (mod_toNat _ hm).1⟩
theorem blown_get (bs : List Rm) (m : Nat) (cs : List Int) {k : Nat} (hk : k < bs.length * m) : (blown bs m cs)[k]? = some (blownR bs m cs k):=by
 simp [blown,hk]
theorem blown_take (bs : List Rm) (m : Nat) (cs : List Int) {k : Nat} (hk : k < bs.length * m) : (blown bs m cs).take (k + 1) = (blown bs m cs).take k ++ [blownR bs m cs k]:=by
 rw [List.take_add_one,blown_get bs m cs hk]
 rfl
structure Dfs {α : Type} (G : Gr α) (seen td : List α) : Prop where
 nd : seen.Nodup
 u : ∀ a ∈ seen,G.U a
 r : ∀ a ∈ td,G.Reach a /\ G.U a
section
variable {α : Type} {G : Gr α} {seen td : List α}
theorem Dfs.start (G : Gr α) : Dfs G [G.s0] [G.s0]:=⟨by simp,fun a h => by rw [List.mem_singleton.mp h]; exact G.h0,fun a h => by rw [List.mem_singleton.mp h]; exact ⟨Gr.Reach.zero G,G.h0⟩⟩
theorem Dfs.len (h : Dfs G seen td) : seen.length <= G.B:=G.nodup_le seen h.nd h.u
theorem Dfs.pop {q : α} (h : Dfs G seen (td ++ [q])) : Dfs G seen td /\ G.Reach q /\ G.U q:=⟨⟨h.nd,h.u,fun a ha => h.r a (List.mem_append_left _ ha)⟩,h.r q (List.mem_append_right _ (List.mem_singleton.mpr rfl))⟩
theorem Dfs.push {q : α} {b : Bool} (h : Dfs G seen td) (hr : G.Reach q) (hu : G.U q) (hn : G.nx q b ∉ seen) : Dfs G (seen ++ [G.nx q b]) (td ++ [G.nx q b]) where
 nd:=by
  rw [List.nodup_append]
  refine ⟨h.nd,by simp,fun x hx y hy => ?_⟩
  rw [List.mem_singleton.mp hy]
  exact fun z => hn (z ▸ hx)
 u:=fun a ha => by
  rcases List.mem_append.mp ha with ha | ha
  ·exact h.u a ha
  ·rw [List.mem_singleton.mp ha]; exact G.cl _ _ hu
 r:=fun a ha => by
  rcases List.mem_append.mp ha with ha | ha
  ·exact h.r a ha
  ·rw [List.mem_singleton.mp ha]; exact ⟨hr.step b,G.cl _ _ hu⟩
end
end Hs
namespace Hs
noncomputable def turnF (c : Option Nat) (f : Nat) : Option Nat:=c.bind fun c => if f > c then none else if f = c then some (c + 1) else some c
noncomputable def turnL (l : List Nat) : Option Nat:=l.foldl turnF (some 1)
theorem turnL_snoc (l : List Nat) (f : Nat) : turnL (l ++ [f]) = turnF (turnL l) f:=by
 unfold turnL
 rw [List.foldl_append]
 rfl
noncomputable def exitsL (rs : List Rm) : List Nat:=rs.flatMap fun r => [r.l,r.r]
theorem exitsL_snoc (rs : List Rm) (r : Rm) : exitsL (rs ++ [r]) = exitsL rs ++ [r.l,r.r]:=by simp [exitsL]
structure Lay {α : Type} (G : Gr α) (lit : α -> Bool) (as : List α) (rs : List Rm) (idx : List Nat) : Prop where
 first : as[0]? = some G.s0
 nd : as.Nodup
 u : ∀ a ∈ as,G.U a
 rch : ∀ a ∈ as,G.Reach a
 room : ∀ (i : Nat) r,rs[i]? = some r -> ∃ a,as[i]? = some a /\ as[r.l]? = some (G.nx a false) /\ as[r.r]? = some (G.nx a true) /\ r.lit = lit a
 turn : turnL (exitsL rs ++ idx) = some as.length
section
variable {α : Type} {G : Gr α} {lit : α -> Bool} {as : List α} {rs : List Rm} {idx : List Nat}
theorem Lay.start (G : Gr α) (lit : α -> Bool) : Lay G lit [G.s0] [] [] where
 first:=rfl
 nd:=by simp
 u:=fun a h => by rw [List.mem_singleton.mp h]; exact G.h0
 rch:=fun a h => by rw [List.mem_singleton.mp h]; exact Gr.Reach.zero G
 room:=fun i r e => by simp at e
 turn:=rfl
theorem Lay.pos (h : Lay G lit as rs idx) : 0 < as.length:=(List.getElem?_eq_some_iff.mp h.first).1
theorem Lay.len (h : Lay G lit as rs idx) : as.length <= G.B:=G.nodup_le as h.nd h.u
theorem get_app {β : Type} {l m : List β} {i : Nat} {x : β} (h : l[i]? = some x) : (l ++ m)[i]? = some x:=by
 rw [List.getElem?_append_left (List.getElem?_eq_some_iff.mp h).1]
 exact h
theorem Lay.add (h : Lay G lit as rs idx) {a : α} (hr : G.Reach a) (hu : G.U a) (hn : a ∉ as) : Lay G lit (as ++ [a]) rs (idx ++ [as.length]) where
 first:=get_app h.first
 nd:=by
  rw [List.nodup_append]
  refine ⟨h.nd,by simp,fun x hx y hy => ?_⟩
  rw [List.mem_singleton.mp hy]
  exact fun z => hn (z ▸ hx)
 u:=fun b hb => by
  rcases List.mem_append.mp hb with hb | hb
  ·exact h.u b hb
  ·rw [List.mem_singleton.mp hb]; exact hu
 rch:=fun b hb => by
  rcases List.mem_append.mp hb with hb | hb
  ·exact h.rch b hb
  ·rw [List.mem_singleton.mp hb]; exact hr
 room:=fun i r e => by
  obtain ⟨b,e1,e2,e3,e4⟩:=h.room i r e
  exact ⟨b,get_app e1,get_app e2,get_app e3,e4⟩
 turn:=by
  rw [<- List.append_assoc,turnL_snoc,h.turn,List.length_append]
  show (if as.length > as.length then none else if as.length = as.length then some (as.length + 1) else some as.length) = _
  rw [if_neg (by omega),if_pos rfl]
  rfl
theorem Lay.old (h : Lay G lit as rs idx) {i : Nat} (hi : i < as.length) : Lay G lit as rs (idx ++ [i]) :=
 { h with
  turn:=by
   rw [<- List.append_assoc,turnL_snoc,h.turn]
   show (if i > as.length then none else if i = as.length then some (as.length + 1) else some as.length) = _
   rw [if_neg (by omega),if_neg (by omega)] }
theorem Lay.put {i j : Nat} (h : Lay G lit as rs [i,j]) {a : α} (ha : as[rs.length]? = some a) (h1 : as[i]? = some (G.nx a false)) (h2 : as[j]? = some (G.nx a true)) : Lay G lit as (rs ++ [⟨i,j,lit a⟩]) [] :=
 { h with
  room:=fun k r e => by
   by_cases hk : k < rs.length
   ·rw [List.getElem?_append_left hk] at e
    exact h.room k r e
   ·rw [List.getElem?_append_right (by omega)] at e
    have h0 : k - rs.length = 0:=by
     have:=(List.getElem?_eq_some_iff.mp e).1
     simp at this
     exact this
    rw [h0] at e
    simp at e
    subst e
    have : k = rs.length:=by omega
    rw [this]
    exact ⟨a,ha,h1,h2,rfl⟩
  turn:=by
   rw [exitsL_snoc,List.append_nil]
   exact h.turn }
structure Laid (G : Gr α) (lit : α -> Bool) (as : List α) (rs : List Rm) : Prop where
 lay : Lay G lit as rs []
 len : as.length = rs.length
theorem Laid.get (h : Laid G lit as rs) {i : Nat} {a : α} (hi : as[i]? = some a) : ∃ r,rs[i]? = some r /\ as[r.l]? = some (G.nx a false) /\ as[r.r]? = some (G.nx a true) /\ r.lit = lit a:=by
 have hl : i < rs.length:=by rw [<- h.len]; exact (List.getElem?_eq_some_iff.mp hi).1
 have hr : rs[i]? = some rs[i]:=by simp [hl]
 obtain ⟨b,e1,e2,e3,e4⟩:=h.lay.room i _ hr
 rw [hi] at e1
 cases e1
 exact ⟨_,hr,e2,e3,e4⟩
theorem Laid.wf (h : Laid G lit as rs) : Wf rs:=by
 refine ⟨by rw [<- h.len]; exact h.lay.pos,fun r hr => ?_⟩
 obtain ⟨i,hi⟩:=List.getElem?_of_mem hr
 obtain ⟨a,_,e2,e3,_⟩:=h.lay.room i r hi
 rw [<- h.len]
 exact ⟨(List.getElem?_eq_some_iff.mp e2).1,(List.getElem?_eq_some_iff.mp e3).1⟩
theorem Laid.stp (h : Laid G lit as rs) {i : Nat} {a : α} (hi : as[i]? = some a) (b : Bool) : as[stp rs i b]? = some (G.nx a b):=by
 obtain ⟨r,e1,e2,e3,_⟩:=h.get hi
 unfold Hs.stp
 rw [e1]
 cases b
 ·exact e2
 ·exact e3
theorem Laid.led (h : Laid G lit as rs) : ∀ (w : List Bool) {i : Nat} {a : α},as[i]? = some a -> as[led rs i w]? = some (G.led a w)
 | [],_,_,hi => hi
 | b :: w,i,a,hi => Laid.led h w (h.stp hi b)
theorem Laid.shine (h : Laid G lit as rs) {i : Nat} {a : α} (hi : as[i]? = some a) : litAt rs i = lit a:=by
 obtain ⟨r,e1,_,_,e4⟩:=h.get hi
 unfold litAt
 rw [e1]
 exact e4
theorem Laid.walk (h : Laid G lit as rs) (w : List Bool) : litAt rs (Hs.led rs 0 w) = lit (G.led G.s0 w):=h.shine (h.led w h.lay.first)
end
end Hs
namespace Hs
end Hs
namespace Hs
end Hs
namespace Hs
set_option genInjectivity false in
structure Fk where
 ls : List Nat
 rs : List Nat
 lit : Bool
noncomputable def Fk.side (f : Fk) (b : Bool) : List Nat:=if b then f.rs else f.ls
section
variable {h1 h2 : List Rm}
end
end Hs
namespace Hs
section
variable {hs : List Rm}
end
end Hs
set_option maxHeartbeats 4000000
namespace PySem
section
variable {prog : Program} {w : World} {K1 K2 : Type} [DecidableEq K1] [DecidableEq K2] (k1 : KeyKind prog w K1) (k2 : HeapKind prog w K2)
variable {k1 k2} {A : Around} {E : Value -> Shared -> Prop} {s : Shared}
end
end PySem
set_option maxHeartbeats 4000000
namespace L2
open PySem PySem.Spec PyProof.Rows
set_option genInjectivity false in
structure HK (K : Type) [DecidableEq K] where
 knd : ∀ (P : Program) (w : World),HeapKind P w K
 is : Hp -> K -> Addr -> Prop
 ok : ∀ {P : Program} {w : World} {H : Hp} {h : Heap} {k : K} {a : Addr},HOk P w H h -> is H k a -> (knd P w).is h k a
 same : ∀ {H H' : Hp} {k : K} {a : Addr},is H k a -> (∀ t xs,H t = some (.tup xs) -> H' t = some (.tup xs)) -> is H' k a
 dep : Nat
 room : ∀ (P : Program) (w : World) (A : Around),A.units + dep < cLine -> (knd P w).room A
section
variable {K : Type} [DecidableEq K]
section
variable {X : Cx} {o i value : Expr} {pos pos' : Pos} {td ty tv : TE} {κ : HK K}
end
end
end L2
set_option maxHeartbeats 4000000
namespace PySem
noncomputable def isBl (b : Bool) : Value -> Bool
 | .bool c => c == b
 | _ => false
theorem isBl_shape {b : Bool} {v : Value} (h : isBl b v = true) : v = .bool b:=by
 cases v with
 | bool c =>
  have : c = b:=by simpa [isBl] using h
  rw [this]
 | _ => cases h
theorem wpAny_pyHash_bool {prog : Program} {w : World} {A : Around} {E : Value -> Shared -> Prop} {s : Shared} {b : Bool} {Q : Int -> Shared -> Prop} (h : Q (if b then 1 else 0) { s with toks:=s.toks + 1 }) :
  wpAny (model prog w) A (pyHash (.bool b)) Q E s:=by
 refine W.pyHash_slot (T:="bool") rfl F.slot_bool_hash F.entry_int_hash (F.args_int_hash_1 _) (beq_builtin_none _) (.inl rfl) ?_
 cases b
 ·exact (show wpAny _ _ (do ret (<- mkInt 0)) _ _ s from wpAny_bind (wpAny_mkInt (wpAny_pure ⟨_,_,rfl,h⟩)))
 ·exact (show wpAny _ _ (do ret (<- mkInt 1)) _ _ s from wpAny_bind (wpAny_mkInt (wpAny_pure ⟨_,_,rfl,h⟩)))
noncomputable def boolKind (prog : Program) (w : World) : KeyKind prog w Bool where
 is:=isBl
 hash:=fun b => if b then 1 else 0
 inj:=fun v a b ha hb => by
  rw [isBl_shape ha] at hb
  have:=isBl_shape hb
  injection this
 byValue:=fun k v h => by rw [isBl_shape h]; rfl
 pyHash:=fun hv h => by rw [isBl_shape hv]; exact wpAny_pyHash_bool h
 eqBool:=fun {A E s a b u v Q} hu hv h => by
  rw [isBl_shape hu,isBl_shape hv]
  refine SeqAt.EqAt.bool_bool a b _ _ _ _ ?_
  have e : decide (a = b) = (a == b):=by cases a <;> cases b <;> rfl
  rw [<- e]
  exact h
 «strs»:=fun k x t v h => by cases h
end PySem
namespace L2
open PySem PySem.Spec PyProof.Rows
end L2
set_option maxHeartbeats 4000000
namespace PySem
open Sem (wp)
namespace F
end F
section
variable {prog : Program} {w : World} {A : Around} {E : Value -> Shared -> Prop} {s : Shared}
end
end PySem
set_option maxHeartbeats 4000000
namespace PySem
open Sem (wp)
section
variable {prog : Program} {w : World} {A : Around} {E : Value -> Shared -> Prop} {s : Shared}
variable {R : Result -> Shared -> Prop}
end
end PySem
namespace L2
open PySem PySem.Spec PyProof.Rows
end L2
set_option maxHeartbeats 1000000
namespace PySem
end PySem
set_option maxHeartbeats 4000000
namespace PySem
open Sem (wp)
section
variable {prog : Program} {w : World} {A : Around} {E : Value -> Shared -> Prop} {s : Shared} {es : Array (Int × Value)} {t : SetTable} {ks : List Int} {a : Addr}
end
end PySem
set_option maxHeartbeats 4000000
namespace PySem
open Sem (wp)
section
variable {prog : Program} {w : World} {A : Around} {R : Result -> Shared -> Prop} {I S : Addr} {fp wr : List Addr} {G : Array GenState -> Array GenState -> Prop} {n : Nat} {P : Nat -> Value -> Prop} {St : Nat -> Shared -> Prop}
end
section
variable {prog : Program} {w : World} {A : Around} {E : Value -> Shared -> Prop} {s : Shared}
end
end PySem
set_option maxHeartbeats 4000000
namespace PySem
open Sem (wp)
section
variable {M : Model} {A : Around} {E : Value -> Shared -> Prop} {s : Shared}
end
namespace F
end F
inductive SiMode
 | slots
 | text
 | drawn (T : Addr) (pl : List Nat)
noncomputable def SiMode.first (m : SiMode) (t : SetTable) (i : Nat) : Value:=match m with
 | .slots => rawInt ((match i with | 0 => 0 | k + 1 => t.place.getD k 0 + 1 : Nat) : Int)
 | .text => rawInt ((0 : Nat) : Int)
 | .drawn T _ => .ref T
end PySem
set_option maxHeartbeats 4000000
namespace PySem
open Sem (wp)
section
variable {prog : Program} {w : World} {A : Around} {E : Value -> Shared -> Prop} {s : Shared} {I a : Addr} {i n ep : Nat} {first : Value}
noncomputable def SiMode.row (w : World) (a : Addr) (ep : Nat) (es : Array (Int × Value)) : SiMode -> List (Int × Value)
 | .slots => es.toList
 | .text => (pickOrder (w.params.setOrder a ep) es).toList
 | .drawn _ pl => pl.filterMap fun k => es[k]?
end
end PySem
set_option maxHeartbeats 4000000
namespace PySem
open Sem (wp)
section
variable {prog : Program} {w : World} {A : Around} {E : Value -> Shared -> Prop} {s : Shared} {a : Addr} {ks : List Int}
end
end PySem
namespace PySem
section
variable {prog : Program} {w : World} {A : Around} {E : Value -> Shared -> Prop} {s : Shared} {a : Addr} {ks : List Int}
end
end PySem
set_option maxHeartbeats 4000000
namespace L2
open PySem PySem.Spec PyProof.Rows
end L2
set_option maxHeartbeats 4000000
namespace L2
open PySem PySem.Spec PyProof.Rows
end L2
set_option maxHeartbeats 4000000
namespace PySem
end PySem
namespace L2
open PySem PySem.Spec PyProof.Rows
end L2
set_option maxHeartbeats 4000000
namespace PySem
open Sem (wp)
section
variable {prog : Program} {w : World} {A : Around} {E : Value -> Shared -> Prop} {s : Shared}
end
end PySem
namespace L2
open PySem PySem.Spec PyProof.Rows
end L2
namespace Hs
noncomputable def Eqv (hs : List Rm) (r s : Nat) : Prop:=∀ w,litAt hs (led hs r w) = litAt hs (led hs s w)
theorem Eqv.stp {hs : List Rm} {r s : Nat} (h : Eqv hs r s) (b : Bool) : Eqv hs (stp hs r b) (stp hs s b):=fun w => h (b :: w)
theorem Eqv.lit {hs : List Rm} {r s : Nat} (h : Eqv hs r s) : litAt hs r = litAt hs s:=h []
theorem Eqv.symm {hs : List Rm} {r s : Nat} (h : Eqv hs r s) : Eqv hs s r:=fun w => (h w).symm
noncomputable def gv (l : List Nat) (r : Nat) : Nat:=l.getD r 0
theorem gv_set {l : List Nat} {i k r : Nat} (hr : r < l.length) : gv (l.set i k) r = if r = i then k else gv l r:=by
 unfold gv
 rw [List.getD_eq_getElem?_getD,List.getElem?_set,List.getD_eq_getElem?_getD]
 by_cases h : i = r
 ·subst h
  rw [if_pos rfl,if_pos hr,if_pos rfl]
  rfl
 ·rw [if_neg h,if_neg (Ne.symm h)]
theorem gv_get {l : List Nat} {r : Nat} (hr : r < l.length) : l[r]? = some (gv l r):=by
 unfold gv
 rw [List.getD_eq_getElem?_getD]
 simp [hr]
noncomputable def asg (l : List Nat) (R : List Nat) (k : Nat) : List Nat:=R.foldl (fun l r => l.set r k) l
theorem asg_snoc (l R : List Nat) (r k : Nat) : asg l (R ++ [r]) k = (asg l R k).set r k:=by
 unfold asg
 rw [List.foldl_append]
 rfl
theorem asg_len : ∀ (R l : List Nat) (k : Nat),(asg l R k).length = l.length
 | [],l,k => rfl
 | r :: R,l,k => by
  show (asg (l.set r k) R k).length = _
  rw [asg_len R,List.length_set]
theorem asg_at : ∀ (R l : List Nat) (k : Nat) {r : Nat},r < l.length -> gv (asg l R k) r = if r ∈ R then k else gv l r
 | [],l,k,r,hr => by simp [asg]
 | s :: R,l,k,r,hr => by
  show gv (asg (l.set s k) R k) r = _
  rw [asg_at R _ k (by rw [List.length_set]; exact hr),gv_set hr]
  by_cases h1 : r ∈ R
  ·rw [if_pos h1,if_pos (List.mem_cons_of_mem _ h1)]
  ·rw [if_neg h1]
   by_cases h2 : r = s
   ·rw [if_pos h2,if_pos (by rw [h2]; exact List.mem_cons_self ..)]
   ·rw [if_neg h2,if_neg (fun z => (List.mem_cons.mp z).elim h2 h1)]
noncomputable def addP : List Nat -> Nat -> List (List Nat) -> List Nat
 | l,_,[] => l
 | l,k,P :: Ps => addP (asg l P k) (k + 1) Ps
theorem addP_snoc : ∀ (Ps : List (List Nat)) (l : List Nat) (k : Nat) (P : List Nat),addP l k (Ps ++ [P]) = asg (addP l k Ps) P (k + Ps.length)
 | [],l,k,P => rfl
 | Q :: Ps,l,k,P => by
  show addP (asg l Q k) (k + 1) (Ps ++ [P]) = asg (addP (asg l Q k) (k + 1) Ps) P (k + (Ps.length + 1))
  rw [addP_snoc Ps,Nat.add_assoc,Nat.add_comm 1]
theorem addP_len : ∀ (Ps : List (List Nat)) (l : List Nat) (k : Nat),(addP l k Ps).length = l.length
 | [],l,k => rfl
 | P :: Ps,l,k => by
  show (addP (asg l P k) (k + 1) Ps).length = _
  rw [addP_len Ps,asg_len]
theorem addP_out : ∀ (Ps : List (List Nat)) (l : List Nat) (k : Nat) {r : Nat},r < l.length -> (∀ P ∈ Ps,r ∉ P) -> gv (addP l k Ps) r = gv l r
 | [],l,k,r,_,_ => rfl
 | P :: Ps,l,k,r,hr,h => by
  show gv (addP (asg l P k) (k + 1) Ps) r = _
  rw [addP_out Ps _ _ (by rw [asg_len]; exact hr) fun Q hQ => h Q (List.mem_cons_of_mem _ hQ),asg_at P l k hr,if_neg (h P (List.mem_cons_self ..))]
theorem addP_in : ∀ (Ps : List (List Nat)) (l : List Nat) (k : Nat) {r j : Nat} {P : List Nat},r < l.length -> Ps.Pairwise (fun P Q => ∀ x ∈ P,x ∉ Q) -> Ps[j]? = some P -> r ∈ P -> gv (addP l k Ps) r = k + j
 | [],l,k,r,j,P,_,_,e,_ => by simp at e
 | Q :: Ps,l,k,r,0,P,hr,hp,e,hm => by
  cases e
  obtain ⟨h1,h2⟩:=List.pairwise_cons.mp hp
  show gv (addP (asg l Q k) (k + 1) Ps) r = _
  rw [addP_out Ps _ _ (by rw [asg_len]; exact hr) fun R hR => h1 R hR r hm,asg_at Q l k hr,if_pos hm]
  rfl
 | Q :: Ps,l,k,r,j + 1,P,hr,hp,e,hm => by
  obtain ⟨h1,h2⟩:=List.pairwise_cons.mp hp
  show gv (addP (asg l Q k) (k + 1) Ps) r = _
  rw [addP_in Ps (asg l Q k) (k + 1) (by rw [asg_len]; exact hr) h2 (by simpa using e) hm]
  omega
theorem all_in_len : ∀ (k : Nat) (l : List Nat),(∀ g,g < k -> g ∈ l) -> k <= l.length
 | 0,l,_ => Nat.zero_le _
 | k + 1,l,h => by
  have hk:=h k (Nat.lt_succ_self k)
  have:=all_in_len k (l.erase k) fun g hg => (List.mem_erase_of_ne (Nat.ne_of_lt hg)).mpr (h g (Nat.lt_succ_of_lt hg))
  rw [List.length_erase_of_mem hk] at this
  have hl : 0 < l.length:=List.length_pos_of_mem hk
  omega
structure GI (n : Nat) (gof : List Nat) (ms : List (List Nat)) : Prop where
 len : gof.length = n
 lt : ∀ r,r < n -> gv gof r < ms.length
 mem : ∀ (g : Nat) R,ms[g]? = some R -> ∀ r,r ∈ R ↔ r < n /\ gv gof r = g
 ne : ∀ R ∈ ms,R ≠ []
 nd : ∀ R ∈ ms,R.Nodup
theorem GI.few {n : Nat} {gof : List Nat} {ms : List (List Nat)} (h : GI n gof ms) : ms.length <= n:=by
 rw [<- h.len]
 refine all_in_len _ _ fun g hg => ?_
 have e : ms[g]? = some ms[g]:=by simp [hg]
 cases hR : ms[g] with
 | nil => exact absurd hR (h.ne _ (List.getElem_mem hg))
 | cons r R =>
  have h1:=(h.mem g _ e r).mp (by rw [hR]; exact List.mem_cons_self ..)
  have h2:=gv_get (l:=gof) (r:=r) (by rw [h.len]; exact h1.1)
  rw [h1.2] at h2
  exact List.mem_of_getElem? h2
structure Split {μ : Type} (R : List Nat) (mk : Nat -> μ) (Ps : List (List Nat)) : Prop where
 sub : ∀ P ∈ Ps,∀ r ∈ P,r ∈ R
 nd : ∀ P ∈ Ps,P.Nodup
 cov : ∀ r ∈ R,∃ P ∈ Ps,r ∈ P
 same : ∀ P ∈ Ps,∀ r ∈ P,∀ s ∈ P,mk r = mk s
 diff : Ps.Pairwise fun P Q => ∀ r ∈ P,∀ s ∈ Q,mk r ≠ mk s
section
variable {μ : Type} {R : List Nat} {mk : Nat -> μ} {Ps Qs : List (List Nat)}
theorem Split.perm (h : Split R mk Ps) (p : Qs.Perm Ps) : Split R mk Qs where
 sub:=fun P hP => h.sub P (p.mem_iff.mp hP)
 nd:=fun P hP => h.nd P (p.mem_iff.mp hP)
 cov:=fun r hr => let ⟨P,hP,e⟩:=h.cov r hr; ⟨P,p.mem_iff.mpr hP,e⟩
 same:=fun P hP => h.same P (p.mem_iff.mp hP)
 diff:=(List.Perm.pairwise_iff (fun {P Q} (z : ∀ r ∈ P,∀ s ∈ Q,mk r ≠ mk s) r hr s hs => (z s hs r hr).symm) p).mpr h.diff
theorem Split.full (h : Split R mk (P0 :: Qs)) : Split R mk (P0 :: Qs.filter fun P => decide (0 < P.length)) where
 sub:=fun P hP => h.sub P ((List.mem_cons.mp hP).elim (fun e => e ▸ List.mem_cons_self ..) fun z => List.mem_cons_of_mem _ (List.mem_filter.mp z).1)
 nd:=fun P hP => h.nd P ((List.mem_cons.mp hP).elim (fun e => e ▸ List.mem_cons_self ..) fun z => List.mem_cons_of_mem _ (List.mem_filter.mp z).1)
 cov:=fun r hr => by
  obtain ⟨P,hP,e⟩:=h.cov r hr
  rcases List.mem_cons.mp hP with z | z
  ·exact ⟨P,by rw [z]; exact List.mem_cons_self ..,e⟩
  ·exact ⟨P,List.mem_cons_of_mem _ (List.mem_filter.mpr ⟨z,decide_eq_true (List.length_pos_of_mem e)⟩),e⟩
 same:=fun P hP => h.same P ((List.mem_cons.mp hP).elim (fun e => e ▸ List.mem_cons_self ..) fun z => List.mem_cons_of_mem _ (List.mem_filter.mp z).1)
 diff:=by
  obtain ⟨h1,h2⟩:=List.pairwise_cons.mp h.diff
  exact List.pairwise_cons.mpr ⟨fun Q hQ => h1 Q (List.mem_filter.mp hQ).1,h2.sublist List.filter_sublist⟩
theorem Split.ix (h : Split R mk Ps) {i j : Nat} {P Q : List Nat} (e1 : Ps[i]? = some P) (e2 : Ps[j]? = some Q) {r s : Nat} (hr : r ∈ P) (hs : s ∈ Q) : i = j ↔ mk r = mk s:=by
 constructor
 ·intro e
  subst e
  rw [e1] at e2
  cases e2
  exact h.same P (List.mem_of_getElem? e1) r hr s hs
 ·intro e
  obtain ⟨l1,f1⟩:=List.getElem?_eq_some_iff.mp e1
  obtain ⟨l2,f2⟩:=List.getElem?_eq_some_iff.mp e2
  have pw:=List.pairwise_iff_getElem.mp h.diff
  rcases Nat.lt_trichotomy i j with z | z | z
  ·exact absurd e (pw i j l1 l2 z r (by rw [f1]; exact hr) s (by rw [f2]; exact hs))
  ·exact z
  ·exact absurd e.symm (pw j i l2 l1 z s (by rw [f2]; exact hs) r (by rw [f1]; exact hr))
end
structure Step {μ : Type} (hs : List Rm) (g k : Nat) (mk : Nat -> μ) (gof gof' : List Nat) : Prop where
 eq : ∀ r s,r < hs.length -> s < hs.length -> (gv gof' r = gv gof' s ↔ gv gof r = gv gof s /\ (gv gof r = g -> mk r = mk s))
 new : ∀ r,r < hs.length -> gv gof' r ≠ gv gof r -> gv gof r = g /\ k <= gv gof' r
theorem part_ok {μ : Type} {hs : List Rm} {g : Nat} {mk : Nat -> μ} {gof : List Nat} {ms : List (List Nat)} {R P0 : List Nat} {Ps : List (List Nat)} (h : GI hs.length gof ms) (hR : ms[g]? = some R) (sp : Split R mk (P0 :: Ps)) (h0 : P0 ≠ []) (hne : ∀ P ∈ Ps,P ≠ []) :
  GI hs.length (addP gof ms.length Ps) (ms.set g P0 ++ Ps) /\ Step hs g ms.length mk gof (addP gof ms.length Ps):=by
 have hg : g < ms.length:=(List.getElem?_eq_some_iff.mp hR).1
 have dis : Ps.Pairwise fun P Q => ∀ x ∈ P,x ∉ Q:=(List.pairwise_cons.mp sp.diff).2.imp fun z x hx hy => z x hx x hy rfl
 have ch : ∀ r,r < hs.length -> (r ∉ R /\ gv gof r ≠ g /\ gv (addP gof ms.length Ps) r = gv gof r) ∨ (r ∈ R /\ gv gof r = g /\ ∃ i P,(P0 :: Ps)[i]? = some P /\ r ∈ P /\ gv (addP gof ms.length Ps) r = if i = 0 then g else ms.length + (i - 1)):=fun r hr => by
  have hl : r < gof.length:=by rw [h.len]; exact hr
  by_cases hm : r ∈ R
  ·refine .inr ⟨hm,((h.mem g R hR r).mp hm).2,?_⟩
   obtain ⟨P,hP,hrP⟩:=sp.cov r hm
   obtain ⟨i,hi⟩:=List.getElem?_of_mem hP
   refine ⟨i,P,hi,hrP,?_⟩
   match i,hi with
   | 0,hi =>
    cases hi
    rw [if_pos rfl,addP_out Ps gof _ hl fun Q hQ z => (List.pairwise_cons.mp sp.diff).1 Q hQ r hrP r z rfl]
    exact ((h.mem g R hR r).mp hm).2
   | i + 1,hi =>
    rw [if_neg (by omega),addP_in Ps gof _ hl dis (by simpa using hi) hrP]
    rfl
  ·refine .inl ⟨hm,fun z => hm ((h.mem g R hR r).mpr ⟨hr,z⟩),addP_out Ps gof _ hl fun Q hQ z => hm (sp.sub Q (List.mem_cons_of_mem _ hQ) r z)⟩
 have cg : ∀ r,r < hs.length -> gv gof r < ms.length:=h.lt
 constructor
 ·refine ⟨by rw [addP_len,h.len],fun r hr => ?_,fun g' R' e r => ?_,fun R' hR' => ?_,fun R' hR' => ?_⟩
  ·rw [List.length_append,List.length_set]
   rcases ch r hr with ⟨_,_,e⟩ | ⟨_,_,i,P,e1,_,e⟩
   ·rw [e]; exact Nat.lt_of_lt_of_le (cg r hr) (Nat.le_add_right ..)
   ·have:=(List.getElem?_eq_some_iff.mp e1).1
    rw [List.length_cons] at this
    rw [e]
    split <;> omega
  ·by_cases hlt : g' < ms.length
   ·rw [List.getElem?_append_left (by rw [List.length_set]; exact hlt),List.getElem?_set] at e
    by_cases hgg : g = g'
    ·subst hgg
     rw [if_pos rfl,if_pos hg] at e
     cases e
     constructor
     ·intro hr
      have hm:=sp.sub P0 (List.mem_cons_self ..) r hr
      have hrl:=((h.mem g R hR r).mp hm).1
      refine ⟨hrl,?_⟩
      rcases ch r hrl with ⟨n,_⟩ | ⟨_,_,i,P,e1,e2,e3⟩
      ·exact absurd hm n
      ·have : i = 0:=(sp.ix e1 (show (P0 :: Ps)[0]? = some P0 from rfl) e2 hr).mpr rfl
       rw [e3,if_pos this]
     ·rintro ⟨hrl,e⟩
      rcases ch r hrl with ⟨_,n,e'⟩ | ⟨_,_,i,P,e1,e2,e3⟩
      ·rw [e'] at e; exact absurd e n
      ·rw [e3] at e
       by_cases hi : i = 0
       ·subst hi; cases e1; exact e2
       ·rw [if_neg hi] at e; omega
    ·rw [if_neg hgg] at e
     rw [h.mem g' R' e r]
     constructor
     ·rintro ⟨hrl,e4⟩
      refine ⟨hrl,?_⟩
      rcases ch r hrl with ⟨_,_,e'⟩ | ⟨_,e',_⟩
      ·rw [e',e4]
      ·exact absurd (e'.symm.trans e4) hgg
     ·rintro ⟨hrl,e4⟩
      refine ⟨hrl,?_⟩
      rcases ch r hrl with ⟨_,_,e'⟩ | ⟨_,_,i,P,e1,e2,e3⟩
      ·rw [<- e',e4]
      ·rw [e3] at e4
       by_cases hi : i = 0
       ·rw [if_pos hi] at e4; exact absurd e4 hgg
       ·rw [if_neg hi] at e4; omega
   ·rw [List.getElem?_append_right (by rw [List.length_set]; omega),List.length_set] at e
    have hP:=List.mem_of_getElem? e
    constructor
    ·intro hr
     have hm:=sp.sub R' (List.mem_cons_of_mem _ hP) r hr
     have hrl:=((h.mem g R hR r).mp hm).1
     refine ⟨hrl,?_⟩
     rw [addP_in Ps gof _ (by rw [h.len]; exact hrl) dis e hr]
     omega
    ·rintro ⟨hrl,e4⟩
     rcases ch r hrl with ⟨_,_,e'⟩ | ⟨_,_,i,P,e1,e2,e3⟩
     ·have:=cg r hrl
      rw [e'] at e4
      omega
     ·rw [e3] at e4
      by_cases hi : i = 0
      ·rw [if_pos hi] at e4; omega
      ·rw [if_neg hi] at e4
       match i,hi,e1 with
       | i + 1,_,e1 =>
        have : i = g' - ms.length:=by omega
        rw [this] at e1
        have e1' : Ps[g' - ms.length]? = some P:=by simpa using e1
        rw [e] at e1'
        cases e1'
        exact e2
  ·rcases List.mem_append.mp hR' with z | z
   ·rcases List.mem_or_eq_of_mem_set z with z | z
    ·exact h.ne R' z
    ·rw [z]; exact h0
   ·exact hne R' z
  ·rcases List.mem_append.mp hR' with z | z
   ·rcases List.mem_or_eq_of_mem_set z with z | z
    ·exact h.nd R' z
    ·rw [z]; exact sp.nd P0 (List.mem_cons_self ..)
   ·exact sp.nd R' (List.mem_cons_of_mem _ z)
 ·refine ⟨fun r s hr hs' => ?_,fun r hr hn => ?_⟩
  ·rcases ch r hr with ⟨_,n1,e1⟩ | ⟨_,g1,i,P,f1,p1,e1⟩ <;> rcases ch s hs' with ⟨_,n2,e2⟩ | ⟨_,g2,j,Q,f2,p2,e2⟩
   ·rw [e1,e2]
    exact ⟨fun z => ⟨z,fun y => absurd y n1⟩,fun z => z.1⟩
   ·have:=cg r hr
    refine ⟨fun z => ?_,fun z => absurd (z.1.trans g2) n1⟩
    rw [e1,e2] at z
    by_cases hj : j = 0
    ·rw [if_pos hj] at z; exact absurd z n1
    ·rw [if_neg hj] at z; omega
   ·have:=cg s hs'
    refine ⟨fun z => ?_,fun z => absurd (z.1.symm.trans g1) n2⟩
    rw [e1,e2] at z
    by_cases hi : i = 0
    ·rw [if_pos hi] at z; exact absurd z.symm n2
    ·rw [if_neg hi] at z; omega
   ·rw [e1,e2]
    have hix:=sp.ix f1 f2 p1 p2
    constructor
    ·intro z
     refine ⟨g1.trans g2.symm,fun _ => hix.mp ?_⟩
     by_cases hi : i = 0 <;> by_cases hj : j = 0
     ·omega
     ·rw [if_pos hi,if_neg hj] at z; omega
     ·rw [if_neg hi,if_pos hj] at z; omega
     ·rw [if_neg hi,if_neg hj] at z; omega
    ·intro z
     rw [hix.mpr (z.2 g1)]
  ·rcases ch r hr with ⟨_,n1,e1⟩ | ⟨_,g1,i,P,f1,p1,e1⟩
   ·exact absurd e1 hn
   ·refine ⟨g1,?_⟩
    rw [e1] at hn ⊢
    by_cases hi : i = 0
    ·rw [if_pos hi] at hn; exact absurd g1.symm hn
    ·rw [if_neg hi]; omega
structure GL (hs : List Rm) (gof : List Nat) (wt pd : Nat -> Prop) : Prop where
 sep : ∀ r s,r < hs.length -> s < hs.length -> Eqv hs r s -> gv gof r = gv gof s
 lit : ∀ r s,r < hs.length -> s < hs.length -> gv gof r = gv gof s -> litAt hs r = litAt hs s
 clo : ∀ r s,r < hs.length -> s < hs.length -> Eqv hs r s -> wt r -> wt s
 sta : ∀ r s,r < hs.length -> s < hs.length -> gv gof r = gv gof s -> ¬ wt r -> ¬ pd r -> ¬ wt s -> ¬ pd s -> ∀ b,gv gof (stp hs r b) = gv gof (stp hs s b)
noncomputable def Led (hs : List Rm) (gof gof' : List Nat) (x : Nat) : Prop:=x < hs.length /\ ∃ b,gv gof' (stp hs x b) ≠ gv gof (stp hs x b)
theorem GL.step {hs : List Rm} {gof gof' : List Nat} {wt wt' pd : Nat -> Prop} {g k : Nat} {T : List Nat} (wf : Wf hs) (h : GL hs gof wt fun r => r ∈ T ∨ pd r) (hT : ∀ r ∈ T,r < hs.length /\ gv gof r = g) (hc : ∀ r s,r < hs.length -> s < hs.length -> Eqv hs r s -> r ∈ T -> s ∈ T)
  (st : Step hs g k (fun r => if r ∈ T then some (gv gof (stp hs r false),gv gof (stp hs r true)) else none) gof gof') (hw : ∀ x,x < hs.length -> (wt' x ↔ wt x ∨ Led hs gof gof' x)) : GL hs gof' wt' pd:=by
 have sep' : ∀ r s,r < hs.length -> s < hs.length -> Eqv hs r s -> gv gof' r = gv gof' s:=fun r s hr hs' e => by
  refine (st.eq r s hr hs').mpr ⟨h.sep r s hr hs' e,fun _ => ?_⟩
  by_cases hrT : r ∈ T
  ·rw [if_pos hrT,if_pos (hc r s hr hs' e hrT),h.sep _ _ (wf.stp hr false) (wf.stp hs' false) (e.stp false),h.sep _ _ (wf.stp hr true) (wf.stp hs' true) (e.stp true)]
  ·rw [if_neg hrT,if_neg fun z => hrT (hc s r hs' hr e.symm z)]
 refine ⟨sep',fun r s hr hs' e => h.lit r s hr hs' ((st.eq r s hr hs').mp e).1,fun r s hr hs' e hwr => ?_,fun r s hr hs' e n1 n2 n3 n4 b => ?_⟩
 ·rcases (hw r hr).mp hwr with z | ⟨_,b,z⟩
  ·exact (hw s hs').mpr (.inl (h.clo r s hr hs' e z))
  ·refine (hw s hs').mpr (.inr ⟨hs',b,?_⟩)
   rw [<- sep' _ _ (wf.stp hr b) (wf.stp hs' b) (e.stp b),<- h.sep _ _ (wf.stp hr b) (wf.stp hs' b) (e.stp b)]
   exact z
 ·obtain ⟨e1,e2⟩:=(st.eq r s hr hs').mp e
  have k1 : gv gof' (stp hs r b) = gv gof (stp hs r b):=Classical.byContradiction fun z => n1 ((hw r hr).mpr (.inr ⟨hr,b,z⟩))
  have k2 : gv gof' (stp hs s b) = gv gof (stp hs s b):=Classical.byContradiction fun z => n3 ((hw s hs').mpr (.inr ⟨hs',b,z⟩))
  rw [k1,k2]
  have w1 : ¬ wt r:=fun z => n1 ((hw r hr).mpr (.inl z))
  have w2 : ¬ wt s:=fun z => n3 ((hw s hs').mpr (.inl z))
  by_cases hrT : r ∈ T
  ·have hg:=(hT r hrT).2
   have em:=e2 hg
   rw [if_pos hrT] at em
   by_cases hsT : s ∈ T
   ·rw [if_pos hsT] at em
    have em:=Option.some.inj em
    cases b
    ·exact congrArg Prod.fst em
    ·exact congrArg Prod.snd em
   ·rw [if_neg hsT] at em; cases em
  ·by_cases hsT : s ∈ T
   ·have hg:=(hT s hsT).2
    have em:=e2 (e1.trans hg)
    rw [if_neg hrT,if_pos hsT] at em; cases em
   ·exact h.sta r s hr hs' e1 w1 (fun z => z.elim hrT n2) w2 (fun z => z.elim hsT n4) b
theorem GL.start {hs : List Rm} {gof gof' : List Nat} {wt' : Nat -> Prop} {g k : Nat} (h0 : ∀ r,r < hs.length -> gv gof r = g) (st : Step hs g k (fun r => some (litAt hs r)) gof gof') (hw : ∀ x,x < hs.length -> wt' x) : GL hs gof' wt' fun _ => False:=by
 refine ⟨fun r s hr hs' e => (st.eq r s hr hs').mpr ⟨by rw [h0 r hr,h0 s hs'],fun _ => by rw [e.lit]⟩,fun r s hr hs' e => ?_,fun r s _ hs' _ _ => hw s hs',fun r s hr _ _ n => absurd (hw r hr) n⟩
 have:=((st.eq r s hr hs').mp e).2 (h0 r hr)
 exact Option.some.inj this
theorem GL.end {hs : List Rm} {gof : List Nat} (wf : Wf hs) (h : GL hs gof (fun _ => False) fun _ => False) : ∀ r s,r < hs.length -> s < hs.length -> (gv gof r = gv gof s ↔ Eqv hs r s):=by
 intro r s hr hs'
 refine ⟨fun e w => ?_,h.sep r s hr hs'⟩
 induction w generalizing r s with
 | nil => exact h.lit r s hr hs' e
 | cons b w ih => exact ih _ _ (wf.stp hr b) (wf.stp hs' b) (h.sta r s hr hs' e id id id id b)
end Hs
namespace Hs
structure IsLeast (hs rs : List Rm) : Prop where
 wf : Wf rs
 walk : ∀ w,litAt rs (led rs 0 w) = litAt hs (led hs 0 w)
 turn : turnL (exitsL rs) = some rs.length
 rch : ∀ i,i < rs.length -> ∃ w,led rs 0 w = i
 apart : ∀ i j,i < rs.length -> j < rs.length -> Eqv rs i j -> i = j
 few : rs.length <= hs.length
noncomputable def minN : List Nat -> Nat
 | [] => 0
 | a :: l => l.foldl min a
theorem minN_spec : ∀ {l : List Nat},l ≠ [] -> minN l ∈ l /\ ∀ x ∈ l,minN l <= x
 | [],h => absurd rfl h
 | a :: l,_ => by
  show l.foldl min a ∈ a :: l /\ ∀ x ∈ a :: l,l.foldl min a <= x
  induction l generalizing a with
  | nil => exact ⟨List.mem_cons_self ..,fun x hx => by rw [List.mem_singleton.mp hx]; exact Nat.le_refl _⟩
  | cons b l ih =>
   obtain ⟨h1,h2⟩:=ih (min a b) (by simp)
   show l.foldl min (min a b) ∈ _ /\ ∀ x ∈ _,l.foldl min (min a b) <= x
   have h3:=h2 (min a b) (List.mem_cons_self ..)
   refine ⟨?_,fun x hx => ?_⟩
   ·rcases List.mem_cons.mp h1 with e | e
    ·rw [e]
     by_cases hab : a <= b
     ·rw [Nat.min_eq_left hab]; exact List.mem_cons_self ..
     ·rw [Nat.min_eq_right (by omega)]; exact List.mem_cons_of_mem _ (List.mem_cons_self ..)
    ·exact List.mem_cons_of_mem _ (List.mem_cons_of_mem _ e)
   ·rcases List.mem_cons.mp hx with e | hx
    ·rw [e]; exact Nat.le_trans h3 (Nat.min_le_left _ _)
    ·rcases List.mem_cons.mp hx with e | hx
     ·rw [e]; exact Nat.le_trans h3 (Nat.min_le_right _ _)
     ·exact h2 x (List.mem_cons_of_mem _ hx)
theorem minN_uniq {l : List Nat} {m : Nat} (h1 : m ∈ l) (h2 : ∀ x ∈ l,m <= x) : m = minN l:=by
 obtain ⟨h3,h4⟩:=minN_spec (List.ne_nil_of_mem h1)
 exact Nat.le_antisymm (h2 _ h3) (h4 _ h1)
structure Grouped (hs : List Rm) (gof : List Nat) (ms : List (List Nat)) : Prop where
 wf : Wf hs
 gi : GI hs.length gof ms
 eqv : ∀ r s,r < hs.length -> s < hs.length -> (gv gof r = gv gof s ↔ Eqv hs r s)
noncomputable def repG (ms : List (List Nat)) (g : Nat) : Nat:=minN (ms.getD g [])
section
variable {hs : List Rm} {gof : List Nat} {ms : List (List Nat)}
theorem Grouped.rep (h : Grouped hs gof ms) {g : Nat} (hg : g < ms.length) : repG ms g < hs.length /\ gv gof (repG ms g) = g:=by
 have e : ms[g]? = some ms[g]:=by simp [hg]
 have e2 : ms.getD g [] = ms[g]:=by rw [List.getD_eq_getElem?_getD,e]; rfl
 unfold repG
 rw [e2]
 exact (h.gi.mem g _ e _).mp (minN_spec (h.gi.ne _ (List.getElem_mem hg))).1
noncomputable def grGroups (h : Grouped hs gof ms) : Gr Nat where
 nx:=fun g b => gv gof (stp hs (repG ms g) b)
 s0:=gv gof 0
 U:=fun g => g < ms.length
 num:=id
 B:=ms.length
 h0:=h.gi.lt 0 h.wf.ne
 cl:=fun g b hg => h.gi.lt _ (h.wf.stp (h.rep hg).1 b)
 lt:=fun g hg => hg
 inj:=fun a b _ _ e => e
noncomputable def litG (hs : List Rm) (ms : List (List Nat)) (g : Nat) : Bool:=litAt hs (repG ms g)
theorem Grouped.led (h : Grouped hs gof ms) : ∀ (w : List Bool) {r : Nat},r < hs.length -> (grGroups h).led (gv gof r) w = gv gof (Hs.led hs r w)
 | [],r,hr => rfl
 | b :: w,r,hr => by
  show (grGroups h).led (gv gof (stp hs (repG ms (gv gof r)) b)) w = gv gof (Hs.led hs (stp hs r b) w)
  obtain ⟨h1,h2⟩:=h.rep (h.gi.lt r hr)
  have e:=(h.eqv _ r h1 hr).mp h2
  rw [(h.eqv _ _ (h.wf.stp h1 b) (h.wf.stp hr b)).mpr (e.stp b)]
  exact Grouped.led h w (h.wf.stp hr b)
theorem Grouped.shine (h : Grouped hs gof ms) {r : Nat} (hr : r < hs.length) : litG hs ms (gv gof r) = litAt hs r:=by
 obtain ⟨h1,h2⟩:=h.rep (h.gi.lt r hr)
 exact ((h.eqv _ r h1 hr).mp h2).lit
theorem Grouped.least (h : Grouped hs gof ms) {as : List Nat} {rs : List Rm} (L : Laid (grGroups h) (litG hs ms) as rs) : IsLeast hs rs:=by
 have wk : ∀ (w : List Bool) {i a : Nat},as[i]? = some a -> litAt rs (Hs.led rs i w) = litAt hs (Hs.led hs (repG ms a) w):=fun w i a e => by
  have hu : a < ms.length:=L.lay.u a (List.mem_of_getElem? e)
  obtain ⟨h1,h2⟩:=h.rep hu
  rw [L.shine (L.led w e)]
  have:=h.led w h1
  rw [h2] at this
  rw [this]
  exact h.shine (h.wf.led w h1)
 refine ⟨L.wf,fun w => ?_,?_,fun i hi => ?_,fun i j hi hj e => ?_,?_⟩
 ·rw [L.walk w]
  show litG hs ms ((grGroups h).led (gv gof 0) w) = _
  rw [h.led w h.wf.ne]
  exact h.shine (h.wf.led w h.wf.ne)
 ·have:=L.lay.turn
  rw [List.append_nil] at this
  rw [this,L.len]
 ·have hl : i < as.length:=by rw [L.len]; exact hi
  obtain ⟨w,hw⟩:=L.lay.rch as[i] (List.getElem_mem hl)
  have e1:=L.led w L.lay.first
  rw [hw] at e1
  obtain ⟨l1,f1⟩:=List.getElem?_eq_some_iff.mp e1
  exact ⟨w,(List.getElem_inj L.lay.nd).mp f1⟩
 ·have hl : i < as.length:=by rw [L.len]; exact hi
  have hl' : j < as.length:=by rw [L.len]; exact hj
  have e1 : as[i]? = some as[i]:=by simp [hl]
  have e2 : as[j]? = some as[j]:=by simp [hl']
  have u1:=h.rep (L.lay.u _ (List.getElem_mem hl))
  have u2:=h.rep (L.lay.u _ (List.getElem_mem hl'))
  have e3 : Eqv hs (repG ms as[i]) (repG ms as[j]):=fun w => by rw [<- wk w e1,<- wk w e2]; exact e w
  have e4:=(h.eqv _ _ u1.1 u2.1).mpr e3
  rw [u1.2,u2.2] at e4
  exact (List.getElem_inj L.lay.nd).mp e4
 ·rw [<- L.len]
  exact Nat.le_trans L.lay.len h.gi.few
end
theorem turnL_take : ∀ (l m : List Nat) {c : Nat},turnL (l ++ m) = some c -> ∃ d,turnL l = some d /\ d <= c:=by
 intro l m
 induction m generalizing l with
 | nil => intro c h; rw [List.append_nil] at h; exact ⟨c,h,Nat.le_refl _⟩
 | cons f m ih =>
  intro c h
  obtain ⟨d,h1,h2⟩:=ih (l ++ [f]) (c:=c) (by rw [List.append_assoc]; exact h)
  rw [turnL_snoc] at h1
  cases e : turnL l with
  | none => rw [e] at h1; cases h1
  | some d' =>
   rw [e] at h1
   refine ⟨d',rfl,?_⟩
   have h1 : (if f > d' then none else if f = d' then some (d' + 1) else some d') = some d:=h1
   split at h1
   ·cases h1
   ·split at h1
    ·cases h1; omega
    ·cases h1; exact h2
section
variable {hs gs rs ts : List Rm}
end
end Hs
namespace Hs
noncomputable def ins (R : List Nat) (r : Nat) : List Nat:=if r ∈ R then R else R ++ [r]
theorem mem_ins {R : List Nat} {r x : Nat} : x ∈ ins R r ↔ x ∈ R ∨ x = r:=by
 unfold ins
 by_cases h : r ∈ R
 ·rw [if_pos h]
  exact ⟨.inl,fun z => z.elim id fun e => e ▸ h⟩
 ·rw [if_neg h,List.mem_append,List.mem_singleton]
theorem nd_ins {R : List Nat} {r : Nat} (h : R.Nodup) : (ins R r).Nodup:=by
 unfold ins
 by_cases z : r ∈ R
 ·rw [if_pos z]; exact h
 ·rw [if_neg z,List.nodup_append]
  refine ⟨h,by simp,fun x hx y hy => ?_⟩
  rw [List.mem_singleton.mp hy]
  exact fun e => z (e ▸ hx)
set_option genInjectivity false in
structure Gp (μ α : Type) where
 m : μ
 R : List Nat
 q : α
structure Gath {μ α : Type} (l : List (μ × Nat)) (gs : List (Gp μ α)) : Prop where
 nd : (gs.map (·.m)).Nodup
 mem : ∀ x ∈ gs,∀ r,r ∈ x.R ↔ (x.m,r) ∈ l
 cov : ∀ p ∈ l,∃ x ∈ gs,x.m = p.1
 nr : ∀ x ∈ gs,x.R.Nodup
section
variable {μ α : Type} [DecidableEq μ] {l : List (μ × Nat)} {gs : List (Gp μ α)}
theorem Gath.start : Gath (μ:=μ) (α:=α) [] []:=⟨by simp,by simp,by simp,by simp⟩
noncomputable def upR (gs : List (Gp μ α)) (m : μ) (r : Nat) : List (Gp μ α):=gs.map fun x => if x.m = m then ⟨x.m,ins x.R r,x.q⟩ else x
theorem upR_get {gs : List (Gp μ α)} {m : μ} {r : Nat} {x : Gp μ α} (h : x ∈ upR gs m r) : ∃ y ∈ gs,x.m = y.m /\ x.q = y.q /\ x.R = if y.m = m then ins y.R r else y.R:=by
 obtain ⟨y,hy,e⟩:=List.mem_map.mp h
 refine ⟨y,hy,?_⟩
 by_cases hm : y.m = m
 ·rw [if_pos hm] at e
  rw [if_pos hm]
  subst e
  exact ⟨rfl,rfl,rfl⟩
 ·rw [if_neg hm] at e
  rw [if_neg hm]
  subst e
  exact ⟨rfl,rfl,rfl⟩
theorem upR_ms (gs : List (Gp μ α)) (m : μ) (r : Nat) : (upR gs m r).map (·.m) = gs.map (·.m):=by
 unfold upR
 rw [List.map_map]
 refine List.map_congr_left fun x _ => ?_
 show (if x.m = m then (⟨x.m,ins x.R r,x.q⟩ : Gp μ α) else x).m = x.m
 split <;> rfl
theorem upR_qs (gs : List (Gp μ α)) (m : μ) (r : Nat) : (upR gs m r).map (·.q) = gs.map (·.q):=by
 unfold upR
 rw [List.map_map]
 refine List.map_congr_left fun x _ => ?_
 show (if x.m = m then (⟨x.m,ins x.R r,x.q⟩ : Gp μ α) else x).q = x.q
 split <;> rfl
theorem Gath.new (h : Gath l gs) {m : μ} {q : α} (hn : m ∉ gs.map (·.m)) : Gath l (gs ++ [⟨m,[],q⟩]) where
 nd:=by
  rw [List.map_append,List.nodup_append]
  refine ⟨h.nd,by simp,fun x hx y hy => ?_⟩
  have : y = m:=by simpa using hy
  rw [this]
  exact fun z => hn (z ▸ hx)
 mem:=fun x hx r => by
  rcases List.mem_append.mp hx with hx | hx
  ·exact h.mem x hx r
  ·rw [List.mem_singleton.mp hx]
   refine ⟨fun z => by simp at z,fun z => ?_⟩
   obtain ⟨y,hy,e⟩:=h.cov _ z
   exact absurd (List.mem_map.mpr ⟨y,hy,e⟩) hn
 cov:=fun p hp => let ⟨x,hx,e⟩:=h.cov p hp; ⟨x,List.mem_append_left _ hx,e⟩
 nr:=fun x hx => by
  rcases List.mem_append.mp hx with hx | hx
  ·exact h.nr x hx
  ·rw [List.mem_singleton.mp hx]; exact List.nodup_nil
theorem Gath.put (h : Gath l gs) {m : μ} (r : Nat) (hm : m ∈ gs.map (·.m)) : Gath (l ++ [(m,r)]) (upR gs m r) where
 nd:=by rw [upR_ms]; exact h.nd
 mem:=fun x hx s => by
  obtain ⟨y,hy,e1,_,e3⟩:=upR_get hx
  rw [e3,e1,List.mem_append,List.mem_singleton]
  by_cases hym : y.m = m
  ·rw [if_pos hym,mem_ins,h.mem y hy s,hym]
   refine ⟨fun z => z.imp id fun e => by rw [e],fun z => z.imp id fun e => congrArg Prod.snd e⟩
  ·rw [if_neg hym,h.mem y hy s]
   exact ⟨.inl,fun z => z.elim id fun e => absurd (congrArg Prod.fst e) hym⟩
 cov:=fun p hp => by
  have : ∃ y ∈ gs,y.m = p.1:=by
   rcases List.mem_append.mp hp with hp | hp
   ·exact h.cov p hp
   ·rw [List.mem_singleton.mp hp]
    exact List.mem_map.mp hm
  obtain ⟨y,hy,e⟩:=this
  refine ⟨_,List.mem_map.mpr ⟨y,hy,rfl⟩,?_⟩
  show (if y.m = m then (⟨y.m,ins y.R r,y.q⟩ : Gp μ α) else y).m = p.1
  split <;> exact e
 nr:=fun x hx => by
  obtain ⟨y,hy,_,_,e3⟩:=upR_get hx
  rw [e3]
  split
  ·exact nd_ins (h.nr y hy)
  ·exact h.nr y hy
noncomputable def mkOf (l : List (μ × Nat)) (r : Nat) : Option μ:=(l.find? fun p => decide (p.2 = r)).map (·.1)
omit [DecidableEq μ] in
theorem mkOf_some (nd : (l.map (·.2)).Nodup) {m : μ} {r : Nat} : mkOf l r = some m ↔ (m,r) ∈ l:=by
 unfold mkOf
 induction l with
 | nil => simp
 | cons p l ih =>
  have nd : (p.2 :: l.map (·.2)).Nodup:=nd
  obtain ⟨h1,h2⟩:=List.nodup_cons.mp nd
  rw [List.find?_cons]
  by_cases e : p.2 = r
  ·rw [decide_eq_true e]
   constructor
   ·intro z
    have : p.1 = m:=by simpa using z
    rw [<- this,<- e]
    exact List.mem_cons_self ..
   ·intro z
    rcases List.mem_cons.mp z with z | z
    ·rw [<- z]; rfl
    ·exact absurd (List.mem_map.mpr ⟨_,z,e.symm⟩) h1
  ·rw [decide_eq_false e]
   show Option.map (·.1) (l.find? fun p => decide (p.2 = r)) = some m ↔ _
   rw [ih h2,List.mem_cons]
   exact ⟨.inr,fun z => z.elim (fun y => absurd (congrArg Prod.snd y).symm e) id⟩
omit [DecidableEq μ] in
theorem mkOf_none {r : Nat} : mkOf l r = none ↔ r ∉ l.map (·.2):=by
 unfold mkOf
 rw [Option.map_eq_none_iff,List.find?_eq_none]
 constructor
 ·intro h z
  obtain ⟨p,hp,e⟩:=List.mem_map.mp z
  exact h p hp (decide_eq_true e)
 ·intro h p hp z
  exact h (List.mem_map.mpr ⟨p,hp,of_decide_eq_true z⟩)
omit [DecidableEq μ] in
theorem mkOf_map (f : Nat -> μ) : ∀ (T : List Nat) (r : Nat),mkOf (T.map fun r => (f r,r)) r = if r ∈ T then some (f r) else none
 | [],r => by simp [mkOf]
 | t :: T,r => by
  have ih:=mkOf_map f T r
  unfold mkOf at ih ⊢
  rw [List.map_cons,List.find?_cons]
  by_cases e : t = r
  ·have : decide ((f t,t).2 = r) = true:=decide_eq_true e
   rw [this,if_pos (by rw [e]; exact List.mem_cons_self ..),<- e]
   rfl
  ·have : decide ((f t,t).2 = r) = false:=decide_eq_false e
   rw [this]
   show Option.map (·.1) ((T.map fun r => (f r,r)).find? fun p => decide (p.2 = r)) = _
   rw [ih]
   by_cases h : r ∈ T
   ·rw [if_pos h,if_pos (List.mem_cons_of_mem _ h)]
   ·rw [if_neg h,if_neg fun z => (List.mem_cons.mp z).elim (fun y => e y.symm) h]
theorem gath_split {R : List Nat} (h : Gath l gs) (nd : (l.map (·.2)).Nodup) (hR : R.Nodup) (hl : ∀ p ∈ l,p.2 ∈ R) : Split R (mkOf l) ((R.filter fun r => decide (r ∉ l.map (·.2))) :: gs.map (·.R)):=by
 have hm : ∀ x ∈ gs,∀ r ∈ x.R,mkOf l r = some x.m:=fun x hx r hr => (mkOf_some nd).mpr ((h.mem x hx r).mp hr)
 refine ⟨fun P hP r hr => ?_,fun P hP => ?_,fun r hr => ?_,fun P hP r hr s hs => ?_,?_⟩
 ·rcases List.mem_cons.mp hP with e | hP
  ·subst e; exact (List.mem_filter.mp hr).1
  ·obtain ⟨x,hx,rfl⟩:=List.mem_map.mp hP
   exact hl _ ((h.mem x hx r).mp hr)
 ·rcases List.mem_cons.mp hP with e | hP
  ·subst e; exact hR.sublist List.filter_sublist
  ·obtain ⟨x,hx,rfl⟩:=List.mem_map.mp hP
   exact h.nr x hx
 ·by_cases z : r ∈ l.map (·.2)
  ·obtain ⟨p,hp,e⟩:=List.mem_map.mp z
   obtain ⟨x,hx,ex⟩:=h.cov p hp
   refine ⟨x.R,List.mem_cons_of_mem _ (List.mem_map.mpr ⟨x,hx,rfl⟩),(h.mem x hx r).mpr ?_⟩
   rw [ex,<- e]
   exact hp
  ·exact ⟨_,List.mem_cons_self ..,List.mem_filter.mpr ⟨hr,decide_eq_true z⟩⟩
 ·rcases List.mem_cons.mp hP with e | hP
  ·subst e
   rw [mkOf_none.mpr (of_decide_eq_true (List.mem_filter.mp hr).2),mkOf_none.mpr (of_decide_eq_true (List.mem_filter.mp hs).2)]
  ·obtain ⟨x,hx,rfl⟩:=List.mem_map.mp hP
   rw [hm x hx r hr,hm x hx s hs]
 ·refine List.pairwise_cons.mpr ⟨fun Q hQ r hr s hs z => ?_,?_⟩
  ·obtain ⟨x,hx,rfl⟩:=List.mem_map.mp hQ
   rw [hm x hx s hs,mkOf_none.mpr (of_decide_eq_true (List.mem_filter.mp hr).2)] at z
   cases z
  ·rw [List.pairwise_map]
   have:=h.nd
   rw [List.Nodup,List.pairwise_map] at this
   refine this.imp_of_mem fun {x y} hx hy ne r hr s hs z => ?_
   rw [hm x hx r hr,hm y hy s hs] at z
   exact ne (Option.some.inj z)
end
structure Tch {α : Type} (hs : List Rm) (gof : List Nat) (wt : Nat -> Prop) (gs : List (Gp Nat α)) : Prop where
 gl : GL hs gof wt fun r => ∃ x ∈ gs,r ∈ x.R
 at' : ∀ x ∈ gs,∀ r ∈ x.R,r < hs.length /\ gv gof r = x.m
 clo : ∀ x ∈ gs,∀ r s,r < hs.length -> s < hs.length -> Eqv hs r s -> r ∈ x.R -> s ∈ x.R
 nd : (gs.map (·.m)).Nodup
theorem GL.congr {hs : List Rm} {gof : List Nat} {wt wt' pd pd' : Nat -> Prop} (h : GL hs gof wt pd) (e1 : ∀ r,r < hs.length -> (wt r ↔ wt' r)) (e2 : ∀ r,r < hs.length -> (pd r ↔ pd' r)) : GL hs gof wt' pd' :=
 ⟨h.sep,h.lit,fun r s hr hs' e w => (e1 s hs').mp (h.clo r s hr hs' e ((e1 r hr).mpr w)),fun r s hr hs' e n1 n2 n3 n4 => h.sta r s hr hs' e (fun z => n1 ((e1 r hr).mp z)) (fun z => n2 ((e2 r hr).mp z)) (fun z => n3 ((e1 s hs').mp z)) fun z => n4 ((e2 s hs').mp z)⟩
section
variable {α : Type} {hs : List Rm} {gof gof' : List Nat} {wt wt' : Nat -> Prop} {gs : List (Gp Nat α)} {x : Gp Nat α} {k : Nat}
theorem Tch.step (wf : Wf hs) (h : Tch hs gof wt (x :: gs)) (st : Step hs x.m k (mkOf (x.R.map fun r => ((gv gof (stp hs r false),gv gof (stp hs r true)),r))) gof gof') (hw : ∀ y,y < hs.length -> (wt' y ↔ wt y ∨ Led hs gof gof' y)) : Tch hs gof' wt' gs:=by
 have nd : (x.m :: gs.map (·.m)).Nodup:=h.nd
 obtain ⟨n1,n2⟩:=List.nodup_cons.mp nd
 refine ⟨?_,fun y hy r hr => ?_,fun y hy => h.clo y (List.mem_cons_of_mem _ hy),n2⟩
 ·refine GL.step (T:=x.R) (g:=x.m) (k:=k) wf (h.gl.congr (fun _ _ => Iff.rfl) fun r _ => ?_) (h.at' x (List.mem_cons_self ..)) (h.clo x (List.mem_cons_self ..)) ?_ hw
  ·constructor
   ·rintro ⟨y,hy,hr⟩
    rcases List.mem_cons.mp hy with e | hy
    ·subst e; exact .inl hr
    ·exact .inr ⟨y,hy,hr⟩
   ·rintro (hr | ⟨y,hy,hr⟩)
    ·exact ⟨x,List.mem_cons_self ..,hr⟩
    ·exact ⟨y,List.mem_cons_of_mem _ hy,hr⟩
  ·have e : (mkOf (x.R.map fun r => ((gv gof (stp hs r false),gv gof (stp hs r true)),r))) = fun r => if r ∈ x.R then some (gv gof (stp hs r false),gv gof (stp hs r true)) else none:=funext fun r => mkOf_map (fun r => (gv gof (stp hs r false),gv gof (stp hs r true))) x.R r
   rw [e] at st
   exact st
 ·obtain ⟨h1,h2⟩:=h.at' y (List.mem_cons_of_mem _ hy) r hr
  refine ⟨h1,?_⟩
  by_cases e : gv gof' r = gv gof r
  ·rw [e,h2]
  ·have:=(st.new r h1 e).1
   exact absurd (List.mem_map.mpr ⟨y,hy,h2.symm.trans this⟩) n1
theorem Tch.start {wl : List Nat} (h : GL hs gof (fun r => r ∈ wl) fun _ => False) (G : Gath (wl.map fun r => (gv gof r,r)) gs) (hlt : ∀ r ∈ wl,r < hs.length) : Tch hs gof (fun _ => False) gs:=by
 have mem : ∀ y ∈ gs,∀ r,r ∈ y.R ↔ r ∈ wl /\ gv gof r = y.m:=fun y hy r => by
  rw [G.mem y hy r,List.mem_map]
  constructor
  ·rintro ⟨s,hs',e⟩
   have e1:=congrArg Prod.fst e
   have e2:=congrArg Prod.snd e
   have e2 : s = r:=e2
   subst e2
   exact ⟨hs',e1⟩
  ·rintro ⟨h1,h2⟩
   exact ⟨r,h1,by rw [h2]⟩
 refine ⟨⟨h.sep,h.lit,fun _ _ _ _ _ z => z,fun r s hr hs' e _ n2 _ n4 => ?_⟩,fun y hy r hr => ?_,fun y hy r s hr hs' e z => ?_,G.nd⟩
 ·have cov : ∀ r,(¬ ∃ x ∈ gs,r ∈ x.R) -> r ∉ wl:=fun r n z => by
   obtain ⟨y,hy,e⟩:=G.cov (gv gof r,r) (List.mem_map.mpr ⟨r,z,rfl⟩)
   exact n ⟨y,hy,(mem y hy r).mpr ⟨z,e.symm⟩⟩
  exact h.sta r s hr hs' e (cov r n2) id (cov s n4) id
 ·obtain ⟨h1,h2⟩:=(mem y hy r).mp hr
  exact ⟨hlt r h1,h2⟩
 ·obtain ⟨h1,h2⟩:=(mem y hy r).mp z
  exact (mem y hy s).mpr ⟨h.clo r s hr hs' e h1,by rw [<- h.sep r s hr hs' e]; exact h2⟩
theorem Tch.end (h : Tch hs gof wt ([] : List (Gp Nat α))) : GL hs gof wt fun _ => False:=h.gl.congr (fun _ _ => Iff.rfl) fun r _ => ⟨fun ⟨_,z,_⟩ => by simp at z,False.elim⟩
end
theorem nodup_ixA {β : Type} {N : List β} (hN : N.Nodup) {i j : Nat} {x : β} (a : N[i]? = some x) (b : N[j]? = some x) : i = j:=by
 obtain ⟨h1,e1⟩:=List.getElem?_eq_some_iff.mp a
 obtain ⟨h2,e2⟩:=List.getElem?_eq_some_iff.mp b
 exact (List.getElem_inj hN).mp (e1.trans e2.symm)
theorem nodup_sub_len : ∀ {R M : List Nat},R.Nodup -> (∀ r ∈ R,r ∈ M) -> R.length <= M.length
 | [],M,_,_ => Nat.zero_le _
 | r :: R,M,h,hs => by
  obtain ⟨h1,h2⟩:=List.nodup_cons.mp h
  have hm:=hs r (List.mem_cons_self ..)
  have:=nodup_sub_len (R:=R) (M:=M.erase r) h2 fun x hx => (List.mem_erase_of_ne (fun z : x = r => h1 (z ▸ hx))).mpr (hs x (List.mem_cons_of_mem _ hx))
  rw [List.length_erase_of_mem hm] at this
  have hl : 0 < M.length:=List.length_pos_of_mem hm
  rw [List.length_cons]
  omega +splitDisjunctions
theorem nd_of_ix {β : Type} {N : List β} (h : ∀ (i j : Nat) x,N[i]? = some x -> N[j]? = some x -> i = j) : N.Nodup:=by
 refine List.pairwise_iff_getElem.mpr fun i j hi hj hij e => ?_
 have:=h i j N[i] (by simp [hi]) (by rw [e]; simp [hj])
 omega
end Hs
namespace Hs
theorem IsLeast.map {hs rs : List Rm} (h : IsLeast hs rs) : ∃ φ : Nat -> Nat,φ 0 = 0 /\ ∀ r,Reach hs r -> φ r < rs.length /\ litAt hs r = litAt rs (φ r) /\ ∀ b,φ (stp hs r b) = stp rs (φ r) b:=by
 have fn : ∀ v w,led hs 0 v = led hs 0 w -> led rs 0 v = led rs 0 w:=fun v w z => by
  refine h.apart _ _ (h.wf.led v h.wf.ne) (h.wf.led w h.wf.ne) fun x => ?_
  rw [<- led_append,<- led_append,h.walk,h.walk,led_append,led_append,z]
 obtain ⟨φ,hφ⟩ : ∃ φ : Nat -> Nat,∀ r,Reach hs r -> ∃ w,led hs 0 w = r /\ φ r = led rs 0 w:=by
  classical
  exact ⟨fun r => if hr : Reach hs r then led rs 0 (Classical.choose hr) else 0,fun r hr => ⟨_,Classical.choose_spec hr,dif_pos hr⟩⟩
 have key : ∀ w,φ (led hs 0 w) = led rs 0 w:=fun w => by
  obtain ⟨v,e1,e2⟩:=hφ _ ⟨w,rfl⟩
  rw [e2]
  exact fn v w e1
 refine ⟨φ,key [],fun r hr => ?_⟩
 obtain ⟨w,rfl⟩:=hr
 refine ⟨by rw [key]; exact h.wf.led w h.wf.ne,by rw [key,h.walk],fun b => ?_⟩
 rw [<- led_snoc,key,key,led_snoc]
end Hs
set_option maxHeartbeats 4000000
namespace PySem
open Sem (wp)
noncomputable def RawD (h : Heap) (d : Addr) (es : Array DictEntry) (ep : Nat) : Prop:=∃ o,h.get? d = some o /\ o.ExactDict /\ o.data = .dict es ep
section
variable {prog : Program} {w : World} {A : Around} {E : Value -> Shared -> Prop} {s : Shared} {d v it : Addr} {es : Array DictEntry} {ep i : Nat}
theorem RawD.typeIs (x : RawD s.heap d es ep) : s.TypeIs (.ref d) "dict":=let ⟨o,ho,hx,_⟩:=x; ⟨o,ho,hx.1⟩
theorem RawD.lt {h : Heap} (x : RawD h d es ep) : d < h.objs.size:=let ⟨_,ho,_⟩:=x; Heap.lt_size ho
theorem RawD.at {h h' : Heap} (x : RawD h d es ep) (k : ∀ o,h.get? d = some o -> h'.get? d = some o) : RawD h' d es ep:=let ⟨o,ho,r⟩:=x; ⟨o,k o ho,r⟩
theorem raw_values {Q : Value -> Shared -> Prop} (hd : (d == sysModules) = false) (x : RawD s.heap d es ep) (h : Q (.ref s.heap.objs.size) { s with heap:=s.heap.push { cls:=.type "dict_values",data:=.fields #[.ref d] } }) :
  wpAny (model prog w) A (call (.builtin "dict.values") [.ref d]) Q E s:=by
 refine wpAny_call_entry F.slot_dict_values x.typeIs F.entry_dict_values ?_ (F.args_dict_values_1 _)
 refine wpAny_bind ?_
 unfold Builtin.Dict.noArgs
 refine wpAny_bind (wpAny_notOrdered_dict x.typeIs ?_)
 refine (show wpAny _ _ (pure d) _ _ s from wpAny_pure ?_)
 refine (show wpAny _ _ (Builtin.Dict.showsAll d >>= _) _ _ s from ?_)
 unfold Builtin.Dict.showsAll
 rw [if_neg (by rw [hd]; exact Bool.false_ne_true)]
 exact wpAny_bind (wpAny_pure (wpAny_bind (wpAny_newObj_type (wpAny_pure ⟨_,rfl,h⟩))))
theorem raw_iter {Q : Value -> Shared -> Prop} (hv : s.heap.IsValuesView v d) (x : RawD s.heap d es ep)
  (h : Q (.ref s.heap.objs.size) { s with heap:=s.heap.push { cls:=.type "dict_valueiterator",data:=.fields #[.ref d,.int 0 0,.int es.size 0,.int ep 0] } }) : wpAny (model prog w) A (pyIter (.ref v)) Q E s:=by
 obtain ⟨ov,hov,hcv,hdv⟩:=id hv
 obtain ⟨o,ho,hc,hda⟩:=id x
 refine wpAny_pyIter_slot hv.typeIs F.slot_dict_values_iter (wpAny_call_entry F.slot_dict_values_iter hv.typeIs F.entry_dict_values_iter ?_ (F.args_dict_values_iter_1 _))
 unfold Builtin.«dict_values.__iter__» Builtin.Dict_items.dictOf Builtin.Dict_items.newIterator
 refine wpAny_bind (wpAny_pure (wpAny_bind (wpAny_bind (wpAny_field hov hdv (x:=.ref d) rfl (wpAny_pure (wpAny_bind (wpAny_bind (wpAny_dictEntries ho hda (wpAny_bind (wpAny_dictEpoch ho hda ?_))))))))))
 dsimp only
 rw [if_neg (show ¬ (Builtin.Dict_items.ownsTuple "dict_valueiterator" = true) by decide)]
 refine wpAny_newObj_type (wpAny_pure ⟨_,rfl,"dict_valueiterator",_,⟨_,Heap.get?_push_size _ rfl,rfl⟩,F.slot_dict_valueiterator_next.lookup,?_⟩)
 simpa [rawInt] using h
theorem raw_step {Q : Option Value -> Shared -> Prop} {e : DictEntry} (hit : s.heap.IsValIter it d i es.size ep) (x : RawD s.heap d es ep) (he : es[i]? = some e)
  (h : ∀ h',h'.IsValIter it d (i + 1) es.size ep -> Heap.SameBut it s.heap h' -> Q (some e.val) { s with heap:=h' }) : wpAny (model prog w) A (pyNext (.ref it)) Q E s:=by
 obtain ⟨o,ho,hc,hda⟩:=id hit
 obtain ⟨od,hod,hxd,hdd⟩:=id x
 have hlt : i < es.size:=(Array.getElem?_eq_some_iff.mp he).1
 have hev : es[i] = e:=(Array.getElem?_eq_some_iff.mp he).2
 have hT:=hit.typeIs
 unfold pyNext
 refine wpAny_bind (wpAny_attempt (wpAny_callSpecial?_slot (name:=Str.ofString "__next__") hT F.slot_dict_valueiterator_next (wpAny_call_entry F.slot_dict_valueiterator_next hT F.entry_dict_valueiterator_next ?_ (F.args_dict_valueiterator_next_1 _))))
 refine wpAny_bind (wpAny_pure (wpAny_bind (wpAny_bind ?_)))
 first
  | refine wpAny_bind (wpAny_typeNameOfWhole_valiter hT (wpAny_pure ?_))
  | refine wpAny_bind (wpAny_typeNameOf_valiter hT (wpAny_pure ?_))
 refine wpAny_bind (wpAny_fieldsOf ho hda ?_)
 rw [if_neg (show ¬ (Builtin.Dict_items.ownsTuple "dict_valueiterator" = true) by decide)]
 refine (show wpAny _ _ (if (Value.ref d == Value.none) = true then _ else _) _ _ s from ?_)
 rw [if_neg (show ¬ ((Value.ref d == Value.none) = true) from Bool.false_ne_true)]
 refine wpAny_bind (wpAny_pure (wpAny_bind (wpAny_dictEntries hod hdd ?_)))
 rw [if_neg (by simp)]
 refine wpAny_bind (wpAny_pure (wpAny_bind (wpAny_dictEpoch hod hdd ?_)))
 rw [if_neg (by simp)]
 refine wpAny_pure ?_
 simp only [show ¬ ((i : Int) < 0) from by omega,if_false,Int.toNat_natCast,Array.getElem?_eq_getElem hlt]
 refine wpAny_bind ?_
 first
  | refine wpAny_bind (wpAny_typeNameOfWhole_valiter hT (wpAny_pure ?_))
  | refine wpAny_bind (wpAny_typeNameOf_valiter hT (wpAny_pure ?_))
 refine wpAny_bind (wpAny_isOneOf_valiter hT ?_)
 refine (show wpAny _ _ (setField (.ref it) 1 (rawInt ((i : Int) + 1)) >>= _) _ _ s from wpAny_bind (wpAny_setField ho hda (by simp) ?_))
 have hit2 : (s.heap.update it (Obj.mapFields (·.setIfInBounds 1 (rawInt ((i : Int) + 1))))).IsValIter it d (i + 1) es.size ep :=
  ⟨_,Heap.get?_update_self _ ho (Obj.isFreed_of_fields (Obj.data_mapFields hda _)),(Obj.cls_mapFields ..).trans hc,by rw [Obj.data_mapFields hda]; simp [rawInt]⟩
 have hT2:=Heap.IsValIter.typeIs (s:={ s with heap:=s.heap.update it (Obj.mapFields (·.setIfInBounds 1 (rawInt ((i : Int) + 1)))) }) hit2
 refine wpAny_bind (wpAny_holding (wpAny_bind (wpAny_isOneOf_valiter hT2 (wpAny_bind (wpAny_isOneOf_valiter hT2 ?_)))))
 refine (show wpAny _ _ (pure es[i].val) _ _ _ from wpAny_pure (wpAny_pure ⟨_,rfl,wpAny_pure ?_⟩))
 rw [hev]
 exact h _ hit2 (Heap.SameBut.update ..)
theorem raw_stop {Q : Option Value -> Shared -> Prop} (hh : A.handled = none) (hit : s.heap.IsValIter it d i es.size ep) (x : RawD s.heap d es ep) (he : es.size <= i)
  (h : ∀ h',Heap.ExtBut it s.heap h' -> Q none { s with heap:=h' }) : wpAny (model prog w) A (pyNext (.ref it)) Q E s:=by
 obtain ⟨o,ho,hc,hda⟩:=id hit
 obtain ⟨od,hod,hxd,hdd⟩:=id x
 have hT:=hit.typeIs
 unfold pyNext
 refine wpAny_bind (wpAny_attempt (wpAny_callSpecial?_slot (name:=Str.ofString "__next__") hT F.slot_dict_valueiterator_next (wpAny_call_entry F.slot_dict_valueiterator_next hT F.entry_dict_valueiterator_next ?_ (F.args_dict_valueiterator_next_1 _))))
 refine wpAny_bind (wpAny_pure (wpAny_bind (wpAny_bind ?_)))
 first
  | refine wpAny_bind (wpAny_typeNameOfWhole_valiter hT (wpAny_pure ?_))
  | refine wpAny_bind (wpAny_typeNameOf_valiter hT (wpAny_pure ?_))
 refine wpAny_bind (wpAny_fieldsOf ho hda ?_)
 rw [if_neg (show ¬ (Builtin.Dict_items.ownsTuple "dict_valueiterator" = true) by decide)]
 refine (show wpAny _ _ (if (Value.ref d == Value.none) = true then _ else _) _ _ s from ?_)
 rw [if_neg (show ¬ ((Value.ref d == Value.none) = true) from Bool.false_ne_true)]
 refine wpAny_bind (wpAny_pure (wpAny_bind (wpAny_dictEntries hod hdd ?_)))
 rw [if_neg (by simp)]
 refine wpAny_bind (wpAny_pure (wpAny_bind (wpAny_dictEpoch hod hdd ?_)))
 rw [if_neg (by simp)]
 refine wpAny_pure ?_
 simp only [show ¬ ((i : Int) < 0) from by omega,if_false,Int.toNat_natCast,Array.getElem?_eq_none he]
 refine wpAny_bind ?_
 first
  | refine wpAny_bind (wpAny_typeNameOfWhole_valiter hT (wpAny_pure ?_))
  | refine wpAny_bind (wpAny_typeNameOf_valiter hT (wpAny_pure ?_))
 refine (show wpAny _ _ (setField (.ref it) 0 .none >>= _) _ _ s from wpAny_bind (wpAny_setField ho hda (by simp) ?_))
 refine (show wpAny _ _ (newExc (.type "StopIteration") [] >>= _) _ _ _ from wpAny_bind ?_)
 simp only [newExc,newTuple]
 refine wpAny_bind (wpAny_newObj_type ?_ (by size_fits))
 refine wpAny_bind (m:=firstArgMember _ _) (wpAny_of_eq (a:=Value.none) (by first | rfl | (simp only [firstArgMember]; rfl)) ?_)
 refine wpAny_newObj_type ?_ (by size_fits)
 simp only [raiseNew]
 refine wpAny_bind (wpAny_handled ?_)
 rw [show A.in1.handled = none from hh]
 refine wpAny_bind (wpAny_pure (wpAny_throw ?_))
 refine wpAny_bind (wpAny_isInstance (T:="StopIteration") (b:=true) ⟨_,Heap.get?_push_size _ rfl,rfl⟩ isSubtype_stop (wpAny_pure (h _ ?_)))
 exact ((Heap.SameBut.update ..).extBut.push _).push _
theorem Walks.rawVals (hh : A.handled = none) (hne : d ≠ it) : Walks prog w A it [it,d] [it] es.size (fun i v => ∃ e,es[i]? = some e /\ v = e.val) (fun i h => h.IsValIter it d i es.size ep /\ RawD h d es ep) where
 sub:=fun b hb => by simp at hb; simp [hb]
 frame:=fun i h h' st hk => ⟨let ⟨o,ho,r⟩:=st.1; ⟨o,hk it (by simp) o ho,r⟩,st.2.at fun o e => hk d (by simp) o e⟩
 item:=fun i s Q E hi st hQ => by
  have he : es[i]? = some es[i]:=by simp [hi]
  refine raw_step st.1 st.2 he fun h' hit' hs => hQ _ h' s.toks ⟨_,he,rfl⟩ ⟨hit',st.2.at fun o e => (hs.2 d hne).trans e⟩ fun b o hb e => ?_
  exact (hs.2 b (by simpa using hb)).trans e
 done:=fun s Q E st hQ => raw_stop hh st.1 st.2 (Nat.le_refl _) fun h' hx => hQ h' s.toks fun b o hb e => hx b o (by simpa using hb) e
 self:=fun i s Q E st hQ => by
  obtain ⟨o,ho,hc,hda⟩:=id st.1
  exact wpAny_pyIter_valiter st.1 hQ
end
end PySem
set_option maxHeartbeats 4000000
namespace L2
open PySem PySem.Spec PyProof.Rows
theorem Inv.thaw {X : Cx} {pins pins0 : List (Addr × Obj)} {σ σ0 : St} {H H0 : Hp} {s s0 : Shared} {a : Addr} {o : Obj} {kvs : List (Key × V)} (I0 : Inv X pins0 σ0 H0 s0) (n0 : ∀ o u,H0 a ≠ some (.frz o u)) (I : Inv X pins σ H s) (e : H a = some (.frz o (.dK kvs))) :
  Inv X pins σ (upd H a (.dK kvs)) s:=by
 have ne : ∀ b u,H b = some u -> (∀ o' u',u ≠ .frz o' u') -> b ≠ a:=fun b u eb n z => by
  subst z
  rw [e] at eb
  cases eb
  exact n _ _ rfl
 have nn : ∀ b,H b = none -> b ≠ a:=fun b eb z => by subst z; rw [e] at eb; cases eb
 have hob:=I.hok a _ e
 obtain ⟨_,_,_,_,_,ob,es,ep,ho,hex,hda,_⟩:=id hob
 refine ⟨I.ok,I.os,I.bare,⟨I.base.keep,I.base.slot,fun b ob q n hx => ?_,I.base.there,fun b xs q => ?_,fun b ob u q => ?_,fun b ps q => ?_⟩,I.loc,I.cell,?_,fun x c hc => ?_,fun p hp => ?_,fun b u q => ?_,I.len⟩
 ·have:=I.base.free b ob q n hx
  rw [upd_ne (nn b this)]
  exact this
 ·have:=I.base.tups b xs q
  rw [upd_ne (ne b _ this fun _ _ z => by cases z)]
  exact this
 ·have hb : b ≠ a:=fun z => by
   subst z
   exact n0 _ _ (I0.base.frzs b ob u q)
  rw [upd_ne hb]
  exact I.base.frzs b ob u q
 ·obtain ⟨more,this⟩:=I.base.tbls b ps q
  exact ⟨more,by rw [upd_ne (ne b _ this fun _ _ z => by cases z)]; exact this⟩
 ·rw [upd_ne (nn _ I.free)]
  exact I.free
 ·have hca : c ≠ a:=fun z => by
   subst z
   obtain ⟨v,oc,hoc,hdc⟩:=I.cell x c hc
   rw [ho] at hoc
   cases hoc
   rw [hda] at hdc
   cases hdc
  rw [upd_ne hca]
  exact I.freeC x c hc
 ·obtain ⟨e1,e2,e3⟩:=I.pin p hp
  exact ⟨e1,by rw [upd_ne (nn _ e2)]; exact e2,e3⟩
 ·have st : ∀ {b u},ObjOk X.prog X.w H s.heap b u -> ObjOk X.prog X.w (upd H a (.dK kvs)) s.heap b u:=fun x => x.stay (fun _ _ _ q => q) (fun c q => by rw [upd_ne (ne c _ q fun _ _ z => by cases z)]; exact q) fun c xs q => by rw [upd_ne (ne c _ q fun _ _ z => by cases z)]; exact q
  by_cases hb : b = a
  ·subst hb
   rw [upd_same] at q
   cases q
   exact st hob.2
  ·rw [upd_ne hb] at q
   exact st (I.hok b u q)
noncomputable def sThaw (t : TS) : TS:=fun D σ H => t { D with nx:=fun σ' H' => ∃ a o kvs,(∀ o' u',H a ≠ some (.frz o' u')) /\ H' a = some (.frz o (.dK kvs)) /\ D.nx σ' (upd H' a (.dK kvs)) } σ H
theorem ps_thaw {X : Cx} {st : Stmt} {t : TS} (h : PS X st t) : PS X st (sThaw t):=by
 intro pins s σ H D I q
 refine thn (h pins s σ H _ I q) fun f s' hsp => ?_
 cases f with
 | next =>
  obtain ⟨σ',H',I',a,o,kvs,n,e,q'⟩:=hsp
  exact ⟨σ',_,I.thaw n I' e,q'⟩
 | brk => exact hsp
 | cont => exact hsp
 | ret u => exact hsp
noncomputable def DBφ (P : Program) (w : World) (d : Addr) (kvs : List (Bool × V)) : Heap -> Prop:=fun h => kvs.length <= sizeLine /\ (d == sysModules) = false /\ ∃ vs,KV kvs vs /\ h.DictOf (boolKind P w) d vs
theorem db_obj {P : Program} {w : World} {H : Hp} {h : Heap} {d : Addr} {kvs : List (Bool × V)} {vs : List (Bool × Value)} (z : kvs.length <= sizeLine) (hd : (d == sysModules) = false) (r : KV kvs vs) (dd : h.DictOf (boolKind P w) d vs) : ObjOk P w H h d (.ext (DBφ P w d kvs)):=by
 obtain ⟨o,es,ep,e,rest⟩:=id dd
 refine ⟨⟨z,hd,vs,r,dd⟩,⟨o,e⟩,fun h1 h2 ⟨z',hd',vs',r',o',es',ep',e',rest'⟩ k => ⟨z',hd',vs',r',o',es',ep',k _ e',rest'⟩⟩
inductive K3 where
 | s
 | t
 | b
noncomputable abbrev K3.κ : K3 -> Type
 | .s => Key
 | .t => List Key
 | .b => Bool
noncomputable instance instDecK3 : (k : K3) -> DecidableEq k.κ
 | .s => inferInstanceAs (DecidableEq Key)
 | .t => inferInstanceAs (DecidableEq (List Key))
 | .b => inferInstanceAs (DecidableEq Bool)
noncomputable def K3.mk (P : Program) (w : World) (d : Addr) : (k : K3) -> List (k.κ × V) -> HO
 | .s,kvs => .dK kvs
 | .t,kvs => .dT kvs
 | .b,kvs => .ext (DBφ P w d kvs)
noncomputable def K3.isV (H : Hp) : (k : K3) -> k.κ -> V -> Prop
 | .s,p,v => v = kV p
 | .t,p,v => ∃ t,v = .ref t /\ H t = some (.tup (p.map kV))
 | .b,p,v => v = .bl p
section
variable {P : Program} {w : World} {k : K3} {H H' : Hp} {d : Addr} {kvs : List (k.κ × V)} {p : k.κ} {v x : V}
theorem K3.same (h : k.isV H p v) (s : ∀ t xs,H t = some (.tup xs) -> H' t = some (.tup xs)) : k.isV H' p v:=by
 cases k with
 | s => exact h
 | t => obtain ⟨t,rfl,ht⟩:=h; exact ⟨t,rfl,s _ _ ht⟩
 | b => exact h
theorem K3.nt : ∀ xs,k.mk P w d kvs ≠ .tup xs:=fun xs z => by cases k <;> cases z
theorem K3.objEmpty (h : Heap) (hb : sysModules < h.objs.size) : ObjOk P w H (h.push { cls:=.type "dict",data:=.dict #[] }) h.objs.size (k.mk P w h.objs.size []):=by
 cases k with
 | s => exact dk_empty h hb
 | t => exact dt_empty h hb
 | b => exact db_obj (Nat.zero_le _) (beq_eq_false_iff_ne.mpr (Ne.symm (Nat.ne_of_lt hb))) .nil (Heap.DictOf.new h)
end
noncomputable def tNew3 (P : Program) (w : World) (k : K3) : TE:=fun _ H Q => ∀ p,H p = none -> Q (.ref p) (upd H p (k.mk P w p []))
noncomputable def tNotIn3 (P : Program) (w : World) (k : K3) (ty td : TE) : TE:=fun σ H Q => ty σ H fun y H1 => td σ H1 fun x H2 => ∃ a kvs p,x = .ref a /\ H2 a = some (k.mk P w a kvs) /\ k.isV H2 p y /\ Q (.bl (!(valV kvs p).isSome)) H2
noncomputable def tGet3 (P : Program) (w : World) (k : K3) (td ty : TE) : TE:=fun σ H Q => td σ H fun x H1 => ty σ H1 fun y H2 => ∃ a kvs p v,x = .ref a /\ H2 a = some (k.mk P w a kvs) /\ k.isV H2 p y /\ valV kvs p = some v /\ Q v H2
noncomputable def sPut3 (P : Program) (w : World) (k : K3) (td ty tv : TE) : TS:=fun D σ H => tv σ H fun v H1 => td σ H1 fun x H2 => ty σ H2 fun y H3 => ∃ a kvs p,x = .ref a /\ H3 a = some (k.mk P w a kvs) /\ k.isV H3 p y /\ kvs.length < sizeLine /\ D.nx σ (upd H3 a (k.mk P w a (putK kvs p v)))
theorem isBl_self (b : Bool) : isBl b (.bool b) = true:=by show (b == b) = true; simp
section
variable {X : Cx} {o i value : Expr} {pos pos' : Pos} {td ty tv : TE} {k : K3}
theorem pe_new3 (k : K3) : PE X (.Dict [] [] pos) (tNew3 X.prog X.w k):=fun pins s σ H Q I h =>
 wpAny_Dict_empty ⟨.ref s.heap.objs.size,_,I.laid (a:=s.heap.objs.size) (o:=k.mk X.prog X.w s.heap.objs.size []) (t':=s.toks) (fun _ _ q => Heap.get?_push_of_some _ q) (Nat.le_refl _) (K3.objEmpty s.heap I.big),rfl,h _ (I.hok.fresh (Nat.le_refl _))⟩
theorem pc_notin3 (k : K3) (hu : X.A.units + 1 < cLine) (hi : PE X i ty) (ho : PE X o td) : PC X .NotIn i o (tNotIn3 X.prog X.w k ty td):=by
 intro pins s σ H Q I h
 refine thn (hi pins s σ H _ I h) ?_
 rintro iv s1 ⟨y,H1,I1,ry,q1⟩
 refine thn (ho pins s1 σ H1 _ I1 q1) ?_
 rintro u s2 ⟨x,H2,I2,rx,a,kvs,p,ex,e,hp,q2⟩
 subst ex
 obtain rfl : u = Value.ref a:=rx
 cases k with
 | s =>
  have hp : y = kV p:=hp
  subst hp
  exact d_notIn hu I2 (DGet.k e) ry fun s3 I3 => ⟨.bl (!(valV kvs p).isSome),H2,I3,rfl,q2⟩
 | t =>
  obtain ⟨t,rfl,ht⟩:=hp
  exact d_notIn hu I2 (DGet.t e ht) ry fun s3 I3 => ⟨.bl (!(valV kvs p).isSome),H2,I3,rfl,q2⟩
 | b =>
  have hp : y = .bl p:=hp
  subst hp
  obtain rfl : iv = Value.bool p:=ry
  obtain ⟨⟨z,hd,vs,rel,dd⟩,_⟩:=I2.hok a _ e
  refine wpAny_notIn_of (knd:=boolKind X.prog X.w) (isBl_self p) hd dd.mapOf ?_
  rw [<- (rel.val p).isSome_eq]
  exact ⟨.bl (!(valV kvs p).isSome),H2,I2.tok _,rfl,q2⟩
theorem pe_get3 (k : K3) (hu : X.A.units + 1 < cLine) (ho : PE X o td) (hi : PE X i ty) (hs : NoSl i) : PE X (.Subscript o i pos) (tGet3 X.prog X.w k td ty):=by
 intro pins s σ H Q I h
 refine subD_of PySem.F.slot_dict_getitem.lookup hs (thn (ho pins s σ H _ I h) ?_)
 rintro u s1 ⟨x,H1,I1,rx,q1⟩
 refine thn (hi pins s1 σ H1 _ I1 q1) ?_
 rintro iv s2 ⟨y,H2,I2,ry,a,kvs,p,v,ex,e,hp,hv,q2⟩
 subst ex
 obtain rfl : u = Value.ref a:=rx
 cases k with
 | s =>
  have hp : y = kV p:=hp
  subst hp
  have g : DGet H2 a (kV p) (some v):=by have:=DGet.k (k:=p) e; rw [show valV kvs p = some v from hv] at this; exact this
  exact ⟨dict_typeIs I2 g,d_getItem hu I2 g ry fun w' s3 I3 rw' => ⟨v,H2,I3,rw',q2⟩⟩
 | t =>
  obtain ⟨t,rfl,ht⟩:=hp
  have g : DGet H2 a (.ref t) (some v):=by have:=DGet.t (k:=p) e ht; rw [show valV kvs p = some v from hv] at this; exact this
  exact ⟨dict_typeIs I2 g,d_getItem hu I2 g ry fun w' s3 I3 rw' => ⟨v,H2,I3,rw',q2⟩⟩
 | b =>
  have hp : y = .bl p:=hp
  subst hp
  obtain rfl : iv = Value.bool p:=ry
  obtain ⟨⟨z,hd,vs,rel,dd⟩,_⟩:=I2.hok a _ e
  obtain ⟨w',hw,rw'⟩:=RelO.some_of (v:=v) (o:=valueAt vs p) (by rw [<- show valV kvs p = some v from hv]; exact rel.val p)
  exact ⟨dd.typeIs,wpAny_getItem_of (knd:=boolKind X.prog X.w) (isBl_self p) dd.mapOf hw ⟨v,H2,I2.tok _,rw',q2⟩⟩
theorem ps_put3 (k : K3) (hu : X.A.units + 1 < cLine) (ho : PE X o td) (hi : PE X i ty) (hv : PE X value tv) (hs : swapsWith value (some (.Subscript o i pos')) pos.line X.env = pure false) :
  PS X (.Assign [.Subscript o i pos'] value pos) (sPut3 X.prog X.w k td ty tv):=by
 intro pins s σ H D I h
 refine wpAny_Assign_Subscript (thn (hv pins s σ H _ I h) ?_) hs
 rintro r s1 ⟨v,H1,I1,rv,q1⟩
 refine thn (ho pins s1 σ H1 _ I1 q1) ?_
 rintro u s2 ⟨x,H2,I2,rx,q2⟩
 refine thn (hi pins s2 σ H2 _ I2 q2) ?_
 rintro iv s3 ⟨y,H3,I3,ry,a,kvs,p,ex,e,hp,hl,q3⟩
 subst ex
 obtain rfl : u = Value.ref a:=rx
 cases k with
 | s =>
  have hp : y = kV p:=hp
  subst hp
  exact d_setItem hu I3 (DPut.k e hl) ry rv fun s4 I4 => ⟨σ,_,I4,q3⟩
 | t =>
  obtain ⟨t,rfl,ht⟩:=hp
  exact d_setItem hu I3 (DPut.t e ht hl) ry rv fun s4 I4 => ⟨σ,_,I4,q3⟩
 | b =>
  have hp : y = .bl p:=hp
  subst hp
  obtain rfl : iv = Value.bool p:=ry
  obtain ⟨⟨z,hd,vs,rel,dd⟩,_⟩:=I3.hok a _ e
  have hz : vs.length <= sizeLine:=by rw [<- rel.length]; exact z
  have hl' : (putK kvs p v).length <= sizeLine:=by have:=length_putK kvs p v; have hl : kvs.length < sizeLine:=hl; omega
  refine wpAny_setItem_pairs (knd:=boolKind X.prog X.w) (hsz:=hz) (isBl_self p) dd fun h' dd' hsb => ⟨σ,_,?_,q3⟩
  have he : ∃ q,h'.get? a = some q:=let ⟨q,_,_,hq,_⟩:=dd'; ⟨q,hq⟩
  exact d_write I3 (by rw [e]; exact True.intro) hsb he (db_obj hl' hd (rel.put p rv) dd')
end
theorem boot_dict1 : bootBuiltins ("dict" : Str) = some (.type "dict"):=by kernel_rfl
theorem call_dictOf {X : Cx} : CallR X (.type "dict") (fun xs H Q => ∃ a kvs,xs = [V.ref a] /\ H a = some (.dK kvs) /\ ∀ p,H p = none -> Q (.ref p) (upd H p (.dK kvs))):=by
 intro pins s σ H xs us Q I r h
 obtain ⟨a,kvs,rfl,ha,q⟩:=h
 obtain ⟨u,rfl,ru⟩:=vals1 r
 cases ru
 exact d_copyOf I (.inl ha) fun p s' hp I' => ⟨.ref p,_,I',rfl,q p hp⟩
noncomputable def tr (R : List Nat) : List (Key × V):=R.map fun r : Nat => (Sum.inl (r : Int),V.bl true)
theorem argBest_spec (val : Nat -> Int) : ∀ k,argBest (fun i j => decide (val i < val j)) k <= k /\ ∀ j,j <= k -> val (argBest (fun i j => decide (val i < val j)) k) <= val j
 | 0 => by
  refine ⟨Nat.le_refl _,fun j hj => ?_⟩
  have : j = 0:=by omega
  subst this
  exact Int.le_refl _
 | k + 1 => by
  obtain ⟨h1,h2⟩:=argBest_spec val k
  show (if decide (val (k + 1) < val (argBest (fun i j => decide (val i < val j)) k)) = true then k + 1 else argBest (fun i j => decide (val i < val j)) k) <= k + 1 /\ ∀ j,j <= k + 1 -> val (if decide (val (k + 1) < val (argBest (fun i j => decide (val i < val j)) k)) = true then k + 1 else argBest (fun i j => decide (val i < val j)) k) <= val j
  generalize argBest (fun i j => decide (val i < val j)) k = m at h1 h2
  by_cases h : val (k + 1) < val m
  ·rw [if_pos (decide_eq_true h)]
   refine ⟨Nat.le_refl _,fun j hj => ?_⟩
   by_cases e : j = k + 1
   ·rw [e]; exact Int.le_refl _
   ·have:=h2 j (by omega); omega
  ·rw [if_neg (by rw [decide_eq_false h]; exact Bool.false_ne_true)]
   refine ⟨by omega,fun j hj => ?_⟩
   by_cases e : j = k + 1
   ·rw [e]; omega
   ·exact h2 j (by omega)
theorem boot_min1 : bootBuiltins ("min" : Str) = some (.builtin "min"):=by kernel_rfl
theorem call_minD {X : Cx} (hcalm : X.calm = true) : CallR X (.builtin "min") (fun xs H Q => ∃ (a : Addr) (R : List Nat),xs = [V.ref a] /\ H a = some (.dK (tr R)) /\ R ≠ [] /\ ∀ m ∈ R,(∀ x ∈ R,m <= x) -> Q (.int (m : Int)) H):=by
 intro pins s σ H xs us Q I r h
 obtain ⟨a,R,rfl,ha,hne,q⟩:=h
 obtain ⟨u,rfl,ru⟩:=vals1 r
 cases ru
 obtain ⟨hz,hsm,vs,rk,hd⟩:=dk_of I.hok ha
 obtain ⟨o,es,ep,ho,hex,hdd,hk,hp,hn⟩:=id hd
 have hh:=I.ok.hd hcalm
 have hlen : vs.length = R.length:=by rw [<- rk.length,tr,List.length_map]
 have hpos : 0 < R.length:=List.length_pos_iff.mpr hne
 have hm : s.heap.DictAt (mixKind X.prog X.w) a vs ep:=⟨o,es,ho,hex,hdd,hk,hp,hn⟩
 have hlt : a < s.heap.objs.size:=Heap.lt_size ho
 have hval : ∀ i v,(∃ k x,vs[i]? = some (k,x) /\ (mixKind X.prog X.w).is k v = true) -> ∃ t,v = Value.int ((R.getD i 0 : Nat) : Int) t:=by
  rintro i v ⟨k,x,e1,e2⟩
  have hi : i < R.length:=by rw [<- hlen]; exact (List.getElem?_eq_some_iff.mp e1).1
  have e3 : (tr R)[i]? = some (Sum.inl ((R.getD i 0 : Nat) : Int),V.bl true):=by
   rw [tr,List.getElem?_map,List.getD_eq_getElem?_getD]
   simp [hi]
  have:=(paired_at rk e3 e1).1
  have this : Sum.inl ((R.getD i 0 : Nat) : Int) = k:=this
  subst this
  exact rel_of_is e2
 refine call_min_walk ?_
 refine wpAny_pyIter_dict hsm hm ?_
 refine ⟨s.heap.objs.size,_,_,_,_,_,_,rfl,Walks.dictKeys (show X.A.in1.handled = none from hh) s.heap.objs.size a (Nat.ne_of_lt hlt) vs ep,⟨⟨_,Heap.get?_push_size _ rfl,rfl,rfl⟩,hm.push _⟩,fun b hb => ?_,by rw [hlen]; exact hpos,CmpOf.ints_lt (fun i => ((R.getD i 0 : Nat) : Int)) hval,fun v h' tk hP hk' => ?_⟩
 ·have hsz : (s.heap.push { cls:=.type "dict_keyiterator",data:=.fields #[.ref a,.int 0 0,.int vs.length 0,.int ep 0] }).objs.size = s.heap.objs.size + 1:=Heap.size_push ..
  show b < (s.heap.push { cls:=.type "dict_keyiterator",data:=.fields #[.ref a,.int 0 0,.int vs.length 0,.int ep 0] }).objs.size
  rw [hsz]
  rcases List.mem_cons.mp hb with e | e
  ·rw [e]; exact Nat.lt_succ_self _
  ·rw [List.mem_singleton.mp e]; exact Nat.lt_succ_of_lt hlt
 ·obtain ⟨b1,b2⟩:=argBest_spec (fun i => ((R.getD i 0 : Nat) : Int)) (vs.length - 1)
  obtain ⟨t,rfl⟩:=hval _ _ hP
  have I1 : Inv X pins σ H { s with heap:=s.heap.push { cls:=.type "dict_keyiterator",data:=.fields #[.ref a,.int 0 0,.int vs.length 0,.int ep 0] } }:=I.kept (t':=s.toks) fun b u e => Heap.get?_push_of_some _ e
  have I2:=I1.turnedAll (t':=tk) (h':=h') (ch:=[s.heap.objs.size]) (fun b hb => by rw [List.mem_singleton.mp hb]; exact I.fpOk (Nat.le_refl _) (I.hok.fresh (Nat.le_refl _))) (fun b u hb eb => hk' b u hb eb)
  refine ⟨.int _,H,I2,⟨t,rfl⟩,?_⟩
  generalize argBest (fun i j => decide (((R.getD i 0 : Nat) : Int) < ((R.getD j 0 : Nat) : Int))) (vs.length - 1) = m at b1 b2
  have hmR : m < R.length:=by rw [hlen] at b1; omega +splitDisjunctions
  have em : R.getD m 0 = R[m]:=by rw [List.getD_eq_getElem?_getD]; simp [hmR]
  rw [em] at b2 ⊢
  refine q _ (List.getElem_mem hmR) fun x hx => ?_
  obtain ⟨j,hj,ej⟩:=List.mem_iff_getElem.mp hx
  have:=b2 j (by rw [hlen]; omega +splitDisjunctions)
  have ej' : R.getD j 0 = x:=by rw [List.getD_eq_getElem?_getD]; simp [hj,ej]
  rw [ej'] at this
  omega +splitDisjunctions
end L2
set_option maxHeartbeats 4000000
namespace L2
open PySem PySem.Spec PySem.W PyProof.Rows
theorem vals_of : ∀ {xs : List V} {us : List Value},xs.length = us.length -> (∀ (i : Nat) x u,xs[i]? = some x -> us[i]? = some u -> RelV x u) -> Vals xs us
 | [],[],_,_ => .nil
 | [],_ :: _,h,_ => by cases h
 | _ :: _,[],h,_ => by cases h
 | x :: xs,u :: us,h,k => .cons (k 0 x u rfl rfl) (vals_of (Nat.succ.inj h) fun i y v e1 e2 => k (i + 1) y v (by simpa using e1) (by simpa using e2))
theorem kdl_raw {prog : Program} {w : World} {r d : Addr} {es : Array DictEntry} {ep : Nat} : KdlSrc prog w "dict_values" r d es.size (fun i v => ∃ e,es[i]? = some e /\ v = e.val) (fun h => h.IsValuesView r d /\ RawD h d es ep) where
 type:=fun s hm => hm.1.typeIs
 there:=fun h hm => ⟨let ⟨_,ho,_⟩:=hm.1; Heap.lt_size ho,hm.2.lt⟩
 keep:=fun h h' hm hk => ⟨let ⟨o,ho,x⟩:=hm.1; ⟨o,hk r (.inl rfl) o ho,x⟩,hm.2.at fun o e => hk d (.inr rfl) o e⟩
 notList:=by decide
 notTuple:=by decide
 hint:=fun A E s Q hm hq => kdl_hint_values hm.1.typeIs hq
 iter:=fun A s hh hm => ⟨_,_,(fun _ _ hq => raw_iter hm.1 hm.2 hq),Walks.rawVals hh (Nat.ne_of_lt hm.2.lt),⟨⟨_,Heap.get?_push_size _ rfl,rfl,rfl⟩,hm.2.at fun o e => Heap.get?_push_of_some _ e⟩⟩
theorem pairs_raw {P : Program} {w : World} {κ : Type} [DecidableEq κ] {knd : KeyKind P w κ} {h : Heap} {d : Addr} {kvs : List (κ × V)} {vs : List (κ × Value)} (rel : KV kvs vs) (dd : h.DictOf knd d vs) :
  ∃ es ep,RawD h d es ep /\ es.size = kvs.length /\ ∀ (i : Nat) kv en,kvs[i]? = some kv -> es[i]? = some en -> RelV kv.2 en.val:=by
 obtain ⟨o,es,ep,ho,hex,hda,hk,hp,hn⟩:=dd
 have hsz : es.size = vs.length:=by rw [<- hp.length]; simp
 refine ⟨es,ep,⟨o,ho,hex,hda⟩,by rw [hsz,rel.length],fun i kv en e1 e2 => ?_⟩
 have hi : i < vs.length:=by rw [<- rel.length]; exact (List.getElem?_eq_some_iff.mp e1).1
 have e3 : vs[i]? = some vs[i]:=by simp [hi]
 have r:=(paired_at rel e1 e3).2
 have:=(hp.get? (e:=en) (by rw [Array.getElem?_toList]; exact e2) (k:=vs[i].1) (v:=vs[i].2) e3).2
 rw [this]
 exact r
theorem K3.raw {P : Program} {w : World} {H : Hp} {h : Heap} {d : Addr} {k : K3} {kvs : List (k.κ × V)} (ok : HOk P w H h) (e : H d = some (k.mk P w d kvs)) :
  kvs.length <= sizeLine /\ (d == sysModules) = false /\ ∃ es ep,RawD h d es ep /\ es.size = kvs.length /\ ∀ (i : Nat) kv en,kvs[i]? = some kv -> es[i]? = some en -> RelV kv.2 en.val:=by
 cases k with
 | s =>
  obtain ⟨z,hd,vs,rel,dd⟩:=dk_of ok e
  exact ⟨z,hd,pairs_raw rel dd⟩
 | t =>
  obtain ⟨z,hd,xs,rel,o,es,ep,ho,hex,hda,hes,_,hn⟩:=dt_of ok e
  have hsz : es.size = xs.length:=by
   have:=congrArg List.length hes
   rw [List.length_map] at this
   simpa using this
  refine ⟨z,hd,es,ep,⟨o,ho,hex,hda⟩,by rw [hsz]; exact (Paired.length rel).symm,fun i kv en e1 e2 => ?_⟩
  have e3 : (xs.map (entryOfKey (tupleKind (mixKind P w))))[i]? = some en:=by rw [<- hes,Array.getElem?_toList]; exact e2
  rw [List.getElem?_map] at e3
  cases hx : xs[i]? with
  | none => rw [hx] at e3; cases e3
  | some x =>
   rw [hx] at e3
   cases e3
   exact (paired_at rel e1 hx).2.2
 | b =>
  obtain ⟨⟨z,hd,vs,rel,dd⟩,_⟩:=ok d _ e
  exact ⟨z,hd,pairs_raw rel dd⟩
theorem boot_listV : bootBuiltins ("list" : Str) = some (.type "list"):=by kernel_rfl
noncomputable def tVals (P : Program) (w : World) (k : K3) (te : TE) : TE:=fun σ H Q => te σ H fun x H1 => ∃ a kvs,x = .ref a /\ H1 a = some (k.mk P w a kvs) /\ ∀ l,H1 l = none -> Q (.ref l) (upd H1 l (.lst (kvs.map (·.2))))
theorem pe_listVals (k : K3) {X : Cx} {e : Expr} {te : TE} {p p1 ap cp : Pos} (hg : Gl X "list") (hm : X.mg "list" = none) (hcalm : X.calm = true) (he : PE X e te)
  (hs : autoParam (starEach [.Call (.Attribute e "values" ap) [] [] cp] X.env = (false,eval (.Call (.Attribute e "values" ap) [] [] cp) X.env) :: starEach [] X.env) L2.au1._auto_1)
  (hbase : autoParam (attributeBase e "values" X.env (eval e X.env) = eval e X.env) L2.au1._auto_1) (hline : autoParam ((ap.endLine == cp.line) = true) L2.au1._auto_1) :
  PE X (.Call (.Name "list" p) [.Call (.Attribute e "values" ap) [] [] cp] [] p1) (tVals X.prog X.w k te):=by
 intro pins s σ H Q I h
 refine wpAny_Call_Name_kw (ld_blt I hg hm boot_listV ?_ (by decide) (by decide))
 refine PyProof.Rows.callWith_type1 ?_ hs rfl
 refine Calls.spliced_cons ?_
 refine wpAny_Call_method0_late hbase hline (thn (he pins s σ H _ I h) ?_)
 rintro v s1 ⟨x,H1,I1,rx,a,kvs,ex,ea,q⟩
 subst ex
 cases rx
 obtain ⟨z,hd,es,ep,raw,hsz,hvals⟩:=K3.raw I1.hok ea
 obtain ⟨o,ho,hex,hda⟩:=id raw
 refine ⟨"dict","dict.values",PySem.F.plainAttrs_dict,PySem.F.slot_dict_values,PySem.F.type_dict_values,raw.typeIs,fun b eb => by cases eb; exact ⟨o,ho,hex.2.1⟩,Calls.callWith_builtin rfl (PySem.evalArgs_none (raw_values hd raw ?_))⟩
 refine Calls.spliced_nil ?_
 have I2 : Inv X pins σ H1 { s1 with heap:=s1.heap.push { cls:=.type "dict_values",data:=.fields #[.ref a] } }:=I1.kept (t':=s1.toks) fun b u eb => Heap.get?_push_of_some _ eb
 refine kdl_call (kdl_raw (r:=s1.heap.objs.size) (d:=a) (es:=es) (ep:=ep)) (I1.ok.hd hcalm) ⟨⟨_,Heap.get?_push_size _ rfl,rfl,rfl⟩,raw.at fun o eo => Heap.get?_push_of_some _ eo⟩ (by rw [hsz]; exact z) fun h' tk acc c' hk hD hacc => ?_
 have hal : acc.size = kvs.length:=by rw [hacc.1,hsz]
 refine ⟨.ref _,_,I2.laid (t':=tk) (h':=h') (a:=(s1.heap.push { cls:=.type "dict_values",data:=.fields #[.ref a] }).objs.size) (o:=.lst (kvs.map (·.2))) (fun b u eb => hk b u eb) (Nat.le_refl _) ⟨by rw [List.length_map]; exact z,acc.toList,c',?_,by simpa using hD⟩,rfl,q _ (I2.hok.fresh (Nat.le_refl _))⟩
 refine vals_of (by rw [List.length_map,<- hal]; exact (Array.length_toList ..).symm) fun i x u e1 e2 => ?_
 rw [List.getElem?_map] at e1
 cases hkv : kvs[i]? with
 | none => rw [hkv] at e1; cases e1
 | some kv =>
  rw [hkv] at e1
  cases e1
  obtain ⟨en,e3,rfl⟩:=hacc.2 i u (by rw [<- Array.getElem?_toList]; exact e2)
  exact hvals i kv en hkv e3
noncomputable abbrev Dq:=Addr × List (Key × V)
noncomputable def tSortLen (te : TE) : TE:=fun σ H Q => te σ H fun x H1 => ∃ (p : Addr) (qs : List Dq),x = .ref p /\ H1 p = some (.lst (qs.map fun q => V.ref q.1)) /\ (∀ q ∈ qs,H1 q.1 = some (.dK q.2)) /\ qs.length < 64 /\
 ∀ (l : Addr) (rs : List Dq),H1 l = none -> rs.Perm qs -> rs.Pairwise (fun a b => b.2.length <= a.2.length) -> Q (.ref l) (upd H1 l (.lst (rs.map fun q => V.ref q.1)))
theorem vals_refs : ∀ {qs : List Dq} {us : List Value},Vals (qs.map fun q => V.ref q.1) us -> us = qs.map fun q => Value.ref q.1
 | [],_,.nil => rfl
 | q :: qs,_,.cons r t => by
  have r : _ = Value.ref q.1:=r
  rw [r,vals_refs t]
  rfl
theorem refs_vals : ∀ (qs : List Dq),Vals (qs.map fun q => V.ref q.1) (qs.map fun q => Value.ref q.1)
 | [] => .nil
 | q :: qs => .cons rfl (refs_vals qs)
theorem perm_lift {α β : Type} {f : α -> β} {l m : List β} (h : l.Perm m) : ∀ qs : List α,l = qs.map f -> ∃ rs : List α,rs.Perm qs /\ m = rs.map f:=by
 induction h with
 | nil =>
  intro qs e
  cases qs with
  | nil => exact ⟨[],.refl _,rfl⟩
  | cons q qs => cases e
 | cons x h ih =>
  intro qs e
  cases qs with
  | nil => cases e
  | cons q qs =>
   injection e with e1 e2
   obtain ⟨rs,h1,h2⟩:=ih qs e2
   exact ⟨q :: rs,h1.cons q,by rw [List.map_cons,<- h2,<- e1]⟩
 | swap x y l =>
  intro qs e
  match qs,e with
  | [],e => cases e
  | [q],e => injection e with e1 e2; cases e2
  | q1 :: q2 :: qs,e =>
   injection e with e1 e2
   injection e2 with e2 e3
   exact ⟨q2 :: q1 :: qs,.swap _ _ _,by rw [List.map_cons,List.map_cons,<- e1,<- e2,<- e3]⟩
 | trans _ _ i1 i2 =>
  intro qs e
  obtain ⟨rs,a,b⟩:=i1 qs e
  obtain ⟨ts,c,d⟩:=i2 rs b
  exact ⟨ts,c.trans a,d⟩
theorem zip_maps {α β γ : Type} (f : α -> β) (g : α -> γ) : ∀ l : List α,(l.map f).zip (l.map g) = l.map fun a => (f a,g a)
 | [] => rfl
 | a :: l => by
  rw [List.map_cons,List.map_cons,List.zip_cons_cons,zip_maps f g l]
  rfl
theorem ObjOk.obj {P : Program} {w : World} {H : Hp} {h : Heap} {a : Addr} {o : HO} (x : ObjOk P w H h a o) : ∃ ob,h.get? a = some ob:=by
 cases o with
 | lst xs => obtain ⟨_,_,_,_,e⟩:=x; exact ⟨_,e⟩
 | tup xs => obtain ⟨_,_,_,ob,e,_⟩:=x; exact ⟨_,e⟩
 | dK kvs => obtain ⟨_,_,_,_,o,_,_,e,_⟩:=x; exact ⟨_,e⟩
 | dT kvs => obtain ⟨_,_,_,_,o,_,_,e,_⟩:=x; exact ⟨_,e⟩
 | set S n => obtain ⟨o,_,_,_,e,_⟩:=x; exact ⟨_,e⟩
 | ins C dx fs => obtain ⟨_,_,_,e,_⟩:=x; exact ⟨_,e⟩
 | own y => exact x
 | xd fs => obtain ⟨_,⟨_,_,_,e,_⟩,_⟩:=x; exact ⟨_,e⟩
 | rng lo hi => obtain ⟨_,_,_,e⟩:=x; exact ⟨_,e⟩
 | frz ob u => obtain ⟨e,_⟩:=x; exact ⟨_,e⟩
 | tbl ps => exact ⟨_,(show h.get? a = some _ from x)⟩
 | met f y => exact ⟨_,(show h.get? a = some _ from x)⟩
 | ext φ => obtain ⟨_,e,_⟩:=x; exact e
theorem Inv.ledger {X : Cx} {pins : List (Addr × Obj)} {σ : St} {H : Hp} {s : Shared} {h' : Heap} {tk : Nat} {m : Str -> Option Value} {D : Addr} {oD : Obj} {ho : HO} (I : Inv X pins σ H s) (F : Fr X.base X.env.locals s.heap m) (F' : Fr X.base X.env.locals h' m)
  (N' : News X.base X.env.locals h' ((D,oD) :: allNews X.base s.heap X.env.locals)) (hD : ∀ q ∈ allNews X.base s.heap X.env.locals,q.1 < D) (new : h'.get? D = some oD -> ObjOk X.prog X.w (upd H D ho) h' D ho) :
  H D = none /\ Inv X pins σ (upd H D ho) { s with heap:=h',toks:=tk }:=by
 have hkeep : ∀ b o,b ≠ X.env.locals -> s.heap.get? b = some o -> h'.get? b = some o:=fun b o hb eb => by
  cases eg : X.base.get? b with
  | some ob =>
   have:=I.bk b ob eg
   rw [eb] at this
   cases this
   exact F'.keep b _ eg
  | none => exact (N' (b,o) (List.mem_cons_of_mem _ (mem_allNews hb eg eb))).1
 obtain ⟨gD,nL,nB⟩:=N' (D,oD) (List.mem_cons_self ..)
 have gD : h'.get? D = some oD:=gD
 have hDn : s.heap.get? D = none:=by
  cases e : s.heap.get? D with
  | none => rfl
  | some o => exact absurd (hD _ (mem_allNews nL nB e)) (Nat.lt_irrefl _)
 have hHD : H D = none:=by
  cases e : H D with
  | none => rfl
  | some u =>
   obtain ⟨ob,eo⟩:=(I.hok D u e).obj
   rw [hDn] at eo
   cases eo
 refine ⟨hHD,I.step (g':=s.gens) (d':=s.drawn) (ch:=[]) (fun _ z => nomatch z) (fun b o hb _ _ e _ => hkeep b o hb e) (fun b o hb _ _ e _ => ⟨o.slots,hkeep b o hb e⟩) (fun b o _ e n => ?_) (fun b o _ e => ?_) (fun b xs e => ?_) (fun b o u e => ?_) (fun b ps e => ⟨#[],?_⟩) (fun m' hm => ?_) (fun b u e => ?_) I.bare⟩
 ·rw [upd_ne (fun z => by rw [z,hDn] at e; cases e)]
  exact n
 ·by_cases hb : b = X.env.locals
  ·rw [hb]
   obtain ⟨o',_,_,e',_⟩:=F'.ns
   exact ⟨o',e'⟩
  ·exact ⟨o,hkeep b o hb e⟩
 ·rw [upd_ne (ne_of_none e hHD)]; exact e
 ·rw [upd_ne (ne_of_none e hHD)]; exact e
 ·rw [upd_ne (ne_of_none e hHD),e]; simp
 ·have : m' = m:=funext fun x => hm.agree F.ns x
  rw [this]
  exact F'.ns
 ·by_cases hb : b = D
  ·subst hb
   rw [upd_same] at e
   cases e
   exact new gD
  ·rw [upd_ne hb] at e
   refine (I.hok b u e).stay (fun c v hc q => hkeep c v (fun z => ?_) q) (fun c q => by rw [upd_ne (ne_of_none q hHD)]; exact q) fun c xs q => by rw [upd_ne (ne_of_none q hHD)]; exact q
   rcases hc with hc | hc
   ·rw [hc] at z
    rw [z,I.free] at e
    cases e
   ·rw [z,I.free] at hc
    cases hc
theorem pe_sortLen {X : Cx} {e : Expr} {te : TE} {p p1 p2 p3 p4 p5 : Pos} {j} (hgs : Gl X "sorted") (hms : X.mg "sorted" = none) (hgl : Gl X "len") (hml : X.mg "len" = none) (hx : PE X e te)
  (hs : autoParam (starEach [e] X.env = (false,eval e X.env) :: starEach [] X.env) L2.au1._auto_1) :
  PE X (.Call (.Name "sorted" p) [e] [⟨some "key",.Name "len" p2,p3⟩,⟨some "reverse",.Constant (.bool true) j p4,p5⟩] p1) (tSortLen te):=by
 intro pins s σ H Q I h
 refine wpAny_Call_Name_kw (ld_blt I hgs hms boot_sorted ?_ (by decide) (by decide))
 refine callWith_kw (thn (pa_cons hx pa_nil hs p1 pins s σ H (fun vs H2 => match vs with
  | [y] => ∃ (p : Addr) (qs : List Dq),y = .ref p /\ H2 p = some (.lst (qs.map fun q => V.ref q.1)) /\ (∀ q ∈ qs,H2 q.1 = some (.dK q.2)) /\ qs.length < 64 /\
    ∀ (l : Addr) (rs : List Dq),H2 l = none -> rs.Perm qs -> rs.Pairwise (fun a b => b.2.length <= a.2.length) -> Q (.ref l) (upd H2 l (.lst (rs.map fun q => V.ref q.1)))
  | _ => False) I h) fun us s2 ⟨vs,H2,I2,r2,q2⟩ => ?_) (by rw [hs]; rfl) (by rw [hs]; rfl)
 match vs,r2,q2 with
 | [y],r2,q2 =>
 obtain ⟨l,qs,ey,hl,hqs,h64,q⟩:=q2
 cases r2 with
 | cons ra rn =>
  cases rn
  subst ey
  cases ra
  refine kws_cons (ld_blt I2 hgl hml PySem.boot_len ?_ (by decide) (by decide))
  refine kws_cons (Constant_bool (kws_nil ?_))
  show wpAny _ _ (call (.builtin "sorted") [.ref l] [(Str.ofString "key",.builtin "len"),(Str.ofString "reverse",.bool true)]) _ _ _
  obtain ⟨zl,its,n,rv,hol⟩:=I2.hok l _ hl
  have eits:=vals_refs rv
  obtain ⟨m,F⟩:=I2.fr
  have hlen : (qs.map fun q => (q.2.length : Int)).length = (qs.map fun q => Value.ref q.1).length:=by rw [List.length_map,List.length_map]
  refine ksk_sorted (kz:=qs.map fun q => (q.2.length : Int)) (vs:=qs.map fun q => Value.ref q.1) (b:=true) (f:=.builtin "len") F (news_all (g:=X.base) (h:=s2.heap) (L:=X.env.locals)) ⟨_,hol,rfl,n,by rw [eits]⟩ hlen (by rw [List.length_map]; exact h64) (ksk_s2 _ _ _) (fun x => ksk_l2 _ _ _) (fun x => ksk_t5 _ _ _) ?turn ?done
  case turn =>
   intro i v k e1 e2 h' tk own F' N'
   rw [List.getElem?_map] at e1 e2
   cases hq : qs[i]? with
   | none => rw [hq] at e1; cases e1
   | some qq =>
    rw [hq] at e1 e2
    cases e1
    cases e2
    have hd:=hqs qq (List.mem_of_getElem? hq)
    obtain ⟨z,hsm,vs',rel,od,es,ep,hod,rest⟩:=dk_of I2.hok hd
    have hne : qq.1 ≠ X.env.locals:=fun z' => by rw [z',I2.free] at hd; cases hd
    have hb : X.base.get? qq.1 = none:=by
     cases eb : X.base.get? qq.1 with
     | none => rfl
     | some ob => have:=(I2.bs _ _ eb).2; rw [hd] at this; cases this
    have hmem:=mem_allNews hne hb hod
    have hod' : h'.get? qq.1 = some od:=(N' _ (List.mem_append_left _ hmem)).1
    refine call_len_dict (knd:=mixKind X.prog X.w) (s:={ s2 with heap:=h',toks:=tk }) hsm ⟨od,es,ep,hod',rest⟩ (by rw [<- rel.length]; rw [sizeLine_eq] at z; omega +splitDisjunctions) ?_
    rw [<- rel.length]
    exact ⟨h',_,_,rfl,rfl,F',N'⟩
  case done =>
   intro D h' tk out c F' N' hD ko
   obtain ⟨ps,hp,ho,hpw⟩:=ko
   rw [zip_maps] at hp
   obtain ⟨rs,hrs,hps⟩:=perm_lift hp.symm qs rfl
   have hout : out.toList = rs.map fun q => Value.ref q.1:=by rw [ho,hps,List.map_map]; rfl
   have hrl : rs.length = qs.length:=hrs.length_eq
   obtain ⟨hDn,I3⟩:=I2.ledger (tk:=tk) (ho:=.lst (rs.map fun q => V.ref q.1)) F F' N' hD fun gD => ⟨by rw [List.length_map,sizeLine_eq]; omega +splitDisjunctions,out.toList,c,by rw [hout]; exact refs_vals rs,by rw [gD]⟩
   refine ⟨.ref D,_,I3,rfl,q D rs hDn hrs ?_⟩
   rw [hps,List.pairwise_map] at hpw
   refine hpw.imp fun {a b} hab => ?_
   have hab : (b.2.length : Int) <= (a.2.length : Int):=hab
   omega +splitDisjunctions
end L2
set_option maxHeartbeats 4000000
namespace PySem
open Sem (wp)
section
variable {prog : Program} {w : World} {A : Around} {E : Value -> Shared -> Prop} {s : Shared} {I : Addr} {fp wr : List Addr} {G : Array GenState -> Array GenState -> Prop} {n : Nat} {P : Nat -> Value -> Prop} {St : Nat -> Shared -> Prop}
end
end PySem
namespace L2
open PySem PySem.Spec PySem.W PyProof.Rows
end L2
set_option maxHeartbeats 4000000
namespace PySem
open Sem (wp)
theorem miss_list_keys : typeLookup (.type "list") "keys" = pure none:=by rw [typeLookup_type,builtinLookup_eq_fast]; kernel_rfl
theorem plain_upd_loop : plainId "dict.update.loop" = true:=by decide +kernel
theorem entry_upd_loop : entryFor table "dict.update.loop" = some Builtin.«dict.update.loop»:=entryFor_of_tree (by kernel_rfl)
theorem getAttr?_miss_list {prog : Program} {w : World} {A : Around} {E : Value -> Shared -> Prop} {s : Shared} {a : Addr} {o : Obj} {xs : Array Value} {k : Nat} {Q : Option Value -> Shared -> Prop}
  (hx : s.heap.get? a = some o) (hc : o.cls = .type "list") (hdat : o.data = .seq xs k) (hd : o.dict = none) (hA : A.handled = none)
  (h : ∀ h' tk,(∀ b u,s.heap.get? b = some u -> h'.get? b = some u) -> Q none { s with heap:=h',toks:=tk }) :
  wpAny (model prog w) A (getAttr? (.ref a) "keys") Q E s:=by
 obtain ⟨c,dct,dat,sl⟩:=o
 simp only at hc hdat hd
 subst hc hdat hd
 obtain ⟨hp,g,d,tk,os⟩:=s
 have hT : ∀ tk',(⟨hp,g,d,tk',os⟩ : Shared).TypeIs (.ref a) "list":=fun _ => ⟨_,hx,rfl⟩
 have f1:=sub_AttributeError
 have f3:=F.slot_list_getattribute.lookup
 have f4:=F.slot_list_getattribute.bind (.ref a)
 have f5:=am_list_getattr_none
 unfold getAttr? getAttrBy? getAttrBy
 repeat (any_goals (first | assumption | exact hT _ | ((with_reducible show wpAny _ _ (call (Value.builtin "list.__getattribute__") _ _) _ _ _); refine call_meets F.slot_list_getattribute (hT _) am_entry_list_getattribute (F.args_list_getattribute_2 _ _) (meets_getattribute_miss_list a xs k sl "keys" _ miss_list_keys (by decide +kernel)) ⟨hx,hA,fun h' tk' e hx' => ?_⟩) | wp_step))
 obtain ⟨t',u',he⟩:=hx'.there
 show wpAny _ _ (getattributeRaised _ _ _ _ _ _ _) _ _ _
 unfold getattributeRaised
 repeat (any_goals (first | assumption | wp_step))
 exact h _ _ hx'.keeps
section
variable {prog : Program} {w : World} {K : Type} [DecidableEq K] {knd : KeyKind prog w K} {A : Around}
theorem codeAny_upd_loop {R : Result -> Shared -> Prop} (hh : A.handled = none) (I ax D : Addr) (hne : ax ≠ I) (hDI : D ≠ I) (hDa : D ≠ ax) (items : Array Value) (base : Heap) (ks : List (K × Value × Value))
  (hkeep : ∀ (i : Nat) (v : Value),items[i]? = some v -> ∃ (t : Addr) (o : Obj) (n : Nat) (k : K) (u x : Value),v = .ref t /\ base.get? t = some o /\ o.cls = .type "tuple" /\ o.data = .seq #[u,x] n /\ ks[i]? = some (k,u,x) /\ knd.is k u = true)
  (hsz : items.size <= sizeLine) (hlen : ks.length = items.size) (hnI : base.get? I = none) (hnD : base.get? D = none) :
  ∀ (k i : Nat) (s : Shared),items.size - i = k -> i <= items.size -> s.heap.IsListIter I ax i -> s.heap.IsList ax items -> (∀ b o,base.get? b = some o -> s.heap.get? b = some o) -> s.heap.DictOf knd D ((ks.take i).foldl (fun acc p => stored acc p.1 p.2.2) []) ->
  (∀ s',s'.gens = s.gens -> s'.drawn = s.drawn -> s'.os = s.os -> (∀ b o,base.get? b = some o -> s'.heap.get? b = some o) -> s'.heap.DictOf knd D (ks.foldl (fun acc p => stored acc p.1 p.2.2) []) -> R (.ok (.ret .none)) s') ->
  ∀ tk,codeAny (model prog w) A (.builtin "dict.update.loop" ⟨[.ref D,.ref I,.int i tk,.none],[]⟩) R s:=by
 intro k
 induction k with
 | zero =>
  intro i s hk hi hit hl hb hd hR tk
  have hin : i = items.size:=by omega
  refine codeAny_builtin entry_upd_loop ?_
  rw [Around.under_plainId plain_upd_loop _]
  show wpAny _ A.in1 (pyNext (.ref I) >>= _) _ _ s
  refine wpAny_bind ((Walks.list (show A.in1.handled = none from hh) I ax hne items).done s _ _ (by rw [<- hin]; exact ⟨hit,hl⟩) fun h' tk' hm => ?_)
  have hb' : ∀ b o,base.get? b = some o -> h'.get? b = some o:=fun b o e => hm b o (fun z => by rw [List.mem_singleton.mp z,hnI] at e; cases e) (hb b o e)
  have hd' : h'.DictOf knd D (ks.foldl (fun acc p => stored acc p.1 p.2.2) []):=by
   rw [hin,<- hlen,List.take_length] at hd
   obtain ⟨o,es,ep,ho,r⟩:=hd
   exact ⟨o,es,ep,hm D o (fun z => hDI (List.mem_singleton.mp z)) ho,r⟩
  show wpAny _ _ (Builtin.Dict.addKeywords D [] >>= fun _ => ret .none) _ _ _
  exact wpAny_bind (wpAny_pure (wpAny_pure (hR _ rfl rfl rfl hb' hd')))
 | succ k ih =>
  intro i s hk hi hit hl hb hd hR tk
  have hlt : i < items.size:=by omega
  refine codeAny_builtin entry_upd_loop ?_
  rw [Around.under_plainId plain_upd_loop _]
  show wpAny _ A.in1 (pyNext (.ref I) >>= _) _ _ s
  refine wpAny_bind ((Walks.list (show A.in1.handled = none from hh) I ax hne items).item i s _ _ hlt ⟨hit,hl⟩ fun v h' tk' hP hst hm => ?_)
  obtain ⟨t,o,n,key,u,x,rfl,ht,hc,hdat,hks,hkey⟩:=hkeep i v hP
  have hb' : ∀ b o,base.get? b = some o -> h'.get? b = some o:=fun b o e => hm b o (fun z => by rw [List.mem_singleton.mp z,hnI] at e; cases e) (hb b o e)
  have ht':=hb' t o ht
  have hd' : h'.DictOf knd D ((ks.take i).foldl (fun acc p => stored acc p.1 p.2.2) []):=by
   obtain ⟨o,es,ep,ho,r⟩:=hd
   exact ⟨o,es,ep,hm D o (fun z => hDI (List.mem_singleton.mp z)) ho,r⟩
  refine wpAny_bind (wpAny_holding (wpAny_bind (wpAny_tryCatch ?_)))
  unfold Builtin.Dict.pairItems
  refine wpAny_bind (wpAny_typeOf (show (Shared.mk h' s.gens s.drawn tk' s.os).TypeIs (.ref t) "tuple" from ⟨o,ht',hc⟩) ?_)
  rw [if_pos (by decide)]
  refine wpAny_bind (wpAny_seqItems ht' hdat (wpAny_pure ?_))
  refine wpAny_holding (wpAny_dictSet_pairs (hsz:=?_) hkey hd' fun h2 hd2 hsb => ?_)
  ·refine wpAny_pure ⟨plainId_quiet plain_upd_loop _,ih (i + 1) ⟨h2,s.gens,s.drawn,tk' + 1,s.os⟩ (by omega) hlt ?_ ?_ (fun b o e => ?_) ?_ (fun s' e1 e2 e3 e4 e5 => hR s' e1 e2 e3 e4 e5) 0⟩
   ·exact hst.1.at fun o e => (hsb.2 I (Ne.symm hDI)).trans e
   ·exact hst.2.at fun o e => (hsb.2 ax (Ne.symm hDa)).trans e
   ·exact (hsb.2 b (fun z => by rw [z,hnD] at e; cases e)).trans (hb' b o e)
   ·have e : ks.take (i + 1) = ks.take i ++ [(key,u,x)]:=by rw [List.take_add_one,hks]; rfl
    rw [e,List.foldl_append]
    exact hd2
  ·have hl : ∀ l : List (K × Value × Value),(l.foldl (fun acc p => stored acc p.1 p.2.2) ([] : List (K × Value))).length <= l.length:=fun l => by
    have key : ∀ (l : List (K × Value × Value)) (acc : List (K × Value)),(l.foldl (fun acc p => stored acc p.1 p.2.2) acc).length <= acc.length + l.length:=by
     intro l
     induction l with
     | nil => intro acc; exact Nat.le_refl _
     | cons p l ih2 =>
      intro acc
      have h1:=ih2 (stored acc p.1 p.2.2)
      have h2:=stored_length_le acc p.1 p.2.2
      rw [List.foldl_cons,List.length_cons]
      omega
    have:=key l []
    simpa using this
   have h1:=hl (ks.take i)
   rw [List.length_take] at h1
   omega
theorem call_dict_pairs {Q : Value -> Shared -> Prop} {E : Value -> Shared -> Prop} {s : Shared} {ax : Addr} {oa : Obj} {items : Array Value} {n : Nat} {ks : List (K × Value × Value)} (hh : A.handled = none)
  (ha : s.heap.get? ax = some oa) (hc : oa.cls = .type "list") (hdat : oa.data = .seq items n) (hdn : oa.dict = none)
  (hkeep : ∀ (i : Nat) (v : Value),items[i]? = some v -> ∃ (t : Addr) (o : Obj) (n : Nat) (k : K) (u x : Value),v = .ref t /\ s.heap.get? t = some o /\ o.cls = .type "tuple" /\ o.data = .seq #[u,x] n /\ ks[i]? = some (k,u,x) /\ knd.is k u = true)
  (hsz : items.size <= sizeLine) (hlen : ks.length = items.size)
  (h : ∀ h' tk,(∀ b o,s.heap.get? b = some o -> h'.get? b = some o) -> h'.DictOf knd s.heap.objs.size (ks.foldl (fun acc p => stored acc p.1 p.2.2) []) -> Q (.ref s.heap.objs.size) { s with heap:=h',toks:=tk }) :
  wpAny (model prog w) A (call (.type "dict") [.ref ax]) Q E s:=by
 refine callType_codes (Q₁:=fun obj s₁ => obj = .ref s.heap.objs.size /\ s₁ = { s with heap:=s.heap.push { cls:=.type "dict",data:=.dict #[] } }) F.kt_called_dict (F.kt_typeCall_dict_1 _) F.entry_dict_init (kt_code_dict_new _ ⟨rfl,rfl⟩) ?_
 rintro obj s₁ ⟨rfl,rfl⟩
 have hnew : (s.heap.push { cls:=.type "dict",data:=.dict #[] }).DictOf knd s.heap.objs.size []:=Heap.DictOf.new s.heap
 have up : ∀ b o,s.heap.get? b = some o -> (s.heap.push { cls:=.type "dict",data:=.dict #[] }).get? b = some o:=fun b o e => Heap.get?_push_of_some _ e
 refine ⟨hnew.typeIs,F.args_dict_init_2 _ _,?_⟩
 unfold Builtin.«dict.__init__»
 refine wpAny_bind ?_
 unfold Builtin.Dict.selfAndRest
 refine wpAny_bind (wpAny_notOrdered_dict hnew.typeIs ?_)
 show wpAny _ _ (pure (s.heap.objs.size,[Value.ref ax])) _ _ _
 refine wpAny_pure ?_
 show wpAny _ _ (Builtin.Dict.updateFrom "dict.__init__" s.heap.objs.size (.ref ax) [] .none) _ _ _
 unfold Builtin.Dict.updateFrom
 refine wpAny_bind (wpAny_typeOf (show (Shared.mk (s.heap.push { cls:=.type "dict",data:=.dict #[] }) s.gens s.drawn s.toks s.os).TypeIs (.ref ax) "list" from ⟨oa,up _ _ ha,hc⟩) ?_)
 rw [if_pos (by decide)]
 refine wpAny_bind (getAttr?_miss_list (up _ _ ha) hc hdat hdn hh fun h1 tk1 k1 => ?_)
 rw [if_pos (by decide)]
 refine wpAny_bind (wpAny_rule ?_)
 have ha1:=k1 _ _ (up _ _ ha)
 have hl1 : h1.IsList ax items:=⟨oa,ha1,hc,n,hdat⟩
 refine wpAny_bind (wpAny_pyIter_list (s:=⟨h1,s.gens,s.drawn,tk1,s.os⟩) hl1 ?_)
 have hDlt : s.heap.objs.size < h1.objs.size:=by
  obtain ⟨o,es,ep,ho,_⟩:=hnew
  exact Heap.lt_size (k1 _ _ ho)
 have halt : ax < h1.objs.size:=Heap.lt_size ha1
 have hn0 : s.heap.get? s.heap.objs.size = none:=Heap.get?_none_of_le (Nat.le_refl _)
 have hn1 : s.heap.get? h1.objs.size = none:=Heap.get?_none_of_le (Nat.le_of_lt hDlt)
 have hDa : s.heap.objs.size ≠ ax:=fun z => by rw [<- z,hn0] at ha; cases ha
 refine wpAny_pure ⟨plainId_quiet plain_upd_loop _,codeAny_upd_loop (A:=A.in1) (knd:=knd) hh h1.objs.size ax s.heap.objs.size (Nat.ne_of_lt halt) (Nat.ne_of_lt hDlt) hDa items s.heap ks hkeep hsz hlen hn1 hn0 items.size 0 _ rfl (Nat.zero_le _) ?_ ?_ (fun b o e => ?_) ?_ (fun s' e1 e2 e3 e4 e5 => ?_) 0⟩
 ·exact ⟨_,Heap.get?_push_size _ rfl,rfl,rfl⟩
 ·exact hl1.at fun o e => Heap.get?_push_of_some _ e
 ·exact Heap.get?_push_of_some _ (k1 _ _ (up _ _ e))
 ·obtain ⟨o,es,ep,ho,r⟩:=hnew
  exact ⟨o,es,ep,Heap.get?_push_of_some _ (k1 _ _ ho),r⟩
 ·obtain ⟨h',g',d',tk',o'⟩:=s'
  obtain rfl : g' = s.gens:=e1
  obtain rfl : d' = s.drawn:=e2
  obtain rfl : o' = s.os:=e3
  exact ⟨rfl,h h' tk' e4 e5⟩
end
end PySem
namespace L2
open PySem PySem.Spec PySem.W PyProof.Rows
theorem vals_two {a b : V} {us : List Value} (h : Vals [a,b] us) : ∃ u v,us = [u,v] /\ RelV a u /\ RelV b v:=by
 cases h with
 | cons h1 t =>
  cases t with
  | cons h2 t2 => cases t2; exact ⟨_,_,rfl,h1,h2⟩
theorem tr_fold (R : List Nat) (xs : List (Key × Value × Value)) (hx : xs.length = R.length) (hk : ∀ (i : Nat) p r,xs[i]? = some p -> R[i]? = some r -> p.1 = Sum.inl (r : Int) /\ p.2.2 = Value.bool true) (nd : R.Nodup) : KV (tr R) (xs.foldl (fun acc p => stored acc p.1 p.2.2) []):=by
 have key : ∀ (R : List Nat) (xs : List (Key × Value × Value)) (R0 : List Nat) (acc : List (Key × Value)),xs.length = R.length -> (∀ (i : Nat) p r,xs[i]? = some p -> R[i]? = some r -> p.1 = Sum.inl (r : Int) /\ p.2.2 = Value.bool true) -> (R0 ++ R).Nodup -> KV (tr R0) acc -> KV (tr (R0 ++ R)) (xs.foldl (fun acc p => stored acc p.1 p.2.2) acc):=by
  intro R
  induction R with
  | nil =>
   intro xs R0 acc hx _ _ h
   have : xs = []:=List.length_eq_zero_iff.mp hx
   subst this
   rw [List.append_nil]
   exact h
  | cons r R ih =>
   intro xs R0 acc hx hk nd h
   match xs,hx,hk with
   | p :: xs,hx,hk =>
    obtain ⟨k1,k2⟩:=hk 0 p r rfl rfl
    have e : R0 ++ r :: R = (R0 ++ [r]) ++ R:=by simp
    rw [e] at nd ⊢
    rw [List.foldl_cons,k1,k2]
    refine ih xs (R0 ++ [r]) _ (by simpa using hx) (fun i q s e1 e2 => hk (i + 1) q s e1 e2) nd ?_
    have hn : r ∉ R0:=by
     have:=(List.nodup_append.mp (List.nodup_append.mp nd).1).2.2
     exact fun z => this r z r (by simp) rfl
    have h2:=KV.put h (Sum.inl (r : Int)) (y:=V.bl true) (u:=Value.bool true) rfl
    have e2 : putK (tr R0) (Sum.inl (r : Int)) (V.bl true) = tr (R0 ++ [r]):=by
     have hv : ∀ R1 : List Nat,r ∉ R1 -> valV (tr R1) (Sum.inl (r : Int)) = none:=by
      intro R1
      induction R1 with
      | nil => intro _; rfl
      | cons s R1 ih1 =>
       intro h1
       have ne : ¬ ((Sum.inl (s : Int) : Key) = Sum.inl (r : Int)):=fun z => by
        injection z with z
        have : s = r:=by omega
        exact h1 (this ▸ List.mem_cons_self ..)
       have:=ih1 fun z => h1 (List.mem_cons_of_mem _ z)
       unfold valV at this ⊢
       unfold tr at this ⊢
       simp [ne] at this ⊢
       exact this
     rw [putK_new _ (hv R0 hn)]
     unfold tr
     rw [List.map_append]
     rfl
    rw [e2] at h2
    exact h2
 have:=key R xs [] [] hx hk (by simpa using nd) .nil
 simpa using this
theorem call_dictPairs {X : Cx} (hcalm : X.calm = true) : CallR X (.type "dict") (fun xs H Q => ∃ (a : Addr) (ts : List Addr) (R : List Nat),xs = [V.ref a] /\ H a = some (.lst (ts.map V.ref)) /\ ts.length = R.length /\ (∀ (i : Nat) t r,ts[i]? = some t -> R[i]? = some r -> H t = some (.tup [.int (r : Int),.bl true])) /\ R.Nodup /\ R.length <= 1000 /\ ∀ p,H p = none -> Q (.ref p) (upd H p (.dK (tr R)))):=by
 intro pins s σ H xs us Q I r h
 obtain ⟨a,ts,R,rfl,ha,hlen,htu,nd,few,q⟩:=h
 obtain ⟨u,rfl,ru⟩:=vals1 r
 cases ru
 obtain ⟨its,n,rl,ho,hz⟩:=I.lst ha
 have hil : its.length = ts.length:=by rw [<- rl.length,List.length_map]
 have tupAt : ∀ (i : Nat) v,its[i]? = some v -> ∃ t r,v = Value.ref t /\ ts[i]? = some t /\ R[i]? = some r:=fun i v e => by
  obtain ⟨x,hx,rx⟩:=vals_back rl e
  rw [List.getElem?_map] at hx
  cases ht : ts[i]? with
  | none => rw [ht] at hx; cases hx
  | some t =>
   rw [ht] at hx
   cases hx
   have hi : i < R.length:=by rw [<- hlen]; exact (List.getElem?_eq_some_iff.mp ht).1
   exact ⟨t,R[i],rx,rfl,by simp [hi]⟩
 have objAt : ∀ (t : Addr) (r : Nat),H t = some (.tup [.int (r : Int),.bl true]) -> ∃ (o : Obj) (n : Nat) (tk : Tok),s.heap.get? t = some o /\ o.cls = .type "tuple" /\ o.data = .seq #[Value.int (r : Int) tk,Value.bool true] n:=fun t r e => by
  obtain ⟨ys,ry,⟨o,e1,e2,n2,e3⟩,_⟩:=I.tuple (SqT.of e)
  obtain ⟨u,v,rfl,⟨tk,rfl⟩,rv⟩:=vals_two ry
  have rv : v = Value.bool true:=rv
  subst rv
  exact ⟨o,n2,tk,e1,e2,e3⟩
 obtain ⟨ks,hkl,hks⟩ : ∃ ks : List (Key × Value × Value),ks.length = R.length /\ ∀ (i : Nat) t r,ts[i]? = some t -> R[i]? = some r -> ∃ (o : Obj) (n : Nat) (tk : Tok),s.heap.get? t = some o /\ o.cls = .type "tuple" /\ o.data = .seq #[Value.int (r : Int) tk,Value.bool true] n /\ ks[i]? = some (Sum.inl (r : Int),Value.int (r : Int) tk,Value.bool true):=by
  have key : ∀ (ts : List Addr) (R : List Nat),ts.length = R.length -> (∀ (i : Nat) t r,ts[i]? = some t -> R[i]? = some r -> H t = some (.tup [.int (r : Int),.bl true])) -> ∃ ks : List (Key × Value × Value),ks.length = R.length /\ ∀ (i : Nat) t r,ts[i]? = some t -> R[i]? = some r -> ∃ (o : Obj) (n : Nat) (tk : Tok),s.heap.get? t = some o /\ o.cls = .type "tuple" /\ o.data = .seq #[Value.int (r : Int) tk,Value.bool true] n /\ ks[i]? = some (Sum.inl (r : Int),Value.int (r : Int) tk,Value.bool true):=by
   intro ts
   induction ts with
   | nil => intro R h1 _; exact ⟨[],by simpa using h1,fun i t r e => by simp at e⟩
   | cons t ts ih =>
    intro R h1 h2
    match R,h1,h2 with
    | r :: R,h1,h2 =>
     obtain ⟨ks,g1,g2⟩:=ih R (by simpa using h1) fun i t r e1 e2 => h2 (i + 1) t r e1 e2
     obtain ⟨o,n,tk,o1,o2,o3⟩:=objAt t r (h2 0 t r rfl rfl)
     refine ⟨(Sum.inl (r : Int),Value.int (r : Int) tk,Value.bool true) :: ks,by simp [g1],fun i t' r' e1 e2 => ?_⟩
     match i,e1,e2 with
     | 0,e1,e2 => cases e1; cases e2; exact ⟨o,n,tk,o1,o2,o3,rfl⟩
     | i + 1,e1,e2 => exact g2 i t' r' e1 e2
  exact key ts R hlen htu
 refine call_dict_pairs (knd:=mixKind X.prog X.w) (ks:=ks) (I.ok.hd hcalm) ho rfl rfl rfl (fun i v e => ?_) (by rw [List.size_toArray,hil]; simpa using hz) (by rw [hkl,<- hlen,<- hil]; simp) fun h' tk keep dd => ?_
 ·obtain ⟨t,r,rfl,e1,e2⟩:=tupAt i v (by simpa using e)
  obtain ⟨o,n2,tk,o1,o2,o3,o4⟩:=hks i t r e1 e2
  exact ⟨t,o,n2,_,_,_,rfl,o1,o2,o3,o4,mixKind_int X.prog X.w (r : Int) tk⟩
 ·have rel:=tr_fold R ks hkl (fun i p r e1 e2 => by
   have hi : i < ts.length:=by rw [hlen]; exact (List.getElem?_eq_some_iff.mp e2).1
   obtain ⟨_,_,tk,_,_,_,o4⟩:=hks i ts[i] r (by simp [hi]) e2
   rw [o4] at e1
   cases e1
   exact ⟨rfl,rfl⟩) nd
  have hsz : (tr R).length <= sizeLine:=by unfold tr; rw [List.length_map]; exact Nat.le_of_lt (small1000 few)
  exact ⟨.ref _,_,I.laid (a:=s.heap.objs.size) (o:=.dK (tr R)) (t':=tk) keep (Nat.le_refl _) (dk_new hsz (beq_eq_false_iff_ne.mpr (Ne.symm (Nat.ne_of_lt I.big))) rel dd),rfl,q _ (I.hok.fresh (Nat.le_refl _))⟩
end L2
set_option maxHeartbeats 8000000
namespace L2
open PySem PyProof.Rows
theorem _root_.L2.seq_ {a b : TS} {D : Ends} {σ : L2.St} {H : Hp} (h : ∀ R : TS,R = b -> tSeq a R D σ H) : tSeq a b D σ H:=h b rfl
theorem _root_.L2.seq_n {a b R : TS} {D : Ends} {σ : L2.St} {H : Hp} (e : R = tSeq a b) (h : ∀ R' : TS,R' = b -> tSeq a R' D σ H) : R D σ H:=by
 subst e
 exact h b rfl
theorem _root_.L2.seq_e {a R : TS} {D : Ends} {σ : L2.St} {H : Hp} (e : R = a) (h : a D σ H) : R D σ H:=by
 subst e
 exact h
theorem _root_.L2.seq_d {a b : TS} {D : Ends} {σ : L2.St} {H : Hp} (h : ∀ (R : TS) (D' : Ends),R = b -> D' = D -> tSeq a R D' σ H) : tSeq a b D σ H:=h b D rfl rfl
theorem _root_.L2.end_d {a : TS} {D : Ends} {σ : L2.St} {H : Hp} (h : ∀ D' : Ends,D' = D -> a D' σ H) : a D σ H:=h D rfl
noncomputable def _root_.L2.tgX : HO -> Nat
 | .lst _ => 1
 | .tup _ => 2
 | .dK _ => 3
 | .dT _ => 4
 | .set _ _ => 5
 | .ins _ _ _ => 6
 | .frz _ _ => 7
 | _ => 8
noncomputable def _root_.L2.claX : Option HO -> Option HO -> Bool
 | none,none => false
 | none,some _ => true
 | some _,none => true
 | some o,some u => !(Nat.beq (tgX o) (tgX u))
theorem _root_.L2.claX_ne {x y : Option HO} (h : claX x y = true) : x ≠ y:=by
 intro e
 subst e
 cases x with
 | none => cases h
 | some o => exact absurd (show (!(Nat.beq (tgX o) (tgX o))) = true from h) (by rw [Nat.beq_refl]; decide)
theorem _root_.L2.clX {H : Hp} {a b : Addr} {x y : Option HO} {p : Prop} (z : a = b) (h1 : H a = x) (h2 : H b = y) (h : claX x y = true) : p:=absurd (h1.symm.trans ((congrArg H z).trans h2)) (claX_ne h)
theorem _root_.L2.nfX {H : Hp} {a b : Addr} {o u : HO} (h1 : H a = some o) (h2 : H b = some u) (h : claX (some o) (some u) = true) : a ≠ b:=fun z => clX z h1 h2 h
theorem _root_.L2.unX {H : Hp} {a b : Addr} {o : HO} {x : Option HO} (n : a ≠ b) (h : H a = x) : upd H b o a = x:=(upd_ne n).trans h
theorem _root_.L2.kqX {α : Type} {g : L2.St -> Hp -> α -> Prop} {σ : L2.St} {H : Hp} {k : α} (h : ∀ k' : α,k' = k -> g σ H k') : g σ H k:=h k rfl
theorem us0 {P : List Value -> Prop} (h : P []) (us : List Value) (hl : us.length = 0) : P us:=by
 cases us with
 | nil => exact h
 | cons a t => exact absurd hl (Nat.succ_ne_zero _)
theorem us1 {P : List Value -> Prop} (h : ∀ a,P [a]) (us : List Value) (hl : us.length = 1) : P us:=by
 cases us with
 | nil => exact absurd hl (by decide)
 | cons a t => exact us0 (P:=fun t => P (a :: t)) (h a) t (Nat.succ.inj hl)
theorem us2 {P : List Value -> Prop} (h : ∀ a b,P [a,b]) (us : List Value) (hl : us.length = 2) : P us:=by
 cases us with
 | nil => exact absurd hl (by decide)
 | cons a t => exact us1 (P:=fun t => P (a :: t)) (h a) t (Nat.succ.inj hl)
theorem us3 {P : List Value -> Prop} (h : ∀ a b c,P [a,b,c]) (us : List Value) (hl : us.length = 3) : P us:=by
 cases us with
 | nil => exact absurd hl (by decide)
 | cons a t => exact us2 (P:=fun t => P (a :: t)) (h a) t (Nat.succ.inj hl)
theorem us4 {P : List Value -> Prop} (h : ∀ a b c d,P [a,b,c,d]) (us : List Value) (hl : us.length = 4) : P us:=by
 cases us with
 | nil => exact absurd hl (by decide)
 | cons a t => exact us3 (P:=fun t => P (a :: t)) (h a) t (Nat.succ.inj hl)
end L2
namespace Law
inductive Ex1 {α0 : Sort _} (p : α0 -> Prop) : Prop where | mk (x0 : α0) (h : p x0) : Ex1 p
inductive Ex2 {α0 : Sort _} {α1 : Sort _} (p : α0 -> α1 -> Prop) : Prop where | mk (x0 : α0) (x1 : α1) (h : p x0 x1) : Ex2 p
inductive Ex3 {α0 : Sort _} {α1 : Sort _} {α2 : Sort _} (p : α0 -> α1 -> α2 -> Prop) : Prop where | mk (x0 : α0) (x1 : α1) (x2 : α2) (h : p x0 x1 x2) : Ex3 p
inductive Ex4 {α0 : Sort _} {α1 : Sort _} {α2 : Sort _} {α3 : Sort _} (p : α0 -> α1 -> α2 -> α3 -> Prop) : Prop where | mk (x0 : α0) (x1 : α1) (x2 : α2) (x3 : α3) (h : p x0 x1 x2 x3) : Ex4 p
inductive Ex5 {α0 : Sort _} {α1 : Sort _} {α2 : Sort _} {α3 : Sort _} {α4 : Sort _} (p : α0 -> α1 -> α2 -> α3 -> α4 -> Prop) : Prop where | mk (x0 : α0) (x1 : α1) (x2 : α2) (x3 : α3) (x4 : α4) (h : p x0 x1 x2 x3 x4) : Ex5 p
inductive Ex6 {α0 : Sort _} {α1 : Sort _} {α2 : Sort _} {α3 : Sort _} {α4 : Sort _} {α5 : Sort _} (p : α0 -> α1 -> α2 -> α3 -> α4 -> α5 -> Prop) : Prop where | mk (x0 : α0) (x1 : α1) (x2 : α2) (x3 : α3) (x4 : α4) (x5 : α5) (h : p x0 x1 x2 x3 x4 x5) : Ex6 p
inductive Ex7 {α0 : Sort _} {α1 : Sort _} {α2 : Sort _} {α3 : Sort _} {α4 : Sort _} {α5 : Sort _} {α6 : Sort _} (p : α0 -> α1 -> α2 -> α3 -> α4 -> α5 -> α6 -> Prop) : Prop where | mk (x0 : α0) (x1 : α1) (x2 : α2) (x3 : α3) (x4 : α4) (x5 : α5) (x6 : α6) (h : p x0 x1 x2 x3 x4 x5 x6) : Ex7 p
inductive Ex8 {α0 : Sort _} {α1 : Sort _} {α2 : Sort _} {α3 : Sort _} {α4 : Sort _} {α5 : Sort _} {α6 : Sort _} {α7 : Sort _} (p : α0 -> α1 -> α2 -> α3 -> α4 -> α5 -> α6 -> α7 -> Prop) : Prop where | mk (x0 : α0) (x1 : α1) (x2 : α2) (x3 : α3) (x4 : α4) (x5 : α5) (x6 : α6) (x7 : α7) (h : p x0 x1 x2 x3 x4 x5 x6 x7) : Ex8 p
inductive Ex11 {α0 : Sort _} {α1 : Sort _} {α2 : Sort _} {α3 : Sort _} {α4 : Sort _} {α5 : Sort _} {α6 : Sort _} {α7 : Sort _} {α8 : Sort _} {α9 : Sort _} {α10 : Sort _} (p : α0 -> α1 -> α2 -> α3 -> α4 -> α5 -> α6 -> α7 -> α8 -> α9 -> α10 -> Prop) : Prop where | mk (x0 : α0) (x1 : α1) (x2 : α2) (x3 : α3) (x4 : α4) (x5 : α5) (x6 : α6) (x7 : α7) (x8 : α8) (x9 : α9) (x10 : α10) (h : p x0 x1 x2 x3 x4 x5 x6 x7 x8 x9 x10) : Ex11 p
inductive An3 (a0 a1 a2 : Prop) : Prop where | mk (h0 : a0) (h1 : a1) (h2 : a2) : An3 a0 a1 a2
inductive An4 (a0 a1 a2 a3 : Prop) : Prop where | mk (h0 : a0) (h1 : a1) (h2 : a2) (h3 : a3) : An4 a0 a1 a2 a3
inductive An5 (a0 a1 a2 a3 a4 : Prop) : Prop where | mk (h0 : a0) (h1 : a1) (h2 : a2) (h3 : a3) (h4 : a4) : An5 a0 a1 a2 a3 a4
inductive An6 (a0 a1 a2 a3 a4 a5 : Prop) : Prop where | mk (h0 : a0) (h1 : a1) (h2 : a2) (h3 : a3) (h4 : a4) (h5 : a5) : An6 a0 a1 a2 a3 a4 a5
inductive An7 (a0 a1 a2 a3 a4 a5 a6 : Prop) : Prop where | mk (h0 : a0) (h1 : a1) (h2 : a2) (h3 : a3) (h4 : a4) (h5 : a5) (h6 : a6) : An7 a0 a1 a2 a3 a4 a5 a6
inductive An8 (a0 a1 a2 a3 a4 a5 a6 a7 : Prop) : Prop where | mk (h0 : a0) (h1 : a1) (h2 : a2) (h3 : a3) (h4 : a4) (h5 : a5) (h6 : a6) (h7 : a7) : An8 a0 a1 a2 a3 a4 a5 a6 a7
inductive An9 (a0 a1 a2 a3 a4 a5 a6 a7 a8 : Prop) : Prop where | mk (h0 : a0) (h1 : a1) (h2 : a2) (h3 : a3) (h4 : a4) (h5 : a5) (h6 : a6) (h7 : a7) (h8 : a8) : An9 a0 a1 a2 a3 a4 a5 a6 a7 a8
inductive An10 (a0 a1 a2 a3 a4 a5 a6 a7 a8 a9 : Prop) : Prop where | mk (h0 : a0) (h1 : a1) (h2 : a2) (h3 : a3) (h4 : a4) (h5 : a5) (h6 : a6) (h7 : a7) (h8 : a8) (h9 : a9) : An10 a0 a1 a2 a3 a4 a5 a6 a7 a8 a9
inductive An11 (a0 a1 a2 a3 a4 a5 a6 a7 a8 a9 a10 : Prop) : Prop where | mk (h0 : a0) (h1 : a1) (h2 : a2) (h3 : a3) (h4 : a4) (h5 : a5) (h6 : a6) (h7 : a7) (h8 : a8) (h9 : a9) (h10 : a10) : An11 a0 a1 a2 a3 a4 a5 a6 a7 a8 a9 a10
inductive An12 (a0 a1 a2 a3 a4 a5 a6 a7 a8 a9 a10 a11 : Prop) : Prop where | mk (h0 : a0) (h1 : a1) (h2 : a2) (h3 : a3) (h4 : a4) (h5 : a5) (h6 : a6) (h7 : a7) (h8 : a8) (h9 : a9) (h10 : a10) (h11 : a11) : An12 a0 a1 a2 a3 a4 a5 a6 a7 a8 a9 a10 a11
inductive An13 (a0 a1 a2 a3 a4 a5 a6 a7 a8 a9 a10 a11 a12 : Prop) : Prop where | mk (h0 : a0) (h1 : a1) (h2 : a2) (h3 : a3) (h4 : a4) (h5 : a5) (h6 : a6) (h7 : a7) (h8 : a8) (h9 : a9) (h10 : a10) (h11 : a11) (h12 : a12) : An13 a0 a1 a2 a3 a4 a5 a6 a7 a8 a9 a10 a11 a12
inductive An15 (a0 a1 a2 a3 a4 a5 a6 a7 a8 a9 a10 a11 a12 a13 a14 : Prop) : Prop where | mk (h0 : a0) (h1 : a1) (h2 : a2) (h3 : a3) (h4 : a4) (h5 : a5) (h6 : a6) (h7 : a7) (h8 : a8) (h9 : a9) (h10 : a10) (h11 : a11) (h12 : a12) (h13 : a13) (h14 : a14) : An15 a0 a1 a2 a3 a4 a5 a6 a7 a8 a9 a10 a11 a12 a13 a14
inductive An18 (a0 a1 a2 a3 a4 a5 a6 a7 a8 a9 a10 a11 a12 a13 a14 a15 a16 a17 : Prop) : Prop where | mk (h0 : a0) (h1 : a1) (h2 : a2) (h3 : a3) (h4 : a4) (h5 : a5) (h6 : a6) (h7 : a7) (h8 : a8) (h9 : a9) (h10 : a10) (h11 : a11) (h12 : a12) (h13 : a13) (h14 : a14) (h15 : a15) (h16 : a16) (h17 : a17) : An18 a0 a1 a2 a3 a4 a5 a6 a7 a8 a9 a10 a11 a12 a13 a14 a15 a16 a17
end Law
namespace Law
open PySem L2 Hs PyProof.Rows
noncomputable def top (i : Nat) : Stmt:=PySem.Challenge.pw_turnhouse_k08_whole_least.main.body.getD i (.Pass ⟨0,0,0,0⟩)
noncomputable def rmV (r : Rm) : List V:=[.int r.l,.int r.r,.bl r.lit]
noncomputable def Rooms (H : Hp) (ps : List Addr) (hs : List Rm) : Prop:=ps.length = hs.length /\ ∀ (i : Nat) p r,ps[i]? = some p -> hs[i]? = some r -> H p = some (.tup (rmV r))
structure HouseAt (H : Hp) (a : Addr) (ps : List Addr) (hs : List Rm) : Prop where
 ob : H a = some (.lst (ps.map V.ref))
 rm : Rooms H ps hs
theorem Rooms.same {H H' : Hp} {ps : List Addr} {hs : List Rm} (h : Rooms H ps hs) (s : Same H H') : Rooms H' ps hs:=⟨h.1,fun i p r e1 e2 => s _ _ (h.2 i p r e1 e2)⟩
theorem HouseAt.same {H H' : Hp} {a : Addr} {ps : List Addr} {hs : List Rm} (h : HouseAt H a ps hs) (s : Same H H') : HouseAt H' a ps hs:=⟨s _ _ h.ob,h.rm.same s⟩
theorem Rooms.snoc {H : Hp} {ps : List Addr} {hs : List Rm} {p : Addr} {r : Rm} (h : Rooms H ps hs) (hp : H p = some (.tup (rmV r))) : Rooms H (ps ++ [p]) (hs ++ [r]):=by
 refine ⟨by simp [h.1],fun i q z e1 e2 => ?_⟩
 by_cases hi : i < ps.length
 ·rw [List.getElem?_append_left hi] at e1
  rw [List.getElem?_append_left (by rw [<- h.1]; exact hi)] at e2
  exact h.2 i q z e1 e2
 ·rw [List.getElem?_append_right (by omega)] at e1
  rw [List.getElem?_append_right (by rw [<- h.1]; omega),<- h.1] at e2
  have hz : i - ps.length = 0:=by
   have:=(List.getElem?_eq_some_iff.mp e1).1
   simp at this
   exact this
  rw [hz] at e1 e2
  simp at e1 e2
  subst e1 e2
  exact hp
theorem HouseAt.get {H : Hp} {a : Addr} {ps : List Addr} {hs : List Rm} (h : HouseAt H a ps hs) {i : Nat} {r : Rm} (hi : hs[i]? = some r) : ∃ p,ps[i]? = some p /\ H p = some (.tup (rmV r)) /\ atI (ps.map V.ref) (i : Int) = some (.ref p):=by
 have hl : i < hs.length:=(List.getElem?_eq_some_iff.mp hi).1
 have hp : ps[i]? = some (ps[i]'(by rw [h.rm.1]; exact hl)):=by simp
 exact ⟨_,hp,h.rm.2 i _ r hp hi,atI_nat (by rw [List.getElem?_map,hp]; rfl)⟩
theorem same_upd {H : Hp} {p : Addr} {o : HO} (h : H p = none) : Same H (upd H p o):=fun b u e => unX (ne_of_none e h) e
theorem _root_.L2.Same.upd {H H1 : Hp} {p : Addr} {o : HO} (s : Same H H1) (h : H1 p = none) : Same H (L2.upd H1 p o):=s.trans (same_upd h)
theorem _root_.L2.Same.put {H H1 : Hp} {p : Addr} {o : HO} (s : Same H H1) (h : H p = none) : Same H (L2.upd H1 p o):=fun b u e => unX (ne_of_none e h) (s b u e)
theorem ifT {A B : Prop} {c : Bool} (h : c = true) (a : A) : if c = true then A else B:=by rw [if_pos h]; exact a
theorem ifF {A B : Prop} {c : Bool} (h : c = false) (b : B) : if c = true then A else B:=by rw [if_neg (by rw [h]; exact Bool.false_ne_true)]; exact b
noncomputable def sgn (b : Bool) : Nat:=if b then 114 else 108
noncomputable def txt (w : List Bool) : Str:=⟨(w.map sgn).toArray⟩
theorem txt_size (w : List Bool) : (txt w).cps.size = w.length:=by simp [txt]
theorem txt_len (w : List Bool) : (txt w).length = w.length:=by show (txt w).cps.size = _; exact txt_size w
theorem txt_get {w : List Bool} {i : Nat} {c : Nat} (h : (txt w).cps[i]? = some c) : ∃ b,w[i]? = some b /\ c = sgn b:=by
 have h' : (w.map sgn)[i]? = some c:=by simpa [txt] using h
 rw [List.getElem?_map] at h'
 cases e : w[i]? with
 | none => rw [e] at h'; cases h'
 | some b => rw [e] at h'; exact ⟨b,rfl,(Option.some.inj h').symm⟩
theorem lr_cps : ("lr" : Str).cps = #[108,114]:=by decide +kernel
theorem txt_append (w v : List Bool) : txt w ++ txt v = txt (w ++ v):=by
 refine Str.ext' ?_
 show (txt w).cps ++ (txt v).cps = _
 simp [txt]
theorem occ_sgn (b : Bool) : Builtin.Str.occurrences ("lr" : Str) ⟨#[sgn b]⟩ 0 ("lr" : Str).length 1 = [if b then 1 else 0]:=by cases b <;> decide +kernel
noncomputable def spExits : Sp:=fun vs H Q _ => Ex5 fun (a : Addr) (ps : List Addr) (hs : List Rm) (i : Nat) (r : Rm) => An4 (vs = [.ref a,.int (i : Int)]) (HouseAt H a ps hs) (hs[i]? = some r) (∀ p,H p = none -> Q (.ref p) (upd H p (.tup [.int r.l,.int r.r])))
noncomputable def spLit : Sp:=fun vs H Q _ => Ex5 fun (a : Addr) (ps : List Addr) (hs : List Rm) (i : Nat) (r : Rm) => An4 (vs = [.ref a,.int (i : Int)]) (HouseAt H a ps hs) (hs[i]? = some r) (Q (.bl r.lit) H)
noncomputable def spWhole : Sp:=fun vs H Q _ => ∃ i : Int,vs = [.int i] /\ Q (.bl true) H
noncomputable def spAt (K : PySem.W.Frag) : Sp:=fun vs H Q _ => Ex3 fun (a : Addr) (ns : List Int) (k : Nat) => An3 (vs = [.ref a,.int (k : Int)]) (SqL K H a (ns.map V.int)) (Q (.int (ns.getD k 0)) H)
noncomputable def spDrawn (K : PySem.W.Frag) : Sp:=fun vs H Q _ => Ex2 fun (a : Addr) (ns : List Int) => An4 (vs = [.ref a]) (SqL K H a (ns.map V.int)) (ns.length <= 1000) (∀ (l : Addr) (ps : List Addr) (H' : Hp),H l = none -> Same H H' -> HouseAt H' l ps (drawn ns) -> Q (.ref l) H')
noncomputable def spIsHouse : Sp:=fun vs H Q _ => Ex3 fun (a : Addr) (ps : List Addr) (hs : List Rm) => An4 (vs = [.ref a]) (HouseAt H a ps hs) (Wf hs) (∀ H',Same H H' -> Q (.bl true) H')
noncomputable def spUnhurt : Sp:=fun vs H Q _ => Ex4 fun (a b : Addr) (ps : List Addr) (hs : List Rm) => An5 (vs = [.ref a,.ref b]) (HouseAt H a ps hs) (HouseAt H b ps hs) (Wf hs) (∀ H',Same H H' -> Q (.bl true) H')
noncomputable def spLed : Sp:=fun vs H Q _ => Ex5 fun (a : Addr) (ps : List Addr) (hs : List Rm) (i : Nat) (w : List Bool) => An5 (vs = [.ref a,.int (i : Int),.str (txt w)]) (HouseAt H a ps hs) (Wf hs) (i < hs.length) (Q (.int (led hs i w : Nat)) H)
structure Blt (mg : Str -> Option Value) : Prop where
 len : mg "len" = none
 max : mg "max" = none
 range : mg "range" = none
 isinstance : mg "isinstance" = none
 int : mg "int" = none
 bool : mg "bool" = none
 str : mg "str" = none
 list : mg "list" = none
 tuple : mg "tuple" = none
 zip : mg "zip" = none
structure Df (K : PySem.W.Frag) (mg : Str -> Option Value) (x : Str) (i : Nat) (ps : List Str) (f : Addr) (fd : FuncData) : Prop where
 fn : Fun K x x (top i) f fd
 m : mg x = some (.ref f)
 b : Binds K fd ps []
section
variable {P : Program} {w : World} {K : PySem.W.Frag} {mg : Str -> Option Value} {base : Heap} {f : Addr} {fd : FuncData}
theorem sc_exits_of : FnScope ["house","room"] ["house","room"] (defScope (top 9)):=⟨rfl,rfl,rfl,by decide +kernel,rfl,by decide +kernel,by decide +kernel⟩
theorem ok_exits (F : Fun K "exits_of" "exits_of" (top 9) f fd) : FnOk P w K mg base CX0 1 f fd ["house","room"] spExits:=by
 refine F.ok sc_exits_of (fun vs H Q E h => ?_) (fun cdv A outer s H vs Q E hr h => ?_)
 ·obtain ⟨a,ps,hs,i,r,rfl,_⟩:=h
  rfl
 ·obtain ⟨a,ps,hs,i,r,rfl,hh,hi,k⟩:=h
  obtain ⟨p,_,hp,hat⟩:=hh.get hi
  refine ⟨_,(pss_one (ps_ret (pe_slice sl_tup (pe_ix ix_list (pv 0) (pv 1) (fun _ _ => rfl)) po_none (po_some pe_int)))),?_⟩
  exact ⟨_,rfl,_,rfl,a,_,_,_,rfl,rfl,SqL.of hh.ob,hat,_,rfl,p,_,rfl,SqT.of hp,fun z => absurd (show (2 : Nat) = 3 from z.2) (by decide),fun q hq => k q hq⟩
theorem sc_is_lit : FnScope ["house","room"] ["house","room"] (defScope (top 10)):=⟨rfl,rfl,rfl,by decide +kernel,rfl,by decide +kernel,by decide +kernel⟩
theorem ok_lit (F : Fun K "is_lit" "is_lit" (top 10) f fd) : FnOk P w K mg base CX0 1 f fd ["house","room"] spLit:=by
 refine F.ok sc_is_lit (fun vs H Q E h => ?_) (fun cdv A outer s H vs Q E hr h => ?_)
 ·obtain ⟨a,ps,hs,i,r,rfl,_⟩:=h
  rfl
 ·obtain ⟨a,ps,hs,i,r,rfl,hh,hi,k⟩:=h
  obtain ⟨p,_,hp,hat⟩:=hh.get hi
  refine ⟨_,(pss_one (ps_ret (pe_ix ix_tup (pe_ix ix_list (pv 0) (pv 1) (fun _ _ => rfl)) pe_int (fun _ _ => rfl)))),?_⟩
  exact ⟨_,rfl,_,rfl,a,_,_,_,rfl,rfl,SqL.of hh.ob,hat,p,_,_,_,rfl,rfl,SqT.of hp,rfl,k⟩
theorem sc_law_whole : FnScope ["_law_found"] ["_law_found"] (defScope (top 27)):=⟨rfl,rfl,rfl,by decide +kernel,rfl,by decide +kernel,by decide +kernel⟩
theorem ok_whole (F : Fun K "_law_whole" "_law_whole" (top 27) f fd) (T : Blt mg) : FnOk P w K mg base CX0 1 f fd ["_law_found"] spWhole:=by
 refine F.ok sc_law_whole (fun vs H Q E h => ?_) (fun cdv A outer s H vs Q E hr h => ?_)
 ·obtain ⟨i,rfl,_⟩:=h
  rfl
 ·obtain ⟨i,rfl,k⟩:=h
  refine ⟨_,(pss_one (ps_ret (pe_and (pe_callB call_isinst (by rfl) T.isinstance boot_isinstance (pa_cons (pv 0) (pa_cons (pe_bltn (v:=.ty "int") rfl T.int boot_int rfl) pa_nil))) (pe_one (pe_not (pe_callB call_isinst (by rfl) T.isinstance boot_isinstance (pa_cons (pv 0) (pa_cons (pe_bltn (v:=.ty "bool") rfl T.bool boot_bool rfl) pa_nil)))))))),?_⟩
  refine ⟨_,rfl,_,_,_,_,rfl,.int i,kit_int_int,_,rfl,iteT ?_⟩
  exact ⟨_,rfl,_,_,_,_,rfl,.int i,kit_int_bool,_,rfl,k⟩
theorem sc_law_at : FnScope ["_law_script","_law_k"] ["_law_script","_law_k"] (defScope (top 28)):=⟨rfl,rfl,rfl,by decide +kernel,rfl,by decide +kernel,by decide +kernel⟩
theorem ok_at (F : Fun K "_law_at" "_law_at" (top 28) f fd) (T : Blt mg) : FnOk P w K mg base CX0 1 f fd ["_law_script","_law_k"] (spAt K):=by
 refine F.ok sc_law_at (fun vs H Q E h => ?_) (fun cdv A outer s H vs Q E hr h => ?_)
 ·obtain ⟨a,ns,k,rfl,_⟩:=h
  rfl
 ·obtain ⟨a,ns,i,rfl,hS,k⟩:=h
  refine ⟨_,(pss_cons (ps_if (pt_cmpR op_lt (pv 1) (pe_callB call_len_seq (by rfl) T.len PySem.boot_len (pa_cons (pv 0) pa_nil)) (nomark _))
    (pss_one (ps_ret (pe_ix ix_list (pv 0) (pv 1) (fun _ _ => rfl))))
    pss_nil)
   (pss_one (ps_ret pe_int))),?_⟩
  refine ⟨_,rfl,_,rfl,a,_,rfl,.inl hS,_,_,rfl,rfl,_,rfl,?_⟩
  by_cases hi : i < ns.length
  ·refine ifT (by rw [List.length_map]; exact decide_eq_true (by omega)) ?_
   have e : ns[i]? = some (ns.getD i 0):=by simp [hi]
   exact ⟨_,rfl,_,rfl,a,_,_,_,rfl,rfl,hS,atI_nat (by rw [List.getElem?_map,e]; rfl),k⟩
  ·refine ifF (by rw [List.length_map]; exact decide_eq_false (by omega)) ?_
   have e : ns.getD i 0 = 0:=by
    rw [List.getD_eq_getElem?_getD,List.getElem?_eq_none (by omega)]
    rfl
   rw [e] at k
   exact k
theorem sc_law_drawn : FnScope ["_law_cells","_law_size","_law_house","_law_k","_law_cell","_law_far","_law_one","_law_other"] ["_law_cells"] (defScope (top 29)):=⟨rfl,rfl,rfl,by decide +kernel,rfl,by decide +kernel,by decide +kernel⟩
theorem max_len (n : Nat) : (if (n : Int) > 1 then (n : Int) else 1) = ((max 1 n : Nat) : Int):=by split <;> omega
theorem ok_drawn (F : Fun K "_law_drawn" "_law_drawn" (top 29) f fd) (T : Blt mg) : FnOk P w K mg base CX0 1 f fd ["_law_cells"] (spDrawn K):=by
 refine F.ok sc_law_drawn (fun vs H Q E h => ?_) (fun cdv A outer s H vs Q E hr h => ?_)
 ·obtain ⟨a,ns,rfl,_⟩:=h
  rfl
 ·obtain ⟨a,ns,rfl,hS,hn,k⟩:=h
  have hu:=hu_of hr
  refine ⟨_,(pss_cons (ps_set (i:=1) sc_law_drawn.nd rfl (Or.inl rfl) (pe_callB (call_max2 rfl) (by rfl) T.max boot_max (pa_cons pe_int (pa_cons (pe_callB call_len_seq (by rfl) T.len PySem.boot_len (pa_cons (pv 0) pa_nil)) pa_nil))))
   (pss_cons (ps_set (i:=2) sc_law_drawn.nd rfl (Or.inl rfl) (pe_lst pa_nil))
   (pss_cons (ps_for PassesOwn.never rfl (pi_range1 rfl T.range (pa_cons (pv 1) pa_nil)) (pg_name (i:=3) sc_law_drawn.nd rfl (Or.inl rfl))
    (pss_cons (ps_set (i:=4) sc_law_drawn.nd rfl (Or.inl rfl) (pv 3))
    (pss_cons (ps_set (i:=5) sc_law_drawn.nd rfl (Or.inl rfl) (pv 3))
    (pss_cons (ps_if (pt_cmpR (op_neL hu) (pv 0) (pe_lst pa_nil) (nomark _))
     (pss_cons (ps_set (i:=4) sc_law_drawn.nd rfl (Or.inl rfl) (pe_ix ix_list (pv 0) (pv 3) (fun _ _ => rfl)))
     (pss_one (ps_set (i:=5) sc_law_drawn.nd rfl (Or.inl rfl) (pe_ix ix_list (pv 0) (pe_op op_mod (pe_op op_add (pv 3) pe_int) (pv 1)) (fun _ _ => rfl)))))
     pss_nil)
    (pss_cons (ps_set (i:=6) sc_law_drawn.nd rfl (Or.inl rfl) (pe_op op_mod (pe_op op_add (pv 4) (pv 3)) (pv 1)))
    (pss_cons (ps_set (i:=7) sc_law_drawn.nd rfl (Or.inl rfl) (pe_op op_mod (pe_op op_add (pe_op op_add (pe_op op_fdiv (pv 5) pe_int) (pe_op op_mul pe_int (pv 3))) pe_int) (pv 1)))
    (pss_one (ps_expr (pe_bm PySem.F.plainAttrs_list PySem.F.slot_list_append PySem.F.type_list_append mt_append (pv 2) (pa_cons (pe_tup (pa_cons (pv 6) (pa_cons (pv 7) (pa_cons (pe_cmpR op_eq (pe_op op_mod (pv 5) pe_int) pe_int (nomark _)) pa_nil)))) pa_nil))))))))))
   (pss_one (ps_ret (pv 2)))))),?_⟩
  refine ⟨_,rfl,a,_,rfl,.inl hS,_,_,rfl,?_⟩
  rw [List.length_map,max_len]
  refine ⟨Nat.zero_le _,fun l hl => ?_⟩
  have hm : max 1 ns.length <= 1000:=by omega
  refine ⟨_,rfl,_,rfl,by omega,by omega,?_⟩
  rw [Int.toNat_natCast]
  refine for_range (lo:=0) (n:=max 1 ns.length) (fun i σ H2 => Ex6 fun (ps : List Addr) (v3 v4 v5 v6 v7 : Option V) => An5 (σ = [some (.ref a),some (.int ((max 1 ns.length : Nat) : Int)),some (.ref l),v3,v4,v5,v6,v7]) (Same H H2) (H2 l = some (.lst (ps.map V.ref))) (Rooms H2 ps ((drawn ns).take i)) (i <= max 1 ns.length))
   ⟨[],none,none,none,none,none,rfl,same_upd hl,upd_same,⟨rfl,fun i p r e => by simp at e⟩,Nat.zero_le _⟩ ?_ ?_
  ·intro i σ H2 hi hP0
   refine kqX fun K0 eK0 => ?_
   obtain ⟨ps,v3,v4,v5,v6,v7,rfl,s2,hl2,hR,_⟩:=hP0
   subst eK0
   rw [Int.zero_add]
   refine ⟨_,rfl,_,rfl,?_⟩
   dsimp only
   refine seq_d fun Rt Dt et ed => ?_
   refine ⟨_,rfl,Nat.zero_le _,fun p hp => ?_⟩
   have nlp : l ≠ p:=ne_of_none hl2 hp
   refine ⟨a,p,_,_,_,rfl,rfl,(s2.upd hp).seq hS,SqL.of upd_same,eqLs_nil,_,rfl,?_⟩
   have hR3 : Rooms (upd H2 p (.lst [])) ps ((drawn ns).take i):=hR.same (same_upd hp)
   have hl3 : upd H2 p (.lst []) l = some (.lst (ps.map V.ref)):=unX nlp hl2
   have s3 : Same H (upd H2 p (.lst [])):=s2.upd hp
   have hpl : ps.length <= 1000:=by rw [hR.1,List.length_take]; omega
   have hpos : (0 : Int) < ((max 1 ns.length : Nat) : Int):=by omega
   generalize upd H2 p (.lst []) = H3 at hR3 hl3 s3
   have tail : ∀ c4 c5 : Int,cellN ns i = c4 -> farN ns i = c5 -> Rt Dt [some (.ref a),some (.int ((max 1 ns.length : Nat) : Int)),some (.ref l),some (.int (i : Int)),some (.int c4),some (.int c5),v6,v7] H3:=by
    intro c4 c5 h4 h5
    rw [et,ed]
    clear et ed
    subst h4 h5
    refine ⟨_,rfl,_,rfl,_,_,rfl,rfl,_,rfl,_,_,rfl,rfl,hpos,?_⟩
    refine ⟨_,rfl,_,_,rfl,rfl,⟨by decide,by decide⟩,_,rfl,_,_,rfl,rfl,.inl ⟨by decide,by decide⟩,_,_,rfl,rfl,_,_,rfl,rfl,_,rfl,_,_,rfl,rfl,hpos,?_⟩
    refine ⟨_,rfl,.inl ⟨rfl,_,SqL.of hl3⟩,_,rfl,_,rfl,_,rfl,_,_,rfl,rfl,(by show (0 : Int) < 3; decide),rfl,(by show 3 <= sizeLine; decide),fun q hq => ?_⟩
    have nlq : l ≠ q:=ne_of_none hl3 hq
    refine ⟨l,_,_,rfl,rfl,(unX nlq hl3),(by rw [List.length_map]; exact small1000 hpl),?_⟩
    refine ⟨ps ++ [q],_,_,_,_,_,rfl,(s3.upd hq).put hl,(by rw [List.map_append]; exact upd_same),?_,hi⟩
    rw [drawn_take ns hi]
    refine Rooms.snoc ⟨hR3.1,fun j x r e1 e2 => ?_⟩ ?_
    ·have hx:=hR3.2 j x r e1 e2
     have n1 : x ≠ l:=fun z => by exact clX z hx hl3 rfl
     rw [upd_ne n1,upd_ne (ne_of_none hx hq)]
     exact hx
    ·rw [upd_ne nlq.symm,upd_same]
     have h1:=Int.toNat_of_nonneg (Int.emod_nonneg (cellN ns i + i) (show ((max 1 ns.length : Nat) : Int) ≠ 0 by omega))
     have h2:=Int.toNat_of_nonneg (Int.emod_nonneg (farN ns i / 3 + 2 * i + 1) (show ((max 1 ns.length : Nat) : Int) ≠ 0 by omega))
     have h3 : rmV (roomOf ns i) = [V.int ((cellN ns i + i) % ((max 1 ns.length : Nat) : Int)),V.int ((farN ns i / 3 + 2 * i + 1) % ((max 1 ns.length : Nat) : Int)),V.bl (decide (V.int (farN ns i % 3) = V.int 0))]:=by
      rw [rmV,roomOf]
      dsimp only
      rw [h1,h2]
      simp
     rw [h3]
   by_cases hns : ns = []
   ·refine ifF (by simp [hns]) ?_
    exact tail _ _ (if_pos hns) (if_pos hns)
   ·refine ifT (by simp [hns]) ?_
    have hml : max 1 ns.length = ns.length:=by
     have : ns.length ≠ 0:=fun z => hns (List.length_eq_zero_iff.mp z)
     omega
    have e4 : ns[i]? = some (cellN ns i):=by
     rw [cellN,if_neg hns]
     have : i < ns.length:=by omega
     simp [this]
    have em : ((i : Int) + 1) % ((max 1 ns.length : Nat) : Int) = (((i + 1) % max 1 ns.length : Nat) : Int):=by
     rw [Int.natCast_emod]; rfl
    have e5 : ns[(i + 1) % max 1 ns.length]? = some (farN ns i):=by
     rw [farN,if_neg hns]
     have : (i + 1) % max 1 ns.length < ns.length:=by
      have:=Nat.mod_lt (i + 1) (show 0 < max 1 ns.length by omega)
      omega
     simp [this]
    refine ⟨_,rfl,_,rfl,a,_,_,_,rfl,rfl,s3.seq hS,atI_nat (by rw [List.getElem?_map,e4]; rfl),?_⟩
    refine ⟨_,rfl,_,rfl,_,_,rfl,rfl,_,rfl,_,_,rfl,rfl,hpos,a,_,_,_,rfl,rfl,s3.seq hS,(by rw [em]; exact atI_nat (by rw [List.getElem?_map,e5]; rfl)),?_⟩
    exact tail _ _ rfl rfl
  ·rintro σ H2 ⟨ps,v3,v4,v5,v6,v7,rfl,s2,hl2,hR,_⟩
   rw [List.take_of_length_le (by rw [drawn_length]; omega)] at hR
   exact ⟨_,rfl,k l ps H2 hl s2 ⟨hl2,hR⟩⟩
theorem sc_law_is_house : FnScope ["_law_found","_law_room","_law_further"] ["_law_found"] (defScope (top 30)):=⟨rfl,rfl,rfl,by decide +kernel,rfl,by decide +kernel,by decide +kernel⟩
theorem ok_ish {fw : Addr} {fdw : FuncData} (F : Fun K "_law_is_house" "_law_is_house" (top 30) f fd) (T : Blt mg) (W : Df K mg "_law_whole" 27 ["_law_found"] fw fdw) : FnOk P w K mg base CX0 2 f fd ["_law_found"] spIsHouse:=by
 have G_whole : FnOk P w K mg base CX0 1 fw fdw ["_law_found"] spWhole:=ok_whole W.fn T
 refine F.ok sc_law_is_house (fun vs H Q E h => ?_) (fun cdv A outer s H vs Q E hr h => ?_)
 ·obtain ⟨a,ps,hs,rfl,_⟩:=h
  rfl
 ·obtain ⟨a,ps,hs,rfl,hh,wf,k⟩:=h
  have hu:=hu_of hr
  refine ⟨_,(pss_cons (ps_if (PW.pt (pw_or (pt_not (pt_val (pe_callB call_isinst (by rfl) T.isinstance boot_isinstance (pa_cons (pv 0) (pa_cons (pe_bltn (v:=.ty "list") rfl T.list boot_list rfl) pa_nil))))) (pw_or1 (pt_cmpR (op_eqL hu) (pv 0) (pe_lst pa_nil) (nomark _)))))
    (pss_one (ps_ret pe_bl))
    pss_nil)
   (pss_cons (ps_for PassesOwn.never rfl (pi_list (pv 0)) (pg_name (i:=1) sc_law_is_house.nd rfl (Or.inl rfl))
    (pss_cons (ps_if (PW.pt (pw_or (pt_not (pt_val (pe_callB call_isinst (by rfl) T.isinstance boot_isinstance (pa_cons (pv 1) (pa_cons (pe_bltn (v:=.ty "tuple") rfl T.tuple boot_tuple rfl) pa_nil))))) (pw_or (pt_cmpR op_ne (pe_callB call_len_seq (by rfl) T.len PySem.boot_len (pa_cons (pv 1) pa_nil)) pe_int (nomark _)) (pw_or1 (pt_not (pt_val (pe_callB call_isinst (by rfl) T.isinstance boot_isinstance (pa_cons (pe_ix ix_tup (pv 1) pe_int (fun _ _ => rfl)) (pa_cons (pe_bltn (v:=.ty "bool") rfl T.bool boot_bool rfl) pa_nil)))))))))
     (pss_one (ps_ret pe_bl))
     pss_nil)
    (pss_one (ps_for PassesOwn.never rfl (pi_tup (pe_slice sl_tup (pv 1) po_none (po_some pe_int))) (pg_name (i:=2) sc_law_is_house.nd rfl (Or.inl rfl))
     (pss_one (ps_if (PW.pt (pw_or (pt_not (pt_val (pe_call G_whole hr rfl W.m W.fn.kp W.b .nil pass0 (pa_cons (pv 2) pa_nil)))) (pw_or (pt_cmpR op_lt (pv 2) pe_int (nomark _)) (pw_or1 (pt_cmpR op_ge (pv 2) (pe_callB call_len_seq (by rfl) T.len PySem.boot_len (pa_cons (pv 0) pa_nil)) (nomark _))))))
      (pss_one (ps_ret pe_bl))
      pss_nil))))))
   (pss_one (ps_ret pe_bl)))),?_⟩
  have hne : ps.map V.ref ≠ []:=fun z => by
   have e1:=congrArg List.length z
   rw [List.length_map,hh.rm.1] at e1
   have e2:=wf.ne
   rw [e1] at e2
   exact absurd e2 (by decide)
  refine ⟨_,rfl,_,_,_,_,rfl,.lst hh.ob,kit_list_list,_,rfl,iteF ?_⟩
  refine ⟨_,rfl,Nat.zero_le _,fun p hp => ?_⟩
  have s1 : Same H (upd H p (.lst [])):=same_upd hp
  refine ⟨a,p,_,_,_,rfl,rfl,SqL.of (s1 _ _ hh.ob),SqL.of upd_same,eqLs_nil,_,rfl,?_⟩
  refine ifF (decide_eq_false hne) ?_
  refine ⟨_,rfl,a,rfl,⟨_,SqL.of (s1 _ _ hh.ob)⟩,for_list (K:=K) (a:=a) (xs:=ps.map V.ref) (fun i σ H2 => ∃ v1 v2,σ = [some (.ref a),v1,v2] /\ Same H H2) ⟨_,_,rfl,s1⟩ (by rintro i σ H2 _ ⟨_,_,_,s2⟩; exact SqL.of (s2 _ _ hh.ob)) ?_ ?_⟩
  ·intro i y σ H2 hy hP0
   refine kqX fun K0 eK0 => ?_
   obtain ⟨v1,v2,rfl,s2⟩:=hP0
   have hi : i < hs.length:=by
    have:=(List.getElem?_eq_some_iff.mp hy).1
    rw [List.length_map,hh.rm.1] at this
    exact this
   have hr0 : hs[i]? = some hs[i]:=by simp [hi]
   obtain ⟨q,hq,hqt,_⟩:=hh.get hr0
   obtain rfl : y = V.ref q:=by
    rw [List.getElem?_map,hq] at hy
    exact (Option.some.inj hy).symm
   have hw:=wf.ex hs[i] (List.getElem_mem hi)
   generalize hs[i] = r at hqt hw
   have hq2:=s2 _ _ hqt
   subst eK0
   refine ⟨_,rfl,_,_,_,_,rfl,.tup hq2,kit_tuple_tuple,_,rfl,iteF ?_⟩
   refine ⟨_,rfl,q,_,rfl,.inr (SqT.of hq2),rfl,_,rfl,iteF ?_⟩
   refine ⟨_,rfl,q,_,_,_,rfl,rfl,SqT.of hq2,rfl,_,_,_,_,rfl,.bl _,kit_bool_bool,_,rfl,iteF ?_⟩
   refine ⟨_,rfl,_,rfl,q,_,rfl,SqT.of hq2,fun z => absurd (show (2 : Nat) = 3 from z.2) (by decide),fun t ht => ?_⟩
   have s3 : Same H (upd H2 t (.tup (cutV (rmV r) none (some 2)))):=s2.upd ht
   refine ⟨t,rfl,⟨_,SqT.of upd_same⟩,for_tup (K:=K) (a:=t) (xs:=cutV (rmV r) none (some 2)) (fun j σ H3 => Ex1 fun v2 => An3 (σ = [some (.ref a),some (.ref q),v2]) (Same H H3) (H3 t = some (.tup (cutV (rmV r) none (some 2))))) ⟨_,rfl,s3,upd_same⟩ (by rintro j σ H3 _ ⟨_,_,_,h3⟩; exact SqT.of h3) ?_ ?_⟩
   ·intro j z σ H3 hz hP0
    refine kqX fun K0 eK0 => ?_
    obtain ⟨v2,rfl,s4,h4⟩:=hP0
    obtain ⟨n,hn,rfl⟩ : ∃ n : Nat,n < hs.length /\ z = V.int (n : Int):=by
     have e : cutV (rmV r) none (some 2) = [V.int r.l,V.int r.r]:=rfl
     rw [e] at hz
     match j,hz with
     | 0,hz => exact ⟨r.l,hw.1,(Option.some.inj hz).symm⟩
     | 1,hz => exact ⟨r.r,hw.2,(Option.some.inj hz).symm⟩
     | j + 2,hz => simp at hz
    subst eK0
    refine ⟨_,rfl,_,rfl,_,rfl,iteF ?_⟩
    refine ⟨_,rfl,_,_,rfl,rfl,_,rfl,?_⟩
    refine ifF (decide_eq_false (by omega)) ?_
    refine ⟨_,rfl,_,rfl,a,_,rfl,.inl (SqL.of (s4 _ _ hh.ob)),_,_,rfl,rfl,_,rfl,?_⟩
    refine ifF (by rw [List.length_map,hh.rm.1]; exact decide_eq_false (by omega)) ?_
    exact ⟨_,rfl,s4,h4⟩
   ·rintro σ H3 ⟨v2,rfl,s4,_⟩
    exact ⟨_,_,rfl,s4⟩
  ·rintro σ H2 ⟨v1,v2,rfl,s2⟩
   exact k H2 s2
theorem sc_law_unhurt : FnScope ["_law_handed","_law_house"] ["_law_handed","_law_house"] (defScope (top 34)):=⟨rfl,rfl,rfl,by decide +kernel,rfl,by decide +kernel,by decide +kernel⟩
theorem ok_unhurt {fw fi : Addr} {fdw fdi : FuncData} (F : Fun K "_law_unhurt" "_law_unhurt" (top 34) f fd) (T : Blt mg) (W : Df K mg "_law_whole" 27 ["_law_found"] fw fdw) (IH : Df K mg "_law_is_house" 30 ["_law_found"] fi fdi) :
  FnOk P w K mg base CX0 3 f fd ["_law_handed","_law_house"] spUnhurt:=by
 have G_ish : FnOk P w K mg base CX0 2 fi fdi ["_law_found"] spIsHouse:=ok_ish IH.fn T W
 refine F.ok sc_law_unhurt (fun vs H Q E h => ?_) (fun cdv A outer s H vs Q E hr h => ?_)
 ·obtain ⟨a,b,ps,hs,rfl,_⟩:=h
  rfl
 ·obtain ⟨a,b,ps,hs,rfl,ha,hb,wf,k⟩:=h
  have hu:=hu_of hr
  refine ⟨_,(pss_one (ps_ret (pe_and (pe_call G_ish hr rfl IH.m IH.fn.kp IH.b .nil pass0 (pa_cons (pv 0) pa_nil)) (pe_one (pe_cmpR (op_eqL hu) (pv 0) (pv 1) (nomark _)))))),?_⟩
  refine ⟨_,rfl,a,ps,hs,rfl,ha,wf,fun H' s' => ⟨_,rfl,iteT ?_⟩⟩
  exact ⟨_,rfl,_,rfl,a,b,_,_,_,rfl,rfl,SqL.of (s' _ _ ha.ob),SqL.of (s' _ _ hb.ob),EqLs.refl (fun x hx => by obtain ⟨p,_,rfl⟩:=List.mem_map.mp hx; exact .same p),k H' s'⟩
theorem sc_law_led : FnScope ["_law_house","_law_room","_law_walk","_law_turn"] ["_law_house","_law_room","_law_walk"] (defScope (top 31)):=⟨rfl,rfl,rfl,by decide +kernel,rfl,by decide +kernel,by decide +kernel⟩
theorem ok_led (F : Fun K "_law_led" "_law_led" (top 31) f fd) : FnOk P w K mg base CX0 1 f fd ["_law_house","_law_room","_law_walk"] spLed:=by
 refine F.ok sc_law_led (fun vs H Q E h => ?_) (fun cdv A outer s H vs Q E hr h => ?_)
 ·obtain ⟨a,ps,hs,i,v,rfl,_⟩:=h
  rfl
 ·obtain ⟨a,ps,hs,i,v,rfl,hh,wf,hi,k⟩:=h
  refine ⟨_,(pss_cons (ps_for PassesOwn.never rfl (pi_str (pv 2)) (pg_name (i:=3) sc_law_led.nd rfl (Or.inl rfl))
    (pss_one (ps_set (i:=1) sc_law_led.nd rfl (Or.inl rfl) (pe_ix ix_tup (pe_ix ix_list (pv 0) (pv 1) (fun _ _ => rfl)) (pe_bm PySem.F.plainAttrs_str PySem.F.slot_str_index PySem.F.type_str_index mt_index pe_str (pa_cons (pv 3) pa_nil)) (fun _ _ => rfl)))))
   (pss_one (ps_ret (pv 1)))),?_⟩
  refine ⟨_,rfl,_,rfl,for_str (x:=txt v) (fun j σ H2 => ∃ v3,σ = [some (.ref a),some (.int (led hs i (v.take j) : Nat)),some (.str (txt v)),v3] /\ H2 = H) ⟨none,rfl,rfl⟩ ?_ ?_⟩
  ·intro j c σ H2 hc hP0
   refine kqX fun K0 eK0 => ?_
   obtain ⟨v3,rfl,rfl⟩:=hP0
   obtain ⟨b,hb,rfl⟩:=txt_get hc
   have hl:=wf.led (v.take j) hi
   have hr0 : hs[led hs i (v.take j)]? = some hs[led hs i (v.take j)]:=by simp [hl]
   obtain ⟨p,_,hp,hat⟩:=hh.get hr0
   have es : led hs i (v.take (j + 1)) = if b then hs[led hs i (v.take j)].r else hs[led hs i (v.take j)].l:=by
    rw [List.take_add_one,hb]
    show led hs i (v.take j ++ [b]) = _
    rw [led_snoc,stp,hr0]
   generalize hs[led hs i (v.take j)] = r at hp es
   subst eK0
   refine ⟨_,rfl,_,rfl,a,_,_,_,rfl,rfl,SqL.of hh.ob,hat,rfl,_,rfl,_,_,_,rfl,rfl,⟨_,occ_sgn b⟩,p,_,_,_,rfl,rfl,SqT.of hp,(?_ : atI (rmV r) _ = some (.int ((if b then r.r else r.l : Nat) : Int))),?_⟩
   ·cases b <;> rfl
   ·exact ⟨_,by rw [es]; rfl,rfl⟩
  ·rintro σ H2 ⟨v3,rfl,rfl⟩
   rw [txt_size,List.take_length] at *
   exact ⟨_,rfl,k⟩
theorem small10000 {n : Nat} (h : n <= 10000) : n < sizeLine:=Nat.lt_of_le_of_lt h (by decide)
set_option genInjectivity false in
structure Plc (α : Type) where
 k : Kd
 key : α -> k.κ
noncomputable def Plc.isP {α : Type} (C : Plc α) (H : Hp) (a : α) (v : V) : Prop:=C.k.isV H (C.key a) v
noncomputable def Plc.Inj {α : Type} (C : Plc α) (G : Gr α) : Prop:=∀ a b,G.U a -> G.U b -> C.key a = C.key b -> a = b
section
variable {α : Type} {C : Plc α} {G : Gr α}
theorem Plc.isP.same {H H' : Hp} {a : α} {v : V} (h : C.isP H a v) (s : ∀ t xs,H t = some (.tup xs) -> H' t = some (.tup xs)) : C.isP H' a v:=Kd.same h s
theorem valV_at {κ : Type} [DecidableEq κ] : ∀ {kvs : List (κ × V)} {i : Nat} {k : κ} {v : V},(kvs.map (·.1)).Nodup -> kvs[i]? = some (k,v) -> valV kvs k = some v
 | [],i,k,v,_,h => by simp at h
 | p :: r,0,k,v,hn,h => by
  have : p = (k,v):=by simpa using h
  subst this
  exact valV_pos rfl
 | p :: r,i + 1,k,v,hn,h => by
  have h' : r[i]? = some (k,v):=by simpa using h
  have hn':=List.nodup_cons.mp hn
  have ne : ¬ p.1 = k:=fun z => hn'.1 (by
   show p.1 ∈ _
   rw [z]
   exact List.mem_map.mpr ⟨_,List.mem_of_getElem? h',rfl⟩)
  rw [valV_neg ne]
  exact valV_at hn'.2 h'
theorem valV_no {κ : Type} [DecidableEq κ] : ∀ {kvs : List (κ × V)} {k : κ},k ∉ kvs.map (·.1) -> valV kvs k = none
 | [],_,_ => rfl
 | p :: r,k,h => by
  have ne : ¬ p.1 = k:=fun z => h (by rw [<- z]; exact List.mem_cons_self ..)
  rw [valV_neg ne]
  exact valV_no fun z => h (List.mem_cons_of_mem _ z)
theorem putK_new {κ : Type} [DecidableEq κ] {kvs : List (κ × V)} {k : κ} {v : V} (h : k ∉ kvs.map (·.1)) : putK kvs k v = kvs ++ [(k,v)]:=by
 unfold putK
 rw [if_neg]
 intro z
 obtain ⟨e,he,q⟩:=List.any_eq_true.mp z
 exact h (List.mem_map.mpr ⟨e,he,by simpa using q⟩)
theorem get_snoc {β : Type} {l : List β} {x y : β} {i : Nat} (e : (l ++ [x])[i]? = some y) : (i < l.length /\ l[i]? = some y) ∨ (i = l.length /\ y = x):=by
 by_cases hi : i < l.length
 ·rw [List.getElem?_append_left hi] at e
  exact .inl ⟨hi,e⟩
 ·rw [List.getElem?_append_right (by omega)] at e
  have h0 : i - l.length = 0:=by
   have:=(List.getElem?_eq_some_iff.mp e).1
   simp at this
   exact this
  rw [h0] at e
  simp at e
  exact .inr ⟨by omega,e.symm⟩
noncomputable def GEntAt (C : Plc α) (H : Hp) (o : Option (α × Bool)) (v : V) : Prop:=match o with
 | none => v = .non
 | some (q,b) => ∃ t x,v = .ref t /\ H t = some (.tup [x,.str (txt [b])]) /\ C.isP H q x
noncomputable def GTbl (C : Plc α) (H : Hp) (kvs : List (C.k.κ × V)) (es : List (GEnt α)) : Prop:=kvs.length = es.length /\ ∀ (i : Nat) k v p o,kvs[i]? = some (k,v) -> es[i]? = some (p,o) -> k = C.key p /\ GEntAt C H o v
noncomputable def MetAt (C : Plc α) (H : Hp) (ms : List V) (es : List (GEnt α)) : Prop:=ms.length = es.length /\ ∀ (i : Nat) v e,ms[i]? = some v -> es[i]? = some e -> C.isP H e.1 v
variable {H H' : Hp} {kvs : List (C.k.κ × V)} {es : List (GEnt α)} {ms : List V}
theorem GEntAt.same {o : Option (α × Bool)} {v : V} (h : GEntAt C H o v) (s : ∀ t xs,H t = some (.tup xs) -> H' t = some (.tup xs)) : GEntAt C H' o v:=by
 cases o with
 | none => exact h
 | some qb => obtain ⟨t,x,e,ht,hx⟩:=h; exact ⟨t,x,e,s _ _ ht,hx.same s⟩
theorem GTbl.same (h : GTbl C H kvs es) (s : ∀ t xs,H t = some (.tup xs) -> H' t = some (.tup xs)) : GTbl C H' kvs es:=⟨h.1,fun i k v p o e1 e2 => let ⟨a,b⟩:=h.2 i k v p o e1 e2; ⟨a,b.same s⟩⟩
theorem MetAt.same (h : MetAt C H ms es) (s : ∀ t xs,H t = some (.tup xs) -> H' t = some (.tup xs)) : MetAt C H' ms es:=⟨h.1,fun i v e e1 e2 => (h.2 i v e e1 e2).same s⟩
theorem GTbl.keys (h : GTbl C H kvs es) : kvs.map (·.1) = es.map fun e => C.key e.1:=by
 refine List.ext_getElem? fun i => ?_
 rw [List.getElem?_map,List.getElem?_map]
 by_cases hi : i < es.length
 ·have e2 : es[i]? = some es[i]:=by simp [hi]
  have e1 : kvs[i]? = some (kvs[i]'(by rw [h.1]; exact hi)):=by simp
  rw [e1,e2]
  exact congrArg some (h.2 i _ _ _ _ e1 e2).1
 ·rw [List.getElem?_eq_none (by rw [h.1]; omega),List.getElem?_eq_none (by omega)]
  rfl
theorem key_mem (inj : C.Inj G) (hU : ∀ e ∈ es,G.U e.1) {a : α} (ha : G.U a) : C.key a ∈ (es.map fun e => C.key e.1) ↔ a ∈ es.map (·.1):=by
 constructor
 ·intro z
  obtain ⟨e,he,q⟩:=List.mem_map.mp z
  exact List.mem_map.mpr ⟨e,he,inj _ _ (hU e he) ha q⟩
 ·intro z
  obtain ⟨e,he,q⟩:=List.mem_map.mp z
  exact List.mem_map.mpr ⟨e,he,by rw [<- q]⟩
theorem nodup_keys (inj : C.Inj G) : ∀ {es : List (GEnt α)},(∀ e ∈ es,G.U e.1) -> (es.map (·.1)).Nodup -> (es.map fun e => C.key e.1).Nodup
 | [],_,_ => by simp
 | e :: r,hU,hn => by
  obtain ⟨n1,n2⟩:=List.nodup_cons.mp hn
  refine List.nodup_cons.mpr ⟨fun z => n1 ?_,nodup_keys inj (fun x hx => hU x (List.mem_cons_of_mem _ hx)) n2⟩
  exact (key_mem inj (fun x hx => hU x (List.mem_cons_of_mem _ hx)) (hU e (List.mem_cons_self ..))).mp z
theorem GTbl.nodup (h : GTbl C H kvs es) (inj : C.Inj G) (hU : ∀ e ∈ es,G.U e.1) (hn : (es.map (·.1)).Nodup) : (kvs.map (·.1)).Nodup:=by
 rw [h.keys]
 exact nodup_keys inj hU hn
theorem GTbl.get (h : GTbl C H kvs es) (inj : C.Inj G) (hU : ∀ e ∈ es,G.U e.1) (hn : (es.map (·.1)).Nodup) {i : Nat} {p : α} {o : Option (α × Bool)} (e : es[i]? = some (p,o)) : ∃ v,kvs[i]? = some (C.key p,v) /\ valV kvs (C.key p) = some v /\ GEntAt C H o v:=by
 have hi : i < kvs.length:=by rw [h.1]; exact (List.getElem?_eq_some_iff.mp e).1
 have e1 : kvs[i]? = some kvs[i]:=by simp [hi]
 obtain ⟨k1,k2⟩:=h.2 i kvs[i].1 kvs[i].2 p o e1 e
 have e2 : kvs[i]? = some (C.key p,kvs[i].2):=by rw [e1,<- k1]
 exact ⟨_,e2,valV_at (h.nodup inj hU hn) e2,k2⟩
theorem GTbl.no (h : GTbl C H kvs es) (inj : C.Inj G) (hU : ∀ e ∈ es,G.U e.1) {p : α} (hu : G.U p) (hp : p ∉ es.map (·.1)) : valV kvs (C.key p) = none:=by
 refine valV_no fun z => hp ?_
 rw [h.keys] at z
 exact (key_mem inj hU hu).mp z
theorem GTbl.put (h : GTbl C H kvs es) (inj : C.Inj G) (hU : ∀ e ∈ es,G.U e.1) {p q : α} {b : Bool} {t : Addr} {x : V} (hu : G.U p) (hp : p ∉ es.map (·.1)) (ht : H t = some (.tup [x,.str (txt [b])])) (hx : C.isP H q x) :
  GTbl C H (putK kvs (C.key p) (.ref t)) (es ++ [(p,some (q,b))]):=by
 rw [putK_new (fun z => by rw [h.keys] at z; exact hp ((key_mem inj hU hu).mp z))]
 refine ⟨by simp [h.1],fun i k v p' o e1 e2 => ?_⟩
 rcases get_snoc e1 with ⟨h1,e1⟩ | ⟨h1,e1⟩ <;> rcases get_snoc e2 with ⟨h2,e2⟩ | ⟨h2,e2⟩
 ·exact h.2 i k v p' o e1 e2
 ·have:=h.1; omega
 ·have:=h.1; omega
 ·cases e1
  cases e2
  exact ⟨rfl,t,x,rfl,ht,hx⟩
theorem MetAt.snoc (h : MetAt C H ms es) {e : GEnt α} {v : V} (hv : C.isP H e.1 v) : MetAt C H (ms ++ [v]) (es ++ [e]):=by
 refine ⟨by simp [h.1],fun i v' e' e1 e2 => ?_⟩
 rcases get_snoc e1 with ⟨h1,e1⟩ | ⟨h1,e1⟩ <;> rcases get_snoc e2 with ⟨h2,e2⟩ | ⟨h2,e2⟩
 ·exact h.2 i v' e' e1 e2
 ·have:=h.1; omega
 ·have:=h.1; omega
 ·subst e1 e2; exact hv
end
noncomputable def spExG {α : Type} (C : Plc α) (G : Gr α) : Sp:=fun vs H Q _ => Ex2 fun a v => An4 (vs = [v]) (G.U a) (C.isP H a v) (∀ p H' vl vr,Same H H' -> H' p = some (.tup [vl,vr]) -> C.isP H' (G.nx a false) vl -> C.isP H' (G.nx a true) vr -> Q (.ref p) H')
noncomputable def spWant {α : Type} (C : Plc α) (G : Gr α) (want : α -> Bool) : Sp:=fun vs H Q _ => Ex2 fun a v => An4 (vs = [v]) (G.U a) (C.isP H a v) (∀ H',Same H H' -> Q (.bl (want a)) H')
structure ExIn (P : Program) (w : World) (K : PySem.W.Frag) (mg : Str -> Option Value) (base : Heap) (k : Nat) {α : Type} (C : Plc α) (G : Gr α) (want : α -> Bool) (H : Hp) (v0 : V) (fe fw : Addr) (Re Rw : Hp -> Prop) : Prop where
 p0 : C.isP H G.s0 v0
 fe : FvOk P w K mg base k fe Re (spExG C G)
 fw : FvOk P w K mg base k fw Rw (spWant C G want)
 re : Re H
 rw : Rw H
 se : ∀ H1 H2,Re H1 -> Same H1 H2 -> Re H2
 sw : ∀ H1 H2,Rw H1 -> Same H1 H2 -> Rw H2
 inj : C.Inj G
 few : G.B <= 10000
noncomputable def spExplore (P : Program) (w : World) (K : PySem.W.Frag) (mg : Str -> Option Value) (base : Heap) (k : Nat) {α : Type} (C : Plc α) (G : Gr α) (want : α -> Bool) : Sp:=fun vs H Q _ => Ex5 fun v0 fe fw Re Rw => An4 (vs = [v0,.ref fe,.ref fw]) (ExIn P w K mg base k C G want H v0 fe fw Re Rw) ((∀ t d kvs es H',Same H H' -> H' t = some (.tup [.ref d,.non]) -> H' d = some (C.k.mk kvs) -> GTbl C H' kvs es -> GEx G es es.length -> (∀ e ∈ es,want e.1 = false) -> Q (.ref t) H')) ((∀ t d kvs es n a va H',Same H H' -> H' t = some (.tup [.ref d,va]) -> H' d = some (C.k.mk kvs) -> GTbl C H' kvs es -> GEx G es n -> a ∈ es.map (·.1) -> C.isP H' a va -> want a = true -> Q (.ref t) H'))
noncomputable def spWalkTo {α : Type} (C : Plc α) (G : Gr α) : Sp:=fun vs H Q _ => Ex6 fun d kvs es n a v => An9 (vs = [.ref d,v]) (H d = some (C.k.mk kvs)) (GTbl C H kvs es) (GEx G es n) (C.Inj G) (G.B <= 10000) (a ∈ es.map (·.1)) (C.isP H a v) (∀ (wk : List Bool) (H' : Hp),G.led G.s0 wk = a -> Same H H' -> Q (.str (txt wk)) H')
noncomputable def spFirst (P : Program) (w : World) (K : PySem.W.Frag) (mg : Str -> Option Value) (base : Heap) (k : Nat) {α : Type} (C : Plc α) (G : Gr α) (want : α -> Bool) : Sp:=fun vs H Q _ => Ex5 fun v0 fe fw Re Rw => An4 (vs = [v0,.ref fe,.ref fw]) (ExIn P w K mg base k C G want H v0 fe fw Re Rw) ((∀ H',Same H H' -> (∀ a,G.Reach a -> want a = false) -> Q .non H')) (∀ (wk : List Bool) (H' : Hp),want (G.led G.s0 wk) = true -> Same H H' -> Q (.str (txt wk)) H')
end
end Law
set_option maxHeartbeats 8000000
namespace Law
open PySem L2 Hs PyProof.Rows
section
variable {P : Program} {w : World} {K : PySem.W.Frag} {mg : Str -> Option Value} {base : Heap} {f : Addr} {fd : FuncData}
theorem join_txt : ∀ w : List Bool,Txt.join "" (w.map fun b => txt [b]) = txt w:=by
 intro w
 show PySem.Builtin.Str.glued "" _ = _
 rw [PySem.StrLaws.glued_eq_join]
 induction w with
 | nil => rfl
 | cons b w ih =>
  cases w with
  | nil => rfl
  | cons c w =>
   show txt [b] ++ "" ++ Str.join "" (((c :: w).map fun b => txt [b])) = _
   rw [ih,show txt [b] ++ ("" : Str) = txt [b] from Str.append_empty _,txt_append]
   rfl
theorem sum_txt : ∀ w : List Bool,((w.map fun b => txt [b]).map (·.length)).sum = w.length
 | [] => rfl
 | b :: w => by
  rw [List.map_cons,List.map_cons,List.sum_cons,sum_txt w,List.length_cons,txt_len]
  simp
  omega
theorem sc_walk_to : FnScope ["steps","place","turns","step"] ["steps","place"] (defScope (top 2)):=⟨rfl,rfl,rfl,by decide +kernel,rfl,by decide +kernel,by decide +kernel⟩
theorem ok_walkto {α : Type} {C : Plc α} {G : Gr α} (F : Fun K "walk_to" "walk_to" (top 2) f fd) (TR : mg "reversed" = none) : FnOk P w K mg base CX0 1 f fd ["steps","place"] (spWalkTo C G):=by
 refine F.ok sc_walk_to (fun vs H Q E h => ?_) (fun cdv A outer s H vs Q E hr h => ?_)
 ·obtain ⟨d,kvs,es,n,a,v,rfl,_⟩:=h
  rfl
 ·obtain ⟨d,kvs,es,n,a,v,rfl,hd,hT,hE,inj,few,ha,hv,k⟩:=h
  have hu:=hu_of hr
  have hel:=hE.length
  refine ⟨_,(pss_cons (ps_set (i:=2) sc_walk_to.nd rfl (Or.inl rfl) (pe_lst pa_nil))
   (pss_cons (ps_set (i:=3) sc_walk_to.nd rfl (Or.inl rfl) (pe_dget hu (pv 0) (pv 1) (fun _ _ => rfl)))
   (pss_cons (ps_while PassesOwn.never (pt_cmpR op_notN (pv 3) pe_non (nomark _))
    (pss_cons (ps_expr (pe_bm PySem.F.plainAttrs_list PySem.F.slot_list_append PySem.F.type_list_append mt_append (pv 2) (pa_cons (pe_ix ix_tup (pv 3) pe_int (fun _ _ => rfl)) pa_nil)))
    (pss_one (ps_set (i:=3) sc_walk_to.nd rfl (Or.inl rfl) (pe_dget hu (pv 0) (pe_ix ix_tup (pv 3) pe_int (fun _ _ => rfl)) (fun _ _ => rfl))))))
   (pss_one (ps_ret (pe_joinRev rfl TR rfl pe_str (pv 2))))))),?_⟩
  obtain ⟨e0,he0,rfl⟩:=List.mem_map.mp ha
  obtain ⟨i0,hi0⟩:=List.getElem?_of_mem he0
  refine ⟨Nat.zero_le _,fun l hl => ?_⟩
  have s1 : Same H (upd H l (.lst [])):=same_upd hl
  have hdd : ∀ {H' : Hp},Same H H' -> ∀ {i : Nat} {q : α} {o : Option (α × Bool)} {x : V},C.isP H' q x -> es[i]? = some (q,o) -> ∃ v,DGet H' d x (some v) /\ GEntAt C H' o v:=fun {H'} s' {i q o x} hx e => by
   obtain ⟨v,_,h2,h3⟩:=hT.get inj hE.u hE.nd e
   refine ⟨v,?_,h3.same fun t xs z => s' _ _ z⟩
   rw [<- h2]
   exact Kd.get (s' _ _ hd) hx
  obtain ⟨v0,hv0,hv0'⟩:=hdd s1 (hv.same fun _ _ z => s1 _ _ z) (show es[i0]? = some (e0.1,e0.2) from hi0)
  refine ⟨_,rfl,_,rfl,d,v0,rfl,hv0,?_⟩
  refine while_by (fun σ H2 => Ex5 fun (i : Nat) (q : α) (o : Option (α × Bool)) (v' : V) (ts : List Bool) => An7 (σ = [some (.ref d),some v,some (.ref l),some v']) (Same H H2) (H2 l = some (.lst (ts.map fun b => .str (txt [b])))) (es[i]? = some (q,o)) (GEntAt C H2 o v') (G.led q ts.reverse = e0.1) (ts.length + i <= es.length))
   (fun σ H2 => match H2 l with | some (.lst xs) => es.length - xs.length | _ => 0) ⟨i0,e0.1,e0.2,v0,[],rfl,s1,upd_same,hi0,hv0',rfl,by have:=(List.getElem?_eq_some_iff.mp hi0).1; simp; omega⟩ ?_ ?_
  ·intro σ H2 hP0
   refine kqX fun K0 eK0 => ?_
   obtain ⟨i,q,o,v',ts,rfl,s2,hl2,hi,hv',hled,hlen⟩:=hP0
   subst eK0
   refine ⟨_,rfl,rfl,_,rfl,?_⟩
   cases o with
   | none =>
    have hv' : v' = .non:=hv'
    subst hv'
    refine ifF rfl ?_
    have hq:=hE.only i q hi
    subst hq
    refine ⟨_,rfl,_,rfl,l,ts.map (fun b => txt [b]),rfl,?_,?_,?_⟩
    ·rw [List.map_map]
     exact SqL.of hl2
    ·rw [sum_txt,List.length_map,show ("" : Str).length = 0 from rfl]
     omega
    ·rw [<- List.map_reverse,join_txt]
     exact k _ H2 hled s2
   | some qb =>
    obtain ⟨q',b⟩:=qb
    obtain ⟨t,x,rfl,ht,hx⟩:=hv'
    refine ifT rfl ?_
    obtain ⟨j,o',hj,hjq,hst⟩:=hE.par i q q' b hi
    have hts : ts.length <= 10000:=by omega
    refine ⟨_,rfl,.inl ⟨rfl,_,SqL.of hl2⟩,_,rfl,t,_,_,_,rfl,rfl,SqT.of ht,rfl,l,_,_,rfl,rfl,hl2,(by rw [List.length_map]; exact small10000 hts),?_⟩
    have nlt : t ≠ l:=nfX ht hl2 rfl
    have s3 : Same H (upd H2 l (.lst ((ts.map fun b => V.str (txt [b])) ++ [.str (txt [b])]))):=s2.put hl
    have tu : ∀ t' xs,H2 t' = some (.tup xs) -> upd H2 l (.lst ((ts.map fun b => V.str (txt [b])) ++ [.str (txt [b])])) t' = some (.tup xs):=fun t' xs z => unX (nfX z hl2 rfl) z
    obtain ⟨v2,hv2,hv2'⟩:=hdd s3 (hx.same tu) hjq
    refine ⟨_,rfl,_,rfl,t,_,_,_,rfl,rfl,SqT.of (tu _ _ ht),rfl,d,v2,rfl,hv2,?_⟩
    refine ⟨⟨j,q',o',v2,ts ++ [b],rfl,s3,by rw [upd_same]; simp,hjq,hv2',?_,by simp; omega⟩,?_⟩
    ·rw [List.reverse_append]
     show G.led (G.nx q' b) ts.reverse = _
     rw [hst]
     exact hled
    ·rw [upd_same,hl2]
     simp
     omega
  ·intro σ H2 Q1 Q2 hq hc
   obtain ⟨x,e1,e2,b,e3,q1⟩:=hc
   exact ⟨x,e1,e2,b,e3,hq _ _ q1⟩
theorem sc_explore : FnScope ["start","exits","wanted","steps","met","looked_at","here","turn","there"] ["start","exits","wanted"] (defScope (top 1)):=⟨rfl,rfl,rfl,by decide +kernel,rfl,by decide +kernel,by decide +kernel⟩
theorem ok_explore {k0 : Nat} {α : Type} {C : Plc α} {G : Gr α} {want : α -> Bool} (F : Fun K "explore" "explore" (top 1) f fd) (T : Blt mg) : FnOk P w K mg base CX0 (k0 + 1) f fd ["start","exits","wanted"] (spExplore P w K mg base k0 C G want):=by
 refine F.ok sc_explore (fun vs H Q E h => ?_) (fun cdv A outer s H vs Q E hr h => ?_)
 ·obtain ⟨v0,fe,fw,Re,Rw,rfl,_⟩:=h
  rfl
 ·obtain ⟨v0,fe,fw,Re,Rw,rfl,hI,kN,kS⟩:=h
  have hu:=hu_of hr
  have inj:=hI.inj
  have few:=hI.few
  refine ⟨_,(pss_cons (ps_set (i:=3) sc_explore.nd rfl (Or.inl rfl) (pe_disp1 C.k (Nat.lt_of_succ_lt hu) (pv 0) pe_non))
   (pss_cons (ps_set (i:=4) sc_explore.nd rfl (Or.inl rfl) (pe_lst (pa_cons (pv 0) pa_nil)))
   (pss_cons (ps_set (i:=5) sc_explore.nd rfl (Or.inl rfl) pe_int)
   (pss_cons (ps_while PassesOwn.never (pt_cmpR op_lt (pv 5) (pe_callB call_len_seq (by rfl) T.len PySem.boot_len (pa_cons (pv 4) pa_nil)) (nomark _))
    (pss_cons (ps_set (i:=6) sc_explore.nd rfl (Or.inl rfl) (pe_ix ix_list (pv 4) (pv 5) (fun _ _ => rfl)))
    (pss_cons (ps_if (pt_val (pe_callV (i:=2) hr rfl (Or.inl rfl) (pa_cons (pv 6) pa_nil)))
     (pss_one (ps_ret (pe_tup (pa_cons (pv 3) (pa_cons (pv 6) pa_nil)))))
     pss_nil)
    (pss_cons (ps_aug (i:=5) sc_explore.nd rfl (Or.inl rfl) pe_int ip_add)
    (pss_one (ps_for PassesOwn.never rfl (pi_zip rfl T.zip (pa_cons pe_str (pa_cons (pe_callV (i:=1) hr rfl (Or.inl rfl) (pa_cons (pv 6) pa_nil)) pa_nil))) (pg_tup rfl (pgs_cons (pg_name (i:=7) sc_explore.nd rfl (Or.inl rfl)) (pgs_cons (pg_name (i:=8) sc_explore.nd rfl (Or.inl rfl)) pgs_nil)))
     (pss_one (ps_if (pt_cmp (pc_dnotin hu (pv 8) (pv 3)))
      (pss_cons (ps_dput hu (pv 3) (pv 8) (pe_tup (pa_cons (pv 6) (pa_cons (pv 7) pa_nil))) rfl)
      (pss_one (ps_expr (pe_bm PySem.F.plainAttrs_list PySem.F.slot_list_append PySem.F.type_list_append mt_append (pv 4) (pa_cons (pv 8) pa_nil)))))
      pss_nil))))))))
   (pss_one (ps_ret (pe_tup (pa_cons (pv 3) (pa_cons pe_non pa_nil))))))))),?_⟩
  refine fun d hd => ⟨_,rfl,upd_same,C.key G.s0,hI.p0.same fun t xs z => unX (ne_of_none z hd) z,?_⟩
  rw [upd_upd]
  refine ⟨_,rfl,(by show 1 <= sizeLine; decide),fun m hm => ?_⟩
  have ndm : d ≠ m:=fun z => by exact clX z.symm hm upd_same rfl
  have hm0 : H m = none:=by rw [upd_ne (Ne.symm ndm)] at hm; exact hm
  have sst : Same H (upd (upd H d (C.k.mk [(C.key G.s0,.non)])) m (.lst [v0])):=(same_upd hd).put hm0
  refine while_by (fun σ H2 => Ex7 fun (es : List (GEnt α)) (kvs : List (C.k.κ × V)) (ms : List V) (n : Nat) (v5 v6 v7 : Option V) => An8 (σ = [some v0,some (.ref fe),some (.ref fw),some (.ref d),some (.ref m),some (.int (n : Int)),v5,v6,v7]) (Same H H2) (H2 d = some (C.k.mk kvs)) (GTbl C H2 kvs es) (H2 m = some (.lst ms)) (MetAt C H2 ms es) (GEx G es n) (∀ (i : Nat) e,i < n -> es[i]? = some e -> want e.1 = false))
   (fun σ H2 => match (σ[5]? : Option (Option V)) with | some (some (V.int n)) => G.B - n.toNat | _ => 0)
   ⟨[(G.s0,none)],[(C.key G.s0,.non)],[v0],0,none,none,none,rfl,sst,unX ndm upd_same,⟨rfl,fun i k v p o e1 e2 => ?_⟩,upd_same,⟨rfl,fun i v e e1 e2 => ?_⟩,GEx.start G,fun i e h => by omega⟩ ?_ ?_
  ·match i,e1,e2 with
   | 0,e1,e2 => cases e1; cases e2; exact ⟨rfl,rfl⟩
   | i + 1,e1,e2 => simp at e2
  ·match i,e1,e2 with
   | 0,e1,e2 => cases e1; cases e2; exact hI.p0.same fun t xs z => sst _ _ z
   | i + 1,e1,e2 => simp at e2
  ·intro σ H2 hP0
   refine kqX fun K0 eK0 => ?_
   obtain ⟨es,kvs,ms,n,v5,v6,v7,rfl,s2,hd2,hT2,hm2,hM2,hE,hW⟩:=hP0
   have hel:=hE.length
   subst eK0
   refine ⟨_,rfl,_,rfl,m,_,rfl,.inl (SqL.of hm2),_,_,rfl,rfl,_,rfl,?_⟩
   by_cases hlt : n < es.length
   ·refine ifT (by rw [hM2.1]; exact decide_eq_true (by omega)) ?_
    refine seq_d fun Ra Da ea da => ?_
    have he : es[n]? = some es[n]:=by simp [hlt]
    have hml : n < ms.length:=by rw [hM2.1]; exact hlt
    have hme : ms[n]? = some ms[n]:=by simp [hml]
    have hP:=hM2.2 n _ _ hme he
    have hhl : G.U es[n].1:=hE.u _ (List.getElem_mem hlt)
    generalize ms[n] = vh at hme hP
    generalize es[n] = en at he hP hhl
    obtain ⟨here,o0⟩:=en
    refine ⟨_,rfl,_,rfl,m,_,_,_,rfl,rfl,SqL.of hm2,atI_nat hme,?_⟩
    refine seq_n (R:=Ra) ea fun Rb eb => ?_
    clear ea Ra
    refine ⟨fw,Rw,spWant C G want,rfl,hI.fw,hI.sw _ _ hI.rw s2,_,rfl,hI.sw _ _ hI.rw s2,here,vh,rfl,hhl,hP,fun H3 s3 => ⟨_,rfl,?_⟩⟩
    have s23:=s2.trans s3
    have hd3:=s3 _ _ hd2
    have hm3:=s3 _ _ hm2
    have hT3:=hT2.same fun t xs z => s3 _ _ z
    have hM3:=hM2.same fun t xs z => s3 _ _ z
    have hP3:=hP.same fun t xs z => s3 _ _ z
    cases hwh : want here with
    | true =>
     refine ifT rfl ?_
     refine ⟨_,rfl,_,rfl,(by show 2 <= sizeLine; decide),fun t ht => ?_⟩
     have s4 : Same H3 (upd H3 t (.tup [.ref d,vh])):=same_upd ht
     subst da
     exact kS t d kvs es n here vh _ (s23.trans s4) upd_same (s4 _ _ hd3) (hT3.same fun t xs z => s4 _ _ z) hE (List.mem_map.mpr ⟨_,List.mem_of_getElem? he,rfl⟩) (hP3.same fun t xs z => s4 _ _ z) hwh
    | false =>
     refine ifF rfl ?_
     refine seq_n (R:=Rb) eb fun Rc ec => ?_
     clear eb Rb
     refine ⟨_,rfl,_,_,rfl,rfl,?_⟩
     refine seq_e (R:=Rc) ec ?_
     clear ec Rc
     refine ⟨fe,Re,spExG C G,rfl,hI.fe,hI.se _ _ hI.re s23,_,rfl,hI.se _ _ hI.re s23,here,vh,rfl,hhl,hP3,fun t H4 vl vr s4 htt hvl hvr => ?_⟩
     have s24:=s23.trans s4
     have hd4:=s4 _ _ hd3
     have hm4:=s4 _ _ hm3
     have hT4:=hT3.same fun t xs z => s4 _ _ z
     have hM4:=hM3.same fun t xs z => s4 _ _ z
     have hP4:=hP3.same fun t xs z => s4 _ _ z
     clear hd3 hm3 hT3 hM3 hd2 hm2 hT2 hM2
     refine ⟨_,t,_,rfl,(by decide +kernel),htt,?_⟩
     refine for_zip (x:="lr") (l2:=t) (ys:=[vl,vr]) (by rw [lr_cps]; exact Nat.le_refl _)
      (fun j σ H5 => Ex5 fun (es : List (GEnt α)) (kvs : List (C.k.κ × V)) (ms : List V) (v6 v7 : Option V) => An15 (σ = [some v0,some (.ref fe),some (.ref fw),some (.ref d),some (.ref m),some (.int ((n : Int) + 1)),some vh,v6,v7]) (Same H H5) (H5 t = some (.tup [vl,vr])) (H5 d = some (C.k.mk kvs)) (GTbl C H5 kvs es) (H5 m = some (.lst ms)) (MetAt C H5 ms es) (GEx G es n) (es[n]? = some (here,o0)) ((∀ (i : Nat) e,i < n -> es[i]? = some e -> want e.1 = false)) (C.isP H5 here vh) (C.isP H5 (G.nx here false) vl) (C.isP H5 (G.nx here true) vr) ((1 <= j -> G.nx here false ∈ es.map (·.1))) ((2 <= j -> G.nx here true ∈ es.map (·.1))))
      ⟨es,kvs,ms,v6,v7,rfl,s24,htt,hd4,hT4,hm4,hM4,hE,he,hW,hP4,hvl,hvr,fun z => absurd z (by omega),fun z => absurd z (by omega)⟩ (by rintro j σ H5 _ ⟨_,_,_,_,_,_,_,z,_⟩; exact z) ?_ ?_
     ·intro j c y q2 σ H5 hc hy hP0 hq2
      refine kqX fun K0 eK0 => ?_
      obtain ⟨es,kvs,ms,v6,v7,rfl,s5,ht5,hd5,hT5,hm5,hM5,hE5,he5,hW5,hP5,hvl5,hvr5,hj1,hj2⟩:=hP0
      obtain ⟨bb,hbb,hyP,hjb⟩ : ∃ bb : Bool,c = sgn bb /\ C.isP H5 (G.nx here bb) y /\ j = (if bb then 1 else 0):=by
       rw [lr_cps] at hc
       match j,hc,hy with
       | 0,hc,hy => cases hy; exact ⟨false,(Option.some.inj hc).symm,hvl5,rfl⟩
       | 1,hc,hy => cases hy; exact ⟨true,(Option.some.inj hc).symm,hvr5,rfl⟩
       | j + 2,hc,hy => simp at hy
      subst hbb
      have hel5:=hE5.length
      have hUn : G.U (G.nx here bb):=G.cl _ _ hhl
      subst eK0
      refine ⟨q2,_,rfl,SqT.of upd_same,rfl,_,_,rfl,_,_,rfl,rfl,?_⟩
      have s6 : Same H5 (upd H5 q2 (.tup [.str ⟨#[sgn bb]⟩,y])):=same_upd hq2
      generalize upd H5 q2 (.tup [.str ⟨#[sgn bb]⟩,y]) = H6 at s6
      have tu6 : ∀ t xs,H5 t = some (.tup xs) -> H6 t = some (.tup xs):=fun t xs z => s6 _ _ z
      have hT6:=hT5.same tu6
      have hM6:=hM5.same tu6
      have hd6:=s6 _ _ hd5
      have hm6:=s6 _ _ hm5
      have ht6:=s6 _ _ ht5
      dsimp only
      refine end_d fun Db db => ?_
      refine ⟨_,rfl,_,rfl,d,_,rfl,Kd.get hd6 (hyP.same tu6),_,rfl,?_⟩
      by_cases hin : G.nx here bb ∈ es.map (·.1)
      ·obtain ⟨e,hem,hep⟩:=List.mem_map.mp hin
       obtain ⟨i,hi⟩:=List.getElem?_of_mem hem
       obtain ⟨v,_,hv,_⟩:=hT6.get inj hE5.u hE5.nd (show es[i]? = some (G.nx here bb,e.2) from by rw [hi,<- hep])
       refine ifF (by rw [hv]; rfl) ?_
       subst db
       refine ⟨es,kvs,ms,_,_,rfl,s5.trans s6,ht6,hd6,hT6,hm6,hM6,hE5,he5,hW5,hP5.same tu6,hvl5.same tu6,hvr5.same tu6,fun z => ?_,fun z => ?_⟩
       ·cases bb with
        | false => exact hin
        | true => exact hj1 (by rw [hjb]; exact Nat.le_refl _)
       ·cases bb with
        | false => rw [hjb] at z; exact absurd z (by decide)
        | true => exact hin
      ·refine ifT (by rw [hT6.no inj hE5.u hUn hin]; rfl) ?_
       refine ⟨_,rfl,_,rfl,(by show 2 <= sizeLine; decide),fun t2 ht2 => ?_⟩
       have s7 : Same H6 (upd H6 t2 (.tup [vh,.str ⟨#[sgn bb]⟩])):=same_upd ht2
       have ht27 : upd H6 t2 (.tup [vh,.str ⟨#[sgn bb]⟩]) t2 = some (.tup [vh,.str (txt [bb])]):=upd_same
       generalize upd H6 t2 (.tup [vh,.str ⟨#[sgn bb]⟩]) = H7 at s7 ht27
       have tu7 : ∀ t xs,H5 t = some (.tup xs) -> H7 t = some (.tup xs):=fun t xs z => s7 _ _ (s6 _ _ z)
       have hd7:=s7 _ _ hd6
       have hm7:=s7 _ _ hm6
       have ht7:=s7 _ _ ht6
       have hT7:=(hT5.same tu7).put inj hE5.u hUn hin ht27 (hP5.same tu7)
       have hkl : kvs.length < sizeLine:=by rw [hT5.1]; exact small10000 (by omega)
       refine ⟨_,rfl,_,rfl,d,_,rfl,Kd.put hd7 (hyP.same tu7) hkl,?_⟩
       have ntd : t ≠ d:=ne_of ht7 hd7 (fun z => Kd.nt _ z.symm)
       have ntm : t ≠ m:=nfX ht7 hm7 rfl
       have tu8 : ∀ t xs,H7 t = some (.tup xs) -> upd H7 d (C.k.mk (putK kvs (C.key (G.nx here bb)) (.ref t2))) t = some (.tup xs):=fun t xs z => unX (ne_of z hd7 (fun y => Kd.nt _ y.symm)) z
       have hm8 : upd H7 d (C.k.mk (putK kvs (C.key (G.nx here bb)) (.ref t2))) m = some (.lst ms):=unX ndm.symm hm7
       refine ⟨_,rfl,.inl ⟨rfl,_,SqL.of hm8⟩,_,rfl,m,_,_,rfl,rfl,hm8,(by rw [hM5.1]; exact small10000 (by omega)),?_⟩
       have tu9 : ∀ t xs,H7 t = some (.tup xs) -> upd (upd H7 d (C.k.mk (putK kvs (C.key (G.nx here bb)) (.ref t2)))) m (.lst (ms ++ [y])) t = some (.tup xs):=fun t xs z => unX (nfX (tu8 _ _ z) hm8 rfl) (tu8 _ _ z)
       have tu59 : ∀ t xs,H5 t = some (.tup xs) -> upd (upd H7 d (C.k.mk (putK kvs (C.key (G.nx here bb)) (.ref t2)))) m (.lst (ms ++ [y])) t = some (.tup xs):=fun t xs z => tu9 _ _ (tu7 _ _ z)
       have hE6:=hE5.add he5 rfl hin
       have hnl : n < es.length:=(List.getElem?_eq_some_iff.mp he5).1
       subst db
       refine ⟨es ++ [(G.nx here bb,some (here,bb))],_,ms ++ [y],_,_,rfl,(((s5.trans s6).trans s7).put hd).put hm0,tu9 _ _ ht7,unX ndm upd_same,hT7.same tu9,upd_same,(hM5.same tu59).snoc (hyP.same tu59),hE6,by rw [List.getElem?_append_left hnl]; exact he5,fun i e hi z => ?_,hP5.same tu59,hvl5.same tu59,hvr5.same tu59,fun z => ?_,fun z => ?_⟩
       ·rw [List.getElem?_append_left (by omega)] at z
        exact hW5 i e hi z
       ·rw [List.map_append]
        cases bb with
        | false => exact List.mem_append_right _ (by simp)
        | true => exact List.mem_append_left _ (hj1 (by rw [hjb]; exact Nat.le_refl _))
       ·rw [List.map_append]
        cases bb with
        | false => rw [hjb] at z; exact absurd z (by decide)
        | true => exact List.mem_append_right _ (by simp)
     ·rintro σ H5 ⟨es,kvs,ms,v6,v7,rfl,s5,ht5,hd5,hT5,hm5,hM5,hE5,he5,hW5,hP5,hvl5,hvr5,hj1,hj2⟩
      rw [lr_cps] at hj1 hj2
      have hE6:=hE5.next he5 fun b => by
       cases b with
       | false => exact hj1 (by decide)
       | true => exact hj2 (by decide)
      have hl5:=hE6.le
      have hl6:=hE6.length
      subst da
      refine ⟨⟨es,kvs,ms,n + 1,_,_,_,rfl,s5,hd5,hT5,hm5,hM5,hE6,fun i e hi z => ?_⟩,?_⟩
      ·by_cases hin : i < n
       ·exact hW5 i e hin z
       ·have : i = n:=by omega
        subst this
        rw [he5] at z
        cases z
        exact hwh
      ·show G.B - ((n : Int) + 1).toNat < G.B - (n : Int).toNat
       omega
   ·refine ifF (by rw [hM2.1]; exact decide_eq_false (by omega)) ?_
    have hn2 : n = es.length:=by have:=hE.le; omega
    subst hn2
    refine ⟨_,rfl,(by show 2 <= sizeLine; decide),fun t ht => ?_⟩
    have s4 : Same H2 (upd H2 t (.tup [.ref d,.non])):=same_upd ht
    refine kN t d kvs es _ (s2.trans s4) upd_same (s4 _ _ hd2) (hT2.same fun t xs z => s4 _ _ z) hE fun e he => ?_
    obtain ⟨i,hi⟩:=List.getElem?_of_mem he
    exact hW i e (List.getElem?_eq_some_iff.mp hi).1 hi
  ·intro σ H2 Q1 Q2 hq hc
   obtain ⟨x,e1,y,e2,p,ys,e3,e4,i,j,e5,e6,b,e7,q1⟩:=hc
   exact ⟨x,e1,y,e2,p,ys,e3,e4,i,j,e5,e6,b,e7,hq _ _ q1⟩
theorem sc_first_walk : FnScope ["start","exits","wanted","found"] ["start","exits","wanted"] (defScope (top 3)):=⟨rfl,rfl,rfl,by decide +kernel,rfl,by decide +kernel,by decide +kernel⟩
theorem ok_first {k0 : Nat} {α : Type} {C : Plc α} {G : Gr α} {want : α -> Bool} {fx ft : Addr} {fdx fdt : FuncData} (F : Fun K "first_walk" "first_walk" (top 3) f fd) (T : Blt mg) (TR : mg "reversed" = none)
  (Xp : Df K mg "explore" 1 ["start","exits","wanted"] fx fdx) (Wt : Df K mg "walk_to" 2 ["steps","place"] ft fdt) : FnOk P w K mg base CX0 (k0 + 2) f fd ["start","exits","wanted"] (spFirst P w K mg base k0 C G want):=by
 have G_explore : FnOk P w K mg base CX0 (k0 + 1) fx fdx ["start","exits","wanted"] (spExplore P w K mg base k0 C G want):=ok_explore Xp.fn T
 have G_walkto : FnOk P w K mg base CX0 (k0 + 1) ft fdt ["steps","place"] (spWalkTo C G):=(ok_walkto Wt.fn TR).mono (by omega)
 refine F.ok sc_first_walk (fun vs H Q E h => ?_) (fun cdv A outer s H vs Q E hr h => ?_)
 ·obtain ⟨v0,fe,fw,Re,Rw,rfl,_⟩:=h
  rfl
 ·obtain ⟨v0,fe,fw,Re,Rw,rfl,hI,kN,kS⟩:=h
  refine ⟨_,(pss_cons (ps_set (i:=3) sc_first_walk.nd rfl (Or.inl rfl) (pe_call G_explore hr rfl Xp.m Xp.fn.kp Xp.b .nil pass0 (pa_cons (pv 0) (pa_cons (pv 1) (pa_cons (pv 2) pa_nil)))))
   (pss_cons (ps_if (pt_cmpR op_isN (pe_ix ix_tup (pv 3) pe_int (fun _ _ => rfl)) pe_non (nomark _))
    (pss_one (ps_ret pe_non))
    pss_nil)
   (pss_one (ps_ret (pe_call G_walkto hr rfl Wt.m Wt.fn.kp Wt.b .nil pass0 (pa_cons (pe_ix ix_tup (pv 3) pe_int (fun _ _ => rfl)) (pa_cons (pe_ix ix_tup (pv 3) pe_int (fun _ _ => rfl)) pa_nil))))))),?_⟩
  refine ⟨_,rfl,_,rfl,_,rfl,v0,fe,fw,Re,Rw,rfl,hI,?_,?_⟩
  ·intro t d kvs es H1 s1 ht hd hT hE hW
   refine ⟨_,rfl,t,_,_,_,rfl,rfl,SqT.of ht,rfl,rfl,_,rfl,?_⟩
   refine ifT rfl ?_
   refine kN H1 s1 fun a ha => ?_
   obtain ⟨e,he,rfl⟩:=List.mem_map.mp ((hE.all a).mp ha)
   exact hW e he
  ·intro t d kvs es n a va H1 s1 ht hd hT hE ha hva hw
   refine ⟨_,rfl,t,_,_,_,rfl,rfl,SqT.of ht,rfl,rfl,_,rfl,?_⟩
   refine ifF (decide_eq_false (Kd.nn hva)) ?_
   refine ⟨_,rfl,t,_,_,_,rfl,rfl,SqT.of ht,rfl,_,rfl,t,_,_,_,rfl,rfl,SqT.of ht,rfl,?_⟩
   refine ⟨d,kvs,es,n,a,va,rfl,hd,hT,hE,hI.inj,hI.few,ha,hva,fun wk H2 hl s2 => ?_⟩
   exact kS wk H2 (by rw [hl]; exact hw) (s1.trans s2)
end
end Law
set_option maxHeartbeats 8000000
namespace Law
open PySem L2 Hs PyProof.Rows
section
variable {P : Program} {w : World} {K : PySem.W.Frag} {mg : Str -> Option Value} {base : Heap} {f : Addr} {fd : FuncData}
section
variable {H H1 H' F : Hp} {cs : List Addr} {L : List Cap} {b : Addr} {u : HO}
theorem put_keep (hF : ∀ c ∈ cs,∃ o,H c = some (frzC c o)) (e : H b = some u) (n : ∀ c o,u ≠ frzC c o) : put H noH cs b = some u:=by
 have hb : b ∉ cs:=fun z => by
  obtain ⟨o,e'⟩:=hF b z
  rw [e] at e'
  exact n b o (Option.some.inj e')
 rw [put_out hb]
 exact e
theorem put_same (hn : ∀ c ∈ cs,H c = none) : Same H (put H F cs):=fun b u e => by rw [put_out (fun z => by rw [hn b z] at e; cases e)]; exact e
theorem out_sam (hn : ∀ c ∈ cs,H1 c = none) (s1 : SamT H H1) (s2 : SamT (put H1 F cs) H') : SamT H (put H' noH cs):=fun b u e n => by
 have e1:=s1 b u e n
 have hb : b ∉ cs:=fun z => by rw [hn b z] at e1; cases e1
 rw [put_out hb]
 exact s2 b u (by rw [put_out hb]; exact e1) n
theorem out_tb {tabs : Tbs} (hF : ∀ c ∈ cs,∃ o,H c = some (frzC c o)) (t : TB tabs H) : TB tabs (put H noH cs):=fun q hq => by
 obtain ⟨ps,h1,h2,h3⟩:=t q hq
 exact ⟨ps,put_keep hF h1 (fun _ _ z => by cases z),h2,fun pos c e => let ⟨c',q',a,b,d⟩:=h3 pos c e; ⟨c',q',a,b,put_keep hF d fun _ _ z => by cases z⟩⟩
end
theorem HouseAt.sam {H H' : Hp} {a : Addr} {ps : List Addr} {hs : List Rm} (h : HouseAt H a ps hs) (s : SamT H H') : HouseAt H' a ps hs :=
 ⟨s _ _ h.ob (fun _ z => by cases z),h.rm.1,fun i p r e1 e2 => s _ _ (h.rm.2 i p r e1 e2) fun _ z => by cases z⟩
noncomputable def retE : List Stmt -> Expr
 | [.Return (some e) _] => e
 | _ => .Constant .none 0 ⟨0,0,0,0⟩
noncomputable def retPos : List Stmt -> Pos
 | [.Return _ p] => p
 | _ => ⟨0,0,0,0⟩
noncomputable def argE (i : Nat) : Expr -> Expr
 | .Call _ es _ _ => es.getD i (.Constant .none 0 ⟨0,0,0,0⟩)
 | e => e
noncomputable def setE : Stmt -> Expr
 | .Assign _ e _ => e
 | _ => .Constant .none 0 ⟨0,0,0,0⟩
noncomputable def lamArgs : Expr -> Arguments
 | .Lambda a _ _ _ => a
 | _ => { posonlyargs:=[],args:=[],vararg:=none,kwonlyargs:=[],kw_defaults:=[],kwarg:=none,defaults:=[] }
noncomputable def lamBody : Expr -> Expr
 | .Lambda _ b _ _ => b
 | e => e
noncomputable def lamScope : Expr -> Scope
 | .Lambda _ _ s _ => s
 | _ => { kind:=.function,names:=[],isGenerator:=false,isCoroutine:=false }
theorem okC {x qual : Str} {st : Stmt} {f c : Addr} {fd : FuncData} {N ps : List Str} {k : Nat} {sp : Sp} (F : Fun K x qual st f fd) (hc : fd.code = .ref c) (S : FnScope N ps (defScope st)) (len : ∀ vs H Q E,sp vs H Q E -> vs.length = ps.length)
  (hbody : ∀ (A : Around) (outer : List Env) (s : Shared) (H : Hp) (vs : List V) (Q : VK) (E : XK),Room k (A.deeper (envOfC qual (defScope st) s.heap.objs.size f (.ref c))) -> sp vs H Q E ->
   ∃ t,PSs (cxOf CX0 P w K mg base N qual (defScope st) f (.ref c) A outer s H E).nox (defBody st) t /\ t { nx:=fun _ H' => Q .non H',rt:=Q } (start N vs) H) : FnOk P w K mg base CX0 (k + 1) f fd ps sp:=by
 obtain ⟨oc,od,kV,doc,pm,an,cdv,ct,osl,rfl,lk,hcd⟩:=F.ex
 have e : cdv = .ref c:=hc
 subst e
 refine fn_of lk hcd S len fun A outer s H vs Q E hr hsp => ?_
 obtain ⟨t,h,q⟩:=hbody A outer s H vs Q E hr hsp
 exact ⟨t,h.nox,q⟩
structure Mkr (base : Heap) (fd : FuncData) (tabs : Tbs) (c Pt : Addr) (qs : Nat -> Nat -> Option Str) : Prop where
 code : fd.code = .ref c
 hd : PySem.W.CodeHd base c Pt
 mem : (Pt,qs) ∈ tabs
noncomputable def lamQs (x : Str) : Nat -> Nat -> Option Str:=fun _ _ => some (x ++ ".<locals>." ++ "<lambda>")
theorem _root_.L2.Same.none {H H' : Hp} {p : Addr} (s : Same H H') (h : H' p = Option.none) : H p = Option.none:=by
 cases e : H p with
 | none => rfl
 | some u => rw [s _ _ e] at h; cases h
theorem cutV_ints (ns : List Int) (lo hi : Option Int) : ∃ ms : List Int,cutV (ns.map V.int) lo hi = ms.map V.int /\ ms.length <= ns.length /\ ms.length <= HT.sIx ns.length ns.length hi - HT.sIx ns.length 0 lo :=
 ⟨(ns.drop (HT.sIx ns.length 0 lo)).take (HT.sIx ns.length ns.length hi - HT.sIx ns.length 0 lo),by rw [cutV,List.length_map,List.map_take,List.map_drop],by rw [List.length_take,List.length_drop]; omega,by rw [List.length_take]; omega⟩
theorem mod_nat (x : Int) {m : Nat} (hm : 0 < m) : ∃ n : Nat,x % (m : Int) = (n : Int) /\ n < m:=by
 have h1:=Int.emod_nonneg x (show (m : Int) ≠ 0 by omega)
 have h2:=Int.emod_lt_of_pos x (show (0 : Int) < (m : Int) by omega)
 exact ⟨(x % (m : Int)).toNat,by omega,by omega⟩
noncomputable def spIsWalk : Sp:=fun vs H Q _ => ∃ wk : List Bool,vs = [.str (txt wk)] /\ Q (.bl true) H
theorem sc_law_is_walk : FnScope ["_law_found","_law_turn"] ["_law_found"] (defScope (top 32)):=⟨rfl,rfl,rfl,by decide +kernel,rfl,by decide +kernel,by decide +kernel⟩
theorem ok_isw (F : Fun K "_law_is_walk" "_law_is_walk" (top 32) f fd) (T : Blt mg) : FnOk P w K mg base CX0 1 f fd ["_law_found"] spIsWalk:=by
 refine F.ok sc_law_is_walk (fun vs H Q E h => ?_) (fun cdv A outer s H vs Q E hr h => ?_)
 ·obtain ⟨wk,rfl,_⟩:=h
  rfl
 ·obtain ⟨wk,rfl,k⟩:=h
  refine ⟨_,(pss_cons (ps_if (pt_not (pt_val (pe_callB call_isinst (by rfl) T.isinstance boot_isinstance (pa_cons (pv 0) (pa_cons (pe_bltn (v:=.ty "str") rfl T.str boot_str rfl) pa_nil)))))
    (pss_one (ps_ret pe_bl))
    pss_nil)
   (pss_cons (ps_for PassesOwn.never rfl (pi_str (pv 0)) (pg_name (i:=1) sc_law_is_walk.nd rfl (Or.inl rfl))
    (pss_one (ps_if (pt_cmpR op_notIn_str (pv 1) pe_str (by rfl))
     (pss_one (ps_ret pe_bl))
     pss_nil)))
   (pss_one (ps_ret pe_bl)))),?_⟩
  refine ⟨_,rfl,_,_,_,_,rfl,.str _,kit_str_str,_,rfl,iteF ?_⟩
  refine ⟨_,rfl,_,rfl,for_str (x:=txt wk) (fun j σ H2 => ∃ v1 : Option V,σ = [some (.str (txt wk)),v1] /\ H2 = H) ⟨none,rfl,rfl⟩ ?_ ?_⟩
  ·intro j c σ H2 hc hP0
   refine kqX fun K0 eK0 => ?_
   obtain ⟨v1,rfl,rfl⟩:=hP0
   obtain ⟨b,hb,rfl⟩:=txt_get hc
   subst eK0
   refine ⟨_,rfl,_,_,rfl,rfl,_,rfl,?_⟩
   rw [occ_sgn b]
   exact iteF ⟨_,rfl,rfl⟩
  ·rintro σ H2 ⟨v1,rfl,rfl⟩
   exact k
noncomputable def spExS {α : Type} (C : Plc α) (G : Gr α) : Sp:=fun vs H Q _ => Ex2 fun a v => An4 (vs = [v]) (G.U a) (C.isP H a v) (∀ p H' vl vr,Same H H' -> ((H p = none /\ H' p = some (.lst [vl,vr])) ∨ H' p = some (.tup [vl,vr])) -> C.isP H' (G.nx a false) vl -> C.isP H' (G.nx a true) vr -> Q (.ref p) H')
structure LayIn (P : Program) (w : World) (K : PySem.W.Frag) (mg : Str -> Option Value) (base : Heap) (k : Nat) {α : Type} (C : Plc α) (G : Gr α) (lit : α -> Bool) (H : Hp) (v0 : V) (fe fl : Addr) (Re Rl : Hp -> Prop) : Prop where
 p0 : C.isP H G.s0 v0
 fe : FvOk P w K mg base k fe Re (spExS C G)
 fl : FvOk P w K mg base k fl Rl (spWant C G lit)
 re : Re H
 rl : Rl H
 se : ∀ H1 H2,Re H1 -> Same H1 H2 -> Re H2
 sl : ∀ H1 H2,Rl H1 -> Same H1 H2 -> Rl H2
 inj : C.Inj G
 few : G.B < sizeLine
noncomputable def spLay (P : Program) (w : World) (K : PySem.W.Frag) (mg : Str -> Option Value) (base : Heap) (k : Nat) {α : Type} (C : Plc α) (G : Gr α) (lit : α -> Bool) : Sp:=fun vs H Q _ => Ex5 fun v0 fe fl Re Rl => An3 (vs = [v0,.ref fe,.ref fl]) (LayIn P w K mg base k C G lit H v0 fe fl Re Rl) ((∀ l ps rs (as : List α) H',H l = none -> Same H H' -> HouseAt H' l ps rs -> Laid G lit as rs -> Q (.ref l) H'))
section
variable {α : Type} {C : Plc α} {G : Gr α} {H H' : Hp} {kvs : List (C.k.κ × V)} {as : List α}
noncomputable def NumAt (C : Plc α) (kvs : List (C.k.κ × V)) (as : List α) : Prop:=kvs.length = as.length /\ ∀ (i : Nat) k v a,kvs[i]? = some (k,v) -> as[i]? = some a -> k = C.key a /\ v = .int (i : Int)
theorem NumAt.keys (h : NumAt C kvs as) : kvs.map (·.1) = as.map C.key:=by
 refine List.ext_getElem? fun i => ?_
 rw [List.getElem?_map,List.getElem?_map]
 by_cases hi : i < as.length
 ·have e2 : as[i]? = some as[i]:=by simp [hi]
  have e1 : kvs[i]? = some (kvs[i]'(by rw [h.1]; exact hi)):=by simp
  rw [e1,e2]
  exact congrArg some (h.2 i _ _ _ e1 e2).1
 ·rw [List.getElem?_eq_none (by rw [h.1]; omega),List.getElem?_eq_none (by omega)]
  rfl
theorem nodup_key (inj : C.Inj G) : ∀ {as : List α},(∀ a ∈ as,G.U a) -> as.Nodup -> (as.map C.key).Nodup
 | [],_,_ => by simp
 | a :: r,hU,hn => by
  obtain ⟨n1,n2⟩:=List.nodup_cons.mp hn
  refine List.nodup_cons.mpr ⟨fun z => n1 ?_,nodup_key inj (fun x hx => hU x (List.mem_cons_of_mem _ hx)) n2⟩
  obtain ⟨b,hb,e⟩:=List.mem_map.mp z
  exact inj _ _ (hU b (List.mem_cons_of_mem _ hb)) (hU a (List.mem_cons_self ..)) e ▸ hb
theorem NumAt.get (h : NumAt C kvs as) (inj : C.Inj G) (hU : ∀ a ∈ as,G.U a) (hn : as.Nodup) {i : Nat} {a : α} (e : as[i]? = some a) : valV kvs (C.key a) = some (.int (i : Int)):=by
 have hi : i < kvs.length:=by rw [h.1]; exact (List.getElem?_eq_some_iff.mp e).1
 have e1 : kvs[i]? = some kvs[i]:=by simp [hi]
 obtain ⟨k1,k2⟩:=h.2 i kvs[i].1 kvs[i].2 a e1 e
 refine valV_at (i:=i) (by rw [h.keys]; exact nodup_key inj hU hn) ?_
 rw [e1,<- k1,<- k2]
theorem NumAt.no (h : NumAt C kvs as) (inj : C.Inj G) (hU : ∀ a ∈ as,G.U a) {a : α} (ha : G.U a) (hn : a ∉ as) : C.key a ∉ kvs.map (·.1):=by
 rw [h.keys]
 intro z
 obtain ⟨b,hb,e⟩:=List.mem_map.mp z
 exact hn (inj _ _ (hU b hb) ha e ▸ hb)
theorem NumAt.put (h : NumAt C kvs as) (inj : C.Inj G) (hU : ∀ a ∈ as,G.U a) {a : α} (ha : G.U a) (hn : a ∉ as) : NumAt C (putK kvs (C.key a) (.int (as.length : Int))) (as ++ [a]):=by
 rw [putK_new (h.no inj hU ha hn)]
 refine ⟨by simp [h.1],fun i k v b e1 e2 => ?_⟩
 rcases get_snoc e1 with ⟨h1,e1⟩ | ⟨h1,e1⟩ <;> rcases get_snoc e2 with ⟨h2,e2⟩ | ⟨h2,e2⟩
 ·exact h.2 i k v b e1 e2
 ·have:=h.1; omega
 ·have:=h.1; omega
 ·cases e1
  subst e2
  exact ⟨rfl,by rw [h2]⟩
noncomputable def PlAt (C : Plc α) (H : Hp) (ms : List V) (as : List α) : Prop:=ms.length = as.length /\ ∀ (i : Nat) v a,ms[i]? = some v -> as[i]? = some a -> C.isP H a v
theorem PlAt.same {ms : List V} (h : PlAt C H ms as) (s : ∀ t xs,H t = some (.tup xs) -> H' t = some (.tup xs)) : PlAt C H' ms as:=⟨h.1,fun i v e e1 e2 => (h.2 i v e e1 e2).same s⟩
theorem PlAt.snoc {ms : List V} (h : PlAt C H ms as) {a : α} {v : V} (hv : C.isP H a v) : PlAt C H (ms ++ [v]) (as ++ [a]):=by
 refine ⟨by simp [h.1],fun i v' e' e1 e2 => ?_⟩
 rcases get_snoc e1 with ⟨h1,e1⟩ | ⟨h1,e1⟩ <;> rcases get_snoc e2 with ⟨h2,e2⟩ | ⟨h2,e2⟩
 ·exact h.2 i v' e' e1 e2
 ·have:=h.1; omega
 ·have:=h.1; omega
 ·subst e1 e2; exact hv
end
theorem sc_lay_out : FnScope ["start","exits","lit","numbers","places","rooms","here","ahead","there"] ["start","exits","lit"] (defScope (top 4)):=⟨rfl,rfl,rfl,by decide +kernel,rfl,by decide +kernel,by decide +kernel⟩
theorem ok_lay {k0 : Nat} {α : Type} {C : Plc α} {G : Gr α} {lit : α -> Bool} (F : Fun K "lay_out" "lay_out" (top 4) f fd) (T : Blt mg) : FnOk P w K mg base CX0 (k0 + 1) f fd ["start","exits","lit"] (spLay P w K mg base k0 C G lit):=by
 refine F.ok sc_lay_out (fun vs H Q E h => ?_) (fun cdv A outer s H vs Q E hr h => ?_)
 ·obtain ⟨v0,fe,fl,Re,Rl,rfl,_⟩:=h
  rfl
 ·obtain ⟨v0,fe,fl,Re,Rl,rfl,hI,kS⟩:=h
  have hu:=hu_of hr
  have inj:=hI.inj
  have few:=hI.few
  refine ⟨_,(pss_cons (ps_set (i:=3) sc_lay_out.nd rfl (Or.inl rfl) (pe_disp1 C.k (Nat.lt_of_succ_lt hu) (pv 0) pe_int))
   (pss_cons (ps_set (i:=4) sc_lay_out.nd rfl (Or.inl rfl) (pe_lst (pa_cons (pv 0) pa_nil)))
   (pss_cons (ps_set (i:=5) sc_lay_out.nd rfl (Or.inl rfl) (pe_lst pa_nil))
   (pss_cons (ps_while PassesOwn.never (pt_cmpR op_lt (pe_callB call_len_seq (by rfl) T.len PySem.boot_len (pa_cons (pv 5) pa_nil)) (pe_callB call_len_seq (by rfl) T.len PySem.boot_len (pa_cons (pv 4) pa_nil)) (nomark _))
    (pss_cons (ps_set (i:=6) sc_lay_out.nd rfl (Or.inl rfl) (pe_ix ix_list (pv 4) (pe_callB call_len_seq (by rfl) T.len PySem.boot_len (pa_cons (pv 5) pa_nil)) (fun _ _ => rfl)))
    (pss_cons (ps_set (i:=7) sc_lay_out.nd rfl (Or.inl rfl) (pe_lst pa_nil))
    (pss_cons (ps_for PassesOwn.never rfl (pi_seq (pe_callV (i:=1) hr rfl (Or.inl rfl) (pa_cons (pv 6) pa_nil))) (pg_name (i:=8) sc_lay_out.nd rfl (Or.inl rfl))
     (pss_cons (ps_if (pt_cmp (pc_dnotin hu (pv 8) (pv 3)))
      (pss_cons (ps_dput hu (pv 3) (pv 8) (pe_callB call_len_seq (by rfl) T.len PySem.boot_len (pa_cons (pv 4) pa_nil)) rfl)
      (pss_one (ps_expr (pe_bm PySem.F.plainAttrs_list PySem.F.slot_list_append PySem.F.type_list_append mt_append (pv 4) (pa_cons (pv 8) pa_nil)))))
      pss_nil)
     (pss_one (ps_expr (pe_bm PySem.F.plainAttrs_list PySem.F.slot_list_append PySem.F.type_list_append mt_append (pv 7) (pa_cons (pe_dget hu (pv 3) (pv 8) (fun _ _ => rfl)) pa_nil))))))
    (pss_one (ps_expr (pe_bm PySem.F.plainAttrs_list PySem.F.slot_list_append PySem.F.type_list_append mt_append (pv 5) (pa_cons (pe_tup (pa_cons (pe_ix ix_list (pv 7) pe_int (fun _ _ => rfl)) (pa_cons (pe_ix ix_list (pv 7) pe_int (fun _ _ => rfl)) (pa_cons (pe_callV (i:=2) hr rfl (Or.inl rfl) (pa_cons (pv 6) pa_nil)) pa_nil)))) pa_nil))))))))
   (pss_one (ps_ret (pv 5))))))),?_⟩
  refine fun d hd => ⟨_,rfl,upd_same,C.key G.s0,hI.p0.same fun t xs z => unX (ne_of_none z hd) z,?_⟩
  rw [upd_upd]
  refine ⟨_,rfl,(by show 1 <= sizeLine; decide),fun m hm => ?_⟩
  have ndm : d ≠ m:=fun z => by exact clX z.symm hm upd_same rfl
  have hm0 : H m = none:=by rw [upd_ne (Ne.symm ndm)] at hm; exact hm
  have sst : Same H (upd (upd H d (C.k.mk [(C.key G.s0,.int 0)])) m (.lst [v0])):=(same_upd hd).put hm0
  have hd1 : upd (upd H d (C.k.mk [(C.key G.s0,.int 0)])) m (.lst [v0]) d = some (C.k.mk [(C.key G.s0,.int 0)]):=unX ndm upd_same
  have hm1 : upd (upd H d (C.k.mk [(C.key G.s0,.int 0)])) m (.lst [v0]) m = some (.lst [v0]):=upd_same
  generalize upd (upd H d (C.k.mk [(C.key G.s0,.int 0)])) m (.lst [v0]) = H1 at sst hd1 hm1
  refine ⟨Nat.zero_le _,fun r hr1 => ?_⟩
  have ndr : d ≠ r:=ne_of_none hd1 hr1
  have nmr : m ≠ r:=ne_of_none hm1 hr1
  have hr0 : H r = none:=sst.none hr1
  have s1 : Same H1 (upd H1 r (.lst [])):=same_upd hr1
  refine while_by (fun σ H2 => Ex8 fun (as : List α) (rs : List Rm) (kvs : List (C.k.κ × V)) (ms : List V) (ps : List Addr) (v7 v8 v9 : Option V) => An10 (σ = [some v0,some (.ref fe),some (.ref fl),some (.ref d),some (.ref m),some (.ref r),v7,v8,v9]) (Same H H2) (H2 d = some (C.k.mk kvs)) (NumAt C kvs as) (H2 m = some (.lst ms)) (PlAt C H2 ms as) (H2 r = some (.lst (ps.map V.ref))) (Rooms H2 ps rs) (Lay G lit as rs []) (rs.length <= as.length))
   (fun σ H2 => match H2 r with | some (.lst xs) => G.B - xs.length | _ => 0)
   ⟨[G.s0],[],[(C.key G.s0,.int 0)],[v0],[],none,none,none,rfl,sst.trans s1,s1 _ _ hd1,⟨rfl,fun i k v a e1 e2 => ?_⟩,s1 _ _ hm1,⟨rfl,fun i v a e1 e2 => ?_⟩,upd_same,⟨rfl,fun i p x e => by simp at e⟩,Lay.start G lit,Nat.zero_le _⟩ ?_ ?_
  ·match i,e1,e2 with
   | 0,e1,e2 => cases e1; cases e2; exact ⟨rfl,rfl⟩
   | i + 1,e1,e2 => simp at e2
  ·match i,e1,e2 with
   | 0,e1,e2 => cases e1; cases e2; exact hI.p0.same fun t xs z => s1 _ _ (sst _ _ z)
   | i + 1,e1,e2 => simp at e2
  ·intro σ H2 hP0
   refine kqX fun K0 eK0 => ?_
   obtain ⟨as,rs,kvs,ms,ps,v7,v8,v9,rfl,s2,hd2,hN2,hm2,hP2,hr2,hR2,hL,hle⟩:=hP0
   have hal:=hL.len
   have hpr : (ps.map V.ref).length = rs.length:=by rw [List.length_map,hR2.1]
   subst eK0
   refine ⟨_,rfl,r,_,rfl,.inl (SqL.of hr2),_,rfl,m,_,rfl,.inl (SqL.of hm2),_,_,rfl,rfl,_,rfl,?_⟩
   rw [hpr,hP2.1]
   by_cases hlt : rs.length < as.length
   ·refine ifT (decide_eq_true (by omega)) ?_
    have he : as[rs.length]? = some as[rs.length]:=by simp [hlt]
    have hml : rs.length < ms.length:=by rw [hP2.1]; exact hlt
    have hme : ms[rs.length]? = some ms[rs.length]:=by simp [hml]
    have hPh:=hP2.2 _ _ _ hme he
    have hUh : G.U as[rs.length]:=hL.u _ (List.getElem_mem hlt)
    have hRh : G.Reach as[rs.length]:=hL.rch _ (List.getElem_mem hlt)
    generalize ms[rs.length] = vh at hme hPh
    generalize as[rs.length] = here at he hPh hUh hRh
    refine ⟨_,rfl,_,rfl,r,_,rfl,.inl (SqL.of hr2),m,_,_,_,rfl,rfl,SqL.of hm2,(by rw [hpr]; exact atI_nat hme),?_⟩
    refine ⟨Nat.zero_le _,fun q hq => ?_⟩
    have s3 : Same H2 (upd H2 q (.lst [])):=same_upd hq
    have hq0 : H q = none:=s2.none hq
    have hq3 : upd H2 q (.lst []) q = some (.lst ([].map fun n : Nat => V.int (n : Int))):=upd_same
    have ndq : d ≠ q:=ne_of_none hd2 hq
    have nmq : m ≠ q:=ne_of_none hm2 hq
    have nrq : r ≠ q:=ne_of_none hr2 hq
    have hd3:=s3 _ _ hd2
    have hm3:=s3 _ _ hm2
    have hr3:=s3 _ _ hr2
    have hR3:=hR2.same s3
    have hP3:=hP2.same fun t xs z => s3 _ _ z
    have hPh3:=hPh.same fun t xs z => s3 _ _ z
    have s23:=s2.trans s3
    generalize upd H2 q (.lst []) = H3 at s3 hq3 hd3 hm3 hr3 hR3 hP3 hPh3 s23
    refine ⟨fe,Re,spExS C G,rfl,hI.fe,hI.se _ _ hI.re s23,_,rfl,hI.se _ _ hI.re s23,here,vh,rfl,hUh,hPh3,fun t H4 vl vr s4 htt hvl hvr => ?_⟩
    have s24:=s23.trans s4
    obtain ⟨O,hO4,hOk,n1,n2,n3,n4⟩ : ∃ O,H4 t = some O /\ (O = .lst [vl,vr] ∨ O = .tup [vl,vr]) /\ t ≠ d /\ t ≠ m /\ t ≠ q /\ t ≠ r:=by
     rcases htt with ⟨h1,h2⟩ | h2
     ·exact ⟨_,h2,.inl rfl,(ne_of_none hd3 h1).symm,(ne_of_none hm3 h1).symm,(ne_of_none hq3 h1).symm,(ne_of_none hr3 h1).symm⟩
     ·exact ⟨_,h2,.inr rfl,ne_of h2 (s4 _ _ hd3) (fun z => Kd.nt _ z.symm),nfX h2 (s4 _ _ hm3) rfl,nfX h2 (s4 _ _ hq3) rfl,nfX h2 (s4 _ _ hr3) rfl⟩
    let Pv : Nat -> L2.St -> Hp -> Prop:=fun j σ H5 => Ex5 fun (as : List α) (kvs : List (C.k.κ × V)) (ms : List V) (idx : List Nat) (v9 : Option V) => An18 (σ = [some v0,some (.ref fe),some (.ref fl),some (.ref d),some (.ref m),some (.ref r),some vh,some (.ref q),v9]) (Same H H5) (H5 d = some (C.k.mk kvs)) (NumAt C kvs as) (H5 m = some (.lst ms)) (PlAt C H5 ms as) (H5 r = some (.lst (ps.map V.ref))) (Rooms H5 ps rs) (Lay G lit as rs idx) (as[rs.length]? = some here) (H5 q = some (.lst (idx.map fun n : Nat => V.int (n : Int)))) (idx.length = j) (H5 t = some O) (C.isP H5 here vh) (C.isP H5 (G.nx here false) vl) (C.isP H5 (G.nx here true) vr) ((∀ i,idx[0]? = some i -> as[i]? = some (G.nx here false))) ((∀ i,idx[1]? = some i -> as[i]? = some (G.nx here true)))
    have start : Pv 0 [some v0,some (.ref fe),some (.ref fl),some (.ref d),some (.ref m),some (.ref r),some vh,some (.ref q),v9] H4:=by
     refine ⟨as,kvs,ms,[],v9,rfl,s24,s4 _ _ hd3,hN2,s4 _ _ hm3,hP3.same fun t xs z => s4 _ _ z,s4 _ _ hr3,hR3.same s4,hL,he,s4 _ _ hq3,rfl,hO4,hPh3.same fun t xs z => s4 _ _ z,hvl,hvr,fun i e => by simp at e,fun i e => by simp at e⟩
    have fin : ∀ (D : L2.St -> Hp -> Prop),(∀ (as : List α) (kvs : List (C.k.κ × V)) (ms : List V) (i j : Nat) (v9 : Option V) (H5 : Hp),Same H H5 -> H5 d = some (C.k.mk kvs) -> NumAt C kvs as -> H5 m = some (.lst ms) -> PlAt C H5 ms as -> H5 r = some (.lst (ps.map V.ref)) -> Rooms H5 ps rs -> Lay G lit as rs [i,j] -> as[rs.length]? = some here -> H5 q = some (.lst [.int (i : Int),.int (j : Int)]) -> C.isP H5 here vh -> as[i]? = some (G.nx here false) -> as[j]? = some (G.nx here true) ->
      D [some v0,some (.ref fe),some (.ref fl),some (.ref d),some (.ref m),some (.ref r),some vh,some (.ref q),v9] H5) -> ∀ σ H5,Pv 2 σ H5 -> D σ H5:=by
     rintro D hD σ H5 ⟨as,kvs,ms,idx,v9,rfl,s5,hd5,hN5,hm5,hP5,hr5,hR5,hL5,he5,hq5,hil,_,hPh5,_,_,hi0,hi1⟩
     match idx,hil,hq5,hL5,hi0,hi1 with
     | [i,j],_,hq5,hL5,hi0,hi1 => exact hD as kvs ms i j v9 H5 s5 hd5 hN5 hm5 hP5 hr5 hR5 hL5 he5 hq5 hPh5 (hi0 i rfl) (hi1 j rfl)
    clear hal
    refine ⟨t,rfl,for_seq hOk Pv start (by rintro j σ H5 _ ⟨_,_,_,_,_,_,_,_,_,_,_,_,_,_,_,_,_,z,_⟩; exact z) ?_ ?_⟩
    ·intro j y σ H5 hy hP0
     refine kqX fun K0 eK0 => ?_
     obtain ⟨as,kvs,ms,idx,v9,rfl,s5,hd5,hN5,hm5,hP5,hr5,hR5,hL5,he5,hq5,hil,ht5,hPh5,hvl5,hvr5,hi0,hi1⟩:=hP0
     obtain ⟨bb,hyP,hjb⟩ : ∃ bb : Bool,C.isP H5 (G.nx here bb) y /\ j = (if bb then 1 else 0):=by
      match j,hy with
      | 0,hy => cases hy; exact ⟨false,hvl5,rfl⟩
      | 1,hy => cases hy; exact ⟨true,hvr5,rfl⟩
      | j + 2,hy => simp at hy
     have hUn : G.U (G.nx here bb):=G.cl _ _ hUh
     have hal5:=hL5.len
     subst eK0
     refine seq_d fun Rt Dt et ed => ?_
     have tail : ∀ (as6 : List α) (kvs6 : List (C.k.κ × V)) (ms6 : List V) (H6 : Hp) (i6 : Nat),Same H H6 -> H6 d = some (C.k.mk kvs6) -> NumAt C kvs6 as6 -> H6 m = some (.lst ms6) -> PlAt C H6 ms6 as6 -> H6 r = some (.lst (ps.map V.ref)) -> Rooms H6 ps rs -> Lay G lit as6 rs (idx ++ [i6]) -> as6[rs.length]? = some here -> H6 q = some (.lst (idx.map fun n : Nat => V.int (n : Int))) -> H6 t = some O -> C.isP H6 here vh -> C.isP H6 (G.nx here false) vl -> C.isP H6 (G.nx here true) vr -> C.isP H6 (G.nx here bb) y -> (∀ i,idx[0]? = some i -> as6[i]? = some (G.nx here false)) -> (∀ i,idx[1]? = some i -> as6[i]? = some (G.nx here true)) -> as6[i6]? = some (G.nx here bb) -> valV kvs6 (C.key (G.nx here bb)) = some (.int (i6 : Int)) -> Rt Dt [some v0,some (.ref fe),some (.ref fl),some (.ref d),some (.ref m),some (.ref r),some vh,some (.ref q),some y] H6:=by
      clear hd5 hN5 hm5 hP5 hr5 hR5 hL5 he5 hq5 ht5 hPh5 hvl5 hvr5 hyP hi0 hi1 hal5 s5
      intro as kvs ms H6 i s6 hd6 hN6 hm6 hP6 hr6 hR6 hL6 he6 hq6 ht6 hPh6 hvl6 hvr6 hyP6 hi06 hi16 hi6 hv
      rw [et,ed]
      refine ⟨_,rfl,.inl ⟨rfl,_,SqL.of hq6⟩,_,rfl,_,rfl,d,_,rfl,(by have g:=Kd.get hd6 hyP6; rw [hv] at g; exact g),q,_,_,rfl,rfl,hq6,(by rw [List.length_map,hil,hjb]; cases bb <;> decide),?_⟩
      refine ⟨_,_,_,_,_,rfl,s6.put hq0,unX ndq hd6,hN6,unX nmq hm6,hP6.same fun t xs z => unX (nfX z hq6 rfl) z,unX nrq hr6,⟨hR6.1,fun i p x e1 e2 => unX (nfX (hR6.2 i p x e1 e2) hq6 rfl) (hR6.2 i p x e1 e2)⟩,hL6,he6,by rw [upd_same,List.map_append]; rfl,by rw [List.length_append,hil]; rfl,?_,hPh6.same fun t xs z => unX (nfX z hq6 rfl) z,hvl6.same fun t xs z => unX (nfX z hq6 rfl) z,hvr6.same fun t xs z => unX (nfX z hq6 rfl) z,fun i e => ?_,fun i e => ?_⟩
      ·rw [upd_ne n3]
       exact ht6
      ·cases bb with
       | false =>
        have h0 : idx = []:=List.length_eq_zero_iff.mp (by rw [hil,hjb]; rfl)
        subst h0
        cases e
        exact hi6
       | true =>
        have h1 : idx.length = 1:=by rw [hil,hjb]; rfl
        rw [List.getElem?_append_left (by omega)] at e
        exact hi06 i e
      ·cases bb with
       | false =>
        have h0 : idx = []:=List.length_eq_zero_iff.mp (by rw [hil,hjb]; rfl)
        subst h0
        simp at e
       | true =>
        have h1 : idx.length = 1:=by rw [hil,hjb]; rfl
        rw [List.getElem?_append_right (by omega),h1] at e
        simp at e
        subst e
        exact hi6
     refine ⟨_,rfl,_,rfl,d,_,rfl,Kd.get hd5 hyP,_,rfl,?_⟩
     by_cases hin : G.nx here bb ∈ as
     ·obtain ⟨i,hi⟩:=List.getElem?_of_mem hin
      have hv:=hN5.get inj hL5.u hL5.nd hi
      refine ifF (by rw [hv]; rfl) ?_
      exact tail _ _ _ _ i s5 hd5 hN5 hm5 hP5 hr5 hR5 (hL5.old (List.getElem?_eq_some_iff.mp hi).1) he5 hq5 ht5 hPh5 hvl5 hvr5 hyP hi0 hi1 hi hv
     ·have hno : valV kvs (C.key (G.nx here bb)) = none:=valV_no (hN5.no inj hL5.u hUn hin)
      refine ifT (by rw [hno]; rfl) ?_
      refine ⟨_,rfl,m,_,rfl,.inl (SqL.of hm5),?_⟩
      rw [hP5.1]
      have hL6:=hL5.add (hRh.step bb) hUn hin
      have hal6:=hL6.len
      rw [List.length_append] at hal6
      have hal7 : as.length + 1 <= G.B:=hal6
      refine ⟨_,rfl,_,rfl,d,_,rfl,Kd.put hd5 hyP (by rw [hN5.1]; omega),?_⟩
      have tu6 : ∀ t xs,H5 t = some (.tup xs) -> upd H5 d (C.k.mk (putK kvs (C.key (G.nx here bb)) (.int (as.length : Int)))) t = some (.tup xs):=fun t xs z => unX (ne_of z hd5 (fun y => Kd.nt _ y.symm)) z
      have hm6' : upd H5 d (C.k.mk (putK kvs (C.key (G.nx here bb)) (.int (as.length : Int)))) m = some (.lst ms):=unX ndm.symm hm5
      refine ⟨_,rfl,.inl ⟨rfl,_,SqL.of hm6'⟩,_,rfl,m,_,_,rfl,rfl,hm6',(by rw [hP5.1]; omega),?_⟩
      have tu7 : ∀ t xs,H5 t = some (.tup xs) -> upd (upd H5 d (C.k.mk (putK kvs (C.key (G.nx here bb)) (.int (as.length : Int))))) m (.lst (ms ++ [y])) t = some (.tup xs):=fun t xs z => unX (nfX (tu6 _ _ z) hm6' rfl) (tu6 _ _ z)
      have s6 : Same H (upd (upd H5 d (C.k.mk (putK kvs (C.key (G.nx here bb)) (.int (as.length : Int))))) m (.lst (ms ++ [y]))):=(s5.put hd).put hm0
      have hd6 : upd (upd H5 d (C.k.mk (putK kvs (C.key (G.nx here bb)) (.int (as.length : Int))))) m (.lst (ms ++ [y])) d = some (C.k.mk (putK kvs (C.key (G.nx here bb)) (.int (as.length : Int)))):=unX ndm upd_same
      have hN6:=hN5.put inj hL5.u hUn hin
      have hm6 : upd (upd H5 d (C.k.mk (putK kvs (C.key (G.nx here bb)) (.int (as.length : Int))))) m (.lst (ms ++ [y])) m = some (.lst (ms ++ [y])):=upd_same
      have hP6:=(hP5.same tu7).snoc (hyP.same tu7)
      have hr6 : upd (upd H5 d (C.k.mk (putK kvs (C.key (G.nx here bb)) (.int (as.length : Int))))) m (.lst (ms ++ [y])) r = some (.lst (ps.map V.ref)):=unX nmr.symm (unX ndr.symm hr5)
      have hR6 : Rooms (upd (upd H5 d (C.k.mk (putK kvs (C.key (G.nx here bb)) (.int (as.length : Int))))) m (.lst (ms ++ [y]))) ps rs:=⟨hR5.1,fun i p x e1 e2 => tu7 _ _ (hR5.2 i p x e1 e2)⟩
      have he6:=get_app (m:=[G.nx here bb]) he5
      have hq6 : upd (upd H5 d (C.k.mk (putK kvs (C.key (G.nx here bb)) (.int (as.length : Int))))) m (.lst (ms ++ [y])) q = some (.lst (idx.map fun n : Nat => V.int (n : Int))):=unX nmq.symm (unX ndq.symm hq5)
      have ht6 : upd (upd H5 d (C.k.mk (putK kvs (C.key (G.nx here bb)) (.int (as.length : Int))))) m (.lst (ms ++ [y])) t = some O:=unX n2 (unX n1 ht5)
      have hPh6:=hPh5.same tu7
      have hvl6:=hvl5.same tu7
      have hvr6:=hvr5.same tu7
      have hyP6:=hyP.same tu7
      have hi06 : ∀ i,idx[0]? = some i -> (as ++ [G.nx here bb])[i]? = some (G.nx here false):=fun i e => get_app (hi0 i e)
      have hi16 : ∀ i,idx[1]? = some i -> (as ++ [G.nx here bb])[i]? = some (G.nx here true):=fun i e => get_app (hi1 i e)
      have hi6 : (as ++ [G.nx here bb])[as.length]? = some (G.nx here bb):=by simp
      have hv:=hN6.get inj hL6.u hL6.nd hi6
      generalize upd (upd H5 d (C.k.mk (putK kvs (C.key (G.nx here bb)) (.int (as.length : Int))))) m (.lst (ms ++ [y])) = H6 at s6 hd6 hm6 hP6 hr6 hR6 hq6 ht6 hPh6 hvl6 hvr6 hyP6
      exact tail _ _ _ _ as.length s6 hd6 hN6 hm6 hP6 hr6 hR6 hL6 he6 hq6 ht6 hPh6 hvl6 hvr6 hyP6 hi06 hi16 hi6 hv
    ·refine fin _ fun as kvs ms i j v9 H5 s5 hd5 hN5 hm5 hP5 hr5 hR5 hL5 he5 hq5 hPh5 hi0 hi1 => ?_
     have hal5:=hL5.len
     have hlt5 : rs.length < as.length:=(List.getElem?_eq_some_iff.mp he5).1
     have done : ∀ (t2 : Addr) (H6 : Hp),Same H5 H6 -> H6 t2 = some (.tup [.int (i : Int),.int (j : Int),.bl (lit here)]) -> ((fun _ : Unit => Ex8 fun (as : List α) (rs : List Rm) (kvs : List (C.k.κ × V)) (ms : List V) (ps' : List Addr) (v7 v8 v9' : Option V) => An10 ([some v0,some (.ref fe),some (.ref fl),some (.ref d),some (.ref m),some (.ref r),some vh,some (.ref q),v9] = [some v0,some (.ref fe),some (.ref fl),some (.ref d),some (.ref m),some (.ref r),v7,v8,v9']) (Same H (upd H6 r (.lst (ps.map V.ref ++ [.ref t2])))) (upd H6 r (.lst (ps.map V.ref ++ [.ref t2])) d = some (C.k.mk kvs)) (NumAt C kvs as) (upd H6 r (.lst (ps.map V.ref ++ [.ref t2])) m = some (.lst ms)) (PlAt C (upd H6 r (.lst (ps.map V.ref ++ [.ref t2]))) ms as) (upd H6 r (.lst (ps.map V.ref ++ [.ref t2])) r = some (.lst (ps'.map V.ref))) (Rooms (upd H6 r (.lst (ps.map V.ref ++ [.ref t2]))) ps' rs) (Lay G lit as rs []) (rs.length <= as.length)) ()) /\
       (match upd H6 r (.lst (ps.map V.ref ++ [.ref t2])) r with | some (.lst xs) => G.B - xs.length | _ => 0) < (match H2 r with | some (.lst xs) => G.B - xs.length | _ => 0):=fun t2 H6 s6 ht2 => by
      have hr6:=s6 _ _ hr5
      have tu : ∀ t xs,H6 t = some (.tup xs) -> upd H6 r (.lst (ps.map V.ref ++ [.ref t2])) t = some (.tup xs):=fun t xs z => unX (nfX z hr6 rfl) z
      refine ⟨⟨as,rs ++ [⟨i,j,lit here⟩],kvs,ms,ps ++ [t2],_,_,_,rfl,(s5.trans s6).put hr0,unX ndr (s6 _ _ hd5),hN5,unX nmr (s6 _ _ hm5),(hP5.same fun t xs z => s6 _ _ z).same tu,by rw [upd_same,List.map_append]; rfl,?_,hL5.put he5 hi0 hi1,by rw [List.length_append]; exact hlt5⟩,?_⟩
      ·refine Rooms.snoc ⟨hR5.1,fun i p x e1 e2 => tu _ _ (s6 _ _ (hR5.2 i p x e1 e2))⟩ (tu _ _ ht2)
      ·rw [upd_same,hr2]
       show G.B - (ps.map V.ref ++ [V.ref t2]).length < G.B - (ps.map V.ref).length
       rw [List.length_append,hpr]
       show G.B - (rs.length + 1) < G.B - rs.length
       omega
     have hr5l : (ps.map V.ref).length < sizeLine:=by rw [hpr]; omega
     refine ⟨_,rfl,.inl ⟨rfl,_,SqL.of hr5⟩,_,rfl,q,_,_,_,rfl,rfl,SqL.of hq5,rfl,_,rfl,q,_,_,_,rfl,rfl,SqL.of hq5,rfl,fl,Rl,spWant C G lit,rfl,hI.fl,hI.sl _ _ hI.rl s5,_,rfl,hI.sl _ _ hI.rl s5,here,vh,rfl,hUh,hPh5,fun H6 s6 => ?_⟩
     refine ⟨(by show 3 <= sizeLine; decide),fun t2 ht2 => ?_⟩
     have s7 : Same H6 (upd H6 t2 (.tup [.int (i : Int),.int (j : Int),.bl (lit here)])):=same_upd ht2
     refine ⟨r,_,_,rfl,rfl,s7 _ _ (s6 _ _ hr5),hr5l,?_⟩
     exact done t2 _ (s6.trans s7) upd_same
   ·refine ifF (decide_eq_false (by omega)) ?_
    exact ⟨_,rfl,kS r ps rs as H2 hr0 s2 ⟨hr2,hR2⟩ ⟨hL,by omega⟩⟩
  ·intro σ H2 Q1 Q2 hq hc
   obtain ⟨x,e1,p,ys,e3,e4,x2,e5,p2,ys2,e6,e7,i,j,e8,e9,b,e10,q1⟩:=hc
   exact ⟨x,e1,p,ys,e3,e4,x2,e5,p2,ys2,e6,e7,i,j,e8,e9,b,e10,hq _ _ q1⟩
noncomputable def ItOk (J : It) (xs : List V) (H2 : Hp) : Prop:=∀ H5,Same H2 H5 -> (∀ i,i < xs.length -> J.go i H5) /\ (∀ i x H6,J.yld i H5 x H6 -> i < xs.length -> H6 = H5 /\ xs[i]? = some x) /\ J.stop xs.length H5
theorem _root_.L2.Same.seqT {K : PySem.W.Frag} {H H' : Hp} {a : Addr} {xs : List V} (e : Same H H') (h : SqT K H a xs) : SqT K H' a xs:=by
 obtain h | h:=h
 ·refine .inl ?_
  rcases h with h | ⟨o,h⟩
  ·exact .inl (e _ _ h)
  ·exact .inr ⟨o,e _ _ h⟩
 ·exact .inr h
theorem it_list {K : PySem.W.Frag} {a : Addr} {xs : List V} {H2 : Hp} (h : SqL K H2 a xs) : ItOk (Itl K a) xs H2:=fun H5 s => by
 have q:=s.seq h
 refine ⟨fun i hi => ⟨xs,xs[i],q,by simp [hi]⟩,fun i x H6 y _ => ⟨y.1,?_⟩,⟨xs,q,Nat.le_refl _⟩⟩
 have:=y.2 xs q
 exact this
theorem it_tup {K : PySem.W.Frag} {a : Addr} {xs : List V} {H2 : Hp} (h : SqT K H2 a xs) : ItOk (Itt K a) xs H2:=fun H5 s => by
 have q:=s.seqT h
 refine ⟨fun i hi => ⟨xs,xs[i],q,by simp [hi]⟩,fun i x H6 y _ => ⟨y.1,y.2 xs q⟩,⟨xs,q,Nat.le_refl _⟩⟩
theorem it_range {n : Nat} {H2 : Hp} : ItOk (Itr 0 n) ((List.range n).map fun i : Nat => V.int (i : Int)) H2:=fun H5 s => by
 refine ⟨fun i hi => (by show i < n; simpa using hi),fun i x H6 y hi => ⟨y.1,?_⟩,by simp [Itr]⟩
 have hi' : i < n:=by simpa using hi
 rw [y.2]
 simp [hi']
theorem comp_gen {J : It} {g : TG} {ti : TT} {te : TE} {D : Addr} {σ0 : L2.St} {H2 : Hp} {Q : Hp -> Prop} {xs : List V} {os : List (Option V)} (Sg : L2.St -> Prop) (hJ : ItOk J xs H2) (hlen : os.length = xs.length) (hsz : xs.length <= 1000) (hD : H2 D = none) (h0 : Sg σ0)
  (hs : ∀ (i : Nat) x o σ H5 (Qk : Option V -> L2.St -> Hp -> Prop),xs[i]? = some x -> os[i]? = some o -> Sg σ -> Same H2 H5 -> (∀ σ2 H8,Sg σ2 -> Same H5 H8 -> Qk o σ2 H8) -> g x σ H5 fun σ2 H6 => ti σ2 H6 fun b H7 => if b = true then te σ2 H7 fun v H8 => Qk (some v) σ2 H8 else Qk none σ2 H7)
  (hq : ∀ H5,Same H2 H5 -> H5 D = some (.lst (os.filterMap id)) -> Q H5) : CompW J g ti te D σ0 (upd H2 D (.lst [])) Q:=by
 refine ⟨fun i m σ H => m = xs.length - i /\ i <= xs.length /\ Sg σ /\ Same H2 H /\ H D = some (.lst ((os.take i).filterMap id)),⟨xs.length,by simp,Nat.zero_le _,h0,same_upd hD,upd_same⟩,?_⟩
 rintro i m σ H ⟨rfl,hi,hg,hS,hDe⟩
 obtain ⟨go,yl,st⟩:=hJ H hS
 by_cases hlt : i < xs.length
 ·refine .inr ⟨go i hlt,fun σ' H' => i + 1 <= xs.length /\ Sg σ' /\ Same H2 H' /\ H' D = some (.lst ((os.take (i + 1)).filterMap id)),fun σ' H' p' => ⟨xs.length - (i + 1),by omega,rfl,p'⟩,fun x H' y => ?_⟩
  obtain ⟨e,hx⟩:=yl i x H' y hlt
  subst e
  have ho : os[i]? = some (os[i]'(by omega)):=by simp
  generalize os[i]'(by omega) = o at ho
  have htk : (os.take (i + 1)).filterMap id = (os.take i).filterMap id ++ o.toList:=by
   rw [List.take_add_one,ho,List.filterMap_append]
   cases o <;> rfl
  have hll : ((os.take i).filterMap id).length <= 1000:=Nat.le_trans (List.length_filterMap_le _ _) (by rw [List.length_take]; omega)
  refine hs i x o σ _ (fun o' σ2 H8 => match o' with
   | some v => ∃ zs,H8 D = some (.lst zs) /\ zs.length < sizeLine /\ (i + 1 <= xs.length /\ Sg σ2 /\ Same H2 (upd H8 D (.lst (zs ++ [v]))) /\ upd H8 D (.lst (zs ++ [v])) D = some (.lst ((os.take (i + 1)).filterMap id)))
   | none => i + 1 <= xs.length /\ Sg σ2 /\ Same H2 H8 /\ H8 D = some (.lst ((os.take (i + 1)).filterMap id))) hx ho hg hS fun σ2 H8 h2 h8 => ?_
  cases o with
  | some v => exact ⟨_,h8 _ _ hDe,small1000 hll,hlt,h2,(hS.trans h8).put hD,by rw [upd_same,htk]; rfl⟩
  | none => exact ⟨hlt,h2,hS.trans h8,by rw [h8 _ _ hDe,htk]; simp⟩
 ·have e : i = xs.length:=by omega
  subst e
  refine .inl ⟨st,hq H hS ?_⟩
  rw [hDe,<- hlen,List.take_length]
theorem filterMap_some {α : Type} (l : List α) : (l.map some).filterMap id = l:=by
 induction l with
 | nil => rfl
 | cons a l ih => rw [List.map_cons,List.filterMap_cons,ih]; rfl
theorem comp_vals {J : It} {g : TG} {te : TE} {D : Addr} {σ0 : L2.St} {H2 : Hp} {Q : Hp -> Prop} {xs ys : List V} (Sg : L2.St -> Prop) (hJ : ItOk J xs H2) (hlen : ys.length = xs.length) (hsz : xs.length <= 1000) (hD : H2 D = none) (h0 : Sg σ0)
  (hs : ∀ (i : Nat) x y σ H5 (Qk : V -> L2.St -> Hp -> Prop),xs[i]? = some x -> ys[i]? = some y -> Sg σ -> Same H2 H5 -> (∀ σ2 H8,Sg σ2 -> Same H5 H8 -> Qk y σ2 H8) -> g x σ H5 fun σ2 H6 => te σ2 H6 fun v H8 => Qk v σ2 H8)
  (hq : ∀ H5,Same H2 H5 -> H5 D = some (.lst ys) -> Q H5) (hgm : ∀ x σ H5 (A B : L2.St -> Hp -> Prop),(∀ σ2 H6,A σ2 H6 -> B σ2 H6) -> g x σ H5 A -> g x σ H5 B) : CompW J g (fun _ H Q => Q true H) te D σ0 (upd H2 D (.lst [])) Q:=by
 refine comp_gen (os:=ys.map some) Sg hJ (by rw [List.length_map]; exact hlen) hsz hD h0 (fun i x o σ H5 Qk hx ho hg hS hk => ?_) fun H5 s e => hq H5 s (by rw [e,filterMap_some])
 rw [List.getElem?_map] at ho
 cases hy : ys[i]? with
 | none => rw [hy] at ho; cases ho
 | some y =>
  rw [hy] at ho
  cases ho
  refine hgm _ _ _ _ _ (fun σ2 H6 h => ?_) (hs i x y σ H5 (fun v => Qk (some v)) hx hy hg hS hk)
  show if true = true then _ else _
  rw [if_pos rfl]
  exact h
theorem gm_name {i : Nat} : ∀ x σ H5 (A B : L2.St -> Hp -> Prop),(∀ σ2 H6,A σ2 H6 -> B σ2 H6) -> gName i x σ H5 A -> gName i x σ H5 B:=fun _ _ _ _ _ h a => h _ _ a
theorem ix_listK {X : Cx} {K' : PySem.W.Frag} (hK : X.K = K') : IxR X (rIxL K'):=by
 subst hK
 exact ix_list
theorem comp_any {J : It} {g : TG} {te : TE} {D : Addr} {σ0 : L2.St} {H2 : Hp} {Q : Hp -> Prop} {xs : List V} (Sg : L2.St -> Prop) (Rl : Nat -> V -> Hp -> Prop) (hRl : ∀ i v H H',(∀ t ys,H t = some (.tup ys) -> H' t = some (.tup ys)) -> Rl i v H -> Rl i v H') (hJ : ItOk J xs H2) (hsz : xs.length <= 1000) (hD : H2 D = none) (h0 : Sg σ0)
  (hs : ∀ (i : Nat) x σ H5 (Qk : V -> L2.St -> Hp -> Prop),xs[i]? = some x -> Sg σ -> Same H2 H5 -> (∀ v σ2 H8,Sg σ2 -> Same H5 H8 -> Rl i v H8 -> Qk v σ2 H8) -> g x σ H5 fun σ2 H6 => te σ2 H6 fun v H8 => Qk v σ2 H8)
  (hgm : ∀ x σ H5 (A B : L2.St -> Hp -> Prop),(∀ σ2 H6,A σ2 H6 -> B σ2 H6) -> g x σ H5 A -> g x σ H5 B)
  (hq : ∀ ys H5,ys.length = xs.length -> (∀ (i : Nat) v,ys[i]? = some v -> Rl i v H5) -> Same H2 H5 -> H5 D = some (.lst ys) -> Q H5) : CompW J g (fun _ H Q => Q true H) te D σ0 (upd H2 D (.lst [])) Q:=by
 refine ⟨fun i m σ H => m = xs.length - i /\ i <= xs.length /\ Sg σ /\ Same H2 H /\ ∃ ys : List V,H D = some (.lst ys) /\ ys.length = i /\ ∀ (j : Nat) v,ys[j]? = some v -> Rl j v H,⟨xs.length,by simp,Nat.zero_le _,h0,same_upd hD,[],upd_same,rfl,fun j v e => by simp at e⟩,?_⟩
 rintro i m σ H ⟨rfl,hi,hg,hS,ys,hDe,hyl,hR⟩
 obtain ⟨go,yl,st⟩:=hJ H hS
 by_cases hlt : i < xs.length
 ·refine .inr ⟨go i hlt,fun σ' H' => i + 1 <= xs.length /\ Sg σ' /\ Same H2 H' /\ ∃ ys : List V,H' D = some (.lst ys) /\ ys.length = i + 1 /\ ∀ (j : Nat) v,ys[j]? = some v -> Rl j v H',fun σ' H' p' => ⟨xs.length - (i + 1),by omega,rfl,p'⟩,fun x H' y => ?_⟩
  obtain ⟨e,hx⟩:=yl i x H' y hlt
  subst e
  refine hgm _ _ _ _ _ (fun σ2 H6 h => ?_) (hs i x σ _ (fun v σ2 H4 => ∃ xs',H4 D = some (.lst xs') /\ xs'.length < sizeLine /\ (i + 1 <= xs.length /\ Sg σ2 /\ Same H2 (upd H4 D (.lst (xs' ++ [v]))) /\ ∃ ys : List V,upd H4 D (.lst (xs' ++ [v])) D = some (.lst ys) /\ ys.length = i + 1 /\ ∀ (j : Nat) u,ys[j]? = some u -> Rl j u (upd H4 D (.lst (xs' ++ [v]))))) hx hg hS fun v σ2 H8 h2 h8 hv => ?_)
  ·show if true = true then _ else _
   rw [if_pos rfl]
   exact h
  ·have hD8:=h8 _ _ hDe
   have tu : ∀ t zs,H8 t = some (.tup zs) -> upd H8 D (.lst (ys ++ [v])) t = some (.tup zs):=fun t zs z => unX (nfX z hD8 rfl) z
   refine ⟨ys,hD8,small1000 (by omega),hlt,h2,(hS.trans h8).put hD,ys ++ [v],upd_same,by simp [hyl],fun j u e => ?_⟩
   rcases get_snoc e with ⟨_,e⟩ | ⟨h1,e⟩
   ·exact hRl _ _ _ _ tu (hRl _ _ _ _ (fun t zs z => h8 _ _ z) (hR j u e))
   ·subst e
    rw [h1,hyl]
    exact hRl _ _ _ _ tu hv
 ·have e : i = xs.length:=by omega
  subst e
  exact .inl ⟨st,hq ys H hyl hR hS hDe⟩
theorem sub_of {cl cells : List (Str × Addr)} (h : ∀ p ∈ cl,cells.lookup p.1 = some p.2) : ∀ x c,cl.lookup x = some c -> cells.lookup x = some c:=fun x c e => h _ (PySem.mem_of_lookup e)
theorem has_of {names : List (Str × NameKind)} {l : List (Str × Addr)} {ns : List Str} (h : ∀ p ∈ names,p.2 = .free -> p.1 ∈ ns) (h2 : ∀ y ∈ ns,∃ c,l.lookup y = some c) : ∀ p ∈ names,p.2 = .free -> ∃ c,l.lookup p.1 = some c:=fun p hp hf => h2 _ (h p hp hf)
theorem own_of {scope : Scope} {on : List Str} {own : Nat -> List (Str × Addr)} (h1 : ∀ n acc,cellsFrom n scope.names acc = own n ++ acc) (h2 : ∀ n,(own n).map (·.1) = on) (h3 : ∀ n,∀ p ∈ own n,n <= p.2) (h4 : ∀ n,(own n).Pairwise fun x y => x.2 ≠ y.2) (h5 : ∀ p ∈ scope.names,p.2 = .cell -> p.1 ∈ on) (h6 : ∀ x ∈ on,scope.names.lookup x = some .cell) : OwnC scope on own :=
 ⟨h1,h2,h3,h4,fun x h => h5 _ (PySem.mem_of_lookup h) rfl,h6⟩
noncomputable def own0 : Nat -> List (Str × Addr):=fun _ => []
theorem ow0 {scope : Scope} (h1 : ∀ n acc,cellsFrom n scope.names acc = acc) (h5 : ∀ p ∈ scope.names,p.2 = .cell -> p.1 ∈ ([] : List Str)) : OwnC scope [] own0 :=
 own_of h1 (fun _ => rfl) (fun n p hp => absurd hp (by simp [own0])) (fun n => List.Pairwise.nil) h5 (fun x hx => absurd hx (by simp))
end
end Law
set_option maxHeartbeats 8000000
namespace Law
open PySem L2 Hs PyProof.Rows
section
variable {P : Program} {w : World} {K : PySem.W.Frag} {mg : Str -> Option Value} {base : Heap} {f : Addr} {fd : FuncData}
noncomputable def cRooms : Plc Nat:=⟨.s,fun p => Sum.inl (p : Int)⟩
theorem cRooms_inj (hs : List Rm) (wf : Wf hs) : cRooms.Inj (grRooms hs wf):=fun a b _ _ e => by
 have : (a : Int) = (b : Int):=Sum.inl.inj e
 omega
noncomputable def lamE : Expr:=retE (defBody (top 18))
theorem sc_exits_in : FnScope ["house"] ["house"] (defScope (top 18)):=⟨rfl,rfl,rfl,by decide +kernel,rfl,by decide +kernel,by decide +kernel⟩
theorem sc_lamE : CloScope ["room","house"] ["room"] ["house"] (lamScope lamE):=⟨rfl,rfl,rfl,by decide +kernel,by decide +kernel,rfl,by decide +kernel,by decide +kernel⟩
theorem ow_lamE : OwnC (lamScope lamE) [] own0:=ow0 (fun n acc => rfl) (by decide +kernel)
noncomputable def qE : Str:=("exits_in" : Str) ++ ".<locals>." ++ "<lambda>"
noncomputable def spExitsIn (tabs : Tbs) : Sp:=fun vs H Q _ => Ex1 fun (a : Addr) => An3 (vs = [.ref a]) (TB tabs H) (∀ g c H',SamT H H' -> TB tabs H' -> Lam H' g qE (lamArgs lamE) (lamBody lamE) (lamScope lamE) [("house",c)] -> CellIs H' c (.ref a) -> Q (.ref g) H')
theorem ok_exitsin {c Pt : Addr} {tabs : Tbs} (F : Fun K "exits_in" "exits_in" (top 18) f fd) (M : Mkr base fd tabs c Pt (lamQs "exits_in")) (hB : BMain mg base) (nd : (tabs.map (·.1)).Nodup) : FnOk P w K mg base CX0 1 f fd ["house"] (spExitsIn tabs):=by
 refine okR F M.code sc_exits_in (e:=lamE) (pos:=retPos (defBody (top 18))) rfl (fun n => [(0,n + 1)]) (fun n p hp => ?_) (fun vs H Q E h => ?_) fun A outer s H vs Q E hr h => ?_
 ·rw [List.mem_singleton.mp hp]
  exact ⟨"house",rfl,rfl,rfl⟩
 ·obtain ⟨a,rfl,_⟩:=h
  rfl
 ·obtain ⟨a,rfl,hT,k⟩:=h
  refine ⟨_,(pe_lamT (c:=c) (P:=Pt) (qs:=lamQs "exits_in") (clos:=[("house",s.heap.objs.size + 1)]) M.hd rfl hB (by kernel_rfl) rfl),?_⟩
  refine ⟨hT _ M.mem,fun g H1 hg s1 hT1 hL => ?_⟩
  intro Fz hF hFv
  have s2 : SamT H H1:=s1.toSam (let ⟨ps,e,_⟩:=hT _ M.mem; ⟨ps,e⟩)
  have hTB:=hT.grown nd M.mem s1 hT1
  have s3 : Same H1 (put H1 Fz [s.heap.objs.size + 1]):=put_same fun c hc => (hF c hc).1
  refine k g (s.heap.objs.size + 1) _ (s2.trans s3.toSam) (hTB.same s3) (hL.sam s3.toSam) ?_
  obtain ⟨o,u,e1,e2⟩:=hFv (0,s.heap.objs.size + 1) (List.mem_singleton.mpr rfl) (.ref a) rfl
  exact ⟨o,u,by rw [put_in (by simp)]; exact e1,e2⟩
noncomputable def Rxw (g c a : Addr) (ps : List Addr) (hs : List Rm) : Hp -> Prop:=fun H => (Lam H g qE (lamArgs lamE) (lamBody lamE) (lamScope lamE) (capC [⟨"house",c,.ref a⟩]) /\ Caps H [⟨"house",c,.ref a⟩]) /\ HouseAt H a ps hs
theorem Rxw.same {g c a : Addr} {ps : List Addr} {hs : List Rm} : ∀ H1 H2,Rxw g c a ps hs H1 -> Same H1 H2 -> Rxw g c a ps hs H2:=fun _ _ h s => ⟨⟨h.1.1.sam s.toSam,h.1.2.same s⟩,h.2.same s⟩
theorem ok_lamE {fe g c a : Addr} {fde : FuncData} {ps : List Addr} {hs : List Rm} (wf : Wf hs) (Ex : Df K mg "exits_of" 9 ["house","room"] fe fde) :
  FvOk P w K mg base 2 g (Rxw g c a ps hs) (spExG cRooms (grRooms hs wf)):=by
 have G_exits : FnOk P w K mg base CX0 1 fe fde ["house","room"] spExits:=ok_exits Ex.fn
 have L : FvOk P w K mg base 2 g (fun H => Lam H g qE (lamArgs lamE) (lamBody lamE) (lamScope lamE) (capC [⟨"house",c,.ref a⟩]) /\ Caps H [⟨"house",c,.ref a⟩]) (fun vs H Q E => HouseAt H a ps hs /\ spExG cRooms (grRooms hs wf) vs H Q E):=by
  refine clo_lam (k:=1) sc_lamE ow_lamE (by simp [capA]) (fun pm ctv c' => us1 fun _ => rfl) (fun vs H Q E h => ?_) fun c' A outer s H vs Q E hr hC h => ?_
  ·obtain ⟨_,i,v,rfl,_⟩:=h
   rfl
  ·obtain ⟨hh,i,v,rfl,hi,rfl,q⟩:=h
   have hi : i < hs.length:=hi
   have hr0 : hs[i]? = some hs[i]:=by simp [hi]
   have st : ∀ b,stp hs i b = if b then hs[i].r else hs[i].l:=fun b => by rw [stp,hr0]
   generalize hs[i] = r at hr0 st
   refine ⟨_,(show PE _ (lamBody lamE) _ from pe_call G_exits hr rfl Ex.m Ex.fn.kp Ex.b .nil pass0 (pa_cons (pv 1) (pa_cons (pv 0) pa_nil))),?_⟩
   refine ⟨_,rfl,_,rfl,a,ps,hs,i,r,rfl,hh,hr0,fun p hp => ?_⟩
   refine q p _ _ _ (same_upd hp) upd_same ?_ ?_
   ·show V.int r.l = V.int ((stp hs i false : Nat) : Int)
    rw [st]; rfl
   ·show V.int r.r = V.int ((stp hs i true : Nat) : Int)
    rw [st]; rfl
 exact ⟨fun H h hR ok => L.1 H h hR.1 ok,fun A outer s H us vs Q E hr e0 hR r hsp => L.2 A outer s H us vs Q E hr e0 hR.1 r ⟨hR.2,hsp⟩⟩
noncomputable def lamF : Expr:=argE 2 (setE ((defBody (top 19)).getD 0 (.Pass ⟨0,0,0,0⟩)))
theorem sc_lamF : CloScope ["room"] ["room"] [] (lamScope lamF):=⟨rfl,rfl,rfl,by decide +kernel,by decide +kernel,rfl,by decide +kernel,by decide +kernel⟩
theorem ow_lamF : OwnC (lamScope lamF) [] own0:=ow0 (fun n acc => rfl) (by decide +kernel)
noncomputable def qF : Str:=("ways_in" : Str) ++ ".<locals>." ++ "<lambda>"
noncomputable def Rno (g : Addr) : Hp -> Prop:=fun H => Lam H g qF (lamArgs lamF) (lamBody lamF) (lamScope lamF) (capC []) /\ Caps H []
theorem ok_lamF {g : Addr} {hs : List Rm} (wf : Wf hs) : FvOk P w K mg base 2 g (Rno g) (spWant cRooms (grRooms hs wf) fun _ => false):=by
 refine clo_lam (k:=1) (L:=[]) sc_lamF ow_lamF (by simp [capA]) (fun pm ctv c' => us1 fun _ => rfl) (fun vs H Q E h => ?_) fun c' A outer s H vs Q E hr hC h => ?_
 ·obtain ⟨i,v,rfl,_⟩:=h
  rfl
 ·obtain ⟨i,v,rfl,hi,_,q⟩:=h
  refine ⟨_,(show PE _ (lamBody lamF) _ from pe_bl),?_⟩
  exact q _ (.refl _)
noncomputable def WayV (hs : List Rm) (i : Nat) (v : V) : Prop:=(¬ Reach hs i /\ v = .non) ∨ (Reach hs i /\ ∃ wk,v = .str (txt wk) /\ led hs 0 wk = i)
noncomputable def spWaysIn (tabs : Tbs) : Sp:=fun vs H Q _ => Ex3 fun (a : Addr) (ps : List Addr) (hs : List Rm) => An6 (vs = [.ref a]) (HouseAt H a ps hs) (Wf hs) (hs.length <= 10000) (TB tabs H) (∀ (l : Addr) (ws : List V) (H' : Hp),SamT H H' -> TB tabs H' -> H' l = some (.lst ws) -> ws.length = hs.length -> (∀ (i : Nat) v,ws[i]? = some v -> WayV hs i v) -> Q (.ref l) H')
theorem nd_c2 : (["room","steps"] : List Str).Nodup:=by decide +kernel
theorem sc_ways_in : FnScope ["house","found","steps"] ["house"] (defScope (top 19)):=⟨rfl,rfl,rfl,by decide +kernel,rfl,by decide +kernel,by decide +kernel⟩
theorem ok_waysin {fe fx fi ft c Pt ci Pi : Addr} {fde fdx fdi fdt : FuncData} {tabs : Tbs} (F : Fun K "ways_in" "ways_in" (top 19) f fd) (T : Blt mg) (TR : mg "reversed" = none) (hB : BMain mg base) (nd : (tabs.map (·.1)).Nodup) (M : Mkr base fd tabs c Pt (lamQs "ways_in"))
  (Ex : Df K mg "exits_of" 9 ["house","room"] fe fde) (Xp : Df K mg "explore" 1 ["start","exits","wanted"] fx fdx) (Ei : Df K mg "exits_in" 18 ["house"] fi fdi) (Mi : Mkr base fdi tabs ci Pi (lamQs "exits_in")) (Wt : Df K mg "walk_to" 2 ["steps","place"] ft fdt) :
  FnOk P w K mg base CX0 5 f fd ["house"] (spWaysIn tabs):=by
 have G_exitsin : FnOk P w K mg base CX0 4 fi fdi ["house"] (spExitsIn tabs):=(ok_exitsin Ei.fn Mi hB nd).mono (by decide)
 refine okC F M.code sc_ways_in (fun vs H Q E h => ?_) (fun A outer s H vs Q E hr h => ?_)
 ·obtain ⟨a,ps,hs,rfl,_⟩:=h
  rfl
 ·obtain ⟨a,ps,hs,rfl,hh,wf,hn,hTb,k⟩:=h
  have hu:=hu_of hr
  have G_explore : FnOk P w K mg base CX0 4 fx fdx ["start","exits","wanted"] (spExplore P w K mg base 2 cRooms (grRooms hs wf) fun _ => false):=(ok_explore Xp.fn T).mono (by decide)
  have G_walkto : FnOk P w K mg base CX0 4 ft fdt ["steps","place"] (spWalkTo cRooms (grRooms hs wf)):=(ok_walkto Wt.fn TR).mono (by decide)
  refine ⟨_,(pss_cons (ps_set (i:=1) sc_ways_in.nd rfl (Or.inl rfl) (pe_call G_explore hr rfl Xp.m Xp.fn.kp Xp.b .nil pass0 (pa_cons pe_int (pa_cons (pe_call G_exitsin hr rfl Ei.m Ei.fn.kp Ei.b .nil pass0 (pa_cons (pv 0) pa_nil)) (pa_cons (pe_lamT (c:=c) (P:=Pt) (qs:=lamQs "ways_in") (clos:=[]) M.hd rfl hB (by kernel_rfl) rfl) pa_nil)))))
   (pss_cons (ps_set (i:=2) sc_ways_in.nd rfl (Or.inr rfl) (pe_ix ix_tup (pv 1) pe_int (fun _ _ => rfl)))
   (pss_one (ps_ret (pe_comp (N':=["room","steps"]) (cap:=[none,some 2]) (cl:=[("steps",s.heap.objs.size + 1)]) rfl ?cs1 (pi_range1 rfl T.range (pa_cons (pe_callB call_len_seq (by rfl) T.len PySem.boot_len (pa_cons (pv 0) pa_nil)) pa_nil)) (by exact fun _ _ _ _ => (pg_name (i:=0) nd_c2 rfl (Or.inl rfl))) (by exact fun _ _ _ _ => pf_nil) (by exact fun _ _ _ _ => (pe_ifExp (pt_cmp (pc_din hu (pv 0) (pv 1))) (pe_call G_walkto hr rfl Wt.m Wt.fn.kp Wt.b .nil pass0 (pa_cons (pv 1) (pa_cons (pv 0) pa_nil))) pe_non))))))),?_⟩
  case cs1 =>
   refine ⟨rfl,by decide +kernel,by decide +kernel,by kernel_rfl,rfl,nd_c2,fun _ _ h => h,fun p hp hf => ⟨s.heap.objs.size + 1,?_⟩,fun i x j h1 h2 => ?_⟩
   ·have e : ∀ p ∈ ([((".0" : Str),NameKind.local),("room",.local),("walk_to",.globalImplicit),("steps",.free)] : List (Str × NameKind)),p.2 = .free -> p.1 = "steps":=by decide +kernel
    rw [e p hp hf]
    rfl
   ·match i,h1,h2 with
    | 0,_,h2 => cases h2
    | 1,h1,h2 => cases h1; cases h2; exact ⟨rfl,.inl rfl,rfl⟩
    | i + 2,h1,_ => cases h1
  refine ⟨_,rfl,a,rfl,hTb,fun g cc H1 s1 hT1 hL1 hc1 => ?_⟩
  refine ⟨hT1 _ M.mem,fun g2 H2 hg2 s2 hT2 hL2 => ?_⟩
  have s2' : SamT H1 H2:=s2.toSam (let ⟨ps,e,_⟩:=hT1 _ M.mem; ⟨ps,e⟩)
  have hTB2:=hT1.grown nd M.mem s2 hT2
  have s12:=s1.trans s2'
  have hh2:=hh.sam s12
  refine ⟨_,g,g2,Rxw g cc a ps hs,Rno g2,rfl,⟨rfl,ok_lamE wf Ex,ok_lamF wf,⟨⟨hL1.sam s2',fun q hq => by rw [List.mem_singleton.mp hq]; exact hc1.sam s2'⟩,hh2⟩,⟨hL2,fun q hq => by cases hq⟩,Rxw.same,fun _ _ h s => ⟨h.1.sam s.toSam,h.2.same s⟩,cRooms_inj hs wf,hn⟩,?_,?_⟩
  ·intro t d kvs es H3 s3 ht hdk hTT hE _
   have hTB3:=hTB2.same s3
   have s13:=s12.trans s3.toSam
   have hh3:=hh.sam s13
   refine ⟨_,rfl,t,_,_,_,rfl,rfl,SqT.of ht,rfl,?_⟩
   refine ⟨_,rfl,a,_,rfl,.inl (SqL.of hh3.ob),_,rfl,?_,?_,fun D hD => ?_⟩
   ·rw [List.length_map,hh3.rm.1]; omega
   ·rw [List.length_map,hh3.rm.1]; omega
   rw [List.length_map,hh3.rm.1,Int.toNat_natCast]
   refine comp_range (lo:=0) (n:=hs.length) (fun j σ H5 => ∃ (v0 : Option V) (ws : List V),σ = [v0,some (.ref d)] /\ Same H3 H5 /\ H5 D = some (.lst ws) /\ ws.length = j /\ ∀ (i : Nat) v,ws[i]? = some v -> WayV hs i v)
    ⟨none,[],rfl,same_upd hD,upd_same,rfl,fun i v e => by simp at e⟩ ?_ ?_
   ·intro j σ H5 hj hP0
    refine kqX fun K0 eK0 => ?_
    obtain ⟨v0,ws,rfl,s5,hD5,hwl,hws⟩:=hP0
    subst eK0
    rw [Int.zero_add]
    dsimp only [gName]
    rw [if_pos rfl]
    have put : ∀ (v : V) (H6 : Hp),Same H5 H6 -> WayV hs j v -> ∃ ys,H6 D = some (.lst ys) /\ ys.length < sizeLine /\ ∃ (v0 : Option V) (ws : List V),[some (V.int (j : Int)),some (V.ref d)] = [v0,some (.ref d)] /\ Same H3 (upd H6 D (.lst (ys ++ [v]))) /\ upd H6 D (.lst (ys ++ [v])) D = some (.lst ws) /\ ws.length = j + 1 /\ ∀ (i : Nat) v,ws[i]? = some v -> WayV hs i v:=fun v H6 s6 hv => by
     refine ⟨ws,s6 _ _ hD5,small10000 (by omega),_,ws ++ [v],rfl,(s5.trans s6).put hD,upd_same,by simp [hwl],fun i v' e => ?_⟩
     rcases get_snoc e with ⟨_,e⟩ | ⟨e1,e⟩
     ·exact hws i v' e
     ·rw [e,show i = j by omega]
      exact hv
    have hjP : ∀ H' : Hp,cRooms.isP H' j (.int (j : Int)):=fun H' => rfl
    refine ⟨_,rfl,_,rfl,d,_,rfl,Kd.get (s5 _ _ hdk) (hjP H5),_,rfl,?_⟩
    have hTT5:=hTT.same fun t xs z => s5 _ _ z
    by_cases hin : j ∈ es.map (·.1)
    ·obtain ⟨e,hem,hep⟩:=List.mem_map.mp hin
     obtain ⟨i,hi⟩:=List.getElem?_of_mem hem
     obtain ⟨v,_,hv,_⟩:=hTT5.get (cRooms_inj hs wf) hE.u hE.nd (show es[i]? = some (j,e.2) from by rw [hi,<- hep])
     refine ifT (by rw [hv]; rfl) ?_
     refine ⟨_,rfl,_,rfl,d,kvs,es,_,j,_,rfl,s5 _ _ hdk,hTT5,hE,cRooms_inj hs wf,hn,hin,hjP H5,fun wk H6 hl s6 => ?_⟩
     exact put _ H6 s6 (.inr ⟨(hE.all j).mpr hin,wk,rfl,hl⟩)
    ·refine ifF (by rw [hTT5.no (cRooms_inj hs wf) hE.u hj hin]; rfl) ?_
     exact put _ H5 (.refl _) (.inl ⟨fun z => hin ((hE.all j).mp z),rfl⟩)
   ·rintro σ H5 ⟨v0,ws,rfl,s5,hD5,hwl,hws⟩
    exact k D ws H5 (s13.trans s5.toSam) (hTB3.same s5) hD5 hwl hws
  ·intro t d kvs es n a' va H3 s3 ht hdk hTT hE ha' hva hw
   cases hw
noncomputable def cPairs : Plc (Nat × Nat):=⟨.t,fun p => [Sum.inl (p.1 : Int),Sum.inl (p.2 : Int)]⟩
theorem cPairs_inj (G : Gr (Nat × Nat)) : cPairs.Inj G:=fun a b _ _ e => by
 have e : ([Sum.inl (a.1 : Int),Sum.inl (a.2 : Int)] : List Key) = [Sum.inl (b.1 : Int),Sum.inl (b.2 : Int)]:=e
 injection e with e1 e2
 injection e2 with e2 _
 have h1 : (a.1 : Int) = (b.1 : Int):=Sum.inl.inj e1
 have h2 : (a.2 : Int) = (b.2 : Int):=Sum.inl.inj e2
 exact Prod.ext (by omega) (by omega)
noncomputable def spExPair : Sp:=fun vs H Q _ => Ex8 fun (a b : Addr) (ps qs : List Addr) (hs gs : List Rm) (p : Nat × Nat) (v : V) => An7 (vs = [.ref a,.ref b,v]) (HouseAt H a ps hs) (HouseAt H b qs gs) (p.1 < hs.length) (p.2 < gs.length) (cPairs.isP H p v) (∀ t H' vl vr,Same H H' -> H' t = some (.tup [vl,vr]) -> cPairs.isP H' (stp hs p.1 false,stp gs p.2 false) vl -> cPairs.isP H' (stp hs p.1 true,stp gs p.2 true) vr -> Q (.ref t) H')
theorem sc_exits_of_pair : FnScope ["one","other","pair","first","second"] ["one","other","pair"] (defScope (top 21)):=⟨rfl,rfl,rfl,by decide +kernel,rfl,by decide +kernel,by decide +kernel⟩
theorem ok_expair {fe : Addr} {fde : FuncData} (F : Fun K "exits_of_pair" "exits_of_pair" (top 21) f fd) (Ex : Df K mg "exits_of" 9 ["house","room"] fe fde) : FnOk P w K mg base CX0 2 f fd ["one","other","pair"] spExPair:=by
 have G_exits : FnOk P w K mg base CX0 1 fe fde ["house","room"] spExits:=ok_exits Ex.fn
 refine F.ok sc_exits_of_pair (fun vs H Q E h => ?_) (fun cdv A outer s H vs Q E hr h => ?_)
 ·obtain ⟨a,b,ps,qs,hs,gs,p,v,rfl,_⟩:=h
  rfl
 ·obtain ⟨a,b,ps,qs,hs,gs,p,v,rfl,ha,hb,h1,h2,⟨t,rfl,ht⟩,k⟩:=h
  have ht : H t = some (.tup [.int (p.1 : Int),.int (p.2 : Int)]):=ht
  have e1 : hs[p.1]? = some hs[p.1]:=by simp [h1]
  have e2 : gs[p.2]? = some gs[p.2]:=by simp [h2]
  have st1 : ∀ b,stp hs p.1 b = if b then hs[p.1].r else hs[p.1].l:=fun b => by rw [stp,e1]
  have st2 : ∀ b,stp gs p.2 b = if b then gs[p.2].r else gs[p.2].l:=fun b => by rw [stp,e2]
  generalize hs[p.1] = r1 at e1 st1
  generalize gs[p.2] = r2 at e2 st2
  refine ⟨_,(pss_cons (ps_set (i:=3) sc_exits_of_pair.nd rfl (Or.inl rfl) (pe_call G_exits hr rfl Ex.m Ex.fn.kp Ex.b .nil pass0 (pa_cons (pv 0) (pa_cons (pe_ix ix_tup (pv 2) pe_int (fun _ _ => rfl)) pa_nil))))
   (pss_cons (ps_set (i:=4) sc_exits_of_pair.nd rfl (Or.inl rfl) (pe_call G_exits hr rfl Ex.m Ex.fn.kp Ex.b .nil pass0 (pa_cons (pv 1) (pa_cons (pe_ix ix_tup (pv 2) pe_int (fun _ _ => rfl)) pa_nil))))
   (pss_one (ps_ret (pe_tup (pa_cons (pe_tup (pa_cons (pe_ix ix_tup (pv 3) pe_int (fun _ _ => rfl)) (pa_cons (pe_ix ix_tup (pv 4) pe_int (fun _ _ => rfl)) pa_nil))) (pa_cons (pe_tup (pa_cons (pe_ix ix_tup (pv 3) pe_int (fun _ _ => rfl)) (pa_cons (pe_ix ix_tup (pv 4) pe_int (fun _ _ => rfl)) pa_nil))) pa_nil))))))),?_⟩
  refine ⟨_,rfl,_,rfl,t,_,_,_,rfl,rfl,SqT.of ht,rfl,a,ps,hs,p.1,r1,rfl,ha,e1,fun x hx => ?_⟩
  have s1 : Same H (upd H x (.tup [.int r1.l,.int r1.r])):=same_upd hx
  have hx1 : upd H x (.tup [.int r1.l,.int r1.r]) x = some (.tup [.int r1.l,.int r1.r]):=upd_same
  generalize upd H x (.tup [.int r1.l,.int r1.r]) = H1 at s1 hx1
  refine ⟨_,rfl,_,rfl,t,_,_,_,rfl,rfl,SqT.of (s1 _ _ ht),rfl,b,qs,gs,p.2,r2,rfl,hb.same s1,e2,fun y hy => ?_⟩
  have s2 : Same H1 (upd H1 y (.tup [.int r2.l,.int r2.r])):=same_upd hy
  have hy2 : upd H1 y (.tup [.int r2.l,.int r2.r]) y = some (.tup [.int r2.l,.int r2.r]):=upd_same
  generalize upd H1 y (.tup [.int r2.l,.int r2.r]) = H2 at s2 hy2
  have hx2:=s2 _ _ hx1
  refine ⟨_,rfl,x,_,_,_,rfl,rfl,SqT.of hx2,rfl,_,rfl,y,_,_,_,rfl,rfl,SqT.of hy2,rfl,(by show 2 <= sizeLine; decide),fun u hu => ?_⟩
  have s3 : Same H2 (upd H2 u (.tup [.int r1.l,.int r2.l])):=same_upd hu
  have hu3 : upd H2 u (.tup [.int r1.l,.int r2.l]) u = some (.tup [.int r1.l,.int r2.l]):=upd_same
  generalize upd H2 u (.tup [.int r1.l,.int r2.l]) = H3 at s3 hu3
  refine ⟨_,rfl,x,_,_,_,rfl,rfl,SqT.of (s3 _ _ hx2),rfl,_,rfl,y,_,_,_,rfl,rfl,SqT.of (s3 _ _ hy2),rfl,(by show 2 <= sizeLine; decide),fun z hz => ?_⟩
  have s4 : Same H3 (upd H3 z (.tup [.int r1.r,.int r2.r])):=same_upd hz
  have hz4 : upd H3 z (.tup [.int r1.r,.int r2.r]) z = some (.tup [.int r1.r,.int r2.r]):=upd_same
  generalize upd H3 z (.tup [.int r1.r,.int r2.r]) = H4 at s4 hz4
  refine ⟨(by show 2 <= sizeLine; decide),fun q hq => ?_⟩
  have s5 : Same H4 (upd H4 q (.tup [.ref u,.ref z])):=same_upd hq
  refine k q _ (.ref u) (.ref z) ((((s1.trans s2).trans s3).trans s4).trans s5) upd_same ⟨u,rfl,?_⟩ ⟨z,rfl,?_⟩
  ·show _ = some (HO.tup [.int ((stp hs p.1 false : Nat) : Int),.int ((stp gs p.2 false : Nat) : Int)])
   rw [st1,st2]
   exact s5 _ _ (s4 _ _ hu3)
  ·show _ = some (HO.tup [.int ((stp hs p.1 true : Nat) : Int),.int ((stp gs p.2 true : Nat) : Int)])
   rw [st1,st2]
   exact s5 _ _ hz4
noncomputable def lamP : Expr:=retE (defBody (top 22))
theorem sc_exits_in_pairs : FnScope ["one","other"] ["one","other"] (defScope (top 22)):=⟨rfl,rfl,rfl,by decide +kernel,rfl,by decide +kernel,by decide +kernel⟩
theorem sc_lamP : CloScope ["pair","other","one"] ["pair"] ["other","one"] (lamScope lamP):=⟨rfl,rfl,rfl,by decide +kernel,by decide +kernel,rfl,by decide +kernel,by decide +kernel⟩
theorem ow_lamP : OwnC (lamScope lamP) [] own0:=ow0 (fun n acc => rfl) (by decide +kernel)
noncomputable def qP : Str:=("exits_in_pairs" : Str) ++ ".<locals>." ++ "<lambda>"
noncomputable def capP (c d a b : Addr) : List Cap:=[⟨"other",d,.ref b⟩,⟨"one",c,.ref a⟩]
noncomputable def spExIP (tabs : Tbs) : Sp:=fun vs H Q _ => Ex2 fun (a b : Addr) => An3 (vs = [.ref a,.ref b]) (TB tabs H) (∀ g c d H',c ≠ d -> SamT H H' -> TB tabs H' -> Lam H' g qP (lamArgs lamP) (lamBody lamP) (lamScope lamP) (capC (capP c d a b)) -> Caps H' (capP c d a b) -> Q (.ref g) H')
theorem ok_exip {c Pt : Addr} {tabs : Tbs} (F : Fun K "exits_in_pairs" "exits_in_pairs" (top 22) f fd) (M : Mkr base fd tabs c Pt (lamQs "exits_in_pairs")) (hB : BMain mg base) (nd : (tabs.map (·.1)).Nodup) : FnOk P w K mg base CX0 1 f fd ["one","other"] (spExIP tabs):=by
 refine okR F M.code sc_exits_in_pairs (e:=lamP) (pos:=retPos (defBody (top 22))) rfl (fun n => [(0,n + 1),(1,n + 1 + 1)]) (fun n p hp => ?_) (fun vs H Q E h => ?_) fun A outer s H vs Q E hr h => ?_
 ·rcases List.mem_cons.mp hp with hp | hp
  ·rw [hp]
   exact ⟨"one",rfl,rfl,rfl⟩
  ·rw [List.mem_singleton.mp hp]
   exact ⟨"other",rfl,rfl,rfl⟩
 ·obtain ⟨a,b,rfl,_⟩:=h
  rfl
 ·obtain ⟨a,b,rfl,hT,k⟩:=h
  refine ⟨_,(pe_lamT (c:=c) (P:=Pt) (qs:=lamQs "exits_in_pairs") (clos:=[("other",s.heap.objs.size + 1 + 1),("one",s.heap.objs.size + 1)]) M.hd rfl hB (by kernel_rfl) rfl),?_⟩
  refine ⟨hT _ M.mem,fun g H1 hg s1 hT1 hL => ?_⟩
  intro Fz hF hFv
  have s2 : SamT H H1:=s1.toSam (let ⟨ps,e,_⟩:=hT _ M.mem; ⟨ps,e⟩)
  have hTB:=hT.grown nd M.mem s1 hT1
  have s3 : Same H1 (put H1 Fz [s.heap.objs.size + 1,s.heap.objs.size + 1 + 1]):=put_same fun c hc => (hF c hc).1
  refine k g (s.heap.objs.size + 1) (s.heap.objs.size + 1 + 1) _ (fun z => absurd z (Nat.ne_of_lt (Nat.lt_succ_self _))) (s2.trans s3.toSam) (hTB.same s3) (hL.sam s3.toSam) fun q hq => ?_
  rcases List.mem_cons.mp hq with hq | hq
  ·rw [hq]
   obtain ⟨o,u,e1,e2⟩:=hFv (1,s.heap.objs.size + 1 + 1) (by simp) (.ref b) rfl
   exact ⟨o,u,by rw [put_in (by simp)]; exact e1,e2⟩
  ·rw [List.mem_singleton.mp hq]
   obtain ⟨o,u,e1,e2⟩:=hFv (0,s.heap.objs.size + 1) (by simp) (.ref a) rfl
   exact ⟨o,u,by rw [put_in (by simp)]; exact e1,e2⟩
noncomputable def Rpr (g c d a b : Addr) (ps qs : List Addr) (hs gs : List Rm) : Hp -> Prop:=fun H => (Lam H g qP (lamArgs lamP) (lamBody lamP) (lamScope lamP) (capC (capP c d a b)) /\ Caps H (capP c d a b)) /\ HouseAt H a ps hs /\ HouseAt H b qs gs
theorem Rpr.same {g c d a b : Addr} {ps qs : List Addr} {hs gs : List Rm} : ∀ H1 H2,Rpr g c d a b ps qs hs gs H1 -> Same H1 H2 -> Rpr g c d a b ps qs hs gs H2:=fun _ _ h s => ⟨⟨h.1.1.sam s.toSam,h.1.2.same s⟩,h.2.1.same s,h.2.2.same s⟩
theorem ok_lamP {fp fe g c d a b : Addr} {fdp fde : FuncData} {ps qs : List Addr} {hs gs : List Rm} (wf : Wf hs) (wg : Wf gs) {s0 : Nat × Nat} (z1 : s0.1 < hs.length) (z2 : s0.2 < gs.length) (ncd : c ≠ d) (Ex : Df K mg "exits_of" 9 ["house","room"] fe fde) (Ep : Df K mg "exits_of_pair" 21 ["one","other","pair"] fp fdp) :
  FvOk P w K mg base 3 g (Rpr g c d a b ps qs hs gs) (spExG cPairs (grPairs hs gs wf wg s0 z1 z2)):=by
 have G_expair : FnOk P w K mg base CX0 2 fp fdp ["one","other","pair"] spExPair:=ok_expair Ep.fn Ex
 have L : FvOk P w K mg base 3 g (fun H => Lam H g qP (lamArgs lamP) (lamBody lamP) (lamScope lamP) (capC (capP c d a b)) /\ Caps H (capP c d a b)) (fun vs H Q E => (HouseAt H a ps hs /\ HouseAt H b qs gs) /\ spExG cPairs (grPairs hs gs wf wg s0 z1 z2) vs H Q E):=by
  refine clo_lam (k:=2) sc_lamP ow_lamP (by simp [capA,capP,Ne.symm ncd]) (fun pm ctv c' => us1 fun _ => rfl) (fun vs H Q E h => ?_) fun c' A outer s H vs Q E hr hC h => ?_
  ·obtain ⟨_,i,v,rfl,_⟩:=h
   rfl
  ·obtain ⟨⟨ha,hb⟩,p,v,rfl,hp,hv,q⟩:=h
   refine ⟨_,(show PE _ (lamBody lamP) _ from pe_call G_expair hr rfl Ep.m Ep.fn.kp Ep.b .nil pass0 (pa_cons (pv 2) (pa_cons (pv 1) (pa_cons (pv 0) pa_nil)))),?_⟩
   refine ⟨_,rfl,_,rfl,_,rfl,a,b,ps,qs,hs,gs,p,v,rfl,ha,hb,hp.1,hp.2,hv,fun t H' vl vr s1 ht hvl hvr => ?_⟩
   exact q t _ vl vr s1 ht hvl hvr
 exact ⟨fun H h hR ok => L.1 H h hR.1 ok,fun A outer s H us vs Q E hr e0 hR r hsp => L.2 A outer s H us vs Q E hr e0 hR.1 r ⟨hR.2,hsp⟩⟩
end
end Law
set_option maxHeartbeats 8000000
namespace Law
open PySem L2 Hs PyProof.Rows
section
variable {P : Program} {w : World} {K : PySem.W.Frag} {mg : Str -> Option Value} {base : Heap} {f : Addr} {fd : FuncData}
noncomputable def lamA : Expr:=argE 2 (retE (defBody (top 24)))
theorem sc_lamA : CloScope ["pair","other","one"] ["pair"] ["other","one"] (lamScope lamA):=⟨rfl,rfl,rfl,by decide +kernel,by decide +kernel,rfl,by decide +kernel,by decide +kernel⟩
theorem ow_lamA : OwnC (lamScope lamA) [] own0:=ow0 (fun n acc => rfl) (by decide +kernel)
noncomputable def qA : Str:=("apart_from" : Str) ++ ".<locals>." ++ "<lambda>"
noncomputable def Rap (g c d a b : Addr) (ps qs : List Addr) (hs gs : List Rm) : Hp -> Prop:=fun H => (Lam H g qA (lamArgs lamA) (lamBody lamA) (lamScope lamA) (capC (capP c d a b)) /\ Caps H (capP c d a b)) /\ HouseAt H a ps hs /\ HouseAt H b qs gs
noncomputable def unlike (hs gs : List Rm) (p : Nat × Nat) : Bool:=!decide (litAt hs p.1 = litAt gs p.2)
theorem ok_lamA {fl g c d a b : Addr} {fdl : FuncData} {ps qs : List Addr} {hs gs : List Rm} (wf : Wf hs) (wg : Wf gs) {s0 : Nat × Nat} (z1 : s0.1 < hs.length) (z2 : s0.2 < gs.length) (ncd : c ≠ d) (Li : Df K mg "is_lit" 10 ["house","room"] fl fdl) :
  FvOk P w K mg base 3 g (Rap g c d a b ps qs hs gs) (spWant cPairs (grPairs hs gs wf wg s0 z1 z2) (unlike hs gs)):=by
 have G_lit : FnOk P w K mg base CX0 2 fl fdl ["house","room"] spLit:=(ok_lit Li.fn).mono (by decide)
 have L : FvOk P w K mg base 3 g (fun H => Lam H g qA (lamArgs lamA) (lamBody lamA) (lamScope lamA) (capC (capP c d a b)) /\ Caps H (capP c d a b)) (fun vs H Q E => (HouseAt H a ps hs /\ HouseAt H b qs gs) /\ spWant cPairs (grPairs hs gs wf wg s0 z1 z2) (unlike hs gs) vs H Q E):=by
  refine clo_lam (k:=2) sc_lamA ow_lamA (by simp [capA,capP,Ne.symm ncd]) (fun pm ctv c' => us1 fun _ => rfl) (fun vs H Q E h => ?_) fun c' A outer s H vs Q E hr hC h => ?_
  ·obtain ⟨_,i,v,rfl,_⟩:=h
   rfl
  ·obtain ⟨⟨ha,hb⟩,p,v,rfl,hp,hv,q⟩:=h
   obtain ⟨t,rfl,ht⟩:=hv
   have ht : H t = some (.tup [.int (p.1 : Int),.int (p.2 : Int)]):=ht
   have hp1 : p.1 < hs.length:=hp.1
   have hp2 : p.2 < gs.length:=hp.2
   have e1 : hs[p.1]? = some hs[p.1]:=by simp [hp1]
   have e2 : gs[p.2]? = some gs[p.2]:=by simp [hp2]
   have l1 : litAt hs p.1 = hs[p.1].lit:=by rw [litAt,e1]
   have l2 : litAt gs p.2 = gs[p.2].lit:=by rw [litAt,e2]
   generalize hs[p.1] = r1 at e1 l1
   generalize gs[p.2] = r2 at e2 l2
   refine ⟨_,(show PE _ (lamBody lamA) _ from pe_cmpR op_ne (pe_call G_lit hr rfl Li.m Li.fn.kp Li.b .nil pass0 (pa_cons (pv 2) (pa_cons (pe_ix ix_tup (pv 0) pe_int (fun _ _ => rfl)) pa_nil))) (pe_call G_lit hr rfl Li.m Li.fn.kp Li.b .nil pass0 (pa_cons (pv 1) (pa_cons (pe_ix ix_tup (pv 0) pe_int (fun _ _ => rfl)) pa_nil))) (nomark _)),?_⟩
   refine ⟨_,rfl,_,rfl,t,_,_,_,rfl,rfl,SqT.of ht,rfl,a,ps,hs,p.1,r1,rfl,ha,e1,?_⟩
   refine ⟨_,rfl,_,rfl,t,_,_,_,rfl,rfl,SqT.of ht,rfl,b,qs,gs,p.2,r2,rfl,hb,e2,rfl,?_⟩
   have:=q H (.refl _)
   have e : (!decide (V.bl r1.lit = V.bl r2.lit)) = unlike hs gs p:=by
    unfold unlike
    rw [l1,l2]
    cases r1.lit <;> cases r2.lit <;> rfl
   rw [e]
   exact this
 exact ⟨fun H h hR ok => L.1 H h hR.1 ok,fun A outer s H us vs Q E hr e0 hR r hsp => L.2 A outer s H us vs Q E hr e0 hR.1 r ⟨hR.2,hsp⟩⟩
noncomputable def spApart (tabs : Tbs) : Sp:=fun vs H Q _ => Ex8 fun (a b : Addr) (ps qs : List Addr) (hs gs : List Rm) (p : Nat × Nat) (v : V) => An12 (vs = [.ref a,.ref b,v]) (HouseAt H a ps hs) (HouseAt H b qs gs) (Wf hs) (Wf gs) (hs.length * gs.length <= 10000) (p.1 < hs.length) (p.2 < gs.length) (cPairs.isP H p v) (TB tabs H) ((∀ H',SamT H H' -> TB tabs H' -> (∀ wk,litAt hs (led hs p.1 wk) = litAt gs (led gs p.2 wk)) -> Q .non H')) (∀ (wk : List Bool) H',SamT H H' -> TB tabs H' -> litAt hs (led hs p.1 wk) ≠ litAt gs (led gs p.2 wk) -> Q (.str (txt wk)) H')
theorem sc_apart_from : FnScope ["one","other","start"] ["one","other","start"] (defScope (top 24)):=⟨rfl,rfl,rfl,by decide +kernel,rfl,by decide +kernel,by decide +kernel⟩
theorem ok_apart {fe fl fx fi fp ff ft c Pt ci Pi : Addr} {fde fdl fdx fdi fdp fdf fdt : FuncData} {tabs : Tbs} (F : Fun K "apart_from" "apart_from" (top 24) f fd) (T : Blt mg) (TR : mg "reversed" = none) (hB : BMain mg base) (nd : (tabs.map (·.1)).Nodup) (M : Mkr base fd tabs c Pt (lamQs "apart_from"))
  (Ex : Df K mg "exits_of" 9 ["house","room"] fe fde) (Li : Df K mg "is_lit" 10 ["house","room"] fl fdl) (Xp : Df K mg "explore" 1 ["start","exits","wanted"] fx fdx) (Fw : Df K mg "first_walk" 3 ["start","exits","wanted"] ff fdf) (Ep : Df K mg "exits_of_pair" 21 ["one","other","pair"] fp fdp) (Ei : Df K mg "exits_in_pairs" 22 ["one","other"] fi fdi) (Mi : Mkr base fdi tabs ci Pi (lamQs "exits_in_pairs")) (Wt : Df K mg "walk_to" 2 ["steps","place"] ft fdt) :
  FnOk P w K mg base CX0 6 f fd ["one","other","start"] (spApart tabs):=by
 have G_exip : FnOk P w K mg base CX0 5 fi fdi ["one","other"] (spExIP tabs):=(ok_exip Ei.fn Mi hB nd).mono (by decide)
 refine okC F M.code sc_apart_from (fun vs H Q E h => ?_) (fun A outer s H vs Q E hr h => ?_)
 ·obtain ⟨a,b,ps,qs,hs,gs,p,v,rfl,_⟩:=h
  rfl
 ·obtain ⟨a,b,ps,qs,hs,gs,p,v,rfl,ha,hb,wf,wg,few,hp1,hp2,hv,hTb,k1,k2⟩:=h
  have G_first : FnOk P w K mg base CX0 5 ff fdf ["start","exits","wanted"] (spFirst P w K mg base 3 cPairs (grPairs hs gs wf wg p hp1 hp2) (unlike hs gs)):=ok_first Fw.fn T TR Xp Wt
  refine ⟨_,(pss_one (ps_ret (pe_callCs (sl:=[(0,s.heap.objs.size + 1),(1,s.heap.objs.size + 1 + 1)]) (E:=fun _ _ _ => False) G_first hr rfl Fw.m Fw.fn.kp Fw.b ?sl (pa_cons (pv 2) (pa_cons (pe_call G_exip hr rfl Ei.m Ei.fn.kp Ei.b .nil pass0 (pa_cons (pv 0) (pa_cons (pv 1) pa_nil))) (pa_cons (pe_lamT (c:=c) (P:=Pt) (qs:=lamQs "apart_from") (clos:=[("other",s.heap.objs.size + 1 + 1),("one",s.heap.objs.size + 1)]) M.hd rfl hB (by kernel_rfl) rfl) pa_nil)))))),?_⟩
  case sl =>
   intro p hp
   rcases List.mem_cons.mp hp with hp | hp
   ·rw [hp]
    exact ⟨"one",rfl,Or.inr (Or.inl rfl),Or.inl rfl,rfl,rfl⟩
   ·rw [List.mem_singleton.mp hp]
    exact ⟨"other",rfl,Or.inr (Or.inl rfl),Or.inl rfl,rfl,rfl⟩
  refine ⟨_,rfl,_,rfl,_,rfl,a,b,rfl,hTb,fun g cc dd H1 ncd s1 hT1 hL1 hc1 => ?_⟩
  refine ⟨hT1 _ M.mem,fun g2 H2 hg2 s2 hT2 hL2 => ?_⟩
  intro Fz hF hFv
  have s2' : SamT H1 H2:=s2.toSam (let ⟨ps,e,_⟩:=hT1 _ M.mem; ⟨ps,e⟩)
  have hTB2:=hT1.grown nd M.mem s2 hT2
  have s12:=s1.trans s2'
  have nab : s.heap.objs.size + 1 ≠ s.heap.objs.size + 1 + 1:=Nat.ne_of_lt (Nat.lt_succ_self _)
  have hcap : Caps (put H2 Fz [s.heap.objs.size + 1,s.heap.objs.size + 1 + 1]) (capP (s.heap.objs.size + 1) (s.heap.objs.size + 1 + 1) a b):=fun q hq => by
   rcases List.mem_cons.mp hq with hq | hq
   ·rw [hq]
    obtain ⟨o,u,e1,e2⟩:=hFv (1,s.heap.objs.size + 1 + 1) (by simp) (.ref b) rfl
    exact ⟨o,u,by rw [put_in (by simp)]; exact e1,e2⟩
   ·rw [List.mem_singleton.mp hq]
    obtain ⟨o,u,e1,e2⟩:=hFv (0,s.heap.objs.size + 1) (by simp) (.ref a) rfl
    exact ⟨o,u,by rw [put_in (by simp)]; exact e1,e2⟩
  have hn2 : ∀ c ∈ [s.heap.objs.size + 1,s.heap.objs.size + 1 + 1],H2 c = none /\ ∃ o,Fz c = some (frzC c o):=hF
  have hout : ∀ H',Same (put H2 Fz [s.heap.objs.size + 1,s.heap.objs.size + 1 + 1]) H' -> SamT H (put H' noH [s.heap.objs.size + 1,s.heap.objs.size + 1 + 1]) /\ TB tabs (put H' noH [s.heap.objs.size + 1,s.heap.objs.size + 1 + 1]):=fun H' s4 =>
   ⟨out_sam (fun c hc => (hn2 c hc).1) s12 s4.toSam,out_tb (fun c hc => let ⟨o,e⟩:=(hn2 c hc).2; ⟨o,s4 _ _ (by rw [put_in hc]; exact e)⟩) ((hTB2.same (put_same fun c hc => (hn2 c hc).1)).same s4)⟩
  have s3 : Same H2 (put H2 Fz [s.heap.objs.size + 1,s.heap.objs.size + 1 + 1]):=put_same fun c hc => (hn2 c hc).1
  have ha3:=ha.sam (s12.trans s3.toSam)
  have hb3:=hb.sam (s12.trans s3.toSam)
  have hv3 : cPairs.isP (put H2 Fz [s.heap.objs.size + 1,s.heap.objs.size + 1 + 1]) p v:=hv.same fun t xs z => (s12.trans s3.toSam) _ _ z fun _ y => by cases y
  refine ⟨v,g,g2,Rpr g cc dd a b ps qs hs gs,Rap g2 (s.heap.objs.size + 1) (s.heap.objs.size + 1 + 1) a b ps qs hs gs,rfl,⟨hv3,ok_lamP wf wg hp1 hp2 ncd Ex Ep,ok_lamA wf wg hp1 hp2 nab Li,⟨⟨(hL1.sam s2').sam s3.toSam,(hc1.sam s2').same s3⟩,ha3,hb3⟩,⟨⟨hL2.sam s3.toSam,hcap⟩,ha3,hb3⟩,Rpr.same,fun _ _ h s => ⟨⟨h.1.1.sam s.toSam,h.1.2.same s⟩,h.2.1.same s,h.2.2.same s⟩,cPairs_inj _,few⟩,?_,?_⟩
  ·intro H' s4 hno
   obtain ⟨o1,o2⟩:=hout H' s4
   refine k1 _ o1 o2 fun wk => ?_
   have:=hno _ ⟨wk,rfl⟩
   rw [grPairs_led] at this
   unfold unlike at this
   simp at this
   exact this
  ·intro wk H' hw s4
   obtain ⟨o1,o2⟩:=hout H' s4
   refine k2 wk _ o1 o2 ?_
   rw [grPairs_led] at hw
   unfold unlike at hw
   simp at hw
   exact hw
noncomputable def goodR (hs : List Rm) (i : Int) : Prop:=0 <= i /\ i < hs.length
noncomputable def spCheck : Sp:=fun vs H Q _ => Ex4 fun (a : Addr) (ps : List Addr) (hs : List Rm) (i : Int) => An4 (vs = [.ref a,.int i]) (HouseAt H a ps hs) (goodR hs i) (Q .non H)
theorem sc_check_room : FnScope ["house","room"] ["house","room"] (defScope (top 11)):=⟨rfl,rfl,rfl,by decide +kernel,rfl,by decide +kernel,by decide +kernel⟩
theorem ok_check (F : Fun K "check_room" "check_room" (top 11) f fd) (T : Blt mg) : FnOk P w K mg base CX0 1 f fd ["house","room"] spCheck:=by
 refine F.ok sc_check_room (fun vs H Q E h => ?_) (fun cdv A outer s H vs Q E hr h => ?_)
 ·obtain ⟨a,ps,hs,i,rfl,_⟩:=h
  rfl
 ·obtain ⟨a,ps,hs,i,rfl,hh,⟨h0,h1⟩,k1⟩:=h
  refine ⟨_,(pss_one (ps_if (pt_not (pt_chain op_le op_lt pe_int (pv 1) (pe_callB call_len_seq (by rfl) T.len PySem.boot_len (pa_cons (pv 0) pa_nil)))) pss_never pss_nil)),?_⟩
  refine ⟨_,rfl,_,_,rfl,rfl,_,rfl,ifT (decide_eq_true h0) ?_⟩
  refine ⟨_,rfl,a,_,rfl,.inl (SqL.of hh.ob),_,_,rfl,rfl,_,rfl,?_⟩
  refine ifF (by rw [List.length_map,hh.rm.1,decide_eq_true h1]; rfl) ?_
  exact k1
noncomputable def spTold (tabs : Tbs) : Sp:=fun vs H Q _ => Ex5 fun (a : Addr) (ps : List Addr) (hs : List Rm) (i j : Int) => An7 (vs = [.ref a,.int i,.int j]) (HouseAt H a ps hs) (Wf hs) (hs.length * hs.length <= 10000) (TB tabs H) ((goodR hs i /\ goodR hs j)) (((∀ H',SamT H H' -> TB tabs H' -> (∀ wk,litAt hs (led hs i.toNat wk) = litAt hs (led hs j.toNat wk)) -> Q .non H') /\ ∀ (wk : List Bool) H',SamT H H' -> TB tabs H' -> litAt hs (led hs i.toNat wk) ≠ litAt hs (led hs j.toNat wk) -> Q (.str (txt wk)) H'))
theorem sc_told_apart : FnScope ["house","one","other"] ["house","one","other"] (defScope (top 25)):=⟨rfl,rfl,rfl,by decide +kernel,rfl,by decide +kernel,by decide +kernel⟩
theorem ok_told {fc fA fe fl fx fi fp ff ft c Pt ci Pi : Addr} {fdc fdA fde fdl fdx fdi fdp fdf fdt : FuncData} {tabs : Tbs} (F : Fun K "told_apart" "told_apart" (top 25) f fd) (T : Blt mg) (TR : mg "reversed" = none) (hB : BMain mg base) (nd : (tabs.map (·.1)).Nodup)
  (Ck : Df K mg "check_room" 11 ["house","room"] fc fdc) (Af : Df K mg "apart_from" 24 ["one","other","start"] fA fdA) (M : Mkr base fdA tabs c Pt (lamQs "apart_from"))
  (Ex : Df K mg "exits_of" 9 ["house","room"] fe fde) (Li : Df K mg "is_lit" 10 ["house","room"] fl fdl) (Xp : Df K mg "explore" 1 ["start","exits","wanted"] fx fdx) (Fw : Df K mg "first_walk" 3 ["start","exits","wanted"] ff fdf) (Ep : Df K mg "exits_of_pair" 21 ["one","other","pair"] fp fdp) (Ei : Df K mg "exits_in_pairs" 22 ["one","other"] fi fdi) (Mi : Mkr base fdi tabs ci Pi (lamQs "exits_in_pairs")) (Wt : Df K mg "walk_to" 2 ["steps","place"] ft fdt) :
  FnOk P w K mg base CX0 7 f fd ["house","one","other"] (spTold tabs):=by
 have G_check : FnOk P w K mg base CX0 6 fc fdc ["house","room"] spCheck:=(ok_check Ck.fn T).mono (by decide)
 have G_apart : FnOk P w K mg base CX0 6 fA fdA ["one","other","start"] (spApart tabs):=ok_apart Af.fn T TR hB nd M Ex Li Xp Fw Ep Ei Mi Wt
 refine F.ok sc_told_apart (fun vs H Q E h => ?_) (fun cdv A outer s H vs Q E hr h => ?_)
 ·obtain ⟨a,ps,hs,i,j,rfl,_⟩:=h
  rfl
 ·obtain ⟨a,ps,hs,i,j,rfl,hh,wf,few,hT,⟨g1,g2⟩,kN,kS⟩:=h
  refine ⟨_,(pss_cons (ps_expr (pe_call G_check hr rfl Ck.m Ck.fn.kp Ck.b .nil pass0 (pa_cons (pv 0) (pa_cons (pv 1) pa_nil))))
   (pss_cons (ps_expr (pe_call G_check hr rfl Ck.m Ck.fn.kp Ck.b .nil pass0 (pa_cons (pv 0) (pa_cons (pv 2) pa_nil))))
   (pss_one (ps_ret (pe_call G_apart hr rfl Af.m Af.fn.kp Af.b .nil pass0 (pa_cons (pv 0) (pa_cons (pv 0) (pa_cons (pe_tup (pa_cons (pv 1) (pa_cons (pv 2) pa_nil))) pa_nil)))))))),?_⟩
  refine ⟨_,rfl,_,rfl,a,ps,hs,i,rfl,hh,g1,?_⟩
  refine ⟨_,rfl,_,rfl,a,ps,hs,j,rfl,hh,g2,?_⟩
  refine ⟨_,rfl,_,rfl,_,rfl,_,rfl,(by show 2 <= sizeLine; decide),fun t ht => ?_⟩
  have s1 : Same H (upd H t (.tup [.int i,.int j])):=same_upd ht
  have h1:=g1
  have h2:=g2
  have e1 : ((i.toNat : Nat) : Int) = i:=Int.toNat_of_nonneg h1.1
  have e2 : ((j.toNat : Nat) : Int) = j:=Int.toNat_of_nonneg h2.1
  refine ⟨a,a,ps,ps,hs,hs,(i.toNat,j.toNat),.ref t,rfl,hh.same s1,hh.same s1,wf,wf,few,by have:=h1.2; show i.toNat < _; omega,by have:=h2.2; show j.toNat < _; omega,⟨t,rfl,?_⟩,hT.same s1,fun H' s2 t2 hsame => kN H' (s1.toSam.trans s2) t2 hsame,fun wk H' s2 t2 hd => kS wk H' (s1.toSam.trans s2) t2 hd⟩
  show _ = some (HO.tup [.int ((i.toNat : Nat) : Int),.int ((j.toNat : Nat) : Int)])
  rw [e1,e2]
  exact upd_same
end
end Law
set_option maxHeartbeats 8000000
namespace Law
open PySem L2 Hs PyProof.Rows
section
variable {P : Program} {w : World} {K : PySem.W.Frag} {mg : Str -> Option Value} {base : Heap} {f : Addr} {fd : FuncData}
noncomputable def nV (L : List Nat) : List V:=L.map fun r : Nat => V.int (r : Int)
theorem nV_len (L : List Nat) : (nV L).length = L.length:=by simp [nV]
theorem nV_get {L : List Nat} {i : Nat} {v : V} (h : (nV L)[i]? = some v) : ∃ r,L[i]? = some r /\ v = .int (r : Int):=by
 unfold nV at h
 rw [List.getElem?_map] at h
 cases e : L[i]? with
 | none => rw [e] at h; cases h
 | some r => rw [e] at h; cases h; exact ⟨r,rfl,rfl⟩
theorem tr_len (R : List Nat) : (tr R).length = R.length:=by simp [tr]
theorem keys_tr (R : List Nat) : (tr R).map (·.1) = R.map fun r : Nat => (Sum.inl (r : Int) : Key):=by
 unfold tr
 rw [List.map_map]
 rfl
theorem mem_tr {R : List Nat} {r : Nat} : (Sum.inl (r : Int) : Key) ∈ (tr R).map (·.1) ↔ r ∈ R:=by
 rw [keys_tr,List.mem_map]
 constructor
 ·rintro ⟨s,hs,e⟩
  injection e with e
  have : s = r:=by omega
  exact this ▸ hs
 ·intro h
  exact ⟨r,h,rfl⟩
theorem val_tr {R : List Nat} {r : Nat} (h : r ∈ R) : valV (tr R) (Sum.inl (r : Int)) = some (.bl true):=by
 induction R with
 | nil => simp at h
 | cons s R ih =>
  show valV ((Sum.inl (s : Int),V.bl true) :: tr R) _ = _
  by_cases e : s = r
  ·subst e
   exact valV_pos rfl
  ·rw [valV_neg (by intro z; injection z with z; omega)]
   exact ih ((List.mem_cons.mp h).resolve_left fun z => e z.symm)
theorem put_tr (R : List Nat) (r : Nat) : putK (tr R) (Sum.inl (r : Int)) (.bl true) = tr (ins R r):=by
 unfold ins
 by_cases h : r ∈ R
 ·rw [if_pos h]
  unfold putK
  rw [if_pos (by rw [valV_any,val_tr h]; rfl)]
  unfold tr
  rw [List.map_map]
  refine List.map_congr_left fun s _ => ?_
  show (if (Sum.inl (s : Int) : Key) = Sum.inl (r : Int) then ((Sum.inl (s : Int) : Key),V.bl true) else (Sum.inl (s : Int),V.bl true)) = _
  split <;> rfl
 ·rw [if_neg h,putK_new fun z => h (mem_tr.mp z)]
  unfold tr
  rw [List.map_append]
  rfl
theorem drop_tr (R : List Nat) (r : Nat) : dropK (tr R) (Sum.inl (r : Int)) = tr (R.filter fun x => decide (x ≠ r)):=by
 unfold dropK tr
 rw [List.filter_map]
 congr 1
 refine List.filter_congr fun x _ => ?_
 show decide ((Sum.inl (x : Int) : Key) ≠ Sum.inl (r : Int)) = decide (x ≠ r)
 by_cases e : x = r
 ·subst e; simp
 ·rw [decide_eq_true e,decide_eq_true]
  intro z
  injection z with z
  omega
theorem comp_pv {J : It} {g : TG} {te : TE} {D : Addr} {σ0 : L2.St} {H2 : Hp} {Q : Hp -> Prop} {xs : List V} (Sg : L2.St -> Prop) (Pv : Nat -> List V -> Hp -> Prop) (hJ : ItOk J xs H2) (hsz : xs.length <= 1000) (hD : H2 D = none) (h0 : Sg σ0) (hP0 : Pv 0 [] (upd H2 D (.lst [])))
  (hs : ∀ (i : Nat) x σ ys H5 (Qk : V -> L2.St -> Hp -> Prop),xs[i]? = some x -> Sg σ -> Same H2 H5 -> H5 D = some (.lst ys) -> ys.length = i -> Pv i ys H5 -> (∀ v σ2 H8,Sg σ2 -> Same H2 H8 -> H8 D = some (.lst ys) -> Pv (i + 1) (ys ++ [v]) (upd H8 D (.lst (ys ++ [v]))) -> Qk v σ2 H8) -> g x σ H5 fun σ2 H6 => te σ2 H6 fun v H8 => Qk v σ2 H8)
  (hgm : ∀ x σ H5 (A B : L2.St -> Hp -> Prop),(∀ σ2 H6,A σ2 H6 -> B σ2 H6) -> g x σ H5 A -> g x σ H5 B)
  (hq : ∀ ys H5,ys.length = xs.length -> Same H2 H5 -> H5 D = some (.lst ys) -> Pv xs.length ys H5 -> Q H5) : CompW J g (fun _ H Q => Q true H) te D σ0 (upd H2 D (.lst [])) Q:=by
 refine ⟨fun i m σ H => m = xs.length - i /\ i <= xs.length /\ Sg σ /\ Same H2 H /\ ∃ ys : List V,H D = some (.lst ys) /\ ys.length = i /\ Pv i ys H,⟨xs.length,by simp,Nat.zero_le _,h0,same_upd hD,[],upd_same,rfl,hP0⟩,?_⟩
 rintro i m σ H ⟨rfl,hi,hg,hS,ys,hDe,hyl,hR⟩
 obtain ⟨go,yl,st⟩:=hJ H hS
 by_cases hlt : i < xs.length
 ·refine .inr ⟨go i hlt,fun σ' H' => i + 1 <= xs.length /\ Sg σ' /\ Same H2 H' /\ ∃ ys : List V,H' D = some (.lst ys) /\ ys.length = i + 1 /\ Pv (i + 1) ys H',fun σ' H' p' => ⟨xs.length - (i + 1),by omega,rfl,p'⟩,fun x H' y => ?_⟩
  obtain ⟨e,hx⟩:=yl i x H' y hlt
  subst e
  refine hgm _ _ _ _ _ (fun σ2 H6 h => ?_) (hs i x σ ys _ (fun v σ2 H4 => ∃ xs',H4 D = some (.lst xs') /\ xs'.length < sizeLine /\ (i + 1 <= xs.length /\ Sg σ2 /\ Same H2 (upd H4 D (.lst (xs' ++ [v]))) /\ ∃ ys : List V,upd H4 D (.lst (xs' ++ [v])) D = some (.lst ys) /\ ys.length = i + 1 /\ Pv (i + 1) ys (upd H4 D (.lst (xs' ++ [v]))))) hx hg hS hDe hyl hR fun v σ2 H8 h2 h8 hD8 hv => ?_)
  ·show if true = true then _ else _
   rw [if_pos rfl]
   exact h
  ·exact ⟨ys,hD8,small1000 (by omega),hlt,h2,h8.put hD,ys ++ [v],upd_same,by simp [hyl],hv⟩
 ·have e : i = xs.length:=by omega
  subst e
  exact .inl ⟨st,hq ys H hyl hS hDe hR⟩
theorem it_dict {a : Addr} {o : Obj} {kvs : List (Key × V)} {H2 : Hp} (h : H2 a = some (.frz o (.dK kvs))) : ItOk (Itd a o kvs) (kvs.map fun p => kV p.1) H2:=fun H5 s => by
 have q:=s _ _ h
 refine ⟨fun i hi => ⟨q,by simpa using hi⟩,fun i x H6 y _ => ⟨y.1,?_⟩,⟨q,by simp⟩⟩
 obtain ⟨k,v,e,rfl⟩:=y.2
 rw [List.getElem?_map,e]
 rfl
theorem keys_nV (R : List Nat) : (tr R).map (fun p => kV p.1) = nV R:=by
 unfold tr nV
 rw [List.map_map]
 rfl
theorem refs_of {ys : List V} (h : ∀ (i : Nat) v,ys[i]? = some v -> ∃ t,v = .ref t) : ∃ ts : List Addr,ys = ts.map V.ref:=by
 induction ys with
 | nil => exact ⟨[],rfl⟩
 | cons v ys ih =>
  obtain ⟨t,e⟩:=h 0 v rfl
  obtain ⟨ts,e2⟩:=ih fun i v e => h (i + 1) v (by simpa using e)
  exact ⟨t :: ts,by rw [e,e2]; rfl⟩
structure Lp (hs : List Rm) (i j : Nat) (lead : List (List Nat)) : Prop where
 len : lead.length = hs.length
 mem : ∀ (x : Nat) L,lead[x]? = some L -> ∀ r,r ∈ L ↔ (r < i /\ ∃ b,stp hs r b = x) ∨ (r = i /\ ∃ b : Bool,(if b then 1 else 0) < j /\ stp hs i b = x)
 few : ∀ (x : Nat) L,lead[x]? = some L -> L.length <= 2 * i + j
theorem Lp.start (hs : List Rm) : Lp hs 0 0 (List.replicate hs.length []):=by
 refine ⟨by simp,fun x L e r => ?_,fun x L e => ?_⟩
 ·rw [List.getElem?_replicate] at e
  split at e
  ·cases e
   simp
  ·cases e
 ·rw [List.getElem?_replicate] at e
  split at e
  ·cases e
   exact Nat.zero_le _
  ·cases e
theorem Lp.next {hs : List Rm} {i : Nat} {lead : List (List Nat)} (h : Lp hs i 2 lead) : Lp hs (i + 1) 0 lead:=by
 refine ⟨h.len,fun x L e r => ?_,fun x L e => ?_⟩
 ·rw [h.mem x L e r]
  constructor
  ·rintro (⟨h1,h2⟩ | ⟨h1,b,_,h2⟩)
   ·exact .inl ⟨by omega,h2⟩
   ·exact .inl ⟨by omega,b,by rw [h1]; exact h2⟩
  ·rintro (⟨h1,b,h2⟩ | ⟨_,b,h3,_⟩)
   ·by_cases e : r = i
    ·subst e; exact .inr ⟨rfl,b,by cases b <;> decide,h2⟩
    ·exact .inl ⟨by omega,b,h2⟩
   ·omega
 ·have:=h.few x L e
  omega
theorem Lp.put {hs : List Rm} {i j : Nat} {lead : List (List Nat)} (h : Lp hs i j lead) (b : Bool) (hj : j = if b then 1 else 0) {L : List Nat} (e : lead[stp hs i b]? = some L) : Lp hs i (j + 1) (lead.set (stp hs i b) (L ++ [i])):=by
 have lt:=(List.getElem?_eq_some_iff.mp e).1
 have key : ∀ x M,(lead.set (stp hs i b) (L ++ [i]))[x]? = some M -> (x = stp hs i b /\ M = L ++ [i]) ∨ (x ≠ stp hs i b /\ lead[x]? = some M):=fun x M q => by
  rw [List.getElem?_set] at q
  by_cases z : stp hs i b = x
  ·subst z
   rw [if_pos rfl,if_pos lt] at q
   cases q
   exact .inl ⟨rfl,rfl⟩
  ·rw [if_neg z] at q
   exact .inr ⟨Ne.symm z,q⟩
 refine ⟨by rw [List.length_set]; exact h.len,fun x M q r => ?_,fun x M q => ?_⟩
 ·rcases key x M q with ⟨rfl,rfl⟩ | ⟨ne,q⟩
  ·rw [List.mem_append,List.mem_singleton,h.mem _ L e r]
   constructor
   ·rintro ((z | ⟨z,b',h1,h2⟩) | z)
    ·exact .inl z
    ·exact .inr ⟨z,b',by omega,h2⟩
    ·exact .inr ⟨z,b,by omega,rfl⟩
   ·rintro (z | ⟨z,b',h1,h2⟩)
    ·exact .inl (.inl z)
    ·exact .inr z
  ·rw [h.mem x M q r]
   refine or_congr Iff.rfl (and_congr Iff.rfl ⟨fun ⟨b',h1,h2⟩ => ⟨b',by omega,h2⟩,fun ⟨b',h1,h2⟩ => ⟨b',?_,h2⟩⟩)
   have : b' ≠ b:=fun z => by subst z; exact ne h2.symm
   cases b <;> cases b' <;> simp at hj h1 this ⊢ <;> omega
 ·rcases key x M q with ⟨_,rfl⟩ | ⟨_,q⟩
  ·have:=h.few _ L e
   rw [List.length_append]
   simp
   omega
  ·have:=h.few x M q
   omega
theorem Lp.end {hs : List Rm} {lead : List (List Nat)} (h : Lp hs hs.length 0 lead) {x : Nat} {L : List Nat} (e : lead[x]? = some L) (r : Nat) : r ∈ L ↔ r < hs.length /\ ∃ b,stp hs r b = x:=by
 rw [h.mem x L e r]
 refine ⟨fun z => z.elim id fun y => ?_,.inl⟩
 obtain ⟨_,b,h1,_⟩:=y
 omega +splitDisjunctions
noncomputable def LsAt (H : Hp) (ls : List Addr) (lead : List (List Nat)) : Prop:=ls.length = lead.length /\ ∀ (i : Nat) p L,ls[i]? = some p -> lead[i]? = some L -> H p = some (.lst (nV L))
theorem nd_room1 : (["room"] : List Str).Nodup:=by decide +kernel
end
end Law
set_option maxHeartbeats 8000000
namespace Law
open PySem L2 Hs PyProof.Rows
section
variable {P : Program} {w : World} {K : PySem.W.Frag} {mg : Str -> Option Value} {base : Heap} {f : Addr} {fd : FuncData}
set_option genInjectivity false in
structure Mrk (μ : Type) where
 k : K3
 key : μ -> k.κ
 inj : ∀ a b,key a = key b -> a = b
noncomputable def mkN : Mrk Nat:=⟨.s,fun g => Sum.inl (g : Int),fun a b e => by
 have e : (Sum.inl (a : Int) : Key) = Sum.inl (b : Int):=e
 injection e with e
 omega⟩
noncomputable def mkB : Mrk Bool:=⟨.b,id,fun a b e => e⟩
noncomputable def mkP : Mrk (Nat × Nat):=⟨.t,fun p => [Sum.inl (p.1 : Int),Sum.inl (p.2 : Int)],fun a b e => by
 have e : ([Sum.inl (a.1 : Int),Sum.inl (a.2 : Int)] : List Key) = [Sum.inl (b.1 : Int),Sum.inl (b.2 : Int)]:=e
 injection e with e1 e2
 injection e1 with e1
 injection e2 with e2 _
 injection e2 with e2
 exact Prod.ext (by omega) (by omega)⟩
section
variable {μ : Type} [DecidableEq μ] {C : Mrk μ} {H H' : Hp} {gs : List (Gp μ Addr)} {l : List (μ × Nat)} {ts : List Addr}
noncomputable def kvG (C : Mrk μ) (gs : List (Gp μ Addr)) : List (C.k.κ × V):=gs.map fun x => (C.key x.m,V.ref x.q)
omit [DecidableEq μ] in
theorem kvG_keys (C : Mrk μ) (gs : List (Gp μ Addr)) : (kvG C gs).map (·.1) = (gs.map (·.m)).map C.key:=by
 unfold kvG
 rw [List.map_map,List.map_map]
 rfl
omit [DecidableEq μ] in
theorem kvG_mem {m : μ} : C.key m ∈ (kvG C gs).map (·.1) ↔ m ∈ gs.map (·.m):=by
 rw [kvG_keys,List.mem_map]
 constructor
 ·rintro ⟨x,hx,e⟩
  exact C.inj _ _ e ▸ hx
 ·intro h
  exact ⟨m,h,rfl⟩
omit [DecidableEq μ] in
theorem kvG_val (nd : (gs.map (·.m)).Nodup) {x : Gp μ Addr} (hx : x ∈ gs) : valV (kvG C gs) (C.key x.m) = some (.ref x.q):=by
 induction gs with
 | nil => simp at hx
 | cons y gs ih =>
  have nd : (y.m :: gs.map (·.m)).Nodup:=nd
  obtain ⟨n1,n2⟩:=List.nodup_cons.mp nd
  show valV ((C.key y.m,V.ref y.q) :: kvG C gs) _ = _
  rcases List.mem_cons.mp hx with e | hx
  ·subst e
   exact valV_pos rfl
  ·rw [valV_neg fun z => n1 (List.mem_map.mpr ⟨x,hx,(C.inj _ _ z).symm⟩)]
   exact ih n2 hx
omit [DecidableEq μ] in
theorem kvG_put {m : μ} {q : Addr} (h : m ∉ gs.map (·.m)) : putK (kvG C gs) (C.key m) (.ref q) = kvG C (gs ++ [⟨m,[],q⟩]):=by
 rw [putK_new fun z => h (kvG_mem.mp z)]
 unfold kvG
 rw [List.map_append]
 rfl
theorem kvG_up (m : μ) (r : Nat) : kvG C (upR gs m r) = kvG C gs:=by
 unfold kvG upR
 rw [List.map_map]
 refine List.map_congr_left fun x _ => ?_
 show (C.key (if x.m = m then (⟨x.m,ins x.R r,x.q⟩ : Gp μ Addr) else x).m,V.ref (if x.m = m then (⟨x.m,ins x.R r,x.q⟩ : Gp μ Addr) else x).q) = _
 split <;> rfl
noncomputable def MkAt (C : Mrk μ) (H : Hp) (ts : List Addr) (l : List (μ × Nat)) : Prop:=ts.length = l.length /\ ∀ (i : Nat) t p,ts[i]? = some t -> l[i]? = some p -> ∃ v,H t = some (.tup [v,.int (p.2 : Int)]) /\ C.k.isV H (C.key p.1) v
omit [DecidableEq μ] in
theorem MkAt.tups (h : MkAt C H ts l) (s : ∀ t xs,H t = some (.tup xs) -> H' t = some (.tup xs)) : MkAt C H' ts l:=⟨h.1,fun i t p e1 e2 => let ⟨v,h1,h2⟩:=h.2 i t p e1 e2; ⟨v,s _ _ h1,K3.same h2 s⟩⟩
structure GthAt (H H' : Hp) (d : Addr) (gs : List (Gp μ Addr)) : Prop where
 nd : (gs.map (·.q)).Nodup
 new : ∀ x ∈ gs,H x.q = none /\ x.q ≠ d /\ H' x.q = some (.dK (tr x.R))
end
noncomputable def spGath (P : Program) (w : World) {μ : Type} [DecidableEq μ] (C : Mrk μ) : Sp:=fun vs H Q _ => Ex3 fun (p : Addr) (ts : List Addr) (l : List (μ × Nat)) => An5 (vs = [.ref p]) (H p = some (.lst (ts.map V.ref))) (MkAt C H ts l) (l.length <= 400) (∀ (d : Addr) (gs : List (Gp μ Addr)) (H' : Hp),Same H H' -> H d = none -> H' d = some (C.k.mk P w d (kvG C gs)) -> GthAt H H' d gs -> Gath l gs -> (∀ x ∈ gs,x.R ≠ []) -> gs.length <= l.length -> Q (.ref d) H')
theorem sc_gath : FnScope ["marked","rooms","mark","room"] ["marked"] (defScope (top 13)):=⟨rfl,rfl,rfl,by decide +kernel,rfl,by decide +kernel,by decide +kernel⟩
theorem ok_gath {μ : Type} [DecidableEq μ] {C : Mrk μ} (F : Fun K "gathered" "gathered" (top 13) f fd) : FnOk P w K mg base CX0 1 f fd ["marked"] (spGath P w C):=by
 refine F.ok sc_gath (fun vs H Q E h => ?_) (fun cdv A outer s H vs Q E hr h => ?_)
 ·obtain ⟨p,ts,l,rfl,_⟩:=h
  rfl
 ·obtain ⟨p,ts,l,rfl,hp,hts,few,k⟩:=h
  have hu:=hu_of hr
  refine ⟨_,(pss_cons (ps_set (i:=1) sc_gath.nd rfl (Or.inl rfl) (pe_new3 C.k))
   (pss_cons (ps_for PassesOwn.never rfl (pi_list (pv 0)) (pg_tup rfl (pgs_cons (pg_name (i:=2) sc_gath.nd rfl (Or.inl rfl)) (pgs_cons (pg_name (i:=3) sc_gath.nd rfl (Or.inl rfl)) pgs_nil)))
    (pss_cons (ps_if (pt_cmp (pc_notin3 C.k hu (pv 2) (pv 1))) (pss_one (ps_put3 C.k hu (pv 1) (pv 2) pe_dnewK rfl)) pss_nil)
    (pss_one (ps_dput hu (pe_get3 C.k hu (pv 1) (pv 2) (fun _ _ => rfl)) (pv 3) pe_bl rfl))))
   (pss_one (ps_ret (pv 1))))),?_⟩
  refine fun d hd => ?_
  have s0 : Same H (upd H d (C.k.mk P w d [])):=same_upd hd
  refine ⟨_,rfl,p,rfl,⟨_,SqL.of (s0 _ _ hp)⟩,?_⟩
  refine for_list (xs:=ts.map V.ref) (fun i σ H2 => Ex3 fun (gs : List (Gp μ Addr)) (v2 v3 : Option V) => An7 (σ = [some (.ref p),some (.ref d),v2,v3]) (Same H H2) (H2 d = some (C.k.mk P w d (kvG C gs))) (GthAt H H2 d gs) (Gath (l.take i) gs) ((∀ x ∈ gs,x.R ≠ [])) (gs.length <= i))
   ⟨[],none,none,rfl,s0,upd_same,⟨by simp,by simp⟩,by rw [List.take_zero]; exact Gath.start,by simp,Nat.zero_le _⟩ (by rintro i σ H2 _ ⟨_,_,_,_,s2,_⟩; exact SqL.of (s2 _ _ hp)) ?_ ?_
  ·intro i y σ H2 hy hP0
   refine kqX fun K0 eK0 => ?_
   obtain ⟨gs,v2,v3,rfl,s2,hd2,hG,hGa,hne,hgl⟩:=hP0
   rw [List.getElem?_map] at hy
   cases ht : ts[i]? with
   | none => rw [ht] at hy; cases hy
   | some t =>
    rw [ht] at hy
    cases hy
    have hil : i < l.length:=by rw [<- hts.1]; exact (List.getElem?_eq_some_iff.mp ht).1
    have el : l[i]? = some l[i]:=by simp [hil]
    obtain ⟨v,htt,hv⟩:=hts.2 i t _ ht el
    have htk : l.take (i + 1) = l.take i ++ [l[i]]:=by rw [List.take_add_one,el]; rfl
    generalize l[i] = mr at el htt hv htk
    obtain ⟨m,r⟩:=mr
    have hv2 : C.k.isV H2 (C.key m) v:=K3.same hv fun t xs z => s2 _ _ z
    subst eK0
    refine ⟨t,_,rfl,SqT.of (s2 _ _ htt),rfl,_,_,rfl,_,_,rfl,rfl,?_⟩
    dsimp only
    refine seq_d fun Rt Dt et ed => ?_
    refine ⟨_,rfl,_,rfl,d,_,_,rfl,hd2,hv2,_,rfl,?_⟩
    have go : ∀ (gs : List (Gp μ Addr)) (H3 : Hp),Same H H3 -> H3 d = some (C.k.mk P w d (kvG C gs)) -> GthAt H H3 d gs -> Gath (l.take i) gs -> (∀ x ∈ gs,x.m = m ∨ x.R ≠ []) -> gs.length <= i + 1 -> m ∈ gs.map (·.m) -> C.k.isV H3 (C.key m) v ->
      Rt Dt [some (.ref p),some (.ref d),some v,some (.int (r : Int))] H3:=by
     intro gs H3 s3 hd3 hG3 hGa3 hne3 hgl3 hm3 hv3
     rw [et,ed]
     clear et ed Rt Dt
     obtain ⟨x,hx,hxm⟩:=List.mem_map.mp hm3
     obtain ⟨f1,f2,f3⟩:=hG3.new x hx
     have hval:=kvG_val (C:=C) hGa3.nd hx
     rw [hxm] at hval
     refine ⟨_,rfl,_,rfl,d,_,_,_,rfl,hd3,hv3,hval,_,rfl,x.q,_,rfl,DPut.k (k:=Sum.inl (r : Int)) f3 ?_,?_⟩
     ·rw [tr_len]
      refine small1000 ?_
      have h1:=nodup_sub_len (hGa3.nr x hx) (M:=(l.take i).map (·.2)) fun r' hr' => List.mem_map.mpr ⟨_,(hGa3.mem x hx r').mp hr',rfl⟩
      rw [List.length_map,List.length_take] at h1
      omega
     ·rw [put_tr]
      refine ⟨upR gs m r,_,_,rfl,s3.put f1,?_,⟨?_,fun y hy => ?_⟩,?_,fun y hy => ?_,by unfold upR; rw [List.length_map]; exact hgl3⟩
      ·rw [upd_ne f2.symm,kvG_up]; exact hd3
      ·rw [upR_qs]; exact hG3.nd
      ·obtain ⟨z,hz,e1,e2,e3⟩:=upR_get hy
       obtain ⟨g1,g2,g3⟩:=hG3.new z hz
       rw [e2]
       refine ⟨g1,g2,?_⟩
       by_cases hzq : z.q = x.q
       ·have hzx : z = x:=by
         obtain ⟨i1,hi1⟩:=List.getElem?_of_mem hz
         obtain ⟨i2,hi2⟩:=List.getElem?_of_mem hx
         have:=nodup_ixA hG3.nd (i:=i1) (j:=i2) (x:=x.q) (by rw [List.getElem?_map,hi1,<- hzq]; rfl) (by rw [List.getElem?_map,hi2]; rfl)
         subst this
         rw [hi1] at hi2
         exact Option.some.inj hi2
        subst hzx
        rw [upd_same,e3,if_pos hxm]
       ·rw [upd_ne hzq,e3]
        have : z.m ≠ m:=fun e => by
         obtain ⟨i1,hi1⟩:=List.getElem?_of_mem hz
         obtain ⟨i2,hi2⟩:=List.getElem?_of_mem hx
         have:=nodup_ixA hGa3.nd (i:=i1) (j:=i2) (x:=m) (by rw [List.getElem?_map,hi1,<- e]; rfl) (by rw [List.getElem?_map,hi2,<- hxm]; rfl)
         subst this
         rw [hi1] at hi2
         cases hi2
         exact hzq rfl
        rw [if_neg this]
        exact g3
      ·rw [htk]
       exact hGa3.put r hm3
      ·obtain ⟨z,hz,e1,e2,e3⟩:=upR_get hy
       rw [e3]
       by_cases hzm : z.m = m
       ·rw [if_pos hzm]
        exact List.ne_nil_of_mem (mem_ins.mpr (.inr rfl))
       ·rw [if_neg hzm]
        exact (hne3 z hz).resolve_left hzm
    by_cases hm : m ∈ gs.map (·.m)
    ·obtain ⟨x,hx,hxm⟩:=List.mem_map.mp hm
     have hval:=kvG_val (C:=C) hGa.nd hx
     rw [hxm] at hval
     refine ifF (by rw [hval]; rfl) ?_
     exact go gs H2 s2 hd2 hG hGa (fun x hx => .inr (hne x hx)) (by omega) hm hv2
    ·refine ifT (by rw [valV_no fun z => hm (kvG_mem.mp z)]; rfl) ?_
     refine fun q hq => ?_
     have s3 : Same H2 (upd H2 q (.dK [])):=same_upd hq
     have ndq : d ≠ q:=ne_of_none hd2 hq
     refine ⟨_,rfl,_,rfl,d,_,_,rfl,s3 _ _ hd2,K3.same hv2 (fun t xs z => s3 _ _ z),?_,?_⟩
     ·unfold kvG
      rw [List.length_map]
      exact small1000 (by omega)
     ·rw [kvG_put hm]
      refine go _ _ ((s2.trans s3).put hd) upd_same ⟨?_,fun x hx => ?_⟩ (hGa.new hm) (fun x hx => (List.mem_append.mp hx).elim (fun z => .inr (hne x z)) fun z => .inl (by rw [List.mem_singleton.mp z])) (by rw [List.length_append]; simp; omega) (by simp) (K3.same hv2 fun t xs z => unX (ne_of (s3 _ _ z) (s3 _ _ hd2) fun y => K3.nt _ y.symm) (s3 _ _ z))
      ·rw [List.map_append,List.nodup_append]
       refine ⟨hG.nd,by simp,fun x hx y hy => ?_⟩
       have hyq : y = q:=by simpa using hy
       rw [hyq]
       obtain ⟨z,hz,e⟩:=List.mem_map.mp hx
       have:=(hG.new z hz).2.2
       rw [e] at this
       exact ne_of_none this hq
      ·rcases List.mem_append.mp hx with hx | hx
       ·obtain ⟨g1,g2,g3⟩:=hG.new x hx
        exact ⟨g1,g2,unX g2 (s3 _ _ g3)⟩
       ·rw [List.mem_singleton.mp hx]
        exact ⟨s2.none hq,ndq.symm,unX ndq.symm upd_same⟩
  ·rintro σ H2 ⟨gs,v2,v3,rfl,s2,hd2,hG,hGa,hne,hgl⟩
   have e : l.take (ts.map V.ref).length = l:=by rw [List.length_map,hts.1,List.take_length]
   rw [e] at hGa
   exact ⟨_,rfl,k d gs H2 s2 hd hd2 hG hGa hne (by rw [List.length_map,hts.1] at hgl; exact hgl)⟩
end
end Law
set_option maxHeartbeats 8000000
namespace Law
open PySem L2 Hs PyProof.Rows
section
variable {P : Program} {w : World} {K : PySem.W.Frag} {mg : Str -> Option Value} {base : Heap} {f : Addr} {fd : FuncData}
noncomputable def clsBody : Stmt -> List Stmt
 | .ClassDef _ _ _ b .. => b
 | _ => []
noncomputable def sG (i : Nat) : Stmt:=(clsBody (top 14)).getD i (.Pass ⟨0,0,0,0⟩)
structure GrC (K : PySem.W.Frag) (mg : Str -> Option Value) (C fI fW fH fP fA : Addr) (dI dW dH dP dA : FuncData) : Prop where
 cl : Cls K C
 nH : NoAttr K C "house"
 nL : NoAttr K C "leading_to"
 nG : NoAttr K C "group_of"
 nM : NoAttr K C "members"
 nW : NoAttr K C "waiting"
 mkc : Mk K C fI
 m : mg "Groups" = some (.ref C)
 fnI : Fun K "__init__" "Groups.__init__" (sG 0) fI dI
 bI : Binds K dI ["self","house"] []
 mW : Meth K C "part_waiting" fW
 fnW : Fun K "part_waiting" "Groups.part_waiting" (sG 4) fW dW
 bW : Binds K dW ["self"] []
 mH : Meth K C "groups_ahead" fH
 fnH : Fun K "groups_ahead" "Groups.groups_ahead" (sG 2) fH dH
 bH : Binds K dH ["self","room"] []
 mP : Meth K C "part" fP
 fnP : Fun K "part" "Groups.part" (sG 5) fP dP
 bP : Binds K dP ["self","group","marked"] []
 mA : Meth K C "add_group" fA
 fnA : Fun K "add_group" "Groups.add_group" (sG 6) fA dA
 bA : Binds K dA ["self","rooms"] []
structure GrD (K : PySem.W.Frag) (C fR fS : Addr) (dR dS : FuncData) : Prop where
 mR : Meth K C "rooms_ahead" fR
 fnR : Fun K "rooms_ahead" "Groups.rooms_ahead" (sG 1) fR dR
 bR : Binds K dR ["self","room"] []
 mS : Meth K C "sort_out" fS
 fnS : Fun K "sort_out" "Groups.sort_out" (sG 3) fS dS
 bS : Binds K dS ["self","lights"] []
set_option genInjectivity false in
structure GZ where
 x : Addr
 dx : Addr
 a : Addr
 l : Addr
 ga : Addr
 m : Addr
 ps : List Addr
 hs : List Rm
 ls : List Addr
 lead : List (List Nat)
noncomputable abbrev Mq:=List (Addr × List Nat)
noncomputable def insG (C : Addr) (Z : GZ) (wd : Addr) : HO:=.ins C Z.dx [("house",.ref Z.a),("group_of",.ref Z.ga),("members",.ref Z.m),("leading_to",.ref Z.l),("waiting",.ref wd)]
structure GrAt (C : Addr) (Z : GZ) (H : Hp) (gof : List Nat) (mq : Mq) (wd : Addr) (wt : List Nat) : Prop where
 ob : H Z.x = some (insG C Z wd)
 house : HouseAt H Z.a Z.ps Z.hs
 lead : H Z.l = some (.lst (Z.ls.map V.ref))
 leads : LsAt H Z.ls Z.lead
 gof : H Z.ga = some (.lst (nV gof))
 mem : H Z.m = some (.lst (mq.map fun q => V.ref q.1))
 mems : ∀ q ∈ mq,H q.1 = some (.dK (tr q.2))
 wt : H wd = some (.dK (tr wt))
 nd : (mq.map (·.1)).Nodup
 nwd : ∀ q ∈ mq,q.1 ≠ wd
 d1 : Z.a ≠ Z.ga
 d2 : Z.a ≠ Z.m
 d3 : Z.l ≠ Z.ga
 d4 : Z.l ≠ Z.m
 d5 : Z.m ≠ Z.ga
 d6 : ∀ p ∈ Z.ls,p ≠ Z.ga /\ p ≠ Z.m
structure GFix (Z : GZ) : Prop where
 wf : Wf Z.hs
 few : Z.hs.length <= 60
 lp : Lp Z.hs Z.hs.length 0 Z.lead
noncomputable def mutG (Z : GZ) (mq : Mq) (wd : Addr) : List Addr:=Z.x :: Z.ga :: Z.m :: wd :: mq.map (·.1)
structure Mv (S S' : List Addr) (H H' : Hp) : Prop where
 keep : ∀ b u,H b = some u -> b ∉ S -> H' b = some u
 new : ∀ b ∈ S',b ∈ S ∨ H b = none
section
variable {S S' S'' : List Addr} {H H' H'' : Hp}
theorem Mv.refl (S : List Addr) (H : Hp) : Mv S S H H:=⟨fun _ _ e _ => e,fun _ h => .inl h⟩
theorem Mv.trans (a : Mv S S' H H') (b : Mv S' S'' H' H'') : Mv S S'' H H'':=by
 refine ⟨fun c u e n => b.keep c u (a.keep c u e n) fun z => ?_,fun c hc => ?_⟩
 ·rcases a.new c z with y | y
  ·exact n y
  ·rw [e] at y; cases y
 ·rcases b.new c hc with z | z
  ·exact a.new c z
  ·by_cases hs : c ∈ S
   ·exact .inl hs
   ·refine .inr ?_
    cases e : H c with
    | none => rfl
    | some u => rw [a.keep c u e hs] at z; cases z
theorem Mv.same (s : Same H H') (S : List Addr) : Mv S S H H':=⟨fun b u e _ => s b u e,fun _ h => .inl h⟩
theorem Mv.put {o : HO} {c : Addr} (hc : c ∈ S) : Mv S S H (upd H c o):=⟨fun b u e n => unX (fun z : b = c => n (z ▸ hc)) e,fun _ h => .inl h⟩
theorem Mv.sub (a : Mv S S' H H') (h : ∀ b ∈ S'',b ∈ S') : Mv S S'' H H':=⟨a.keep,fun b hb => a.new b (h b hb)⟩
end
section
variable {C : Addr} {Z : GZ} {H H' : Hp} {gof gof' : List Nat} {mq : Mq} {wd : Addr} {wt wt' : List Nat}
theorem GrAt.same (h : GrAt C Z H gof mq wd wt) (s : Same H H') : GrAt C Z H' gof mq wd wt :=
 { h with
  ob:=s _ _ h.ob
  house:=h.house.same s
  lead:=s _ _ h.lead
  leads:=⟨h.leads.1,fun i p L e1 e2 => s _ _ (h.leads.2 i p L e1 e2)⟩
  gof:=s _ _ h.gof
  mem:=s _ _ h.mem
  mems:=fun q hq => s _ _ (h.mems q hq)
  wt:=s _ _ h.wt }
theorem memM {b : Addr} (h : b ∈ mutG Z mq wd) : b = Z.x ∨ b = Z.ga ∨ b = Z.m ∨ b = wd ∨ b ∈ mq.map (·.1):=by simpa only [mutG,List.mem_cons] using h
theorem memN {b : Addr} (h : b = Z.x ∨ b = Z.ga ∨ b = Z.m ∨ b = wd ∨ b ∈ mq.map (·.1)) : b ∈ mutG Z mq wd:=by simpa only [mutG,List.mem_cons] using h
theorem GrAt.stay (h : GrAt C Z H gof mq wd wt) {c : Addr} {o : HO} (hc : c ∉ mutG Z mq wd) (ha : c ≠ Z.a) (hl : c ≠ Z.l) (hls : c ∉ Z.ls) (ht : ∀ xs,H c ≠ some (.tup xs)) : GrAt C Z (upd H c o) gof mq wd wt:=by
 have n1 : Z.x ≠ c:=fun z => hc (memN (.inl z.symm))
 have n2 : Z.ga ≠ c:=fun z => hc (memN (.inr (.inl z.symm)))
 have n3 : Z.m ≠ c:=fun z => hc (memN (.inr (.inr (.inl z.symm))))
 have n4 : wd ≠ c:=fun z => hc (memN (.inr (.inr (.inr (.inl z.symm)))))
 have n5 : ∀ q ∈ mq,q.1 ≠ c:=fun q hq z => hc (memN (.inr (.inr (.inr (.inr (List.mem_map.mpr ⟨q,hq,z⟩))))))
 exact { h with
  ob:=unX n1 h.ob
  house:=⟨unX ha.symm h.house.ob,h.house.rm.1,fun i p r e1 e2 => by have:=h.house.rm.2 i p r e1 e2; rw [upd_ne (fun z => by rw [z] at this; exact ht _ this)]; exact this⟩
  lead:=unX hl.symm h.lead
  leads:=⟨h.leads.1,fun i p L e1 e2 => unX (fun z : p = c => hls (z ▸ List.mem_of_getElem? e1)) (h.leads.2 i p L e1 e2)⟩
  gof:=unX n2 h.gof
  mem:=unX n3 h.mem
  mems:=fun q hq => unX (n5 q hq) (h.mems q hq)
  wt:=unX n4 h.wt}
theorem GrAt.setG (h : GrAt C Z H gof mq wd wt) (gof' : List Nat) : GrAt C Z (upd H Z.ga (.lst (nV gof'))) gof' mq wd wt :=
 { h with
  ob:=unX (nfX h.ob h.gof rfl) h.ob
  house:=⟨unX h.d1 h.house.ob,h.house.rm.1,fun i p r e1 e2 => by have:=h.house.rm.2 i p r e1 e2; rw [upd_ne (nfX this h.gof rfl)]; exact this⟩
  lead:=unX h.d3 h.lead
  leads:=⟨h.leads.1,fun i p L e1 e2 => unX (h.d6 p (List.mem_of_getElem? e1)).1 (h.leads.2 i p L e1 e2)⟩
  gof:=upd_same
  mem:=unX h.d5 h.mem
  mems:=fun q hq => unX (nfX (h.mems q hq) h.gof rfl) (h.mems q hq)
  wt:=unX (nfX h.wt h.gof rfl) h.wt}
theorem GrAt.setW (h : GrAt C Z H gof mq wd wt) (wt' : List Nat) : GrAt C Z (upd H wd (.dK (tr wt'))) gof mq wd wt' :=
 { h with
  ob:=unX (nfX h.ob h.wt rfl) h.ob
  house:=⟨unX (nfX h.house.ob h.wt rfl) h.house.ob,h.house.rm.1,fun i p r e1 e2 => by have:=h.house.rm.2 i p r e1 e2; rw [upd_ne (nfX this h.wt rfl)]; exact this⟩
  lead:=unX (nfX h.lead h.wt rfl) h.lead
  leads:=⟨h.leads.1,fun i p L e1 e2 => by have:=h.leads.2 i p L e1 e2; rw [upd_ne (nfX this h.wt rfl)]; exact this⟩
  gof:=unX (nfX h.gof h.wt rfl) h.gof
  mem:=unX (nfX h.mem h.wt rfl) h.mem
  mems:=fun q hq => unX (h.nwd q hq) (h.mems q hq)
  wt:=upd_same }
theorem GrAt.setM (h : GrAt C Z H gof mq wd wt) (mq' : Mq) (hd : ∀ q ∈ mq',H q.1 = some (.dK (tr q.2)) /\ q.1 ≠ wd) (nd : (mq'.map (·.1)).Nodup) : GrAt C Z (upd H Z.m (.lst (mq'.map fun q => V.ref q.1))) gof mq' wd wt :=
 { h with
  ob:=unX (nfX h.ob h.mem rfl) h.ob
  house:=⟨unX h.d2 h.house.ob,h.house.rm.1,fun i p r e1 e2 => by have:=h.house.rm.2 i p r e1 e2; rw [upd_ne (nfX this h.mem rfl)]; exact this⟩
  lead:=unX h.d4 h.lead
  leads:=⟨h.leads.1,fun i p L e1 e2 => unX (h.d6 p (List.mem_of_getElem? e1)).2 (h.leads.2 i p L e1 e2)⟩
  gof:=unX h.d5.symm h.gof
  mem:=upd_same
  mems:=fun q hq => unX (nfX (hd q hq).1 h.mem rfl) (hd q hq).1
  wt:=unX (nfX h.wt h.mem rfl) h.wt
  nd:=nd
  nwd:=fun q hq => (hd q hq).2 }
theorem GrAt.setD (h : GrAt C Z H gof mq wd wt) {g : Nat} {q : Addr} {R : List Nat} (hg : mq[g]? = some (q,R)) (R' : List Nat) : GrAt C Z (upd H q (.dK (tr R'))) gof (mq.set g (q,R')) wd wt:=by
 have hq : H q = some (.dK (tr R)):=h.mems (q,R) (List.mem_of_getElem? hg)
 have hl : g < mq.length:=(List.getElem?_eq_some_iff.mp hg).1
 have em : (mq.set g (q,R')).map (·.1) = mq.map (·.1):=by
  rw [List.map_set]
  refine List.ext_getElem? fun i => ?_
  rw [List.getElem?_set]
  by_cases z : g = i
  ·subst z
   rw [if_pos rfl,if_pos (by rw [List.length_map]; exact hl),List.getElem?_map,hg]
   rfl
  ·rw [if_neg z]
 have em2 : (mq.set g (q,R')).map (fun q => V.ref q.1) = mq.map fun q => V.ref q.1:=by
  have:=congrArg (List.map V.ref) em
  rw [List.map_map,List.map_map] at this
  exact this
 have key : ∀ p ∈ mq.set g (q,R'),(p = (q,R')) ∨ (p ∈ mq /\ p.1 ≠ q):=fun p hp => by
  obtain ⟨i,hi⟩:=List.getElem?_of_mem hp
  rw [List.getElem?_set] at hi
  by_cases z : g = i
  ·rw [if_pos z,if_pos (z ▸ hl)] at hi
   cases hi
   exact .inl rfl
  ·rw [if_neg z] at hi
   refine .inr ⟨List.mem_of_getElem? hi,fun y => z ?_⟩
   exact nodup_ixA h.nd (x:=q) (by rw [List.getElem?_map,hg]; rfl) (by rw [List.getElem?_map,hi,<- y]; rfl)
 exact { h with
  ob:=unX (nfX h.ob hq rfl) h.ob
  house:=⟨unX (nfX h.house.ob hq rfl) h.house.ob,h.house.rm.1,fun i p r e1 e2 => by have:=h.house.rm.2 i p r e1 e2; rw [upd_ne (nfX this hq rfl)]; exact this⟩
  lead:=unX (nfX h.lead hq rfl) h.lead
  leads:=⟨h.leads.1,fun i p L e1 e2 => by have:=h.leads.2 i p L e1 e2; rw [upd_ne (nfX this hq rfl)]; exact this⟩
  gof:=unX (nfX h.gof hq rfl) h.gof
  mem:=by rw [em2,upd_ne (nfX h.mem hq rfl)]; exact h.mem
  mems:=fun p hp => by
   rcases key p hp with rfl | ⟨h1,h2⟩
   ·exact upd_same
   ·rw [upd_ne h2]; exact h.mems p h1
  wt:=unX (h.nwd (q,R) (List.mem_of_getElem? hg)).symm h.wt
  nd:=by rw [em]; exact h.nd
  nwd:=fun p hp => by
   rcases key p hp with rfl | ⟨h1,h2⟩
   ·exact h.nwd (q,R) (List.mem_of_getElem? hg)
   ·exact h.nwd p h1 }
theorem GrAt.fields (h : GrAt C Z H gof mq wd wt) : H Z.x = some (.ins C Z.dx [("house",.ref Z.a),("group_of",.ref Z.ga),("members",.ref Z.m),("leading_to",.ref Z.l),("waiting",.ref wd)]):=h.ob
end
noncomputable def spAhead (C : Addr) : Sp:=fun vs H Q _ => Ex6 fun (Z : GZ) (gof : List Nat) (mq : Mq) (wd : Addr) (wt : List Nat) (r : Nat) => An6 (vs = [.ref Z.x,.int (r : Int)]) (GrAt C Z H gof mq wd wt) (Wf Z.hs) (gof.length = Z.hs.length) (r < Z.hs.length) (∀ t H',Same H H' -> H' t = some (.tup [.int (gv gof (stp Z.hs r false) : Nat),.int (gv gof (stp Z.hs r true) : Nat)]) -> Q (.ref t) H')
theorem sc_ahead : FnScope ["self","room","exits"] ["self","room"] (defScope (sG 2)):=⟨rfl,rfl,rfl,by decide +kernel,rfl,by decide +kernel,by decide +kernel⟩
theorem atI_gv {l : List Nat} {r : Nat} (h : r < l.length) : atI (nV l) (r : Int) = some (.int (gv l r : Nat)):=atI_nat (by unfold nV; rw [List.getElem?_map,gv_get h]; rfl)
theorem ok_ahead {C fI fW fH fP fA fe : Addr} {dI dW dH dP dA fde : FuncData} (Zc : GrC K mg C fI fW fH fP fA dI dW dH dP dA) (Ex : Df K mg "exits_of" 9 ["house","room"] fe fde) : FnOk P w K mg base CX0 2 fH dH ["self","room"] (spAhead C):=by
 have G_exits : FnOk P w K mg base CX0 1 fe fde ["house","room"] spExits:=ok_exits Ex.fn
 refine Zc.fnH.ok sc_ahead (fun vs H Q E h => ?_) (fun cdv A outer s H vs Q E hr h => ?_)
 ·obtain ⟨Z,gof,mq,wd,wt,r,rfl,_⟩:=h
  rfl
 ·obtain ⟨Z,gof,mq,wd,wt,r,rfl,hG,wf,hgl,hr',k⟩:=h
  refine ⟨_,(pss_cons (ps_set (i:=2) sc_ahead.nd rfl (Or.inl rfl) (pe_call G_exits hr rfl Ex.m Ex.fn.kp Ex.b .nil pass0 (pa_cons (pe_fld (pv 0) rfl) (pa_cons (pv 1) pa_nil))))
   (pss_one (ps_ret (pe_tup (pa_cons (pe_ix ix_list (pe_fld (pv 0) rfl) (pe_ix ix_tup (pv 2) pe_int (fun _ _ => rfl)) (fun _ _ => rfl)) (pa_cons (pe_ix ix_list (pe_fld (pv 0) rfl) (pe_ix ix_tup (pv 2) pe_int (fun _ _ => rfl)) (fun _ _ => rfl)) pa_nil)))))),?_⟩
  have e0 : Z.hs[r]? = some Z.hs[r]:=by simp [hr']
  have hst : ∀ b,stp Z.hs r b = if b then Z.hs[r].r else Z.hs[r].l:=fun b => by unfold Hs.stp; rw [e0]
  have hl:=hst false
  have hrr:=hst true
  have u1:=wf.stp hr' false
  have u2:=wf.stp hr' true
  generalize Z.hs[r] = rm at e0 hl hrr
  rw [<- hgl] at u1 u2
  refine ⟨_,rfl,Z.x,C,Z.dx,_,_,rfl,hG.fields,Zc.cl,Zc.nH,rfl,_,rfl,Z.a,Z.ps,Z.hs,r,rm,rfl,hG.house,e0,fun t ht => ?_⟩
  have s1 : Same H (upd H t (.tup [.int rm.l,.int rm.r])):=same_upd ht
  have hG1:=hG.same s1
  refine ⟨_,rfl,Z.x,C,Z.dx,_,_,rfl,hG1.fields,Zc.cl,Zc.nG,rfl,_,rfl,t,_,_,_,rfl,rfl,SqT.of upd_same,rfl,Z.ga,_,_,_,rfl,rfl,SqL.of hG1.gof,(by have:=atI_gv u1; rw [hl] at this; exact this),?_⟩
  refine ⟨_,rfl,Z.x,C,Z.dx,_,_,rfl,hG1.fields,Zc.cl,Zc.nG,rfl,_,rfl,t,_,_,_,rfl,rfl,SqT.of upd_same,rfl,Z.ga,_,_,_,rfl,rfl,SqL.of hG1.gof,(by have:=atI_gv u2; rw [hrr] at this; exact this),?_⟩
  refine ⟨(by show 2 <= sizeLine; decide),fun t2 ht2 => ?_⟩
  refine k t2 _ (s1.trans (same_upd ht2)) ?_
  rw [upd_same,hl,hrr]
end
end Law
set_option maxHeartbeats 8000000
namespace Law
open PySem L2 Hs PyProof.Rows
section
variable {P : Program} {w : World} {K : PySem.W.Frag} {mg : Str -> Option Value} {base : Heap} {f : Addr} {fd : FuncData}
noncomputable def spAddG (C : Addr) : Sp:=fun vs H Q _ => Ex7 fun (Z : GZ) (gof : List Nat) (mq : Mq) (wd : Addr) (wt : List Nat) (q : Addr) (R : List Nat) => An11 (vs = [.ref Z.x,.ref q]) (GrAt C Z H gof mq wd wt) (GFix Z) (gof.length = Z.hs.length) (H q = some (.dK (tr R))) (q ∉ mutG Z mq wd) ((∀ r ∈ R,r < Z.hs.length)) (mq.length <= 400) (wt.Nodup) ((∀ r ∈ wt,r < Z.hs.length)) (∀ (wt' : List Nat) (H' : Hp),GrAt C Z H' (asg gof R mq.length) (mq ++ [(q,R)]) wd wt' -> wt'.Nodup -> (∀ r ∈ wt',r < Z.hs.length) -> (∀ x,x ∈ wt' ↔ x ∈ wt ∨ (x < Z.hs.length /\ ∃ b,stp Z.hs x b ∈ R)) -> Mv (q :: mutG Z mq wd) (mutG Z (mq ++ [(q,R)]) wd) H H' -> Q .non H')
theorem sc_addG : FnScope ["self","rooms","room","before"] ["self","rooms"] (defScope (sG 6)):=⟨rfl,rfl,rfl,by decide +kernel,rfl,by decide +kernel,by decide +kernel⟩
theorem ixN_nat {n i : Nat} (h : i < n) : ixN n (i : Int) = some i:=by
 unfold ixN
 rw [if_pos (by omega),if_pos (by omega)]
 simp
theorem few_nd {n : Nat} {l : List Nat} (nd : l.Nodup) (h : ∀ r ∈ l,r < n) (hn : n <= 1000) : l.length <= 1000:=Nat.le_trans (nodup_lt n l nd h) hn
theorem ok_addG {C fI fW fH fP fA : Addr} {dI dW dH dP dA : FuncData} (T : Blt mg) (Zc : GrC K mg C fI fW fH fP fA dI dW dH dP dA) : FnOk P w K mg base CX0 1 fA dA ["self","rooms"] (spAddG C):=by
 refine Zc.fnA.ok sc_addG (fun vs H Q E h => ?_) (fun cdv A outer s H vs Q E hr h => ?_)
 ·obtain ⟨Z,gof,mq,wd,wt,q,R,rfl,_⟩:=h
  rfl
 ·obtain ⟨Z,gof,mq,wd,wt,q,R,rfl,hG,fx,hgl,hq,hqm,hR,hml,hwn,hwl,k⟩:=h
  have hu:=hu_of hr
  refine ⟨_,(pss_cons (ps_thaw (ps_for PassesOwn.never rfl (pi_dict (pv 1)) (pg_name (i:=2) sc_addG.nd rfl (Or.inl rfl))
    (pss_cons (ps_asg (pe_callB call_len_seq (by rfl) T.len PySem.boot_len (pa_cons (pe_fld (pv 0) rfl) pa_nil)) (pg_sub (pe_fld (pv 0) rfl) (pv 2) set_list))
    (pss_one (ps_for PassesOwn.never rfl (pi_list (pe_ix ix_list (pe_fld (pv 0) rfl) (pv 2) (fun _ _ => rfl))) (pg_name (i:=3) sc_addG.nd rfl (Or.inl rfl))
     (pss_one (ps_dput hu (pe_fld (pv 0) rfl) (pv 3) pe_bl rfl)))))))
   (pss_one (ps_expr (pe_bm PySem.F.plainAttrs_list PySem.F.slot_list_append PySem.F.type_list_append mt_append (pe_fld (pv 0) rfl) (pa_cons (pv 1) pa_nil))))),?_⟩
  have hqa : q ≠ Z.a:=nfX hq hG.house.ob rfl
  have hql : q ≠ Z.l:=nfX hq hG.lead rfl
  have hqls : q ∉ Z.ls:=fun z => by
   obtain ⟨i,hi⟩:=List.getElem?_of_mem z
   have hil : i < Z.lead.length:=by rw [<- hG.leads.1]; exact (List.getElem?_eq_some_iff.mp hi).1
   have:=hG.leads.2 i q _ hi (show Z.lead[i]? = some Z.lead[i] by simp [hil])
   rw [hq] at this
   cases this
  refine ⟨_,rfl,q,_,rfl,hq,fun o => ?_⟩
  have hG0 : GrAt C Z (upd H q (.frz o (.dK (tr R)))) gof mq wd wt:=hG.stay hqm hqa hql hqls (fun xs z => by rw [hq] at z; cases z)
  have hnf : ∀ o' u',H q ≠ some (.frz o' u'):=fun o' u' z => by rw [hq] at z; cases z
  have nx : q ≠ Z.x:=fun z => hqm (memN (.inl z))
  have nga : q ≠ Z.ga:=fun z => hqm (memN (.inr (.inl z)))
  have nm : q ≠ Z.m:=fun z => hqm (memN (.inr (.inr (.inl z))))
  have nwd : q ≠ wd:=fun z => hqm (memN (.inr (.inr (.inr (.inl z)))))
  have memS : ∀ {b},b = Z.ga ∨ b = wd ∨ b = Z.m -> b ∈ q :: mutG Z mq wd:=fun {b} h => List.mem_cons_of_mem _ (memN (h.elim (fun h => .inr (.inl h)) fun h => h.elim (fun h => .inr (.inr (.inr (.inl h)))) fun h => .inr (.inr (.inl h))))
  refine for_dict (kvs:=tr R) (fun i σ H2 => Ex3 fun (wt2 : List Nat) (v2 v3 : Option V) => An7 (σ = [some (.ref Z.x),some (.ref q),v2,v3]) (GrAt C Z H2 (asg gof (R.take i) mq.length) mq wd wt2) (H2 q = some (.frz o (.dK (tr R)))) (wt2.Nodup) ((∀ r ∈ wt2,r < Z.hs.length)) ((∀ x,x ∈ wt2 ↔ x ∈ wt ∨ (x < Z.hs.length /\ ∃ b,stp Z.hs x b ∈ R.take i))) (Mv (q :: mutG Z mq wd) (q :: mutG Z mq wd) H H2))
   ⟨wt,none,none,rfl,by rw [List.take_zero]; exact hG0,upd_same,hwn,hwl,fun x => by simp,Mv.put (by simp)⟩ (by rintro i σ H2 _ ⟨_,_,_,_,_,z,_⟩; exact z) ?_ ?_
  ·intro i kk vv σ H2 hkv hP0
   refine kqX fun K0 eK0 => ?_
   obtain ⟨wt2,v2,v3,rfl,hG2,hq2,hn2,hl2,hm2,mv2⟩:=hP0
   obtain ⟨r,hri,rfl⟩ : ∃ r,R[i]? = some r /\ kk = Sum.inl (r : Int):=by
    unfold tr at hkv
    rw [List.getElem?_map] at hkv
    cases e : R[i]? with
    | none => rw [e] at hkv; cases hkv
    | some r => rw [e] at hkv; cases hkv; exact ⟨r,rfl,rfl⟩
   have hrR:=List.mem_of_getElem? hri
   have hrl:=hR r hrR
   have htk : R.take (i + 1) = R.take i ++ [r]:=by rw [List.take_add_one,hri]; rfl
   have hgl2 : (asg gof (R.take i) mq.length).length = Z.hs.length:=by rw [asg_len]; exact hgl
   subst eK0
   refine seq_d fun Ra Da qa da => ?_
   refine ⟨_,rfl,Z.x,C,Z.dx,_,_,rfl,hG2.fields,Zc.cl,Zc.nM,rfl,Z.m,_,rfl,.inl (SqL.of hG2.mem),?_⟩
   rw [List.length_map]
   refine ⟨_,rfl,Z.x,C,Z.dx,_,_,rfl,hG2.fields,Zc.cl,Zc.nG,rfl,_,rfl,Z.ga,_,_,r,rfl,rfl,hG2.gof,?_,?_⟩
   ·rw [nV_len,hgl2]
    exact ixN_nat hrl
   have eset : (nV (asg gof (R.take i) mq.length)).set r (V.int (mq.length : Int)) = nV (asg gof (R.take (i + 1)) mq.length):=by
    rw [htk,asg_snoc]
    unfold nV
    rw [List.map_set]
   rw [eset]
   have hG3:=hG2.setG (asg gof (R.take (i + 1)) mq.length)
   have hq3 : upd H2 Z.ga (.lst (nV (asg gof (R.take (i + 1)) mq.length))) q = some (.frz o (.dK (tr R))):=unX nga hq2
   have mv3:=mv2.trans (Mv.put (S:=q :: mutG Z mq wd) (o:=.lst (nV (asg gof (R.take (i + 1)) mq.length))) (memS (.inl rfl)))
   generalize upd H2 Z.ga (.lst (nV (asg gof (R.take (i + 1)) mq.length))) = H3 at hG3 hq3 mv3
   have ep : Z.ls[r]? = some (Z.ls[r]'(by rw [hG3.leads.1,fx.lp.len]; exact hrl)):=by simp
   have eL : Z.lead[r]? = some (Z.lead[r]'(by rw [fx.lp.len]; exact hrl)):=by simp
   have hp3:=hG3.leads.2 r _ _ ep eL
   have hmem:=fx.lp.end eL
   generalize Z.ls[r]'(by rw [hG3.leads.1,fx.lp.len]; exact hrl) = p at ep hp3
   generalize Z.lead[r]'(by rw [fx.lp.len]; exact hrl) = L at eL hp3 hmem
   refine seq_e (R:=Ra) qa ?_
   clear qa Ra
   refine ⟨_,rfl,Z.x,C,Z.dx,_,_,rfl,hG3.fields,Zc.cl,Zc.nL,rfl,_,rfl,Z.l,_,_,_,rfl,rfl,SqL.of hG3.lead,(atI_nat (by rw [List.getElem?_map,ep]; rfl)),p,rfl,⟨_,SqL.of hp3⟩,?_⟩
   refine for_list (xs:=nV L) (fun j σ H4 => Ex2 fun (wt3 : List Nat) (v3 : Option V) => An7 (σ = [some (.ref Z.x),some (.ref q),some (.int (r : Int)),v3]) (GrAt C Z H4 (asg gof (R.take (i + 1)) mq.length) mq wd wt3) (H4 q = some (.frz o (.dK (tr R)))) (wt3.Nodup) ((∀ r ∈ wt3,r < Z.hs.length)) ((∀ x,x ∈ wt3 ↔ x ∈ wt2 ∨ x ∈ L.take j)) (Mv (q :: mutG Z mq wd) (q :: mutG Z mq wd) H H4))
    ⟨wt2,v3,rfl,hG3,hq3,hn2,hl2,fun x => by simp,mv3⟩ (by rintro j σ H4 _ ⟨_,_,_,z,_⟩; exact SqL.of (z.leads.2 r p L ep eL)) ?_ ?_
   ·intro j y σ H4 hy hP0
    refine kqX fun K0 eK0 => ?_
    obtain ⟨wt3,v3,rfl,hG4,hq4,hn4,hl4,hm4,mv4⟩:=hP0
    obtain ⟨b,hb,rfl⟩:=nV_get hy
    have hbl : b < Z.hs.length:=((hmem b).mp (List.mem_of_getElem? hb)).1
    have htk2 : L.take (j + 1) = L.take j ++ [b]:=by rw [List.take_add_one,hb]; rfl
    subst eK0
    refine ⟨_,rfl,Z.x,C,Z.dx,_,_,rfl,hG4.fields,Zc.cl,Zc.nW,rfl,_,rfl,wd,_,rfl,DPut.k (k:=Sum.inl (b : Int)) hG4.wt ?_,?_⟩
    ·rw [tr_len]
     exact small1000 (few_nd hn4 hl4 (by have:=fx.few; omega))
    ·rw [put_tr]
     refine ⟨ins wt3 b,_,rfl,hG4.setW _,unX nwd hq4,nd_ins hn4,fun x hx => ?_,fun x => ?_,mv4.trans (Mv.put (memS (.inr (.inl rfl))))⟩
     ·rcases mem_ins.mp hx with z | z
      ·exact hl4 x z
      ·rw [z]; exact hbl
     ·rw [mem_ins,hm4 x,htk2,List.mem_append,List.mem_singleton,or_assoc]
   ·rintro σ H4 ⟨wt3,v3,rfl,hG4,hq4,hn4,hl4,hm4,mv4⟩
    subst da
    refine ⟨wt3,_,_,rfl,hG4,hq4,hn4,hl4,fun x => ?_,mv4⟩
    rw [hm4 x,nV_len,List.take_length,hm2 x,hmem x,htk,or_assoc]
    refine or_congr Iff.rfl ?_
    constructor
    ·rintro (⟨h1,b,h2⟩ | ⟨h1,b,h2⟩)
     ·exact ⟨h1,b,List.mem_append_left _ h2⟩
     ·exact ⟨h1,b,List.mem_append_right _ (by rw [h2]; exact List.mem_singleton.mpr rfl)⟩
    ·rintro ⟨h1,b,h2⟩
     rcases List.mem_append.mp h2 with h2 | h2
     ·exact .inl ⟨h1,b,h2⟩
     ·exact .inr ⟨h1,b,List.mem_singleton.mp h2⟩
  ·rintro σ H2 ⟨wt2,v2,v3,rfl,hG2,hq2,hn2,hl2,hm2,mv2⟩
   rw [tr_len,List.take_length] at hG2 hm2
   refine ⟨q,o,tr R,hnf,hq2,?_⟩
   have hG3 : GrAt C Z (upd H2 q (.dK (tr R))) (asg gof R mq.length) mq wd wt2:=hG2.stay hqm hqa hql hqls (fun xs z => by rw [hq2] at z; cases z)
   have hq3 : upd H2 q (.dK (tr R)) q = some (.dK (tr R)):=upd_same
   have mv3:=mv2.trans (Mv.put (S:=q :: mutG Z mq wd) (c:=q) (o:=.dK (tr R)) (List.mem_cons_self ..))
   generalize upd H2 q (.dK (tr R)) = H3 at hG3 hq3 mv3
   refine ⟨_,rfl,Z.x,C,Z.dx,_,_,rfl,hG3.fields,Zc.cl,Zc.nM,rfl,.inl ⟨rfl,_,SqL.of hG3.mem⟩,_,rfl,Z.m,_,_,rfl,rfl,hG3.mem,(by rw [List.length_map]; exact small1000 (by omega)),?_⟩
   have em : (mq.map fun q => V.ref q.1) ++ [V.ref q] = (mq ++ [(q,R)]).map fun q => V.ref q.1:=by rw [List.map_append]; rfl
   rw [em]
   refine k wt2 _ (hG3.setM _ (fun y hy => ?_) ?_) hn2 hl2 hm2 ((mv3.trans (Mv.put (memS (.inr (.inr rfl))))).sub fun b hb => ?_)
   ·rcases List.mem_append.mp hy with hy | hy
    ·exact ⟨hG3.mems y hy,hG3.nwd y hy⟩
    ·rw [List.mem_singleton.mp hy]
     exact ⟨hq3,nwd⟩
   ·rw [List.map_append,List.nodup_append]
    refine ⟨hG3.nd,by simp,fun y hy z hz => ?_⟩
    have : z = q:=by simpa using hz
    rw [this]
    exact fun e => hqm (memN (.inr (.inr (.inr (.inr (e ▸ hy))))))
   ·simp only [mutG,List.mem_cons,List.map_append,List.mem_append,List.map_cons,List.map_nil,List.not_mem_nil,or_false] at hb ⊢
    rcases hb with h | h | h | h | h | h
    ·exact .inr (.inl h)
    ·exact .inr (.inr (.inl h))
    ·exact .inr (.inr (.inr (.inl h)))
    ·exact .inr (.inr (.inr (.inr (.inl h))))
    ·exact .inr (.inr (.inr (.inr (.inr h))))
    ·exact .inl h
end
end Law
set_option maxHeartbeats 8000000
namespace Law
open PySem L2 Hs PyProof.Rows
section
variable {P : Program} {w : World} {K : PySem.W.Frag} {mg : Str -> Option Value} {base : Heap} {f : Addr} {fd : FuncData}
noncomputable def spPart (P : Program) (w : World) (C : Addr) {μ : Type} [DecidableEq μ] (Cm : Mrk μ) : Sp:=fun vs H Q _ => Ex11 fun (Z : GZ) (gof : List Nat) (mq : Mq) (wd : Addr) (wt : List Nat) (g : Nat) (p q : Addr) (R : List Nat) (ts : List Addr) (l : List (μ × Nat)) => An15 (vs = [.ref Z.x,.int (g : Int),.ref p]) (GrAt C Z H gof mq wd wt) (GFix Z) (GI Z.hs.length gof (mq.map (·.2))) (mq[g]? = some (q,R)) (H p = some (.lst (ts.map V.ref))) (p ∉ mutG Z mq wd) (p ≠ Z.a) (p ≠ Z.l) (MkAt Cm H ts l) ((l.map (·.2)).Nodup) ((∀ y ∈ l,y.2 ∈ R)) (wt.Nodup) ((∀ r ∈ wt,r < Z.hs.length)) (∀ (gof' : List Nat) (mq' : Mq) (wt' : List Nat) (H' : Hp),GrAt C Z H' gof' mq' wd wt' -> GI Z.hs.length gof' (mq'.map (·.2)) -> Step Z.hs g mq.length (mkOf l) gof gof' -> wt'.Nodup -> (∀ r ∈ wt',r < Z.hs.length) -> (∀ x,x < Z.hs.length -> (x ∈ wt' ↔ x ∈ wt ∨ Led Z.hs gof gof' x)) -> mq.length <= mq'.length -> (mq'.length = mq.length -> gof' = gof) -> Mv (mutG Z mq wd) (mutG Z mq' wd) H H' -> Q .non H')
theorem sc_part : FnScope ["self","group","marked","unmarked","mark","room","by_size","rooms"] ["self","group","marked"] (defScope (sG 5)):=⟨rfl,rfl,rfl,by decide +kernel,rfl,by decide +kernel,by decide +kernel⟩
theorem set_fst {mq : Mq} {g : Nat} {q : Addr} {R R' : List Nat} (hg : mq[g]? = some (q,R)) : (mq.set g (q,R')).map (·.1) = mq.map (·.1):=by
 rw [List.map_set]
 refine List.ext_getElem? fun i => ?_
 rw [List.getElem?_set]
 by_cases z : g = i
 ·subst z
  rw [if_pos rfl,if_pos (by rw [List.length_map]; exact (List.getElem?_eq_some_iff.mp hg).1),List.getElem?_map,hg]
  rfl
 ·rw [if_neg z]
theorem Mv.more' {S S' : List Addr} {H H' : Hp} (a : Mv S S' H H') {q : Addr} (hq : q ∈ S ∨ H q = none) : Mv S (q :: S') H H':=⟨a.keep,fun b hb => (List.mem_cons.mp hb).elim (fun e => by rw [e]; exact hq) (a.new b)⟩
noncomputable def nz (l : Mq) : Mq:=l.filter fun y => decide (0 < y.2.length)
theorem nz_snd (l : Mq) : (nz l).map (·.2) = (l.map (·.2)).filter fun P => decide (0 < P.length):=by
 unfold nz
 rw [List.filter_map]
 rfl
theorem take_snoc {β : Type} {l : List β} {i : Nat} {y : β} (h : l[i]? = some y) : l.take (i + 1) = l.take i ++ [y]:=by rw [List.take_add_one,h]; rfl
theorem addP_led {hs : List Rm} {gof : List Nat} {k : Nat} {Ps : List (List Nat)} (hl : gof.length = hs.length) (hk : ∀ r,r < hs.length -> gv gof r < k) (dis : Ps.Pairwise fun P Q => ∀ x ∈ P,x ∉ Q) {r : Nat} (hr : r < hs.length) : gv (addP gof k Ps) r ≠ gv gof r ↔ ∃ P ∈ Ps,r ∈ P:=by
 constructor
 ·intro h
  refine Classical.byContradiction fun z => h (addP_out Ps gof k (by rw [hl]; exact hr) fun P hP hrP => z ⟨P,hP,hrP⟩)
 ·rintro ⟨P,hP,hrP⟩
  obtain ⟨j,hj⟩:=List.getElem?_of_mem hP
  rw [addP_in Ps gof k (by rw [hl]; exact hr) dis hj hrP]
  have:=hk r hr
  omega
theorem ok_part {μ : Type} [DecidableEq μ] {Cm : Mrk μ} {C fI fW fH fP fA fg : Addr} {dI dW dH dP dA fdg : FuncData} (T : Blt mg) (TS : mg "sorted" = none) (Zc : GrC K mg C fI fW fH fP fA dI dW dH dP dA) (Ga : Df K mg "gathered" 13 ["marked"] fg fdg) : FnOk P w K mg base CX0 2 fP dP ["self","group","marked"] (spPart P w C Cm):=by
 have G_gath : FnOk P w K mg base CX0 1 fg fdg ["marked"] (spGath P w Cm):=ok_gath Ga.fn
 have G_add : FnOk P w K mg base CX0 1 fA dA ["self","rooms"] (spAddG C):=ok_addG T Zc
 refine Zc.fnP.ok sc_part (fun vs H Q E h => ?_) (fun cdv A outer s H vs Q E hr h => ?_)
 ·obtain ⟨Z,gof,mq,wd,wt,g,p,q,R,ts,l,rfl,_⟩:=h
  rfl
 ·obtain ⟨Z,gof,mq,wd,wt,g,p,q,R,ts,l,rfl,hG,fx,gi,hg,hp,hpm,hpa,hpl,hts,hln,hlR,hwn,hwl,k⟩:=h
  have hu:=hu_of hr
  refine ⟨_,(pss_cons (ps_set (i:=3) sc_part.nd rfl (Or.inl rfl) (pe_ix ix_list (pe_fld (pv 0) rfl) (pv 1) (fun _ _ => rfl)))
   (pss_cons (ps_for PassesOwn.never rfl (pi_list (pv 2)) (pg_tup rfl (pgs_cons (pg_name (i:=4) sc_part.nd rfl (Or.inl rfl)) (pgs_cons (pg_name (i:=5) sc_part.nd rfl (Or.inl rfl)) pgs_nil)))
    (pss_one (ps_expr (pe_dpop1 (pv 3) (pv 5) ⟨rfl,rfl,rfl,rfl⟩))))
   (pss_cons (ps_set (i:=6) sc_part.nd rfl (Or.inl rfl) (pe_sortLen (by rfl) TS (by rfl) T.len (pe_op op_cat (pe_lst (pa_cons (pv 3) pa_nil)) (pe_listVals Cm.k (by rfl) T.list rfl (pe_call G_gath hr rfl Ga.m Ga.fn.kp Ga.b .nil pass0 (pa_cons (pv 2) pa_nil))))))
   (pss_cons (ps_asg (pe_ix ix_list (pv 6) pe_int (fun _ _ => rfl)) (pg_sub (pe_fld (pv 0) rfl) (pv 1) set_list))
   (pss_one (ps_for PassesOwn.never rfl (pi_list (pe_slice sl_list (pv 6) (po_some pe_int) po_none)) (pg_name (i:=7) sc_part.nd rfl (Or.inl rfl))
    (pss_one (ps_if (pt_cmpR op_gt (pe_callB call_lenD (by rfl) T.len PySem.boot_len (pa_cons (pv 7) pa_nil)) pe_int (nomark _))
     (pss_one (ps_expr (pe_meth (pv 0) Zc.cl Zc.mA G_add hr Zc.bA .nil pass0 (pa_cons (pv 7) pa_nil))))
     pss_nil)))))))),?_⟩
  have hgl : g < mq.length:=(List.getElem?_eq_some_iff.mp hg).1
  have hmR : (mq.map (·.2))[g]? = some R:=by rw [List.getElem?_map,hg]; rfl
  have hRl : ∀ r ∈ R,r < Z.hs.length:=fun r hr' => ((gi.mem g R hmR r).mp hr').1
  have hRn : R.Nodup:=gi.nd R (List.mem_of_getElem? hmR)
  have hRlen : R.length <= 60:=Nat.le_trans (nodup_lt _ R hRn hRl) fx.few
  have hllen : l.length <= 60:=by
   have:=nodup_sub_len hln (M:=R) fun r hr' => by obtain ⟨y,hy,e⟩:=List.mem_map.mp hr'; exact e ▸ hlR y hy
   rw [List.length_map] at this
   omega
  have hqm : q ∈ mutG Z mq wd:=memN (.inr (.inr (.inr (.inr (List.mem_map.mpr ⟨(q,R),List.mem_of_getElem? hg,rfl⟩)))))
  have hset : ∀ R',(mq.set g (q,R')).map (·.1) = mq.map (·.1):=fun R' => set_fst hg
  have hmut : ∀ R',mutG Z (mq.set g (q,R')) wd = mutG Z mq wd:=fun R' => by unfold mutG; rw [hset]
  refine seq_ fun Rq1 eq1 => ?_
  refine ⟨_,rfl,Z.x,C,Z.dx,_,_,rfl,hG.fields,Zc.cl,Zc.nM,rfl,_,rfl,Z.m,_,_,_,rfl,rfl,SqL.of hG.mem,(atI_nat (by rw [List.getElem?_map,hg]; rfl)),?_⟩
  refine seq_n (R:=Rq1) eq1 fun Rq2 eq2 => ?_
  clear eq1 Rq1
  refine ⟨_,rfl,p,rfl,⟨_,SqL.of hp⟩,?_⟩
  refine for_list (xs:=ts.map V.ref) (fun i σ H2 => Ex2 fun (v4 v5 : Option V) => An3 (σ = [some (.ref Z.x),some (.int (g : Int)),some (.ref p),some (.ref q),v4,v5,none,none]) (GrAt C Z H2 gof (mq.set g (q,R.filter fun r => decide (r ∉ (l.take i).map (·.2)))) wd wt) (Mv (mutG Z mq wd) (mutG Z mq wd) H H2))
   ⟨none,none,rfl,?_,Mv.refl _ _⟩ (by rintro i σ H2 _ ⟨_,_,_,_,mv⟩; exact SqL.of (mv.keep _ _ hp hpm)) ?_ ?_
  ·have e1 : (R.filter fun r => decide (r ∉ (l.take 0).map (·.2))) = R:=List.filter_eq_self.mpr fun r _ => by simp
   rw [e1]
   have e2 : mq.set g (q,R) = mq:=by
    refine List.ext_getElem? fun i => ?_
    rw [List.getElem?_set]
    by_cases z : g = i
    ·subst z; rw [if_pos rfl,if_pos hgl,hg]
    ·rw [if_neg z]
   rw [e2]
   exact hG
  ·intro i y σ H2 hy hP0
   refine kqX fun K0 eK0 => ?_
   obtain ⟨v4,v5,rfl,hG2,mv2⟩:=hP0
   rw [List.getElem?_map] at hy
   cases ht : ts[i]? with
   | none => rw [ht] at hy; cases hy
   | some t =>
    rw [ht] at hy
    cases hy
    have hil : i < l.length:=by rw [<- hts.1]; exact (List.getElem?_eq_some_iff.mp ht).1
    have el : l[i]? = some l[i]:=by simp [hil]
    obtain ⟨v,htt,hv⟩:=hts.2 i t _ ht el
    have htk:=take_snoc el
    have hrR:=hlR _ (List.getElem_mem hil)
    have hno : l[i].2 ∉ (l.take i).map (·.2):=fun z => by
     obtain ⟨y,hy,e⟩:=List.mem_map.mp z
     obtain ⟨j,hj⟩:=List.getElem?_of_mem hy
     rw [List.getElem?_take] at hj
     split at hj
     ·rename_i hji
      have:=nodup_ixA hln (i:=j) (j:=i) (x:=l[i].2) (by rw [List.getElem?_map,hj]; exact congrArg some e) (by rw [List.getElem?_map,el]; rfl)
      omega
     ·cases hj
    generalize l[i] = mr at el htt hv htk hrR hno
    obtain ⟨m,r⟩:=mr
    have tup_keep : H2 t = some (.tup [v,.int (r : Int)]):=mv2.keep _ _ htt fun z => by
     have z:=memM z
     rcases z with z | z | z | z | z
     ·exact clX z htt hG.ob rfl
     ·exact clX z htt hG.gof rfl
     ·exact clX z htt hG.mem rfl
     ·exact clX z htt hG.wt rfl
     ·obtain ⟨y,hy,e⟩:=List.mem_map.mp z
      exact clX e.symm htt (hG.mems y hy) rfl
    subst eK0
    refine ⟨t,_,rfl,SqT.of tup_keep,rfl,_,_,rfl,_,_,rfl,rfl,?_⟩
    have hgs : (mq.set g (q,R.filter fun r => decide (r ∉ (l.take i).map (·.2))))[g]? = some (q,R.filter fun r => decide (r ∉ (l.take i).map (·.2))):=by rw [List.getElem?_set,if_pos rfl,if_pos hgl]
    have hq2:=hG2.mems _ (List.mem_of_getElem? hgs)
    have hq2 : H2 q = some (.dK (tr (R.filter fun r => decide (r ∉ (l.take i).map (·.2))))):=hq2
    refine ⟨_,rfl,q,rfl,.inl ⟨_,.inl hq2⟩,_,rfl,_,Sum.inl (r : Int),_,hq2,rfl,val_tr (List.mem_filter.mpr ⟨hrR,decide_eq_true hno⟩),?_⟩
    rw [drop_tr]
    have eR : (R.filter fun r => decide (r ∉ (l.take i).map (·.2))).filter (fun x => decide (x ≠ r)) = R.filter fun r => decide (r ∉ (l.take (i + 1)).map (·.2)):=by
     rw [List.filter_filter]
     refine List.filter_congr fun x _ => ?_
     rw [htk,List.map_append]
     by_cases h1 : x = r
     ·subst h1
      simp
     ·by_cases h2 : x ∈ (l.take i).map (·.2)
      ·rw [decide_eq_true (p:=x ≠ r) h1,decide_eq_false (p:=x ∉ (l.take i).map (·.2)) fun z => z h2,decide_eq_false]
       ·rfl
       ·exact fun z => z (List.mem_append_left _ h2)
      ·rw [decide_eq_true (p:=x ≠ r) h1,decide_eq_true (p:=x ∉ (l.take i).map (·.2)) h2,decide_eq_true]
       ·rfl
       ·intro z
        rcases List.mem_append.mp z with z | z
        ·exact h2 z
        ·exact h1 (by simpa using z)
    rw [eR]
    have hG3:=hG2.setD hgs (R.filter fun r => decide (r ∉ (l.take (i + 1)).map (·.2)))
    rw [List.set_set] at hG3
    exact ⟨_,_,rfl,hG3,mv2.trans (Mv.put hqm)⟩
  ·rintro σ H2 ⟨v4,v5,rfl,hG2,mv2⟩
   have eU : l.take (ts.map V.ref).length = l:=by rw [List.length_map,hts.1,List.take_length]
   rw [eU] at hG2
   obtain ⟨U,hU⟩ : ∃ U,U = R.filter fun r => decide (r ∉ l.map (·.2)):=⟨_,rfl⟩
   rw [<- hU] at hG2
   have hgs : (mq.set g (q,U))[g]? = some (q,U):=by rw [List.getElem?_set,if_pos rfl,if_pos hgl]
   have hq2 : H2 q = some (.dK (tr U)):=hG2.mems (q,U) (List.mem_of_getElem? hgs)
   have hp2 : H2 p = some (.lst (ts.map V.ref)):=mv2.keep _ _ hp hpm
   have hts2 : MkAt Cm H2 ts l:=hts.tups fun t xs z => mv2.keep _ _ z fun y => by
    have y:=memM y
    rcases y with y | y | y | y | y
    ·exact clX y z hG.ob rfl
    ·exact clX y z hG.gof rfl
    ·exact clX y z hG.mem rfl
    ·exact clX y z hG.wt rfl
    ·obtain ⟨m,hm,e⟩:=List.mem_map.mp y
     exact clX e.symm z (hG.mems m hm) rfl
   refine seq_n (R:=Rq2) eq2 fun Rq3 eq3 => ?_
   clear eq2 Rq2
   refine ⟨_,rfl,(by show 1 <= sizeLine; decide),fun l1 hl1 => ?_⟩
   have s3 : Same H2 (upd H2 l1 (.lst [.ref q])):=same_upd hl1
   refine ⟨_,rfl,p,ts,l,rfl,s3 _ _ hp2,hts2.tups fun t xs z => s3 _ _ z,by omega,fun d gs H4 s4 hd hd4 hGt hGa _ hgsl => ?_⟩
   refine ⟨d,_,rfl,hd4,fun l2 hl2 => ?_⟩
   have ekv : (kvG Cm gs).map (·.2) = gs.map fun x => V.ref x.q:=by unfold kvG; rw [List.map_map]; rfl
   rw [ekv]
   have s5 : Same H4 (upd H4 l2 (.lst (gs.map fun x => V.ref x.q))):=same_upd hl2
   have hl25 : upd H4 l2 (.lst (gs.map fun x => V.ref x.q)) l2 = some (.lst (gs.map fun x => V.ref x.q)):=upd_same
   have hl15 : upd H4 l2 (.lst (gs.map fun x => V.ref x.q)) l1 = some (.lst [.ref q]):=s5 _ _ (s4 _ _ upd_same)
   have sA:=(s3.trans s4).trans s5
   have hnew5 : ∀ x ∈ gs,H2 x.q = none /\ upd H4 l2 (.lst (gs.map fun x => V.ref x.q)) x.q = some (.dK (tr x.R)):=fun x hx => by
    obtain ⟨h1,h2,h3⟩:=hGt.new x hx
    exact ⟨s3.none h1,s5 _ _ h3⟩
   generalize upd H4 l2 (.lst (gs.map fun x => V.ref x.q)) = H5 at s5 hl25 hl15 sA hnew5
   refine ⟨l1,l2,_,_,rfl,rfl,hl15,hl25,?_,fun l3 hl3 => ?_⟩
   ·rw [List.length_map]
    have:=sizeLine_eq
    simp
    omega
   obtain ⟨pts,hpts⟩ : ∃ pts : Mq,pts = (q,U) :: gs.map fun x => (x.q,x.R):=⟨_,rfl⟩
   have hptl : pts.length < 64:=by rw [hpts,List.length_cons,List.length_map]; omega
   have sB:=sA.trans (same_upd (o:=.lst ([.ref q] ++ gs.map fun x => V.ref x.q)) hl3)
   have hl36 : upd H5 l3 (.lst ([.ref q] ++ gs.map fun x => V.ref x.q)) l3 = some (.lst (pts.map fun y => V.ref y.1)):=by rw [upd_same,hpts,List.map_cons,List.map_map]; rfl
   have hpt6 : ∀ y ∈ pts,upd H5 l3 (.lst ([.ref q] ++ gs.map fun x => V.ref x.q)) y.1 = some (.dK (tr y.2)):=fun y hy => by
    rw [hpts] at hy
    rcases List.mem_cons.mp hy with e | hy
    ·subst e; exact sB _ _ hq2
    ·obtain ⟨x,hx,rfl⟩:=List.mem_map.mp hy
     exact same_upd hl3 _ _ (hnew5 x hx).2
   have hptn : (pts.map (·.1)).Nodup:=by
    rw [hpts,List.map_cons,List.map_map]
    refine List.nodup_cons.mpr ⟨fun z => ?_,hGt.nd⟩
    obtain ⟨x,hx,e⟩:=List.mem_map.mp z
    have:=(hnew5 x hx).1
    have e : x.q = q:=e
    exact clX e this hq2 rfl
   have hptf : ∀ y ∈ pts,y.1 = q ∨ H2 y.1 = none:=fun y hy => by
    rw [hpts] at hy
    rcases List.mem_cons.mp hy with e | hy
    ·subst e; exact .inl rfl
    ·obtain ⟨x,hx,rfl⟩:=List.mem_map.mp hy
     exact .inr (hnew5 x hx).1
   have hsp : Split R (mkOf l) (pts.map (·.2)):=by
    have:=gath_split hGa hln hRn hlR
    rw [<- hU] at this
    rw [hpts,List.map_cons,List.map_map]
    exact this
   generalize upd H5 l3 (.lst ([.ref q] ++ gs.map fun x => V.ref x.q)) = H6 at sB hl36 hpt6
   refine ⟨l3,pts.map fun y => (y.1,tr y.2),rfl,?_,?_,by rw [List.length_map]; exact hptl,fun l4 rs hl4 hrs hrd => ?_⟩
   ·rw [hl36,List.map_map]; rfl
   ·intro y hy
    obtain ⟨z,hz,rfl⟩:=List.mem_map.mp hy
    exact hpt6 z hz
   obtain ⟨rt,hrt,rfl⟩:=perm_lift hrs.symm pts rfl
   have ert : (rt.map fun y => (y.1,tr y.2)).map (fun q : Dq => V.ref q.1) = rt.map fun y => V.ref y.1:=by rw [List.map_map]; rfl
   rw [ert]
   have sC:=sB.trans (same_upd (o:=.lst (rt.map fun y => V.ref y.1)) hl4)
   have hl47 : upd H6 l4 (.lst (rt.map fun y => V.ref y.1)) l4 = some (.lst (rt.map fun y => V.ref y.1)):=upd_same
   have hrt7 : ∀ y ∈ rt,upd H6 l4 (.lst (rt.map fun y => V.ref y.1)) y.1 = some (.dK (tr y.2)):=fun y hy => same_upd hl4 _ _ (hpt6 y (hrt.mem_iff.mp hy))
   have hsp2 : Split R (mkOf l) (rt.map (·.2)):=hsp.perm (hrt.map (·.2))
   have hrtn : (rt.map (·.1)).Nodup:=(hrt.map (·.1)).nodup_iff.mpr hptn
   have hrtf : ∀ y ∈ rt,y.1 = q ∨ H2 y.1 = none:=fun y hy => hptf y (hrt.mem_iff.mp hy)
   have hl40 : H2 l4 = none:=sB.none hl4
   generalize upd H6 l4 (.lst (rt.map fun y => V.ref y.1)) = H7 at sC hl47 hrt7
   match rt,hrt,hrs,hrd,hl47,hrt7,hsp2,hrtn,hrtf with
   | [],hrt,_,_,_,_,_,_,_ =>
    have:=hrt.length_eq
    rw [hpts] at this
    cases this
   | (q0,P0) :: rest,hrt,hrs,hrd,hl47,hrt7,hsp2,hrtn,hrtf =>
   have hrestl : rest.length < 64:=by have:=hrt.length_eq; rw [List.length_cons] at this; omega
   have hP0 : P0 ≠ []:=by
    intro z
    have hne : R ≠ []:=gi.ne R (List.mem_of_getElem? hmR)
    obtain ⟨r,hr'⟩:=List.exists_mem_of_ne_nil R hne
    obtain ⟨P',hP',hrP⟩:=hsp2.cov r hr'
    rcases List.mem_cons.mp hP' with e | hP'
    ·have e : P' = P0:=e
     rw [e,z] at hrP
     simp at hrP
    ·obtain ⟨y,hy,rfl⟩:=List.mem_map.mp hP'
     rw [List.map_cons] at hrd
     have:=(List.pairwise_cons.mp hrd).1 _ (List.mem_map.mpr ⟨y,hy,rfl⟩)
     have h1 : (tr y.2).length <= (tr P0).length:=this
     rw [tr_len,tr_len] at h1
     have h2 : P0.length = 0:=by rw [z]; rfl
     have h3 : 0 < y.2.length:=List.length_pos_of_mem hrP
     omega
   refine seq_n (R:=Rq3) eq3 fun Rq4 eq4 => ?_
   clear eq3 Rq3
   have hG7:=hG2.same sC
   refine ⟨_,rfl,l4,_,_,.ref q0,rfl,rfl,SqL.of hl47,(atI_nat (j:=0) (by rfl)),?_⟩
   refine ⟨_,rfl,Z.x,C,Z.dx,_,_,rfl,hG7.fields,Zc.cl,Zc.nM,rfl,_,rfl,Z.m,_,_,g,rfl,rfl,hG7.mem,?_,?_⟩
   ·rw [List.length_map,List.length_set]
    exact ixN_nat hgl
   have eset : ((mq.set g (q,U)).map fun q => V.ref q.1).set g (V.ref q0) = (mq.set g (q0,P0)).map fun q => V.ref q.1:=by
    rw [List.map_set,List.map_set,List.set_set]
   rw [eset]
   have n0:=(List.nodup_cons.mp hrtn).1
   have hmem7 : ∀ y ∈ mq,y.1 ≠ q -> H7 y.1 = some (.dK (tr y.2)):=fun y hy hne => by
    obtain ⟨i,hi⟩:=List.getElem?_of_mem hy
    have hig : g ≠ i:=fun z => by subst z; rw [hg] at hi; cases hi; exact hne rfl
    exact hG7.mems y (List.mem_of_getElem? (i:=i) (by rw [List.getElem?_set,if_neg hig]; exact hi))
   have hkey : ∀ y ∈ mq.set g (q0,P0),y = (q0,P0) ∨ (y ∈ mq /\ y.1 ≠ q):=fun y hy => by
    obtain ⟨i,hi⟩:=List.getElem?_of_mem hy
    rw [List.getElem?_set] at hi
    by_cases z : g = i
    ·rw [if_pos z,if_pos (z ▸ hgl)] at hi
     cases hi
     exact .inl rfl
    ·rw [if_neg z] at hi
     refine .inr ⟨List.mem_of_getElem? hi,fun e => z ?_⟩
     exact nodup_ixA hG.nd (x:=q) (by rw [List.getElem?_map,hg]; rfl) (by rw [List.getElem?_map,hi,<- e]; rfl)
   have hold2 : ∀ y ∈ mq,H2 y.1 ≠ none:=fun y hy z => by
    have h1 : y.1 ∈ (mq.set g (q,U)).map (·.1):=by rw [hset]; exact List.mem_map.mpr ⟨y,hy,rfl⟩
    obtain ⟨y',hy',e⟩:=List.mem_map.mp h1
    have:=hG2.mems y' hy'
    exact clX e this z rfl
   have hrt_new : ∀ y ∈ (q0,P0) :: rest,∀ m ∈ mq,m.1 ≠ q -> y.1 ≠ m.1:=fun y hy m hm hne e => by
    rcases hrtf y hy with z | z
    ·exact hne (e.symm.trans z)
    ·rw [e] at z; exact hold2 m hm z
   have hrt_wd : ∀ y ∈ (q0,P0) :: rest,y.1 ≠ wd:=fun y hy e => by
    rcases hrtf y hy with z | z
    ·exact hG.nwd (q,R) (List.mem_of_getElem? hg) (z.symm.trans e)
    ·exact clX e z hG2.wt rfl
   have hG8:=hG7.setM (mq.set g (q0,P0)) (fun y hy => ?_) ?_
   rotate_left
   ·rcases hkey y hy with rfl | ⟨h1,h2⟩
    ·exact ⟨hrt7 _ (List.mem_cons_self ..),hrt_wd _ (List.mem_cons_self ..)⟩
    ·exact ⟨hmem7 y h1 h2,hG.nwd y h1⟩
   ·refine nd_of_ix fun i j x hi hj => ?_
    rw [List.getElem?_map] at hi hj
    cases ei : (mq.set g (q0,P0))[i]? with
    | none => rw [ei] at hi; cases hi
    | some yi =>
     cases ej : (mq.set g (q0,P0))[j]? with
     | none => rw [ej] at hj; cases hj
     | some yj =>
      rw [ei] at hi
      rw [ej] at hj
      have hi : yi.1 = x:=Option.some.inj hi
      have hj : yj.1 = x:=Option.some.inj hj
      rw [List.getElem?_set] at ei ej
      by_cases zi : g = i <;> by_cases zj : g = j
      ·omega
      ·exfalso
       rw [if_pos zi,if_pos (zi ▸ hgl)] at ei
       rw [if_neg zj] at ej
       cases ei
       have hjq : yj.1 ≠ q:=fun e => zj (nodup_ixA hG.nd (x:=q) (by rw [List.getElem?_map,hg]; rfl) (by rw [List.getElem?_map,ej,<- e]; rfl))
       exact hrt_new _ (List.mem_cons_self ..) yj (List.mem_of_getElem? ej) hjq (hi.trans hj.symm)
      ·exfalso
       rw [if_neg zi] at ei
       rw [if_pos zj,if_pos (zj ▸ hgl)] at ej
       cases ej
       have hiq : yi.1 ≠ q:=fun e => zi (nodup_ixA hG.nd (x:=q) (by rw [List.getElem?_map,hg]; rfl) (by rw [List.getElem?_map,ei,<- e]; rfl))
       exact hrt_new _ (List.mem_cons_self ..) yi (List.mem_of_getElem? ei) hiq (hj.trans hi.symm)
      ·rw [if_neg zi] at ei
       rw [if_neg zj] at ej
       exact nodup_ixA hG.nd (x:=x) (by rw [List.getElem?_map,ei]; exact congrArg some hi) (by rw [List.getElem?_map,ej]; exact congrArg some hj)
   have hl48 : upd H7 Z.m (.lst ((mq.set g (q0,P0)).map fun q => V.ref q.1)) l4 = some (.lst (((q0,P0) :: rest).map fun y => V.ref y.1)):=unX (fun z => by exact clX z hl40 hG2.mem rfl) hl47
   have hrt8 : ∀ y ∈ rest,upd H7 Z.m (.lst ((mq.set g (q0,P0)).map fun q => V.ref q.1)) y.1 = some (.dK (tr y.2)):=fun y hy => by
    have:=hrt7 y (List.mem_cons_of_mem _ hy)
    rw [upd_ne (nfX this hG7.mem rfl)]
    exact this
   have mv7 : Mv (mutG Z mq wd) (mutG Z mq wd) H H7:=mv2.trans (Mv.same sC _)
   have mv8 : Mv (mutG Z mq wd) (mutG Z (mq.set g (q0,P0)) wd) H (upd H7 Z.m (.lst ((mq.set g (q0,P0)).map fun q => V.ref q.1))):=by
    refine ⟨(mv7.trans (Mv.put (by simp [mutG]))).keep,fun b hb => ?_⟩
    simp only [mutG,List.mem_cons] at hb ⊢
    rcases hb with h | h | h | h | h
    ·exact .inl (.inl h)
    ·exact .inl (.inr (.inl h))
    ·exact .inl (.inr (.inr (.inl h)))
    ·exact .inl (.inr (.inr (.inr (.inl h))))
    ·obtain ⟨y,hy,rfl⟩:=List.mem_map.mp h
     rcases hkey y hy with rfl | ⟨h1,_⟩
     ·rcases hrtf _ (List.mem_cons_self ..) with z | z
      ·refine .inl (.inr (.inr (.inr (.inr ?_))))
       exact List.mem_map.mpr ⟨(q,R),List.mem_of_getElem? hg,z.symm⟩
      ·by_cases hin : q0 ∈ mutG Z mq wd
       ·exact .inl (by simpa only [mutG,List.mem_cons] using hin)
       ·refine .inr ?_
        cases e : H q0 with
        | none => rfl
        | some u => rw [mv2.keep _ u e hin] at z; cases z
     ·exact .inl (.inr (.inr (.inr (.inr (List.mem_map.mpr ⟨y,h1,rfl⟩)))))
   generalize upd H7 Z.m (.lst ((mq.set g (q0,P0)).map fun q => V.ref q.1)) = H8 at hG8 hl48 hrt8 mv8
   refine seq_e (R:=Rq4) eq4 ?_
   clear eq4 Rq4
   refine ⟨_,rfl,1,rfl,l4,_,rfl,SqL.of hl48,fun l5 hl5 => ?_⟩
   have ecut : cutV (((q0,P0) :: rest).map fun y => V.ref y.1) (some 1) none = rest.map fun y => V.ref y.1:=by
    have h1 : HT.sIx (((q0,P0) :: rest).map fun y => V.ref y.1).length 0 (some 1) = 1:=by
     have:=HT.sIx_nat (((q0,P0) :: rest).map fun y => V.ref y.1).length 0 1
     rw [show ((1 : Nat) : Int) = (1 : Int) from rfl] at this
     rw [this,List.length_map,List.length_cons]
     omega
    rw [cutV,h1,HT.sIx_none]
    rw [List.take_of_length_le (by rw [List.length_drop]; exact Nat.le_refl _)]
    rfl
   rw [ecut]
   have s9 : Same H8 (upd H8 l5 (.lst (rest.map fun y => V.ref y.1))):=same_upd hl5
   have n5 : ∀ b u,H8 b = some u -> l5 ≠ b:=fun b u e z => by exact clX z hl5 e rfl
   refine ⟨l5,rfl,⟨_,SqL.of upd_same⟩,?_⟩
   have hk0 : ∀ r,r < Z.hs.length -> gv gof r < mq.length:=fun r hr' => by have:=gi.lt r hr'; rw [List.length_map] at this; exact this
   have disA : (nz rest).map (·.2) = (rest.map (·.2)).filter fun P => decide (0 < P.length):=nz_snd rest
   have dis : ((nz rest).map (·.2)).Pairwise fun P Q => ∀ x ∈ P,x ∉ Q:=by
    rw [disA]
    exact ((List.pairwise_cons.mp hsp2.diff).2.imp fun z x hx hy => z x hx x hy rfl).sublist List.filter_sublist
   refine for_list (xs:=rest.map fun y => V.ref y.1) (fun j σ H9 => Ex2 fun (wt2 : List Nat) (v7 : Option V) => An9 (σ = [some (.ref Z.x),some (.int (g : Int)),some (.ref p),some (.ref q),v4,v5,some (.ref l4),v7]) (GrAt C Z H9 (addP gof mq.length ((nz (rest.take j)).map (·.2))) (mq.set g (q0,P0) ++ nz (rest.take j)) wd wt2) ((∀ y ∈ rest,H9 y.1 = some (.dK (tr y.2)))) (H9 l5 = some (.lst (rest.map fun y => V.ref y.1))) (l5 ∉ mutG Z (mq.set g (q0,P0) ++ nz (rest.take j)) wd) (wt2.Nodup) ((∀ r ∈ wt2,r < Z.hs.length)) ((∀ x,x ∈ wt2 ↔ x ∈ wt ∨ (x < Z.hs.length /\ ∃ b,∃ y ∈ nz (rest.take j),stp Z.hs x b ∈ y.2))) (Mv (mutG Z mq wd) (mutG Z (mq.set g (q0,P0) ++ nz (rest.take j)) wd) H H9))
    ⟨wt,none,rfl,by have e : nz (rest.take 0) = []:=rfl; rw [e,List.append_nil]; exact hG8.same s9,fun y hy => s9 _ _ (hrt8 y hy),upd_same,by
               have e : nz (rest.take 0) = []:=rfl
               rw [e,List.append_nil]
               intro z
               have z:=memM z
               rcases z with z | z | z | z | z
               ·exact n5 _ _ hG8.ob z
               ·exact n5 _ _ hG8.gof z
               ·exact n5 _ _ hG8.mem z
               ·exact n5 _ _ hG8.wt z
               ·obtain ⟨y,hy,e⟩:=List.mem_map.mp z
                exact n5 _ _ (hG8.mems y hy) e.symm,hwn,hwl,fun x => by
               have e : nz (rest.take 0) = []:=rfl
               rw [e]
               simp,by
               have e : nz (rest.take 0) = []:=rfl
               rw [e,List.append_nil]
               exact mv8.trans (Mv.same s9 _)⟩ (by rintro j σ H9 _ ⟨_,_,_,_,_,z,_⟩; exact SqL.of z) ?_ ?_
   ·intro j y σ H9 hy hP0
    refine kqX fun K0 eK0 => ?_
    obtain ⟨wt2,v7,rfl,hG9,hrt9,hl59,hl5m,hn9,hl9,hm9,mv9⟩:=hP0
    rw [List.getElem?_map] at hy
    cases hyr : rest[j]? with
    | none => rw [hyr] at hy; cases hy
    | some yr =>
    rw [hyr] at hy
    cases hy
    obtain ⟨qj,Pj⟩:=yr
    have hym:=List.mem_of_getElem? hyr
    have htk:=take_snoc hyr
    have hqj9 : H9 qj = some (.dK (tr Pj)):=hrt9 _ hym
    subst eK0
    refine ⟨_,rfl,qj,_,rfl,hqj9,_,_,rfl,rfl,_,rfl,?_⟩
    rw [tr_len]
    by_cases hz : 0 < Pj.length
    ·refine ifT (decide_eq_true (by omega)) ?_
     have hnz : nz (rest.take (j + 1)) = nz (rest.take j) ++ [(qj,Pj)]:=by
      unfold nz
      rw [htk,List.filter_append]
      congr 1
      rw [List.filter_cons,if_pos (decide_eq_true hz)]
      rfl
     have hqjm : qj ∉ mutG Z (mq.set g (q0,P0) ++ nz (rest.take j)) wd:=by
      intro z
      have z:=memM z
      rcases z with z | z | z | z | z
      ·exact clX z hqj9 hG9.ob rfl
      ·exact clX z hqj9 hG9.gof rfl
      ·exact clX z hqj9 hG9.mem rfl
      ·exact hrt_wd _ (List.mem_cons_of_mem _ hym) z
      ·obtain ⟨m,hm,e⟩:=List.mem_map.mp z
       rcases List.mem_append.mp hm with hm | hm
       ·rcases hkey m hm with rfl | ⟨h1,h2⟩
        ·exact n0 (List.mem_map.mpr ⟨_,hym,e.symm⟩)
        ·exact hrt_new _ (List.mem_cons_of_mem _ hym) m h1 h2 e.symm
       ·have hmt:=(List.mem_filter.mp hm).1
        obtain ⟨i,hi⟩:=List.getElem?_of_mem hmt
        rw [List.getElem?_take] at hi
        split at hi
        ·rename_i hij
         have:=nodup_ixA (List.nodup_cons.mp hrtn).2 (i:=i) (j:=j) (x:=qj) (by rw [List.getElem?_map,hi]; exact congrArg some e) (by rw [List.getElem?_map,hyr]; rfl)
         omega
        ·cases hi
     have hPjR : ∀ r ∈ Pj,r < Z.hs.length:=fun r hr' => hRl r (hsp2.sub Pj (List.mem_cons_of_mem _ (List.mem_map.mpr ⟨_,hym,rfl⟩)) r hr')
     have hmlen : (mq.set g (q0,P0) ++ nz (rest.take j)).length <= 400:=by
      rw [List.length_append,List.length_set]
      have h1 : (nz (rest.take j)).length <= (rest.take j).length:=List.length_filter_le _ _
      rw [List.length_take] at h1
      have h2:=gi.few
      rw [List.length_map] at h2
      have:=fx.few
      omega
     refine ⟨_,rfl,Z.x,Z.dx,_,rfl,hG9.fields,rfl,_,rfl,Z,_,_,wd,wt2,qj,Pj,rfl,hG9,fx,by rw [addP_len,gi.len],hqj9,hqjm,hPjR,hmlen,hn9,hl9,fun wt3 H10 hG10 hn10 hl10 hm10 mv10 => ?_⟩
     have ek : (mq.set g (q0,P0) ++ nz (rest.take j)).length = mq.length + ((nz (rest.take j)).map (·.2)).length:=by rw [List.length_append,List.length_set,List.length_map]
     rw [ek,<- addP_snoc] at hG10
     have em : (nz (rest.take j)).map (·.2) ++ [Pj] = (nz (rest.take (j + 1))).map (·.2):=by rw [hnz,List.map_append]; rfl
     rw [em,List.append_assoc,<- hnz] at hG10
     rw [List.append_assoc,<- hnz] at mv10
     have hqjH : qj ∈ mutG Z mq wd ∨ H qj = none:=by
      rcases hrtf _ (List.mem_cons_of_mem _ hym) with z | z
      ·have z : qj = q:=z
       rw [z]; exact .inl hqm
      ·by_cases hin : qj ∈ mutG Z mq wd
       ·exact .inl hin
       ·refine .inr ?_
        cases e : H qj with
        | none => rfl
        | some u => rw [mv2.keep _ u e hin] at z; cases z
     have hl5j : l5 ∉ qj :: mutG Z (mq.set g (q0,P0) ++ nz (rest.take j)) wd:=fun z => (List.mem_cons.mp z).elim (fun e => by exact clX e hl59 hqj9 rfl) hl5m
     refine ⟨wt3,_,rfl,hG10,fun y hy => ?_,mv10.keep _ _ hl59 hl5j,fun z => ?_,hn10,hl10,fun x => ?_,(mv9.more' hqjH).trans mv10⟩
     ·by_cases hyq : y.1 = qj
      ·obtain ⟨i,hi⟩:=List.getElem?_of_mem hy
       have:=nodup_ixA (List.nodup_cons.mp hrtn).2 (i:=i) (j:=j) (x:=qj) (by rw [List.getElem?_map,hi]; exact congrArg some hyq) (by rw [List.getElem?_map,hyr]; rfl)
       subst this
       rw [hyr] at hi
       cases hi
       exact hG10.mems (qj,Pj) (List.mem_append_right _ (by rw [hnz]; exact List.mem_append_right _ (List.mem_singleton.mpr rfl)))
      ·by_cases hin : y.1 ∈ mutG Z (mq.set g (q0,P0) ++ nz (rest.take j)) wd
       ·have hin:=memM hin
        have h9:=hrt9 y hy
        rcases hin with z | z | z | z | z
        ·exact clX z h9 hG9.ob rfl
        ·exact clX z h9 hG9.gof rfl
        ·exact clX z h9 hG9.mem rfl
        ·exact absurd z (hrt_wd _ (List.mem_cons_of_mem _ hy))
        ·obtain ⟨m,hm,e⟩:=List.mem_map.mp z
         have hm10:=hG10.mems m (by rw [hnz,<- List.append_assoc]; exact List.mem_append_left _ hm)
         have hm9':=hG9.mems m hm
         rw [e] at hm10 hm9'
         rw [h9] at hm9'
         rw [hm10,<- hm9']
       ·exact mv10.keep _ _ (hrt9 y hy) fun z => (List.mem_cons.mp z).elim hyq hin
     ·rcases mv10.new _ z with z | z
      ·exact hl5j z
      ·rw [hl59] at z; cases z
     ·rw [hm10 x,hm9 x,hnz,or_assoc]
      refine or_congr Iff.rfl ?_
      constructor
      ·rintro (⟨h1,b,y,hy,h2⟩ | ⟨h1,b,h2⟩)
       ·exact ⟨h1,b,y,List.mem_append_left _ hy,h2⟩
       ·exact ⟨h1,b,(qj,Pj),List.mem_append_right _ (List.mem_singleton.mpr rfl),h2⟩
      ·rintro ⟨h1,b,y,hy,h2⟩
       rcases List.mem_append.mp hy with hy | hy
       ·exact .inl ⟨h1,b,y,hy,h2⟩
       ·rw [List.mem_singleton.mp hy] at h2
        exact .inr ⟨h1,b,h2⟩
    ·refine ifF (decide_eq_false (by omega)) ?_
     have hnz : nz (rest.take (j + 1)) = nz (rest.take j):=by
      unfold nz
      rw [htk,List.filter_append,List.filter_cons,if_neg (by rw [decide_eq_false hz]; exact Bool.false_ne_true)]
      simp
     exact ⟨wt2,_,rfl,by rw [hnz]; exact hG9,hrt9,hl59,by rw [hnz]; exact hl5m,hn9,hl9,by rw [hnz]; exact hm9,by rw [hnz]; exact mv9⟩
   ·rintro σ H9 ⟨wt2,v7,rfl,hG9,hrt9,hl59,hl5m,hn9,hl9,hm9,mv9⟩
    rw [List.length_map,List.take_length] at hG9 hm9 mv9
    have hsp3 : Split R (mkOf l) (P0 :: (nz rest).map (·.2)):=by
     rw [disA]
     exact Split.full hsp2
    obtain ⟨gi',st'⟩:=part_ok (hs:=Z.hs) gi hmR hsp3 hP0 fun P' hP' z => by
     rw [disA] at hP'
     have:=of_decide_eq_true (List.mem_filter.mp hP').2
     rw [z] at this
     simp at this
    have elen : (mq.map (·.2)).length = mq.length:=List.length_map ..
    rw [elen] at gi' st'
    have emap : (mq.map (·.2)).set g P0 ++ (nz rest).map (·.2) = (mq.set g (q0,P0) ++ nz rest).map (·.2):=by rw [List.map_append,List.map_set]
    rw [emap] at gi'
    refine k _ _ wt2 H9 hG9 gi' st' hn9 hl9 (fun x hx => ?_) ?_ (fun e => ?_) mv9
    ·rw [hm9 x]
     refine or_congr Iff.rfl (and_congr_right fun _ => exists_congr fun b => ?_)
     rw [addP_led gi.len hk0 dis (fx.wf.stp hx b)]
     constructor
     ·rintro ⟨y,hy,h2⟩
      exact ⟨y.2,List.mem_map.mpr ⟨y,hy,rfl⟩,h2⟩
     ·rintro ⟨P',hP',h2⟩
      obtain ⟨y,hy,rfl⟩:=List.mem_map.mp hP'
      exact ⟨y,hy,h2⟩
    ·rw [List.length_append,List.length_set]
     exact Nat.le_add_right _ _
    ·rw [List.length_append,List.length_set] at e
     have : nz rest = []:=List.length_eq_zero_iff.mp (by omega)
     rw [this]
     rfl
end
end Law
set_option maxHeartbeats 8000000
namespace Law
open PySem L2 Hs PyProof.Rows
section
variable {P : Program} {w : World} {K : PySem.W.Frag} {mg : Str -> Option Value} {base : Heap} {f : Addr} {fd : FuncData}
theorem GrAt.rewait {C : Addr} {Z : GZ} {H H' : Hp} {gof : List Nat} {mq : Mq} {wd wd' : Addr} {wt : List Nat} (h : GrAt C Z H gof mq wd wt) (k : ∀ b u,H b = some u -> b ≠ wd -> b ≠ Z.x -> H' b = some u) (hx : H' Z.x = some (insG C Z wd')) (hw : H' wd' = some (.dK [])) (hn : ∀ q ∈ mq,q.1 ≠ wd') : GrAt C Z H' gof mq wd' []:=by
 have kl : ∀ b xs,H b = some (.lst xs) -> H' b = some (.lst xs):=fun b xs e => k b _ e (nfX e h.wt rfl) (nfX e h.ob rfl)
 have kt : ∀ b xs,H b = some (.tup xs) -> H' b = some (.tup xs):=fun b xs e => k b _ e (nfX e h.wt rfl) (nfX e h.ob rfl)
 exact { h with
  ob:=hx
  house:=⟨kl _ _ h.house.ob,h.house.rm.1,fun i p r e1 e2 => kt _ _ (h.house.rm.2 i p r e1 e2)⟩
  lead:=kl _ _ h.lead
  leads:=⟨h.leads.1,fun i p L e1 e2 => kl _ _ (h.leads.2 i p L e1 e2)⟩
  gof:=kl _ _ h.gof
  mem:=kl _ _ h.mem
  mems:=fun q hq => k _ _ (h.mems q hq) (h.nwd q hq) (nfX (h.mems q hq) h.ob rfl)
  wt:=hw
  nwd:=hn }
theorem mut_kind {C : Addr} {Z : GZ} {H : Hp} {gof : List Nat} {mq : Mq} {wd : Addr} {wt : List Nat} (h : GrAt C Z H gof mq wd wt) {b : Addr} (hb : b ∈ mutG Z mq wd) : (∃ u,H b = some u) /\ ∀ xs,H b ≠ some (.tup xs):=by
 have hb:=memM hb
 rcases hb with z | z | z | z | z
 ·rw [z,h.ob]; exact ⟨⟨_,rfl⟩,fun xs y => by cases y⟩
 ·rw [z,h.gof]; exact ⟨⟨_,rfl⟩,fun xs y => by cases y⟩
 ·rw [z,h.mem]; exact ⟨⟨_,rfl⟩,fun xs y => by cases y⟩
 ·rw [z,h.wt]; exact ⟨⟨_,rfl⟩,fun xs y => by cases y⟩
 ·obtain ⟨y,hy,e⟩:=List.mem_map.mp z
  rw [<- e,h.mems y hy]
  exact ⟨⟨_,rfl⟩,fun xs y => by cases y⟩
theorem putF_cons {g f : Str} {x v : V} {r : List (Str × V)} (h : g ≠ f) : putF f v ((g,x) :: r) = (g,x) :: putF f v r:=if_neg h
theorem putF_wait (a b c d e v : V) : putF "waiting" v [("house",a),("group_of",c),("members",d),("leading_to",b),("waiting",e)] = ([("house",a),("group_of",c),("members",d),("leading_to",b),("waiting",v)] : List (Str × V)):=by
 rw [putF_cons (by decide +kernel),putF_cons (by decide +kernel),putF_cons (by decide +kernel),putF_cons (by decide +kernel)]
 show _ :: _ :: _ :: _ :: (if ("waiting" : Str) = "waiting" then _ else _) = _
 rw [if_pos rfl]
noncomputable def spPw (C : Addr) : Sp:=fun vs H Q _ => Ex5 fun (Z : GZ) (gof : List Nat) (mq : Mq) (wd : Addr) (wt : List Nat) => An8 (vs = [.ref Z.x]) (GrAt C Z H gof mq wd wt) (GFix Z) (GI Z.hs.length gof (mq.map (·.2))) (GL Z.hs gof (fun r => r ∈ wt) (fun _ => False)) (wt.Nodup) ((∀ r ∈ wt,r < Z.hs.length)) (∀ (gof' : List Nat) (mq' : Mq) (wd' : Addr) (wt' : List Nat) (H' : Hp),GrAt C Z H' gof' mq' wd' wt' -> GI Z.hs.length gof' (mq'.map (·.2)) -> GL Z.hs gof' (fun r => r ∈ wt') (fun _ => False) -> wt'.Nodup -> (∀ r ∈ wt',r < Z.hs.length) -> mq.length <= mq'.length -> (mq'.length = mq.length -> wt' = []) -> Mv (mutG Z mq wd) (mutG Z mq' wd') H H' -> Q .non H')
noncomputable def kv9 (gs : List (Gp Nat Addr)) : List (Key × V):=gs.map fun x => (Sum.inl (x.m : Int),V.ref x.q)
theorem sc_pw : FnScope ["self","touched","group"] ["self"] (defScope (sG 4)):=⟨rfl,rfl,rfl,by decide +kernel,rfl,by decide +kernel,by decide +kernel⟩
theorem nd_rs : (["room","self"] : List Str).Nodup:=by decide +kernel
noncomputable def tWt (K : PySem.W.Frag) : TE:=tTup (tCons (tOp (rIxL K) (tFld K (tVar 1) "group_of") (tVar 0)) (tCons (tVar 0) tNil))
noncomputable def tAh (C : Addr) : TE:=tTup (tCons (tMeth C "groups_ahead" (spAhead C) [] E0 (tVar 1) (tCons (tVar 0) tNil)) (tCons (tVar 0) tNil))
theorem ok_pw {C fI fW fH fP fA fg fe : Addr} {dI dW dH dP dA fdg fde : FuncData} (T : Blt mg) (TS : mg "sorted" = none) (Zc : GrC K mg C fI fW fH fP fA dI dW dH dP dA) (Ga : Df K mg "gathered" 13 ["marked"] fg fdg) (Ex : Df K mg "exits_of" 9 ["house","room"] fe fde) : FnOk P w K mg base CX0 3 fW dW ["self"] (spPw C):=by
 have G_gath : FnOk P w K mg base CX0 2 fg fdg ["marked"] (spGath P w mkN):=(ok_gath Ga.fn).mono (by decide)
 have G_part : FnOk P w K mg base CX0 2 fP dP ["self","group","marked"] (spPart P w C mkP):=ok_part T TS Zc Ga
 have G_ahead : FnOk P w K mg base CX0 2 fH dH ["self","room"] (spAhead C):=ok_ahead Zc Ex
 refine Zc.fnW.ok sc_pw (fun vs H Q E h => ?_) (fun cdv A outer s H vs Q E hr h => ?_)
 ·obtain ⟨Z,gof,mq,wd,wt,rfl,_⟩:=h
  rfl
 ·obtain ⟨Z,gof,mq,wd,wt,rfl,hG,fx,gi,gl,hwn,hwl,k⟩:=h
  have hu:=hu_of hr
  refine ⟨_,(pss_cons (ps_set (i:=1) sc_pw.nd rfl (Or.inl rfl) (pe_call G_gath hr rfl Ga.m Ga.fn.kp Ga.b .nil pass0 (pa_cons (pe_comp (te:=tWt K) (N':=["room","self"]) (cap:=[none,some 0]) (cl:=[("self",s.heap.objs.size + 1)]) (g:=gName 0) rfl ?cs1 (pi_dict (pe_fld (pv 0) rfl)) (by exact fun _ _ _ _ => (pg_name (i:=0) nd_rs rfl (Or.inl rfl))) (by exact fun _ _ _ _ => pf_nil) (by exact fun _ _ _ _ => (pe_tup (pa_cons (pe_ix (ix_listK (K':=K) rfl) (pe_fld (pv 1) rfl) (pv 0) (fun _ _ => rfl)) (pa_cons (pv 0) pa_nil))))) pa_nil)))
   (pss_cons (ps_fld (pv 0) pe_dnewK rfl)
   (pss_one (ps_for PassesOwn.never rfl (pi_dict (pv 1)) (pg_name (i:=2) sc_pw.nd rfl (Or.inl rfl))
    (pss_one (ps_expr (pe_meth (pv 0) Zc.cl Zc.mP G_part hr Zc.bP .nil pass0 (pa_cons (pv 2) (pa_cons (pe_comp (te:=tAh C) (N':=["room","self"]) (cap:=[none,some 0]) (cl:=[("self",s.heap.objs.size + 1)]) (g:=gName 0) rfl ?cs2 (pi_dict (pe_dget hu (pv 1) (pv 2) (fun _ _ => rfl))) (by exact fun _ _ _ _ => (pg_name (i:=0) nd_rs rfl (Or.inl rfl))) (by exact fun _ _ _ _ => pf_nil) (by exact fun _ _ _ _ => (pe_tup (pa_cons (pe_meth (pv 1) Zc.cl Zc.mH G_ahead hr Zc.bH .nil pass0 (pa_cons (pv 0) pa_nil)) (pa_cons (pv 0) pa_nil))))) pa_nil))))))))),?_⟩
  case cs1 =>
   refine ⟨rfl,by decide +kernel,by decide +kernel,by kernel_rfl,rfl,nd_rs,sub_of (fun p hp => ?_),fun p hp hf => ?_,fun i x j h1 h2 => ?_⟩
   ·rw [List.mem_singleton.mp hp]; rfl
   ·exact has_of (l:=[("self",s.heap.objs.size + 1)]) (ns:=["self"]) (by decide +kernel) (by intro y hy; rw [List.mem_singleton.mp hy]; exact ⟨_,rfl⟩) p hp hf
   ·match i,h1,h2 with
    | 0,_,h2 => cases h2
    | 1,h1,h2 => cases h1; cases h2; exact ⟨rfl,Or.inl rfl,rfl⟩
    | i + 2,h1,_ => cases h1
  case cs2 =>
   refine ⟨rfl,by decide +kernel,by decide +kernel,by kernel_rfl,rfl,nd_rs,sub_of (fun p hp => ?_),fun p hp hf => ?_,fun i x j h1 h2 => ?_⟩
   ·rw [List.mem_singleton.mp hp]; rfl
   ·exact has_of (l:=[("self",s.heap.objs.size + 1)]) (ns:=["self"]) (by decide +kernel) (by intro y hy; rw [List.mem_singleton.mp hy]; exact ⟨_,rfl⟩) p hp hf
   ·match i,h1,h2 with
    | 0,_,h2 => cases h2
    | 1,h1,h2 => cases h1; cases h2; exact ⟨rfl,Or.inl rfl,rfl⟩
    | i + 2,h1,_ => cases h1
  have hn60:=fx.few
  have hwlen : wt.length <= 60:=Nat.le_trans (nodup_lt _ wt hwn hwl) fx.few
  refine seq_ fun Ra qa => ?_
  refine ⟨_,rfl,Z.x,C,Z.dx,_,_,rfl,hG.fields,Zc.cl,Zc.nW,rfl,wd,_,rfl,hG.wt,fun o1 D1 hD1 => ?_⟩
  have fz1 : upd H wd (.frz o1 (.dK (tr wt))) wd = some (.frz o1 (.dK (tr wt))):=upd_same
  have kp1 : ∀ b u,H b = some u -> b ≠ wd -> upd H wd (.frz o1 (.dK (tr wt))) b = some u:=fun b u e n => unX n e
  have none1 : ∀ b,upd H wd (.frz o1 (.dK (tr wt))) b = none -> H b = none:=fun b e => by
   by_cases z : b = wd
   ·exact clX z e upd_same rfl
   ·rw [upd_ne z] at e; exact e
  generalize upd H wd (.frz o1 (.dK (tr wt))) = H1 at hD1 fz1 kp1 none1
  have hob1 : H1 Z.x = some (insG C Z wd):=kp1 _ _ hG.ob (nfX hG.ob hG.wt rfl)
  have hgo1 : H1 Z.ga = some (.lst (nV gof)):=kp1 _ _ hG.gof (nfX hG.gof hG.wt rfl)
  have hgofl : gof.length = Z.hs.length:=gi.len
  refine comp_any (xs:=(tr wt).map fun p => kV p.1) (fun σ => ∃ v0,σ = [v0,some (.ref Z.x)]) (fun i v H5 => ∀ r,wt[i]? = some r -> ∃ t,v = .ref t /\ H5 t = some (.tup [.int (gv gof r : Nat),.int (r : Int)])) (fun i v H5 H6 st h r e => let ⟨t,e1,e2⟩:=h r e; ⟨t,e1,st _ _ e2⟩) (it_dict fz1) (by rw [List.length_map,tr_len]; omega) hD1 ⟨none,rfl⟩ ?_ gm_name ?_
  ·rintro i x σ H5 Qk hx ⟨v0,rfl⟩ s5 k5
   rw [keys_nV] at hx
   obtain ⟨r,hr',rfl⟩:=nV_get hx
   have hrl:=hwl r (List.mem_of_getElem? hr')
   refine ⟨_,rfl,Z.x,C,Z.dx,_,_,rfl,s5 _ _ hob1,Zc.cl,Zc.nG,rfl,_,rfl,Z.ga,_,_,_,rfl,rfl,SqL.of (s5 _ _ hgo1),atI_gv (by rw [hgofl]; exact hrl),?_⟩
   refine ⟨_,rfl,(by show 2 <= sizeLine; decide),fun t ht => ?_⟩
   refine k5 _ _ _ ⟨_,rfl⟩ (same_upd ht) fun r2 e2 => ?_
   rw [hr'] at e2
   cases e2
   exact ⟨t,rfl,upd_same⟩
  intro ys H2 hyl hR2 s2 hD2
  rw [List.length_map,tr_len] at hyl
  obtain ⟨ts,hts⟩ : ∃ ts : List Addr,ys = ts.map V.ref:=refs_of fun i v e => by
   have hi : i < wt.length:=by rw [<- hyl]; exact (List.getElem?_eq_some_iff.mp e).1
   obtain ⟨t,e1,_⟩:=hR2 i v e wt[i] (by simp [hi])
   exact ⟨t,e1⟩
  subst hts
  rw [List.length_map] at hyl
  have hmk2 : MkAt mkN H2 ts (wt.map fun r => (gv gof r,r)):=⟨by rw [List.length_map]; exact hyl,fun i t p e1 e2 => by
   rw [List.getElem?_map] at e2
   cases hr' : wt[i]? with
   | none => rw [hr'] at e2; cases e2
   | some r =>
    rw [hr'] at e2
    cases e2
    obtain ⟨t',e3,e4⟩:=hR2 i (.ref t) (by rw [List.getElem?_map,e1]; rfl) r hr'
    cases e3
    exact ⟨_,e4,rfl⟩⟩
  refine ⟨_,ts,_,rfl,hD2,hmk2,by rw [List.length_map]; omega,fun td gs H3 s3 htd htd3 hGt hGa hne hgsl => ?_⟩
  have s13 : Same H1 H3:=s2.trans s3
  have htd3 : H3 td = some (.dK (kv9 gs)):=htd3
  refine seq_n (R:=Ra) qa fun Rb qb => ?_
  clear qa Ra
  refine fun wd' hwd' => ?_
  have s4 : Same H3 (upd H3 wd' (.dK [])):=same_upd hwd'
  have hob4 : upd H3 wd' (.dK []) Z.x = some (insG C Z wd):=s4 _ _ (s13 _ _ hob1)
  refine ⟨_,rfl,Z.x,C,Z.dx,_,rfl,hob4,Zc.cl,Zc.nW,(by show 5 < 1000; decide),?_⟩
  rw [putF_wait]
  have hwd4 : upd H3 wd' (.dK []) wd' = some (.dK []):=upd_same
  have hn3 : ∀ b u,H3 b = some u -> b ≠ wd':=fun b u e z => by exact clX z e hwd' rfl
  have s14 : Same H1 (upd H3 wd' (.dK [])):=s13.trans s4
  have htd4 : upd H3 wd' (.dK []) td = some (.dK (kv9 gs)):=s4 _ _ htd3
  have hgs4 : ∀ x ∈ gs,upd H3 wd' (.dK []) x.q = some (.dK (tr x.R)):=fun x hx => s4 _ _ (hGt.new x hx).2.2
  generalize upd H3 wd' (.dK []) = H4 at s4 hob4 hwd4 s14 htd4 hgs4
  have kp5 : ∀ b u,H4 b = some u -> b ≠ Z.x -> upd H4 Z.x (.ins C Z.dx [("house",.ref Z.a),("group_of",.ref Z.ga),("members",.ref Z.m),("leading_to",.ref Z.l),("waiting",.ref wd')]) b = some u:=fun b u e n => unX n e
  have hob5 : upd H4 Z.x (.ins C Z.dx [("house",.ref Z.a),("group_of",.ref Z.ga),("members",.ref Z.m),("leading_to",.ref Z.l),("waiting",.ref wd')]) Z.x = some (insG C Z wd'):=upd_same
  generalize upd H4 Z.x (.ins C Z.dx [("house",.ref Z.a),("group_of",.ref Z.ga),("members",.ref Z.m),("leading_to",.ref Z.l),("waiting",.ref wd')]) = H5 at kp5 hob5
  have hG5 : GrAt C Z H5 gof mq wd' []:=hG.rewait (fun b u e n1 n2 => kp5 _ _ (s14 _ _ (kp1 _ _ e n1)) n2) hob5 (kp5 _ _ hwd4 (nfX hwd4 hob4 rfl)) fun q hq => hn3 _ _ (s13 _ _ (kp1 _ _ (hG.mems q hq) (hG.nwd q hq)))
  have htd5 : H5 td = some (.dK (kv9 gs)):=kp5 _ _ htd4 (nfX htd4 hob4 rfl)
  have hgs5 : ∀ x ∈ gs,H5 x.q = some (.dK (tr x.R)):=fun x hx => kp5 _ _ (hgs4 x hx) (nfX (hgs4 x hx) hob4 rfl)
  have htdH : H td = none:=none1 _ (s2.none htd)
  have hgsH : ∀ x ∈ gs,H x.q = none /\ x.q ≠ td:=fun x hx => ⟨none1 _ (s2.none (hGt.new x hx).1),(hGt.new x hx).2.1⟩
  have hwdH : H wd' = none:=none1 _ (s13.none hwd')
  have mv5 : Mv (mutG Z mq wd) (mutG Z mq wd') H H5:=by
   refine ⟨fun b u e n => ?_,fun b hb => ?_⟩
   ·have n1 : b ≠ wd:=fun z => n (memN (.inr (.inr (.inr (.inl z)))))
    have n2 : b ≠ Z.x:=fun z => n (memN (.inl z))
    exact kp5 _ _ (s14 _ _ (kp1 _ _ e n1)) n2
   ·simp only [mutG,List.mem_cons] at hb ⊢
    rcases hb with z | z | z | z | z
    ·exact .inl (.inl z)
    ·exact .inl (.inr (.inl z))
    ·exact .inl (.inr (.inr (.inl z)))
    ·rw [z]; exact .inr hwdH
    ·exact .inl (.inr (.inr (.inr (.inr z))))
  have newM : ∀ b,H b = none -> b ≠ wd' -> b ∉ mutG Z mq wd':=fun b e n z => by
   have z:=memM z
   rcases z with z | z | z | z | z
   ·exact clX z e hG.ob rfl
   ·exact clX z e hG.gof rfl
   ·exact clX z e hG.mem rfl
   ·exact n z
   ·obtain ⟨y,hy,e2⟩:=List.mem_map.mp z
    exact clX e2.symm e (hG.mems y hy) rfl
  have htch:=Tch.start gl hGa hwl
  refine seq_e (R:=Rb) qb ?_
  clear qb Rb
  refine ⟨_,rfl,td,_,rfl,htd5,fun o2 => ?_⟩
  have tdne : ∀ x ∈ gs,x.q ≠ td:=fun x hx => (hgsH x hx).2
  have tdwd : td ≠ wd':=hn3 _ _ htd3
  have gswd : ∀ x ∈ gs,x.q ≠ wd':=fun x hx => hn3 _ _ (hGt.new x hx).2.2
  have frz6 : GrAt C Z (upd H5 td (.frz o2 (.dK (kv9 gs)))) gof mq wd' []:=by
   refine hG5.stay (newM td htdH tdwd) (fun z => by exact clX z htdH hG.house.ob rfl) (fun z => by exact clX z htdH hG.lead rfl) (fun z => ?_) (fun xs z => by rw [htd5] at z; cases z)
   obtain ⟨i,hi⟩:=List.getElem?_of_mem z
   have hil : i < Z.lead.length:=by rw [<- hG.leads.1]; exact (List.getElem?_eq_some_iff.mp hi).1
   rw [hG.leads.2 i td _ hi (show Z.lead[i]? = some Z.lead[i] by simp [hil])] at htdH
   cases htdH
  refine for_dict (kvs:=kv9 gs) (fun j σ H6 => Ex4 fun (gof2 : List Nat) (mq2 : Mq) (wt2 : List Nat) (v2 : Option V) => An13 (σ = [some (.ref Z.x),some (.ref td),v2]) (GrAt C Z H6 gof2 mq2 wd' wt2) (GI Z.hs.length gof2 (mq2.map (·.2))) (Tch Z.hs gof2 (fun r => r ∈ wt2) (gs.drop j)) (H6 td = some (.frz o2 (.dK (kv9 gs)))) ((∀ x ∈ gs.drop j,H6 x.q = some (.dK (tr x.R)))) (td ∉ mutG Z mq2 wd') ((∀ x ∈ gs.drop j,x.q ∉ mutG Z mq2 wd')) (wt2.Nodup) ((∀ r ∈ wt2,r < Z.hs.length)) (mq.length <= mq2.length) ((mq2.length = mq.length -> wt2 = [])) (Mv (mutG Z mq wd) (mutG Z mq2 wd') H H6))
   ⟨gof,mq,[],none,rfl,frz6,gi,⟨htch.gl.congr (fun r _ => by simp) fun _ _ => by rw [List.drop_zero],htch.at',htch.clo,htch.nd⟩,upd_same,fun x hx => unX (tdne x hx) (hgs5 x hx),newM td htdH tdwd,fun x hx => newM _ (hgsH x hx).1 (gswd x hx),by simp,by simp,Nat.le_refl _,fun _ => rfl,⟨fun b u e n => unX (fun z => by exact clX z e htdH rfl) (mv5.keep b u e n),mv5.new⟩⟩ (by rintro j σ H6 _ ⟨_,_,_,_,_,_,_,_,z,_⟩; exact z) ?_ ?_
  ·intro j kk vv σ H6 hkv hP0
   refine kqX fun K0 eK0 => ?_
   obtain ⟨gof2,mq2,wt2,v2,rfl,hG6,gi6,tch6,htd6,hgs6,tdm6,gsm6,hn6,hl6,hml6,hmw6,mv6⟩:=hP0
   obtain ⟨x,hxj,rfl,rfl⟩ : ∃ x,gs[j]? = some x /\ kk = (Sum.inl (x.m : Int) : Key) /\ vv = V.ref x.q:=by
    unfold kv9 at hkv
    rw [List.getElem?_map] at hkv
    cases e : gs[j]? with
    | none => rw [e] at hkv; cases hkv
    | some x => rw [e] at hkv; cases hkv; exact ⟨x,rfl,rfl,rfl⟩
   have hjl : j < gs.length:=(List.getElem?_eq_some_iff.mp hxj).1
   have hdrop : gs.drop j = x :: gs.drop (j + 1):=by
    rw [List.drop_eq_getElem_cons hjl]
    congr 1
    rw [List.getElem?_eq_getElem hjl] at hxj
    exact Option.some.inj hxj
   have hxg:=List.mem_of_getElem? hxj
   rw [hdrop] at tch6 hgs6 gsm6
   have hxq6:=hgs6 x (List.mem_cons_self ..)
   have hxm6:=gsm6 x (List.mem_cons_self ..)
   have hxat:=tch6.at' x (List.mem_cons_self ..)
   have hxn : x.R.Nodup:=hGa.nr x hxg
   have hxlen : x.R.length <= 60:=Nat.le_trans (nodup_lt _ x.R hxn fun r hr' => (hxat r hr').1) fx.few
   have hval : valV (kv9 gs) (Sum.inl (x.m : Int)) = some (.ref x.q):=kvG_val (C:=mkN) hGa.nd hxg
   subst eK0
   refine ⟨_,rfl,Z.x,Z.dx,_,rfl,hG6.fields,rfl,_,rfl,_,rfl,_,rfl,td,_,rfl,.inl ⟨_,Sum.inl (x.m : Int),.inr ⟨o2,htd6⟩,rfl,hval.symm⟩,x.q,_,rfl,hxq6,fun o3 D3 hD3 => ?_⟩
   have xa : x.q ≠ Z.a:=nfX hxq6 hG6.house.ob rfl
   have xl : x.q ≠ Z.l:=nfX hxq6 hG6.lead rfl
   have xls : x.q ∉ Z.ls:=fun z => by
    obtain ⟨i,hi⟩:=List.getElem?_of_mem z
    have hil : i < Z.lead.length:=by rw [<- hG6.leads.1]; exact (List.getElem?_eq_some_iff.mp hi).1
    have:=hG6.leads.2 i x.q _ hi (show Z.lead[i]? = some Z.lead[i] by simp [hil])
    rw [hxq6] at this
    cases this
   have hG7 : GrAt C Z (upd H6 x.q (.frz o3 (.dK (tr x.R)))) gof2 mq2 wd' wt2:=hG6.stay hxm6 xa xl xls (fun xs z => by rw [hxq6] at z; cases z)
   have fz7 : upd H6 x.q (.frz o3 (.dK (tr x.R))) x.q = some (.frz o3 (.dK (tr x.R))):=upd_same
   have kp7 : ∀ b u,H6 b = some u -> b ≠ x.q -> upd H6 x.q (.frz o3 (.dK (tr x.R))) b = some u:=fun b u e n => unX n e
   have mv7 : Mv (mutG Z mq wd) (mutG Z mq2 wd') H (upd H6 x.q (.frz o3 (.dK (tr x.R)))):=⟨fun b u e n => unX (fun z => by exact clX z e (hgsH x hxg).1 rfl) (mv6.keep b u e n),mv6.new⟩
   generalize upd H6 x.q (.frz o3 (.dK (tr x.R))) = H7 at hD3 hG7 fz7 kp7 mv7
   have hg2l : gof2.length = Z.hs.length:=gi6.len
   refine comp_any (xs:=(tr x.R).map fun p => kV p.1) (fun σ => ∃ v0,σ = [v0,some (.ref Z.x)]) (fun i v H8 => ∀ r,x.R[i]? = some r -> ∃ t t2,v = .ref t /\ H8 t = some (.tup [.ref t2,.int (r : Int)]) /\ H8 t2 = some (.tup [.int (gv gof2 (stp Z.hs r false) : Nat),.int (gv gof2 (stp Z.hs r true) : Nat)]))
    (fun i v H8 H9 st h r e => let ⟨t,t2,e1,e2,e3⟩:=h r e; ⟨t,t2,e1,st _ _ e2,st _ _ e3⟩) (it_dict fz7) (by rw [List.length_map,tr_len]; omega) hD3 ⟨none,rfl⟩ ?_ gm_name ?_
   ·rintro i y σ H8 Qk hy ⟨v0,rfl⟩ s8 k8
    rw [keys_nV] at hy
    obtain ⟨r,hr',rfl⟩:=nV_get hy
    have hrl:=(hxat r (List.mem_of_getElem? hr')).1
    have hG8:=hG7.same s8
    refine ⟨_,rfl,Z.x,Z.dx,_,rfl,hG8.fields,rfl,_,rfl,Z,gof2,mq2,wd',wt2,r,rfl,hG8,fx.wf,hg2l,hrl,fun t2 H9 s9 ht2 => ?_⟩
    refine ⟨_,rfl,(by show 2 <= sizeLine; decide),fun t ht => ?_⟩
    refine k8 _ _ _ ⟨_,rfl⟩ (s9.trans (same_upd ht)) fun r2 e2 => ?_
    rw [hr'] at e2
    cases e2
    exact ⟨t,t2,rfl,upd_same,same_upd ht _ _ ht2⟩
   intro ys3 H8 hyl3 hR8 s8 hD8
   rw [List.length_map,tr_len] at hyl3
   obtain ⟨ts3,hts3⟩ : ∃ ts3 : List Addr,ys3 = ts3.map V.ref:=refs_of fun i v e => by
    have hi : i < x.R.length:=by rw [<- hyl3]; exact (List.getElem?_eq_some_iff.mp e).1
    obtain ⟨t,t2,e1,_⟩:=hR8 i v e x.R[i] (by simp [hi])
    exact ⟨t,e1⟩
   subst hts3
   rw [List.length_map] at hyl3
   have hG8:=hG7.same s8
   obtain ⟨l3,hl3⟩ : ∃ l3,l3 = x.R.map fun r => ((gv gof2 (stp Z.hs r false),gv gof2 (stp Z.hs r true)),r):=⟨_,rfl⟩
   have hl3s : l3.map (·.2) = x.R:=by
    rw [hl3,List.map_map]
    exact (List.map_congr_left fun r _ => rfl).trans (List.map_id _)
   have hmk8 : MkAt mkP H8 ts3 l3:=⟨by rw [hl3,List.length_map]; exact hyl3,fun i t p e1 e2 => by
    rw [hl3,List.getElem?_map] at e2
    cases hr' : x.R[i]? with
    | none => rw [hr'] at e2; cases e2
    | some r =>
     rw [hr'] at e2
     cases e2
     obtain ⟨t',t2,e3,e4,e5⟩:=hR8 i (.ref t) (by rw [List.getElem?_map,e1]; rfl) r hr'
     cases e3
     exact ⟨_,e4,t2,rfl,e5⟩⟩
   obtain ⟨r0,hr0⟩:=List.exists_mem_of_ne_nil _ (hne x hxg)
   have hxml : x.m < mq2.length:=by
    have h1:=gi6.lt r0 (hxat r0 hr0).1
    rw [(hxat r0 hr0).2,List.length_map] at h1
    exact h1
   have hmg : mq2[x.m]? = some (mq2[x.m].1,mq2[x.m].2):=by simp [hxml]
   have hD7 : H7 D3 = none:=hD3
   have Dnew : ∀ b u,H7 b = some u -> D3 ≠ b:=fun b u e z => by exact clX z hD7 e rfl
   have hD3m : D3 ∉ mutG Z mq2 wd':=fun z => by obtain ⟨u,e⟩:=(mut_kind hG7 z).1; exact Dnew _ _ e rfl
   refine ⟨Z,gof2,mq2,wd',wt2,x.m,D3,_,_,ts3,l3,rfl,hG8,fx,gi6,hmg,hD8,hD3m,Dnew _ _ hG7.house.ob,Dnew _ _ hG7.lead,hmk8,by rw [hl3s]; exact hxn,fun y hy => ?_,hn6,hl6,fun gof3 mq3 wt3 H9 hG9 gi9 st9 hn9 hl9 hw9 hml9 hsame9 mv9 => ?_⟩
   ·have hyR : y.2 ∈ x.R:=by rw [<- hl3s]; exact List.mem_map.mpr ⟨y,hy,rfl⟩
    refine (gi6.mem x.m _ (by rw [List.getElem?_map,hmg]; rfl) y.2).mpr (hxat y.2 hyR)
   have kp9 : ∀ b u,H6 b = some u -> b ≠ x.q -> b ∉ mutG Z mq2 wd' -> H9 b = some u:=fun b u e n1 n2 => mv9.keep _ _ (s8 _ _ (kp7 _ _ e n1)) n2
   rw [hl3] at st9
   refine ⟨gof3,mq3,wt3,_,rfl,hG9,gi9,tch6.step fx.wf st9 hw9,kp9 _ _ htd6 (tdne x hxg).symm tdm6,fun y hy => ?_,fun z => ?_,fun y hy z => ?_,hn9,hl9,Nat.le_trans hml6 hml9,fun e => ?_,(mv7.trans (Mv.same s8 _)).trans mv9⟩
   ·have hyq : y.q ≠ x.q:=fun e => by
     have hyg : y ∈ gs:=List.mem_of_mem_drop hy
     have hnd:=hGt.nd
     obtain ⟨i,hi⟩:=List.getElem?_of_mem hy
     rw [List.getElem?_drop] at hi
     have:=nodup_ixA hnd (i:=j + 1 + i) (j:=j) (x:=x.q) (by rw [List.getElem?_map,hi]; exact congrArg some e) (by rw [List.getElem?_map,hxj]; rfl)
     omega
    exact kp9 _ _ (hgs6 y (List.mem_cons_of_mem _ hy)) hyq (gsm6 y (List.mem_cons_of_mem _ hy))
   ·rcases mv9.new _ z with y | y
    ·exact tdm6 y
    ·rw [s8 _ _ (kp7 _ _ htd6 (tdne x hxg).symm)] at y; cases y
   ·have hyq : y.q ≠ x.q:=fun e => by
     have hnd:=hGt.nd
     obtain ⟨i,hi⟩:=List.getElem?_of_mem hy
     rw [List.getElem?_drop] at hi
     have:=nodup_ixA hnd (i:=j + 1 + i) (j:=j) (x:=x.q) (by rw [List.getElem?_map,hi]; exact congrArg some e) (by rw [List.getElem?_map,hxj]; rfl)
     omega
    rcases mv9.new _ z with u | u
    ·exact gsm6 y (List.mem_cons_of_mem _ hy) u
    ·rw [s8 _ _ (kp7 _ _ (hgs6 y (List.mem_cons_of_mem _ hy)) hyq)] at u; cases u
   ·have e2 : mq3.length = mq2.length:=by omega
    have e3 : mq2.length = mq.length:=by omega
    have hg:=hsame9 e2
    have hw:=hmw6 e3
    subst hg
    refine List.eq_nil_iff_forall_not_mem.mpr fun y hy => ?_
    rcases (hw9 y (hl9 y hy)).mp hy with z | ⟨_,b,z⟩
    ·rw [hw] at z; simp at z
    ·exact z rfl
  ·rintro σ H6 ⟨gof2,mq2,wt2,v2,rfl,hG6,gi6,tch6,htd6,hgs6,tdm6,gsm6,hn6,hl6,hml6,hmw6,mv6⟩
   have e : gs.drop (kv9 gs).length = []:=by unfold kv9; rw [List.length_map,List.drop_length]
   rw [e] at tch6
   exact k gof2 mq2 wd' wt2 H6 hG6 gi6 tch6.end hn6 hl6 hml6 hmw6 mv6
end
end Law
set_option maxHeartbeats 8000000
namespace Law
open PySem L2 Hs PyProof.Rows
section
variable {P : Program} {w : World} {K : PySem.W.Frag} {mg : Str -> Option Value} {base : Heap} {f : Addr} {fd : FuncData}
theorem step_congr {μ ν : Type} {hs : List Rm} {g k : Nat} {mk : Nat -> μ} {mk' : Nat -> ν} {gof gof' : List Nat} (h : Step hs g k mk gof gof') (e : ∀ r s,r < hs.length -> s < hs.length -> (mk r = mk s ↔ mk' r = mk' s)) : Step hs g k mk' gof gof' :=
 ⟨fun r s hr hs' => (h.eq r s hr hs').trans (and_congr_right fun _ => ⟨fun z y => (e r s hr hs').mp (z y),fun z y => (e r s hr hs').mpr (z y)⟩),h.new⟩
noncomputable def muG (Z : GZ) (H : Hp) : Nat:=match H Z.m,H Z.x with
 | some (.lst xs),some (.ins _ _ fs) => 2 * (Z.hs.length - xs.length) + (match fs.lookup ("waiting" : Str) with
  | some (.ref wd) => (match H wd with
   | some (.dK kvs) => min 1 kvs.length
   | _ => 0)
  | _ => 0)
 | _,_ => 0
theorem muG_eq {C : Addr} {Z : GZ} {H : Hp} {gof : List Nat} {mq : Mq} {wd : Addr} {wt : List Nat} (h : GrAt C Z H gof mq wd wt) : muG Z H = 2 * (Z.hs.length - mq.length) + min 1 wt.length:=by
 unfold muG
 rw [h.mem,h.fields]
 show 2 * (Z.hs.length - (mq.map fun q => V.ref q.1).length) + (match H wd with | some (.dK kvs) => min 1 kvs.length | _ => 0) = _
 rw [h.wt,List.length_map]
 show _ + min 1 (tr wt).length = _
 rw [tr_len]
noncomputable def spGInit (C : Addr) : Sp:=fun vs H Q _ => Ex5 fun (x dx a : Addr) (ps : List Addr) (hs : List Rm) => An6 (vs = [.ref x,.ref a]) (H x = some (.ins C dx [])) (HouseAt H a ps hs) (Wf hs) (hs.length <= 60) (∀ (Z : GZ) (gof : List Nat) (mq : Mq) (wd : Addr) (H' : Hp),Z.x = x -> Z.a = a -> Z.ps = ps -> Z.hs = hs -> GrAt C Z H' gof mq wd [] -> Grouped hs gof (mq.map (·.2)) -> (∀ b u,H b = some u -> b ≠ x -> H' b = some u) -> Q .non H')
theorem sc_ginit : FnScope ["self","house"] ["self","house"] (defScope (sG 0)):=⟨rfl,rfl,rfl,by decide +kernel,rfl,by decide +kernel,by decide +kernel⟩
theorem nd_rh : (["room","house"] : List Str).Nodup:=by decide +kernel
theorem range_nV (n : Nat) : (List.range n).map (fun i : Nat => V.int (i : Int)) = nV (List.range n):=rfl
theorem gv_repl {n r : Nat} : gv (List.replicate n 0) r = 0:=by
 unfold gv
 rw [List.getD_eq_getElem?_getD,List.getElem?_replicate]
 split <;> rfl
noncomputable def spRa (C : Addr) : Sp:=fun vs H Q _ => Ex8 fun (x dx a : Addr) (fs : List (Str × V)) (ps : List Addr) (hs : List Rm) (r : Nat) (rm : Rm) => An6 (vs = [.ref x,.int (r : Int)]) (H x = some (.ins C dx fs)) (fs.lookup ("house" : Str) = some (.ref a)) (HouseAt H a ps hs) (hs[r]? = some rm) (∀ t,H t = none -> Q (.ref t) (upd H t (.tup [.int rm.l,.int rm.r])))
theorem sc_ra : FnScope ["self","room"] ["self","room"] (defScope (sG 1)):=⟨rfl,rfl,rfl,by decide +kernel,rfl,by decide +kernel,by decide +kernel⟩
theorem ok_ra {C fI fW fH fP fA fR fS fe : Addr} {dI dW dH dP dA dR dS fde : FuncData} (Zc : GrC K mg C fI fW fH fP fA dI dW dH dP dA) (Zd : GrD K C fR fS dR dS) (Ex : Df K mg "exits_of" 9 ["house","room"] fe fde) : FnOk P w K mg base CX0 2 fR dR ["self","room"] (spRa C):=by
 have G_exits : FnOk P w K mg base CX0 1 fe fde ["house","room"] spExits:=ok_exits Ex.fn
 refine Zd.fnR.ok sc_ra (fun vs H Q E h => ?_) (fun cdv A outer s H vs Q E hr h => ?_)
 ·obtain ⟨x,dx,a,fs,ps,hs,r,rm,rfl,_⟩:=h
  rfl
 ·obtain ⟨x,dx,a,fs,ps,hs,r,rm,rfl,hx,hl,hh,e0,k⟩:=h
  refine ⟨_,(pss_one (ps_ret (pe_call G_exits hr rfl Ex.m Ex.fn.kp Ex.b .nil pass0 (pa_cons (pe_fld (pv 0) rfl) (pa_cons (pv 1) pa_nil))))),?_⟩
  exact ⟨_,rfl,x,C,dx,_,_,rfl,hx,Zc.cl,Zc.nH,hl,_,rfl,a,ps,hs,r,rm,rfl,hh,e0,k⟩
noncomputable def lgt (hs : List Rm) : List V:=hs.map fun r => V.bl r.lit
theorem lgt_at {hs : List Rm} {r : Nat} (h : r < hs.length) : atI (lgt hs) (r : Int) = some (.bl (litAt hs r)):=by
 have e : hs[r]? = some hs[r]:=by simp [h]
 refine atI_nat ?_
 unfold lgt litAt
 rw [List.getElem?_map,e]
 rfl
noncomputable def spSort (C : Addr) : Sp:=fun vs H Q _ => Ex6 fun (x dx a ll : Addr) (ps : List Addr) (hs : List Rm) => An7 (vs = [.ref x,.ref ll]) (H x = some (.ins C dx [("house",.ref a)])) (HouseAt H a ps hs) (Wf hs) (hs.length <= 60) (H ll = some (.lst (lgt hs))) (∀ (Z : GZ) (gof : List Nat) (mq : Mq) (wd : Addr) (H' : Hp),Z.x = x -> Z.a = a -> Z.ps = ps -> Z.hs = hs -> GrAt C Z H' gof mq wd [] -> Grouped hs gof (mq.map (·.2)) -> (∀ b u,H b = some u -> b ≠ x -> H' b = some u) -> Q .non H')
theorem sc_sort : FnScope ["self","lights","room","there"] ["self","lights"] (defScope (sG 3)):=⟨rfl,rfl,rfl,by decide +kernel,rfl,by decide +kernel,by decide +kernel⟩
theorem nd_lit1 : (["lit"] : List Str).Nodup:=by decide +kernel
theorem nd_rl : (["room","lights"] : List Str).Nodup:=by decide +kernel
theorem ok_sort {C fI fW fH fP fA fR fS fg fe : Addr} {dI dW dH dP dA dR dS fdg fde : FuncData} (T : Blt mg) (TS : mg "sorted" = none) (TD : mg "dict" = none) (Zc : GrC K mg C fI fW fH fP fA dI dW dH dP dA) (Zd : GrD K C fR fS dR dS) (Ga : Df K mg "gathered" 13 ["marked"] fg fdg) (Ex : Df K mg "exits_of" 9 ["house","room"] fe fde) : FnOk P w K mg base CX0 4 fS dS ["self","lights"] (spSort C):=by
 have G_part : FnOk P w K mg base CX0 3 fP dP ["self","group","marked"] (spPart P w C mkB):=(ok_part T TS Zc Ga).mono (by decide)
 have G_pw : FnOk P w K mg base CX0 3 fW dW ["self"] (spPw C):=ok_pw T TS Zc Ga Ex
 have G_ra : FnOk P w K mg base CX0 3 fR dR ["self","room"] (spRa C):=(ok_ra Zc Zd Ex).mono (by decide)
 refine Zd.fnS.ok sc_sort (fun vs H Q E h => ?_) (fun cdv A outer s H vs Q E hr h => ?_)
 ·obtain ⟨x,dx,a,ll,ps,hs,rfl,_⟩:=h
  rfl
 ·obtain ⟨x,dx,a,ll,ps,hs,rfl,hx,hh,wf,few,hll,k⟩:=h
  refine ⟨_,(pss_cons (ps_fld (pv 0) (pe_comp (te:=tC (.int 0)) (N':=["lit"]) (cap:=[none]) (cl:=[]) (g:=gName 0) rfl ?cs1 (pi_list (pv 1)) (by exact fun _ _ _ _ => (pg_name (i:=0) nd_lit1 rfl (Or.inl rfl))) (by exact fun _ _ _ _ => pf_nil) (by exact fun _ _ _ _ => pe_int)) rfl)
   (pss_cons (ps_fld (pv 0) (pe_lst (pa_cons (pe_callTy (call_dictPairs rfl) (by rfl) TD boot_dict1 (pa_cons (pe_comp (te:=tTup (tCons (tVar 0) (tCons (tC (.bl true)) tNil))) (N':=["room"]) (cap:=[none]) (cl:=[]) (g:=gName 0) rfl ?cs2 (pi_range1 rfl T.range (pa_cons (pe_callB call_len_seq (by rfl) T.len PySem.boot_len (pa_cons (pv 1) pa_nil)) pa_nil)) (by exact fun _ _ _ _ => (pg_name (i:=0) nd_room1 rfl (Or.inl rfl))) (by exact fun _ _ _ _ => pf_nil) (by exact fun _ _ _ _ => (pe_tup (pa_cons (pv 0) (pa_cons pe_bl pa_nil))))) pa_nil)) pa_nil)) rfl)
   (pss_cons (ps_fld (pv 0) (pe_comp (te:=tLst tNil) (N':=["lit"]) (cap:=[none]) (cl:=[]) (g:=gName 0) rfl ?cs4 (pi_list (pv 1)) (by exact fun _ _ _ _ => (pg_name (i:=0) nd_lit1 rfl (Or.inl rfl))) (by exact fun _ _ _ _ => pf_nil) (by exact fun _ _ _ _ => (pe_lst pa_nil))) rfl)
   (pss_cons (ps_for PassesOwn.never rfl (pi_range1 rfl T.range (pa_cons (pe_callB call_len_seq (by rfl) T.len PySem.boot_len (pa_cons (pv 1) pa_nil)) pa_nil)) (pg_name (i:=2) sc_sort.nd rfl (Or.inl rfl))
    (pss_one (ps_for PassesOwn.never rfl (pi_tup (pe_meth (pv 0) Zc.cl Zd.mR G_ra hr Zd.bR .nil pass0 (pa_cons (pv 2) pa_nil))) (pg_name (i:=3) sc_sort.nd rfl (Or.inl rfl))
     (pss_one (ps_expr (pe_bm PySem.F.plainAttrs_list PySem.F.slot_list_append PySem.F.type_list_append mt_append (pe_ix ix_list (pe_fld (pv 0) rfl) (pv 3) (fun _ _ => rfl)) (pa_cons (pv 2) pa_nil)))))))
   (pss_cons (ps_fld (pv 0) (pe_callTy call_dictOf (by rfl) TD boot_dict1 (pa_cons (pe_ix ix_list (pe_fld (pv 0) rfl) pe_int (fun _ _ => rfl)) pa_nil)) rfl)
   (pss_cons (ps_expr (pe_meth (pv 0) Zc.cl Zc.mP G_part hr Zc.bP .nil pass0 (pa_cons pe_int (pa_cons (pe_comp (te:=tTup (tCons (tOp (rIxL K) (tVar 1) (tVar 0)) (tCons (tVar 0) tNil))) (N':=["room","lights"]) (cap:=[none,some 1]) (cl:=[("lights",s.heap.objs.size + 1)]) (g:=gName 0) rfl ?cs3 (pi_range1 rfl T.range (pa_cons (pe_callB call_len_seq (by rfl) T.len PySem.boot_len (pa_cons (pv 1) pa_nil)) pa_nil)) (by exact fun _ _ _ _ => (pg_name (i:=0) nd_rl rfl (Or.inl rfl))) (by exact fun _ _ _ _ => pf_nil) (by exact fun _ _ _ _ => (pe_tup (pa_cons (pe_ix (ix_listK (K':=K) rfl) (pv 1) (pv 0) (fun _ _ => rfl)) (pa_cons (pv 0) pa_nil))))) pa_nil))))
   (pss_one (ps_while PassesOwn.never (pt_cmpR op_gt (pe_callB call_lenD (by rfl) T.len PySem.boot_len (pa_cons (pe_fld (pv 0) rfl) pa_nil)) pe_int (nomark _))
    (pss_one (ps_expr (pe_meth0 (pv 0) Zc.cl Zc.mW G_pw hr Zc.bW .nil pass0))))))))))),?_⟩
  case cs1 =>
   refine ⟨rfl,by decide +kernel,by decide +kernel,by kernel_rfl,rfl,nd_lit1,sub_of (fun p hp => by simp at hp),fun p hp hf => ?_,fun i x j h1 h2 => ?_⟩
   ·exact has_of (l:=[]) (ns:=[]) (by decide +kernel) (by intro y hy; simp at hy) p hp hf
   ·match i,h1,h2 with
    | 0,_,h2 => cases h2
    | i + 1,h1,_ => cases h1
  case cs2 =>
   refine ⟨rfl,by decide +kernel,by decide +kernel,by kernel_rfl,rfl,nd_room1,sub_of (fun p hp => by simp at hp),fun p hp hf => ?_,fun i x j h1 h2 => ?_⟩
   ·exact has_of (l:=[]) (ns:=[]) (by decide +kernel) (by intro y hy; simp at hy) p hp hf
   ·match i,h1,h2 with
    | 0,_,h2 => cases h2
    | i + 1,h1,_ => cases h1
  case cs4 =>
   refine ⟨rfl,by decide +kernel,by decide +kernel,by kernel_rfl,rfl,nd_lit1,sub_of (fun p hp => by simp at hp),fun p hp hf => ?_,fun i x j h1 h2 => ?_⟩
   ·exact has_of (l:=[]) (ns:=[]) (by decide +kernel) (by intro y hy; simp at hy) p hp hf
   ·match i,h1,h2 with
    | 0,_,h2 => cases h2
    | i + 1,h1,_ => cases h1
  case cs3 =>
   refine ⟨rfl,by decide +kernel,by decide +kernel,by kernel_rfl,rfl,nd_rl,sub_of (fun p hp => ?_),fun p hp hf => ?_,fun i x j h1 h2 => ?_⟩
   ·rw [List.mem_singleton.mp hp]; rfl
   ·exact has_of (l:=[("lights",s.heap.objs.size + 1)]) (ns:=["lights"]) (by decide +kernel) (by intro y hy; rw [List.mem_singleton.mp hy]; exact ⟨_,rfl⟩) p hp hf
   ·match i,h1,h2 with
    | 0,_,h2 => cases h2
    | 1,h1,h2 => cases h1; cases h2; exact ⟨rfl,Or.inl rfl,rfl⟩
    | i + 2,h1,_ => cases h1
  have hpl : (lgt hs).length = hs.length:=List.length_map ..
  have ax : a ≠ x:=nfX hh.ob hx rfl
  have llx : ll ≠ x:=nfX hll hx rfl
  have KP : ∀ {H1 H2 : Hp} {o : HO},(∀ b u,H b = some u -> b ≠ x -> H1 b = some u) -> Same H1 H2 -> (∀ b u,H b = some u -> b ≠ x -> upd H2 x o b = some u):=fun h s b u e n => unX n (s _ _ (h b u e n))
  have HK : ∀ {H1 : Hp},(∀ b u,H b = some u -> b ≠ x -> H1 b = some u) -> HouseAt H1 a ps hs:=fun h => ⟨h _ _ hh.ob ax,hh.rm.1,fun i p r e1 e2 => h _ _ (hh.rm.2 i p r e1 e2) (nfX (hh.rm.2 i p r e1 e2) hx rfl)⟩
  refine seq_ fun Rq1 eq1 => ?_
  refine ⟨_,rfl,ll,rfl,⟨_,SqL.of hll⟩,fun D hD => ?_⟩
  refine comp_vals (xs:=lgt hs) (ys:=nV (List.replicate hs.length 0)) (fun σ => ∃ v0,σ = [v0]) (it_list (SqL.of hll)) (by rw [nV_len,hpl,List.length_replicate]) (by rw [hpl]; omega) hD ⟨none,rfl⟩ ?_ ?_ gm_name
  ·rintro i y z σ H5 Qk hy hz ⟨v0,rfl⟩ s5 k5
   obtain ⟨r,hr',rfl⟩:=nV_get hz
   rw [List.getElem?_replicate] at hr'
   split at hr'
   ·cases hr'
    exact k5 _ _ ⟨_,rfl⟩ (Same.refl _)
   ·cases hr'
  intro H1 s1 hD1
  refine ⟨_,rfl,x,C,dx,_,rfl,s1 _ _ hx,Zc.cl,Zc.nG,(by show 1 < 1000; decide),?_⟩
  have e1 : putF "group_of" (.ref D) [("house",.ref a)] = ([("house",.ref a),("group_of",.ref D)] : List (Str × V)):=by rw [putF_cons (by decide +kernel)]; rfl
  rw [e1]
  have Dx : D ≠ x:=fun z => by exact clX z hD hx rfl
  have aD : a ≠ D:=fun z => by exact clX z.symm hD hh.ob rfl
  have K2 : ∀ b u,H b = some u -> b ≠ x -> upd H1 x (.ins C dx [("house",.ref a),("group_of",.ref D)]) b = some u:=KP (fun b u e _ => e) s1
  have hD2 : upd H1 x (.ins C dx [("house",.ref a),("group_of",.ref D)]) D = some (.lst (nV (List.replicate hs.length 0))):=unX Dx hD1
  have hx2 : upd H1 x (.ins C dx [("house",.ref a),("group_of",.ref D)]) x = some (.ins C dx [("house",.ref a),("group_of",.ref D)]):=upd_same
  generalize upd H1 x (.ins C dx [("house",.ref a),("group_of",.ref D)]) = H2 at K2 hD2 hx2
  refine seq_n (R:=Rq1) eq1 fun Rq2 eq2 => ?_
  clear eq1 Rq1
  refine ⟨_,rfl,ll,_,rfl,.inl (SqL.of (K2 _ _ hll llx)),_,rfl,?_⟩
  rw [hpl]
  refine ⟨by omega,by omega,?_⟩
  rw [Int.toNat_natCast]
  refine fun D2 hD2' => ?_
  refine comp_any (xs:=(List.range hs.length).map fun i : Nat => V.int (i : Int)) (fun σ => ∃ v0,σ = [v0]) (fun i v H6 => ∀ r,(List.range hs.length)[i]? = some r -> ∃ t,v = .ref t /\ H6 t = some (.tup [.int (r : Int),.bl true])) (fun i v H6 H7 st h r e => let ⟨t,e1,e2⟩:=h r e; ⟨t,e1,st _ _ e2⟩) it_range (by rw [List.length_map,List.length_range]; omega) hD2' ⟨none,rfl⟩ ?_ gm_name ?_
  ·rintro i y σ H6 Qk hy ⟨v0,rfl⟩ s6 k6
   rw [range_nV] at hy
   obtain ⟨r,hr',rfl⟩:=nV_get hy
   refine ⟨_,rfl,(by show 2 <= sizeLine; decide),fun t ht => ?_⟩
   refine k6 _ _ _ ⟨_,rfl⟩ (same_upd ht) fun r2 e2 => ?_
   rw [hr'] at e2
   cases e2
   exact ⟨t,rfl,upd_same⟩
  intro ys H3 hyl hR3 s3 hD3
  rw [List.length_map,List.length_range] at hyl
  obtain ⟨ts,hts⟩ : ∃ ts : List Addr,ys = ts.map V.ref:=refs_of fun i v e => by
   have hi : i < hs.length:=by rw [<- hyl]; exact (List.getElem?_eq_some_iff.mp e).1
   obtain ⟨t,e1,_⟩:=hR3 i v e i (by simp [hi])
   exact ⟨t,e1⟩
  subst hts
  rw [List.length_map] at hyl
  refine ⟨D2,ts,List.range hs.length,rfl,hD3,by rw [List.length_range]; exact hyl,fun i t r e1 e2 => ?_,List.nodup_range,by rw [List.length_range]; omega,fun q hq => ?_⟩
  ·obtain ⟨t',e3,e4⟩:=hR3 i (.ref t) (by rw [List.getElem?_map,e1]; rfl) r e2
   cases e3
   exact e4
  have s4 : Same H3 (upd H3 q (.dK (tr (List.range hs.length)))):=same_upd hq
  have hq4 : upd H3 q (.dK (tr (List.range hs.length))) q = some (.dK (tr (List.range hs.length))):=upd_same
  generalize upd H3 q (.dK (tr (List.range hs.length))) = H4 at s4 hq4
  refine ⟨(by show 1 <= sizeLine; decide),fun m hm => ?_⟩
  have s5 : Same H4 (upd H4 m (.lst [.ref q])):=same_upd hm
  have hm5 : upd H4 m (.lst [.ref q]) m = some (.lst [.ref q]):=upd_same
  have s25:=(s3.trans s4).trans s5
  have hq5:=s5 _ _ hq4
  generalize upd H4 m (.lst [.ref q]) = H5 at s5 hm5 s25 hq5
  refine ⟨_,rfl,x,C,dx,_,rfl,s25 _ _ hx2,Zc.cl,Zc.nM,(by show 2 < 1000; decide),?_⟩
  have e5 : putF "members" (.ref m) [("house",.ref a),("group_of",.ref D)] = ([("house",.ref a),("group_of",.ref D),("members",.ref m)] : List (Str × V)):=by rw [putF_cons (by decide +kernel),putF_cons (by decide +kernel)]; rfl
  rw [e5]
  have s24:=s3.trans s4
  have mx : m ≠ x:=fun z => by exact clX z hm (s24 _ _ hx2) rfl
  have qx : q ≠ x:=fun z => by exact clX z hq (s3 _ _ hx2) rfl
  have m2 : ∀ b u,H2 b = some u -> b ≠ m:=fun b u e z => by rw [z] at e; rw [s24 _ _ e] at hm; cases hm
  have q2 : ∀ b u,H2 b = some u -> b ≠ q:=fun b u e z => by rw [z] at e; rw [s3 _ _ e] at hq; cases hq
  have K6 : ∀ b u,H b = some u -> b ≠ x -> upd H5 x (.ins C dx [("house",.ref a),("group_of",.ref D),("members",.ref m)]) b = some u:=KP K2 s25
  have S6 : ∀ b u,H5 b = some u -> b ≠ x -> upd H5 x (.ins C dx [("house",.ref a),("group_of",.ref D),("members",.ref m)]) b = some u:=fun b u e n => unX n e
  have hx6 : upd H5 x (.ins C dx [("house",.ref a),("group_of",.ref D),("members",.ref m)]) x = some (.ins C dx [("house",.ref a),("group_of",.ref D),("members",.ref m)]):=upd_same
  generalize upd H5 x (.ins C dx [("house",.ref a),("group_of",.ref D),("members",.ref m)]) = H6 at K6 S6 hx6
  have hm6:=S6 _ _ hm5 mx
  have hq6:=S6 _ _ hq5 qx
  have hD6:=S6 _ _ (s25 _ _ hD2) Dx
  refine seq_n (R:=Rq2) eq2 fun Rq3 eq3 => ?_
  clear eq2 Rq2
  have hll6:=K6 _ _ hll llx
  refine ⟨_,rfl,ll,rfl,⟨_,SqL.of hll6⟩,fun l hl => ?_⟩
  refine comp_pv (xs:=lgt hs) (fun σ => ∃ v0,σ = [v0]) (fun i ys H7 => Ex1 fun (ls : List Addr) => An3 (ys = ls.map V.ref) (ls.Nodup) (∀ p ∈ ls,H6 p = none /\ p ≠ l /\ H7 p = some (.lst []))) (it_list (SqL.of hll6)) (by rw [hpl]; omega) hl ⟨none,rfl⟩ ⟨[],rfl,by simp,by simp⟩ ?_ gm_name ?_
  ·rintro i y σ ys H7 Qk hy ⟨v0,rfl⟩ s7 hl7 hyl' ⟨ls,rfl,nd,hls⟩ k7
   refine ⟨Nat.zero_le _,fun p0 hp0 => ?_⟩
   have nql : p0 ≠ l:=(ne_of_none hl7 hp0).symm
   have s8 : Same H7 (upd H7 p0 (.lst [])):=same_upd hp0
   refine k7 _ _ _ ⟨_,rfl⟩ (s7.trans s8) (s8 _ _ hl7) ⟨ls ++ [p0],by rw [List.map_append]; rfl,?_,fun p hp => ?_⟩
   ·rw [List.nodup_append]
    refine ⟨nd,by simp,fun x hx y hy => ?_⟩
    rw [List.mem_singleton.mp hy]
    exact fun z => by rw [z] at hx; rw [(hls p0 hx).2.2] at hp0; cases hp0
   ·rcases List.mem_append.mp hp with hp | hp
    ·obtain ⟨h1,h2,h3⟩:=hls p hp
     exact ⟨h1,h2,unX h2 (s8 _ _ h3)⟩
    ·rw [List.mem_singleton.mp hp]
     exact ⟨s7.none hp0,nql,unX nql upd_same⟩
  rintro ys7 H7 hyl7 s7 hl7 ⟨ls,rfl,nd,hls⟩
  rw [List.length_map,hpl] at hyl7
  refine ⟨_,rfl,x,C,dx,_,rfl,s7 _ _ hx6,Zc.cl,Zc.nL,(by show 3 < 1000; decide),?_⟩
  have e7 : putF "leading_to" (.ref l) [("house",.ref a),("group_of",.ref D),("members",.ref m)] = ([("house",.ref a),("group_of",.ref D),("members",.ref m),("leading_to",.ref l)] : List (Str × V)):=by rw [putF_cons (by decide +kernel),putF_cons (by decide +kernel),putF_cons (by decide +kernel)]; rfl
  rw [e7]
  have l6 : ∀ b u,H6 b = some u -> b ≠ l:=fun b u e z => by exact clX z e hl rfl
  have lx : l ≠ x:=(l6 _ _ hx6).symm
  have lsn : ∀ p ∈ ls,∀ b u,H6 b = some u -> b ≠ p:=fun p hp b u e z => by exact clX z e (hls p hp).1 rfl
  have K8 : ∀ b u,H b = some u -> b ≠ x -> upd H7 x (.ins C dx [("house",.ref a),("group_of",.ref D),("members",.ref m),("leading_to",.ref l)]) b = some u:=KP K6 s7
  have S8 : ∀ b u,H7 b = some u -> b ≠ x -> upd H7 x (.ins C dx [("house",.ref a),("group_of",.ref D),("members",.ref m),("leading_to",.ref l)]) b = some u:=fun b u e n => unX n e
  have hx8 : upd H7 x (.ins C dx [("house",.ref a),("group_of",.ref D),("members",.ref m),("leading_to",.ref l)]) x = some (.ins C dx [("house",.ref a),("group_of",.ref D),("members",.ref m),("leading_to",.ref l)]):=upd_same
  generalize upd H7 x (.ins C dx [("house",.ref a),("group_of",.ref D),("members",.ref m),("leading_to",.ref l)]) = H8 at K8 S8 hx8
  have hls8 : ∀ p ∈ ls,H8 p = some (.lst []):=fun p hp => S8 _ _ (hls p hp).2.2 (lsn p hp _ _ hx6).symm
  have hl8:=S8 _ _ hl7 lx
  have S68 : ∀ b u,H6 b = some u -> b ≠ x -> H8 b = some u:=fun b u e n => S8 _ _ (s7 _ _ e) n
  refine seq_n (R:=Rq3) eq3 fun Rq4 eq4 => ?_
  clear eq3 Rq3
  refine ⟨_,rfl,ll,_,rfl,.inl (SqL.of (K8 _ _ hll llx)),_,rfl,?_⟩
  rw [hpl]
  refine ⟨by omega,by omega,?_⟩
  rw [Int.toNat_natCast]
  let Fr : Hp -> Prop:=fun H9 => ∀ b u,H8 b = some u -> b ∉ ls -> H9 b = some u
  refine for_range (lo:=0) (n:=hs.length) (fun i σ H9 => Ex3 fun (lead : List (List Nat)) (v2 v3 : Option V) => An5 (σ = [some (.ref x),some (.ref ll),v2,v3]) (Fr H9) (LsAt H9 ls lead) (Lp hs i 0 lead) (i <= hs.length))
   ⟨List.replicate hs.length [],none,none,rfl,fun b u e _ => e,⟨by simp [hyl7],fun i p L e1 e2 => ?_⟩,Lp.start hs,Nat.zero_le _⟩ ?_ ?_
  ·rw [List.getElem?_replicate] at e2
   split at e2
   ·cases e2
    exact hls8 p (List.mem_of_getElem? e1)
   ·cases e2
  ·intro i σ H9 hi hP0
   refine kqX fun K0 eK0 => ?_
   obtain ⟨lead,v2,v3,rfl,fr9,hL9,hLp,_⟩:=hP0
   subst eK0
   rw [Int.zero_add]
   have nls : ∀ b u,H6 b = some u -> b ∉ ls:=fun b u e z => lsn b z b u e rfl
   have hx9:=fr9 _ _ hx8 (nls _ _ hx6)
   have hh9 : HouseAt H9 a ps hs:=⟨fr9 _ _ (K8 _ _ hh.ob ax) (nls _ _ (K6 _ _ hh.ob ax)),hh.rm.1,fun i p r e1 e2 => by
    have n:=nfX (hh.rm.2 i p r e1 e2) hx rfl
    exact fr9 _ _ (K8 _ _ (hh.rm.2 i p r e1 e2) n) (nls _ _ (K6 _ _ (hh.rm.2 i p r e1 e2) n))⟩
   have e0 : hs[i]? = some hs[i]:=by simp [hi]
   have hst : ∀ b,stp hs i b = if b then hs[i].r else hs[i].l:=fun b => by unfold Hs.stp; rw [e0]
   generalize hs[i] = r at e0 hst
   refine ⟨_,rfl,x,dx,_,rfl,hx9,rfl,_,rfl,x,dx,a,_,ps,hs,i,r,rfl,hx9,rfl,hh9,e0,fun t ht => ?_⟩
   have s10 : Same H9 (upd H9 t (.tup [.int r.l,.int r.r])):=same_upd ht
   refine ⟨t,rfl,⟨_,SqT.of upd_same⟩,?_⟩
   refine for_tup (xs:=[.int r.l,.int r.r]) (fun j σ H10 => Ex2 fun (lead : List (List Nat)) (v3 : Option V) => An5 (σ = [some (.ref x),some (.ref ll),some (.int (i : Int)),v3]) (Fr H10) (H10 t = some (.tup [.int r.l,.int r.r])) (LsAt H10 ls lead) (Lp hs i j lead))
    ⟨lead,v3,rfl,fun b u e n => s10 _ _ (fr9 b u e n),upd_same,⟨hL9.1,fun i p L e1 e2 => s10 _ _ (hL9.2 i p L e1 e2)⟩,hLp⟩ (by rintro j σ H7 _ ⟨_,_,_,_,z,_⟩; exact SqT.of z) ?_ ?_
   ·intro j y σ H10 hy hP0
    refine kqX fun K0 eK0 => ?_
    obtain ⟨lead,v3,rfl,fr10,ht10,hL10,hLp10⟩:=hP0
    obtain ⟨b,hyb,hjb⟩ : ∃ b : Bool,y = .int (stp hs i b : Nat) /\ j = (if b then 1 else 0):=by
     match j,hy with
     | 0,hy => cases hy; exact ⟨false,by rw [hst]; rfl,rfl⟩
     | 1,hy => cases hy; exact ⟨true,by rw [hst]; rfl,rfl⟩
     | j + 2,hy => simp at hy
    subst hyb
    have hxl : stp hs i b < hs.length:=wf.stp hi b
    have ep : ls[stp hs i b]? = some (ls[stp hs i b]'(by omega)):=by simp
    have eL : lead[stp hs i b]? = some (lead[stp hs i b]'(by rw [hLp10.len]; exact hxl)):=by simp
    have hp10:=hL10.2 _ _ _ ep eL
    have hfew:=hLp10.few _ _ eL
    have hpq : ls[stp hs i b]'(by omega) ∈ ls:=List.mem_of_getElem? ep
    generalize ls[stp hs i b]'(by omega) = p at ep hp10 hpq
    generalize lead[stp hs i b]'(by rw [hLp10.len]; exact hxl) = L at eL hp10 hfew
    have hl10:=fr10 _ _ hl8 (fun z => (hls l z).2.1 rfl)
    subst eK0
    refine ⟨_,rfl,x,C,dx,_,_,rfl,fr10 _ _ hx8 (nls _ _ hx6),Zc.cl,Zc.nL,rfl,_,rfl,l,_,_,.ref p,rfl,rfl,SqL.of hl10,(atI_nat (by rw [List.getElem?_map,ep]; rfl)),.inl ⟨rfl,_,SqL.of hp10⟩,_,rfl,p,_,_,rfl,rfl,hp10,(by rw [nV_len]; exact small1000 (by cases b <;> simp at hjb <;> omega)),?_⟩
    have npt : p ≠ t:=nfX hp10 ht10 rfl
    refine ⟨_,_,rfl,fun c u e n => unX (fun z : c = p => n (z ▸ hpq)) (fr10 c u e n),unX npt.symm ht10,⟨by rw [List.length_set]; exact hL10.1,fun z q M e1 e2 => ?_⟩,hLp10.put b hjb eL⟩
    rw [List.getElem?_set] at e2
    by_cases z : stp hs i b = z
    ·subst z
     rw [if_pos rfl,if_pos (by rw [hLp10.len]; exact hxl)] at e2
     cases e2
     rw [ep] at e1
     cases e1
     rw [upd_same]
     unfold nV
     rw [List.map_append]
     rfl
    ·rw [if_neg z] at e2
     have hqp : q ≠ p:=fun y => by
      subst y
      exact z (nodup_ixA nd ep e1)
     rw [upd_ne hqp]
     exact hL10.2 _ q M e1 e2
   ·rintro σ H10 ⟨lead,v3,rfl,fr10,_,hL10,hLp10⟩
    exact ⟨lead,_,_,rfl,fr10,hL10,hLp10.next,hi⟩
  rintro σ H9 ⟨lead,v2,v3,rfl,fr9,hLs9,hLp,_⟩
  have nls : ∀ b u,H6 b = some u -> b ∉ ls:=fun b u e z => lsn b z b u e rfl
  have K9 : ∀ b u,H b = some u -> b ≠ x -> H9 b = some u:=fun b u e n => fr9 _ _ (K8 b u e n) (nls _ _ (K6 b u e n))
  have S69 : ∀ b u,H6 b = some u -> b ≠ x -> H9 b = some u:=fun b u e n => fr9 _ _ (S68 b u e n) (nls _ _ e)
  have hx9:=fr9 _ _ hx8 (nls _ _ hx6)
  have hl9:=fr9 _ _ hl8 (fun z => (hls l z).2.1 rfl)
  have hm9:=S69 _ _ hm6 mx
  have hq9:=S69 _ _ hq6 qx
  have hD9:=S69 _ _ hD6 Dx
  refine seq_n (R:=Rq4) eq4 fun Rq5 eq5 => ?_
  clear eq4 Rq4
  refine ⟨_,rfl,x,C,dx,_,_,rfl,hx9,Zc.cl,Zc.nM,rfl,m,_,_,.ref q,rfl,rfl,SqL.of hm9,rfl,q,_,rfl,hq9,fun wd hwd => ?_⟩
  have s10 : Same H9 (upd H9 wd (.dK (tr (List.range hs.length)))):=same_upd hwd
  refine ⟨_,rfl,x,C,dx,_,rfl,s10 _ _ hx9,Zc.cl,Zc.nW,(by show 4 < 1000; decide),?_⟩
  have e10 : putF "waiting" (.ref wd) [("house",.ref a),("group_of",.ref D),("members",.ref m),("leading_to",.ref l)] = ([("house",.ref a),("group_of",.ref D),("members",.ref m),("leading_to",.ref l),("waiting",.ref wd)] : List (Str × V)):=by rw [putF_cons (by decide +kernel),putF_cons (by decide +kernel),putF_cons (by decide +kernel),putF_cons (by decide +kernel)]; rfl
  rw [e10]
  have wdx : wd ≠ x:=fun z => by exact clX z hwd hx9 rfl
  have wdn : ∀ b u,H9 b = some u -> b ≠ wd:=fun b u e z => by exact clX z e hwd rfl
  obtain ⟨Z,hZ⟩ : ∃ Z : GZ,Z = ⟨x,dx,a,l,D,m,ps,hs,ls,lead⟩:=⟨_,rfl⟩
  have K11 : ∀ b u,H b = some u -> b ≠ x -> upd (upd H9 wd (.dK (tr (List.range hs.length)))) x (.ins C dx [("house",.ref a),("group_of",.ref D),("members",.ref m),("leading_to",.ref l),("waiting",.ref wd)]) b = some u:=KP K9 s10
  have S11 : ∀ b u,H9 b = some u -> b ≠ x -> upd (upd H9 wd (.dK (tr (List.range hs.length)))) x (.ins C dx [("house",.ref a),("group_of",.ref D),("members",.ref m),("leading_to",.ref l),("waiting",.ref wd)]) b = some u:=fun b u e n => unX n (s10 _ _ e)
  have hwd11 : upd (upd H9 wd (.dK (tr (List.range hs.length)))) x (.ins C dx [("house",.ref a),("group_of",.ref D),("members",.ref m),("leading_to",.ref l),("waiting",.ref wd)]) wd = some (.dK (tr (List.range hs.length))):=unX wdx upd_same
  have hx11 : upd (upd H9 wd (.dK (tr (List.range hs.length)))) x (.ins C dx [("house",.ref a),("group_of",.ref D),("members",.ref m),("leading_to",.ref l),("waiting",.ref wd)]) x = some (.ins C dx [("house",.ref a),("group_of",.ref D),("members",.ref m),("leading_to",.ref l),("waiting",.ref wd)]):=upd_same
  generalize upd (upd H9 wd (.dK (tr (List.range hs.length)))) x (.ins C dx [("house",.ref a),("group_of",.ref D),("members",.ref m),("leading_to",.ref l),("waiting",.ref wd)]) = H11 at K11 S11 hwd11 hx11
  have hyR : ∀ r,r ∈ List.range hs.length ↔ r < hs.length:=fun r => List.mem_range
  have hyN : (List.range hs.length).Nodup:=List.nodup_range
  have lsx : ∀ p ∈ ls,p ≠ x:=fun p hp => (lsn p hp _ _ hx6).symm
  have hG : GrAt C Z H11 (List.replicate hs.length 0) [(q,List.range hs.length)] wd (List.range hs.length):=by
   rw [hZ]
   refine ⟨hx11,HK K11,S11 _ _ hl9 lx,⟨hLs9.1,fun i p L e1 e2 => S11 _ _ (hLs9.2 i p L e1 e2) (lsx p (List.mem_of_getElem? e1))⟩,S11 _ _ hD9 Dx,S11 _ _ hm9 mx,fun z hz => ?_,hwd11,by simp,fun z hz => ?_,aD,m2 _ _ (K2 _ _ hh.ob ax),(l6 _ _ hD6).symm,(l6 _ _ hm6).symm,(m2 _ _ hD2).symm,fun p hp => ⟨(lsn p hp _ _ hD6).symm,(lsn p hp _ _ hm6).symm⟩⟩
   ·rw [List.mem_singleton.mp hz]; exact S11 _ _ hq9 qx
   ·rw [List.mem_singleton.mp hz]; exact wdn _ _ hq9
  have hZh : Z.hs = hs:=by rw [hZ]
  have hZx : Z.x = x:=by rw [hZ]
  have hZa : Z.a = a:=by rw [hZ]
  have hZl : Z.l = l:=by rw [hZ]
  have hZd : Z.dx = dx:=by rw [hZ]
  have hZp : Z.ps = ps:=by rw [hZ]
  have fx : GFix Z:=by rw [hZ]; exact ⟨wf,few,hLp⟩
  have gi : GI Z.hs.length (List.replicate hs.length 0) (([(q,List.range hs.length)] : Mq).map (·.2)):=by
   rw [hZh]
   refine ⟨by simp,fun r _ => by rw [gv_repl]; exact Nat.zero_lt_one,fun g R e r => ?_,fun R hR => ?_,fun R hR => ?_⟩
   ·match g,e with
    | 0,e => cases e; rw [hyR,gv_repl]; simp
    | g + 1,e => simp at e
   ·rw [List.mem_singleton.mp hR]
    exact List.ne_nil_of_mem ((hyR 0).mpr wf.ne)
   ·rw [List.mem_singleton.mp hR]
    exact hyN
  refine seq_n (R:=Rq5) eq5 fun Rq6 eq6 => ?_
  clear eq5 Rq5
  refine ⟨_,rfl,x,dx,_,rfl,hx11,rfl,_,rfl,ll,_,rfl,.inl (SqL.of (K11 _ _ hll llx)),_,rfl,?_⟩
  rw [hpl]
  refine ⟨by omega,by omega,?_⟩
  rw [Int.toNat_natCast]
  refine fun D3 hD3' => ?_
  refine comp_any (xs:=(List.range hs.length).map fun i : Nat => V.int (i : Int)) (fun σ => ∃ v0,σ = [v0,some (.ref ll)]) (fun i v H6 => ∀ r,(List.range hs.length)[i]? = some r -> ∃ t,v = .ref t /\ H6 t = some (.tup [.bl (litAt hs r),.int (r : Int)])) (fun i v H6 H7 st h r e => let ⟨t,e1,e2⟩:=h r e; ⟨t,e1,st _ _ e2⟩) it_range (by rw [List.length_map,List.length_range]; omega) hD3' ⟨none,rfl⟩ ?_ gm_name ?_
  ·rintro i z σ H12 Qk hz ⟨v0,rfl⟩ s12 k12
   rw [range_nV] at hz
   obtain ⟨r,hr',rfl⟩:=nV_get hz
   have hrl : r < hs.length:=List.mem_range.mp (List.mem_of_getElem? hr')
   refine ⟨_,rfl,_,rfl,ll,_,_,_,rfl,rfl,SqL.of (s12 _ _ (K11 _ _ hll llx)),lgt_at hrl,_,rfl,(by show 2 <= sizeLine; decide),fun t ht => ?_⟩
   refine k12 _ _ _ ⟨_,rfl⟩ (same_upd ht) fun r2 e2 => ?_
   rw [hr'] at e2
   cases e2
   exact ⟨t,rfl,upd_same⟩
  intro ys3 H12 hyl3 hR12 s12 hD12
  rw [List.length_map,List.length_range] at hyl3
  obtain ⟨ts3,hts3⟩ : ∃ ts : List Addr,ys3 = ts.map V.ref:=refs_of fun i v e => by
   have hi : i < hs.length:=by rw [<- hyl3]; exact (List.getElem?_eq_some_iff.mp e).1
   obtain ⟨t,e1,_⟩:=hR12 i v e i (by simp [hi])
   exact ⟨t,e1⟩
  subst hts3
  rw [List.length_map] at hyl3
  obtain ⟨l3,hl3'⟩ : ∃ l3,l3 = (List.range hs.length).map fun r => (litAt hs r,r):=⟨_,rfl⟩
  have hl3s : l3.map (·.2) = List.range hs.length:=by
   rw [hl3',List.map_map]
   exact (List.map_congr_left fun r _ => rfl).trans (List.map_id _)
  have hmk12 : MkAt mkB H12 ts3 l3:=⟨by rw [hl3',List.length_map,List.length_range]; exact hyl3,fun i t p e1 e2 => by
   rw [hl3',List.getElem?_map] at e2
   cases hr' : (List.range hs.length)[i]? with
   | none => rw [hr'] at e2; cases e2
   | some r =>
    rw [hr'] at e2
    cases e2
    obtain ⟨t',e3,e4⟩:=hR12 i (.ref t) (by rw [List.getElem?_map,e1]; rfl) r hr'
    cases e3
    exact ⟨_,e4,rfl⟩⟩
  have Dnew : ∀ b u,H11 b = some u -> D3 ≠ b:=fun b u e z => by exact clX z hD3' e rfl
  have hD3n : D3 ∉ mutG Z [(q,List.range hs.length)] wd:=fun z => by obtain ⟨u,e⟩:=(mut_kind hG z).1; exact Dnew _ _ e rfl
  refine ⟨Z,_,_,wd,List.range hs.length,0,D3,q,List.range hs.length,ts3,l3,by rw [hZx]; rfl,hG.same s12,fx,gi,rfl,hD12,hD3n,Dnew _ _ hG.house.ob,Dnew _ _ hG.lead,hmk12,by rw [hl3s]; exact List.nodup_range,fun z hz => ?_,hyN,fun r hr' => by rw [hZh]; exact (hyR r).mp hr',fun gof1 mq1 wt1 H13 hG13 gi13 st13 hn13 hwl13 hw13 _ _ mv13 => ?_⟩
  ·have : z.2 ∈ List.range hs.length:=by rw [<- hl3s]; exact List.mem_map.mpr ⟨z,hz,rfl⟩
   exact (hyR z.2).mpr (List.mem_range.mp this)
  have gl13 : GL Z.hs gof1 (fun r => r ∈ wt1) fun _ => False:=by
   refine GL.start (g:=0) (k:=1) (fun r _ => gv_repl) (step_congr st13 fun r s hr' hs' => ?_) fun z hz => (hw13 z hz).mpr (.inl ((hyR z).mpr (by rw [<- hZh]; exact hz)))
   rw [hZh] at hr' hs' ⊢
   have e : ∀ r,r < hs.length -> mkOf l3 r = some (litAt hs r):=fun r hr' => by
    rw [hl3']
    have:=mkOf_map (fun r => litAt hs r) (List.range hs.length) r
    rw [if_pos (List.mem_range.mpr hr')] at this
    exact this
   rw [e r hr',e s hs']
  have mvA : Mv (mutG Z [(q,List.range hs.length)] wd) (mutG Z mq1 wd) H11 H13:=(Mv.same s12 _).trans mv13
  refine seq_e (R:=Rq6) eq6 ?_
  clear eq6 Rq6
  refine while_by (fun σ H14 => Ex4 fun (gof2 : List Nat) (mq2 : Mq) (wd2 : Addr) (wt2 : List Nat) => An7 (σ = [some (.ref x),some (.ref ll),v2,v3]) (GrAt C Z H14 gof2 mq2 wd2 wt2) (GI Z.hs.length gof2 (mq2.map (·.2))) (GL Z.hs gof2 (fun r => r ∈ wt2) (fun _ => False)) (wt2.Nodup) ((∀ r ∈ wt2,r < Z.hs.length)) (Mv (mutG Z [(q,List.range hs.length)] wd) (mutG Z mq2 wd2) H11 H14))
   (fun σ H14 => muG Z H14) ⟨gof1,mq1,wd,wt1,rfl,hG13,gi13,gl13,hn13,hwl13,mvA⟩ ?_ ?_
  ·intro σ H14 hP0
   refine kqX fun K0 eK0 => ?_
   obtain ⟨gof2,mq2,wd2,wt2,rfl,hG14,gi14,gl14,hn14,hwl14,mv14⟩:=hP0
   have hf14:=hG14.fields
   rw [hZx,hZd] at hf14
   subst eK0
   refine ⟨_,rfl,x,C,dx,_,_,rfl,hf14,Zc.cl,Zc.nW,rfl,wd2,_,rfl,hG14.wt,_,_,rfl,rfl,_,rfl,?_⟩
   rw [tr_len]
   by_cases hz : 0 < wt2.length
   ·refine ifT (decide_eq_true (by omega)) ?_
    refine ⟨_,rfl,x,dx,_,rfl,hf14,rfl,Z,gof2,mq2,wd2,wt2,by rw [hZx]; rfl,hG14,fx,gi14,gl14,hn14,hwl14,fun gof3 mq3 wd3 wt3 H15 hG15 gi15 gl15 hn15 hwl15 hml hme mv15 => ?_⟩
    refine ⟨⟨gof3,mq3,wd3,wt3,rfl,hG15,gi15,gl15,hn15,hwl15,mv14.trans mv15⟩,?_⟩
    rw [muG_eq hG15,muG_eq hG14]
    have h1:=gi15.few
    rw [List.length_map] at h1
    by_cases he : mq3.length = mq2.length
    ·rw [hme he,he]
     simp
     omega
    ·omega
   ·refine ifF (decide_eq_false (by omega)) ?_
    have hw0 : wt2 = []:=List.length_eq_zero_iff.mp (by omega)
    subst hw0
    have hend:=GL.end fx.wf (gl14.congr (wt':=fun _ => False) (pd':=fun _ => False) (fun r _ => by simp) fun _ _ => Iff.rfl)
    rw [hZh] at hend gi14
    refine k Z gof2 mq2 wd2 H14 hZx hZa hZp hZh hG14 ⟨wf,gi14,hend⟩ fun b u e n => mv14.keep _ _ (K11 b u e n) fun z => ?_
    have z:=memM z
    rw [hZx] at z
    rcases z with z | z | z | z | z
    ·exact n z
    ·have : Z.ga = D:=by rw [hZ]
     rw [z,this,hD] at e
     cases e
    ·have : Z.m = m:=by rw [hZ]
     rw [this] at z
     exact m2 b u (K2 b u e n) z
    ·exact wdn b u (K9 b u e n) z
    ·exact q2 b u (K2 b u e n) (by simpa using z)
  ·intro σ H2 Q1 Q2 hq hc
   obtain ⟨v,e1,x1,C1,d1,fs1,v1,g1,g2,g3,g4,g5,a1,kv1,g6,g7,i1,j1,g8,g9,b1,g10,q1⟩:=hc
   exact ⟨v,e1,x1,C1,d1,fs1,v1,g1,g2,g3,g4,g5,a1,kv1,g6,g7,i1,j1,g8,g9,b1,g10,hq _ _ q1⟩
theorem ok_ginit {C fI fW fH fP fA fR fS fg fe fl : Addr} {dI dW dH dP dA dR dS fdg fde fdl : FuncData} (T : Blt mg) (TS : mg "sorted" = none) (TD : mg "dict" = none) (Zc : GrC K mg C fI fW fH fP fA dI dW dH dP dA) (Zd : GrD K C fR fS dR dS) (Ga : Df K mg "gathered" 13 ["marked"] fg fdg) (Ex : Df K mg "exits_of" 9 ["house","room"] fe fde) (Li : Df K mg "is_lit" 10 ["house","room"] fl fdl) : FnOk P w K mg base CX0 5 fI dI ["self","house"] (spGInit C):=by
 have G_sort : FnOk P w K mg base CX0 4 fS dS ["self","lights"] (spSort C):=ok_sort T TS TD Zc Zd Ga Ex
 have G_lit : FnOk P w K mg base CX0 4 fl fdl ["house","room"] spLit:=(ok_lit Li.fn).mono (by decide)
 refine Zc.fnI.ok sc_ginit (fun vs H Q E h => ?_) (fun cdv A outer s H vs Q E hr h => ?_)
 ·obtain ⟨x,dx,a,ps,hs,rfl,_⟩:=h
  rfl
 ·obtain ⟨x,dx,a,ps,hs,rfl,hx,hh,wf,few,k⟩:=h
  refine ⟨_,(pss_cons (ps_fld (pv 0) (pv 1) rfl)
   (pss_one (ps_expr (pe_meth (pv 0) Zc.cl Zd.mS G_sort hr Zd.bS .nil pass0 (pa_cons (pe_comp (te:=tCall spLit [] E0 (tCons (tVar 1) (tCons (tVar 0) tNil))) (N':=["room","house"]) (cap:=[none,some 1]) (cl:=[("house",s.heap.objs.size + 1)]) (g:=gName 0) rfl ?cs1 (pi_range1 rfl T.range (pa_cons (pe_callB call_len_seq (by rfl) T.len PySem.boot_len (pa_cons (pv 1) pa_nil)) pa_nil)) (by exact fun _ _ _ _ => (pg_name (i:=0) nd_rh rfl (Or.inl rfl))) (by exact fun _ _ _ _ => pf_nil) (by exact fun _ _ _ _ => (pe_call G_lit hr rfl Li.m Li.fn.kp Li.b .nil pass0 (pa_cons (pv 1) (pa_cons (pv 0) pa_nil))))) pa_nil))))),?_⟩
  case cs1 =>
   refine ⟨rfl,by decide +kernel,by decide +kernel,by kernel_rfl,rfl,nd_rh,sub_of (fun p hp => ?_),fun p hp hf => ?_,fun i x j h1 h2 => ?_⟩
   ·rw [List.mem_singleton.mp hp]; rfl
   ·exact has_of (l:=[("house",s.heap.objs.size + 1)]) (ns:=["house"]) (by decide +kernel) (by intro y hy; rw [List.mem_singleton.mp hy]; exact ⟨_,rfl⟩) p hp hf
   ·match i,h1,h2 with
    | 0,_,h2 => cases h2
    | 1,h1,h2 => cases h1; cases h2; exact ⟨rfl,Or.inl rfl,rfl⟩
    | i + 2,h1,_ => cases h1
  have hpl : (ps.map V.ref).length = hs.length:=by rw [List.length_map,hh.rm.1]
  refine ⟨_,rfl,_,rfl,x,C,dx,_,rfl,hx,Zc.cl,Zc.nH,(by show 0 < 1000; decide),?_⟩
  have K1 : ∀ b u,H b = some u -> b ≠ x -> upd H x (.ins C dx (putF "house" (.ref a) [])) b = some u:=fun b u e n => unX n e
  have hx1 : upd H x (.ins C dx (putF "house" (.ref a) [])) x = some (.ins C dx [("house",.ref a)]):=upd_same
  have hh1 : HouseAt (upd H x (.ins C dx (putF "house" (.ref a) []))) a ps hs:=⟨K1 _ _ hh.ob (nfX hh.ob hx rfl),hh.rm.1,fun i p r e1 e2 => K1 _ _ (hh.rm.2 i p r e1 e2) (nfX (hh.rm.2 i p r e1 e2) hx rfl)⟩
  generalize upd H x (.ins C dx (putF "house" (.ref a) [])) = H1 at K1 hx1 hh1
  refine ⟨_,rfl,x,dx,_,rfl,hx1,rfl,_,rfl,a,_,rfl,.inl (SqL.of hh1.ob),_,rfl,?_⟩
  rw [hpl]
  refine ⟨by omega,by omega,?_⟩
  rw [Int.toNat_natCast]
  refine fun D hD => ?_
  refine comp_vals (xs:=(List.range hs.length).map fun i : Nat => V.int (i : Int)) (ys:=lgt hs) (fun σ => ∃ v0,σ = [v0,some (.ref a)]) it_range (by unfold lgt; simp) (by rw [List.length_map,List.length_range]; omega) hD ⟨none,rfl⟩ ?_ ?_ gm_name
  ·rintro i y z σ H5 Qk hy hz ⟨v0,rfl⟩ s5 k5
   rw [range_nV] at hy
   obtain ⟨r,hr',rfl⟩:=nV_get hy
   have hrl : r < hs.length:=List.mem_range.mp (List.mem_of_getElem? hr')
   have hir : i = r:=by
    have hi : i < hs.length:=by
     have:=(List.getElem?_eq_some_iff.mp hr').1
     rw [List.length_range] at this
     exact this
    rw [List.getElem?_range hi] at hr'
    exact Option.some.inj hr'
   subst hir
   have e0 : hs[i]? = some hs[i]:=by simp [hrl]
   have hz : (hs.map fun r => V.bl r.lit)[i]? = some z:=hz
   rw [List.getElem?_map,e0] at hz
   cases hz
   exact ⟨_,rfl,_,rfl,a,ps,hs,i,hs[i],rfl,hh1.same s5,e0,k5 _ _ ⟨_,rfl⟩ (Same.refl _)⟩
  ·intro H2 s2 hD2
   exact ⟨x,dx,a,D,ps,hs,rfl,s2 _ _ hx1,hh1.same s2,wf,few,hD2,fun Z gof mq wd H' z1 z2 z3 z4 hG hGr kp => k Z gof mq wd H' z1 z2 z3 z4 hG hGr fun b u e n => kp b u (s2 _ _ (K1 b u e n)) n⟩
end
end Law
set_option maxHeartbeats 8000000
namespace Law
open PySem L2 Hs PyProof.Rows
section
variable {P : Program} {w : World} {K : PySem.W.Frag} {mg : Str -> Option Value} {base : Heap} {f : Addr} {fd : FuncData}
noncomputable def lineOf : Stmt -> Nat
 | .FunctionDef _ _ _ _ _ _ _ _ _ p => p.line
 | _ => 0
noncomputable def sLe (i : Nat) : Stmt:=(defBody (top 16)).getD i (.Pass ⟨0,0,0,0⟩)
noncomputable def qLe (x : Str) : Str:=("least" : Str) ++ ".<locals>." ++ x
noncomputable def qsLe : Nat -> Nat -> Option Str:=fun l _ => if l = lineOf (sLe 1) then some (qLe "one_of") else if l = lineOf (sLe 2) then some (qLe "exits") else some (qLe "lit")
noncomputable def cInt : Plc Nat:=⟨.s,fun g => Sum.inl (g : Int)⟩
theorem cInt_inj (G : Gr Nat) : cInt.Inj G:=fun a b _ _ e => by
 have e : (Sum.inl (a : Int) : Key) = Sum.inl (b : Int):=e
 injection e with e
 omega
section
variable {C : Addr} {Z : GZ} {H H' : Hp} {gof gof' : List Nat} {mq : Mq} {wd : Addr} {wt wt' : List Nat}
theorem GrAt.sam (h : GrAt C Z H gof mq wd wt) (s : SamT H H') : GrAt C Z H' gof mq wd wt :=
 { h with
  ob:=s _ _ h.ob (fun _ y => by cases y)
  house:=h.house.sam s
  lead:=s _ _ h.lead (fun _ y => by cases y)
  leads:=⟨h.leads.1,fun i p L e1 e2 => s _ _ (h.leads.2 i p L e1 e2) (fun _ y => by cases y)⟩
  gof:=s _ _ h.gof (fun _ y => by cases y)
  mem:=s _ _ h.mem (fun _ y => by cases y)
  mems:=fun q hq => s _ _ (h.mems q hq) (fun _ y => by cases y)
  wt:=s _ _ h.wt (fun _ y => by cases y) }
end
set_option genInjectivity false in
structure LeC where
 ch : Addr
 cg : Addr
 co : Addr
 go : Addr
 ge : Addr
 gi : Addr
 C : Addr
 Z : GZ
 gof : List Nat
 mq : Mq
 wd : Addr
noncomputable def capOne (S : LeC) : List Cap:=[⟨"groups",S.cg,.ref S.Z.x⟩]
theorem sc_one : CloScope ["group","groups"] ["group"] ["groups"] (defScope (sLe 1)):=⟨rfl,rfl,rfl,by decide +kernel,by decide +kernel,rfl,by decide +kernel,by decide +kernel⟩
theorem ow_one : OwnC (defScope (sLe 1)) [] own0:=ow0 (fun n acc => rfl) (by decide +kernel)
noncomputable def nOne (S : LeC) (H : Hp) : Prop:=Ndf H S.go "one_of" (qLe "one_of") (defArgs (sLe 1)) (defBody (sLe 1)) (defScope (sLe 1)) (capC (capOne S))
structure Rone (S : LeC) (H : Hp) : Prop where
 n : nOne S H /\ Caps H (capOne S)
 gr : GrAt S.C S.Z H S.gof S.mq S.wd []
theorem Rone.same {S : LeC} {H H' : Hp} (h : Rone S H) (s : Same H H') : Rone S H':=⟨⟨h.n.1.sam s.toSam,h.n.2.same s⟩,h.gr.same s⟩
noncomputable def spOne (S : LeC) : Sp:=fun vs H Q _ => Ex1 fun (g : Nat) => An3 (vs = [.int (g : Int)]) (g < S.mq.length) (∀ H',Same H H' -> Q (.int (repG (S.mq.map (·.2)) g : Nat)) H')
theorem repG_at {ms : List (List Nat)} {g : Nat} {R : List Nat} (h : ms[g]? = some R) : repG ms g = minN R:=by
 unfold repG
 rw [List.getD_eq_getElem?_getD,h]
 rfl
theorem ok_one {S : LeC} {fI fW fH fP fA : Addr} {dI dW dH dP dA : FuncData} (TM : mg "min" = none) (Zc : GrC K mg S.C fI fW fH fP fA dI dW dH dP dA) (hne : ∀ R ∈ S.mq.map (·.2),R ≠ []) : FvOk P w K mg base 1 S.go (Rone S) (spOne S):=by
 have L : FvOk P w K mg base 1 S.go (fun H => nOne S H /\ Caps H (capOne S)) (fun vs H Q E => GrAt S.C S.Z H S.gof S.mq S.wd [] /\ spOne S vs H Q E):=by
  refine clo_def (k:=0) sc_one ow_one (by simp [capA,capOne]) (fun doc pm ctv c' => us1 fun _ => rfl) (fun vs H Q E h => ?_) fun c' A outer s H vs Q E hr hC h => ?_
  ·obtain ⟨_,g,rfl,_⟩:=h
   rfl
  ·obtain ⟨hG,g,rfl,hg,q⟩:=h
   refine ⟨_,(show PSs _ (defBody (sLe 1)) _ from (pss_one (ps_ret (pe_callB (call_minD rfl) (by rfl) TM boot_min1 (pa_cons (pe_ix ix_list (pe_fld (pv 1) rfl) (pv 0) (fun _ _ => rfl)) pa_nil))))),?_⟩
   have e0 : S.mq[g]? = some S.mq[g]:=by simp [hg]
   have em : (S.mq.map (·.2))[g]? = some S.mq[g].2:=by rw [List.getElem?_map,e0]; rfl
   have hd:=hG.mems _ (List.getElem_mem hg)
   have hn:=hne _ (List.mem_of_getElem? em)
   have hrep:=repG_at em
   generalize S.mq[g] = qR at e0 em hd hn hrep
   refine ⟨_,rfl,S.Z.x,S.C,S.Z.dx,_,_,rfl,hG.fields,Zc.cl,Zc.nM,rfl,_,rfl,S.Z.m,_,_,.ref qR.1,rfl,rfl,SqL.of hG.mem,(atI_nat (by rw [List.getElem?_map,e0]; rfl)),qR.1,qR.2,rfl,hd,hn,fun m hm hle => ?_⟩
   have : m = repG (S.mq.map (·.2)) g:=by rw [hrep]; exact minN_uniq hm hle
   rw [this]
   exact q H (Same.refl _)
 exact ⟨fun H h hR ok => L.1 H h hR.n ok,fun A outer s H us vs Q E hr e0 hR r hsp => L.2 A outer s H us vs Q E hr e0 hR.n r ⟨hR.gr,hsp⟩⟩
noncomputable def capEx (S : LeC) : List Cap:=[⟨"one_of",S.co,.ref S.go⟩,⟨"house",S.ch,.ref S.Z.a⟩,⟨"groups",S.cg,.ref S.Z.x⟩]
theorem sc_ex : CloScope ["group","one_of","house","groups"] ["group"] ["one_of","house","groups"] (defScope (sLe 2)):=⟨rfl,rfl,rfl,by decide +kernel,by decide +kernel,rfl,by decide +kernel,by decide +kernel⟩
theorem ow_ex : OwnC (defScope (sLe 2)) [] own0:=ow0 (fun n acc => rfl) (by decide +kernel)
noncomputable def nEx (S : LeC) (H : Hp) : Prop:=Ndf H S.ge "exits" (qLe "exits") (defArgs (sLe 2)) (defBody (sLe 2)) (defScope (sLe 2)) (capC (capEx S))
structure Rex (S : LeC) (H : Hp) : Prop where
 n : nEx S H /\ Caps H (capEx S)
 one : Rone S H
theorem Rex.same {S : LeC} {H H' : Hp} (h : Rex S H) (s : Same H H') : Rex S H':=⟨⟨h.n.1.sam s.toSam,h.n.2.same s⟩,h.one.same s⟩
theorem nd_rg : (["room","groups"] : List Str).Nodup:=by decide +kernel
theorem ok_ex {S : LeC} {fI fW fH fP fA fe : Addr} {dI dW dH dP dA fde : FuncData} (TM : mg "min" = none) (Zc : GrC K mg S.C fI fW fH fP fA dI dW dH dP dA) (Ex : Df K mg "exits_of" 9 ["house","room"] fe fde) (G : Grouped S.Z.hs S.gof (S.mq.map (·.2))) (ncs : [S.co,S.ch,S.cg].Nodup) : FvOk P w K mg base 2 S.ge (Rex S) (spExS cInt (grGroups G)):=by
 have G_exits : FnOk P w K mg base CX0 1 fe fde ["house","room"] spExits:=ok_exits Ex.fn
 have hOne : FvOk P w K mg base 1 S.go (Rone S) (spOne S):=ok_one TM Zc G.gi.ne
 have L : FvOk P w K mg base 2 S.ge (fun H => nEx S H /\ Caps H (capEx S)) (fun vs H Q E => Rone S H /\ spExS cInt (grGroups G) vs H Q E):=by
  refine clo_def (k:=1) sc_ex ow_ex ncs (fun doc pm ctv c' => us1 fun _ => rfl) (fun vs H Q E h => ?_) fun c' A outer s H vs Q E hr hC h => ?_
  ·obtain ⟨_,a,v,rfl,_⟩:=h
   rfl
  ·obtain ⟨hR,g,v,rfl,hg,hv,q⟩:=h
   have hv : v = .int (g : Int):=hv
   subst hv
   have hg : g < (S.mq.map (·.2)).length:=hg
   refine ⟨_,(show PSs _ (defBody (sLe 2)) _ from (pss_one (ps_ret (pe_comp (te:=tOp (rIxL K) (tFld K (tVar 1) "group_of") (tVar 0)) (N':=["room","groups"]) (cap:=[none,some 3]) (cl:=[("groups",S.cg)]) (g:=gName 0) rfl ?cs1 (pi_tup (pe_call G_exits hr rfl Ex.m Ex.fn.kp Ex.b .nil pass0 (pa_cons (pv 2) (pa_cons (pe_callV (i:=1) hr rfl (Or.inr (Or.inr rfl)) (pa_cons (pv 0) pa_nil)) pa_nil)))) (by exact fun _ _ _ _ => (pg_name (i:=0) nd_rg rfl (Or.inl rfl))) (by exact fun _ _ _ _ => pf_nil) (by exact fun _ _ _ _ => (pe_ix (ix_listK (K':=K) rfl) (pe_fld (pv 1) rfl) (pv 0) (fun _ _ => rfl))))))),?_⟩
   case cs1 =>
    refine ⟨rfl,by decide +kernel,by decide +kernel,by kernel_rfl,rfl,nd_rg,sub_of (fun p hp => ?_),fun p hp hf => ?_,fun i x j h1 h2 => ?_⟩
    ·rw [List.mem_singleton.mp hp]; rfl
    ·exact has_of (l:=[("groups",S.cg)]) (ns:=["groups"]) (by decide +kernel) (by intro y hy; rw [List.mem_singleton.mp hy]; exact ⟨_,rfl⟩) p hp hf
    ·match i,h1,h2 with
     | 0,_,h2 => cases h2
     | 1,h1,h2 => cases h1; cases h2; exact ⟨rfl,Or.inr rfl,rfl⟩
     | i + 2,h1,_ => cases h1
   obtain ⟨hrl,_⟩:=G.rep hg
   have e0 : S.Z.hs[repG (S.mq.map (·.2)) g]? = some S.Z.hs[repG (S.mq.map (·.2)) g]:=by simp [hrl]
   have hst : ∀ b,stp S.Z.hs (repG (S.mq.map (·.2)) g) b = if b then S.Z.hs[repG (S.mq.map (·.2)) g].r else S.Z.hs[repG (S.mq.map (·.2)) g].l:=fun b => by unfold Hs.stp; rw [e0]
   have u1:=G.wf.stp hrl false
   have u2:=G.wf.stp hrl true
   have hs1:=hst false
   have hs2:=hst true
   have hnx : ∀ b,(grGroups G).nx g b = gv S.gof (stp S.Z.hs (repG (S.mq.map (·.2)) g) b):=fun b => rfl
   rw [hnx,hnx] at q
   generalize S.Z.hs[repG (S.mq.map (·.2)) g] = rm at e0 hs1 hs2
   have hgl:=G.gi.len
   refine ⟨_,rfl,S.go,_,_,rfl,hOne,hR,_,rfl,hR,g,rfl,by rw [List.length_map] at hg; exact hg,fun H1 s1 => ?_⟩
   have hR1:=hR.same s1
   refine ⟨S.Z.a,S.Z.ps,S.Z.hs,_,rm,rfl,hR1.gr.house,e0,fun t ht => ?_⟩
   have s2 : Same H1 (upd H1 t (.tup [.int rm.l,.int rm.r])):=same_upd ht
   have hG2:=hR1.gr.same s2
   refine ⟨t,rfl,⟨_,SqT.of upd_same⟩,fun D hD => ?_⟩
   refine comp_vals (xs:=[.int rm.l,.int rm.r]) (ys:=[.int (gv S.gof (stp S.Z.hs (repG (S.mq.map (·.2)) g) false) : Nat),.int (gv S.gof (stp S.Z.hs (repG (S.mq.map (·.2)) g) true) : Nat)]) (fun σ => ∃ v0,σ = [v0,some (.ref S.Z.x)]) (it_tup (SqT.of upd_same)) rfl (by show 2 <= 1000; decide) hD ⟨none,rfl⟩ ?_ ?_ gm_name
   ·rintro i y z σ H5 Qk hy hz ⟨v0,rfl⟩ s5 k5
    obtain ⟨b,hyb,hzb⟩ : ∃ b : Bool,y = .int (stp S.Z.hs (repG (S.mq.map (·.2)) g) b : Nat) /\ z = .int (gv S.gof (stp S.Z.hs (repG (S.mq.map (·.2)) g) b) : Nat):=by
     match i,hy,hz with
     | 0,hy,hz => cases hy; cases hz; exact ⟨false,by rw [hs1]; rfl,rfl⟩
     | 1,hy,hz => cases hy; cases hz; exact ⟨true,by rw [hs2]; rfl,rfl⟩
     | i + 2,hy,_ => simp at hy
    subst hyb hzb
    have hG5:=hG2.same s5
    refine ⟨_,rfl,S.Z.x,S.C,S.Z.dx,_,_,rfl,hG5.fields,Zc.cl,Zc.nG,rfl,_,rfl,S.Z.ga,_,_,_,rfl,rfl,SqL.of hG5.gof,atI_gv (by rw [hgl]; exact G.wf.stp hrl b),?_⟩
    exact k5 _ _ ⟨_,rfl⟩ (Same.refl _)
   ·intro H5 s5 hD5
    have sH:=(s1.trans s2).trans s5
    exact q D H5 _ _ sH (.inl ⟨(s1.trans s2).none hD,hD5⟩) rfl rfl
 exact ⟨fun H h hR ok => L.1 H h hR.n ok,fun A outer s H us vs Q E hr e0 hR r hsp => L.2 A outer s H us vs Q E hr e0 hR.n r ⟨hR.one,hsp⟩⟩
noncomputable def capLi (S : LeC) : List Cap:=[⟨"one_of",S.co,.ref S.go⟩,⟨"house",S.ch,.ref S.Z.a⟩]
theorem sc_li : CloScope ["group","one_of","house"] ["group"] ["one_of","house"] (defScope (sLe 3)):=⟨rfl,rfl,rfl,by decide +kernel,by decide +kernel,rfl,by decide +kernel,by decide +kernel⟩
theorem ow_li : OwnC (defScope (sLe 3)) [] own0:=ow0 (fun n acc => rfl) (by decide +kernel)
noncomputable def nLi (S : LeC) (H : Hp) : Prop:=Ndf H S.gi "lit" (qLe "lit") (defArgs (sLe 3)) (defBody (sLe 3)) (defScope (sLe 3)) (capC (capLi S))
structure Rli (S : LeC) (H : Hp) : Prop where
 n : nLi S H /\ Caps H (capLi S)
 one : Rone S H
theorem Rli.same {S : LeC} {H H' : Hp} (h : Rli S H) (s : Same H H') : Rli S H':=⟨⟨h.n.1.sam s.toSam,h.n.2.same s⟩,h.one.same s⟩
theorem ok_li {S : LeC} {fI fW fH fP fA fl : Addr} {dI dW dH dP dA fdl : FuncData} (TM : mg "min" = none) (Zc : GrC K mg S.C fI fW fH fP fA dI dW dH dP dA) (Li : Df K mg "is_lit" 10 ["house","room"] fl fdl) (G : Grouped S.Z.hs S.gof (S.mq.map (·.2))) (nc : S.ch ≠ S.co) : FvOk P w K mg base 2 S.gi (Rli S) (spWant cInt (grGroups G) (litG S.Z.hs (S.mq.map (·.2)))):=by
 have G_lit : FnOk P w K mg base CX0 1 fl fdl ["house","room"] spLit:=ok_lit Li.fn
 have hOne : FvOk P w K mg base 1 S.go (Rone S) (spOne S):=ok_one TM Zc G.gi.ne
 have L : FvOk P w K mg base 2 S.gi (fun H => nLi S H /\ Caps H (capLi S)) (fun vs H Q E => Rone S H /\ spWant cInt (grGroups G) (litG S.Z.hs (S.mq.map (·.2))) vs H Q E):=by
  refine clo_def (k:=1) sc_li ow_li (by simp [capA,capLi,nc.symm]) (fun doc pm ctv c' => us1 fun _ => rfl) (fun vs H Q E h => ?_) fun c' A outer s H vs Q E hr hC h => ?_
  ·obtain ⟨_,a,v,rfl,_⟩:=h
   rfl
  ·obtain ⟨hR,g,v,rfl,hg,hv,q⟩:=h
   have hv : v = .int (g : Int):=hv
   subst hv
   have hg : g < (S.mq.map (·.2)).length:=hg
   refine ⟨_,(show PSs _ (defBody (sLe 3)) _ from (pss_one (ps_ret (pe_call G_lit hr rfl Li.m Li.fn.kp Li.b .nil pass0 (pa_cons (pv 2) (pa_cons (pe_callV (i:=1) hr rfl (Or.inr (Or.inr rfl)) (pa_cons (pv 0) pa_nil)) pa_nil)))))),?_⟩
   obtain ⟨hrl,_⟩:=G.rep hg
   have e0 : S.Z.hs[repG (S.mq.map (·.2)) g]? = some S.Z.hs[repG (S.mq.map (·.2)) g]:=by simp [hrl]
   have l0 : litG S.Z.hs (S.mq.map (·.2)) g = S.Z.hs[repG (S.mq.map (·.2)) g].lit:=by unfold litG litAt; rw [e0]
   refine ⟨_,rfl,S.go,_,_,rfl,hOne,hR,_,rfl,hR,g,rfl,by rw [List.length_map] at hg; exact hg,fun H1 s1 => ?_⟩
   refine ⟨S.Z.a,S.Z.ps,S.Z.hs,_,_,rfl,(hR.same s1).gr.house,e0,?_⟩
   rw [<- l0]
   exact q H1 s1
 exact ⟨fun H h hR ok => L.1 H h hR.n ok,fun A outer s H us vs Q E hr e0 hR r hsp => L.2 A outer s H us vs Q E hr e0 hR.n r ⟨hR.one,hsp⟩⟩
theorem fn_any {ι : Type} {κ : Type} {k : Nat} {ps : List Str} {sp : ι -> κ -> Sp} (h : ∀ i j,FnOk P w K mg base CX0 k f fd ps (sp i j)) : FnOk P w K mg base CX0 k f fd ps (fun vs H Q E => ∃ i j,sp i j vs H Q E) :=
 ⟨fun vs H Q E ⟨i,j,q⟩ => (h i j).len vs H Q E q,fun A outer s H args us vs Q E hr he hb hv ⟨i,j,q⟩ => (h i j).run A outer s H args us vs Q E hr he hb hv q⟩
noncomputable def spLeast (tabs : Tbs) : Sp:=fun vs H Q _ => Ex3 fun (a : Addr) (ps : List Addr) (hs : List Rm) => An6 (vs = [.ref a]) (HouseAt H a ps hs) (Wf hs) (hs.length <= 60) (TB tabs H) (∀ (l : Addr) (qs : List Addr) (rs : List Rm) (H' : Hp),(∀ u,H l = some u -> ∃ ps,u = .tbl ps) -> SamT H H' -> TB tabs H' -> HouseAt H' l qs rs -> IsLeast hs rs -> Q (.ref l) H')
theorem sc_least : FnScope ["house","exits","lit","groups","one_of"] ["house"] (defScope (top 16)):=⟨rfl,rfl,rfl,by decide +kernel,rfl,by decide +kernel,by decide +kernel⟩
theorem ok_least {C fI fW fH fP fA fR fS fg fe fl fy c Pt : Addr} {dI dW dH dP dA dR dS fdg fde fdl fdy : FuncData} {tabs : Tbs} (F : Fun K "least" "least" (top 16) f fd) (T : Blt mg) (TS : mg "sorted" = none) (TD : mg "dict" = none) (TM : mg "min" = none) (hB : BMain mg base) (nd : (tabs.map (·.1)).Nodup) (M : Mkr base fd tabs c Pt qsLe)
  (Zc : GrC K mg C fI fW fH fP fA dI dW dH dP dA) (Zd : GrD K C fR fS dR dS) (Ga : Df K mg "gathered" 13 ["marked"] fg fdg) (Ex : Df K mg "exits_of" 9 ["house","room"] fe fde) (Li : Df K mg "is_lit" 10 ["house","room"] fl fdl) (Lo : Df K mg "lay_out" 4 ["start","exits","lit"] fy fdy) :
  FnOk P w K mg base CX0 7 f fd ["house"] (spLeast tabs):=by
 have G_init : FnOk P w K mg base CX0 5 fI dI ["self","house"] (spGInit C):=ok_ginit T TS TD Zc Zd Ga Ex Li
 refine okC F M.code sc_least (fun vs H Q E h => ?_) (fun A outer s H vs Q E hr h => ?_)
 ·obtain ⟨a,ps,hs,rfl,_⟩:=h
  rfl
 ·obtain ⟨a,ps,hs,rfl,hh,wf,few,hTb,k⟩:=h
  have G_lay : ∀ (G : Gr Nat) (lt : Nat -> Bool),FnOk P w K mg base CX0 6 fy fdy ["start","exits","lit"] (spLay P w K mg base 2 cInt G lt):=fun G lt => (ok_lay Lo.fn T).mono (by decide)
  refine ⟨_,(pss_cons (ps_set (i:=3) sc_least.nd rfl (Or.inr rfl) (pe_make Zc.mkc G_init hr rfl Zc.m Zc.bI .nil pass0 (pa_cons (pv 0) pa_nil)))
   (pss_cons (ps_def (i:=4) (c:=c) (P:=Pt) (qs:=qsLe) (clos:=[("groups",s.heap.objs.size + 1 + 1)]) sc_least.nd rfl (Or.inr rfl) M.hd rfl hB (by kernel_rfl) rfl)
   (pss_cons (ps_def (i:=1) (c:=c) (P:=Pt) (qs:=qsLe) (clos:=[("one_of",s.heap.objs.size + 1 + 1 + 1),("house",s.heap.objs.size + 1),("groups",s.heap.objs.size + 1 + 1)]) sc_least.nd rfl (Or.inl rfl) M.hd rfl hB (by kernel_rfl) rfl)
   (pss_cons (ps_def (i:=2) (c:=c) (P:=Pt) (qs:=qsLe) (clos:=[("one_of",s.heap.objs.size + 1 + 1 + 1),("house",s.heap.objs.size + 1)]) sc_least.nd rfl (Or.inl rfl) M.hd rfl hB (by kernel_rfl) rfl)
   (pss_one (ps_ret (pe_callCs (sp:=fun vs H Q E => ∃ (G : Gr Nat) (lt : Nat -> Bool),spLay P w K mg base 2 cInt G lt vs H Q E) (sl:=[(0,s.heap.objs.size + 1),(3,s.heap.objs.size + 1 + 1),(4,s.heap.objs.size + 1 + 1 + 1)]) (E:=fun _ _ _ => False) (fn_any G_lay) hr rfl Lo.m Lo.fn.kp Lo.b ?sl (pa_cons (pe_ix ix_list (pe_fld (pv 3) rfl) pe_int (fun _ _ => rfl)) (pa_cons (pv 1) (pa_cons (pv 2) pa_nil)))))))))),?_⟩
  case sl =>
   intro p hp
   rcases List.mem_cons.mp hp with hp | hp
   ·rw [hp]; exact ⟨"house",rfl,Or.inr (Or.inl rfl),Or.inl rfl,rfl,rfl⟩
   rcases List.mem_cons.mp hp with hp | hp
   ·rw [hp]; exact ⟨"groups",rfl,Or.inr (Or.inl rfl),Or.inl rfl,rfl,rfl⟩
   ·rw [List.mem_singleton.mp hp]; exact ⟨"one_of",rfl,Or.inr (Or.inl rfl),Or.inl rfl,rfl,rfl⟩
  refine ⟨_,rfl,fun x dx hx hdx ndx => ?_⟩
  have hx1 : upd (upd H dx (.own x)) x (.ins C dx []) x = some (.ins C dx []):=upd_same
  have k1 : ∀ b u,H b = some u -> upd (upd H dx (.own x)) x (.ins C dx []) b = some u /\ b ≠ x:=fun b u e => by
   have n1 : b ≠ x:=ne_of_none e hx
   rw [upd_ne n1,upd_ne (ne_of_none e hdx)]
   exact ⟨e,n1⟩
  have hh1 : HouseAt (upd (upd H dx (.own x)) x (.ins C dx [])) a ps hs:=hh.same fun b u e => (k1 b u e).1
  refine ⟨x,dx,a,ps,hs,rfl,hx1,hh1,wf,few,fun Z gof mq wd H2 hZx hZa hZp hZh hG2 hGr kp2 => ⟨rfl,?_⟩⟩
  have sH2 : Same H H2:=fun b u e => kp2 _ _ (k1 b u e).1 (k1 b u e).2
  have hTB2:=hTb.same sH2
  refine ⟨hTB2 _ M.mem,fun g1 H3 hg1 s3 hT3 hL3 => ?_⟩
  have s3' : SamT H2 H3:=s3.toSam (let ⟨ps,e,_⟩:=hTB2 _ M.mem; ⟨ps,e⟩)
  have hTB3:=hTB2.grown nd M.mem s3 hT3
  refine ⟨hTB3 _ M.mem,fun g2 H4 hg2 s4 hT4 hL4 => ?_⟩
  have s4' : SamT H3 H4:=s4.toSam (let ⟨ps,e,_⟩:=hTB3 _ M.mem; ⟨ps,e⟩)
  have hTB4:=hTB3.grown nd M.mem s4 hT4
  refine ⟨hTB4 _ M.mem,fun g3 H5 hg3 s5 hT5 hL5 => ?_⟩
  have s5' : SamT H4 H5:=s5.toSam (let ⟨ps,e,_⟩:=hTB4 _ M.mem; ⟨ps,e⟩)
  have hTB5:=hTB4.grown nd M.mem s5 hT5
  obtain ⟨S,hS⟩ : ∃ S : LeC,S = ⟨s.heap.objs.size + 1,s.heap.objs.size + 1 + 1,s.heap.objs.size + 1 + 1 + 1,g1,g2,g3,C,Z,gof,mq,wd⟩:=⟨_,rfl⟩
  have m1 : nOne S H5:=by rw [hS]; show Ndf H5 g1 _ _ _ _ _ [("groups",s.heap.objs.size + 1 + 1)]; exact (hL3.sam s4').sam s5'
  have m2 : nEx S H5:=by rw [hS]; show Ndf H5 g2 _ _ _ _ _ [("one_of",s.heap.objs.size + 1 + 1 + 1),("house",s.heap.objs.size + 1),("groups",s.heap.objs.size + 1 + 1)]; exact hL4.sam s5'
  have m3 : nLi S H5:=by rw [hS]; show Ndf H5 g3 _ _ _ _ _ [("one_of",s.heap.objs.size + 1 + 1 + 1),("house",s.heap.objs.size + 1)]; exact hL5
  have sH5 : SamT H H5:=((sH2.toSam.trans s3').trans s4').trans s5'
  have hG5 : GrAt C Z H5 gof mq wd []:=((hG2.sam s3').sam s4').sam s5'
  have hGS : Grouped S.Z.hs S.gof (S.mq.map (·.2)):=by rw [hS]; rw [<- hZh] at hGr; exact hGr
  have ZcS : GrC K mg S.C fI fW fH fP fA dI dW dH dP dA:=by rw [hS]; exact Zc
  have ncs : [S.co,S.ch,S.cg].Nodup:=by
   rw [hS]
   show [s.heap.objs.size + 1 + 1 + 1,s.heap.objs.size + 1,s.heap.objs.size + 1 + 1].Nodup
   simp
   omega
  have nc : S.ch ≠ S.co:=by rw [hS]; show (s.heap.objs.size + 1 : Nat) ≠ s.heap.objs.size + 1 + 1 + 1; omega
  have oE : FvOk P w K mg base 2 S.ge (Rex S) (spExS cInt (grGroups hGS)):=ok_ex TM ZcS Ex hGS ncs
  have oL : FvOk P w K mg base 2 S.gi (Rli S) (spWant cInt (grGroups hGS) (litG S.Z.hs (S.mq.map (·.2)))):=ok_li TM ZcS Li hGS nc
  have hf5:=hG5.fields
  rw [hZx] at hf5
  have h0l : 0 < gof.length:=by rw [hGr.gi.len]; exact wf.ne
  refine ⟨_,rfl,x,C,Z.dx,_,_,rfl,hf5,Zc.cl,Zc.nG,rfl,Z.ga,_,_,_,rfl,rfl,SqL.of hG5.gof,atI_gv (r:=0) h0l,_,rfl,_,rfl,?_⟩
  intro Fz hF hFv
  obtain ⟨cs,hcs⟩ : ∃ cs,cs = [s.heap.objs.size + 1,s.heap.objs.size + 1 + 1,s.heap.objs.size + 1 + 1 + 1]:=⟨_,rfl⟩
  have hn2 : ∀ c ∈ cs,H5 c = none /\ ∃ o,Fz c = some (frzC c o):=by rw [hcs]; exact hF
  have c0 : CellIs Fz S.ch (.ref a):=by rw [hS]; exact hFv (0,s.heap.objs.size + 1) (by simp) (.ref a) rfl
  have c1 : CellIs Fz S.cg (.ref x):=by rw [hS]; exact hFv (3,s.heap.objs.size + 1 + 1) (by simp) (.ref x) rfl
  have c2 : CellIs Fz S.co (.ref g1):=by rw [hS]; exact hFv (4,s.heap.objs.size + 1 + 1 + 1) (by simp) (.ref g1) rfl
  have d0 : S.ch ∈ cs:=by rw [hS,hcs]; simp
  have d1 : S.cg ∈ cs:=by rw [hS,hcs]; simp
  have d2 : S.co ∈ cs:=by rw [hS,hcs]; simp
  have pc : ∀ {c : Addr} {v : V},c ∈ cs -> CellIs Fz c v -> CellIs (put H5 Fz cs) c v:=fun hc ⟨o,u,e1,e2⟩ => ⟨o,u,by rw [put_in hc]; exact e1,e2⟩
  show ∃ G lt,spLay P w K mg base 2 cInt G lt _ (put H5 Fz [s.heap.objs.size + 1,s.heap.objs.size + 1 + 1,s.heap.objs.size + 1 + 1 + 1]) (fun v' H' => Q v' (put H' noH [s.heap.objs.size + 1,s.heap.objs.size + 1 + 1,s.heap.objs.size + 1 + 1 + 1])) _
  rw [<- hcs]
  have s8 : Same H5 (put H5 Fz cs):=put_same fun c hc => (hn2 c hc).1
  have hfz8 : ∀ c ∈ cs,∃ o,put H5 Fz cs c = some (frzC c o):=fun c hc => let ⟨o,e⟩:=(hn2 c hc).2; ⟨o,by rw [put_in hc]; exact e⟩
  have hSZx : S.Z.x = x:=by rw [hS]; exact hZx
  have hSZa : S.Z.a = a:=by rw [hS]; exact hZa
  have hSgo : S.go = g1:=by rw [hS]
  have hG8 : GrAt S.C S.Z (put H5 Fz cs) S.gof S.mq S.wd []:=by
   have:=hG5.same s8
   rw [hS]
   exact this
  have hR1 : Rone S (put H5 Fz cs):=⟨⟨m1.sam s8.toSam,fun q hq => by rw [List.mem_singleton.mp hq]; show CellIs _ S.cg (.ref S.Z.x); rw [hSZx]; exact pc d1 c1⟩,hG8⟩
  have hR2 : Rex S (put H5 Fz cs):=⟨⟨m2.sam s8.toSam,fun q hq => by
   rcases List.mem_cons.mp hq with hq | hq
   ·rw [hq]; show CellIs _ S.co (.ref S.go); rw [hSgo]; exact pc d2 c2
   rcases List.mem_cons.mp hq with hq | hq
   ·rw [hq]; show CellIs _ S.ch (.ref S.Z.a); rw [hSZa]; exact pc d0 c0
   ·rw [List.mem_singleton.mp hq]; show CellIs _ S.cg (.ref S.Z.x); rw [hSZx]; exact pc d1 c1⟩,hR1⟩
  have hR3 : Rli S (put H5 Fz cs):=⟨⟨m3.sam s8.toSam,fun q hq => by
   rcases List.mem_cons.mp hq with hq | hq
   ·rw [hq]; show CellIs _ S.co (.ref S.go); rw [hSgo]; exact pc d2 c2
   ·rw [List.mem_singleton.mp hq]; show CellIs _ S.ch (.ref S.Z.a); rw [hSZa]; exact pc d0 c0⟩,hR1⟩
  have hge : S.ge = g2:=by rw [hS]
  have hgi : S.gi = g3:=by rw [hS]
  have hgo0 : gv S.gof 0 = gv gof 0:=by rw [hS]
  have hSh : S.Z.hs = hs:=by rw [hS]; exact hZh
  rw [hge] at oE
  rw [hgi] at oL
  refine ⟨grGroups hGS,litG S.Z.hs (S.mq.map (·.2)),.int (gv gof 0 : Nat),g2,g3,Rex S,Rli S,rfl,⟨?_,oE,oL,hR2,hR3,fun _ _ h s => h.same s,fun _ _ h s => h.same s,cInt_inj _,?_⟩,?_⟩
  ·show V.int (gv gof 0 : Nat) = kV (Sum.inl ((gv S.gof 0 : Nat) : Int))
   rw [hgo0]
   rfl
  ·show (S.mq.map (·.2)).length < sizeLine
   have h1:=hGS.gi.few
   rw [hSh] at h1
   exact small1000 (by omega)
  intro l ps' rs as H' hl s9 hh9 hLd
  have hLeast : IsLeast hs rs:=by
   have:=hGS.least hLd
   rw [hSh] at this
   exact this
  have hfz9 : ∀ c ∈ cs,∃ o,H' c = some (frzC c o):=fun c hc => let ⟨o,e⟩:=hfz8 c hc; ⟨o,s9 _ _ e⟩
  have hlf : ∀ u,H l = some u -> ∃ ps,u = .tbl ps:=fun u e => by
   refine Classical.byContradiction fun z => ?_
   have e3:=sH5 l u e fun ps y => z ⟨ps,y⟩
   have e4:=s8 l u e3
   rw [hl] at e4
   cases e4
  exact k l ps' rs _ hlf (out_sam (fun c hc => (hn2 c hc).1) sH5 s9.toSam) (out_tb hfz9 ((hTB5.same s8).same s9)) ⟨put_keep hfz9 hh9.ob (fun _ _ z => by cases z),hh9.rm.1,fun i p r e1 e2 => put_keep hfz9 (hh9.rm.2 i p r e1 e2) fun _ _ z => by cases z⟩ hLeast
end
end Law
set_option maxHeartbeats 8000000
namespace Law
open PySem L2 Hs PyProof.Rows
section
variable {P : Program} {w : World} {K : PySem.W.Frag} {mg : Str -> Option Value} {base : Heap} {f : Addr} {fd : FuncData}
noncomputable def spBlown (K : PySem.W.Frag) : Sp:=fun vs H Q _ => Ex6 fun (b a : Addr) (ps : List Addr) (bs : List Rm) (m : Nat) (ns : List Int) => An9 (vs = [.ref b,.int (m : Int),.ref a]) (HouseAt H b ps bs) (Wf bs) (0 < m) (m <= 1000) (bs.length * m <= 1000) (SqL K H a (ns.map V.int)) (ns.length <= 1000) (∀ (l : Addr) (ps' : List Addr) (H' : Hp),H l = none -> Same H H' -> HouseAt H' l ps' (blown bs m ns) -> Q (.ref l) H')
theorem sc_law_blown : FnScope ["_law_base","_law_copies","_law_cells","_law_size","_law_house","_law_k","_law_room","_law_cell","_law_one","_law_other"] ["_law_base","_law_copies","_law_cells"] (defScope (top 33)):=⟨rfl,rfl,rfl,by decide +kernel,rfl,by decide +kernel,by decide +kernel⟩
theorem ok_blown (F : Fun K "_law_blown" "_law_blown" (top 33) f fd) (T : Blt mg) : FnOk P w K mg base CX0 1 f fd ["_law_base","_law_copies","_law_cells"] (spBlown K):=by
 refine F.ok sc_law_blown (fun vs H Q E h => ?_) (fun cdv A outer s H vs Q E hr h => ?_)
 ·obtain ⟨b,a,ps,bs,m,ns,rfl,_⟩:=h
  rfl
 ·obtain ⟨b,a,ps,bs,m,ns,rfl,hb,wf,hm0,hm1,hbm,hS,hnl,k⟩:=h
  have hu:=hu_of hr
  have hne:=wf.ne
  refine ⟨_,(pss_cons (ps_set (i:=3) sc_law_blown.nd rfl (Or.inl rfl) (pe_callB call_len_seq (by rfl) T.len PySem.boot_len (pa_cons (pv 0) pa_nil)))
   (pss_cons (ps_set (i:=4) sc_law_blown.nd rfl (Or.inl rfl) (pe_lst pa_nil))
   (pss_cons (ps_for PassesOwn.never rfl (pi_range1 rfl T.range (pa_cons (pe_op op_mul (pv 3) (pv 1)) pa_nil)) (pg_name (i:=5) sc_law_blown.nd rfl (Or.inl rfl))
    (pss_cons (ps_set (i:=6) sc_law_blown.nd rfl (Or.inl rfl) (pe_ix ix_list (pv 0) (pe_op op_mod (pv 5) (pv 3)) (fun _ _ => rfl)))
    (pss_cons (ps_set (i:=7) sc_law_blown.nd rfl (Or.inl rfl) (pv 5))
    (pss_cons (ps_if (pt_cmpR (op_neL hu) (pv 2) (pe_lst pa_nil) (nomark _))
     (pss_one (ps_set (i:=7) sc_law_blown.nd rfl (Or.inl rfl) (pe_op op_add (pe_ix ix_list (pv 2) (pe_op op_mod (pv 5) (pe_callB call_len_seq (by rfl) T.len PySem.boot_len (pa_cons (pv 2) pa_nil))) (fun _ _ => rfl)) (pv 5))))
     pss_nil)
    (pss_cons (ps_set (i:=8) sc_law_blown.nd rfl (Or.inl rfl) (pe_op op_add (pe_ix ix_tup (pv 6) pe_int (fun _ _ => rfl)) (pe_op op_mul (pv 3) (pe_op op_mod (pv 7) (pv 1)))))
    (pss_cons (ps_set (i:=9) sc_law_blown.nd rfl (Or.inl rfl) (pe_op op_add (pe_ix ix_tup (pv 6) pe_int (fun _ _ => rfl)) (pe_op op_mul (pv 3) (pe_op op_mod (pe_op op_fdiv (pv 7) (pv 1)) (pv 1)))))
    (pss_one (ps_expr (pe_bm PySem.F.plainAttrs_list PySem.F.slot_list_append PySem.F.type_list_append mt_append (pv 4) (pa_cons (pe_tup (pa_cons (pv 8) (pa_cons (pv 9) (pa_cons (pe_ix ix_tup (pv 6) pe_int (fun _ _ => rfl)) pa_nil)))) pa_nil))))))))))
   (pss_one (ps_ret (pv 4)))))),?_⟩
  refine ⟨_,rfl,b,_,rfl,.inl (SqL.of hb.ob),?_⟩
  have hpl : (ps.map V.ref).length = bs.length:=by rw [List.length_map,hb.rm.1]
  rw [hpl]
  refine ⟨Nat.zero_le _,fun l hl => ?_⟩
  have hbl : bs.length <= 1000:=by
   have : bs.length * 1 <= bs.length * m:=Nat.mul_le_mul_left _ hm0
   omega
  refine ⟨_,rfl,_,rfl,_,_,rfl,rfl,.inl ⟨by omega,by omega⟩,_,rfl,?_,?_,?_⟩
  ·show -(2 ^ 62) <= (bs.length : Int) * (m : Int)
   rw [<- Int.natCast_mul]; omega
  ·show (bs.length : Int) * (m : Int) < 2 ^ 62
   rw [<- Int.natCast_mul]; omega
  rw [<- Int.natCast_mul,Int.toNat_natCast]
  refine for_range (lo:=0) (n:=bs.length * m) (fun i σ H2 => Ex6 fun (qs : List Addr) (v5 v6 v7 v8 v9 : Option V) => An4 (σ = [some (.ref b),some (.int (m : Int)),some (.ref a),some (.int (bs.length : Int)),some (.ref l),v5,v6,v7,v8,v9]) (Same H H2) (H2 l = some (.lst (qs.map V.ref))) (Rooms H2 qs ((blown bs m ns).take i)))
   ⟨[],none,none,none,none,none,rfl,same_upd hl,upd_same,⟨rfl,fun i p r e => by simp at e⟩⟩ ?_ ?_
  ·intro i σ H2 hi hP0
   refine kqX fun K0 eK0 => ?_
   obtain ⟨qs,v5,v6,v7,v8,v9,rfl,s2,hl2,hR⟩:=hP0
   subst eK0
   rw [Int.zero_add]
   have hib : i % bs.length < bs.length:=Nat.mod_lt _ hne
   have hbs : (0 : Int) < (bs.length : Int):=by omega
   have hmm : (0 : Int) < (m : Int):=by omega
   have hr0 : bs[i % bs.length]? = some (bs.getD (i % bs.length) default):=by simp [List.getD,hib]
   obtain ⟨p,_,hp,hat⟩:=(hb.same s2).get hr0
   have em : (i : Int) % (bs.length : Int) = ((i % bs.length : Nat) : Int):=by rw [Int.natCast_emod]
   refine ⟨_,rfl,_,rfl,_,rfl,_,_,rfl,rfl,hbs,b,_,_,_,rfl,rfl,SqL.of (hb.same s2).ob,(by rw [em]; exact hat),?_⟩
   refine ⟨_,rfl,?_⟩
   dsimp only
   refine seq_d fun Rt Dt et ed => ?_
   refine ⟨_,rfl,Nat.zero_le _,fun u hu' => ?_⟩
   have nlu : l ≠ u:=ne_of_none hl2 hu'
   refine ⟨a,u,_,_,_,rfl,rfl,(s2.upd hu').seq hS,SqL.of upd_same,eqLs_nil,_,rfl,?_⟩
   have hR3 : Rooms (upd H2 u (.lst [])) qs ((blown bs m ns).take i):=hR.same (same_upd hu')
   have hl3 : upd H2 u (.lst []) l = some (.lst (qs.map V.ref)):=unX nlu hl2
   have s3 : Same H (upd H2 u (.lst [])):=s2.upd hu'
   have hp3 : upd H2 u (.lst []) p = some (.tup (rmV (bs.getD (i % bs.length) default))):=same_upd hu' _ _ hp
   have hql : qs.length <= 1000:=by rw [hR.1,List.length_take,blown_length]; omega
   generalize upd H2 u (.lst []) = H3 at hR3 hl3 s3 hp3
   have hB : blownR bs m ns i = ⟨(bs.getD (i % bs.length) default).l + bs.length * (cellB ns i % (m : Int)).toNat,(bs.getD (i % bs.length) default).r + bs.length * (cellB ns i / (m : Int) % (m : Int)).toNat,(bs.getD (i % bs.length) default).lit⟩:=rfl
   generalize bs.getD (i % bs.length) default = rr at hp3 hB
   have tail : ∀ cc : Int,cellB ns i = cc -> Rt Dt [some (.ref b),some (.int (m : Int)),some (.ref a),some (.int (bs.length : Int)),some (.ref l),some (.int (i : Int)),some (.ref p),some (.int cc),v8,v9] H3:=by
    intro cc hc
    rw [et,ed]
    have hmA:=mod_toNat (cellB ns i) hm0
    have hmB:=mod_toNat (cellB ns i / (m : Int)) hm0
    have hmz : (m : Int) < 1073741824:=by omega
    refine ⟨_,rfl,p,_,_,_,rfl,rfl,SqT.of hp3,rfl,_,rfl,_,rfl,_,rfl,_,_,rfl,rfl,hmm,_,_,rfl,rfl,.inl ⟨by omega,by omega⟩,_,_,rfl,rfl,?_⟩
    refine ⟨_,rfl,p,_,_,_,rfl,rfl,SqT.of hp3,rfl,_,rfl,_,rfl,_,rfl,_,_,rfl,rfl,⟨hmm,hmz⟩,_,rfl,_,_,rfl,rfl,hmm,_,_,rfl,rfl,.inl ⟨by omega,by omega⟩,_,_,rfl,rfl,?_⟩
    refine ⟨_,rfl,.inl ⟨rfl,_,SqL.of hl3⟩,_,rfl,_,rfl,_,rfl,p,_,_,_,rfl,rfl,SqT.of hp3,rfl,(by show 3 <= sizeLine; decide),fun q hq => ?_⟩
    have nlq : l ≠ q:=ne_of_none hl3 hq
    refine ⟨l,_,_,rfl,rfl,(unX nlq hl3),(by rw [List.length_map]; exact small1000 hql),?_⟩
    refine ⟨qs ++ [q],_,_,_,_,_,rfl,(s3.upd hq).put hl,(by rw [List.map_append]; exact upd_same),?_⟩
    rw [blown_take bs m ns hi]
    refine Rooms.snoc ⟨hR3.1,fun j x z e1 e2 => ?_⟩ ?_
    ·have hx:=hR3.2 j x z e1 e2
     rw [upd_ne (nfX hx hl3 rfl),upd_ne (ne_of_none hx hq)]
     exact hx
    ·rw [upd_ne nlq.symm,upd_same,hB]
     have x1 : ((rr.l : Nat) : Int) + (bs.length : Int) * (cellB ns i % (m : Int)) = ((rr.l + bs.length * (cellB ns i % (m : Int)).toNat : Nat) : Int):=by rw [Int.natCast_add,Int.natCast_mul,hmA.2]
     have x2 : ((rr.r : Nat) : Int) + (bs.length : Int) * (cellB ns i / (m : Int) % (m : Int)) = ((rr.r + bs.length * (cellB ns i / (m : Int) % (m : Int)).toNat : Nat) : Int):=by rw [Int.natCast_add,Int.natCast_mul,hmB.2]
     rw [hc] at x1 x2
     rw [hc]
     have x3:=congr (congrArg (fun (x y : Int) => some (HO.tup [V.int x,V.int y,V.bl rr.lit])) x1) x2
     exact x3
   by_cases hns : ns = []
   ·refine ifF (by simp [hns]) ?_
    exact tail _ (if_pos hns)
   ·refine ifT (by simp [hns]) ?_
    have hnl0 : 0 < ns.length:=by
     rcases Nat.eq_zero_or_pos ns.length with z | z
     ·exact absurd (List.length_eq_zero_iff.mp z) hns
     ·exact z
    have hin : i % ns.length < ns.length:=Nat.mod_lt _ hnl0
    have hc : cellB ns i = ns.getD (i % ns.length) 0 + (i : Int):=if_neg hns
    have e4 : ns[i % ns.length]? = some (ns.getD (i % ns.length) 0):=by simp [List.getD,hin]
    have en : (i : Int) % (((ns.map V.int).length : Nat) : Int) = ((i % ns.length : Nat) : Int):=by rw [List.length_map,Int.natCast_emod]
    refine ⟨_,rfl,_,rfl,_,rfl,a,_,rfl,.inl (s3.seq hS),_,_,rfl,rfl,(by rw [List.length_map]; omega),a,_,_,_,rfl,rfl,s3.seq hS,(by rw [en]; exact atI_nat (by rw [List.getElem?_map,e4]; rfl)),_,rfl,_,_,rfl,rfl,?_⟩
    exact tail _ hc
  ·rintro σ H2 ⟨qs,v5,v6,v7,v8,v9,rfl,s2,hl2,hR⟩
   rw [List.take_of_length_le (by rw [blown_length]; exact Nat.le_refl _)] at hR
   exact ⟨_,rfl,k l qs H2 hl s2 ⟨hl2,hR⟩⟩
noncomputable def lenM (o : Option HO) : Nat:=match o with
 | some (.lst xs) => xs.length
 | some (.dK kvs) => kvs.length
 | _ => 0
noncomputable def mp (φ : Nat -> Nat) (S : List Nat) : List (Key × V):=S.map fun r : Nat => (Sum.inl (r : Int),V.int (φ r : Nat))
theorem mp_len (φ : Nat -> Nat) (S : List Nat) : (mp φ S).length = S.length:=by simp [mp]
theorem mp_mem {φ : Nat -> Nat} {S : List Nat} {r : Nat} : (Sum.inl (r : Int) : Key) ∈ (mp φ S).map (·.1) ↔ r ∈ S:=by
 unfold mp
 rw [List.map_map,List.mem_map]
 constructor
 ·rintro ⟨s,hs,e⟩
  have e : (Sum.inl (s : Int) : Key) = Sum.inl (r : Int):=e
  injection e with e
  have : s = r:=by omega
  exact this ▸ hs
 ·intro h
  exact ⟨r,h,rfl⟩
theorem mp_val {φ : Nat -> Nat} {S : List Nat} {r : Nat} (h : r ∈ S) : valV (mp φ S) (Sum.inl (r : Int)) = some (.int (φ r : Nat)):=by
 induction S with
 | nil => simp at h
 | cons s S ih =>
  show valV ((Sum.inl (s : Int),V.int (φ s : Nat)) :: mp φ S) _ = _
  by_cases e : s = r
  ·subst e
   exact valV_pos rfl
  ·rw [valV_neg (by intro z; injection z with z; omega)]
   exact ih ((List.mem_cons.mp h).resolve_left fun z => e z.symm)
theorem mp_put {φ : Nat -> Nat} {S : List Nat} {r : Nat} (h : r ∉ S) : putK (mp φ S) (Sum.inl (r : Int)) (.int (φ r : Nat)) = mp φ (S ++ [r]):=by
 rw [putK_new fun z => h (mp_mem.mp z)]
 unfold mp
 rw [List.map_append]
 rfl
noncomputable def spMapped : Sp:=fun vs H Q _ => Ex6 fun (a b : Addr) (ps qs : List Addr) (hs rs : List Rm) => An7 (vs = [.ref a,.ref b]) (HouseAt H a ps hs) (HouseAt H b qs rs) (Wf hs) (hs.length <= 400) (IsLeast hs rs) (∀ H',Same H H' -> Q (.bl true) H')
theorem sc_mapped : FnScope ["_law_house","_law_found","_law_rooms","_law_todo","_law_room","_law_image","_law_turn","_law_further"] ["_law_house","_law_found"] (defScope (top 35)):=⟨rfl,rfl,rfl,by decide +kernel,rfl,by decide +kernel,by decide +kernel⟩
theorem ok_mapped (F : Fun K "_law_mapped" "_law_mapped" (top 35) f fd) (T : Blt mg) : FnOk P w K mg base CX0 1 f fd ["_law_house","_law_found"] spMapped:=by
 refine F.ok sc_mapped (fun vs H Q E h => ?_) (fun cdv A outer s H vs Q E hr h => ?_)
 ·obtain ⟨a,b,ps,qs,hs,rs,rfl,_⟩:=h
  rfl
 ·obtain ⟨a,b,ps,qs,hs,rs,rfl,ha,hb,wf,few,hL,k⟩:=h
  have hu:=hu_of hr
  obtain ⟨φ,hφ0,hφ⟩:=hL.map
  obtain ⟨G,hG⟩ : ∃ G,G = grRooms hs wf:=⟨_,rfl⟩
  have hGB : G.B = hs.length:=by rw [hG]; rfl
  have hGn : ∀ x b,G.nx x b = stp hs x b:=fun x b => by rw [hG]; rfl
  have hGr : ∀ x,G.Reach x -> Reach hs x:=fun x ⟨wk,e⟩ => by rw [hG] at e; exact ⟨wk,e⟩
  have hGU : ∀ x,G.U x -> x < hs.length:=fun x h => by rw [hG] at h; exact h
  refine ⟨_,(pss_cons (ps_set (i:=2) sc_mapped.nd rfl (Or.inl rfl) (pe_disp1 .s (Nat.lt_of_succ_lt hu) pe_int pe_int))
   (pss_cons (ps_set (i:=3) sc_mapped.nd rfl (Or.inl rfl) (pe_lst (pa_cons pe_int pa_nil)))
   (pss_cons (ps_while PassesOwn.never (pt_cmpR (op_neL hu) (pv 3) (pe_lst pa_nil) (nomark _))
    (pss_cons (ps_set (i:=4) sc_mapped.nd rfl (Or.inl rfl) (pe_bm0 PySem.F.plainAttrs_list PySem.F.slot_list_pop PySem.F.type_list_pop mt_pop (pv 3)))
    (pss_cons (ps_set (i:=5) sc_mapped.nd rfl (Or.inl rfl) (pe_dget hu (pv 2) (pv 4) (fun _ _ => rfl)))
    (pss_cons (ps_if (pt_cmpR op_ne (pe_ix ix_tup (pe_ix ix_list (pv 0) (pv 4) (fun _ _ => rfl)) pe_int (fun _ _ => rfl)) (pe_ix ix_tup (pe_ix ix_list (pv 1) (pv 5) (fun _ _ => rfl)) pe_int (fun _ _ => rfl)) (nomark _))
     (pss_one (ps_ret pe_bl))
     pss_nil)
    (pss_one (ps_for PassesOwn.never rfl (pi_range1 rfl T.range (pa_cons pe_int pa_nil)) (pg_name (i:=6) sc_mapped.nd rfl (Or.inl rfl))
     (pss_cons (ps_set (i:=7) sc_mapped.nd rfl (Or.inl rfl) (pe_ix ix_tup (pe_ix ix_list (pv 0) (pv 4) (fun _ _ => rfl)) (pv 6) (fun _ _ => rfl)))
     (pss_one (ps_if (pt_cmp (pc_dnotin hu (pv 7) (pv 2)))
      (pss_cons (ps_dput hu (pv 2) (pv 7) (pe_ix ix_tup (pe_ix ix_list (pv 1) (pv 5) (fun _ _ => rfl)) (pv 6) (fun _ _ => rfl)) rfl)
      (pss_one (ps_expr (pe_bm PySem.F.plainAttrs_list PySem.F.slot_list_append PySem.F.type_list_append mt_append (pv 3) (pa_cons (pv 7) pa_nil)))))
      (pss_one (ps_if (pt_cmpR op_ne (pe_dget hu (pv 2) (pv 7) (fun _ _ => rfl)) (pe_ix ix_tup (pe_ix ix_list (pv 1) (pv 5) (fun _ _ => rfl)) (pv 6) (fun _ _ => rfl)) (nomark _))
       (pss_one (ps_ret pe_bl))
       pss_nil)))))))))))
   (pss_one (ps_ret pe_bl))))),?_⟩
  refine fun d hd => ⟨upd_same,Sum.inl 0,rfl,?_⟩
  rw [upd_upd]
  have s1 : Same H (upd H d (Kd.s.mk [((Sum.inl 0 : Key),V.int 0)])):=same_upd hd
  have hd1 : upd H d (Kd.s.mk [((Sum.inl 0 : Key),V.int 0)]) d = some (.dK (mp φ [0])):=by
   rw [upd_same]
   show some (HO.dK [((Sum.inl 0 : Key),V.int 0)]) = some (HO.dK [(Sum.inl ((0 : Nat) : Int),V.int (φ 0 : Nat))])
   rw [hφ0]
   rfl
  generalize upd H d (Kd.s.mk [((Sum.inl 0 : Key),V.int 0)]) = H1 at s1 hd1
  refine ⟨(by show 1 <= sizeLine; decide),fun m hm => ?_⟩
  have s2 : Same H1 (upd H1 m (.lst [.int 0])):=same_upd hm
  have hm0 : H m = none:=s1.none hm
  have ndm : d ≠ m:=ne_of_none hd1 hm
  have hG0 : G.s0 = 0:=by rw [hG]; rfl
  refine while_by (fun σ H3 => Ex6 fun (seen td : List Nat) (v4 v5 v6 v7 : Option V) => An7 (σ = [some (.ref a),some (.ref b),some (.ref d),some (.ref m),v4,v5,v6,v7]) (Same H H3) (H3 d = some (.dK (mp φ seen))) (H3 m = some (.lst (nV td))) (Dfs G seen td) ((∀ x ∈ td,x ∈ seen)) (td.length <= seen.length))
   (fun σ H3 => 2 * (G.B - lenM (H3 d)) + lenM (H3 m))
   ⟨[0],[0],none,none,none,none,rfl,s1.trans s2,s2 _ _ hd1,upd_same,hG0 ▸ Dfs.start G,fun x hx => hx,Nat.le_refl _⟩ ?_ ?_
  ·intro σ H3 hP0
   refine kqX fun K0 eK0 => ?_
   obtain ⟨seen,td,v4,v5,v6,v7,rfl,s3,hd3,hm3,hD,hsub,hbd⟩:=hP0
   subst eK0
   refine ⟨_,rfl,Nat.zero_le _,fun x hx => ?_⟩
   have s5 : Same H3 (upd H3 x (.lst [])):=same_upd hx
   refine ⟨m,x,_,_,_,rfl,rfl,SqL.of (s5 _ _ hm3),SqL.of upd_same,eqLs_nil,_,rfl,?_⟩
   have hd5:=s5 _ _ hd3
   have hm5:=s5 _ _ hm3
   have s45:=s3.trans s5
   generalize upd H3 x (.lst []) = H4 at s5 hd5 hm5 s45
   rcases List.eq_nil_or_concat td with rfl | ⟨td',r,rfl⟩
   ·refine ifF (by simp [nV]) ?_
    exact k H4 s45
   ·rw [List.concat_eq_append] at *
    have enV : nV (td' ++ [r]) = nV td' ++ [.int (r : Int)]:=by unfold nV; rw [List.map_append]; rfl
    refine ifT (by rw [enV]; simp) ?_
    refine seq_d fun Ra Da qa da => ?_
    obtain ⟨hD',hR,hU⟩:=hD.pop
    have hRr:=hGr r hR
    have hrl:=hGU r hU
    obtain ⟨f1,f2,f3⟩:=hφ r hRr
    have hrs:=hsub r (List.mem_append_right _ (List.mem_singleton.mpr rfl))
    rw [enV] at hm5
    refine ⟨_,rfl,.inl ⟨rfl,_,SqL.of hm5⟩,m,_,.int (r : Int),rfl,rfl,hm5,(by simp),?_⟩
    rw [List.dropLast_concat]
    have s6 : Same H (upd H4 m (.lst (nV td'))):=s45.put hm0
    have hd6 : upd H4 m (.lst (nV td')) d = some (.dK (mp φ seen)):=unX ndm hd5
    have hm6 : upd H4 m (.lst (nV td')) m = some (.lst (nV td')):=upd_same
    have hlen3 : lenM (H3 d) = seen.length /\ lenM (H3 m) = td'.length + 1:=by
     rw [hd3,hm3]
     refine ⟨by show (mp φ seen).length = _; rw [mp_len],by show (nV (td' ++ [r])).length = _; rw [nV_len,List.length_append]; rfl⟩
    generalize upd H4 m (.lst (nV td')) = H5 at s6 hd6 hm6
    refine seq_n (R:=Ra) qa fun Rb qb => ?_
    clear qa Ra
    refine ⟨_,rfl,_,rfl,d,_,rfl,(by have g:=DGet.k (k:=Sum.inl (r : Int)) hd6; rw [mp_val hrs] at g; exact g),?_⟩
    refine seq_n (R:=Rb) qb fun Rc qc => ?_
    clear qb Rb
    have ea : hs[r]? = some hs[r]:=by simp [hrl]
    have eb : rs[φ r]? = some rs[φ r]:=by simp [f1]
    have hsta : ∀ bb : Bool,stp hs r bb = if bb then hs[r].r else hs[r].l:=fun bb => by unfold Hs.stp; rw [ea]
    have hstb : ∀ bb : Bool,stp rs (φ r) bb = if bb then rs[φ r].r else rs[φ r].l:=fun bb => by unfold Hs.stp; rw [eb]
    have hla : litAt hs r = hs[r].lit:=by unfold litAt; rw [ea]
    have hlb : litAt rs (φ r) = rs[φ r].lit:=by unfold litAt; rw [eb]
    rw [hla,hlb] at f2
    generalize hs[r] = ra at ea hsta hla f2
    generalize rs[φ r] = rb at eb hstb hlb f2
    obtain ⟨pa,_,hpa,hata⟩:=(ha.same s6).get ea
    obtain ⟨pb,_,hpb,hatb⟩:=(hb.same s6).get eb
    refine ⟨_,rfl,_,rfl,a,_,_,_,rfl,rfl,SqL.of (ha.same s6).ob,hata,pa,_,_,_,rfl,rfl,SqT.of hpa,rfl,_,rfl,_,rfl,b,_,_,_,rfl,rfl,SqL.of (hb.same s6).ob,hatb,pb,_,_,_,rfl,rfl,SqT.of hpb,rfl,rfl,_,rfl,?_⟩
    refine ifF (by rw [f2]; simp) ?_
    refine seq_e (R:=Rc) qc ?_
    clear qc Rc
    refine ⟨2,rfl,by decide,by decide,?_⟩
    refine for_range (lo:=0) (n:=2) (fun j σ H6 => Ex4 fun (seen td : List Nat) (v6 v7 : Option V) => An8 (σ = [some (.ref a),some (.ref b),some (.ref d),some (.ref m),some (.int (r : Int)),some (.int (φ r : Nat)),v6,v7]) (Same H H6) (H6 d = some (.dK (mp φ seen))) (H6 m = some (.lst (nV td))) (Dfs G seen td) ((∀ x ∈ td,x ∈ seen)) (td.length <= seen.length) (2 * (G.B - lenM (H6 d)) + lenM (H6 m) < 2 * (G.B - lenM (H3 d)) + lenM (H3 m)))
     ⟨seen,td',_,_,rfl,s6,hd6,hm6,hD',fun x hx => hsub x (List.mem_append_left _ hx),by rw [List.length_append] at hbd; simp at hbd; omega,?_⟩ ?_ ?_
    ·rw [hlen3.1,hlen3.2,hd6,hm6]
     show 2 * (G.B - (mp φ seen).length) + (nV td').length < _
     rw [mp_len,nV_len]
     omega
    ·intro j σ H6 hj hP0
     refine kqX fun K0 eK0 => ?_
     obtain ⟨seen2,td2,v6',v7',rfl,s7,hd7,hm7,hD7,hsub7,hbd7,hmu⟩:=hP0
     obtain ⟨bb,hbb⟩ : ∃ bb : Bool,j = (if bb then 1 else 0):=by
      match j,hj with
      | 0,_ => exact ⟨false,rfl⟩
      | 1,_ => exact ⟨true,rfl⟩
     have hja : atI (rmV ra) (0 + (j : Int)) = some (.int (stp hs r bb : Nat)):=by rw [hsta,hbb]; cases bb <;> rfl
     have hjb : atI (rmV rb) (0 + (j : Int)) = some (.int (stp rs (φ r) bb : Nat)):=by rw [hstb,hbb]; cases bb <;> rfl
     have ha7:=ha.same s7
     have hb7:=hb.same s7
     obtain ⟨pa7,_,hpa7,hata7⟩:=ha7.get ea
     obtain ⟨pb7,_,hpb7,hatb7⟩:=hb7.get eb
     have hRn:=hRr.step bb
     obtain ⟨g1,g2,g3⟩:=hφ _ hRn
     have hUn : stp hs r bb < hs.length:=wf.stp hrl bb
     subst eK0
     refine seq_d fun Rd Dd qd dd => ?_
     refine ⟨_,rfl,_,rfl,a,_,_,_,rfl,rfl,SqL.of ha7.ob,hata7,_,rfl,pa7,_,_,_,rfl,rfl,SqT.of hpa7,hja,?_⟩
     refine seq_e (R:=Rd) qd ?_
     clear qd Rd
     refine ⟨_,rfl,_,rfl,d,_,rfl,DGet.k (k:=Sum.inl ((stp hs r bb : Nat) : Int)) hd7,_,rfl,?_⟩
     by_cases hin : stp hs r bb ∈ seen2
     ·refine ifF (by rw [mp_val hin]; rfl) ?_
      refine ⟨_,rfl,_,rfl,d,_,rfl,(by have g:=DGet.k (k:=Sum.inl ((stp hs r bb : Nat) : Int)) hd7; rw [mp_val hin] at g; exact g),_,rfl,_,rfl,b,_,_,_,rfl,rfl,SqL.of hb7.ob,hatb7,_,rfl,pb7,_,_,_,rfl,rfl,SqT.of hpb7,hjb,rfl,_,rfl,?_⟩
      refine ifF (by rw [f3 bb]; simp) ?_
      subst dd
      exact ⟨seen2,td2,_,_,rfl,s7,hd7,hm7,hD7,hsub7,hbd7,hmu⟩
     ·refine ifT (by rw [valV_no fun z => hin (mp_mem.mp z)]; rfl) ?_
      have hDn:=hD7.push (q:=r) (b:=bb) hR hU (by rw [hGn]; exact hin)
      rw [hGn] at hDn
      have hlenD:=hDn.len
      rw [hGB,List.length_append] at hlenD
      have hlenD : seen2.length + 1 <= hs.length:=hlenD
      refine ⟨_,rfl,_,rfl,b,_,_,_,rfl,rfl,SqL.of hb7.ob,hatb7,_,rfl,pb7,_,_,_,rfl,rfl,SqT.of hpb7,hjb,?_⟩
      refine ⟨_,rfl,_,rfl,d,_,rfl,DPut.k (k:=Sum.inl ((stp hs r bb : Nat) : Int)) hd7 (by rw [mp_len]; exact small1000 (by omega)),?_⟩
      rw [<- f3 bb,mp_put hin]
      have hm8 : upd H6 d (.dK (mp φ (seen2 ++ [stp hs r bb]))) m = some (.lst (nV td2)):=unX ndm.symm hm7
      refine ⟨_,rfl,.inl ⟨rfl,_,SqL.of hm8⟩,_,rfl,m,_,_,rfl,rfl,hm8,(by rw [nV_len]; exact small1000 (by omega)),?_⟩
      have en2 : nV td2 ++ [V.int ((stp hs r bb : Nat) : Int)] = nV (td2 ++ [stp hs r bb]):=by unfold nV; rw [List.map_append]; rfl
      rw [en2]
      subst dd
      refine ⟨seen2 ++ [stp hs r bb],td2 ++ [stp hs r bb],_,_,rfl,(s7.put hd).put hm0,unX ndm upd_same,upd_same,hDn,fun x hx => ?_,by rw [List.length_append,List.length_append]; omega,?_⟩
      ·rcases List.mem_append.mp hx with z | z
       ·exact List.mem_append_left _ (hsub7 x z)
       ·exact List.mem_append_right _ z
      ·rw [hd7,hm7] at hmu
       rw [upd_ne ndm,upd_same,upd_same]
       have hmu : 2 * (G.B - (mp φ seen2).length) + (nV td2).length < _:=hmu
       show 2 * (G.B - (mp φ (seen2 ++ [stp hs r bb])).length) + (nV (td2 ++ [stp hs r bb])).length < _
       rw [mp_len,nV_len] at hmu
       rw [mp_len,nV_len,List.length_append,List.length_append]
       rw [hGB] at hmu ⊢
       show 2 * (hs.length - (seen2.length + 1)) + (td2.length + 1) < _
       omega
    ·rintro σ H6 ⟨seen2,td2,v6',v7',rfl,s7,hd7,hm7,hD7,hsub7,hbd7,hmu⟩
     subst da
     exact ⟨⟨seen2,td2,_,_,_,_,rfl,s7,hd7,hm7,hD7,hsub7,hbd7⟩,hmu⟩
  ·intro σ H3 Q1 Q2 hq hc
   obtain ⟨v,e1,e2,q1⟩:=hc
   refine ⟨v,e1,e2,fun x hx => ?_⟩
   obtain ⟨m1,x1,y1,y2,y3,g1,g2,g3,g4,g5,b1,g6,q2⟩:=q1 x hx
   exact ⟨m1,x1,y1,y2,y3,g1,g2,g3,g4,g5,b1,g6,hq _ _ q2⟩
end
end Law
set_option maxHeartbeats 8000000
namespace Law
open PySem L2 Hs PyProof.Rows
section
variable {P : Program} {w : World} {K : PySem.W.Frag} {mg : Str -> Option Value} {base : Heap} {f : Addr} {fd : FuncData}
noncomputable def spInTurn : Sp:=fun vs H Q _ => Ex3 fun (a : Addr) (ps : List Addr) (rs : List Rm) => An4 (vs = [.ref a]) (HouseAt H a ps rs) (turnL (exitsL rs) = some rs.length) (∀ H',Same H H' -> Q (.bl true) H')
theorem sc_in_turn : FnScope ["_law_found","_law_count","_law_room","_law_further"] ["_law_found"] (defScope (top 36)):=⟨rfl,rfl,rfl,by decide +kernel,rfl,by decide +kernel,by decide +kernel⟩
theorem turn_pre {rs : List Rm} {c i : Nat} (h : turnL (exitsL rs) = some c) {r : Rm} (hr : rs[i]? = some r) {j : Nat} (hj : j <= 2) : ∃ d,turnL (exitsL (rs.take i) ++ [r.l,r.r].take j) = some d:=by
 have hi : i < rs.length:=(List.getElem?_eq_some_iff.mp hr).1
 have e : exitsL rs = (exitsL (rs.take i) ++ [r.l,r.r].take j) ++ ([r.l,r.r].drop j ++ exitsL (rs.drop (i + 1))):=by
  have e0 : rs = rs.take i ++ (r :: rs.drop (i + 1)):=by
   have e1 : rs.drop i = r :: rs.drop (i + 1):=by
    rw [List.drop_eq_getElem_cons hi]
    have : rs[i] = r:=by rw [List.getElem?_eq_getElem hi] at hr; exact Option.some.inj hr
    rw [this]
   rw [<- e1,List.take_append_drop]
  have e2 : exitsL rs = exitsL (rs.take i) ++ exitsL (r :: rs.drop (i + 1)):=by
   conv => lhs; rw [e0]
   simp only [exitsL,List.flatMap_append]
  rw [e2,show exitsL (r :: rs.drop (i + 1)) = [r.l,r.r] ++ exitsL (rs.drop (i + 1)) from rfl]
  conv => lhs; rw [<- List.take_append_drop j [r.l,r.r]]
  simp only [List.append_assoc]
 rw [e] at h
 obtain ⟨d,hd,_⟩:=turnL_take _ _ h
 exact ⟨d,hd⟩
theorem ok_in_turn (F : Fun K "_law_in_turn" "_law_in_turn" (top 36) f fd) (T : Blt mg) : FnOk P w K mg base CX0 1 f fd ["_law_found"] spInTurn:=by
 refine F.ok sc_in_turn (fun vs H Q E h => ?_) (fun cdv A outer s H vs Q E hr h => ?_)
 ·obtain ⟨a,ps,rs,rfl,_⟩:=h
  rfl
 ·obtain ⟨a,ps,rs,rfl,hh,ht,k⟩:=h
  refine ⟨_,(pss_cons (ps_set (i:=1) sc_in_turn.nd rfl (Or.inl rfl) pe_int)
   (pss_cons (ps_for PassesOwn.never rfl (pi_list (pv 0)) (pg_name (i:=2) sc_in_turn.nd rfl (Or.inl rfl))
    (pss_one (ps_for PassesOwn.never rfl (pi_tup (pe_slice sl_tup (pv 2) po_none (po_some pe_int))) (pg_name (i:=3) sc_in_turn.nd rfl (Or.inl rfl))
     (pss_cons (ps_if (pt_cmpR op_gt (pv 3) (pv 1) (nomark _))
      (pss_one (ps_ret pe_bl))
      pss_nil)
     (pss_one (ps_if (pt_cmpR op_eq (pv 3) (pv 1) (nomark _))
      (pss_one (ps_set (i:=1) sc_in_turn.nd rfl (Or.inl rfl) (pe_op op_add (pv 1) pe_int)))
      pss_nil))))))
   (pss_one (ps_ret (pe_cmpR op_eq (pv 1) (pe_callB call_len_seq (by rfl) T.len PySem.boot_len (pa_cons (pv 0) pa_nil)) (nomark _)))))),?_⟩
  refine ⟨_,rfl,a,rfl,⟨_,SqL.of hh.ob⟩,for_list (K:=K) (a:=a) (xs:=ps.map V.ref) (fun i σ H2 => Ex3 fun (c : Nat) (v2 v3 : Option V) => An3 (σ = [some (.ref a),some (.int (c : Int)),v2,v3]) (Same H H2) (turnL (exitsL (rs.take i)) = some c)) ⟨1,none,none,rfl,Same.refl _,rfl⟩ (by rintro i σ H2 _ ⟨_,_,_,_,s2,_⟩; exact SqL.of (s2 _ _ hh.ob)) ?_ ?_⟩
  ·intro i y σ H2 hy hP0
   refine kqX fun K0 eK0 => ?_
   obtain ⟨c,v2,v3,rfl,s2,hc⟩:=hP0
   have hi : i < rs.length:=by
    have:=(List.getElem?_eq_some_iff.mp hy).1
    rw [List.length_map,hh.rm.1] at this
    exact this
   have hr0 : rs[i]? = some rs[i]:=by simp [hi]
   obtain ⟨q,hq,hqt,_⟩:=hh.get hr0
   obtain rfl : y = V.ref q:=by
    rw [List.getElem?_map,hq] at hy
    exact (Option.some.inj hy).symm
   have hpre:=fun j hj => turn_pre ht hr0 (j:=j) hj
   have htk : exitsL (rs.take (i + 1)) = exitsL (rs.take i) ++ [rs[i].l,rs[i].r]:=by
    rw [List.take_add_one,hr0]
    exact exitsL_snoc _ _
   generalize rs[i] = r at hqt hpre htk
   have hq2:=s2 _ _ hqt
   subst eK0
   refine ⟨_,rfl,_,rfl,q,_,rfl,SqT.of hq2,fun z => absurd (show (2 : Nat) = 3 from z.2) (by decide),fun t ht' => ?_⟩
   have s3 : Same H (upd H2 t (.tup (cutV (rmV r) none (some 2)))):=s2.upd ht'
   refine ⟨t,rfl,⟨_,SqT.of upd_same⟩,for_tup (K:=K) (a:=t) (xs:=cutV (rmV r) none (some 2)) (fun j σ H3 => Ex2 fun (c : Nat) (v3 : Option V) => An4 (σ = [some (.ref a),some (.int (c : Int)),some (.ref q),v3]) (Same H H3) (H3 t = some (.tup (cutV (rmV r) none (some 2)))) (turnL (exitsL (rs.take i) ++ [r.l,r.r].take j) = some c)) ⟨c,v3,rfl,s3,upd_same,by rw [List.take_zero,List.append_nil]; exact hc⟩ (by rintro j σ H3 _ ⟨_,_,_,_,h3,_⟩; exact SqT.of h3) ?_ ?_⟩
   ·intro j z σ H3 hz hP0
    refine kqX fun K0 eK0 => ?_
    obtain ⟨c,v3,rfl,s4,h4,hc⟩:=hP0
    obtain ⟨n,hj,hn,rfl⟩ : ∃ n : Nat,j < 2 /\ [r.l,r.r].take (j + 1) = [r.l,r.r].take j ++ [n] /\ z = V.int (n : Int):=by
     have e : cutV (rmV r) none (some 2) = [V.int r.l,V.int r.r]:=rfl
     rw [e] at hz
     match j,hz with
     | 0,hz => exact ⟨r.l,by omega,rfl,(Option.some.inj hz).symm⟩
     | 1,hz => exact ⟨r.r,by omega,rfl,(Option.some.inj hz).symm⟩
     | j + 2,hz => simp at hz
    obtain ⟨d,hd⟩:=hpre (j + 1) (by omega)
    rw [hn,<- List.append_assoc] at hd
    have hd':=hd
    rw [turnL_snoc,hc] at hd'
    have hd' : (if n > c then none else if n = c then some (c + 1) else some c) = some d:=hd'
    have hgt : ¬ n > c:=fun z => by rw [if_pos z] at hd'; cases hd'
    rw [if_neg hgt] at hd'
    subst eK0
    refine ⟨_,rfl,_,rfl,_,_,rfl,rfl,_,rfl,?_⟩
    refine ifF (decide_eq_false (by omega)) ?_
    refine ⟨_,rfl,_,rfl,rfl,_,rfl,?_⟩
    by_cases he : n = c
    ·refine ifT (by rw [he]; simp) ?_
     rw [if_pos he] at hd'
     cases hd'
     refine ⟨_,rfl,_,_,rfl,rfl,?_⟩
     exact ⟨c + 1,_,rfl,s4,h4,by rw [hn,<- List.append_assoc]; exact hd⟩
    ·refine ifF (by simp; omega) ?_
     rw [if_neg he] at hd'
     cases hd'
     exact ⟨c,_,rfl,s4,h4,by rw [hn,<- List.append_assoc]; exact hd⟩
   ·rintro σ H3 ⟨c,v3,rfl,s4,_,hc⟩
    exact ⟨c,_,_,rfl,s4,by rw [htk]; exact hc⟩
  ·rintro σ H2 ⟨c,v2,v3,rfl,s2,hc⟩
   rw [List.length_map,hh.rm.1,List.take_length,ht] at hc
   cases hc
   refine ⟨_,rfl,_,rfl,a,_,rfl,.inl (SqL.of (s2 _ _ hh.ob)),rfl,?_⟩
   rw [List.length_map,hh.rm.1]
   have:=k H2 s2
   simpa using this
end
end Law
set_option maxHeartbeats 8000000
namespace Law
open PySem L2 Hs PyProof.Rows
section
variable {P : Program} {w : World} {K : PySem.W.Frag} {mg : Str -> Option Value} {base : Heap} {f : Addr} {fd : FuncData}
theorem sIx_le3 (n : Nat) (lo hi : Nat) : HT.sIx n n (some (hi : Int)) - HT.sIx n 0 (some (lo : Int)) <= hi - lo:=by
 rw [HT.sIx_nat,HT.sIx_nat]
 omega +splitDisjunctions
theorem cutV_len (ns : List Int) (lo : Nat) (ms : List Int) (hi : Option Int) (h : ms.length <= HT.sIx ns.length ns.length hi - HT.sIx ns.length 0 (some (lo : Int))) (h2 : HT.sIx ns.length ns.length hi <= ns.length) (hn : ns.length <= 63) (hl : 3 <= lo) : ms.length <= 60:=by
 rw [HT.sIx_nat] at h
 omega
theorem cutV_sub {xs : List V} {lo hi : Option Int} {v : V} (h : v ∈ cutV xs lo hi) : v ∈ xs:=List.mem_of_mem_drop (List.mem_of_mem_take h)
theorem sam_seq {K : PySem.W.Frag} {H H' : Hp} {a : Addr} {xs : List V} (e : SamT H H') (h : SqL K H a xs) : SqL K H' a xs:=by
 obtain h | h:=h
 ·refine .inl ?_
  rcases h with h | ⟨o,h⟩
  ·exact .inl (e _ _ h fun _ z => by cases z)
  ·exact .inr ⟨o,e _ _ h fun _ z => by cases z⟩
 ·exact .inr h
noncomputable def othr (n k : Nat) : List V:=(List.range n).filterMap fun i => if i = k then none else some (V.int (i : Int))
theorem othr_mem {n k : Nat} {v : V} (h : v ∈ othr n k) : ∃ i,i < n /\ i ≠ k /\ v = .int (i : Int):=by
 obtain ⟨i,hi,e⟩:=List.mem_filterMap.mp h
 by_cases hk : i = k
 ·rw [if_pos hk] at e; cases e
 ·rw [if_neg hk] at e
  exact ⟨i,List.mem_range.mp hi,hk,(Option.some.inj e).symm⟩
theorem othr_len (n k : Nat) : (othr n k).length <= n:=by
 have:=List.length_filterMap_le (fun i => if i = k then none else some (V.int (i : Int))) (List.range n)
 rw [List.length_range] at this
 exact this
noncomputable def J1 (a : Addr) (way : Int) (H : Hp) : L2.St -> Hp -> Prop:=fun σ H2 => Ex4 fun (l : Addr) (ps : List Addr) (hs : List Rm) (v3 : Option V) => An5 (σ = [some (.ref a),some (.int way),some (.ref l),v3,none,none,none,none,none,none,none,none,none,none,none]) (Same H H2) (HouseAt H2 l ps hs) (Wf hs) (hs.length <= 60)
noncomputable def spLaw (K : PySem.W.Frag) (tabs : Tbs) : Sp:=fun vs H Q _ => Ex2 fun (a : Addr) (ns : List Int) => An5 (vs = [.ref a]) (SqL K H a (ns.map V.int)) (ns.length <= 63) (TB tabs H) (∀ H',Q (.bl true) H')
theorem sc_law : FnScope ["_law_script","_law_way","_law_house","_law_base","_law_handed","_law_found","_law_ways","_law_room","_law_one","_law_rooms","_law_start","_law_other","_law_walk","_law_first","_law_second"] ["_law_script"] (defScope (top 37)):=⟨rfl,rfl,rfl,by decide +kernel,rfl,by decide +kernel,by decide +kernel⟩
theorem nd_c1 : (["_law_room","_law_one"] : List Str).Nodup:=by decide +kernel
theorem ok_law {C fI fW fH fP fA fg fe fl fR fS fy fL fx ft ff fwi fxi fc fep fei faf fta fa fd' fih fw fu fld fiw fbl fma fin c1 P1 c2 P2 c3 P3 c4 P4 c5 P5 : Addr} {dI dW dH dP dA dg de dl dR dS dy dL dx dt df dwi dxi dc dep dei daf dta da dd dih dw du dld diw dbl dma din : FuncData} {tabs : Tbs} (F : Fun K "law" "law" (top 37) f fd) (T : Blt mg) (TS : mg "sorted" = none) (TD : mg "dict" = none) (TM : mg "min" = none) (TR : mg "reversed" = none) (hB : BMain mg base) (nd : (tabs.map (·.1)).Nodup)
  (Zc : GrC K mg C fI fW fH fP fA dI dW dH dP dA) (Zd : GrD K C fR fS dR dS) (M : Mkr base dL tabs c1 P1 qsLe) (Mi : Mkr base dxi tabs c2 P2 (lamQs "exits_in")) (Mw : Mkr base dwi tabs c3 P3 (lamQs "ways_in")) (Mp : Mkr base dei tabs c4 P4 (lamQs "exits_in_pairs")) (Ma' : Mkr base daf tabs c5 P5 (lamQs "apart_from"))
  (Ga : Df K mg "gathered" 13 ["marked"] fg dg) (Ex : Df K mg "exits_of" 9 ["house","room"] fe de) (Li : Df K mg "is_lit" 10 ["house","room"] fl dl) (Lo : Df K mg "lay_out" 4 ["start","exits","lit"] fy dy) (Lt : Df K mg "least" 16 ["house"] fL dL)
  (Xp : Df K mg "explore" 1 ["start","exits","wanted"] fx dx) (Wt : Df K mg "walk_to" 2 ["steps","place"] ft dt) (Fw : Df K mg "first_walk" 3 ["start","exits","wanted"] ff df) (Xi : Df K mg "exits_in" 18 ["house"] fxi dxi) (Wi : Df K mg "ways_in" 19 ["house"] fwi dwi)
  (Ck : Df K mg "check_room" 11 ["house","room"] fc dc) (Ep : Df K mg "exits_of_pair" 21 ["one","other","pair"] fep dep) (Ei : Df K mg "exits_in_pairs" 22 ["one","other"] fei dei) (Af : Df K mg "apart_from" 24 ["one","other","start"] faf daf) (Ta : Df K mg "told_apart" 25 ["house","one","other"] fta dta)
  (At : Df K mg "_law_at" 28 ["_law_script","_law_k"] fa da) (Dr : Df K mg "_law_drawn" 29 ["_law_cells"] fd' dd) (IH : Df K mg "_law_is_house" 30 ["_law_found"] fih dih) (W : Df K mg "_law_whole" 27 ["_law_found"] fw dw) (Un : Df K mg "_law_unhurt" 34 ["_law_handed","_law_house"] fu du)
  (Ld : Df K mg "_law_led" 31 ["_law_house","_law_room","_law_walk"] fld dld) (Iw : Df K mg "_law_is_walk" 32 ["_law_found"] fiw diw) (Bl : Df K mg "_law_blown" 33 ["_law_base","_law_copies","_law_cells"] fbl dbl) (Ma : Df K mg "_law_mapped" 35 ["_law_house","_law_found"] fma dma) (It : Df K mg "_law_in_turn" 36 ["_law_found"] fin din) :
  FnOk P w K mg base CX0 8 f fd ["_law_script"] (spLaw K tabs):=by
 have G_at : FnOk P w K mg base CX0 7 fa da ["_law_script","_law_k"] (spAt K):=(ok_at At.fn T).mono (by decide)
 have G_drawn : FnOk P w K mg base CX0 7 fd' dd ["_law_cells"] (spDrawn K):=(ok_drawn Dr.fn T).mono (by decide)
 have G_ish : FnOk P w K mg base CX0 7 fih dih ["_law_found"] spIsHouse:=(ok_ish IH.fn T W).mono (by decide)
 have G_unhurt : FnOk P w K mg base CX0 7 fu du ["_law_handed","_law_house"] spUnhurt:=(ok_unhurt Un.fn T W IH).mono (by decide)
 have G_led : FnOk P w K mg base CX0 7 fld dld ["_law_house","_law_room","_law_walk"] spLed:=(ok_led Ld.fn).mono (by decide)
 have G_isw : FnOk P w K mg base CX0 7 fiw diw ["_law_found"] spIsWalk:=(ok_isw Iw.fn T).mono (by decide)
 have G_blown : FnOk P w K mg base CX0 7 fbl dbl ["_law_base","_law_copies","_law_cells"] (spBlown K):=(ok_blown Bl.fn T).mono (by decide)
 have G_mapped : FnOk P w K mg base CX0 7 fma dma ["_law_house","_law_found"] spMapped:=(ok_mapped Ma.fn T).mono (by decide)
 have G_turn : FnOk P w K mg base CX0 7 fin din ["_law_found"] spInTurn:=(ok_in_turn It.fn T).mono (by decide)
 have G_least : FnOk P w K mg base CX0 7 fL dL ["house"] (spLeast tabs):=(ok_least Lt.fn T TS TD TM hB nd M Zc Zd Ga Ex Li Lo).mono (by decide)
 have G_ways : FnOk P w K mg base CX0 7 fwi dwi ["house"] (spWaysIn tabs):=(ok_waysin Wi.fn T TR hB nd Mw Ex Xp Xi Mi Wt).mono (by decide)
 have G_told : FnOk P w K mg base CX0 7 fta dta ["house","one","other"] (spTold tabs):=ok_told Ta.fn T TR hB nd Ck Af Ma' Ex Li Xp Fw Ep Ei Mp Wt
 refine F.ok sc_law (fun vs H Q E h => ?_) (fun cdv A outer s H vs Q E hr h => ?_)
 ·obtain ⟨a,ns,rfl,_⟩:=h
  rfl
 ·obtain ⟨a,ns,rfl,hS,hn,hT,k⟩:=h
  have hu:=hu_of hr
  refine ⟨_,(pss_cons (ps_set (i:=1) sc_law.nd rfl (Or.inl rfl) (pe_op op_mod (pe_call G_at hr rfl At.m At.fn.kp At.b .nil pass0 (pa_cons (pv 0) (pa_cons pe_int pa_nil))) pe_int))
   (pss_cons (ps_set (i:=2) sc_law.nd rfl (Or.inl rfl) (pe_call G_drawn hr rfl Dr.m Dr.fn.kp Dr.b .nil pass0 (pa_cons (pe_slice sl_list (pv 0) (po_some pe_int) (po_some pe_int)) pa_nil)))
   (pss_cons (ps_cut (J1 a (ns.getD 0 0 % 4) H) (ps_if (pt_cmpR op_gt (pv 1) pe_int (nomark _))
    (pss_cons (ps_set (i:=3) sc_law.nd rfl (Or.inl rfl) (pe_call G_drawn hr rfl Dr.m Dr.fn.kp Dr.b .nil pass0 (pa_cons (pe_slice sl_list (pv 0) (po_some pe_int) (po_some (pe_op op_add pe_int (pe_op op_mod (pe_op op_fdiv (pe_call G_at hr rfl At.m At.fn.kp At.b .nil pass0 (pa_cons (pv 0) (pa_cons pe_int pa_nil))) pe_int) pe_int)))) pa_nil)))
    (pss_one (ps_set (i:=2) sc_law.nd rfl (Or.inl rfl) (pe_call G_blown hr rfl Bl.m Bl.fn.kp Bl.b .nil pass0 (pa_cons (pv 3) (pa_cons (pv 1) (pa_cons (pe_slice sl_list (pv 0) (po_some pe_int) po_none) pa_nil)))))))
    pss_nil))
   (pss_cons (ps_set (i:=4) sc_law.nd rfl (Or.inl rfl) (pe_callTy call_list_of (by rfl) T.list boot_list (pa_cons (pv 2) pa_nil)))
   (pss_cons (ps_set (i:=5) sc_law.nd rfl (Or.inl rfl) (pe_call G_least hr rfl Lt.m Lt.fn.kp Lt.b .nil pass0 (pa_cons (pv 4) pa_nil)))
   (pss_cons (ps_if (PW.pt (pw_or (pt_not (pt_val (pe_call G_unhurt hr rfl Un.m Un.fn.kp Un.b .nil pass0 (pa_cons (pv 4) (pa_cons (pv 2) pa_nil))))) (pw_or1 (pt_not (pt_val (pe_call G_ish hr rfl IH.m IH.fn.kp IH.b .nil pass0 (pa_cons (pv 5) pa_nil)))))))
    pss_never
    pss_nil)
   (pss_cons (ps_if (PW.pt (pw_or (pt_not (pt_val (pe_call G_mapped hr rfl Ma.m Ma.fn.kp Ma.b .nil pass0 (pa_cons (pv 2) (pa_cons (pv 5) pa_nil))))) (pw_or1 (pt_not (pt_val (pe_call G_turn hr rfl It.m It.fn.kp It.b .nil pass0 (pa_cons (pv 5) pa_nil)))))))
    pss_never
    pss_nil)
   (pss_cons (ps_set (i:=6) sc_law.nd rfl (Or.inl rfl) (pe_call G_ways hr rfl Wi.m Wi.fn.kp Wi.b .nil pass0 (pa_cons (pe_callTy call_list_of (by rfl) T.list boot_list (pa_cons (pv 5) pa_nil)) pa_nil)))
   (pss_cons (ps_if (PW.pt (pw_or (pt_not (pt_val (pe_callB call_isinst (by rfl) T.isinstance boot_isinstance (pa_cons (pv 6) (pa_cons (pe_bltn (v:=.ty "list") rfl T.list boot_list rfl) pa_nil))))) (pw_or1 (pt_cmpR op_ne (pe_callB call_len_seq (by rfl) T.len PySem.boot_len (pa_cons (pv 6) pa_nil)) (pe_callB call_len_seq (by rfl) T.len PySem.boot_len (pa_cons (pv 5) pa_nil)) (nomark _)))))
    pss_never
    pss_nil)
   (pss_cons (ps_for PassesOwn.never rfl (pi_range1 rfl T.range (pa_cons (pe_callB call_len_seq (by rfl) T.len PySem.boot_len (pa_cons (pv 5) pa_nil)) pa_nil)) (pg_name (i:=7) sc_law.nd rfl (Or.inl rfl))
    (pss_one (ps_if (PW.pt (pw_or (pt_not (pt_val (pe_call G_isw hr rfl Iw.m Iw.fn.kp Iw.b .nil pass0 (pa_cons (pe_ix ix_list (pv 6) (pv 7) (fun _ _ => rfl)) pa_nil)))) (pw_or1 (pt_cmpR op_ne (pe_call G_led hr rfl Ld.m Ld.fn.kp Ld.b .nil pass0 (pa_cons (pv 5) (pa_cons pe_int (pa_cons (pe_ix ix_list (pv 6) (pv 7) (fun _ _ => rfl)) pa_nil)))) (pv 7) (nomark _)))))
     pss_never
     pss_nil)))
   (pss_cons (ps_set (i:=8) sc_law.nd rfl (Or.inr rfl) (pe_op op_mod (pe_call G_at hr rfl At.m At.fn.kp At.b .nil pass0 (pa_cons (pv 0) (pa_cons pe_int pa_nil))) (pe_callB call_len_seq (by rfl) T.len PySem.boot_len (pa_cons (pv 5) pa_nil))))
   (pss_cons (ps_setComp (i:=9) (N':=["_law_room","_law_one"]) (cap:=[none,some 8]) (cl:=[("_law_one",s.heap.objs.size + 1)]) (g:=gName 0) (ti:=tTest (tOp rNe (tVar 0) (tVar 1))) sc_law.nd rfl (Or.inl rfl) rfl ?cs1 (pi_range1 rfl T.range (pa_cons (pe_callB call_len_seq (by rfl) T.len PySem.boot_len (pa_cons (pv 5) pa_nil)) pa_nil)) (by exact fun _ _ _ _ => (pg_name (i:=0) nd_c1 rfl (Or.inl rfl))) (by exact fun _ _ _ _ => pf_one (pt_cmpR op_ne (pv 0) (pv 1) (by rfl))) (by exact fun _ _ _ _ => pv 0))
   (pss_cons (ps_set (i:=10) sc_law.nd rfl (Or.inl rfl) (pe_op op_mod (pe_call G_at hr rfl At.m At.fn.kp At.b .nil pass0 (pa_cons (pv 0) (pa_cons pe_int pa_nil))) (pe_op op_add (pe_callB call_len_seq (by rfl) T.len PySem.boot_len (pa_cons (pv 9) pa_nil)) pe_int)))
   (pss_cons (ps_for PassesOwn.never rfl (pi_list (pe_slice sl_list (pe_op op_cat (pe_slice sl_list (pv 9) (po_some (pv 10)) po_none) (pe_slice sl_list (pv 9) po_none (po_some (pv 10)))) po_none (po_some pe_int))) (pg_name (i:=11) sc_law.nd rfl (Or.inl rfl))
    (pss_cons (ps_set (i:=12) sc_law.nd rfl (Or.inl rfl) (pe_call G_told hr rfl Ta.m Ta.fn.kp Ta.b .nil pass0 (pa_cons (pe_callTy call_list_of (by rfl) T.list boot_list (pa_cons (pv 5) pa_nil)) (pa_cons (pv 8) (pa_cons (pv 11) pa_nil)))))
    (pss_cons (ps_if (pt_not (pt_val (pe_call G_isw hr rfl Iw.m Iw.fn.kp Iw.b .nil pass0 (pa_cons (pv 12) pa_nil))))
     pss_never
     pss_nil)
    (pss_cons (ps_set (i:=13) sc_law.nd rfl (Or.inl rfl) (pe_call G_led hr rfl Ld.m Ld.fn.kp Ld.b .nil pass0 (pa_cons (pv 5) (pa_cons (pv 8) (pa_cons (pv 12) pa_nil)))))
    (pss_cons (ps_set (i:=14) sc_law.nd rfl (Or.inl rfl) (pe_call G_led hr rfl Ld.m Ld.fn.kp Ld.b .nil pass0 (pa_cons (pv 5) (pa_cons (pv 11) (pa_cons (pv 12) pa_nil)))))
    (pss_one (ps_if (pt_cmpR op_eq (pe_ix ix_tup (pe_ix ix_list (pv 5) (pv 13) (fun _ _ => rfl)) pe_int (fun _ _ => rfl)) (pe_ix ix_tup (pe_ix ix_list (pv 5) (pv 14) (fun _ _ => rfl)) pe_int (fun _ _ => rfl)) (nomark _))
     pss_never
     pss_nil)))))))
   (pss_one (ps_ret pe_bl)))))))))))))))),?_⟩
  case cs1 =>
   refine ⟨rfl,by decide +kernel,by decide +kernel,by kernel_rfl,rfl,nd_c1,sub_of (fun p hp => ?_),fun p hp hf => ?_,fun i x j h1 h2 => ?_⟩
   ·rw [List.mem_singleton.mp hp]; rfl
   ·exact has_of (l:=[("_law_one",s.heap.objs.size + 1)]) (ns:=["_law_one"]) (by decide +kernel) (by intro y hy; rw [List.mem_singleton.mp hy]; exact ⟨_,rfl⟩) p hp hf
   ·match i,h1,h2 with
    | 0,_,h2 => cases h2
    | 1,h1,h2 => cases h1; cases h2; exact ⟨rfl,Or.inl rfl,rfl⟩
    | i + 2,h1,_ => cases h1
  obtain ⟨way,eway,hway⟩:=mod_nat (ns.getD 0 0) (show 0 < 4 by decide)
  rw [show ns.getD 0 0 % 4 = (way : Int) from eway]
  refine seq_ fun R1 e1 => ?_
  refine ⟨_,rfl,a,ns,0,rfl,hS,_,_,rfl,rfl,(by show (0 : Int) < 4; decide),?_⟩
  dsimp only
  rw [show ns.getD 0 0 % 4 = (way : Int) from eway]
  refine seq_n (R:=R1) e1 fun R2 e2 => ?_
  clear e1 R1
  refine ⟨_,rfl,_,rfl,_,rfl,a,_,rfl,hS,fun c0 hc0 => ?_⟩
  obtain ⟨ms,hms,hml,hml2⟩:=cutV_ints ns (some 3) (some 250)
  rw [hms]
  have hml3 : ms.length <= 60:=cutV_len ns 3 ms (some 250) hml2 (by rw [show (250 : Int) = ((250 : Nat) : Int) from rfl,HT.sIx_nat]; omega) hn (by decide)
  have s1 : Same H (upd H c0 (.lst (ms.map V.int))):=same_upd hc0
  refine ⟨c0,ms,rfl,SqL.of upd_same,by omega,fun l0 ps0 H1 hl0 s2 ha1 => ?_⟩
  have sA:=s1.trans s2
  have hd0 : (drawn ms).length <= 60:=by rw [drawn_length]; omega
  refine seq_n (R:=R2) e2 fun R3 e3 => ?_
  clear e2 R2
  refine ⟨?_,?_⟩
  ·refine ⟨_,rfl,_,_,rfl,rfl,_,rfl,?_⟩
   by_cases hw : 1 < way
   ·refine ifT (decide_eq_true (by omega)) ?_
    refine seq_ fun R4 e4 => ?_
    obtain ⟨k0,ek0,hk0⟩:=mod_nat (ns.getD 0 0 / 4) (show 0 < 12 by decide)
    refine ⟨_,rfl,_,rfl,_,rfl,a,ns,0,rfl,sA.seq hS,_,_,rfl,rfl,⟨by decide,by decide⟩,_,_,rfl,rfl,(by show (0 : Int) < 12; decide),_,_,rfl,rfl,_,rfl,a,_,rfl,sA.seq hS,fun c1 hc1 => ?_⟩
    obtain ⟨ms2,hms2,hmk,hmk2⟩:=cutV_ints ns (some 3) (some (4 + ns.getD 0 0 / 4 % 12))
    rw [hms2]
    have hmk3 : ms2.length <= 12:=by
     rw [show (4 : Int) + ns.getD 0 0 / 4 % 12 = ((4 + k0 : Nat) : Int) by rw [show ns.getD 0 0 / 4 % 12 = (k0 : Int) from ek0]; omega] at hmk2
     have:=sIx_le3 ns.length 3 (4 + k0)
     have e2 : HT.sIx ns.length 0 (some ((3 : Nat) : Int)) = HT.sIx ns.length 0 (some 3):=rfl
     rw [e2] at this
     omega
    have s3 : Same H1 (upd H1 c1 (.lst (ms2.map V.int))):=same_upd hc1
    refine ⟨c1,ms2,rfl,SqL.of upd_same,by omega,fun b pb H2 hb s4 hb2 => ?_⟩
    have sB:=sA.trans (s3.trans s4)
    have hd2 : (drawn ms2).length <= 12:=by rw [drawn_length]; omega
    have wb:=drawn_wf ms2
    generalize drawn ms2 = bs at hb2 hd2 wb
    refine seq_e (R:=R4) e4 ?_
    refine ⟨_,rfl,_,rfl,_,rfl,_,rfl,a,_,rfl,sB.seq hS,fun c2 hc2 => ?_⟩
    obtain ⟨ms3,hms3,hmj,_⟩:=cutV_ints ns (some 3) none
    rw [hms3]
    have s5 : Same H2 (upd H2 c2 (.lst (ms3.map V.int))):=same_upd hc2
    have hbm : bs.length * way <= 36:=Nat.le_trans (Nat.mul_le_mul hd2 (show way <= 3 by omega)) (by decide)
    refine ⟨b,c2,pb,bs,way,ms3,rfl,hb2.same s5,wb,by omega,by omega,by omega,SqL.of upd_same,by omega,fun l pl H3 hl s6 hh3 => ?_⟩
    exact ⟨l,pl,_,some (.ref b),rfl,sB.trans (s5.trans s6),hh3,blown_wf wb (by omega) ms3,by rw [blown_length]; omega⟩
   ·refine ifF (decide_eq_false (by omega)) ?_
    exact ⟨l0,ps0,_,none,rfl,sA,ha1,drawn_wf ms,hd0⟩
  ·rintro σ H2 ⟨l,ps,hs,v3,rfl,s3,hh,wf,hlen⟩
   have hT2:=hT.same s3
   have hS2:=s3.seq hS
   clear hT s1 s2 sA ha1 hS
   refine seq_n (R:=R3) e3 fun R5 e5 => ?_
   clear e3 R3
   refine ⟨_,rfl,l,_,rfl,.inl (SqL.of hh.ob),fun h1 hh1 => ?_⟩
   have s7 : Same H2 (upd H2 h1 (.lst (ps.map V.ref))):=same_upd hh1
   have hz : HouseAt (upd H2 h1 (.lst (ps.map V.ref))) h1 ps hs:=⟨upd_same,hh.rm.same s7⟩
   have hh3:=hh.same s7
   have hT3:=hT2.same s7
   have hS3:=s7.seq hS2
   generalize upd H2 h1 (.lst (ps.map V.ref)) = H3 at s7 hz hh3 hT3 hS3
   refine seq_n (R:=R5) e5 fun R6 e6 => ?_
   clear e5 R5
   refine ⟨_,rfl,h1,ps,hs,rfl,hz,wf,hlen,hT3,fun lf qf rs H4 _ s8 hT4 hR4 hL => ?_⟩
   have hz4:=hz.sam s8
   have hh4:=hh3.sam s8
   have hS4:=sam_seq s8 hS3
   refine seq_n (R:=R6) e6 fun R7 e7 => ?_
   clear e6 R6
   refine ⟨_,rfl,_,rfl,h1,l,ps,hs,rfl,hz4,hh4,wf,fun H5 s9 => ⟨_,rfl,iteF ?_⟩⟩
   refine ⟨_,rfl,lf,qf,rs,rfl,hR4.same s9,hL.wf,fun H6 s10 => ⟨_,rfl,iteF ?_⟩⟩
   refine seq_n (R:=R7) e7 fun R8 e8 => ?_
   clear e7 R7
   refine ⟨_,rfl,_,rfl,l,lf,ps,qf,hs,rs,rfl,(hh4.same s9).same s10,(hR4.same s9).same s10,wf,by omega,hL,fun H7 s11 => ⟨_,rfl,iteF ?_⟩⟩
   refine ⟨_,rfl,lf,qf,rs,rfl,((hR4.same s9).same s10).same s11,hL.turn,fun H8 s12 => ⟨_,rfl,iteF ?_⟩⟩
   have sB:=((s9.trans s10).trans s11).trans s12
   have hR8:=hR4.same sB
   have hT8:=hT4.same sB
   have hS8:=sB.seq hS4
   have hrl : rs.length <= 60:=Nat.le_trans hL.few hlen
   have hne:=hL.wf.ne
   refine seq_n (R:=R8) e8 fun R9 e9 => ?_
   clear e8 R8
   refine ⟨_,rfl,lf,_,rfl,.inl (SqL.of hR8.ob),fun h2 hh2 => ?_⟩
   have s13 : Same H8 (upd H8 h2 (.lst (qf.map V.ref))):=same_upd hh2
   have hz9 : HouseAt (upd H8 h2 (.lst (qf.map V.ref))) h2 qf rs:=⟨upd_same,hR8.rm.same s13⟩
   refine ⟨h2,qf,rs,rfl,hz9,hL.wf,by omega,hT8.same s13,fun lw ws H10 s14 hT10 hlw hwl hws => ?_⟩
   have hR10:=(hR8.same s13).sam s14
   have hS10:=sam_seq s14 (s13.seq hS8)
   have hln : (((qf.map V.ref).length : Nat) : Int) = (rs.length : Int):=by rw [List.length_map,hR10.rm.1]
   refine seq_n (R:=R9) e9 fun R10 e10 => ?_
   clear e9 R9
   refine ⟨_,rfl,_,_,_,_,rfl,.lst hlw,kit_list_list,_,rfl,iteF ?_⟩
   refine ⟨_,rfl,lw,_,rfl,.inl (SqL.of hlw),_,rfl,lf,_,rfl,.inl (SqL.of hR10.ob),rfl,_,rfl,ifF (by rw [hln,hwl]; simp) ?_⟩
   refine seq_n (R:=R10) e10 fun R11 e11 => ?_
   clear e10 R10
   refine ⟨_,rfl,lf,_,rfl,.inl (SqL.of hR10.ob),_,rfl,by rw [hln]; omega,by rw [hln]; omega,?_⟩
   rw [hln,Int.toNat_natCast]
   refine for_range (lo:=0) (n:=rs.length) (fun j σ Hx => ∃ v7 : Option V,σ = [some (.ref a),some (.int (way : Int)),some (.ref l),v3,some (.ref h1),some (.ref lf),some (.ref lw),v7,none,none,none,none,none,none,none] /\ Hx = H10) ⟨none,rfl,rfl⟩ ?_ ?_
   ·intro j σ Hx hj hP0
    refine kqX fun K0 eK0 => ?_
    obtain ⟨v7,rfl,rfl⟩:=hP0
    subst eK0
    rw [Int.zero_add]
    have hwj : ws[j]? = some ws[j]!:=by simp [show j < ws.length by omega]
    obtain ⟨wk,hv,hld⟩ : ∃ wk,ws[j]! = .str (txt wk) /\ led rs 0 wk = j:=by
     rcases hws j _ hwj with ⟨h,_⟩ | ⟨_,wk,h1,h2⟩
     ·exact absurd (hL.rch j hj) h
     ·exact ⟨wk,h1,h2⟩
    rw [hv] at hwj
    refine ⟨_,rfl,_,rfl,lw,_,_,_,rfl,rfl,SqL.of hlw,atI_nat hwj,wk,rfl,_,rfl,iteF ?_⟩
    refine ⟨_,rfl,_,rfl,_,rfl,lw,_,_,_,rfl,rfl,SqL.of hlw,atI_nat hwj,lf,qf,rs,0,wk,rfl,hR10,hL.wf,hne,_,rfl,rfl,_,rfl,ifF (by rw [hld]; simp) ?_⟩
    exact ⟨_,rfl,rfl⟩
   ·rintro σ Hx ⟨v7,rfl,rfl⟩
    refine seq_n (R:=R11) e11 fun R12 e12 => ?_
    clear e11 R11
    obtain ⟨k1,ek1,hk1⟩:=mod_nat (ns.getD 1 0) hne
    refine ⟨_,rfl,a,ns,1,rfl,hS10,_,rfl,lf,_,rfl,.inl (SqL.of hR10.ob),_,_,rfl,rfl,by rw [hln]; omega,?_⟩
    dsimp only
    rw [hln,ek1]
    refine seq_n (R:=R12) e12 fun R13 e13 => ?_
    clear e12 R12
    refine ⟨_,rfl,lf,_,rfl,.inl (SqL.of hR10.ob),_,rfl,by rw [hln]; omega,by rw [hln]; omega,fun D hD => ?_⟩
    rw [hln,Int.toNat_natCast]
    refine comp_gen (os:=(List.range rs.length).map fun i => if i = k1 then none else some (V.int (i : Int))) (fun σ => ∃ v0,σ = [v0,some (.int (k1 : Int))]) it_range (by simp) (by simp; omega) hD ⟨none,rfl⟩ ?_ ?_
    ·rintro i x o σ H5 Qk hx ho ⟨v0,rfl⟩ s5 k5
     have hi : i < rs.length:=by
      have:=(List.getElem?_eq_some_iff.mp hx).1
      simpa using this
     obtain rfl : x = .int (i : Int):=by simpa [hi] using hx.symm
     obtain rfl : o = if i = k1 then none else some (V.int (i : Int)):=by
      rw [List.getElem?_map,List.getElem?_range hi] at ho
      exact (Option.some.inj ho).symm
     have k6:=k5 [some (.int (i : Int)),some (.int (k1 : Int))] H5 ⟨_,rfl⟩ (Same.refl _)
     refine ⟨_,rfl,_,rfl,rfl,_,rfl,?_⟩
     by_cases hk : i = k1
     ·rw [if_pos hk] at k6
      exact ifF (by rw [hk]; simp) k6
     ·rw [if_neg hk] at k6
      exact ifT (by simp; omega) ⟨_,rfl,k6⟩
    intro H11 s15 hD11
    have hD11 : H11 D = some (.lst (othr rs.length k1)):=by
     rw [hD11,List.filterMap_map]
     rfl
    have hol:=othr_len rs.length k1
    have hR11:=hR10.same s15
    have hT11:=hT10.same s15
    have hS11:=s15.seq hS10
    refine seq_n (R:=R13) e13 fun R14 e14 => ?_
    clear e13 R13
    refine ⟨_,rfl,a,ns,2,rfl,hS11,_,rfl,D,_,rfl,.inl (SqL.of hD11),_,_,rfl,rfl,_,_,rfl,rfl,by omega,?_⟩
    dsimp only
    generalize ns.getD 2 0 % (((othr rs.length k1).length : Int) + 1) = st
    have hmem : ∀ v ∈ othr rs.length k1,∃ i,i < rs.length /\ i ≠ k1 /\ v = V.int (i : Int):=fun v hv => othr_mem hv
    generalize othr rs.length k1 = os at hD11 hol hmem
    refine seq_n (R:=R14) e14 fun R15 e15 => ?_
    clear e14 R14
    refine ⟨_,rfl,_,rfl,_,rfl,D,_,rfl,SqL.of hD11,fun p1 hp1 => ?_⟩
    have s16 : Same H11 (upd H11 p1 (.lst (cutV os (some st) none))):=same_upd hp1
    have hp1' : upd H11 p1 (.lst (cutV os (some st) none)) p1 = some (.lst (cutV os (some st) none)):=upd_same
    generalize upd H11 p1 (.lst (cutV os (some st) none)) = H12 at s16 hp1'
    refine ⟨_,rfl,_,rfl,_,rfl,D,_,rfl,SqL.of (s16 _ _ hD11),fun p2 hp2 => ?_⟩
    have s17 : Same H12 (upd H12 p2 (.lst (cutV os none (some st)))):=same_upd hp2
    have hp2' : upd H12 p2 (.lst (cutV os none (some st))) p2 = some (.lst (cutV os none (some st))):=upd_same
    generalize upd H12 p2 (.lst (cutV os none (some st))) = H13 at s17 hp2'
    have l1:=cutV_length os (some st) none
    have l2:=cutV_length os none (some st)
    refine ⟨p1,p2,_,_,rfl,rfl,s17 _ _ hp1',hp2',Nat.le_of_lt (small1000 (by omega)),fun p3 hp3 => ?_⟩
    have s18 : Same H13 (upd H13 p3 (.lst (cutV os (some st) none ++ cutV os none (some st)))):=same_upd hp3
    have hp3' : upd H13 p3 (.lst (cutV os (some st) none ++ cutV os none (some st))) p3 = some (.lst (cutV os (some st) none ++ cutV os none (some st))):=upd_same
    generalize upd H13 p3 (.lst (cutV os (some st) none ++ cutV os none (some st))) = H14 at s18 hp3'
    have hm2 : ∀ v ∈ cutV os (some st) none ++ cutV os none (some st),∃ i,i < rs.length /\ i ≠ k1 /\ v = V.int (i : Int):=fun v hv => by
     rcases List.mem_append.mp hv with hv | hv
     ·exact hmem v (cutV_sub hv)
     ·exact hmem v (cutV_sub hv)
    generalize cutV os (some st) none ++ cutV os none (some st) = xs at hp3' hm2
    refine ⟨_,rfl,p3,_,rfl,SqL.of hp3',fun p4 hp4 => ?_⟩
    have s19 : Same H14 (upd H14 p4 (.lst (cutV xs none (some 8)))):=same_upd hp4
    have hp4' : upd H14 p4 (.lst (cutV xs none (some 8))) p4 = some (.lst (cutV xs none (some 8))):=upd_same
    generalize upd H14 p4 (.lst (cutV xs none (some 8))) = H15 at s19 hp4'
    have hm3 : ∀ v ∈ cutV xs none (some 8),∃ i,i < rs.length /\ i ≠ k1 /\ v = V.int (i : Int):=fun v hv => hm2 v (cutV_sub hv)
    generalize cutV xs none (some 8) = ys at hp4' hm3
    have sC:=((s16.trans s17).trans s18).trans s19
    have hR15:=hR11.same sC
    have hT15:=hT11.same sC
    refine ⟨p4,rfl,⟨_,SqL.of hp4'⟩,for_list (K:=K) (a:=p4) (xs:=ys) (fun i σ Hx => Ex4 fun (v11 v12 v13 v14 : Option V) => An3 (σ = [some (.ref a),some (.int (way : Int)),some (.ref l),v3,some (.ref h1),some (.ref lf),some (.ref lw),v7,some (.int (k1 : Int)),some (.ref D),some (.int st),v11,v12,v13,v14]) (SamT H15 Hx) (TB tabs Hx)) ⟨none,none,none,none,rfl,SamT.refl _,hT15⟩ (by rintro i σ Hx _ ⟨_,_,_,_,_,sx,_⟩; exact SqL.of (sx _ _ hp4' fun _ z => by cases z)) ?_ ?_⟩
    ·intro i y σ Hx hy hP0
     refine kqX fun K0 eK0 => ?_
     obtain ⟨v11,v12,v13,v14,rfl,sx,hTx⟩:=hP0
     obtain ⟨j,hj,hjk,rfl⟩:=hm3 y (List.mem_of_getElem? hy)
     have hRx:=hR15.sam sx
     subst eK0
     refine seq_ fun Ra ea => ?_
     refine ⟨_,rfl,lf,_,rfl,.inl (SqL.of hRx.ob),fun h3 hh3' => ?_⟩
     have s20 : Same Hx (upd Hx h3 (.lst (qf.map V.ref))):=same_upd hh3'
     have hz16 : HouseAt (upd Hx h3 (.lst (qf.map V.ref))) h3 qf rs:=⟨upd_same,hRx.rm.same s20⟩
     refine ⟨_,rfl,_,rfl,h3,qf,rs,(k1 : Int),(j : Int),rfl,hz16,hL.wf,Nat.le_trans (Nat.mul_le_mul hrl hrl) (by decide),hTx.same s20,⟨⟨by omega,by omega⟩,⟨by omega,by omega⟩⟩,fun H17 s21 hT17 hno => ?_,fun wk H17 s21 hT17 hdf => ?_⟩
     ·exact absurd (hL.apart k1 j hk1 hj fun w => by have:=hno w; rw [Int.toNat_natCast,Int.toNat_natCast] at this; exact this) (Ne.symm hjk)
     ·rw [Int.toNat_natCast,Int.toNat_natCast] at hdf
      have s22:=sx.trans (s20.toSam.trans s21)
      have hR17:=hR15.sam s22
      refine seq_n (R:=Ra) ea fun Rb eb => ?_
      clear ea Ra
      refine ⟨_,rfl,wk,rfl,_,rfl,ifF rfl ?_⟩
      refine seq_n (R:=Rb) eb fun Rc ec => ?_
      clear eb Rb
      refine ⟨_,rfl,_,rfl,_,rfl,lf,qf,rs,k1,wk,rfl,hR17,hL.wf,hk1,?_⟩
      refine seq_n (R:=Rc) ec fun Rd ed => ?_
      clear ec Rc
      refine ⟨_,rfl,_,rfl,_,rfl,lf,qf,rs,j,wk,rfl,hR17,hL.wf,hj,?_⟩
      refine seq_e (R:=Rd) ed ?_
      clear ed Rd
      have hx1:=hL.wf.led wk hk1
      have hx2:=hL.wf.led wk hj
      have e1 : rs[led rs k1 wk]? = some (rs[led rs k1 wk]'hx1):=by simp
      have e2 : rs[led rs j wk]? = some (rs[led rs j wk]'hx2):=by simp
      have g1 : litAt rs (led rs k1 wk) = (rs[led rs k1 wk]'hx1).lit:=by rw [litAt,e1]
      have g2 : litAt rs (led rs j wk) = (rs[led rs j wk]'hx2).lit:=by rw [litAt,e2]
      obtain ⟨q1,_,hq1,hat1⟩:=hR17.get e1
      obtain ⟨q2,_,hq2,hat2⟩:=hR17.get e2
      rw [g1,g2] at hdf
      generalize rs[led rs k1 wk]'hx1 = r1 at e1 g1 hq1 hdf
      generalize rs[led rs j wk]'hx2 = r2 at e2 g2 hq2 hdf
      refine ⟨_,rfl,_,rfl,lf,_,_,_,rfl,rfl,SqL.of hR17.ob,hat1,q1,_,_,_,rfl,rfl,SqT.of hq1,rfl,_,rfl,_,rfl,lf,_,_,_,rfl,rfl,SqL.of hR17.ob,hat2,q2,_,_,_,rfl,rfl,SqT.of hq2,rfl,rfl,_,rfl,?_⟩
      refine ifF (by rw [dec_bl]; simpa using hdf) ?_
      exact ⟨_,_,_,_,rfl,s22,hT17⟩
    ·rintro σ Hx ⟨v11,v12,v13,v14,rfl,sx,hTx⟩
     refine seq_e (R:=R15) e15 ?_
     exact k _
end
end Law
set_option maxHeartbeats 8000000
namespace Law
open PySem L2 Hs PyProof.Rows
section
end
theorem all_mk {l : PySem.W.OpenLaw} {w : World} {K : PySem.W.Frag} {h : Heap} {mg : Str -> Option Value} {fa0 : Addr} (X : K.In h) (G : h.Ns mainGlobals mg) (hfa : mg "law" = some (.ref fa0))
  {f_gathered : Addr} {od_gathered an_gathered : Option Addr} {sl_gathered : Array (Option Value)} {oc_gathered kV_gathered dc_gathered pm_gathered cd_gathered ct_gathered : Value}
  (a_gathered : PySem.W.nsIn K mainGlobals "gathered" = some (some (.ref f_gathered))) (l_gathered : K.lookup f_gathered = some ⟨oc_gathered,od_gathered,.func (PySem.W.fnOf "gathered" "gathered" (defArgs (top 13)) (defBody (top 13)) (defScope (top 13)) .none kV_gathered dc_gathered pm_gathered an_gathered cd_gathered ct_gathered),sl_gathered⟩) (c_gathered : PySem.W.codeIn K cd_gathered "gathered" = true) (k_gathered : PySem.W.keepIn K (.ref f_gathered) = true)
  {f_exits_of : Addr} {od_exits_of an_exits_of : Option Addr} {sl_exits_of : Array (Option Value)} {oc_exits_of kV_exits_of dc_exits_of pm_exits_of cd_exits_of ct_exits_of : Value}
  (a_exits_of : PySem.W.nsIn K mainGlobals "exits_of" = some (some (.ref f_exits_of))) (l_exits_of : K.lookup f_exits_of = some ⟨oc_exits_of,od_exits_of,.func (PySem.W.fnOf "exits_of" "exits_of" (defArgs (top 9)) (defBody (top 9)) (defScope (top 9)) .none kV_exits_of dc_exits_of pm_exits_of an_exits_of cd_exits_of ct_exits_of),sl_exits_of⟩) (c_exits_of : PySem.W.codeIn K cd_exits_of "exits_of" = true) (k_exits_of : PySem.W.keepIn K (.ref f_exits_of) = true)
  {f_is_lit : Addr} {od_is_lit an_is_lit : Option Addr} {sl_is_lit : Array (Option Value)} {oc_is_lit kV_is_lit dc_is_lit pm_is_lit cd_is_lit ct_is_lit : Value}
  (a_is_lit : PySem.W.nsIn K mainGlobals "is_lit" = some (some (.ref f_is_lit))) (l_is_lit : K.lookup f_is_lit = some ⟨oc_is_lit,od_is_lit,.func (PySem.W.fnOf "is_lit" "is_lit" (defArgs (top 10)) (defBody (top 10)) (defScope (top 10)) .none kV_is_lit dc_is_lit pm_is_lit an_is_lit cd_is_lit ct_is_lit),sl_is_lit⟩) (c_is_lit : PySem.W.codeIn K cd_is_lit "is_lit" = true) (k_is_lit : PySem.W.keepIn K (.ref f_is_lit) = true)
  {f_lay_out : Addr} {od_lay_out an_lay_out : Option Addr} {sl_lay_out : Array (Option Value)} {oc_lay_out kV_lay_out dc_lay_out pm_lay_out cd_lay_out ct_lay_out : Value}
  (a_lay_out : PySem.W.nsIn K mainGlobals "lay_out" = some (some (.ref f_lay_out))) (l_lay_out : K.lookup f_lay_out = some ⟨oc_lay_out,od_lay_out,.func (PySem.W.fnOf "lay_out" "lay_out" (defArgs (top 4)) (defBody (top 4)) (defScope (top 4)) .none kV_lay_out dc_lay_out pm_lay_out an_lay_out cd_lay_out ct_lay_out),sl_lay_out⟩) (c_lay_out : PySem.W.codeIn K cd_lay_out "lay_out" = true) (k_lay_out : PySem.W.keepIn K (.ref f_lay_out) = true)
  {f_least : Addr} {od_least an_least : Option Addr} {sl_least : Array (Option Value)} {oc_least kV_least dc_least pm_least cd_least ct_least : Value}
  (a_least : PySem.W.nsIn K mainGlobals "least" = some (some (.ref f_least))) (l_least : K.lookup f_least = some ⟨oc_least,od_least,.func (PySem.W.fnOf "least" "least" (defArgs (top 16)) (defBody (top 16)) (defScope (top 16)) .none kV_least dc_least pm_least an_least cd_least ct_least),sl_least⟩) (c_least : PySem.W.codeIn K cd_least "least" = true) (k_least : PySem.W.keepIn K (.ref f_least) = true)
  {f_explore : Addr} {od_explore an_explore : Option Addr} {sl_explore : Array (Option Value)} {oc_explore kV_explore dc_explore pm_explore cd_explore ct_explore : Value}
  (a_explore : PySem.W.nsIn K mainGlobals "explore" = some (some (.ref f_explore))) (l_explore : K.lookup f_explore = some ⟨oc_explore,od_explore,.func (PySem.W.fnOf "explore" "explore" (defArgs (top 1)) (defBody (top 1)) (defScope (top 1)) .none kV_explore dc_explore pm_explore an_explore cd_explore ct_explore),sl_explore⟩) (c_explore : PySem.W.codeIn K cd_explore "explore" = true) (k_explore : PySem.W.keepIn K (.ref f_explore) = true)
  {f_walk_to : Addr} {od_walk_to an_walk_to : Option Addr} {sl_walk_to : Array (Option Value)} {oc_walk_to kV_walk_to dc_walk_to pm_walk_to cd_walk_to ct_walk_to : Value}
  (a_walk_to : PySem.W.nsIn K mainGlobals "walk_to" = some (some (.ref f_walk_to))) (l_walk_to : K.lookup f_walk_to = some ⟨oc_walk_to,od_walk_to,.func (PySem.W.fnOf "walk_to" "walk_to" (defArgs (top 2)) (defBody (top 2)) (defScope (top 2)) .none kV_walk_to dc_walk_to pm_walk_to an_walk_to cd_walk_to ct_walk_to),sl_walk_to⟩) (c_walk_to : PySem.W.codeIn K cd_walk_to "walk_to" = true) (k_walk_to : PySem.W.keepIn K (.ref f_walk_to) = true)
  {f_first_walk : Addr} {od_first_walk an_first_walk : Option Addr} {sl_first_walk : Array (Option Value)} {oc_first_walk kV_first_walk dc_first_walk pm_first_walk cd_first_walk ct_first_walk : Value}
  (a_first_walk : PySem.W.nsIn K mainGlobals "first_walk" = some (some (.ref f_first_walk))) (l_first_walk : K.lookup f_first_walk = some ⟨oc_first_walk,od_first_walk,.func (PySem.W.fnOf "first_walk" "first_walk" (defArgs (top 3)) (defBody (top 3)) (defScope (top 3)) .none kV_first_walk dc_first_walk pm_first_walk an_first_walk cd_first_walk ct_first_walk),sl_first_walk⟩) (c_first_walk : PySem.W.codeIn K cd_first_walk "first_walk" = true) (k_first_walk : PySem.W.keepIn K (.ref f_first_walk) = true)
  {f_exits_in : Addr} {od_exits_in an_exits_in : Option Addr} {sl_exits_in : Array (Option Value)} {oc_exits_in kV_exits_in dc_exits_in pm_exits_in cd_exits_in ct_exits_in : Value}
  (a_exits_in : PySem.W.nsIn K mainGlobals "exits_in" = some (some (.ref f_exits_in))) (l_exits_in : K.lookup f_exits_in = some ⟨oc_exits_in,od_exits_in,.func (PySem.W.fnOf "exits_in" "exits_in" (defArgs (top 18)) (defBody (top 18)) (defScope (top 18)) .none kV_exits_in dc_exits_in pm_exits_in an_exits_in cd_exits_in ct_exits_in),sl_exits_in⟩) (c_exits_in : PySem.W.codeIn K cd_exits_in "exits_in" = true) (k_exits_in : PySem.W.keepIn K (.ref f_exits_in) = true)
  {f_ways_in : Addr} {od_ways_in an_ways_in : Option Addr} {sl_ways_in : Array (Option Value)} {oc_ways_in kV_ways_in dc_ways_in pm_ways_in cd_ways_in ct_ways_in : Value}
  (a_ways_in : PySem.W.nsIn K mainGlobals "ways_in" = some (some (.ref f_ways_in))) (l_ways_in : K.lookup f_ways_in = some ⟨oc_ways_in,od_ways_in,.func (PySem.W.fnOf "ways_in" "ways_in" (defArgs (top 19)) (defBody (top 19)) (defScope (top 19)) .none kV_ways_in dc_ways_in pm_ways_in an_ways_in cd_ways_in ct_ways_in),sl_ways_in⟩) (c_ways_in : PySem.W.codeIn K cd_ways_in "ways_in" = true) (k_ways_in : PySem.W.keepIn K (.ref f_ways_in) = true)
  {f_check_room : Addr} {od_check_room an_check_room : Option Addr} {sl_check_room : Array (Option Value)} {oc_check_room kV_check_room dc_check_room pm_check_room cd_check_room ct_check_room : Value}
  (a_check_room : PySem.W.nsIn K mainGlobals "check_room" = some (some (.ref f_check_room))) (l_check_room : K.lookup f_check_room = some ⟨oc_check_room,od_check_room,.func (PySem.W.fnOf "check_room" "check_room" (defArgs (top 11)) (defBody (top 11)) (defScope (top 11)) .none kV_check_room dc_check_room pm_check_room an_check_room cd_check_room ct_check_room),sl_check_room⟩) (c_check_room : PySem.W.codeIn K cd_check_room "check_room" = true) (k_check_room : PySem.W.keepIn K (.ref f_check_room) = true)
  {f_exits_of_pair : Addr} {od_exits_of_pair an_exits_of_pair : Option Addr} {sl_exits_of_pair : Array (Option Value)} {oc_exits_of_pair kV_exits_of_pair dc_exits_of_pair pm_exits_of_pair cd_exits_of_pair ct_exits_of_pair : Value}
  (a_exits_of_pair : PySem.W.nsIn K mainGlobals "exits_of_pair" = some (some (.ref f_exits_of_pair))) (l_exits_of_pair : K.lookup f_exits_of_pair = some ⟨oc_exits_of_pair,od_exits_of_pair,.func (PySem.W.fnOf "exits_of_pair" "exits_of_pair" (defArgs (top 21)) (defBody (top 21)) (defScope (top 21)) .none kV_exits_of_pair dc_exits_of_pair pm_exits_of_pair an_exits_of_pair cd_exits_of_pair ct_exits_of_pair),sl_exits_of_pair⟩) (c_exits_of_pair : PySem.W.codeIn K cd_exits_of_pair "exits_of_pair" = true) (k_exits_of_pair : PySem.W.keepIn K (.ref f_exits_of_pair) = true)
  {f_exits_in_pairs : Addr} {od_exits_in_pairs an_exits_in_pairs : Option Addr} {sl_exits_in_pairs : Array (Option Value)} {oc_exits_in_pairs kV_exits_in_pairs dc_exits_in_pairs pm_exits_in_pairs cd_exits_in_pairs ct_exits_in_pairs : Value}
  (a_exits_in_pairs : PySem.W.nsIn K mainGlobals "exits_in_pairs" = some (some (.ref f_exits_in_pairs))) (l_exits_in_pairs : K.lookup f_exits_in_pairs = some ⟨oc_exits_in_pairs,od_exits_in_pairs,.func (PySem.W.fnOf "exits_in_pairs" "exits_in_pairs" (defArgs (top 22)) (defBody (top 22)) (defScope (top 22)) .none kV_exits_in_pairs dc_exits_in_pairs pm_exits_in_pairs an_exits_in_pairs cd_exits_in_pairs ct_exits_in_pairs),sl_exits_in_pairs⟩) (c_exits_in_pairs : PySem.W.codeIn K cd_exits_in_pairs "exits_in_pairs" = true) (k_exits_in_pairs : PySem.W.keepIn K (.ref f_exits_in_pairs) = true)
  {f_apart_from : Addr} {od_apart_from an_apart_from : Option Addr} {sl_apart_from : Array (Option Value)} {oc_apart_from kV_apart_from dc_apart_from pm_apart_from cd_apart_from ct_apart_from : Value}
  (a_apart_from : PySem.W.nsIn K mainGlobals "apart_from" = some (some (.ref f_apart_from))) (l_apart_from : K.lookup f_apart_from = some ⟨oc_apart_from,od_apart_from,.func (PySem.W.fnOf "apart_from" "apart_from" (defArgs (top 24)) (defBody (top 24)) (defScope (top 24)) .none kV_apart_from dc_apart_from pm_apart_from an_apart_from cd_apart_from ct_apart_from),sl_apart_from⟩) (c_apart_from : PySem.W.codeIn K cd_apart_from "apart_from" = true) (k_apart_from : PySem.W.keepIn K (.ref f_apart_from) = true)
  {f_told_apart : Addr} {od_told_apart an_told_apart : Option Addr} {sl_told_apart : Array (Option Value)} {oc_told_apart kV_told_apart dc_told_apart pm_told_apart cd_told_apart ct_told_apart : Value}
  (a_told_apart : PySem.W.nsIn K mainGlobals "told_apart" = some (some (.ref f_told_apart))) (l_told_apart : K.lookup f_told_apart = some ⟨oc_told_apart,od_told_apart,.func (PySem.W.fnOf "told_apart" "told_apart" (defArgs (top 25)) (defBody (top 25)) (defScope (top 25)) .none kV_told_apart dc_told_apart pm_told_apart an_told_apart cd_told_apart ct_told_apart),sl_told_apart⟩) (c_told_apart : PySem.W.codeIn K cd_told_apart "told_apart" = true) (k_told_apart : PySem.W.keepIn K (.ref f_told_apart) = true)
  {f_Lat : Addr} {od_Lat an_Lat : Option Addr} {sl_Lat : Array (Option Value)} {oc_Lat kV_Lat dc_Lat pm_Lat cd_Lat ct_Lat : Value}
  (a_Lat : PySem.W.nsIn K mainGlobals "_law_at" = some (some (.ref f_Lat))) (l_Lat : K.lookup f_Lat = some ⟨oc_Lat,od_Lat,.func (PySem.W.fnOf "_law_at" "_law_at" (defArgs (top 28)) (defBody (top 28)) (defScope (top 28)) .none kV_Lat dc_Lat pm_Lat an_Lat cd_Lat ct_Lat),sl_Lat⟩) (c_Lat : PySem.W.codeIn K cd_Lat "_law_at" = true) (k_Lat : PySem.W.keepIn K (.ref f_Lat) = true)
  {f_Ldrawn : Addr} {od_Ldrawn an_Ldrawn : Option Addr} {sl_Ldrawn : Array (Option Value)} {oc_Ldrawn kV_Ldrawn dc_Ldrawn pm_Ldrawn cd_Ldrawn ct_Ldrawn : Value}
  (a_Ldrawn : PySem.W.nsIn K mainGlobals "_law_drawn" = some (some (.ref f_Ldrawn))) (l_Ldrawn : K.lookup f_Ldrawn = some ⟨oc_Ldrawn,od_Ldrawn,.func (PySem.W.fnOf "_law_drawn" "_law_drawn" (defArgs (top 29)) (defBody (top 29)) (defScope (top 29)) .none kV_Ldrawn dc_Ldrawn pm_Ldrawn an_Ldrawn cd_Ldrawn ct_Ldrawn),sl_Ldrawn⟩) (c_Ldrawn : PySem.W.codeIn K cd_Ldrawn "_law_drawn" = true) (k_Ldrawn : PySem.W.keepIn K (.ref f_Ldrawn) = true)
  {f_Lis_house : Addr} {od_Lis_house an_Lis_house : Option Addr} {sl_Lis_house : Array (Option Value)} {oc_Lis_house kV_Lis_house dc_Lis_house pm_Lis_house cd_Lis_house ct_Lis_house : Value}
  (a_Lis_house : PySem.W.nsIn K mainGlobals "_law_is_house" = some (some (.ref f_Lis_house))) (l_Lis_house : K.lookup f_Lis_house = some ⟨oc_Lis_house,od_Lis_house,.func (PySem.W.fnOf "_law_is_house" "_law_is_house" (defArgs (top 30)) (defBody (top 30)) (defScope (top 30)) .none kV_Lis_house dc_Lis_house pm_Lis_house an_Lis_house cd_Lis_house ct_Lis_house),sl_Lis_house⟩) (c_Lis_house : PySem.W.codeIn K cd_Lis_house "_law_is_house" = true) (k_Lis_house : PySem.W.keepIn K (.ref f_Lis_house) = true)
  {f_Lwhole : Addr} {od_Lwhole an_Lwhole : Option Addr} {sl_Lwhole : Array (Option Value)} {oc_Lwhole kV_Lwhole dc_Lwhole pm_Lwhole cd_Lwhole ct_Lwhole : Value}
  (a_Lwhole : PySem.W.nsIn K mainGlobals "_law_whole" = some (some (.ref f_Lwhole))) (l_Lwhole : K.lookup f_Lwhole = some ⟨oc_Lwhole,od_Lwhole,.func (PySem.W.fnOf "_law_whole" "_law_whole" (defArgs (top 27)) (defBody (top 27)) (defScope (top 27)) .none kV_Lwhole dc_Lwhole pm_Lwhole an_Lwhole cd_Lwhole ct_Lwhole),sl_Lwhole⟩) (c_Lwhole : PySem.W.codeIn K cd_Lwhole "_law_whole" = true) (k_Lwhole : PySem.W.keepIn K (.ref f_Lwhole) = true)
  {f_Lunhurt : Addr} {od_Lunhurt an_Lunhurt : Option Addr} {sl_Lunhurt : Array (Option Value)} {oc_Lunhurt kV_Lunhurt dc_Lunhurt pm_Lunhurt cd_Lunhurt ct_Lunhurt : Value}
  (a_Lunhurt : PySem.W.nsIn K mainGlobals "_law_unhurt" = some (some (.ref f_Lunhurt))) (l_Lunhurt : K.lookup f_Lunhurt = some ⟨oc_Lunhurt,od_Lunhurt,.func (PySem.W.fnOf "_law_unhurt" "_law_unhurt" (defArgs (top 34)) (defBody (top 34)) (defScope (top 34)) .none kV_Lunhurt dc_Lunhurt pm_Lunhurt an_Lunhurt cd_Lunhurt ct_Lunhurt),sl_Lunhurt⟩) (c_Lunhurt : PySem.W.codeIn K cd_Lunhurt "_law_unhurt" = true) (k_Lunhurt : PySem.W.keepIn K (.ref f_Lunhurt) = true)
  {f_Lled : Addr} {od_Lled an_Lled : Option Addr} {sl_Lled : Array (Option Value)} {oc_Lled kV_Lled dc_Lled pm_Lled cd_Lled ct_Lled : Value}
  (a_Lled : PySem.W.nsIn K mainGlobals "_law_led" = some (some (.ref f_Lled))) (l_Lled : K.lookup f_Lled = some ⟨oc_Lled,od_Lled,.func (PySem.W.fnOf "_law_led" "_law_led" (defArgs (top 31)) (defBody (top 31)) (defScope (top 31)) .none kV_Lled dc_Lled pm_Lled an_Lled cd_Lled ct_Lled),sl_Lled⟩) (c_Lled : PySem.W.codeIn K cd_Lled "_law_led" = true) (k_Lled : PySem.W.keepIn K (.ref f_Lled) = true)
  {f_Lis_walk : Addr} {od_Lis_walk an_Lis_walk : Option Addr} {sl_Lis_walk : Array (Option Value)} {oc_Lis_walk kV_Lis_walk dc_Lis_walk pm_Lis_walk cd_Lis_walk ct_Lis_walk : Value}
  (a_Lis_walk : PySem.W.nsIn K mainGlobals "_law_is_walk" = some (some (.ref f_Lis_walk))) (l_Lis_walk : K.lookup f_Lis_walk = some ⟨oc_Lis_walk,od_Lis_walk,.func (PySem.W.fnOf "_law_is_walk" "_law_is_walk" (defArgs (top 32)) (defBody (top 32)) (defScope (top 32)) .none kV_Lis_walk dc_Lis_walk pm_Lis_walk an_Lis_walk cd_Lis_walk ct_Lis_walk),sl_Lis_walk⟩) (c_Lis_walk : PySem.W.codeIn K cd_Lis_walk "_law_is_walk" = true) (k_Lis_walk : PySem.W.keepIn K (.ref f_Lis_walk) = true)
  {f_Lblown : Addr} {od_Lblown an_Lblown : Option Addr} {sl_Lblown : Array (Option Value)} {oc_Lblown kV_Lblown dc_Lblown pm_Lblown cd_Lblown ct_Lblown : Value}
  (a_Lblown : PySem.W.nsIn K mainGlobals "_law_blown" = some (some (.ref f_Lblown))) (l_Lblown : K.lookup f_Lblown = some ⟨oc_Lblown,od_Lblown,.func (PySem.W.fnOf "_law_blown" "_law_blown" (defArgs (top 33)) (defBody (top 33)) (defScope (top 33)) .none kV_Lblown dc_Lblown pm_Lblown an_Lblown cd_Lblown ct_Lblown),sl_Lblown⟩) (c_Lblown : PySem.W.codeIn K cd_Lblown "_law_blown" = true) (k_Lblown : PySem.W.keepIn K (.ref f_Lblown) = true)
  {f_Lmapped : Addr} {od_Lmapped an_Lmapped : Option Addr} {sl_Lmapped : Array (Option Value)} {oc_Lmapped kV_Lmapped dc_Lmapped pm_Lmapped cd_Lmapped ct_Lmapped : Value}
  (a_Lmapped : PySem.W.nsIn K mainGlobals "_law_mapped" = some (some (.ref f_Lmapped))) (l_Lmapped : K.lookup f_Lmapped = some ⟨oc_Lmapped,od_Lmapped,.func (PySem.W.fnOf "_law_mapped" "_law_mapped" (defArgs (top 35)) (defBody (top 35)) (defScope (top 35)) .none kV_Lmapped dc_Lmapped pm_Lmapped an_Lmapped cd_Lmapped ct_Lmapped),sl_Lmapped⟩) (c_Lmapped : PySem.W.codeIn K cd_Lmapped "_law_mapped" = true) (k_Lmapped : PySem.W.keepIn K (.ref f_Lmapped) = true)
  {f_Lin_turn : Addr} {od_Lin_turn an_Lin_turn : Option Addr} {sl_Lin_turn : Array (Option Value)} {oc_Lin_turn kV_Lin_turn dc_Lin_turn pm_Lin_turn cd_Lin_turn ct_Lin_turn : Value}
  (a_Lin_turn : PySem.W.nsIn K mainGlobals "_law_in_turn" = some (some (.ref f_Lin_turn))) (l_Lin_turn : K.lookup f_Lin_turn = some ⟨oc_Lin_turn,od_Lin_turn,.func (PySem.W.fnOf "_law_in_turn" "_law_in_turn" (defArgs (top 36)) (defBody (top 36)) (defScope (top 36)) .none kV_Lin_turn dc_Lin_turn pm_Lin_turn an_Lin_turn cd_Lin_turn ct_Lin_turn),sl_Lin_turn⟩) (c_Lin_turn : PySem.W.codeIn K cd_Lin_turn "_law_in_turn" = true) (k_Lin_turn : PySem.W.keepIn K (.ref f_Lin_turn) = true)
  {f_law : Addr} {od_law an_law : Option Addr} {sl_law : Array (Option Value)} {oc_law kV_law dc_law pm_law cd_law ct_law : Value}
  (a_law : PySem.W.nsIn K mainGlobals "law" = some (some (.ref f_law))) (l_law : K.lookup f_law = some ⟨oc_law,od_law,.func (PySem.W.fnOf "law" "law" (defArgs (top 37)) (defBody (top 37)) (defScope (top 37)) .none kV_law dc_law pm_law an_law cd_law ct_law),sl_law⟩) (c_law : PySem.W.codeIn K cd_law "law" = true) (k_law : PySem.W.keepIn K (.ref f_law) = true)
   {CG : Addr} {fI : Addr} {od_I an_I : Option Addr} {sl_I : Array (Option Value)} {oc_I kV_I dc_I pm_I cd_I ct_I : Value} {fW : Addr} {od_W an_W : Option Addr} {sl_W : Array (Option Value)} {oc_W kV_W dc_W pm_W cd_W ct_W : Value} {fH : Addr} {od_H an_H : Option Addr} {sl_H : Array (Option Value)} {oc_H kV_H dc_H pm_H cd_H ct_H : Value} {fP : Addr} {od_P an_P : Option Addr} {sl_P : Array (Option Value)} {oc_P kV_P dc_P pm_P cd_P ct_P : Value} {fA : Addr} {od_A an_A : Option Addr} {sl_A : Array (Option Value)} {oc_A kV_A dc_A pm_A cd_A ct_A : Value} {fR : Addr} {od_R an_R : Option Addr} {sl_R : Array (Option Value)} {oc_R kV_R dc_R pm_R cd_R ct_R : Value} {fS : Addr} {od_S an_S : Option Addr} {sl_S : Array (Option Value)} {oc_S kV_S dc_S pm_S cd_S ct_S : Value} (aC : PySem.W.nsIn K mainGlobals "Groups" = some (some (.ref CG))) (pgF : PySem.W.plainGet K CG Str.empty = true) (hdF : PySem.W.hasDictIn K CG = true) (poF : PySem.W.plainOver K CG = true) (saF : PySem.W.findIn K (.ref CG) "__setattr__" = some (some (.builtin "object.__setattr__"))) (mkF : PySem.W.makesIn K CG = true) (kcF : PySem.W.keepIn K (.ref CG) = true) (nHF : PySem.W.findIn K (.ref CG) "house" = some none) (nLF : PySem.W.findIn K (.ref CG) "leading_to" = some none) (nGF : PySem.W.findIn K (.ref CG) "group_of" = some none) (nMF : PySem.W.findIn K (.ref CG) "members" = some none) (nWF : PySem.W.findIn K (.ref CG) "waiting" = some none) (aI : PySem.W.findIn K (.ref CG) "__init__" = some (some (.ref fI))) (iI : PySem.W.isFn K (.ref fI) = true) (lI : K.lookup fI = some ⟨oc_I,od_I,.func (PySem.W.fnOf "__init__" "Groups.__init__" (defArgs (sG 0)) (defBody (sG 0)) (defScope (sG 0)) .none kV_I dc_I pm_I an_I cd_I ct_I),sl_I⟩) (cI : PySem.W.codeIn K cd_I "Groups.__init__" = true) (kI : PySem.W.keepIn K (.ref fI) = true) (aW : PySem.W.findIn K (.ref CG) "part_waiting" = some (some (.ref fW))) (iW : PySem.W.isFn K (.ref fW) = true) (lW : K.lookup fW = some ⟨oc_W,od_W,.func (PySem.W.fnOf "part_waiting" "Groups.part_waiting" (defArgs (sG 4)) (defBody (sG 4)) (defScope (sG 4)) .none kV_W dc_W pm_W an_W cd_W ct_W),sl_W⟩) (cW : PySem.W.codeIn K cd_W "Groups.part_waiting" = true) (kW : PySem.W.keepIn K (.ref fW) = true) (aH : PySem.W.findIn K (.ref CG) "groups_ahead" = some (some (.ref fH))) (iH : PySem.W.isFn K (.ref fH) = true) (lH : K.lookup fH = some ⟨oc_H,od_H,.func (PySem.W.fnOf "groups_ahead" "Groups.groups_ahead" (defArgs (sG 2)) (defBody (sG 2)) (defScope (sG 2)) .none kV_H dc_H pm_H an_H cd_H ct_H),sl_H⟩) (cH : PySem.W.codeIn K cd_H "Groups.groups_ahead" = true) (kH : PySem.W.keepIn K (.ref fH) = true) (aP : PySem.W.findIn K (.ref CG) "part" = some (some (.ref fP))) (iP : PySem.W.isFn K (.ref fP) = true) (lP : K.lookup fP = some ⟨oc_P,od_P,.func (PySem.W.fnOf "part" "Groups.part" (defArgs (sG 5)) (defBody (sG 5)) (defScope (sG 5)) .none kV_P dc_P pm_P an_P cd_P ct_P),sl_P⟩) (cP : PySem.W.codeIn K cd_P "Groups.part" = true) (kP : PySem.W.keepIn K (.ref fP) = true) (aA : PySem.W.findIn K (.ref CG) "add_group" = some (some (.ref fA))) (iA : PySem.W.isFn K (.ref fA) = true) (lA : K.lookup fA = some ⟨oc_A,od_A,.func (PySem.W.fnOf "add_group" "Groups.add_group" (defArgs (sG 6)) (defBody (sG 6)) (defScope (sG 6)) .none kV_A dc_A pm_A an_A cd_A ct_A),sl_A⟩) (cA : PySem.W.codeIn K cd_A "Groups.add_group" = true) (kA : PySem.W.keepIn K (.ref fA) = true) (aR : PySem.W.findIn K (.ref CG) "rooms_ahead" = some (some (.ref fR))) (iR : PySem.W.isFn K (.ref fR) = true) (lR : K.lookup fR = some ⟨oc_R,od_R,.func (PySem.W.fnOf "rooms_ahead" "Groups.rooms_ahead" (defArgs (sG 1)) (defBody (sG 1)) (defScope (sG 1)) .none kV_R dc_R pm_R an_R cd_R ct_R),sl_R⟩) (cR : PySem.W.codeIn K cd_R "Groups.rooms_ahead" = true) (kR : PySem.W.keepIn K (.ref fR) = true) (aS : PySem.W.findIn K (.ref CG) "sort_out" = some (some (.ref fS))) (iS : PySem.W.isFn K (.ref fS) = true) (lS : K.lookup fS = some ⟨oc_S,od_S,.func (PySem.W.fnOf "sort_out" "Groups.sort_out" (defArgs (sG 3)) (defBody (sG 3)) (defScope (sG 3)) .none kV_S dc_S pm_S an_S cd_S ct_S),sl_S⟩) (cS : PySem.W.codeIn K cd_S "Groups.sort_out" = true) (kS : PySem.W.keepIn K (.ref fS) = true)
  {cm0 Pm0 : Addr} (hcd0 : cd_least = .ref cm0) {cm1 Pm1 : Addr} (hcd1 : cd_exits_in = .ref cm1) {cm2 Pm2 : Addr} (hcd2 : cd_ways_in = .ref cm2) {cm3 Pm3 : Addr} (hcd3 : cd_exits_in_pairs = .ref cm3) {cm4 Pm4 : Addr} (hcd4 : cd_apart_from = .ref cm4) (ndP : ([Pm0,Pm1,Pm2,Pm3,Pm4] : List Addr).Nodup)
  (z0 : PySem.W.nsIn K mainGlobals "len" = some none) (z1 : PySem.W.nsIn K mainGlobals "max" = some none) (z2 : PySem.W.nsIn K mainGlobals "range" = some none) (z3 : PySem.W.nsIn K mainGlobals "isinstance" = some none) (z4 : PySem.W.nsIn K mainGlobals "int" = some none) (z5 : PySem.W.nsIn K mainGlobals "bool" = some none) (z6 : PySem.W.nsIn K mainGlobals "str" = some none) (z7 : PySem.W.nsIn K mainGlobals "list" = some none) (z8 : PySem.W.nsIn K mainGlobals "tuple" = some none) (z9 : PySem.W.nsIn K mainGlobals "zip" = some none) (y0 : PySem.W.nsIn K mainGlobals "sorted" = some none) (y1 : PySem.W.nsIn K mainGlobals "dict" = some none) (y2 : PySem.W.nsIn K mainGlobals "min" = some none) (y3 : PySem.W.nsIn K mainGlobals "reversed" = some none) :
  ∃ fd : FuncData,(∀ (s : Shared) (v : Value),BindsTo s fd ⟨[v],[]⟩ [("_law_script",v)]) /\ ∀ base : Heap,K.In base -> base.Ns mainGlobals mg -> PySem.W.CodeAll [(cm0,Pm0),(cm1,Pm1),(cm2,Pm2),(cm3,Pm3),(cm4,Pm4)] base -> BMain mg base -> FnOk l.prog w K mg base CX0 8 fa0 fd ["_law_script"] (spLaw K [(Pm0,qsLe),(Pm1,lamQs "exits_in"),(Pm2,lamQs "ways_in"),(Pm3,lamQs "exits_in_pairs"),(Pm4,lamQs "apart_from")]):=by
 subst hcd0; subst hcd1; subst hcd2; subst hcd3; subst hcd4
 have T : Blt mg:=⟨PySem.W.mg_none_of X G z0,PySem.W.mg_none_of X G z1,PySem.W.mg_none_of X G z2,PySem.W.mg_none_of X G z3,PySem.W.mg_none_of X G z4,PySem.W.mg_none_of X G z5,PySem.W.mg_none_of X G z6,PySem.W.mg_none_of X G z7,PySem.W.mg_none_of X G z8,PySem.W.mg_none_of X G z9⟩
 have TS : mg "sorted" = none:=PySem.W.mg_none_of X G y0
 have TD : mg "dict" = none:=PySem.W.mg_none_of X G y1
 have TM : mg "min" = none:=PySem.W.mg_none_of X G y2
 have TR : mg "reversed" = none:=PySem.W.mg_none_of X G y3
 have F_I:=fun_mk (st:=sG 0) lI cI kI
 have b_I:=F_I.binds (ps:=["self","house"]) fun _ _ _ _ _ _ => us2 fun _ _ => rfl
 have F_W:=fun_mk (st:=sG 4) lW cW kW
 have b_W:=F_W.binds (ps:=["self"]) fun _ _ _ _ _ _ => us1 fun _ => rfl
 have F_H:=fun_mk (st:=sG 2) lH cH kH
 have b_H:=F_H.binds (ps:=["self","room"]) fun _ _ _ _ _ _ => us2 fun _ _ => rfl
 have F_P:=fun_mk (st:=sG 5) lP cP kP
 have b_P:=F_P.binds (ps:=["self","group","marked"]) fun _ _ _ _ _ _ => us3 fun _ _ _ => rfl
 have F_A:=fun_mk (st:=sG 6) lA cA kA
 have b_A:=F_A.binds (ps:=["self","rooms"]) fun _ _ _ _ _ _ => us2 fun _ _ => rfl
 have F_R:=fun_mk (st:=sG 1) lR cR kR
 have b_R:=F_R.binds (ps:=["self","room"]) fun _ _ _ _ _ _ => us2 fun _ _ => rfl
 have F_S:=fun_mk (st:=sG 3) lS cS kS
 have b_S:=F_S.binds (ps:=["self","lights"]) fun _ _ _ _ _ _ => us2 fun _ _ => rfl
 have Z : GrC K mg CG fI fW fH fP fA _ _ _ _ _:=⟨⟨pgF,hdF,poF,saF⟩,nHF,nLF,nGF,nMF,nWF,⟨mkF,aI,iI,kcF⟩,PySem.W.mg_of X G aC,F_I,b_I,⟨aW,iW,kW⟩,F_W,b_W,⟨aH,iH,kH⟩,F_H,b_H,⟨aP,iP,kP⟩,F_P,b_P,⟨aA,iA,kA⟩,F_A,b_A⟩
 have Zd : GrD K CG fR fS _ _:=⟨⟨aR,iR,kR⟩,F_R,b_R,⟨aS,iS,kS⟩,F_S,b_S⟩
 have F_gathered:=fun_mk (st:=top 13) l_gathered c_gathered k_gathered
 have D_gathered : Df K mg "gathered" 13 ["marked"] _ _:=⟨F_gathered,PySem.W.mg_of X G a_gathered,F_gathered.binds (ps:=["marked"]) fun _ _ _ _ _ _ => us1 fun _ => rfl⟩
 have F_exits_of:=fun_mk (st:=top 9) l_exits_of c_exits_of k_exits_of
 have D_exits_of : Df K mg "exits_of" 9 ["house","room"] _ _:=⟨F_exits_of,PySem.W.mg_of X G a_exits_of,F_exits_of.binds (ps:=["house","room"]) fun _ _ _ _ _ _ => us2 fun _ _ => rfl⟩
 have F_is_lit:=fun_mk (st:=top 10) l_is_lit c_is_lit k_is_lit
 have D_is_lit : Df K mg "is_lit" 10 ["house","room"] _ _:=⟨F_is_lit,PySem.W.mg_of X G a_is_lit,F_is_lit.binds (ps:=["house","room"]) fun _ _ _ _ _ _ => us2 fun _ _ => rfl⟩
 have F_lay_out:=fun_mk (st:=top 4) l_lay_out c_lay_out k_lay_out
 have D_lay_out : Df K mg "lay_out" 4 ["start","exits","lit"] _ _:=⟨F_lay_out,PySem.W.mg_of X G a_lay_out,F_lay_out.binds (ps:=["start","exits","lit"]) fun _ _ _ _ _ _ => us3 fun _ _ _ => rfl⟩
 have F_least:=fun_mk (st:=top 16) l_least c_least k_least
 have D_least : Df K mg "least" 16 ["house"] _ _:=⟨F_least,PySem.W.mg_of X G a_least,F_least.binds (ps:=["house"]) fun _ _ _ _ _ _ => us1 fun _ => rfl⟩
 have F_explore:=fun_mk (st:=top 1) l_explore c_explore k_explore
 have D_explore : Df K mg "explore" 1 ["start","exits","wanted"] _ _:=⟨F_explore,PySem.W.mg_of X G a_explore,F_explore.binds (ps:=["start","exits","wanted"]) fun _ _ _ _ _ _ => us3 fun _ _ _ => rfl⟩
 have F_walk_to:=fun_mk (st:=top 2) l_walk_to c_walk_to k_walk_to
 have D_walk_to : Df K mg "walk_to" 2 ["steps","place"] _ _:=⟨F_walk_to,PySem.W.mg_of X G a_walk_to,F_walk_to.binds (ps:=["steps","place"]) fun _ _ _ _ _ _ => us2 fun _ _ => rfl⟩
 have F_first_walk:=fun_mk (st:=top 3) l_first_walk c_first_walk k_first_walk
 have D_first_walk : Df K mg "first_walk" 3 ["start","exits","wanted"] _ _:=⟨F_first_walk,PySem.W.mg_of X G a_first_walk,F_first_walk.binds (ps:=["start","exits","wanted"]) fun _ _ _ _ _ _ => us3 fun _ _ _ => rfl⟩
 have F_exits_in:=fun_mk (st:=top 18) l_exits_in c_exits_in k_exits_in
 have D_exits_in : Df K mg "exits_in" 18 ["house"] _ _:=⟨F_exits_in,PySem.W.mg_of X G a_exits_in,F_exits_in.binds (ps:=["house"]) fun _ _ _ _ _ _ => us1 fun _ => rfl⟩
 have F_ways_in:=fun_mk (st:=top 19) l_ways_in c_ways_in k_ways_in
 have D_ways_in : Df K mg "ways_in" 19 ["house"] _ _:=⟨F_ways_in,PySem.W.mg_of X G a_ways_in,F_ways_in.binds (ps:=["house"]) fun _ _ _ _ _ _ => us1 fun _ => rfl⟩
 have F_check_room:=fun_mk (st:=top 11) l_check_room c_check_room k_check_room
 have D_check_room : Df K mg "check_room" 11 ["house","room"] _ _:=⟨F_check_room,PySem.W.mg_of X G a_check_room,F_check_room.binds (ps:=["house","room"]) fun _ _ _ _ _ _ => us2 fun _ _ => rfl⟩
 have F_exits_of_pair:=fun_mk (st:=top 21) l_exits_of_pair c_exits_of_pair k_exits_of_pair
 have D_exits_of_pair : Df K mg "exits_of_pair" 21 ["one","other","pair"] _ _:=⟨F_exits_of_pair,PySem.W.mg_of X G a_exits_of_pair,F_exits_of_pair.binds (ps:=["one","other","pair"]) fun _ _ _ _ _ _ => us3 fun _ _ _ => rfl⟩
 have F_exits_in_pairs:=fun_mk (st:=top 22) l_exits_in_pairs c_exits_in_pairs k_exits_in_pairs
 have D_exits_in_pairs : Df K mg "exits_in_pairs" 22 ["one","other"] _ _:=⟨F_exits_in_pairs,PySem.W.mg_of X G a_exits_in_pairs,F_exits_in_pairs.binds (ps:=["one","other"]) fun _ _ _ _ _ _ => us2 fun _ _ => rfl⟩
 have F_apart_from:=fun_mk (st:=top 24) l_apart_from c_apart_from k_apart_from
 have D_apart_from : Df K mg "apart_from" 24 ["one","other","start"] _ _:=⟨F_apart_from,PySem.W.mg_of X G a_apart_from,F_apart_from.binds (ps:=["one","other","start"]) fun _ _ _ _ _ _ => us3 fun _ _ _ => rfl⟩
 have F_told_apart:=fun_mk (st:=top 25) l_told_apart c_told_apart k_told_apart
 have D_told_apart : Df K mg "told_apart" 25 ["house","one","other"] _ _:=⟨F_told_apart,PySem.W.mg_of X G a_told_apart,F_told_apart.binds (ps:=["house","one","other"]) fun _ _ _ _ _ _ => us3 fun _ _ _ => rfl⟩
 have F_Lat:=fun_mk (st:=top 28) l_Lat c_Lat k_Lat
 have D_Lat : Df K mg "_law_at" 28 ["_law_script","_law_k"] _ _:=⟨F_Lat,PySem.W.mg_of X G a_Lat,F_Lat.binds (ps:=["_law_script","_law_k"]) fun _ _ _ _ _ _ => us2 fun _ _ => rfl⟩
 have F_Ldrawn:=fun_mk (st:=top 29) l_Ldrawn c_Ldrawn k_Ldrawn
 have D_Ldrawn : Df K mg "_law_drawn" 29 ["_law_cells"] _ _:=⟨F_Ldrawn,PySem.W.mg_of X G a_Ldrawn,F_Ldrawn.binds (ps:=["_law_cells"]) fun _ _ _ _ _ _ => us1 fun _ => rfl⟩
 have F_Lis_house:=fun_mk (st:=top 30) l_Lis_house c_Lis_house k_Lis_house
 have D_Lis_house : Df K mg "_law_is_house" 30 ["_law_found"] _ _:=⟨F_Lis_house,PySem.W.mg_of X G a_Lis_house,F_Lis_house.binds (ps:=["_law_found"]) fun _ _ _ _ _ _ => us1 fun _ => rfl⟩
 have F_Lwhole:=fun_mk (st:=top 27) l_Lwhole c_Lwhole k_Lwhole
 have D_Lwhole : Df K mg "_law_whole" 27 ["_law_found"] _ _:=⟨F_Lwhole,PySem.W.mg_of X G a_Lwhole,F_Lwhole.binds (ps:=["_law_found"]) fun _ _ _ _ _ _ => us1 fun _ => rfl⟩
 have F_Lunhurt:=fun_mk (st:=top 34) l_Lunhurt c_Lunhurt k_Lunhurt
 have D_Lunhurt : Df K mg "_law_unhurt" 34 ["_law_handed","_law_house"] _ _:=⟨F_Lunhurt,PySem.W.mg_of X G a_Lunhurt,F_Lunhurt.binds (ps:=["_law_handed","_law_house"]) fun _ _ _ _ _ _ => us2 fun _ _ => rfl⟩
 have F_Lled:=fun_mk (st:=top 31) l_Lled c_Lled k_Lled
 have D_Lled : Df K mg "_law_led" 31 ["_law_house","_law_room","_law_walk"] _ _:=⟨F_Lled,PySem.W.mg_of X G a_Lled,F_Lled.binds (ps:=["_law_house","_law_room","_law_walk"]) fun _ _ _ _ _ _ => us3 fun _ _ _ => rfl⟩
 have F_Lis_walk:=fun_mk (st:=top 32) l_Lis_walk c_Lis_walk k_Lis_walk
 have D_Lis_walk : Df K mg "_law_is_walk" 32 ["_law_found"] _ _:=⟨F_Lis_walk,PySem.W.mg_of X G a_Lis_walk,F_Lis_walk.binds (ps:=["_law_found"]) fun _ _ _ _ _ _ => us1 fun _ => rfl⟩
 have F_Lblown:=fun_mk (st:=top 33) l_Lblown c_Lblown k_Lblown
 have D_Lblown : Df K mg "_law_blown" 33 ["_law_base","_law_copies","_law_cells"] _ _:=⟨F_Lblown,PySem.W.mg_of X G a_Lblown,F_Lblown.binds (ps:=["_law_base","_law_copies","_law_cells"]) fun _ _ _ _ _ _ => us3 fun _ _ _ => rfl⟩
 have F_Lmapped:=fun_mk (st:=top 35) l_Lmapped c_Lmapped k_Lmapped
 have D_Lmapped : Df K mg "_law_mapped" 35 ["_law_house","_law_found"] _ _:=⟨F_Lmapped,PySem.W.mg_of X G a_Lmapped,F_Lmapped.binds (ps:=["_law_house","_law_found"]) fun _ _ _ _ _ _ => us2 fun _ _ => rfl⟩
 have F_Lin_turn:=fun_mk (st:=top 36) l_Lin_turn c_Lin_turn k_Lin_turn
 have D_Lin_turn : Df K mg "_law_in_turn" 36 ["_law_found"] _ _:=⟨F_Lin_turn,PySem.W.mg_of X G a_Lin_turn,F_Lin_turn.binds (ps:=["_law_found"]) fun _ _ _ _ _ _ => us1 fun _ => rfl⟩
 have F_law:=fun_mk (st:=top 37) l_law c_law k_law
 have D_law : Df K mg "law" 37 ["_law_script"] _ _:=⟨F_law,PySem.W.mg_of X G a_law,F_law.binds (ps:=["_law_script"]) fun _ _ _ _ _ _ => us1 fun _ => rfl⟩
 have e:=hfa.symm.trans (PySem.W.mg_of X G a_law)
 cases e
 refine ⟨PySem.W.fnOf "law" "law" (defArgs (top 37)) (defBody (top 37)) (defScope (top 37)) .none kV_law dc_law pm_law an_law cd_law ct_law,?b,fun base _ _ hC hB => ?m⟩
 case m =>
  have nd : (([(Pm0,qsLe),(Pm1,lamQs "exits_in"),(Pm2,lamQs "ways_in"),(Pm3,lamQs "exits_in_pairs"),(Pm4,lamQs "apart_from")] : Tbs).map (·.1)).Nodup:=ndP
  have M0 : Mkr base (PySem.W.fnOf "least" "least" (defArgs (top 16)) (defBody (top 16)) (defScope (top 16)) .none kV_least dc_least pm_least an_least (.ref cm0) ct_least) ([(Pm0,qsLe),(Pm1,lamQs "exits_in"),(Pm2,lamQs "ways_in"),(Pm3,lamQs "exits_in_pairs"),(Pm4,lamQs "apart_from")] : Tbs) cm0 Pm0 (qsLe):=⟨rfl,hC.1,by simp⟩
  have M1 : Mkr base (PySem.W.fnOf "exits_in" "exits_in" (defArgs (top 18)) (defBody (top 18)) (defScope (top 18)) .none kV_exits_in dc_exits_in pm_exits_in an_exits_in (.ref cm1) ct_exits_in) ([(Pm0,qsLe),(Pm1,lamQs "exits_in"),(Pm2,lamQs "ways_in"),(Pm3,lamQs "exits_in_pairs"),(Pm4,lamQs "apart_from")] : Tbs) cm1 Pm1 (lamQs "exits_in"):=⟨rfl,hC.2.1,by simp⟩
  have M2 : Mkr base (PySem.W.fnOf "ways_in" "ways_in" (defArgs (top 19)) (defBody (top 19)) (defScope (top 19)) .none kV_ways_in dc_ways_in pm_ways_in an_ways_in (.ref cm2) ct_ways_in) ([(Pm0,qsLe),(Pm1,lamQs "exits_in"),(Pm2,lamQs "ways_in"),(Pm3,lamQs "exits_in_pairs"),(Pm4,lamQs "apart_from")] : Tbs) cm2 Pm2 (lamQs "ways_in"):=⟨rfl,hC.2.2.1,by simp⟩
  have M3 : Mkr base (PySem.W.fnOf "exits_in_pairs" "exits_in_pairs" (defArgs (top 22)) (defBody (top 22)) (defScope (top 22)) .none kV_exits_in_pairs dc_exits_in_pairs pm_exits_in_pairs an_exits_in_pairs (.ref cm3) ct_exits_in_pairs) ([(Pm0,qsLe),(Pm1,lamQs "exits_in"),(Pm2,lamQs "ways_in"),(Pm3,lamQs "exits_in_pairs"),(Pm4,lamQs "apart_from")] : Tbs) cm3 Pm3 (lamQs "exits_in_pairs"):=⟨rfl,hC.2.2.2.1,by simp⟩
  have M4 : Mkr base (PySem.W.fnOf "apart_from" "apart_from" (defArgs (top 24)) (defBody (top 24)) (defScope (top 24)) .none kV_apart_from dc_apart_from pm_apart_from an_apart_from (.ref cm4) ct_apart_from) ([(Pm0,qsLe),(Pm1,lamQs "exits_in"),(Pm2,lamQs "ways_in"),(Pm3,lamQs "exits_in_pairs"),(Pm4,lamQs "apart_from")] : Tbs) cm4 Pm4 (lamQs "apart_from"):=⟨rfl,hC.2.2.2.2.1,by simp⟩
  exact ok_law D_law.fn T TS TD TM TR hB nd Z Zd M0 M1 M2 M3 M4 D_gathered D_exits_of D_is_lit D_lay_out D_least D_explore D_walk_to D_first_walk D_exits_in D_ways_in D_check_room D_exits_of_pair D_exits_in_pairs D_apart_from D_told_apart D_Lat D_Ldrawn D_Lis_house D_Lwhole D_Lunhurt D_Lled D_Lis_walk D_Lblown D_Lmapped D_Lin_turn
 case b => exact fun s v => .of_eq rfl
theorem walk {l : PySem.W.OpenLaw} {q : Program} {loose : List Str} {XP : (Str -> Option Value) -> Heap -> Prop} {YP : World -> Heap -> Prop} {d d0 d1 d2 d3 d4 : DefRec} {K : Params -> PySem.W.Frag} {cm0 Pm0 cm1 Pm1 cm2 Pm2 cm3 Pm3 cm4 Pm4 : Addr} (hn : l.most = some 63) (hdf : d.params.defaults = [])
  (hY : ∀ (w : World) (h : Heap),YP w h -> (K w.params).In h) (hKT : ∀ w : World,PySem.W.noTabs (K w.params) = true) (hx0 : (recsOf q).find? (fun e => e.name == ("least" : Str)) = some d0) (hx1 : (recsOf q).find? (fun e => e.name == ("exits_in" : Str)) = some d1) (hx2 : (recsOf q).find? (fun e => e.name == ("ways_in" : Str)) = some d2) (hx3 : (recsOf q).find? (fun e => e.name == ("exits_in_pairs" : Str)) = some d3) (hx4 : (recsOf q).find? (fun e => e.name == ("apart_from" : Str)) = some d4) (htb0 : ∀ w : World,PySem.W.tabIn (K w.params) "least" = some (cm0,Pm0)) (htb1 : ∀ w : World,PySem.W.tabIn (K w.params) "exits_in" = some (cm1,Pm1)) (htb2 : ∀ w : World,PySem.W.tabIn (K w.params) "ways_in" = some (cm2,Pm2)) (htb3 : ∀ w : World,PySem.W.tabIn (K w.params) "exits_in_pairs" = some (cm3,Pm3)) (htb4 : ∀ w : World,PySem.W.tabIn (K w.params) "apart_from" = some (cm4,Pm4))
  (F : ∀ (w : World) (mg : Str -> Option Value) (fa : Addr) (h : Heap),(K w.params).In h -> h.Ns mainGlobals mg -> mg d.name = some (.ref fa) ->
   ∃ fd : FuncData,(∀ (s : Shared) (u : Value),BindsTo s fd ⟨[u],[]⟩ [("_law_script",u)]) /\ ∀ base : Heap,(K w.params).In base -> base.Ns mainGlobals mg -> PySem.W.CodeAll [(cm0,Pm0),(cm1,Pm1),(cm2,Pm2),(cm3,Pm3),(cm4,Pm4)] base -> BMain mg base -> FnOk l.prog w (K w.params) mg base CX0 8 fa fd ["_law_script"] (spLaw (K w.params) [(Pm0,qsLe),(Pm1,lamQs "exits_in"),(Pm2,lamQs "ways_in"),(Pm3,lamQs "exits_in_pairs"),(Pm4,lamQs "apart_from")])) :
  PySem.W.WalkO q loose XP YP l.row.toRowW d [] (fun f vs => PySem.call f vs):=by
 refine L2.walk_ofT (n:=63) (k:=8) (x:="_law_script") (CX:=fun _ => CX0) (sp:=fun w => spLaw (K w.params) [(Pm0,qsLe),(Pm1,lamQs "exits_in"),(Pm2,lamQs "ways_in"),(Pm3,lamQs "exits_in_pairs"),(Pm4,lamQs "apart_from")]) (tabs:=[(cm0,Pm0),(cm1,Pm1),(cm2,Pm2),(cm3,Pm3),(cm4,Pm4)]) (xs:=[("least",d0),("exits_in",d1),("ways_in",d2),("exits_in_pairs",d3),("apart_from",d4)]) hn (by decide) hdf ⟨rfl,by decide,by decide⟩ hY hKT ?_ ?_ F ?_ fun _ _ _ _ _ z => z
 ·intro y hy
  simp only [List.mem_cons,List.not_mem_nil,or_false] at hy
  rcases hy with rfl | rfl | rfl | rfl | rfl
  ·exact hx0
  ·exact hx1
  ·exact hx2
  ·exact hx3
  ·exact hx4
 ·intro w t ht
  simp only [List.mem_cons,List.not_mem_nil,or_false] at ht
  rcases ht with rfl | rfl | rfl | rfl | rfl
  ·exact ⟨("least",d0),by simp,htb0 w⟩
  ·exact ⟨("exits_in",d1),by simp,htb1 w⟩
  ·exact ⟨("ways_in",d2),by simp,htb2 w⟩
  ·exact ⟨("exits_in_pairs",d3),by simp,htb3 w⟩
  ·exact ⟨("apart_from",d4),by simp,htb4 w⟩
 ·intro w H a ns hl hS hT
  refine ⟨a,ns,rfl,hS,hl,fun t ht => ?_,fun _ => rfl⟩
  simp only [List.mem_cons,List.not_mem_nil,or_false] at ht
  rcases ht with rfl | rfl | rfl | rfl | rfl
  ·exact Tab.start (hT (cm0,Pm0) (by simp))
  ·exact Tab.start (hT (cm1,Pm1) (by simp))
  ·exact Tab.start (hT (cm2,Pm2) (by simp))
  ·exact Tab.start (hT (cm3,Pm3) (by simp))
  ·exact Tab.start (hT (cm4,Pm4) (by simp))
end Law
end
open PySem PySem.W PyProof.Rows
set_option maxRecDepth 100000 in
set_option maxHeartbeats 0 in
theorem PySem.Challenge.cw_turnhouse_k08_whole_least_holds : PySem.Challenge.rw_turnhouse_k08_whole_least.Holds := by
 w_on; o_law; k_head; (case hw => w_witness2)
 k_fill
 skip
 refine Law.walk (l:=PySem.Challenge.rw_turnhouse_k08_whole_least) (cm0:=158) (Pm0:=154) (cm1:=165) (Pm1:=161) (cm2:=170) (Pm2:=168) (cm3:=184) (Pm3:=180) (cm4:=191) (Pm4:=187) rfl rfl (fun w h Y => PySem.W.km_in_of Y) (fun w => by kernel_rfl) rfl rfl rfl rfl rfl (fun w => by kernel_rfl) (fun w => by kernel_rfl) (fun w => by kernel_rfl) (fun w => by kernel_rfl) (fun w => by kernel_rfl) ?F
 case F =>
  intro w mg fa h KX G hmg
  refine' Law.all_mk KX G hmg ?a_gathered ?l_gathered ?c_gathered ?k_gathered ?a_exits_of ?l_exits_of ?c_exits_of ?k_exits_of ?a_is_lit ?l_is_lit ?c_is_lit ?k_is_lit ?a_lay_out ?l_lay_out ?c_lay_out ?k_lay_out ?a_least ?l_least ?c_least ?k_least ?a_explore ?l_explore ?c_explore ?k_explore ?a_walk_to ?l_walk_to ?c_walk_to ?k_walk_to ?a_first_walk ?l_first_walk ?c_first_walk ?k_first_walk ?a_exits_in ?l_exits_in ?c_exits_in ?k_exits_in ?a_ways_in ?l_ways_in ?c_ways_in ?k_ways_in ?a_check_room ?l_check_room ?c_check_room ?k_check_room ?a_exits_of_pair ?l_exits_of_pair ?c_exits_of_pair ?k_exits_of_pair ?a_exits_in_pairs ?l_exits_in_pairs ?c_exits_in_pairs ?k_exits_in_pairs ?a_apart_from ?l_apart_from ?c_apart_from ?k_apart_from ?a_told_apart ?l_told_apart ?c_told_apart ?k_told_apart ?a_Lat ?l_Lat ?c_Lat ?k_Lat ?a_Ldrawn ?l_Ldrawn ?c_Ldrawn ?k_Ldrawn ?a_Lis_house ?l_Lis_house ?c_Lis_house ?k_Lis_house ?a_Lwhole ?l_Lwhole ?c_Lwhole ?k_Lwhole ?a_Lunhurt ?l_Lunhurt ?c_Lunhurt ?k_Lunhurt ?a_Lled ?l_Lled ?c_Lled ?k_Lled ?a_Lis_walk ?l_Lis_walk ?c_Lis_walk ?k_Lis_walk ?a_Lblown ?l_Lblown ?c_Lblown ?k_Lblown ?a_Lmapped ?l_Lmapped ?c_Lmapped ?k_Lmapped ?a_Lin_turn ?l_Lin_turn ?c_Lin_turn ?k_Lin_turn ?a_law ?l_law ?c_law ?k_law  ?aC ?pgF ?hdF ?poF ?saF ?mkF ?kcF ?nHF ?nLF ?nGF ?nMF ?nWF ?aI ?iI ?lI ?cI ?kI ?aW ?iW ?lW ?cW ?kW ?aH ?iH ?lH ?cH ?kH ?aP ?iP ?lP ?cP ?kP ?aA ?iA ?lA ?cA ?kA ?aR ?iR ?lR ?cR ?kR ?aS ?iS ?lS ?cS ?kS ?hcd0 ?hcd1 ?hcd2 ?hcd3 ?hcd4 ?ndP ?z0 ?z1 ?z2 ?z3 ?z4 ?z5 ?z6 ?z7 ?z8 ?z9 ?y0 ?y1 ?y2 ?y3
  (case a_gathered => k_is); (case l_gathered => k_is); (case c_gathered => k_is); (case k_gathered => k_is); (case a_exits_of => k_is); (case l_exits_of => k_is); (case c_exits_of => k_is); (case k_exits_of => k_is); (case a_is_lit => k_is); (case l_is_lit => k_is); (case c_is_lit => k_is); (case k_is_lit => k_is); (case a_lay_out => k_is); (case l_lay_out => k_is); (case c_lay_out => k_is); (case k_lay_out => k_is); (case a_least => k_is); (case l_least => k_is); (case c_least => k_is); (case k_least => k_is); (case a_explore => k_is); (case l_explore => k_is); (case c_explore => k_is); (case k_explore => k_is); (case a_walk_to => k_is); (case l_walk_to => k_is); (case c_walk_to => k_is); (case k_walk_to => k_is); (case a_first_walk => k_is); (case l_first_walk => k_is); (case c_first_walk => k_is); (case k_first_walk => k_is); (case a_exits_in => k_is); (case l_exits_in => k_is); (case c_exits_in => k_is); (case k_exits_in => k_is); (case a_ways_in => k_is); (case l_ways_in => k_is); (case c_ways_in => k_is); (case k_ways_in => k_is); (case a_check_room => k_is); (case l_check_room => k_is); (case c_check_room => k_is); (case k_check_room => k_is); (case a_exits_of_pair => k_is); (case l_exits_of_pair => k_is); (case c_exits_of_pair => k_is); (case k_exits_of_pair => k_is); (case a_exits_in_pairs => k_is); (case l_exits_in_pairs => k_is); (case c_exits_in_pairs => k_is); (case k_exits_in_pairs => k_is); (case a_apart_from => k_is); (case l_apart_from => k_is); (case c_apart_from => k_is); (case k_apart_from => k_is); (case a_told_apart => k_is); (case l_told_apart => k_is); (case c_told_apart => k_is); (case k_told_apart => k_is); (case a_Lat => k_is); (case l_Lat => k_is); (case c_Lat => k_is); (case k_Lat => k_is); (case a_Ldrawn => k_is); (case l_Ldrawn => k_is); (case c_Ldrawn => k_is); (case k_Ldrawn => k_is); (case a_Lis_house => k_is); (case l_Lis_house => k_is); (case c_Lis_house => k_is); (case k_Lis_house => k_is); (case a_Lwhole => k_is); (case l_Lwhole => k_is); (case c_Lwhole => k_is); (case k_Lwhole => k_is); (case a_Lunhurt => k_is); (case l_Lunhurt => k_is); (case c_Lunhurt => k_is); (case k_Lunhurt => k_is); (case a_Lled => k_is); (case l_Lled => k_is); (case c_Lled => k_is); (case k_Lled => k_is); (case a_Lis_walk => k_is); (case l_Lis_walk => k_is); (case c_Lis_walk => k_is); (case k_Lis_walk => k_is); (case a_Lblown => k_is); (case l_Lblown => k_is); (case c_Lblown => k_is); (case k_Lblown => k_is); (case a_Lmapped => k_is); (case l_Lmapped => k_is); (case c_Lmapped => k_is); (case k_Lmapped => k_is); (case a_Lin_turn => k_is); (case l_Lin_turn => k_is); (case c_Lin_turn => k_is); (case k_Lin_turn => k_is); (case a_law => k_is); (case l_law => k_is); (case c_law => k_is); (case k_law => k_is); (case aC => k_is); (case pgF => k_is); (case hdF => k_is); (case poF => k_is); (case saF => k_is); (case mkF => k_is); (case kcF => k_is); (case nHF => k_is); (case nLF => k_is); (case nGF => k_is); (case nMF => k_is); (case nWF => k_is); (case aI => k_is); (case iI => k_is); (case lI => k_is); (case cI => k_is); (case kI => k_is); (case aW => k_is); (case iW => k_is); (case lW => k_is); (case cW => k_is); (case kW => k_is); (case aH => k_is); (case iH => k_is); (case lH => k_is); (case cH => k_is); (case kH => k_is); (case aP => k_is); (case iP => k_is); (case lP => k_is); (case cP => k_is); (case kP => k_is); (case aA => k_is); (case iA => k_is); (case lA => k_is); (case cA => k_is); (case kA => k_is); (case aR => k_is); (case iR => k_is); (case lR => k_is); (case cR => k_is); (case kR => k_is); (case aS => k_is); (case iS => k_is); (case lS => k_is); (case cS => k_is); (case kS => k_is);  (case hcd0 => rfl); (case hcd1 => rfl); (case hcd2 => rfl); (case hcd3 => rfl); (case hcd4 => rfl); (case ndP => decide); (case z0 => k_is); (case z1 => k_is); (case z2 => k_is); (case z3 => k_is); (case z4 => k_is); (case z5 => k_is); (case z6 => k_is); (case z7 => k_is); (case z8 => k_is); (case z9 => k_is); (case y0 => k_is); (case y1 => k_is); (case y2 => k_is); (case y3 => k_is)
#print axioms PySem.Challenge.cw_turnhouse_k08_whole_least_holds
