import PyProof.Rows.All
import Wide.All
import OpenK.AllK
import Wide.FinOn
import Lean
import PyProof.EqAt
import PyProof.EqKinds
import PyProof.TupleCall
import PyProof.NeKinds
import KE.KDictOf
import PyProof.AttrMissHeap
import PyProof.WalksMore
import PyProof.MeetsDict
import KE.KDictList
import KE.KRevIter
import PyProof.DictItemsLoops
import PyProof.DictWalks
import KE.KSortTup
import KE.KDictSum
import PyProof.SumAny
import PyProof.Conv_int_bool
import PyProof.Conv_int
import KE.KRevSl
import PyProof.MeetsStr
import PyProof.StrCalls3
import PyProof.Rows.TupDisplay
import PySem.Challenge.RW_copymeet_k56_what_a_thing_holds
set_option Elab.async false
set_option linter.all false
set_option maxRecDepth 100000
namespace L2
open PySem PySem.Spec PyProof.Rows
abbrev Key:=Sum Int Str
def keyIs:Key->Value->Bool
 | .inl k,v=>Value.isInt k v
 | .inr x,v=>Value.isStrOf x v
def keyH (w:World):Key->Int
 | .inl k=>hashInt k
 | .inr x=>hashStr w x
theorem keyIs_shape:∀ {k:Key} {v:Value},keyIs k v=true->(∃ i t,k=Sum.inl i/\v=Value.int i t)\/(∃ x t,k=Sum.inr x/\v=Value.str x t)
 | .inl i,v,h=>by
  obtain ⟨t,e⟩:=Value.isInt_shape (k:=i) (v:=v) h
  exact .inl ⟨i,t,rfl,e⟩
 | .inr x,v,h=>by
  obtain ⟨t,e⟩:=Value.isStrOf_shape (x:=x) (v:=v) h
  exact .inr ⟨x,t,rfl,e⟩
theorem keyIs_int (i:Int) (t:Tok):keyIs (.inl i) (.int i t)=true:=by simp [keyIs,Value.isInt]
theorem keyIs_str (x:Str) (t:Tok):keyIs (.inr x) (.str x t)=true:=by simp [keyIs,Value.isStrOf]
theorem key_ll (a b:Int):decide ((Sum.inl a:Key)=Sum.inl b)=(a == b):=by
 by_cases e:a=b
 ·subst e; simp
 ·have h:¬ (Sum.inl a:Key)=Sum.inl b:=fun q=>e (Sum.inl.inj q)
  rw [decide_eq_false h]
  exact (beq_eq_false_iff_ne.mpr e).symm
theorem key_rr (a b:Str):decide ((Sum.inr a:Key)=Sum.inr b)=decide (a=b):=by
 by_cases e:a=b
 ·subst e; simp
 ·have h:¬ (Sum.inr a:Key)=Sum.inr b:=fun q=>e (Sum.inr.inj q)
  rw [decide_eq_false h,decide_eq_false e]
theorem key_lr (a:Int) (b:Str):decide ((Sum.inl a:Key)=Sum.inr b)=false:=decide_eq_false (fun q=>nomatch q)
theorem key_rl (a:Str) (b:Int):decide ((Sum.inr a:Key)=Sum.inl b)=false:=decide_eq_false (fun q=>nomatch q)
def mixKind (prog:Program) (w:World):PySem.KeyKind prog w Key where
 is:=keyIs
 hash:=keyH w
 inj:=fun v a b ha hb=>by
  rcases keyIs_shape ha with ⟨i,t,rfl,rfl⟩ | ⟨x,t,rfl,rfl⟩
  ·rcases keyIs_shape hb with ⟨j,u,rfl,e⟩ | ⟨y,u,rfl,e⟩
   ·injection e with e1 _; rw [e1]
   ·exact nomatch e
  ·rcases keyIs_shape hb with ⟨j,u,rfl,e⟩ | ⟨y,u,rfl,e⟩
   ·exact nomatch e
   ·injection e with e1 _; rw [e1]
 byValue:=fun k v h=>by
  rcases keyIs_shape h with ⟨i,t,rfl,rfl⟩ | ⟨x,t,rfl,rfl⟩ <;> rfl
 pyHash:=fun hv h=>by
  rcases keyIs_shape hv with ⟨i,t,rfl,rfl⟩ | ⟨x,t,rfl,rfl⟩
  ·exact wpAny_pyHash_int h
  ·exact wpAny_pyHash_str h
 eqBool:=fun hu hv h=>by
  rcases keyIs_shape hu with ⟨i,t,rfl,rfl⟩ | ⟨x,t,rfl,rfl⟩
  ·rcases keyIs_shape hv with ⟨j,u,rfl,rfl⟩ | ⟨y,u,rfl,rfl⟩
   ·rw [key_ll] at h; exact wpAny_eqBool_int h
   ·rw [key_lr] at h; exact SeqAt.EqAt.int_str i t y u _ _ _ _ h
  ·rcases keyIs_shape hv with ⟨j,u,rfl,rfl⟩ | ⟨y,u,rfl,rfl⟩
   ·rw [key_rl] at h; exact SeqAt.EqAt.str_int x t j u _ _ _ _ h
   ·rw [key_rr] at h; exact wpAny_eqBool_str h
 «strs»:=fun k x t v h=>by
  rcases keyIs_shape h with ⟨i,u,rfl,e⟩ | ⟨y,u,rfl,e⟩
  ·exact nomatch e
  ·injection e with e1 _
   subst e1
   cases v <;> rfl
theorem mixKind_int (prog:Program) (w:World) (i:Int) (t:Tok):(mixKind prog w).is (.inl i) (.int i t)=true:=keyIs_int i t
theorem mixKind_str (prog:Program) (w:World) (x:Str) (t:Tok):(mixKind prog w).is (.inr x) (.str x t)=true:=keyIs_str x t
end L2
namespace L2
open PySem PySem.Spec PyProof.Rows
inductive V where
 | non | bl (b:Bool) | int (i:Int) | str (x:Str) | byt (b:Array UInt8) | flt (b:UInt64) | ref (a:Addr) | ty (n:String)
 deriving DecidableEq
def RelV:V->Value->Prop
 | .non,u=>u=Value.none
 | .bl b,u=>u=Value.bool b
 | .int i,u=>∃ t,u=Value.int i t
 | .str x,u=>∃ t,u=Value.str x t
 | .byt b,u=>∃ t,u=Value.bytes b t
 | .flt b,u=>∃ t,u=Value.float b t
 | .ref a,u=>u=Value.ref a
 | .ty n,u=>u=Value.type n
abbrev Vals:List V->List Value->Prop:=Paired RelV
theorem Vals.length {xs:List V} {us:List Value} (r:Vals xs us):xs.length=us.length:=Paired.length r
theorem Vals.get:∀ {xs:List V} {us:List Value} {i:Nat} {x:V},Vals xs us->xs[i]?=some x->∃ u,us[i]?=some u/\RelV x u
 | _,_,_,_,.nil,e=>by simp at e
 | _,_,0,_,.cons r _,e=>by simp at e; subst e; exact ⟨_,rfl,r⟩
 | _,_,i+1,x,.cons _ t,e=>by
  obtain ⟨u,h1,h2⟩:=Vals.get (i:=i) (x:=x) t (by simpa using e)
  exact ⟨u,by simpa using h1,h2⟩
theorem Vals.set {x:V} {u:Value} (r:RelV x u):∀ {xs:List V} {us:List Value} (i:Nat),Vals xs us->Vals (xs.set i x) (us.set i u)
 | _,_,_,.nil=>.nil
 | _,_,0,.cons _ t=>.cons r t
 | _,_,i+1,.cons q t=>.cons q (Vals.set r i t)
theorem Vals.append:∀ {xs ys:List V} {us ws:List Value},Vals xs us->Vals ys ws->Vals (xs++ys) (us++ws)
 | _,_,_,_,.nil,s=>s
 | _,_,_,_,.cons r t,s=>.cons r (Vals.append t s)
theorem Vals.take:∀ {xs:List V} {us:List Value} (n:Nat),Vals xs us->Vals (xs.take n) (us.take n)
 | _,_,0,_=>.nil
 | _,_,_+1,.nil=>.nil
 | _,_,n+1,.cons r t=>.cons r (Vals.take n t)
theorem Vals.drop:∀ {xs:List V} {us:List Value} (n:Nat),Vals xs us->Vals (xs.drop n) (us.drop n)
 | _,_,0,r=>r
 | _,_,_+1,.nil=>.nil
 | _,_,n+1,.cons _ t=>Vals.drop n t
def RelO:Option V->Option Value->Prop
 | some v,some u=>RelV v u
 | none,none=>True
 | _,_=>False
def KV {κ:Type}:List (κ×V)->List (κ×Value)->Prop:=Paired fun (p:κ×V) (q:κ×Value)=>p.1=q.1/\RelV p.2 q.2
def kV:Key->V
 | .inl i=>.int i
 | .inr x=>.str x
inductive HO where
 /-- a list -/
 | lst (xs:List V)
 /-- a tuple (never changes) -/
 | tup (xs:List V)
 /-- a dict whose keys are ints and texts; one whose keys are tuples of ints and texts (the empty one is both) -/
 | dK (kvs:List (Key×V)) | dT (kvs:List (List Key×V))
 /-- a set of ints: its members,its size -/
 | set (S:Int->Bool) (n:Nat)
 /-- an instance of the class at C,its dict at dx,its attributes -/
 | ins (C dx:Addr) (fs:List (Str×V))
 /-- the dict of the instance at x -/
 | own (x:Addr)
 /-- the dict of an exception -/
 | xd (fs:List (Str×V))
 /-- a bound method,f of x -/
 | met (f x:Addr)
 /-- a range object lo,lo+1,.. below hi -/
 | rng (lo hi:Int)
 /-- a thing that is known to the object (the script; a dict while a loop walks it): read,never written while it is so -/
 | frz (o:Obj) (u:HO)
 /-- a code object's table -/
 | tbl (ps:Array Value)
 /-- any other thing,by what is true of its one object (a def of one's own: SetO a S n:=HO.ext fun h=>..) -/
 | ext (φ:Heap->Prop)
abbrev Hp:=Addr->Option HO
def upd (H:Hp) (a:Addr) (o:HO):Hp:=fun b=>if b=a then some o else H b
theorem upd_same {H:Hp} {a:Addr} {o:HO}:upd H a o a=some o:=by unfold upd; rw [if_pos rfl]
theorem upd_ne {H:Hp} {a b:Addr} {o:HO} (h:b≠a):upd H a o b=H b:=by unfold upd; rw [if_neg h]
theorem ne_of {H:Hp} {a b:Addr} {o u:HO} (h:H a=some o) (h':H b=some u) (d:o≠u):a≠b:=by
 intro e; subst e; rw [h] at h'; exact d (Option.some.inj h')
theorem ne_of_none {H:Hp} {a b:Addr} {o:HO} (h:H a=some o) (h':H b=none):a≠b:=by
 intro e; subst e; rw [h] at h'; cases h'
def IsTD (h:Heap) (a:Addr) (items:Array Value):Prop:=∃ o,h.get? a=some o/\o.cls=.type "tuple" /\ (∃ n,o.data=.seq items n)/\o.dict=none
theorem IsTD.is {h:Heap} {a:Addr} {items:Array Value} (x:IsTD h a items):PyProof.Rows.IsTup h a items:=let ⟨o,h1,h2,h3,_⟩:=x; ⟨o,h1,h2,h3⟩
theorem IsTD.lt {h:Heap} {a:Addr} {items:Array Value} (x:IsTD h a items):a < h.objs.size:=let ⟨_,h1,_⟩:=x; Heap.lt_size h1
theorem IsTD.new (h:Heap) (items:Array Value):IsTD (h.push { cls:=.type "tuple",data:=.seq items 0 }) h.objs.size items:=⟨_,Heap.get?_push_size _ rfl,rfl,⟨_,rfl⟩,rfl⟩
section
variable (P:Program) (w:World)
def ObjOk (H:Hp) (h:Heap) (a:Addr):HO->Prop
 | .lst xs=>xs.length<=sizeLine/\∃ (its:List Value) (n:Nat),Vals xs its/\h.get? a=some { cls:=.type "list",data:=.seq its.toArray n }
 | .tup xs=>xs.length<=sizeLine/\∃ its:List Value,Vals xs its/\IsTD h a its.toArray
 | .dK kvs=>kvs.length<=sizeLine/\(a == sysModules)=false/\∃ vs,KV kvs vs/\h.DictOf (mixKind P w) a vs
 | .dT kvs=>kvs.length<=sizeLine/\(a == sysModules)=false/\∃ xs:List (List Key×Addr×Value),
   Paired (fun (p:List Key×V) (q:List Key×Addr×Value)=>p.1=q.1/\H q.2.1=some (.tup (p.1.map kV))/\RelV p.2 q.2.2) kvs xs/\
   ∃ o es ep,h.get? a=some o/\o.ExactDict/\o.data=.dict es ep/\es.toList=xs.map (entryOfKey (tupleKind (mixKind P w)))/\(xs.map (·.1)).Nodup
 | .set S n=>h.SetOf (intKind P w) a S n
 | .ins C dx fs=>H dx=some (.own a)/\fs.length<=1000/\dx≠a/\h.get? a=some (PySem.W.instObj C dx)/\
   ∃ mA,h.Ns1 dx mA/\(∀ f,RelO (fs.lookup f) (mA f))/\PySem.Within mA (fs.map (·.1))
 | .own _=>∃ o,h.get? a=some o
 | .xd fs=>∃ mA,h.Ns1 a mA/\∀ f,RelO (fs.lookup f) (mA f)
 | .rng lo hi=>∃ t u v,h.get? a=some { cls:=.type "range",data:=.fields #[.int lo t,.int hi u,.int 1 v] }
 | .frz o u=>h.get? a=some o/\ObjOk H h a u
 | .tbl ps=>h.get? a=some { cls:=.none,data:=.fields ps }
 | .met f x=>h.get? a=some (PySem.W.methodObj (.ref f) (.ref x))
 | .ext φ=>φ h/\(∃ o,h.get? a=some o)/\∀ h1 h2:Heap,φ h1->(∀ o,h1.get? a=some o->h2.get? a=some o)->φ h2
def HOk (H:Hp) (h:Heap):Prop:=∀ a o,H a=some o->ObjOk P w H h a o
end
section
variable {P:Program} {w:World} {H H':Hp} {h h':Heap} {a:Addr} {o:HO}
theorem ObjOk.lt (x:ObjOk P w H h a o):a < h.objs.size:=by
 cases o with
 | lst xs=>obtain ⟨_,_,_,_,e⟩:=x; exact Heap.lt_size e
 | tup xs=>obtain ⟨_,_,_,p⟩:=x; exact IsTD.lt p
 | dK kvs=>obtain ⟨_,_,_,_,o,_,_,e,_⟩:=x; exact Heap.lt_size e
 | dT kvs=>obtain ⟨_,_,_,_,o,_,_,e,_⟩:=x; exact Heap.lt_size e
 | set S n=>obtain ⟨o,_,_,_,e,_⟩:=x; exact Heap.lt_size e
 | ins C dx fs=>obtain ⟨_,_,_,e,_⟩:=x; exact Heap.lt_size e
 | own y=>obtain ⟨_,e⟩:=x; exact Heap.lt_size e
 | xd fs=>obtain ⟨_,⟨_,_,_,e,_⟩,_⟩:=x; exact Heap.lt_size e
 | rng lo hi=>obtain ⟨_,_,_,e⟩:=x; exact Heap.lt_size e
 | frz ob u=>obtain ⟨e,_⟩:=x; exact Heap.lt_size e
 | tbl ps=>exact Heap.lt_size (show h.get? a=some _ from x)
 | met f y=>exact Heap.lt_size (show h.get? a=some _ from x)
 | ext φ=>obtain ⟨_,⟨_,e⟩,_⟩:=x; exact Heap.lt_size e
theorem Paired.mapP {α β:Type} {F G:α->β->Prop}:∀ {l₁:List α} {l₂:List β},Paired F l₁ l₂->(∀ a b,F a b->G a b)->Paired G l₁ l₂
 | _,_,.nil,_=>.nil
 | _,_,.cons r t,f=>.cons (f _ _ r) (Paired.mapP t f)
theorem ObjOk.stay (x:ObjOk P w H h a o) (k:∀ b u,(b=a\/H b=some (.own a))->h.get? b=some u->h'.get? b=some u)
  (ho:∀ b,H b=some (.own a)->H' b=some (.own a)) (ht:∀ b xs,H b=some (.tup xs)->H' b=some (.tup xs)):ObjOk P w H' h' a o:=by
 induction o with
 | lst xs=>obtain ⟨z,its,n,r,e⟩:=x; exact ⟨z,its,n,r,k _ _ (.inl rfl) e⟩
 | tup xs=>obtain ⟨z,its,r,ob,e,c⟩:=x; exact ⟨z,its,r,ob,k _ _ (.inl rfl) e,c⟩
 | dK kvs=>obtain ⟨z,y,vs,r,ob,es,ep,e,c⟩:=x; exact ⟨z,y,vs,r,ob,es,ep,k _ _ (.inl rfl) e,c⟩
 | dT kvs=>
  obtain ⟨z,y,xs,r,ob,es,ep,e,c⟩:=x
  exact ⟨z,y,xs,Paired.mapP r fun p q z=>⟨z.1,ht _ _ z.2.1,z.2.2⟩,ob,es,ep,k _ _ (.inl rfl) e,c⟩
 | set S n=>obtain ⟨ob,es,ep,t,e,c⟩:=x; exact ⟨ob,es,ep,t,k _ _ (.inl rfl) e,c⟩
 | ins C dx fs=>
  obtain ⟨d,z,ne,e,mA,⟨od,es,ep,e2,c⟩,r⟩:=x
  exact ⟨ho _ d,z,ne,k _ _ (.inl rfl) e,mA,⟨od,es,ep,k _ _ (.inr d) e2,c⟩,r⟩
 | own y=>obtain ⟨ob,e⟩:=x; exact ⟨ob,k _ _ (.inl rfl) e⟩
 | xd fs=>obtain ⟨mA,⟨od,es,ep,e,c⟩,r⟩:=x; exact ⟨mA,⟨od,es,ep,k _ _ (.inl rfl) e,c⟩,r⟩
 | rng lo hi=>obtain ⟨t,u,v,e⟩:=x; exact ⟨t,u,v,k _ _ (.inl rfl) e⟩
 | frz ob u ih=>obtain ⟨e,q⟩:=x; exact ⟨k _ _ (.inl rfl) e,ih q⟩
 | tbl ps=>
  have e:h.get? a=some { cls:=.none,data:=.fields ps }:=x
  show h'.get? a=some { cls:=.none,data:=.fields ps }
  exact k a _ (.inl rfl) e
 | met f y=>
  have e:h.get? a=some (PySem.W.methodObj (.ref f) (.ref y)):=x
  show h'.get? a=some (PySem.W.methodObj (.ref f) (.ref y))
  exact k a _ (.inl rfl) e
 | ext φ=>obtain ⟨p,⟨o,e⟩,st⟩:=x; exact ⟨st _ _ p fun o q=>k _ _ (.inl rfl) q,⟨o,k _ _ (.inl rfl) e⟩,st⟩
theorem HOk.lt (x:HOk P w H h) (e:H a=some o):a < h.objs.size:=(x a o e).lt
theorem HOk.fresh (x:HOk P w H h) (e:h.objs.size<=a):H a=none:=by
 cases q:H a with
 | none=>rfl
 | some u=>exact absurd (Nat.lt_of_lt_of_le (x.lt q) e) (Nat.lt_irrefl _)
theorem HOk.kept (x:HOk P w H h) (k:∀ b u,h.get? b=some u->h'.get? b=some u):HOk P w H h':=fun a o e=>
 (x a o e).stay (fun b u _ q=>k b u q) (fun _ q=>q) fun _ _ q=>q
theorem HOk.laid (x:HOk P w H h) (k:∀ b u,h.get? b=some u->h'.get? b=some u) (hp:h.objs.size<=a) (new:ObjOk P w (upd H a o) h' a o):HOk P w (upd H a o) h':=fun b u e=>by
 have hn:=x.fresh hp
 by_cases hb:b=a
 ·subst hb; rw [upd_same] at e; cases e; exact new
 ·rw [upd_ne hb] at e
  exact (x b u e).stay (fun c v _ q=>k c v q) (fun c q=>by rw [upd_ne (ne_of_none q hn)]; exact q) fun c xs q=>by rw [upd_ne (ne_of_none q hn)]; exact q
end
def Rd (H:Hp) (a:Addr) (u:HO):Prop:=H a=some u\/∃ o,H a=some (.frz o u)
theorem Rd.ok {P:Program} {w:World} {H:Hp} {h:Heap} {a:Addr} {u:HO} (r:Rd H a u) (x:HOk P w H h):ObjOk P w H h a u:=by
 rcases r with r | ⟨o,r⟩
 ·exact x a u r
 ·obtain ⟨_,q⟩:=x a _ r
  exact q
def Mut:Option HO->Prop
 | some (.lst _)=>True
 | some (.dK _)=>True
 | some (.dT _)=>True
 | some (.set _ _)=>True
 | some (.ins _ _ _)=>True
 | some (.ext _)=>True
 | _=>False
section
variable {P:Program} {w:World} {H:Hp} {h h':Heap} {x e:Addr} {o':HO}
theorem HOk.write (ok:HOk P w H h) (mu:Mut (H x)) (he:e=x\/H e=some (.own x)) (k:∀ b u,b≠e->h.get? b=some u->h'.get? b=some u) (heo:∃ u,h'.get? e=some u)
  (new:ObjOk P w (upd H x o') h' x o'):HOk P w (upd H x o') h':=fun b u q=>by
 have nown:∀ c y,H c=some (.own y)->c≠x:=fun c y r z=>by subst z; rw [r] at mu; exact mu
 have ntup:∀ c xs,H c=some (.tup xs)->c≠x:=fun c xs r z=>by subst z; rw [r] at mu; exact mu
 by_cases hb:b=x
 ·subst hb; rw [upd_same] at q; cases q; exact new
 ·rw [upd_ne hb] at q
  by_cases hbe:b=e
  ·have q':H b=some (.own x):=by
    rcases he with z | z
    ·exact absurd (hbe.trans z) hb
    ·rw [hbe]; exact z
   rw [q] at q'; cases q'
   obtain ⟨v,hv⟩:=heo
   exact ⟨v,by rw [hbe]; exact hv⟩
  ·refine (ok b u q).stay (fun c v hc r=>k c v ?_ r) (fun c r=>by rw [upd_ne (nown c b r)]; exact r) fun c xs r=>by rw [upd_ne (ntup c xs r)]; exact r
   rcases hc with rfl | hc
   ·exact hbe
   ·rintro rfl
    rcases he with z | z
    ·exact nown c b hc z
    ·rw [hc] at z; cases z; exact hb rfl
end
structure Un (fs ex:List Addr) (H H':Hp) (h h':Heap):Prop where
 keep:∀ b o,h.get? b=some o->H b=none->b∉fs->b∉ex->h'.get? b=some o
 slot:∀ b o,h.get? b=some o->H b=none->b∈fs->b∉ex->∃ sl,h'.get? b=some { o with slots:=sl }
 free:∀ b o,h.get? b=some o->H b=none->b∉ex->H' b=none
 there:∀ b o,h.get? b=some o->b∉ex->∃ o',h'.get? b=some o'
 tups:∀ b xs,H b=some (.tup xs)->H' b=some (.tup xs)
 frzs:∀ b o u,H b=some (.frz o u)->H' b=some (.frz o u)
 tbls:∀ b ps,H b=some (.tbl ps)->∃ more,H' b=some (.tbl (ps++more))
section
variable {fs fs' ex ex':List Addr} {H H1 H2:Hp} {h h1 h2 h':Heap} {a x e:Addr} {o:HO}
theorem Un.any (u:Un fs ex H H1 h h1) {b:Addr} {ob:Obj} (q:h.get? b=some ob) (n:H b=none) (hx:b∉ex):∃ sl,h1.get? b=some { ob with slots:=sl }:=by
 by_cases hb:b∈fs
 ·exact u.slot b ob q n hb hx
 ·exact ⟨ob.slots,u.keep b ob q n hb hx⟩
theorem Un.kept (k:∀ b u,h.get? b=some u->h'.get? b=some u):Un fs ex H H h h':=
 ⟨fun b ob q _ _ _=>k b ob q,fun b ob q _ _ _=>⟨ob.slots,k b ob q⟩,fun _ _ _ n _=>n,fun b ob q _=>⟨ob,k b ob q⟩,fun _ _ q=>q,fun _ _ _ q=>q,fun _ ps q=>⟨#[],by rw [q]; simp⟩⟩
theorem Un.refl:Un fs ex H H h h:=Un.kept fun _ _ q=>q
theorem Un.laid (k:∀ b u,h.get? b=some u->h'.get? b=some u) (hp:h.objs.size<=a) (hn:H a=none):Un fs ex H (upd H a o) h h' where
 keep:=fun b u q _ _ _=>k b u q
 slot:=fun b u q _ _ _=>⟨u.slots,k b u q⟩
 free:=fun b u q n _=>by rw [upd_ne (Nat.ne_of_lt (Nat.lt_of_lt_of_le (Heap.lt_size q) hp))]; exact n
 there:=fun b u q _=>⟨u,k b u q⟩
 tups:=fun b xs q=>by rw [upd_ne (ne_of_none q hn)]; exact q
 frzs:=fun b u xs q=>by rw [upd_ne (ne_of_none q hn)]; exact q
 tbls:=fun b ps q=>⟨#[],by rw [upd_ne (ne_of_none q hn),q]; simp⟩
theorem Un.write (mu:Mut (H x)) (he:e=x\/H e=some (.own x)) (k:∀ b u,b≠e->h.get? b=some u->h'.get? b=some u) (heo:∃ u,h'.get? e=some u):Un fs ex H (upd H x o) h h':=by
 have hx:∀ b,H b=none->b≠x:=fun b n z=>by subst z; rw [n] at mu; exact mu
 have hb:∀ b,H b=none->b≠e:=fun b n z=>by
  subst z
  rcases he with r | r
  ·exact hx b n r
  ·rw [n] at r; cases r
 have hm:∀ b u,H b=some u->¬ Mut (some u)->b≠x:=fun b u q nm z=>by subst z; rw [q] at mu; exact nm mu
 refine ⟨fun b u q n _ _=>k b u (hb b n) q,fun b u q n _ _=>⟨u.slots,k b u (hb b n) q⟩,fun b u q n _=>by rw [upd_ne (hx b n)]; exact n,fun b u q _=>?_,
  fun b xs q=>by rw [upd_ne (hm b _ q fun z=>z)]; exact q,fun b u xs q=>by rw [upd_ne (hm b _ q fun z=>z)]; exact q,fun b ps q=>⟨#[],by rw [upd_ne (hm b _ q fun z=>z),q]; simp⟩⟩
 by_cases hbe:b=e
 ·subst hbe; exact heo
 ·exact ⟨u,k b u hbe q⟩
end
def trk (h:Heap) (H:Hp):List Addr:=(List.range h.objs.size).filter fun a=>(H a).isSome
def hidT (h:Heap) (H:Hp):Heap:=PySem.W.hideAll h (trk h H)
theorem hidT_size (h:Heap) (H:Hp):(hidT h H).objs.size=h.objs.size:=PySem.W.hideAll_size _ _
theorem hidT_get {h:Heap} {H:Hp} {b:Addr} {o:Obj} (e:h.get? b=some o) (n:H b=none):(hidT h H).get? b=some o:=
 PySem.W.hideAll_get _ e fun hm=>by
  have q:(H b).isSome=true:=(List.mem_filter.mp hm).2
  rw [n] at q; simp at q
theorem of_hidT {h:Heap} {H:Hp} {b:Addr} {o:Obj} (e:(hidT h H).get? b=some o):h.get? b=some o/\H b=none:=by
 have e':h.get? b=some o:=PySem.W.of_hideAll (trk h H) e
 refine ⟨e',?_⟩
 cases q:H b with
 | none=>rfl
 | some x=>
  have hm:b∈trk h H:=List.mem_filter.mpr ⟨List.mem_range.mpr (Heap.lt_size e'),by simp [q]⟩
  have z:(hidT h H).get? b=none:=PySem.W.hideAll_none (trk h H) hm
  rw [z] at e; cases e
def allNews (g h:Heap) (L:Addr):List (Addr×Obj):=(List.range h.objs.size).filterMap fun a=>if a=L\/(g.get? a).isSome=true then none else (h.get? a).map fun o=>(a,o)
def rest (g h:Heap) (L d:Addr):List (Addr×Obj):=(allNews g h L).filter fun p=>decide (p.1≠d)
end L2
namespace L2
open PySem PySem.Spec PyProof.Rows
structure Mod (K:PySem.W.Frag) (mg:Str->Option Value) (base:Heap):Prop where
 kin:K.In base
 glob:base.Ns mainGlobals mg
 blt:∃ mb,base.Ns builtinsNs mb/\∀ x:Str,x≠"__name__" -> mb x=bootBuiltins x
 nolimit:base.NoLimit
structure Cx where
 prog:Program
 w:World
 K:PySem.W.Frag
 mg:Str->Option Value
 base:Heap
 A:Around
 N:List Str
 s₀:Shared
 H₀:Hp
 env:Env
 outer:List Env
 stack:List Env
 ex:List Addr
 fn:Str->Bool
 calm:Bool
 pn:List (Addr×Obj)
 xe:Value->Shared->Prop
def frs (l:List Env):List Addr:=l.filterMap (·.frame)
abbrev Cx.fs (X:Cx):List Addr:=frs X.outer
def Vis (sc:Scope) (x:Str):Prop:=sc.names.lookup x=some .local\/sc.names.lookup x=some .cell\/sc.names.lookup x=some .free
def Loc (sc:Scope) (x:Str):Prop:=sc.names.lookup x=some .local\/sc.names.lookup x=some .cell
def Look (env:Env) (h:Heap) (m:Str->Option Value) (x:Str) (u:Value):Prop:=
 (env.kindOf x=some .local/\m x=some u)\/((env.kindOf x=some .cell\/env.kindOf x=some .free)/\∃ c,env.cells.lookup x=some c/\h.IsCell c (some u))
structure Cx.Ok (X:Cx):Prop where
 mod:Mod X.K X.mg X.base
 kind:X.env.scope.kind=.function
 glob:X.env.globals=mainGlobals
 blt:X.env.builtins=builtinsNs
 above:X.s₀.heap.objs.size<=X.env.locals
 inj:∀ x y c,X.env.cells.lookup x=some c->X.env.cells.lookup y=some c->x=y
 has:∀ x,(X.env.kindOf x=some .cell\/X.env.kindOf x=some .free)->∃ c,X.env.cells.lookup x=some c
 cab:∀ x c,X.fn x=true->X.env.cells.lookup x=some c->X.s₀.heap.objs.size<=c
 hd:X.calm=true->X.A.handled=none
 frames:X.A.frames=some X.stack
 stk:X.stack=X.outer\/(X.stack=X.env :: X.outer/\X.env.frame=some X.env.locals)
 exf:∀ b∈X.ex,b≠X.env.locals/\∀ x c,X.env.cells.lookup x=some c->c≠b
 bs:∀ b o,X.base.get? b=some o->X.s₀.heap.get? b=some o/\X.H₀ b=none
 bsz:X.base.objs.size<=X.s₀.heap.objs.size
 noex:∀ b o,X.base.get? b=some o->b∉X.ex
 exfs:∀ b∈X.ex,b∉X.fs
 funs:X.s₀.heap.FunFrames X.base X.outer
 frf:∀ b∈X.fs,X.H₀ b=none
structure Inv (X:Cx) (pins:List (Addr×Obj)) (σ:List (Option V)) (H:Hp) (s:Shared):Prop where
 ok:X.Ok
 os:s.os=X.s₀.os
 bare:AllBare s.gens
 base:Un X.fs X.ex X.H₀ H X.s₀.heap s.heap
 loc:∃ m,s.heap.Ns X.env.locals m/\∀ (i:Nat) (x:Str) (v:V),X.N[i]?=some x->σ[i]?=some (some v)->Vis X.env.scope x->∃ u,RelV v u/\Look X.env s.heap m x u
 cell:∀ x c,X.env.cells.lookup x=some c->∃ v,s.heap.IsCell c v
 free:H X.env.locals=none
 freeC:∀ x c,X.env.cells.lookup x=some c->H c=none
 pin:∀ p∈X.pn++pins,s.heap.get? p.1=some p.2/\H p.1=none/\p.1≠X.env.locals/\p.1∉X.fs/\∀ v,p.2.data≠.cell v
 hok:HOk X.prog X.w H s.heap
 len:σ.length=X.N.length
section
variable {X:Cx} {pins:List (Addr×Obj)} {σ:List (Option V)} {H H':Hp} {s:Shared} {h':Heap}
theorem Cx.Ok.nofr (ok:X.Ok) {b:Addr} {o:Obj} (e:X.base.get? b=some o):b∉X.fs:=fun hb=>by
 have:=(ok.funs.mem hb).1
 rw [e] at this; cases this
theorem Inv.bs (I:Inv X pins σ H s):∀ b o,X.base.get? b=some o->s.heap.get? b=some o/\H b=none:=fun b o e=>
 ⟨I.base.keep b o (I.ok.bs b o e).1 (I.ok.bs b o e).2 (I.ok.nofr e) (I.ok.noex b o e),I.base.free b o (I.ok.bs b o e).1 (I.ok.bs b o e).2 (I.ok.noex b o e)⟩
theorem Inv.bk (I:Inv X pins σ H s):∀ b o,X.base.get? b=some o->s.heap.get? b=some o:=fun b o e=>(I.bs b o e).1
theorem Inv.mod (I:Inv X pins σ H s):Mod X.K X.mg X.base:=I.ok.mod
theorem Inv.kIn (I:Inv X pins σ H s):X.K.In s.heap:=I.ok.mod.kin.keeps I.bk
theorem Inv.lt (I:Inv X pins σ H s):X.env.locals < s.heap.objs.size:=let ⟨_,hn,_⟩:=I.loc; hn.lt
theorem Inv.sz (I:Inv X pins σ H s):X.s₀.heap.objs.size<=s.heap.objs.size:=Nat.le_trans I.ok.above (Nat.le_of_lt I.lt)
theorem Inv.nofs (I:Inv X pins σ H s) {a:Addr} (h:s.heap.objs.size<=a):a∉X.fs:=fun hb=>by
 obtain ⟨_,o,ho,_⟩:=I.ok.funs.mem hb
 exact absurd (Nat.lt_of_lt_of_le (Heap.lt_size ho) (Nat.le_trans I.sz h)) (Nat.lt_irrefl _)
theorem Inv.cne (I:Inv X pins σ H s):∀ x c,X.env.cells.lookup x=some c->c≠X.env.locals:=fun x c e z=>by
 obtain ⟨v,o,ho,hd⟩:=I.cell x c e
 obtain ⟨m,⟨o',es,ep,ho',hd',_⟩,_⟩:=I.loc
 rw [z,ho'] at ho; cases ho; rw [hd'] at hd; cases hd
theorem Inv.funs (I:Inv X pins σ H s):s.heap.FunFrames X.base X.outer:=by
 have all:∀ (l:List Env),(∀ b∈frs l,b∈X.fs)->X.s₀.heap.FunFrames X.base l->s.heap.FunFrames X.base l:=by
  intro l
  induction l with
  | nil=>intro _ _; trivial
  | cons env r ih=>
   intro hs hl
   obtain ⟨hk,⟨L,o,hf,hn,ho,hd⟩,hr⟩:=hl
   have hL:L∈X.fs:=hs L (by unfold frs; rw [List.filterMap_cons,hf]; exact List.mem_cons_self)
   obtain ⟨sl,e⟩:=I.base.slot L o ho (I.ok.frf L hL) hL fun z=>I.ok.exfs L z hL
   exact ⟨hk,⟨L,_,hf,hn,e,hd⟩,ih (fun b hb=>hs b (by unfold frs; rw [List.filterMap_cons,hf]; exact List.mem_cons_of_mem _ hb)) hr⟩
 exact all X.outer (fun _ hb=>hb) I.ok.funs
theorem Inv.stack (I:Inv X pins σ H s):s.heap.FunFrames X.base X.stack:=by
 rcases I.ok.stk with e | ⟨e,hf⟩
 ·rw [e]; exact I.funs
 ·rw [e]
  obtain ⟨m,hn,_⟩:=I.loc
  refine .cons (by rw [I.ok.kind]; decide) hf hn ?_ I.funs
  exact Heap.get?_none_of_le (Nat.le_trans I.ok.bsz I.ok.above)
theorem Inv.stkSub (I:Inv X pins σ H s):∀ b∈frs X.stack,b∈X.env.locals :: X.fs:=fun b hb=>by
 rcases I.ok.stk with e | ⟨e,hf⟩
 ·rw [e] at hb; exact List.mem_cons_of_mem _ hb
 ·rw [e] at hb
  unfold frs at hb
  rw [List.filterMap_cons,hf] at hb
  exact hb
theorem Inv.stkFree (I:Inv X pins σ H s):∀ b∈frs X.stack,H b=none:=fun b hb=>by
 rcases List.mem_cons.mp (I.stkSub b hb) with e | hb
 ·rw [e]; exact I.free
 ·obtain ⟨_,o,ho,_⟩:=I.ok.funs.mem hb
  exact I.base.free b o ho (I.ok.frf b hb) fun z=>I.ok.exfs b z hb
theorem Inv.step {g':Array GenState} {t':Nat} {d':Drawn} {ch:List Addr} (I:Inv X pins σ H s)
  (hch:∀ b∈ch,(b∈X.ex\/X.s₀.heap.objs.size<=b)/\b≠X.env.locals/\(∀ x c,X.env.cells.lookup x=some c->c≠b)/\∀ p∈X.pn++pins,p.1≠b)
  (keep:∀ b o,b≠X.env.locals->b∉X.fs->b∉ch->s.heap.get? b=some o->H b=none->h'.get? b=some o)
  (slot:∀ b o,b≠X.env.locals->b∈X.fs->b∉ch->s.heap.get? b=some o->H b=none->∃ sl,h'.get? b=some { o with slots:=sl }) (free:∀ b o,b∉ch->s.heap.get? b=some o->H b=none->H' b=none)
  (there:∀ b o,b∉ch->s.heap.get? b=some o->∃ o',h'.get? b=some o')
  (tups:∀ b xs,H b=some (.tup xs)->H' b=some (.tup xs)) (frzs:∀ b o u,H b=some (.frz o u)->H' b=some (.frz o u)) (tbls:∀ b ps,H b=some (.tbl ps)->∃ more,H' b=some (.tbl (ps++more)))
  (ns:∀ m,s.heap.Ns X.env.locals m->h'.Ns X.env.locals m) (hok:HOk X.prog X.w H' h') (hg:AllBare g'):
  Inv X pins σ H' { s with heap:=h',gens:=g',drawn:=d',toks:=t' }:=by
 have neL:∀ b o,X.s₀.heap.get? b=some o->b≠X.env.locals:=fun b o e=>Nat.ne_of_lt (Nat.lt_of_lt_of_le (Heap.lt_size e) I.ok.above)
 have neC:∀ b o,X.s₀.heap.get? b=some o->b∉X.ex->b∉ch:=fun b o e hx hb=>by
  rcases (hch b hb).1 with z | z
  ·exact hx z
  ·exact absurd (Nat.lt_of_lt_of_le (Heap.lt_size e) z) (Nat.lt_irrefl _)
 have cellK:∀ x c,X.env.cells.lookup x=some c->∀ v,s.heap.IsCell c v->h'.IsCell c v:=fun x c e v ⟨o,ho,hd⟩=>by
  have nch:c∉ch:=fun z=>(hch c z).2.2.1 x c e rfl
  by_cases hc:c∈X.fs
  ·obtain ⟨sl,q⟩:=slot c o (I.cne x c e) hc nch ho (I.freeC x c e)
   exact ⟨_,q,hd⟩
  ·exact ⟨o,keep c o (I.cne x c e) hc nch ho (I.freeC x c e),hd⟩
 refine ⟨I.ok,I.os,hg,⟨fun b o e n hb hx=>?_,fun b o e n hb hx=>?_,fun b o e n hx=>?_,fun b o e hx=>?_,fun b xs e=>tups b xs (I.base.tups b xs e),fun b o xs e=>frzs b o xs (I.base.frzs b o xs e),fun b ps e=>?_⟩,?_,fun x c e=>?_,?_,fun x c e=>?_,fun p hp=>?_,hok,I.len⟩
 ·exact keep b o (neL b o e) hb (neC b o e hx) (I.base.keep b o e n hb hx) (I.base.free b o e n hx)
 ·obtain ⟨sl,e1⟩:=I.base.slot b o e n hb hx
  obtain ⟨sl',e2⟩:=slot b _ (neL b o e) hb (neC b o e hx) e1 (I.base.free b o e n hx)
  exact ⟨sl',e2⟩
 ·obtain ⟨o',e1⟩:=I.base.there b o e hx
  exact free b o' (neC b o e hx) e1 (I.base.free b o e n hx)
 ·obtain ⟨o',e1⟩:=I.base.there b o e hx
  exact there b o' (neC b o e hx) e1
 ·obtain ⟨m1,e1⟩:=I.base.tbls b ps e
  obtain ⟨m2,e2⟩:=tbls b _ e1
  exact ⟨m1++m2,by rw [e2,Array.append_assoc]⟩
 ·obtain ⟨m,hn,hl⟩:=I.loc
  refine ⟨m,ns m hn,fun i x v e1 e2 e3=>?_⟩
  obtain ⟨u,r,l⟩:=hl i x v e1 e2 e3
  refine ⟨u,r,?_⟩
  rcases l with l | ⟨k,c,e,z⟩
  ·exact .inl l
  ·exact .inr ⟨k,c,e,cellK x c e _ z⟩
 ·obtain ⟨v,z⟩:=I.cell x c e
  exact ⟨v,cellK x c e v z⟩
 ·obtain ⟨m,⟨o,_,_,ho,_⟩,_⟩:=I.loc
  exact free _ o (fun z=>(hch _ z).2.1 rfl) ho I.free
 ·obtain ⟨v,o,ho,hd⟩:=I.cell x c e
  exact free c o (fun z=>(hch c z).2.2.1 x c e rfl) ho (I.freeC x c e)
 ·obtain ⟨e,n,ne,nf,d⟩:=I.pin p hp
  have nch:p.1∉ch:=fun z=>(hch p.1 z).2.2.2 p hp rfl
  exact ⟨keep p.1 p.2 ne nf nch e n,free p.1 p.2 nch e n,ne,nf,d⟩
theorem Inv.un {t':Nat} (I:Inv X pins σ H s) (u:Un X.fs [] H H' s.heap h') (hok:HOk X.prog X.w H' h'):Inv X pins σ H' { s with heap:=h',toks:=t' }:=by
 obtain ⟨m,⟨o,es,ep,ho,r⟩,_⟩:=id I.loc
 obtain ⟨sl,hL⟩:=u.any ho I.free (by simp)
 exact I.step (g':=s.gens) (d':=s.drawn) (ch:=[]) (fun _ z=>nomatch z) (fun b o _ hb _ e n=>u.keep b o e n hb (by simp)) (fun b o _ hb _ e n=>u.slot b o e n hb (by simp)) (fun b o _ e n=>u.free b o e n (by simp)) (fun b o _ e=>u.there b o e (by simp)) u.tups u.frzs u.tbls (fun m' hm=>by
  obtain ⟨o',es',ep',ho',r'⟩:=hm
  rw [ho] at ho'; cases ho'
  exact ⟨_,es',ep',hL,r'⟩) hok I.bare
theorem Inv.call {g':Array GenState} {t':Nat} {d':Drawn} {ch:List Addr} (I:Inv X pins σ H s) (u:Un (frs X.stack) ch H H' s.heap h') (hok:HOk X.prog X.w H' h') (hg:AllBare g')
  (hch:∀ b∈ch,(b∈X.ex\/X.s₀.heap.objs.size<=b)/\b≠X.env.locals/\(∀ x c,X.env.cells.lookup x=some c->c≠b)/\∀ p∈X.pn++pins,p.1≠b):
  Inv X pins σ H' { s with heap:=h',gens:=g',drawn:=d',toks:=t' }:=by
 obtain ⟨m,⟨o,es,ep,ho,r⟩,_⟩:=id I.loc
 obtain ⟨sl,hL⟩:=u.any ho I.free fun z=>(hch _ z).2.1 rfl
 exact I.step (ch:=ch) hch (fun b o hL hb hc e n=>u.keep b o e n (fun z=>(List.mem_cons.mp (I.stkSub b z)).elim hL hb) hc) (fun b o _ _ hc e n=>u.any e n hc) (fun b o hc e n=>u.free b o e n hc) (fun b o hc e=>u.there b o e hc) u.tups u.frzs u.tbls (fun m' hm=>by
  obtain ⟨o',es',ep',ho',r'⟩:=hm
  rw [ho] at ho'; cases ho'
  exact ⟨_,es',ep',hL,r'⟩) hok hg
theorem Inv.turned {t':Nat} {it:Addr} (I:Inv X pins σ H s) (k:∀ b o,b≠it->s.heap.get? b=some o->h'.get? b=some o) (hn:H it=none) (hL:it≠X.env.locals)
  (h1:it∈X.ex\/X.s₀.heap.objs.size<=it) (h2:∀ x c,X.env.cells.lookup x=some c->c≠it) (h3:∀ p∈X.pn++pins,p.1≠it):Inv X pins σ H { s with heap:=h',toks:=t' }:=by
 have nit:∀ b u,H b=some u->b≠it:=fun b u e z=>by rw [z,hn] at e; cases e
 refine I.step (g':=s.gens) (d':=s.drawn) (ch:=[it]) (fun b hb=>?_) (fun b o _ _ hc e _=>k b o (fun z=>hc (by simp [z])) e) (fun b o _ _ hc e _=>⟨o.slots,k b o (fun z=>hc (by simp [z])) e⟩) (fun _ _ _ _ n=>n)
  (fun b o hc e=>⟨o,k b o (fun z=>hc (by simp [z])) e⟩) (fun _ _ e=>e) (fun _ _ _ e=>e) (fun b ps e=>⟨#[],by rw [e]; simp⟩) (fun m hm=>?_) (fun b u e=>?_) I.bare
 ·have e:b=it:=by simpa using hb
  subst e
  exact ⟨h1,hL,h2,h3⟩
 ·obtain ⟨o,es,ep,ho,r⟩:=hm
  exact ⟨o,es,ep,k _ o (Ne.symm hL) ho,r⟩
 ·refine (I.hok b u e).stay (fun c v hc q=>k c v ?_ q) (fun _ q=>q) fun _ _ q=>q
  rcases hc with z | z
  ·rw [z]; exact nit b u e
  ·exact nit c _ z
theorem Inv.tok (I:Inv X pins σ H s) (t:Nat):Inv X pins σ H { s with toks:=t }:=I.un (h':=s.heap) (t':=t) Un.refl I.hok
theorem Inv.kept {t':Nat} (I:Inv X pins σ H s) (k:∀ b u,s.heap.get? b=some u->h'.get? b=some u):Inv X pins σ H { s with heap:=h',toks:=t' }:=I.un (Un.kept k) (I.hok.kept k)
theorem Inv.laid {a:Addr} {o:HO} {t':Nat} (I:Inv X pins σ H s) (k:∀ b u,s.heap.get? b=some u->h'.get? b=some u) (hp:s.heap.objs.size<=a) (new:ObjOk X.prog X.w (upd H a o) h' a o):
  Inv X pins σ (upd H a o) { s with heap:=h',toks:=t' }:=I.un (Un.laid k hp (I.hok.fresh hp)) (I.hok.laid k hp new)
theorem Inv.write {x e:Addr} {o:HO} {t':Nat} (I:Inv X pins σ H s) (mu:Mut (H x)) (he:e=x\/H e=some (.own x)) (k:∀ b u,b≠e->s.heap.get? b=some u->h'.get? b=some u) (heo:∃ u,h'.get? e=some u)
  (new:ObjOk X.prog X.w (upd H x o) h' x o):Inv X pins σ (upd H x o) { s with heap:=h',toks:=t' }:=I.un (Un.write mu he k heo) (I.hok.write mu he k heo new)
theorem Inv.pins_of {pins':List (Addr×Obj)} (I:Inv X pins σ H s) (h:∀ p∈pins',s.heap.get? p.1=some p.2/\H p.1=none/\p.1≠X.env.locals/\p.1∉X.fs/\∀ v,p.2.data≠.cell v):Inv X pins' σ H s:=
 ⟨I.ok,I.os,I.bare,I.base,I.loc,I.cell,I.free,I.freeC,fun p hp=>(List.mem_append.mp hp).elim (fun z=>I.pin p (List.mem_append_left _ z)) (h p),I.hok,I.len⟩
theorem nodup_ix {N:List Str} (hN:N.Nodup) {i j:Nat} {x:Str} (a:N[i]?=some x) (b:N[j]?=some x):i=j:=by
 obtain ⟨h1,e1⟩:=List.getElem?_eq_some_iff.mp a
 obtain ⟨h2,e2⟩:=List.getElem?_eq_some_iff.mp b
 exact (List.getElem_inj hN).mp (e1.trans e2.symm)
theorem store_ok2 {M:Model} {A:Around} {E:Value->Shared->Prop} {i:Nat} {x:Str} {v:V} {u:Value} {Q:Unit->Shared->Prop} (I:Inv X pins σ H s) (hN:X.N.Nodup) (hi:X.N[i]?=some x) (hx:Loc X.env.scope x) (r:RelV v u)
  (h:∀ s',Inv X pins (σ.set i (some v)) H s'->(∃ a,Heap.SameBut a s.heap s'.heap/\(a=X.env.locals\/X.env.cells.lookup x=some a))->Q () s') (hf:X.fn x=true\/X.env.scope.names.lookup x=some .local:=by first | exact .inl rfl | exact .inr rfl | assumption):wpAny M A (storeName X.env x u) Q E s:=by
 obtain ⟨m,hn,hl⟩:=id I.loc
 have hcls:(X.env.scope.kind == .class || (X.env.scope.kind == .module && X.env.locals != X.env.globals))=false:=by rw [I.ok.kind]; rfl
 have hiσ:i < σ.length:=by rw [I.len]; exact (List.getElem?_eq_some_iff.mp hi).1
 have cne:=I.cne
 have tracked:∀ {a:Addr} {h':Heap},(∃ o,s.heap.get? a=some o/\H a=none)->Heap.SameBut a s.heap h'->HOk X.prog X.w H h':=fun {a h'} ha hs b ob e=>by
  obtain ⟨_,_,hfree⟩:=ha
  refine (I.hok b ob e).stay (fun c w' hc q=>(hs.2 c ?_).trans q) (fun _ q=>q) fun _ _ q=>q
  rintro rfl
  rcases hc with rfl | hc
  ·rw [hfree] at e; cases e
  ·rw [hfree] at hc; cases hc
 rcases hx with hk | hk
 ·refine wpAny_storeName_local hk hn (fun h' hn' hs=>?_) hcls
  obtain ⟨oL,_,_,hoL,_⟩:=id hn
  refine h _ ⟨I.ok,I.os,I.bare,⟨fun b o e n hb hx=>?_,fun b o e n hb hx=>?_,I.base.free,fun b o e hx=>?_,I.base.tups,I.base.frzs,I.base.tbls⟩,⟨_,hn',fun j y v' e1 e2 e3=>?_⟩,fun y c e=>?_,I.free,I.freeC,fun p hp=>?_,tracked ⟨oL,hoL,I.free⟩ hs,by simpa using I.len⟩ ⟨_,hs,.inl rfl⟩
  ·exact (hs.2 b (Nat.ne_of_lt (Nat.lt_of_lt_of_le (Heap.lt_size e) I.ok.above))).trans (I.base.keep b o e n hb hx)
  ·obtain ⟨sl,e1⟩:=I.base.slot b o e n hb hx
   exact ⟨sl,(hs.2 b (Nat.ne_of_lt (Nat.lt_of_lt_of_le (Heap.lt_size e) I.ok.above))).trans e1⟩
  ·obtain ⟨o',e1⟩:=I.base.there b o e hx
   exact ⟨o',(hs.2 b (Nat.ne_of_lt (Nat.lt_of_lt_of_le (Heap.lt_size e) I.ok.above))).trans e1⟩
  ·by_cases hj:j=i
   ·subst hj
    rw [hi] at e1; cases e1
    rw [List.getElem?_set_self hiσ] at e2
    cases e2
    exact ⟨u,r,.inl ⟨hk,by simp⟩⟩
   ·rw [List.getElem?_set_ne (Ne.symm hj)] at e2
    obtain ⟨u',r',q⟩:=hl j y v' e1 e2 e3
    refine ⟨u',r',?_⟩
    rcases q with ⟨k,e⟩ | ⟨k,c,e,z⟩
    ·refine .inl ⟨k,?_⟩
     have:y≠x:=fun e=>hj (nodup_ix hN e1 (e ▸ hi))
     simp [this,e]
    ·exact .inr ⟨k,c,e,z.sameBut hs (cne y c e)⟩
  ·obtain ⟨w',z⟩:=I.cell y c e
   exact ⟨w',z.sameBut hs (cne y c e)⟩
  ·obtain ⟨e,n,ne,nf,d⟩:=I.pin p hp
   exact ⟨(hs.2 p.1 ne).trans e,n,ne,nf,d⟩
 ·have hfn:X.fn x=true:=by
   rcases hf with z | z
   ·exact z
   ·rw [z] at hk; cases hk
  obtain ⟨c,hc⟩:=I.ok.has x (.inl hk)
  obtain ⟨w',z⟩:=I.cell x c hc
  refine wpAny_storeName_cell I.ok.kind hk hc z (fun h' hc' hs=>?_)
  obtain ⟨oc,hoc,hocd⟩:=id z
  refine h { s with heap:=h' } ⟨I.ok,I.os,I.bare,⟨fun b o e n hb hx=>?_,fun b o e n hb hx=>?_,I.base.free,fun b o e hx=>?_,I.base.tups,I.base.frzs,I.base.tbls⟩,⟨m,hn.sameBut hs (Ne.symm (cne x c hc)),fun j y v' e1 e2 e3=>?_⟩,fun y c' e=>?_,I.free,I.freeC,fun p hp=>?_,tracked ⟨oc,hoc,I.freeC x c hc⟩ hs,by simpa using I.len⟩ ⟨c,hs,.inr hc⟩
  ·exact (hs.2 b (Nat.ne_of_lt (Nat.lt_of_lt_of_le (Heap.lt_size e) (I.ok.cab x c hfn hc)))).trans (I.base.keep b o e n hb hx)
  ·obtain ⟨sl,e1⟩:=I.base.slot b o e n hb hx
   exact ⟨sl,(hs.2 b (Nat.ne_of_lt (Nat.lt_of_lt_of_le (Heap.lt_size e) (I.ok.cab x c hfn hc)))).trans e1⟩
  ·obtain ⟨o',e1⟩:=I.base.there b o e hx
   exact ⟨o',(hs.2 b (Nat.ne_of_lt (Nat.lt_of_lt_of_le (Heap.lt_size e) (I.ok.cab x c hfn hc)))).trans e1⟩
  ·by_cases hj:j=i
   ·subst hj
    rw [hi] at e1; cases e1
    rw [List.getElem?_set_self hiσ] at e2
    cases e2
    exact ⟨u,r,.inr ⟨.inl hk,c,hc,hc'⟩⟩
   ·rw [List.getElem?_set_ne (Ne.symm hj)] at e2
    obtain ⟨u',r',q⟩:=hl j y v' e1 e2 e3
    refine ⟨u',r',?_⟩
    rcases q with q | ⟨k,c',e,z'⟩
    ·exact .inl q
    ·refine .inr ⟨k,c',e,z'.sameBut hs ?_⟩
     rintro rfl
     exact hj (nodup_ix hN e1 (I.ok.inj _ _ _ e hc ▸ hi))
  ·by_cases hcc:c'=c
   ·subst hcc; exact ⟨_,hc'⟩
   ·obtain ⟨w2,z2⟩:=I.cell y c' e
    exact ⟨w2,z2.sameBut hs hcc⟩
  ·obtain ⟨e,n,ne,nf,d⟩:=I.pin p hp
   refine ⟨(hs.2 p.1 ?_).trans e,n,ne,nf,d⟩
   intro q
   rw [q,hoc] at e
   have q':oc=p.2:=Option.some.inj e
   exact d w' (by rw [<- q']; exact hocd)
theorem store_ok {M:Model} {A:Around} {E:Value->Shared->Prop} {i:Nat} {x:Str} {v:V} {u:Value} {Q:Unit->Shared->Prop} (I:Inv X pins σ H s) (hN:X.N.Nodup) (hi:X.N[i]?=some x) (hx:Loc X.env.scope x) (r:RelV v u)
  (h:∀ s',Inv X pins (σ.set i (some v)) H s'->Q () s') (hf:X.fn x=true\/X.env.scope.names.lookup x=some .local:=by first | exact .inl rfl | exact .inr rfl | assumption):wpAny M A (storeName X.env x u) Q E s:=
 store_ok2 I hN hi hx r (fun s' I' _=>h s' I') hf
theorem Inv.call' {s':Shared} {ch:List Addr} (I:Inv X pins σ H s) (ho:s'.os=s.os) (u:Un (frs X.stack) ch H H' s.heap s'.heap) (hok:HOk X.prog X.w H' s'.heap) (hg:AllBare s'.gens)
  (hch:∀ b∈ch,(b∈X.ex\/X.s₀.heap.objs.size<=b)/\b≠X.env.locals/\(∀ x c,X.env.cells.lookup x=some c->c≠b)/\∀ p∈X.pn++pins,p.1≠b):Inv X pins σ H' s':=by
 obtain ⟨h',g',d',t',o'⟩:=s'
 have e:o'=s.os:=ho
 subst e
 exact I.call (g':=g') (t':=t') (d':=d') u hok hg hch
end
abbrev XK:=Value->Option Addr->Hp->Prop
abbrev St:=List (Option V)
abbrev VK:=V->Hp->Prop
abbrev TE:=St->Hp->VK->Prop
abbrev TT:=St->Hp->(Bool->Hp->Prop)->Prop
abbrev TA:=St->Hp->(List V->Hp->Prop)->Prop
structure Ends where
 nx:St->Hp->Prop
 rt:VK
 bk:St->Hp->Prop:=fun _ _=>False
 ct:St->Hp->Prop:=fun _ _=>False
abbrev TS:=Ends->St->Hp->Prop
def EP (X:Cx) (pins:List (Addr×Obj)) (σ:St) (Q:VK) (u:Value) (s':Shared):Prop:=∃ v H',Inv X pins σ H' s'/\RelV v u/\Q v H'
def TP (X:Cx) (pins:List (Addr×Obj)) (σ:St) (Q:Bool->Hp->Prop) (b:Bool) (s':Shared):Prop:=∃ H',Inv X pins σ H' s'/\Q b H'
def AP (X:Cx) (pins:List (Addr×Obj)) (σ:St) (Q:List V->Hp->Prop) (us:List Value) (s':Shared):Prop:=∃ vs H',Inv X pins σ H' s'/\Vals vs us/\Q vs H'
def SP (X:Cx) (pins:List (Addr×Obj)) (D:Ends) (f:Flow) (s':Shared):Prop:=
 match f with
 | .next=>∃ σ' H',Inv X pins σ' H' s'/\D.nx σ' H'
 | .brk=>∃ σ' H',Inv X pins σ' H' s'/\D.bk σ' H'
 | .cont=>∃ σ' H',Inv X pins σ' H' s'/\D.ct σ' H'
 | .ret u=>∃ v σ' H',Inv X pins σ' H' s'/\RelV v u/\D.rt v H'
def PE (X:Cx) (e:Expr) (t:TE):Prop:=
 ∀ (pins:List (Addr×Obj)) (s:Shared) (σ:St) (H:Hp) (Q:VK),Inv X pins σ H s->t σ H Q->wpAny (model X.prog X.w) X.A (eval e X.env) (EP X pins σ Q) X.xe s
def PT (X:Cx) (e:Expr) (t:TT):Prop:=
 ∀ (pins:List (Addr×Obj)) (s:Shared) (σ:St) (H:Hp) (Q:Bool->Hp->Prop),Inv X pins σ H s->t σ H Q->wpAny (model X.prog X.w) X.A (isTrue e X.env (eval e X.env)) (TP X pins σ Q) X.xe s
def PW (X:Cx) (e:Expr) (t:TT):Prop:=
 ∀ (whole:Sem Value) (pins:List (Addr×Obj)) (s:Shared) (σ:St) (H:Hp) (Q:Bool->Hp->Prop),Inv X pins σ H s->t σ H Q->wpAny (model X.prog X.w) X.A (isTrue e X.env whole) (TP X pins σ Q) X.xe s
theorem PW.pt {X:Cx} {e:Expr} {t:TT} (h:PW X e t):PT X e t:=h _
def PA (X:Cx) (es:List Expr) (t:TA):Prop:=
 ∀ (pos:Pos) (pins:List (Addr×Obj)) (s:Shared) (σ:St) (H:Hp) (Q:List V->Hp->Prop),Inv X pins σ H s->t σ H Q->wpAny (model X.prog X.w) X.A (spliced (backTo pos (starEach es X.env))) (AP X pins σ Q) X.xe s
def PS (X:Cx) (st:Stmt) (t:TS):Prop:=
 ∀ (pins:List (Addr×Obj)) (s:Shared) (σ:St) (H:Hp) (D:Ends),Inv X pins σ H s->t D σ H->wpAny (model X.prog X.w) X.A (exec st X.env) (SP X pins D) X.xe s
def PSs (X:Cx) (st:List Stmt) (t:TS):Prop:=
 ∀ (pins:List (Addr×Obj)) (s:Shared) (σ:St) (H:Hp) (D:Ends),Inv X pins σ H s->t D σ H->wpAny (model X.prog X.w) X.A (execs st X.env) (SP X pins D) X.xe s
theorem thn {α:Type} {t:Sem α} {Q Q':α->Shared->Prop} {M:Model} {A:Around} {E:Value->Shared->Prop} {s:Shared} (h:wpAny M A t Q E s) (hQ:∀ a s,Q a s->Q' a s):wpAny M A t Q' E s:=wpAny_mono h hQ fun _ _ x=>x
end L2
namespace L2
open PySem PySem.Spec PyProof.Rows
section
variable {X:Cx}
def tVar (i:Nat):TE:=fun σ H Q=>∃ v,σ[i]?=some (some v)/\Q v H
def tC (v:V):TE:=fun _ H Q=>Q v H
theorem pe_var {i:Nat} {x:Str} {pos:Pos} (hN:X.N[i]?=some x) (hv:Vis X.env.scope x) (hd:(x == ("__debug__" : Str))=false:=by decide) (hcd:(x == ("__classdict__" : Str))=false:=by decide):PE X (.Name x pos) (tVar i):=by
 intro pins s σ H Q I h
 obtain ⟨v,e,h⟩:=h
 obtain ⟨m,hn,hl⟩:=I.loc
 obtain ⟨u,r,l⟩:=hl i x v hN e hv
 have fin:EP X pins σ Q u s:=⟨v,H,I,r,h⟩
 rcases l with ⟨hk,hm⟩ | ⟨hk,c,hc,hcell⟩
 ·exact wpAny_Name (wpAny_loadName_local I.ok.kind hk hn hm fin) hd
 ·rcases hk with hk | hk
  ·exact wpAny_Name (wpAny_loadName_cell I.ok.kind hk hc hcell fin) hd
  ·exact wpAny_Name (wpAny_loadName_free I.ok.kind hk hc hcell fin hcd) hd
theorem pe_int {i j pos}:PE X (.Constant (.int i) j pos) (tC (.int i)):=fun _ _ _ H _ I h=>wpAny_Constant_int ⟨.int i,H,I.tok _,⟨_,rfl⟩,h⟩
theorem pe_bl {b j pos}:PE X (.Constant (.bool b) j pos) (tC (.bl b)):=fun _ _ _ H _ I h=>Constant_bool ⟨.bl b,H,I,rfl,h⟩
theorem pe_non {j pos}:PE X (.Constant .none j pos) (tC .non):=fun _ _ _ H _ I h=>Constant_none ⟨.non,H,I,rfl,h⟩
theorem pe_str {x j pos}:PE X (.Constant (.str x) j pos) (tC (.str x)):=fun _ _ _ H _ I h=>Calls.Constant_str ⟨.str x,H,I.tok _,⟨_,rfl⟩,h⟩
def Gl (X:Cx) (x:Str):Prop:=X.env.kindOf x=some .globalImplicit
theorem ld_glob {E:Value->Shared->Prop} {pins:List (Addr×Obj)} {s:Shared} {σ:St} {H:Hp} {x:Str} {u:Value} {pos:Pos} {Q:Value->Shared->Prop} (I:Inv X pins σ H s) (hg:Gl X x) (hm:X.mg x=some u) (h:Q u s)
  (hd:(x == ("__debug__" : Str))=false:=by decide):wpAny (model X.prog X.w) X.A (eval (.Name x pos) X.env) Q E s:=
 Calls.Name_function_global I.ok.kind hg (Calls.loadGlobal_global (by rw [I.ok.glob]; exact I.mod.glob.keeps I.bk) hm h) hd
theorem ld_blt {E:Value->Shared->Prop} {pins:List (Addr×Obj)} {s:Shared} {σ:St} {H:Hp} {x:Str} {u:Value} {pos:Pos} {Q:Value->Shared->Prop} (I:Inv X pins σ H s) (hg:Gl X x) (hm:X.mg x=none) (hv:bootBuiltins x=some u) (h:Q u s)
  (hn:x≠"__name__" := by decide) (hd:(x == ("__debug__" : Str))=false:=by decide):wpAny (model X.prog X.w) X.A (eval (.Name x pos) X.env) Q E s:=by
 obtain ⟨mb,h1,h2⟩:=I.mod.blt
 exact Calls.Name_function_global I.ok.kind hg (Calls.loadGlobal_builtin (by rw [I.ok.glob]; exact I.mod.glob.keeps I.bk) hm (by rw [I.ok.blt]; exact h1.keeps I.bk) ((h2 x hn).trans hv) h) hd
theorem pe_glob {x:Str} {v:V} {u:Value} {pos:Pos} (hg:Gl X x) (hm:X.mg x=some u) (r:RelV v u) (hd:(x == ("__debug__" : Str))=false:=by decide):PE X (.Name x pos) (tC v):=
 fun _ _ _ H _ I h=>ld_glob I hg hm ⟨v,H,I,r,h⟩ hd
theorem pe_bltn {x:Str} {v:V} {u:Value} {pos:Pos} (hg:Gl X x) (hm:X.mg x=none) (hv:bootBuiltins x=some u) (r:RelV v u) (hn:x≠"__name__" := by decide) (hd:(x == ("__debug__" : Str))=false:=by decide):PE X (.Name x pos) (tC v):=
 fun _ _ _ H _ I h=>ld_blt I hg hm hv ⟨v,H,I,r,h⟩ hn hd
variable {a b:Expr} {ta tb:TE} {pos:Pos}
def tB (t:TE):TT:=fun σ H Q=>t σ H fun x H1=>∃ c,x=.bl c/\Q c H1
variable {tA tB':TT} {rest:List Expr}
def tAnd (t u:TT):TT:=fun σ H Q=>t σ H fun c H1=>if c=true then u σ H1 Q else Q false H1
def tOr (t u:TT):TT:=fun σ H Q=>t σ H fun c H1=>if c=true then Q true H1 else u σ H1 Q
def tNot (t:TT):TT:=fun σ H Q=>t σ H fun c H1=>Q (!c) H1
theorem pw_and1 (ha:PT X a tA):PW X (.BoolOp .And [a] pos) tA:=by
 intro wh pins s σ H Q I h
 refine isTrue_and (thn (ha pins s σ H Q I h) fun c s1 e=>?_)
 cases c with
 | true=>exact isTrue_and_nil e
 | false=>exact e
theorem pw_or1 (ha:PT X a tA):PW X (.BoolOp .Or [a] pos) tA:=by
 intro wh pins s σ H Q I h
 refine isTrue_or (thn (ha pins s σ H Q I h) fun c s1 e=>?_)
 cases c with
 | false=>exact isTrue_or_nil e
 | true=>exact e
theorem pw_and (ha:PT X a tA) (hb:PW X (.BoolOp .And (b :: rest) pos) tB'):PW X (.BoolOp .And (a :: b :: rest) pos) (tAnd tA tB'):=by
 intro wh pins s σ H Q I h
 refine isTrue_and (thn (ha pins s σ H _ I h) fun c s1 ⟨H1,I1,q1⟩=>?_)
 cases c with
 | true=>exact hb wh pins s1 σ H1 Q I1 q1
 | false=>exact ⟨H1,I1,q1⟩
theorem pw_or (ha:PT X a tA) (hb:PW X (.BoolOp .Or (b :: rest) pos) tB'):PW X (.BoolOp .Or (a :: b :: rest) pos) (tOr tA tB'):=by
 intro wh pins s σ H Q I h
 refine isTrue_or (thn (ha pins s σ H _ I h) fun c s1 ⟨H1,I1,q1⟩=>?_)
 cases c with
 | true=>exact ⟨H1,I1,q1⟩
 | false=>exact hb wh pins s1 σ H1 Q I1 q1
theorem pt_not (ha:PT X a tA):PT X (.UnaryOp .Not a pos) (tNot tA):=by
 intro pins s σ H Q I h
 exact isTrue_not (ha pins s σ H (fun c H1=>Q (!c) H1) I h)
theorem pe_one {op} {t:TE} (h:PE X a t):PE X (.BoolOp op [a] pos) t:=fun pins s σ H Q I hw=>BoolOp_one (h pins s σ H Q I hw)
def tIf (t:TT) (ta tb:TE):TE:=fun σ H Q=>t σ H fun c H1=>if c=true then ta σ H1 Q else tb σ H1 Q
theorem pe_ifExp {c:Expr} (hc:PT X c tA) (ha:PE X a ta) (hb:PE X b tb):PE X (.IfExp c a b pos) (tIf tA ta tb):=by
 intro pins s σ H Q I h
 refine wpAny_IfExp (thn (hc pins s σ H _ I h) fun d s1 ⟨H1,I1,q1⟩=>?_)
 cases d with
 | true=>exact ha pins s1 σ H1 Q I1 q1
 | false=>exact hb pins s1 σ H1 Q I1 q1
end
end L2
namespace L2
open PySem PySem.Spec PyProof.Rows
def SqL (K:PySem.W.Frag) (H:Hp) (a:Addr) (xs:List V):Prop:=
 Rd H a (.lst xs)\/
  ∃ (o:Obj) (its:Array Value) (n:Nat),K.lookup a=some o/\o.cls=.type "list" /\ o.dict=none/\o.data=.seq its n/\its.size<=sizeLine/\Vals xs its.toList
def SqT (K:PySem.W.Frag) (H:Hp) (a:Addr) (xs:List V):Prop:=
 Rd H a (.tup xs)\/
  ∃ (o:Obj) (its:Array Value) (n:Nat),K.lookup a=some o/\o.cls=.type "tuple" /\ o.data=.seq its n/\its.size<=sizeLine/\Vals xs its.toList/\o.dict=none
def absV:Value->Option V
 | .none=>some .non
 | .bool b=>some (.bl b)
 | .int i _=>some (.int i)
 | .str x _=>some (.str x)
 | .bytes b _=>some (.byt b)
 | .float b _=>some (.flt b)
 | .ref a=>some (.ref a)
 | .type n=>some (.ty n)
 | _=>none
theorem RelV.abs {x:V} {u:Value} (r:RelV x u):absV u=some x:=by
 cases x with
 | non=>cases r; rfl
 | bl _=>cases r; rfl
 | int _=>obtain ⟨t,rfl⟩:=r; rfl
 | str _=>obtain ⟨t,rfl⟩:=r; rfl
 | byt _=>obtain ⟨t,rfl⟩:=r; rfl
 | flt _=>obtain ⟨t,rfl⟩:=r; rfl
 | ref _=>cases r; rfl
 | ty _=>cases r; rfl
theorem RelV.inj {x y:V} {u:Value} (r:RelV x u) (q:RelV y u):x=y:=Option.some.inj (r.abs.symm.trans q.abs)
theorem Vals.inj:∀ {xs ys:List V} {us:List Value},Vals xs us->Vals ys us->xs=ys
 | _,_,_,.nil,.nil=>rfl
 | _,_,_,.cons r t,.cons r' t'=>by rw [r.inj r',Vals.inj t t']
section
variable {X:Cx} {pins:List (Addr×Obj)} {σ:St} {H:Hp} {s:Shared} {a:Addr} {xs ys:List V}
theorem SqL.of {K:PySem.W.Frag} (h:H a=some (.lst xs)):SqL K H a xs:=.inl (.inl h)
theorem SqT.of {K:PySem.W.Frag} (h:H a=some (.tup xs)):SqT K H a xs:=.inl (.inl h)
theorem Inv.list (I:Inv X pins σ H s) (h:SqL X.K H a xs):∃ its:List Value,Vals xs its/\PlainL s.heap a its.toArray/\xs.length<=sizeLine:=by
 rcases h with h | ⟨o,its,n,hk,hc,hd,hs,hz,r⟩
 ·obtain ⟨z,its,n,r,e⟩:=h.ok I.hok
  exact ⟨its,r,⟨_,n,e,rfl,rfl,rfl⟩,z⟩
 ·refine ⟨its.toList,r,⟨o,n,I.kIn a o hk,hc,hd,by simpa using hs⟩,?_⟩
  have e:=r.length
  simp only [Array.length_toList] at e
  omega
theorem Inv.tuple (I:Inv X pins σ H s) (h:SqT X.K H a xs):∃ its:List Value,Vals xs its/\IsTup s.heap a its.toArray/\xs.length<=sizeLine:=by
 rcases h with h | ⟨o,its,n,hk,hc,hs,hz,r,_⟩
 ·obtain ⟨z,its,r,p⟩:=h.ok I.hok
  exact ⟨its,r,p.is,z⟩
 ·refine ⟨its.toList,r,⟨o,I.kIn a o hk,hc,n,by simpa using hs⟩,?_⟩
  have e:=r.length
  simp only [Array.length_toList] at e
  omega
theorem Inv.list_inj (I:Inv X pins σ H s) (h:SqL X.K H a xs) (h':SqL X.K H a ys):xs=ys:=by
 obtain ⟨its,r,⟨o,n,e,_,_,d⟩,_⟩:=I.list h
 obtain ⟨its',r',⟨o',n',e',_,_,d'⟩,_⟩:=I.list h'
 rw [e] at e'; cases e'
 rw [d] at d'
 injection d' with d1 _
 have:its=its':=by simpa using congrArg Array.toList d1
 subst this
 exact r.inj r'
theorem Inv.tuple_inj (I:Inv X pins σ H s) (h:SqT X.K H a xs) (h':SqT X.K H a ys):xs=ys:=by
 obtain ⟨its,r,⟨o,e,_,n,d⟩,_⟩:=I.tuple h
 obtain ⟨its',r',⟨o',e',_,n',d'⟩,_⟩:=I.tuple h'
 rw [e] at e'; cases e'
 rw [d] at d'
 injection d' with d1 _
 have:its=its':=by simpa using congrArg Array.toList d1
 subst this
 exact r.inj r'
end
abbrev Cx.wish (X:Cx) (E:Value->Shared->Prop):Cx:={ X with xe:=E }
abbrev Cx.nox (X:Cx):Cx:=X.wish fun _ _=>False
theorem Cx.Ok.wish {X:Cx} (ok:X.Ok) (E:Value->Shared->Prop):(X.wish E).Ok:=
 ⟨ok.mod,ok.kind,ok.glob,ok.blt,ok.above,ok.inj,ok.has,ok.cab,ok.hd,ok.frames,ok.stk,ok.exf,ok.bs,ok.bsz,ok.noex,ok.exfs,ok.funs,ok.frf⟩
theorem Cx.Ok.unwish {X:Cx} {E:Value->Shared->Prop} (ok:(X.wish E).Ok):X.Ok:=
 ⟨ok.mod,ok.kind,ok.glob,ok.blt,ok.above,ok.inj,ok.has,ok.cab,ok.hd,ok.frames,ok.stk,ok.exf,ok.bs,ok.bsz,ok.noex,ok.exfs,ok.funs,ok.frf⟩
section
variable {X:Cx} {pins:List (Addr×Obj)} {σ:St} {H:Hp} {s:Shared} {E:Value->Shared->Prop}
theorem Inv.wish (I:Inv X pins σ H s) (E:Value->Shared->Prop):Inv (X.wish E) pins σ H s:=⟨I.ok.wish E,I.os,I.bare,I.base,I.loc,I.cell,I.free,I.freeC,I.pin,I.hok,I.len⟩
theorem Inv.unwish (I:Inv (X.wish E) pins σ H s):Inv X pins σ H s:=⟨I.ok.unwish,I.os,I.bare,I.base,I.loc,I.cell,I.free,I.freeC,I.pin,I.hok,I.len⟩
theorem SP.unwish {D:Ends} {f:Flow} {s':Shared} (h:SP (X.wish E) pins D f s'):SP X pins D f s':=by
 cases f with
 | next=>obtain ⟨σ',H',I,q⟩:=h; exact ⟨σ',H',I.unwish,q⟩
 | brk=>obtain ⟨σ',H',I,q⟩:=h; exact ⟨σ',H',I.unwish,q⟩
 | cont=>obtain ⟨σ',H',I,q⟩:=h; exact ⟨σ',H',I.unwish,q⟩
 | ret u=>obtain ⟨v,σ',H',I,r,q⟩:=h; exact ⟨v,σ',H',I.unwish,r,q⟩
theorem PSs.nox {st:List Stmt} {t:TS} (h:PSs X.nox st t):PSs X st t:=fun pins s σ H D I hw=>
 wpAny_mono (h pins s σ H D (I.wish _) hw) (fun _ _ q=>q.unwish) fun _ _ z=>False.elim z
end
section
variable {X:Cx} {st:Stmt} {rest:List Stmt} {t u:TS} {e:Expr} {te:TE} {pos:Pos}
def tNext:TS:=fun D σ H=>D.nx σ H
def tSeq (t u:TS):TS:=fun D σ H=>t { D with nx:=u D } σ H
theorem pss_nil:PSs X [] tNext:=fun _ _ σ H _ I h=>wpAny_execs_nil ⟨σ,H,I,h⟩
theorem pss_cons (h1:PS X st t) (h2:PSs X rest u):PSs X (st :: rest) (tSeq t u):=by
 intro pins s σ H D I h
 refine wpAny_execs_cons (thn (h1 pins s σ H { D with nx:=u D } I h) fun f s1 q=>?_)
 cases f with
 | next=>
  obtain ⟨σ',H',I',q⟩:=q
  exact h2 pins s1 σ' H' D I' q
 | ret v=>exact q
 | brk=>exact q
 | cont=>exact q
theorem pss_one (h1:PS X st t):PSs X [st] t:=by
 intro pins s σ H D I h
 refine wpAny_execs_cons (thn (h1 pins s σ H D I h) fun f s1 q=>?_)
 cases f with
 | next=>exact wpAny_execs_nil q
 | ret v=>exact q
 | brk=>exact q
 | cont=>exact q
theorem Inv.quiet {pins:List (Addr×Obj)} {σ:St} {H:Hp} {s:Shared} (I:Inv X pins σ H s):interactive X.env=false:=by simp [interactive,I.ok.kind]
def tDrop (te:TE):TS:=fun D σ H=>te σ H fun _ H1=>D.nx σ H1
theorem ps_expr (he:PE X e te) (hs:swapsWith e none pos.line X.env=pure false:=by rfl):PS X (.Expr e pos) (tDrop te):=by
 intro pins s σ H D I h
 exact wpAny_Expr_any (thn (he pins s σ H _ I h) fun v s1 ⟨x,H1,I1,r1,q1⟩=>⟨σ,H1,I1,q1⟩) I.quiet hs
def tRet (te:TE):TS:=fun D σ H=>te σ H D.rt
theorem ps_ret (he:PE X e te):PS X (.Return (some e) pos) (tRet te):=by
 intro pins s σ H D I h
 exact wpAny_Return_some (thn (he pins s σ H _ I h) fun v s1 ⟨x,H1,I1,r1,q1⟩=>⟨x,σ,H1,I1,r1,q1⟩)
def tIfS (c:TT) (t u:TS):TS:=fun D σ H=>c σ H fun b H1=>if b=true then t D σ H1 else u D σ H1
theorem ps_if {c:Expr} {a b:List Stmt} {tc:TT} (hc:PT X c tc) (ha:PSs X a t) (hb:PSs X b u):PS X (.If c a b pos) (tIfS tc t u):=by
 intro pins s σ H D I h
 refine wpAny_If (thn (hc pins s σ H _ I h) fun d s1 ⟨H1,I1,q1⟩=>?_)
 cases d with
 | true=>exact ha pins s1 σ H1 D I1 q1
 | false=>exact hb pins s1 σ H1 D I1 q1
end
abbrev TG:=V->St->Hp->(St->Hp->Prop)->Prop
abbrev TGs:=List V->St->Hp->(St->Hp->Prop)->Prop
def PG (X:Cx) (target:Expr) (t:TG):Prop:=
 ∀ (pins:List (Addr×Obj)) (s:Shared) (σ:St) (H:Hp) (v:V) (u:Value) (Q:St->Hp->Prop),Inv X pins σ H s->RelV v u->t v σ H Q->
  wpAny (model X.prog X.w) X.A (assign target X.env u) (fun _ s'=>∃ σ' H',Inv X pins σ' H' s'/\Q σ' H') X.xe s
def PGs (X:Cx) (ts:List Expr) (t:TGs):Prop:=
 ∀ (pins:List (Addr×Obj)) (s:Shared) (σ:St) (H:Hp) (vs:List V) (us:List Value) (Q:St->Hp->Prop),Inv X pins σ H s->Vals vs us->t vs σ H Q->
  wpAny (model X.prog X.w) X.A (assignInOrder ((assignEach ts X.env).map (·.2)) us) (fun _ s'=>∃ σ' H',Inv X pins σ' H' s'/\Q σ' H') X.xe s
abbrev TSet:=V->V->V->Hp->(Hp->Prop)->Prop
def PSet (X:Cx) (t:TSet):Prop:=
 ∀ (pins:List (Addr×Obj)) (s:Shared) (σ:St) (H:Hp) (o i v:V) (ov iv u:Value) (Q:Hp->Prop),Inv X pins σ H s->RelV o ov->RelV i iv->RelV v u->t o i v H Q->
  wpAny (model X.prog X.w) X.A (setItem ov iv u) (fun _ s'=>∃ H',Inv X pins σ H' s'/\Q H') X.xe s
section
variable {X:Cx} {pos:Pos}
def gName (i:Nat):TG:=fun v σ H Q=>Q (σ.set i (some v)) H
theorem pg_name {i:Nat} {x:Str} (hN:X.N.Nodup) (hi:X.N[i]?=some x) (hx:Loc X.env.scope x) (hf:X.fn x=true\/X.env.scope.names.lookup x=some .local:=by first | exact .inl rfl | exact .inr rfl | assumption):PG X (.Name x pos) (gName i):=by
 intro pins s σ H v u Q I r h
 exact wpAny_assign_Name (store_ok I hN hi hx r (fun s' I'=>⟨_,H,I',h⟩) hf)
def gNil:TGs:=fun vs σ H Q=>vs=[]/\Q σ H
def gCons (t:TG) (u:TGs):TGs:=fun vs σ H Q=>∃ v r,vs=v :: r/\t v σ H fun σ' H'=>u r σ' H' Q
theorem pgs_nil:PGs X [] gNil:=by
 intro pins s σ H vs us Q I r h
 obtain ⟨e,h⟩:=h
 subst e
 cases r
 exact assignInOrder_nil ⟨σ,H,I,h⟩
theorem pgs_cons {e:Expr} {es:List Expr} {t:TG} {u:TGs} (h1:PG X e t) (h2:PGs X es u)
  (hs:(assignEach (e :: es) X.env).map (·.2)=assign e X.env :: (assignEach es X.env).map (·.2):=by rfl):PGs X (e :: es) (gCons t u):=by
 intro pins s σ H vs us Q I r h
 obtain ⟨v,vr,e1,h⟩:=h
 subst e1
 cases r with
 | cons r rr=>
  rw [hs]
  refine assignInOrder_cons (thn (h1 pins s σ H _ _ _ I r h) fun _ s1 ⟨σ1,H1,I1,q1⟩=>?_)
  exact h2 pins s1 σ1 H1 _ _ Q I1 rr q1
def gTup (K:PySem.W.Frag) (n:Nat) (t:TGs):TG:=fun v σ H Q=>∃ a xs,v=.ref a/\SqT K H a xs/\xs.length=n/\t xs σ H Q
theorem pg_tup {es:List Expr} {k:Nat} {t:TGs} {n:Nat} (hc:X.calm=true) (h:PGs X es t)
  (hn:(assignEach es X.env).length=n:=by rfl) (hst:(assignEach es X.env).findIdx? (·.1)=none:=by rfl):PG X (.Tuple es k pos) (gTup X.K n t):=by
 intro pins s σ H v u Q I r hw
 obtain ⟨a,xs,e1,hq,hl,hw⟩:=hw
 subst e1
 cases r
 obtain ⟨its,rv,ht,hz⟩:=I.tuple hq
 refine assign_Tuple_tuple (I.ok.hd hc) ht (by simp [hn,<- hl,rv.length]) hst fun h' hx=>?_
 have I1:Inv X pins σ H { s with heap:=h' }:=I.kept (t':=s.toks) fun b o e=>hx b o (Nat.ne_of_lt (Heap.lt_size e)) e
 exact h pins _ σ H xs _ Q I1 (by simpa using rv) hw
def tAsg (te:TE) (g:TG):TS:=fun D σ H=>te σ H fun x H1=>g x σ H1 D.nx
theorem ps_asg {tg e:Expr} {te:TE} {g:TG} (he:PE X e te) (hg:PG X tg g) (hs:swapsWithSole [tg] e pos.line X.env=pure false:=by rfl) (hw:swappedStores [tg] e X.env=pure none:=by rfl)
  (h1:(assignEach [tg] X.env).map (·.2)=[assign tg X.env]:=by rfl):PS X (.Assign [tg] e pos) (tAsg te g):=by
 intro pins s σ H D I h
 refine wpAny_Assign_stores (thn (he pins s σ H _ I h) fun v s1 hz=>?_) hs hw
 obtain ⟨x,H1,I1,r1,q1⟩:=hz
 rw [h1]
 exact thn (hg pins s1 σ H1 x v _ I1 r1 q1) fun _ s2 q=>q
theorem ps_set {i:Nat} {x:Str} {e:Expr} {te:TE} {pos':Pos} (hN:X.N.Nodup) (hi:X.N[i]?=some x) (hx:Loc X.env.scope x) (he:PE X e te) (hs:swapsWith e (some (.Name x pos')) pos.line X.env=pure false:=by rfl) (hf:X.fn x=true\/X.env.scope.names.lookup x=some .local:=by first | exact .inl rfl | exact .inr rfl | assumption):
  PS X (.Assign [.Name x pos'] e pos) (tAsg te (gName i)):=by
 intro pins s σ H D I h
 refine wpAny_Assign_Name (thn (he pins s σ H _ I h) fun v s1 hz=>?_) hs
 obtain ⟨y,H1,I1,r1,q1⟩:=hz
 exact store_ok I1 hN hi hx r1 (fun s2 I2=>⟨_,H1,I2,q1⟩) hf
end
section
variable {X:Cx} {pos:Pos}
def tWhile (c:TT) (tb:TS):TS:=fun D σ H=>∃ W:Nat->St->Hp->Prop,(∃ m,W m σ H)/\∀ m σ H,W m σ H->
 c σ H fun b H1=>if b=true then ∃ N:St->Hp->Prop,(∀ σ' H',N σ' H'->∃ m',m' < m/\W m' σ' H')/\tb { D with nx:=N,ct:=N,bk:=D.nx } σ H1 else D.nx σ H1
theorem ps_while {c:Expr} {body:List Stmt} {tc:TT} {tb:TS} (hp:PassesOwn (model X.prog X.w) X.A X.env X.xe) (hc:PT X c tc) (hb:PSs X body tb):PS X (.While c body [] pos) (tWhile tc tb):=by
 intro pins s σ H D I h
 obtain ⟨W,⟨m0,w0⟩,turn⟩:=h
 refine wpAny_While (codeAny_whileLoop (fun n s'=>∃ σ' H',Inv X pins σ' H' s'/\W n σ' H') ?_ m0 ⟨σ,H,I,w0⟩)
 rintro n s1 ⟨σ1,H1,I1,w1⟩
 refine wpAny_passesOwn hp (thn (hc pins s1 σ1 H1 _ I1 (turn n σ1 H1 w1)) fun b s2 ⟨H2,I2,q2⟩=>?_)
 cases b with
 | true=>
  obtain ⟨N,hN,q2⟩:=q2
  rw [if_pos rfl]
  refine wpAny_passesOwn hp (thn (hb pins s2 σ1 H2 _ I2 q2) fun f s3 q3=>?_)
  cases f with
  | next=>
   obtain ⟨σ3,H3,I3,n3⟩:=q3
   obtain ⟨m',hm,w3⟩:=hN σ3 H3 n3
   exact ⟨m',hm,σ3,H3,I3,w3⟩
  | cont=>
   obtain ⟨σ3,H3,I3,n3⟩:=q3
   obtain ⟨m',hm,w3⟩:=hN σ3 H3 n3
   exact ⟨m',hm,σ3,H3,I3,w3⟩
  | brk=>exact q3
  | ret v=>exact q3
 | false=>
  rw [if_neg Bool.false_ne_true]
  exact wpAny_execs_nil ⟨σ1,H2,I2,q2⟩
end
structure It where
 go:Nat->Hp->Prop
 yld:Nat->Hp->V->Hp->Prop
 stop:Nat->Hp->Prop
def FpOk (X:Cx) (pins:List (Addr×Obj)) (H:Hp) (b:Addr):Prop:=
 H b=none/\b≠X.env.locals/\b∉X.fs/\(b∈X.ex\/X.s₀.heap.objs.size<=b)/\(∀ x c,X.env.cells.lookup x=some c->c≠b)/\∀ p∈X.pn++pins,p.1≠b
theorem Inv.fpOk {X:Cx} {pins:List (Addr×Obj)} {σ:St} {H H':Hp} {s:Shared} {b:Addr} (I:Inv X pins σ H s) (hb:s.heap.objs.size<=b) (hn:H' b=none):FpOk X pins H' b:=by
 refine ⟨hn,Nat.ne_of_gt (Nat.lt_of_lt_of_le I.lt hb),I.nofs hb,.inr (Nat.le_trans I.sz hb),fun x c e z=>?_,fun p hp z=>?_⟩
 ·obtain ⟨v,q⟩:=I.cell x c e
  exact absurd (Nat.lt_of_lt_of_le q.lt (by rw [z]; exact hb)) (Nat.lt_irrefl _)
 ·exact absurd (Nat.lt_of_lt_of_le (Heap.lt_size (I.pin p hp).1) (by rw [z]; exact hb)) (Nat.lt_irrefl _)
structure Turn (P:Program) (w:World) (K:PySem.W.Frag) (tg:Expr) (J:It) (fp:List Addr) (it:Addr) (tn:Nat->Heap->Prop):Prop where
 mem:it∈fp
 obj:∀ i h,tn i h->∀ b∈fp,∃ o,h.get? b=some o/\∀ v,o.data≠.cell v
 keep:∀ i h h',tn i h->(∀ b∈fp,∀ o,h.get? b=some o->h'.get? b=some o)->tn i h'
 item:∀ (X:Cx),X.prog=P->X.w=w->X.K=K->X.calm=true->∀ (i:Nat) (pins:List (Addr×Obj)) (s:Shared) (σ:St) (H:Hp) (E:Value->Shared->Prop),Inv X pins σ H s->(∀ b∈fp,FpOk X pins H b)->tn i s.heap->J.go i H->
  wpAny (model P w) X.A (pyNext (.ref it)) (fun r s1=>∃ u,r=some u/\
   wpAny (model P w) X.A (letOwnedTupleGo tg (.ref it) u) (fun _ s2=>∃ x H',Inv X pins σ H' s2/\RelV x u/\J.yld i H x H'/\tn (i+1) s2.heap/\∀ b∈fp,H' b=none) E s1) E s
 done:∀ (X:Cx),X.prog=P->X.w=w->X.K=K->X.calm=true->∀ (i:Nat) (pins:List (Addr×Obj)) (s:Shared) (σ:St) (H:Hp) (E:Value->Shared->Prop),Inv X pins σ H s->(∀ b∈fp,FpOk X pins H b)->tn i s.heap->J.stop i H->
  wpAny (model P w) X.A (pyNext (.ref it)) (fun r s1=>r=none/\Inv X pins σ H s1) E s
 self:∀ (A:Around) (i:Nat) (s:Shared) (Q:Value->Shared->Prop) (E:Value->Shared->Prop),tn i s.heap->Q (.ref it) s->wpAny (model P w) A (pyIter (.ref it)) Q E s
abbrev TI:=St->Hp->(It->Hp->Prop)->Prop
def PIE (X:Cx) (pins:List (Addr×Obj)) (σ:St) (tg:Expr) (R:It->Hp->Prop) (itv:Value) (s2:Shared):Prop:=
 ∃ (it:Addr) (fp:List Addr) (tn:Nat->Heap->Prop) (J:It) (H':Hp),itv=.ref it/\Inv X pins σ H' s2/\Turn X.prog X.w X.K tg J fp it tn/\tn 0 s2.heap/\(∀ b∈fp,FpOk X pins H' b)/\R J H'
def PI (X:Cx) (tg iter:Expr) (wi:TI):Prop:=
 ∀ (pins:List (Addr×Obj)) (s:Shared) (σ:St) (H:Hp) (R:It->Hp->Prop),Inv X pins σ H s->wi σ H R->
  wpAny (model X.prog X.w) X.A (eval iter X.env) (fun v s1=>wpAny (model X.prog X.w) X.A (pyIter v) (PIE X pins σ tg R) X.xe s1) X.xe s
theorem go_of {M:Model} {A:Around} {E:Value->Shared->Prop} {s:Shared} {tg:Expr} {it:Addr} {u:Value} {o:Obj} {n:String} {vs:Array Value} {Q:Unit->Shared->Prop} (ho:s.heap.get? it=some o) (hc:o.cls=.type n) (hd:o.data=.fields vs)
  (hn:["enumerate","zip","dict_itemiterator","dict_reverseitemiterator","odict_iterator","itertools.zip_longest","itertools.pairwise"].contains n=false) (hQ:Q () s):wpAny M A (letOwnedTupleGo tg (.ref it) u) Q E s:=by
 unfold letOwnedTupleGo
 cases tg <;> first
  | exact wpAny_pure hQ
  | (cases u <;> first
    | exact wpAny_pure hQ
    | (refine wpAny_bind (wpAny_load ho ?_)
       rw [hc,hd]
       show wpAny M A (if (["enumerate","zip","dict_itemiterator","dict_reverseitemiterator","odict_iterator","itertools.zip_longest","itertools.pairwise"].contains n && vs[0]? == some (rawInt _))=true then _ else _) Q E s
       rw [if_neg (by intro h; rw [hn,Bool.false_and] at h; cases h)]
       exact wpAny_pure hQ))
def Itl (K:PySem.W.Frag) (a:Addr):It:=
 ⟨fun i H=>∃ xs x,SqL K H a xs/\xs[i]?=some x,fun i H x H'=>H'=H/\∀ xs,SqL K H a xs->xs[i]?=some x,fun i H=>∃ xs,SqL K H a xs/\xs.length<=i⟩
def Itt (K:PySem.W.Frag) (a:Addr):It:=
 ⟨fun i H=>∃ xs x,SqT K H a xs/\xs[i]?=some x,fun i H x H'=>H'=H/\∀ xs,SqT K H a xs->xs[i]?=some x,fun i H=>∃ xs,SqT K H a xs/\xs.length<=i⟩
def Itr (lo:Int) (n:Nat):It:=⟨fun i _=>i < n,fun i H x H'=>H'=H/\x=.int (lo+i),fun i _=>n<=i⟩
theorem turn_list {P:Program} {w:World} {K:PySem.W.Frag} {tg:Expr} (a it:Addr):Turn P w K tg (Itl K a) [it] it (fun i h=>h.IsListIter it a i) where
 mem:=by simp
 obj:=fun i h st b hb=>by
  have e:b=it:=by simpa using hb
  subst e
  obtain ⟨o,e,c,d⟩:=st
  exact ⟨o,e,fun v z=>by rw [d] at z; cases z⟩
 keep:=fun i h h' st k=>st.at fun o e=>k it (by simp) o e
 item:=by
  intro X hP hw hK hc i pins s σ H E I hf st hg
  subst hP hw hK
  obtain ⟨xs,x,hq,hx⟩:=hg
  obtain ⟨its,rv,p,hz⟩:=I.list hq
  obtain ⟨u,hu,ru⟩:=rv.get hx
  obtain ⟨f0,f1,f2,f3,f4,f5⟩:=hf it (by simp)
  refine wpAny_pyNext_list_item st p.isList (x:=u) (by simpa using hu) fun h' st' sb=>?_
  have I1:Inv X pins σ H { s with heap:=h' }:=I.turned (t':=s.toks) (fun b o hb e=>(sb.2 b hb).trans e) f0 f1 f3 f4 f5
  obtain ⟨o,e,c,d⟩:=id st'
  exact ⟨u,rfl,go_of (s:={ s with heap:=h' }) e c d (by decide) ⟨x,H,I1,ru,⟨rfl,fun ys hy=>by rw [I.list_inj hy hq]; exact hx⟩,st',fun b hb=>(hf b hb).1⟩⟩
 done:=by
  intro X hP hw hK hc i pins s σ H E I hf st hg
  subst hP hw hK
  obtain ⟨xs,hq,hx⟩:=hg
  obtain ⟨its,rv,p,hz⟩:=I.list hq
  obtain ⟨f0,f1,f2,f3,f4,f5⟩:=hf it (by simp)
  have hl:=rv.length
  exact wpAny_pyNext_list_end (I.ok.hd hc) st p.isList (by simp; omega) fun h' eb=>⟨rfl,I.turned (t':=s.toks) (fun b o hb e=>eb b o hb e) f0 f1 f3 f4 f5⟩
 self:=fun _ _ _ _ _ st h=>wpAny_pyIter_listiter st h
theorem turn_tuple {P:Program} {w:World} {K:PySem.W.Frag} {tg:Expr} (a it:Addr):Turn P w K tg (Itt K a) [it] it (fun i h=>h.IsTupleIter it a i) where
 mem:=by simp
 obj:=fun i h st b hb=>by
  have e:b=it:=by simpa using hb
  subst e
  obtain ⟨o,e,c,d⟩:=st
  exact ⟨o,e,fun v z=>by rw [d] at z; cases z⟩
 keep:=fun i h h' st k=>st.at fun o e=>k it (by simp) o e
 item:=by
  intro X hP hw hK hc i pins s σ H E I hf st hg
  subst hP hw hK
  obtain ⟨xs,x,hq,hx⟩:=hg
  obtain ⟨its,rv,p,hz⟩:=I.tuple hq
  obtain ⟨u,hu,ru⟩:=rv.get hx
  obtain ⟨f0,f1,f2,f3,f4,f5⟩:=hf it (by simp)
  refine wpAny_pyNext_tuple_item st (show s.heap.IsTuple a its.toArray from p) (x:=u) (by simpa using hu) fun h' st' sb=>?_
  have I1:Inv X pins σ H { s with heap:=h' }:=I.turned (t':=s.toks) (fun b o hb e=>(sb.2 b hb).trans e) f0 f1 f3 f4 f5
  obtain ⟨o,e,c,d⟩:=id st'
  exact ⟨u,rfl,go_of (s:={ s with heap:=h' }) e c d (by decide) ⟨x,H,I1,ru,⟨rfl,fun ys hy=>by rw [I.tuple_inj hy hq]; exact hx⟩,st',fun b hb=>(hf b hb).1⟩⟩
 done:=by
  intro X hP hw hK hc i pins s σ H E I hf st hg
  subst hP hw hK
  obtain ⟨xs,hq,hx⟩:=hg
  obtain ⟨its,rv,p,hz⟩:=I.tuple hq
  obtain ⟨f0,f1,f2,f3,f4,f5⟩:=hf it (by simp)
  have hl:=rv.length
  exact wpAny_pyNext_tuple_end (I.ok.hd hc) st (show s.heap.IsTuple a its.toArray from p) (by simp; omega) fun h' eb=>⟨rfl,I.turned (t':=s.toks) (fun b o hb e=>eb b o hb e) f0 f1 f3 f4 f5⟩
 self:=fun _ _ _ _ _ st h=>wpAny_pyIter_tupleiter st h
theorem turn_range {P:Program} {w:World} {K:PySem.W.Frag} {tg:Expr} (it:Addr) (lo:Int) (n:Nat):Turn P w K tg (Itr lo n) [it] it (fun i h=>IsRangeIter h it (lo+(i:Nat)*1) ((n:Int) - (i:Nat)) 1) where
 mem:=by simp
 obj:=fun i h st b hb=>by
  have e:b=it:=by simpa using hb
  subst e
  exact ⟨_,st,fun v z=>by
   have z':Data.fields _=Data.cell v:=z
   cases z'⟩
 keep:=fun i h h' st k=>k it (by simp) _ st
 item:=by
  intro X hP hw hK hc i pins s σ H E I hf st hg
  subst hP hw hK
  obtain ⟨f0,f1,f2,f3,f4,f5⟩:=hf it (by simp)
  have W:=Walks.range (prog:=X.prog) (w:=X.w) (I.ok.hd hc) it lo 1 n
  refine W.item i s _ _ hg st fun v h' tk hv st' kk=>?_
  obtain ⟨t,rfl⟩:=hv
  have I1:Inv X pins σ H { s with heap:=h',toks:=tk }:=I.turned (fun b o hb e=>kk b o (by simpa using hb) e) f0 f1 f3 f4 f5
  refine ⟨_,rfl,go_of (s:={ s with heap:=h',toks:=tk }) (n:="range_iterator") st' rfl rfl (by decide) ⟨.int (lo+i),H,I1,⟨t,?_⟩,⟨rfl,rfl⟩,st',fun b hb=>(hf b hb).1⟩⟩
  rw [Int.mul_one]
 done:=by
  intro X hP hw hK hc i pins s σ H E I hf st hg
  subst hP hw hK
  obtain ⟨f0,f1,f2,f3,f4,f5⟩:=hf it (by simp)
  exact wpAny_pyNext_range_end (I.ok.hd hc) st (by have:n<=i:=hg; omega) fun h' eb=>⟨rfl,I.turned (t':=s.toks) (fun b o hb e=>eb b o hb e) f0 f1 f3 f4 f5⟩
 self:=fun _ _ _ _ _ st h=>wpAny_pyIter_rangeiter st h
end L2
namespace L2
open PySem PySem.Spec PyProof.Rows
section
variable {X:Cx} {tg:Expr}
theorem range_it {pins:List (Addr×Obj)} {σ:St} {H:Hp} {s:Shared} {R:It->Hp->Prop} {E:Value->Shared->Prop} {lo hi:Int} {t u v:Tok} {tk:Nat} (I:Inv X pins σ H s) (h1:-(2 ^ 62)<=lo) (h2:lo < 2 ^ 62) (h3:-(2 ^ 62)<=hi) (h4:hi < 2 ^ 62)
  (q:R (Itr lo (hi - lo).toNat) H):wpAny (model X.prog X.w) X.A (pyIter (.ref s.heap.objs.size)) (PIE X pins σ tg R) E { s with heap:=s.heap.push { cls:=.type "range",data:=.fields #[.int lo t,.int hi u,.int 1 v] },toks:=tk }:=by
 refine wpAny_pyIter_range (IsRange.new ..) (small_one h1 h2 h3 h4) ?_
 have I1:Inv X pins σ H { s with heap:=s.heap.push { cls:=.type "range",data:=.fields #[.int lo t,.int hi u,.int 1 v] },toks:=tk }:=I.kept fun b o e=>Heap.get?_push_of_some _ e
 refine ⟨(s.heap.push { cls:=.type "range",data:=.fields #[.int lo t,.int hi u,.int 1 v] }).objs.size,[(s.heap.push { cls:=.type "range",data:=.fields #[.int lo t,.int hi u,.int 1 v] }).objs.size],_,_,H,rfl,
  I1.kept (t':=tk) fun b o e=>Heap.get?_push_of_some _ e,turn_range _ lo (hi - lo).toNat,?_,fun b hb=>?_,q⟩
 ·have e1:lo+((0:Nat):Int)*1=lo:=by simp
  have e2:(((hi - lo).toNat:Nat):Int) - ((0:Nat):Int)=Builtin.Range.rangeSize lo hi 1:=by rw [rangeSize_one]; split <;> omega
  show IsRangeIter _ _ (lo+((0:Nat):Int)*1) ((((hi - lo).toNat:Nat):Int) - ((0:Nat):Int)) 1
  rw [e1,e2]
  exact Heap.get?_push_size _ rfl
 ·have e:b=(s.heap.push { cls:=.type "range",data:=.fields #[.int lo t,.int hi u,.int 1 v] }).objs.size:=by simpa using hb
  subst e
  exact I1.fpOk (Nat.le_refl _) (I1.hok.fresh (Nat.le_refl _))
def tFor (wi:TI) (g:TG) (tb:TS):TS:=fun D σ H=>wi σ H fun J H1=>∃ W:Nat->Nat->St->Hp->Prop,(∃ m,W 0 m σ H1)/\∀ i m σ H,W i m σ H->
 (J.stop i H/\D.nx σ H)\/(J.go i H/\∃ N:St->Hp->Prop,(∀ σ' H',N σ' H'->∃ m',m' < m/\W (i+1) m' σ' H')/\∀ x H',J.yld i H x H'->g x σ H' fun σ2 H2=>tb { D with nx:=N,ct:=N,bk:=D.nx } σ2 H2)
def pinsAt (fp:List Addr) (h:Heap):List (Addr×Obj):=fp.filterMap fun b=>(h.get? b).map fun o=>(b,o)
theorem mem_pinsAt {fp:List Addr} {h:Heap} {b:Addr} {o:Obj} (hb:b∈fp) (e:h.get? b=some o):(b,o)∈pinsAt fp h:=List.mem_filterMap.mpr ⟨b,hb,by rw [e]; rfl⟩
theorem of_pinsAt {fp:List Addr} {h:Heap} {p:Addr×Obj} (hp:p∈pinsAt fp h):p.1∈fp/\h.get? p.1=some p.2:=by
 obtain ⟨b,hb,e⟩:=List.mem_filterMap.mp hp
 cases q:h.get? b with
 | none=>rw [q] at e; cases e
 | some o=>
  rw [q] at e
  have e':(b,o)=p:=Option.some.inj e
  subst e'
  exact ⟨hb,q⟩
theorem Inv.pinned {pins:List (Addr×Obj)} {σ:St} {H:Hp} {s:Shared} {fp:List Addr} (I:Inv X pins σ H s) (hf:∀ b∈fp,FpOk X pins H b) (ho:∀ b∈fp,∃ o,s.heap.get? b=some o/\∀ v,o.data≠.cell v):Inv X (pins++pinsAt fp s.heap) σ H s:=
 I.pins_of fun p hp=>(List.mem_append.mp hp).elim (fun z=>I.pin p (List.mem_append_right _ z)) fun z=>by
  obtain ⟨hb,e⟩:=of_pinsAt z
  obtain ⟨f0,f1,f2,_⟩:=hf p.1 hb
  obtain ⟨o,e',d⟩:=ho p.1 hb
  rw [e] at e'; cases e'
  exact ⟨e,f0,f1,f2,d⟩
theorem Inv.unpinned {pins pl:List (Addr×Obj)} {σ:St} {H:Hp} {s:Shared} (I:Inv X (pins++pl) σ H s):Inv X pins σ H s:=I.pins_of fun p hp=>I.pin p (List.mem_append_right _ (List.mem_append_left _ hp))
theorem ps_for {iter:Expr} {body:List Stmt} {wi:TI} {g:TG} {tb:TS} {pos:Pos} (hp:PassesOwn (model X.prog X.w) X.A X.env X.xe) (hc:X.calm=true) (hi:PI X tg iter wi) (hg:PG X tg g) (hb:PSs X body tb)
  (hs:∀ x,foldedSetIterable iter X.env x=pure x:=by intro _; rfl):PS X (.For tg iter body [] pos) (tFor wi g tb):=by
 intro pins s σ H D I h
 refine wpAny_For (thn (hi pins s σ H _ I h) fun v s1 h1=>thn h1 fun itv s2 h2=>?_) hs
 obtain ⟨it,fp,tn,J,H2,e,I2,T,st2,f2,W,⟨m0,w0⟩,turn⟩:=h2
 subst e
 -- what stays true of the iterator's objects through the loop
 have stat:∀ {H':Hp},(∀ b∈fp,H' b=none)->∀ b∈fp,FpOk X pins H' b:=fun hn b hb=>⟨hn b hb,(f2 b hb).2⟩
 refine codeAny_forLoop_any (fun n s'=>∃ i σ' H',Inv X pins σ' H' s'/\tn i s'.heap/\(∀ b∈fp,H' b=none)/\W i n σ' H') ?_ m0 ⟨0,σ,H2,I2,st2,fun b hb=>(f2 b hb).1,w0⟩
 rintro n s3 ⟨i,σ3,H3,I3,st3,fr3,w3⟩
 rcases turn i n σ3 H3 w3 with ⟨stop,qn⟩ | ⟨go,N,hN,step⟩
 ·refine wpAny_passesOwn hp (thn (T.done X rfl rfl rfl hc i pins s3 σ3 H3 X.xe I3 (stat fr3) st3 stop) fun r s4 ⟨hr,I4⟩=>?_)
  subst hr
  exact wpAny_execs_nil ⟨σ3,H3,I4,qn⟩
 ·refine wpAny_passesOwn hp (thn (T.item X rfl rfl rfl hc i pins s3 σ3 H3 X.xe I3 (stat fr3) st3 go) fun r s4 ⟨u,hr,h4⟩=>?_)
  subst hr
  refine wpAny_passesOwn hp (thn h4 fun _ s5 hz=>?_)
  obtain ⟨x,H5,I5,r5,y5,st5,fr5⟩:=hz
  have I5':=I5.pinned (stat fr5) (T.obj _ _ st5)
  refine wpAny_passesOwn hp (thn (hg _ s5 σ3 H5 x u _ I5' r5 (step x H5 y5)) fun _ s6 ⟨σ6,H6,I6,q6⟩=>?_)
  refine wpAny_passesOwn hp (thn (hb _ s6 σ6 H6 _ I6 q6) fun f s7 q7=>?_)
  have again:∀ {σ7:St} {H7:Hp},Inv X (pins++pinsAt fp s5.heap) σ7 H7 s7->N σ7 H7->∃ m,m < n/\∃ i σ' H',Inv X pins σ' H' s7/\tn i s7.heap/\(∀ b∈fp,H' b=none)/\W i m σ' H':=fun {σ7 H7} I7 n7=>by
   obtain ⟨m',hm,w7⟩:=hN σ7 H7 n7
   refine ⟨m',hm,i+1,σ7,H7,I7.unpinned,T.keep _ _ _ st5 fun b hb o e=>(I7.pin (b,o) (List.mem_append_right _ (List.mem_append_right _ (mem_pinsAt hb e)))).1,fun b hb=>?_,w7⟩
   obtain ⟨o,e,d⟩:=T.obj _ _ st5 b hb
   exact (I7.pin (b,o) (List.mem_append_right _ (List.mem_append_right _ (mem_pinsAt hb e)))).2.1
  cases f with
  | next=>obtain ⟨σ7,H7,I7,n7⟩:=q7; exact again I7 n7
  | cont=>obtain ⟨σ7,H7,I7,n7⟩:=q7; exact again I7 n7
  | brk=>obtain ⟨σ7,H7,I7,q7⟩:=q7; exact ⟨σ7,H7,I7.unpinned,q7⟩
  | ret v=>obtain ⟨x7,σ7,H7,I7,r7,q7⟩:=q7; exact ⟨x7,σ7,H7,I7.unpinned,r7,q7⟩
end
end L2
namespace L2
open PySem PySem.Spec PyProof.Rows
abbrev R2:=V->V->Hp->VK->Prop
def OpR (X:Cx) (f:Value->Value->Sem Value) (r:R2):Prop:=
 ∀ (pins:List (Addr×Obj)) (s:Shared) (σ:St) (H:Hp) (x y:V) (v u:Value) (Q:VK),Inv X pins σ H s->RelV x v->RelV y u->r x y H Q->
  wpAny (model X.prog X.w) X.A (f v u) (EP X pins σ Q) X.xe s
def UnR (X:Cx) (f:Value->Sem Value) (r:V->Hp->VK->Prop):Prop:=
 ∀ (pins:List (Addr×Obj)) (s:Shared) (σ:St) (H:Hp) (x:V) (v:Value) (Q:VK),Inv X pins σ H s->RelV x v->r x H Q->
  wpAny (model X.prog X.w) X.A (f v) (EP X pins σ Q) X.xe s
def CallR (X:Cx) (f:Value) (r:List V->Hp->VK->Prop):Prop:=
 ∀ (pins:List (Addr×Obj)) (s:Shared) (σ:St) (H:Hp) (xs:List V) (us:List Value) (Q:VK),Inv X pins σ H s->Vals xs us->r xs H Q->
  wpAny (model X.prog X.w) X.A (call f us) (EP X pins σ Q) X.xe s
def TruR (X:Cx) (r:V->Hp->(Bool->Hp->Prop)->Prop):Prop:=
 ∀ (pins:List (Addr×Obj)) (s:Shared) (σ:St) (H:Hp) (x:V) (v:Value) (Q:Bool->Hp->Prop),Inv X pins σ H s->RelV x v->r x H Q->
  wpAny (model X.prog X.w) X.A (truthy v) (TP X pins σ Q) X.xe s
def tOp (r:R2) (ta tb:TE):TE:=fun σ H Q=>ta σ H fun x H1=>tb σ H1 fun y H2=>r x y H2 Q
def tUn (r:V->Hp->VK->Prop) (ta:TE):TE:=fun σ H Q=>ta σ H fun x H1=>r x H1 Q
def rI (C:Int->Int->Prop) (g:Int->Int->V):R2:=fun x y H Q=>∃ i j,x=.int i/\y=.int j/\C i j/\Q (g i j) H
def rI0 (g:Int->Int->V):R2:=fun x y H Q=>∃ i j,x=.int i/\y=.int j/\Q (g i j) H
def rU (g:Int->V):V->Hp->VK->Prop:=fun x H Q=>∃ i,x=.int i/\Q (g i) H
section
variable {X:Cx} {a b c:Expr} {ta tb tc:TE} {pos:Pos}
theorem binT (ha:PE X a ta) (hb:PE X b tb) {pins:List (Addr×Obj)} {s:Shared} {σ:St} {H:Hp} {R:V->V->Hp->Prop} (I:Inv X pins σ H s)
  (h:ta σ H fun x H1=>tb σ H1 fun y H2=>R x y H2) {Q:Value->Shared->Prop} {f:Value->Value->Sem Value}
  (hf:∀ v u s2 x y H2,Inv X pins σ H2 s2->RelV x v->RelV y u->R x y H2->wpAny (model X.prog X.w) X.A (f v u) Q X.xe s2):
  wpAny (model X.prog X.w) X.A (eval a X.env) (fun v s₁=>wpAny (model X.prog X.w) X.A (eval b X.env) (fun u s₂=>wpAny (model X.prog X.w) X.A (f v u) Q X.xe s₂) X.xe s₁) X.xe s:=by
 refine thn (ha pins s σ H _ I h) fun v s1 hz=>?_
 obtain ⟨x,H1,I1,r1,q1⟩:=hz
 refine thn (hb pins s1 σ H1 _ I1 q1) fun u s2 hz=>?_
 obtain ⟨y,H2,I2,r2,q2⟩:=hz
 exact hf v u s2 x y H2 I2 r1 r2 q2
theorem pe_op {op:Operator} {r:R2} (ho:OpR X (binaryOp op) r) (ha:PE X a ta) (hb:PE X b tb):PE X (.BinOp a op b pos) (tOp r ta tb):=by
 intro pins s σ H Q I h
 exact wpAny_BinOp (binT ha hb I h fun v u s2 x y H2 I2 rx ry q=>ho pins s2 σ H2 x y v u Q I2 rx ry q)
theorem pe_un {op:UnaryOp} {r:V->Hp->VK->Prop} (ho:UnR X (unaryOp op) r) (ha:PE X a ta):PE X (.UnaryOp op a pos) (tUn r ta):=by
 intro pins s σ H Q I h
 exact UnaryOp_ (thn (ha pins s σ H _ I h) fun v s1 ⟨x,H1,I1,r1,q1⟩=>ho pins s1 σ H1 x v Q I1 r1 q1)
theorem opI {f:Value->Value->Sem Value} {C:Int->Int->Prop} {g:Int->Int->Int}
  (rule:∀ (i j:Int) (t u:Tok) (s:Shared) (Q:Value->Shared->Prop) (E:Value->Shared->Prop),C i j->Q (.int (g i j) s.toks) { s with toks:=s.toks+1 }->wpAny (model X.prog X.w) X.A (f (.int i t) (.int j u)) Q E s):
  OpR X f (rI C fun i j=>.int (g i j)):=by
 intro pins s σ H x y v u Q I rx ry h
 obtain ⟨i,j,rfl,rfl,hc,q⟩:=h
 obtain ⟨t,rfl⟩:=rx
 obtain ⟨t',rfl⟩:=ry
 exact rule i j t t' s _ _ hc ⟨.int (g i j),H,I.tok _,⟨_,rfl⟩,q⟩
theorem opI0 {f:Value->Value->Sem Value} {g:Int->Int->Int}
  (rule:∀ (i j:Int) (t u:Tok) (s:Shared) (Q:Value->Shared->Prop) (E:Value->Shared->Prop),Q (.int (g i j) s.toks) { s with toks:=s.toks+1 }->wpAny (model X.prog X.w) X.A (f (.int i t) (.int j u)) Q E s):
  OpR X f (rI0 fun i j=>.int (g i j)):=by
 intro pins s σ H x y v u Q I rx ry h
 obtain ⟨i,j,rfl,rfl,q⟩:=h
 obtain ⟨t,rfl⟩:=rx
 obtain ⟨t',rfl⟩:=ry
 exact rule i j t t' s _ _ ⟨.int (g i j),H,I.tok _,⟨_,rfl⟩,q⟩
theorem opB0 {f:Value->Value->Sem Value} {g:Int->Int->Bool}
  (rule:∀ (i j:Int) (t u:Tok) (s:Shared) (Q:Value->Shared->Prop) (E:Value->Shared->Prop),Q (.bool (g i j)) s->wpAny (model X.prog X.w) X.A (f (.int i t) (.int j u)) Q E s):
  OpR X f (rI0 fun i j=>.bl (g i j)):=by
 intro pins s σ H x y v u Q I rx ry h
 obtain ⟨i,j,rfl,rfl,q⟩:=h
 obtain ⟨t,rfl⟩:=rx
 obtain ⟨t',rfl⟩:=ry
 exact rule i j t t' s _ _ ⟨.bl (g i j),H,I,rfl,q⟩
def CDiv (i j:Int):Prop:=0 < j/\j < 1073741824
def CPow (i j:Int):Prop:=0<=j/\j<=1000000/\i.natAbs < 2 ^ 64
def CMul (i j:Int):Prop:=(-(2 ^ 64) < i/\i < 2 ^ 64)\/(-(2 ^ 64) < j/\j < 2 ^ 64)
theorem CMul.ok {i j:Int} (h:CMul i j):IntMulOk i j:=by
 rcases h with ⟨h1,h2⟩ | ⟨h1,h2⟩
 ·exact .of_left (intBits_le_64 h1 h2)
 ·exact .of_right (intBits_le_64 h1 h2)
theorem op_add:OpR X (binaryOp .Add) (rI0 fun i j=>.int (i+j)):=opI0 fun _ _ _ _ _ _ _ q=>add_int q
theorem op_sub:OpR X (binaryOp .Sub) (rI0 fun i j=>.int (i - j)):=opI0 fun _ _ _ _ _ _ _ q=>sub_int q
theorem op_mul:OpR X (binaryOp .Mult) (rI CMul fun i j=>.int (i*j)):=opI fun _ _ _ _ _ _ _ hc q=>mul_int q hc.ok
theorem op_fdiv:OpR X (binaryOp .FloorDiv) (rI CDiv fun i j=>.int (i / j)):=opI fun i j _ _ _ _ _ hc q=>by
 have h1:(0:Int) < j:=hc.1
 have h2:j < 1073741824:=hc.2
 exact floordiv_int (by omega) (by rw [Int.fdiv_eq_ediv_of_nonneg i (by omega)]; exact q) (.inl (PyProof.noPylong_small (by omega)))
theorem op_mod:OpR X (binaryOp .Mod) (rI (fun _ j=>0 < j) fun i j=>.int (i % j)):=opI fun i j _ _ _ _ _ hc q=>by
 have h1:(0:Int) < j:=hc
 exact mod_int' (by omega) (by rw [Int.fmod_eq_emod_of_nonneg i (by omega)]; exact q)
theorem op_pow:OpR X (binaryOp .Pow) (rI CPow fun i j=>.int (i ^ j.toNat)):=opI fun _ _ _ _ _ _ _ hc q=>pow_int_small hc.1 hc.2.1 hc.2.2 q
theorem unI {f:Value->Sem Value} {g:Int->Int}
  (rule:∀ (i:Int) (t:Tok) (s:Shared) (Q:Value->Shared->Prop) (E:Value->Shared->Prop),Q (.int (g i) s.toks) { s with toks:=s.toks+1 }->wpAny (model X.prog X.w) X.A (f (.int i t)) Q E s):
  UnR X f (rU fun i=>.int (g i)):=by
 intro pins s σ H x v Q I rx h
 obtain ⟨i,rfl,q⟩:=h
 obtain ⟨t,rfl⟩:=rx
 exact rule i t s _ _ ⟨.int (g i),H,I.tok _,⟨_,rfl⟩,q⟩
theorem un_neg:UnR X (unaryOp .USub) (rU fun i=>.int (-i)):=unI fun _ _ _ _ _ q=>neg_int q
end
section
variable {X:Cx} {a b c:Expr} {ta tb tc:TE} {pos:Pos}
theorem fin_bl {pins:List (Addr×Obj)} {σ:St} {H:Hp} {s:Shared} {Q:VK} {k k':Bool} (I:Inv X pins σ H s) (q:Q (.bl k) H) (e:k=k'):EP X pins σ Q (.bool k') s:=by
 subst e
 exact ⟨.bl k,H,I,rfl,q⟩
theorem op_lt:OpR X (compareOp .Lt) (rI0 fun i j=>.bl (decide (i < j))):=opB0 fun _ _ _ _ _ _ _ q=>lt_int q
theorem op_gt:OpR X (compareOp .Gt) (rI0 fun i j=>.bl (decide (j < i))):=opB0 fun _ _ _ _ _ _ _ q=>gt_int q
theorem op_ge:OpR X (compareOp .GtE) (rI0 fun i j=>.bl (decide (j<=i))):=opB0 fun _ _ _ _ _ _ _ q=>ge_int q
theorem op_lt_str:OpR X (compareOp .Lt) (fun x y H Q=>∃ i j,x=.str i/\y=.str j/\Q (.bl (decide (i.cps.toList < j.cps.toList))) H):=by
 intro pins s σ H x y v u Q I rx ry h
 obtain ⟨i,j,rfl,rfl,q⟩:=h
 obtain ⟨t,rfl⟩:=rx
 obtain ⟨t',rfl⟩:=ry
 exact lt_str (fin_bl I q rfl)
theorem OpR.or {f:Value->Value->Sem Value} {r r':R2} (h:OpR X f r) (h':OpR X f r'):OpR X f (fun x y H Q=>r x y H Q\/r' x y H Q):=by
 intro pins s σ H x y v u Q I rx ry q
 rcases q with q | q
 ·exact h pins s σ H x y v u Q I rx ry q
 ·exact h' pins s σ H x y v u Q I rx ry q
theorem nomark (b:Expr) {op:CmpOp} (h:op≠.In:=by decide) (h2:op≠.NotIn:=by decide):behindInMarks op b=false:=by
 have e1:(op == CmpOp.In)=false:=by cases op <;> first | rfl | exact absurd rfl h
 have e2:(op == CmpOp.NotIn)=false:=by cases op <;> first | rfl | exact absurd rfl h2
 cases b <;> simp [behindInMarks,e1,e2]
theorem pe_cmpR {op:CmpOp} {r:R2} (ho:OpR X (compareOp op) r) (ha:PE X a ta) (hb:PE X b tb) (hm:behindInMarks op b=false):PE X (.Compare a [op] [b] pos) (tOp r ta tb):=by
 intro pins s σ H Q I h
 exact wpAny_Compare1 (binT ha hb I h fun v u s2 x y H2 I2 rx ry q=>ho pins s2 σ H2 x y v u Q I2 rx ry q) hm
def TruV (K:PySem.W.Frag) (x:V) (H:Hp) (k:Bool):Prop:=
 match x with
 | .non=>k=false
 | .bl b=>k=b
 | .int i=>k=(i != 0)
 | .str y=>y.length<=sizeLine/\k=((y.length:Int) != 0)
 | .byt y=>y.size<=sizeLine/\k=((y.size:Int) != 0)
 | .ref p=>(∃ xs,SqL K H p xs/\k=!xs.isEmpty)\/(∃ xs,SqT K H p xs/\k=!xs.isEmpty)\/∃ kvs,H p=some (.dK kvs)/\k=!kvs.isEmpty
 | _=>False
theorem isEmpty_kv {κ:Type} {kvs:List (κ×V)} {vs:List (κ×Value)} (r:KV kvs vs):(!vs.isEmpty)=!kvs.isEmpty:=by
 cases r <;> rfl
theorem isEmpty_of {xs:List V} {its:List Value} (r:Vals xs its):(!its.toArray.isEmpty)=!xs.isEmpty:=by
 cases r <;> simp
theorem line63:(sizeLine:Nat) < 2 ^ 63:=by rw [sizeLine_eq]; decide
theorem tru_ok:TruR X (fun x H Q=>∃ k,TruV X.K x H k/\Q k H):=by
 intro pins s σ H x v Q I rx h
 obtain ⟨k,e,q⟩:=h
 have hl:=line63
 have hs:sizeLine=16777216:=sizeLine_eq
 cases x with
 | non=>
  cases rx
  have e':k=false:=e
  subst e'
  exact truthy_none ⟨H,I,q⟩
 | bl b=>
  cases rx
  have e':k=b:=e
  subst e'
  exact wpAny_truthy_bool ⟨H,I,q⟩
 | int i=>
  obtain ⟨t,rfl⟩:=rx
  have e':k=(i != 0):=e
  subst e'
  exact PySem.P.truthy_int ⟨H,I,q⟩
 | str y=>
  obtain ⟨t,rfl⟩:=rx
  obtain ⟨hy,e'⟩:y.length<=sizeLine/\k=((y.length:Int) != 0):=e
  subst e'
  exact PySem.P.truthy_str (by omega) ⟨H,I.tok _,q⟩
 | byt y=>
  obtain ⟨t,rfl⟩:=rx
  obtain ⟨hy,e'⟩:y.size<=sizeLine/\k=((y.size:Int) != 0):=e
  subst e'
  exact PySem.W.truthy_bytes (by omega) ⟨H,I.tok _,q⟩
 | ref p=>
  cases rx
  have e':(∃ xs,SqL X.K H p xs/\k=!xs.isEmpty)\/(∃ xs,SqT X.K H p xs/\k=!xs.isEmpty)\/∃ kvs,H p=some (.dK kvs)/\k=!kvs.isEmpty:=e
  rcases e' with ⟨xs,hx,e'⟩ | ⟨xs,hx,e'⟩ | ⟨kvs,hx,e'⟩
  ·subst e'
   obtain ⟨its,r,pl,hz⟩:=I.list hx
   have hlen:=r.length
   exact wpAny_truthy_list pl.isList (by simp only [List.size_toArray]; omega) ⟨H,I.tok _,by rw [isEmpty_of r]; exact q⟩
  ·subst e'
   obtain ⟨its,r,pl,hz⟩:=I.tuple hx
   have hlen:=r.length
   exact truthy_tuple pl (by simp only [List.size_toArray]; omega) ⟨H,I.tok _,by rw [isEmpty_of r]; exact q⟩
  ·subst e'
   obtain ⟨hz,hS,vs,r,m⟩:kvs.length<=sizeLine/\(p == sysModules)=false/\∃ vs,KV kvs vs/\s.heap.DictOf (mixKind X.prog X.w) p vs:=I.hok p _ hx
   have hlen:kvs.length=vs.length:=Paired.length r
   exact wpAny_truthy_dict hS m (by omega) ⟨H,I.tok _,by rw [isEmpty_kv r]; exact q⟩
 | _=>exact (show False from e).elim
theorem pt_truth (ha:PE X a ta) (he:∀ whole,isTrue a X.env whole=(do let v <- whole; standAt a.pos; holding [v] (truthy v))):
  PT X a (fun σ H Q=>ta σ H fun x H'=>∃ k,TruV X.K x H' k/\Q k H'):=by
 intro pins s σ H Q I h
 exact isTrue_plain (thn (ha pins s σ H _ I h) fun v s1 ⟨x,H1,I1,r1,q1⟩=>tru_ok pins s1 σ H1 x v Q I1 r1 q1) (he _)
theorem op_add_str:OpR X (binaryOp .Add) (fun x y H Q=>∃ i j,x=.str i/\y=.str j/\i.length+j.length<=sizeLine/\Q (.str (i++j)) H):=by
 intro pins s σ H x y v u Q I rx ry h
 obtain ⟨i,j,rfl,rfl,hz,q⟩:=h
 obtain ⟨t,rfl⟩:=rx
 obtain ⟨t',rfl⟩:=ry
 exact add_str (fun t' tk=>⟨.str (i++j),H,I.tok _,⟨_,rfl⟩,q⟩) hz
theorem vals1 {x:V} {us:List Value} (r:Vals [x] us):∃ u,us=[u]/\RelV x u:=by
 cases r with
 | cons r1 r2=>cases r2; exact ⟨_,rfl,r1⟩
theorem vals2 {x y:V} {us:List Value} (r:Vals [x,y] us):∃ u w',us=[u,w']/\RelV x u/\RelV y w':=by
 cases r with
 | cons r1 r2=>
  cases r2 with
  | cons r3 r4=>cases r4; exact ⟨_,_,rfl,r1,r3⟩
def LenV (K:PySem.W.Frag) (x:V) (H:Hp) (n:Nat):Prop:=
 match x with
 | .str y=>y.length<=sizeLine/\n=y.length
 | .byt y=>y.size<=sizeLine/\n=y.size
 | .ref p=>(∃ xs,SqL K H p xs/\n=xs.length)\/∃ xs,SqT K H p xs/\n=xs.length
 | _=>False
theorem call_len:CallR X (.builtin "len") (fun xs H Q=>∃ x n,xs=[x]/\LenV X.K x H n/\Q (.int n) H):=by
 intro pins s σ H xs us Q I r h
 obtain ⟨x,n,rfl,e,q⟩:=h
 obtain ⟨u,rfl,rx⟩:=vals1 r
 have hl:=line63
 have hs:sizeLine=16777216:=sizeLine_eq
 cases x with
 | str y=>
  obtain ⟨t,rfl⟩:=rx
  obtain ⟨hy,e'⟩:y.length<=sizeLine/\n=y.length:=e
  subst e'
  exact len_str (by omega) ⟨.int _,H,I.tok _,⟨_,rfl⟩,q⟩
 | byt y=>
  obtain ⟨t,rfl⟩:=rx
  obtain ⟨hy,e'⟩:y.size<=sizeLine/\n=y.size:=e
  subst e'
  exact PySem.W.len_bytes (by omega) ⟨.int _,H,I.tok _,⟨_,rfl⟩,q⟩
 | ref p=>
  cases rx
  have e':(∃ xs,SqL X.K H p xs/\n=xs.length)\/∃ xs,SqT X.K H p xs/\n=xs.length:=e
  rcases e' with ⟨xs,hx,e'⟩ | ⟨xs,hx,e'⟩
  ·subst e'
   obtain ⟨its,r',pl,hz⟩:=I.list hx
   have hlen:=r'.length
   exact Calls.call_len_list pl.isList (by simp only [List.size_toArray]; omega) ⟨.int xs.length,H,I.tok _,⟨_,by simp only [List.size_toArray]; rw [hlen]⟩,q⟩
  ·subst e'
   obtain ⟨its,r',pl,hz⟩:=I.tuple hx
   have hlen:=r'.length
   exact len_tuple pl (by simp only [List.size_toArray]; omega) ⟨.int xs.length,H,I.tok _,⟨_,by simp only [List.size_toArray]; rw [hlen]⟩,q⟩
 | _=>exact (show False from e).elim
end
end L2
namespace L2
open PySem PySem.Spec PyProof.Rows
structure ObjM (h:Heap) (x dx C:Addr) (mA:Str->Option Value):Prop where
 obj:h.get? x=some (PySem.W.instObj C dx)
 ns:h.Ns1 dx mA
 ne:dx≠x
theorem lookIn_ns {h:Heap} {dx:Addr} {mA:Str->Option Value} (n:h.Ns1 dx mA):∃ od,h.get? dx=some od/\∀ name,PySem.W.lookIn name od=some (mA name):=by
 obtain ⟨o,es,ep,ho,hd,hk,_,hm⟩:=n
 refine ⟨o,ho,fun name=>?_⟩
 have e:=hm name
 unfold nsFind findBy at e
 rw [<- Array.find?_toList] at e
 unfold PySem.W.lookIn
 rw [hd]
 dsimp only
 split
 ·rename_i y q
  rw [q] at e
  exact congrArg some e
 ·rename_i q
  rw [q] at e
  have a:es.toList.any (·.refKey)=false:=by
   rw [List.any_eq_false]
   intro y hy
   obtain ⟨z,t,hkey⟩:=hk y (Array.mem_toList_iff.mp hy)
   simp [DictEntry.refKey,hkey]
  have a':¬ es.toList.any (·.refKey)=true:=by rw [a]; exact Bool.false_ne_true
  rw [if_neg a']
  exact congrArg some e
theorem ObjM.look {h:Heap} {x dx C:Addr} {mA:Str->Option Value} (I:ObjM h x dx C mA):∃ od,PySem.W.InstAt h x (PySem.W.instObj C dx) C (some od)/\∀ name,PySem.W.lookIn name od=some (mA name):=
 let ⟨od,ho,hl⟩:=lookIn_ns I.ns
 ⟨od,⟨I.obj,rfl,rfl,ho⟩,hl⟩
section
variable {prog:Program} {w:World} {A:Around} {E:Value->Shared->Prop} {s:Shared} {K:PySem.W.Frag} {x dx C f:Addr} {mA:Str->Option Value} {name:Str} {v:Value}
theorem get_map {expr:Bool} {Q:Value->Shared->Prop} (X:K.In s.heap) (I:ObjM s.heap x dx C mA) (hg:PySem.W.plainGet K C name=true) (hh:PySem.W.hasDictIn K C=true)
  (ha:PySem.W.findIn K (.ref C) name=some none) (hv:mA name=some v) (hv':PySem.W.handedIn v=true) (h:Q v { s with toks:=s.toks+1 }):
  wpAny (model prog w) A (getAttr (.ref x) name expr) Q E s:=by
 obtain ⟨od,J,hl⟩:=I.look
 exact PySem.W.get_value X J (PySem.W.plainGet_of hg).1 (PySem.W.findObj_own hh ha rfl (by rw [hl,hv])) hv' h
theorem get_meth {pl:Sem Bool} {Q:Value×List Value->Shared->Prop} (X:K.In s.heap) (I:ObjM s.heap x dx C mA) (hg:PySem.W.plainGet K C name=true)
  (hf:PySem.W.findIn K (.ref C) name=some (some (.ref f))) (ht:PySem.W.isFn K (.ref f)=true) (hv:mA name=none) (h:Q (.ref f,[.ref x]) s):
  wpAny (model prog w) A (getMethod (.ref x) name pl) Q E s:=by
 obtain ⟨od,J,hl⟩:=I.look
 exact PySem.W.method_fn X J (PySem.W.plainGet_of hg).1 (PySem.W.plainGet_of hg).2 hf (beq_iff_eq.mp ht) (by show (PySem.W.lookIn name od).map (·.isSome)=some false; rw [hl,hv]; rfl) h
theorem set_map {ns:List Str} {Q:Unit->Shared->Prop} (X:K.In s.heap) (I:ObjM s.heap x dx C mA)
  (hs:PySem.W.findIn K (.ref C) "__setattr__" = some (some (.builtin "object.__setattr__"))) (hp:PySem.W.plainOver K C=true) (ht:PySem.W.takerIn K C name=some none) (hh:PySem.W.hasDictIn K C=true)
  (hw:PySem.Within mA ns) (hsz:ns.length<=sizeLine)
  (h:∀ h',ObjM h' x dx C (fun y=>if y=name then some v else mA y)->Heap.SameBut dx s.heap h'->Q () { s with heap:=h',toks:=s.toks+2 }):
  wpAny (model prog w) A (setAttr (.ref x) name v) Q E s:=by
 obtain ⟨od,J,hl⟩:=I.look
 refine PySem.W.set_plain X J hs (PySem.W.osa_open (s:={ s with toks:=s.toks+1 }) (r:=none) X J hp ht fun b=>?_)
 obtain ⟨cd,hc,hd'⟩:=PySem.W.any_some hh
 have hx:s.heap.get? x=some ⟨.ref C,some dx,.plain,#[]⟩:=I.obj
 refine wpAny_bind (wpAny_pure (wpAny_bind (wpAny_bind (wpAny_loadPart hx (wpAny_bind (PySem.W.Looks.here (s:={ s with toks:=s.toks+1 }) (PySem.W.looks_clsIn X hc) ?_))))))
 rw [hd']
 refine wpAny_pure (a:=some dx) (wpAny_bind (wpAny_pure (wpAny_bind ?_)))
 refine wpAny_nsSet1 (s:={ s with toks:=s.toks+1 }) I.ns fun h' hn2 hs2=>?_
 obtain ⟨oD,esD,epD,hoD,hdD,hcD⟩:=hn2.count (PySem.Within.cons name v hw)
 refine wpAny_bind (wpAny_lookBehind hoD (by rw [hdD]; exact pastItsLine_dict (Nat.le_trans hcD (by rw [List.length_cons]; omega))) ?_)
 exact wpAny_pure (h _ ⟨(hs2.2 _ (Ne.symm I.ne)).trans I.obj,hn2,I.ne⟩ hs2)
theorem make_map {R:Result->Shared->Prop} {vs:List Value} {kw:List (Str×Value)} (X:K.In s.heap) (hm:PySem.W.makesIn K C=true)
  (hi:PySem.W.findIn K (.ref C) "__init__" = some (some (.ref f))) (hf:PySem.W.typeIn K (.ref f)=some (.type "function"))
  (h:codeAny (model prog w) (A.under (.builtin "type.__call__" ⟨.ref C :: vs,kw⟩)) (.call (.ref f) ⟨.ref (s.heap.objs.size+1) :: vs,kw⟩) (PySem.W.InitBack (s.heap.objs.size+1) R)
   { s with heap:=(s.heap.push PySem.W.emptyDict).push (PySem.W.instObj C s.heap.objs.size) }):
  codeAny (model prog w) A (.call (.ref C) ⟨vs,kw⟩) R s:=by
 obtain ⟨hh,g,d,t,os⟩:=s
 exact PySem.W.make_core (PySem.W.makes_of X hm) (PySem.W.looks_findIn X hi) (fun self=>PySem.W.bind_fn X self hf) (.inl rfl) h
end
def putF (f:Str) (v:V):List (Str×V)->List (Str×V)
 | []=>[(f,v)]
 | (g,x) :: r=>if g=f then (g,v) :: r else (g,x) :: putF f v r
theorem lookup_putF (f g:Str) (v:V):∀ fs:List (Str×V),(putF f v fs).lookup g=if g=f then some v else fs.lookup g
 | []=>by
  show List.lookup g [(f,v)]=_
  by_cases h:g=f
  ·have hb:(g == f)=true:=beq_iff_eq.mpr h
   simp only [List.lookup,hb,if_pos h]
  ·have hb:(g == f)=false:=beq_eq_false_iff_ne.mpr h
   simp only [List.lookup,hb,if_neg h]
 | (k,x) :: r=>by
  have ih:=lookup_putF f g v r
  rw [show putF f v ((k,x) :: r)=(if k=f then (k,v) :: r else (k,x) :: putF f v r) from rfl]
  by_cases hk:k=f
  ·rw [if_pos hk]
   by_cases h:g=k
   ·have hb:(g == k)=true:=beq_iff_eq.mpr h
    simp only [List.lookup,hb,if_pos (h.trans hk)]
   ·have hb:(g == k)=false:=beq_eq_false_iff_ne.mpr h
    simp only [List.lookup,hb,if_neg (fun e:g=f=>h (e.trans hk.symm))]
  ·rw [if_neg hk]
   by_cases h:g=k
   ·have hb:(g == k)=true:=beq_iff_eq.mpr h
    simp only [List.lookup,hb,if_neg (fun e:g=f=>hk (h.symm.trans e))]
   ·have hb:(g == k)=false:=beq_eq_false_iff_ne.mpr h
    simp only [List.lookup,hb]
    exact ih
theorem keys_putF (f:Str) (v:V):∀ fs:List (Str×V),f∈(putF f v fs).map (·.1)/\∀ g,g∈fs.map (·.1)->g∈(putF f v fs).map (·.1)
 | []=>⟨by simp [putF],fun g h=>by simp at h⟩
 | (k,x) :: r=>by
  obtain ⟨i1,i2⟩:=keys_putF f v r
  rw [show putF f v ((k,x) :: r)=(if k=f then (k,v) :: r else (k,x) :: putF f v r) from rfl]
  by_cases hk:k=f
  ·rw [if_pos hk]
   subst hk
   exact ⟨by simp,fun g h=>by simpa using h⟩
  ·rw [if_neg hk]
   refine ⟨?_,fun g h=>?_⟩
   ·rw [List.map_cons]
    exact List.mem_cons_of_mem _ i1
   ·rw [List.map_cons] at h ⊢
    rcases List.mem_cons.mp h with e | e
    ·exact List.mem_cons.mpr (.inl e)
    ·exact List.mem_cons_of_mem _ (i2 g e)
theorem length_putF (f:Str) (v:V):∀ fs:List (Str×V),(putF f v fs).length<=fs.length+1
 | []=>by simp [putF]
 | (k,x) :: r=>by
  have ih:=length_putF f v r
  rw [show putF f v ((k,x) :: r)=(if k=f then (k,v) :: r else (k,x) :: putF f v r) from rfl]
  by_cases hk:k=f
  ·rw [if_pos hk,List.length_cons,List.length_cons]; omega
  ·rw [if_neg hk,List.length_cons,List.length_cons]; omega
theorem RelO.some_of {v:V} {o:Option Value} (r:RelO (some v) o):∃ u,o=some u/\RelV v u:=by
 cases o with
 | none=>exact (show False from r).elim
 | some u=>exact ⟨u,rfl,r⟩
theorem RelO.none_of {o:Option Value} (r:RelO none o):o=none:=by
 cases o with
 | none=>rfl
 | some u=>exact (show False from r).elim
theorem handed_of {v:V} {u:Value} (r:RelV v u):PySem.W.handedIn u=true:=by
 cases v with
 | non=>cases (show u=Value.none from r); rfl
 | bl b=>cases (show u=Value.bool b from r); rfl
 | int i=>obtain ⟨t,e⟩:=(show ∃ t,u=Value.int i t from r); cases e; rfl
 | str x=>obtain ⟨t,e⟩:=(show ∃ t,u=Value.str x t from r); cases e; rfl
 | byt b=>obtain ⟨t,e⟩:=(show ∃ t,u=Value.bytes b t from r); cases e; rfl
 | flt b=>obtain ⟨t,e⟩:=(show ∃ t,u=Value.float b t from r); cases e; rfl
 | ref a=>cases (show u=Value.ref a from r); rfl
 | ty n=>cases (show u=Value.type n from r); rfl
section
variable {P:Program} {w:World} {H H':Hp} {h h':Heap} {a C dx:Addr} {fs fs':List (Str×V)}
theorem ins_get (hok:HOk P w H h) (e:H a=some (.ins C dx fs)):∃ mA,ObjM h a dx C mA/\(∀ f,RelO (fs.lookup f) (mA f))/\PySem.Within mA (fs.map (·.1))/\fs.length<=1000/\H dx=some (.own a):=by
 obtain ⟨d,z,ne,ob,mA,n,r,q⟩:=(show ObjOk P w H h a (.ins C dx fs) from hok a _ e)
 exact ⟨mA,⟨ob,n,ne⟩,r,q,z,d⟩
end
structure Cls (K:PySem.W.Frag) (C:Addr):Prop where
 pg:PySem.W.plainGet K C Str.empty=true
 hd:PySem.W.hasDictIn K C=true
 po:PySem.W.plainOver K C=true
 sa:PySem.W.findIn K (.ref C) "__setattr__" = some (some (.builtin "object.__setattr__"))
theorem Cls.get {K:PySem.W.Frag} {C:Addr} (c:Cls K C) (f:Str):PySem.W.plainGet K C f=true:=c.pg
def NoAttr (K:PySem.W.Frag) (C:Addr) (f:Str):Prop:=PySem.W.findIn K (.ref C) f=some none
theorem NoAttr.taker {K:PySem.W.Frag} {C:Addr} {f:Str} (n:NoAttr K C f):PySem.W.takerIn K C f=some none:=by
 unfold PySem.W.takerIn
 rw [show PySem.W.findIn K (.ref C) f=some none from n]
 rfl
structure Con (K:PySem.W.Frag) (C:Addr) (f:Str) (v:V) (u:Value):Prop where
 at_:PySem.W.findIn K (.ref C) f=some (some u)
 rel:RelV v u
 get:PySem.W.specialIn K u "__get__" = some none
 cp:PySem.W.copiedNames.contains f=false
structure Meth (K:PySem.W.Frag) (C:Addr) (m:Str) (f:Addr):Prop where
 at_:PySem.W.findIn K (.ref C) m=some (some (.ref f))
 fn:PySem.W.isFn K (.ref f)=true
 kp:PySem.W.keepIn K (.ref f)=true
section
variable {X:Cx} {pins:List (Addr×Obj)} {σ:St} {H:Hp} {s:Shared} {a C dx:Addr} {fs:List (Str×V)} {f:Str} {v:V} {A:Around} {E:Value->Shared->Prop}
theorem getattr_ok {b:Bool} {Q:Value->Shared->Prop} (I:Inv X pins σ H s) (e:H a=some (.ins C dx fs)) (c:Cls X.K C) (n:NoAttr X.K C f) (l:fs.lookup f=some v)
  (h:∀ u s',Inv X pins σ H s'->RelV v u->Q u s'):wpAny (model X.prog X.w) A (getAttr (.ref a) f b) Q E s:=by
 obtain ⟨mA,O,r,_,_,_⟩:=ins_get I.hok e
 obtain ⟨u,hu,ru⟩:=RelO.some_of (v:=v) (o:=mA f) (by rw [<- l]; exact r f)
 exact get_map I.kIn O (c.get f) c.hd n hu (handed_of ru) (h u _ (I.tok _) ru)
theorem getmeth_ok {m:Str} {g:Addr} {pl:Sem Bool} {Q:Value×List Value->Shared->Prop} (I:Inv X pins σ H s) (e:H a=some (.ins C dx fs)) (c:Cls X.K C) (k:Meth X.K C m g) (l:fs.lookup m=none)
  (h:Q (.ref g,[.ref a]) s):wpAny (model X.prog X.w) A (getMethod (.ref a) m pl) Q E s:=by
 obtain ⟨mA,O,r,_,_,_⟩:=ins_get I.hok e
 have hn:mA m=none:=RelO.none_of (by rw [<- l]; exact r m)
 exact get_meth I.kIn O (c.get m) k.at_ k.fn hn h
theorem setattr_ok {y:V} {u:Value} {Q:Unit->Shared->Prop} (I:Inv X pins σ H s) (e:H a=some (.ins C dx fs)) (c:Cls X.K C) (n:NoAttr X.K C f) (hl:fs.length < 1000) (ry:RelV y u)
  (h:∀ s',Inv X pins σ (upd H a (.ins C dx (putF f y fs))) s'->Q () s'):wpAny (model X.prog X.w) A (setAttr (.ref a) f u) Q E s:=by
 obtain ⟨mA,O,r,wi,_,ho⟩:=ins_get I.hok e
 have hz:(fs.map (·.1)).length<=sizeLine:=by rw [List.length_map,sizeLine_eq]; omega
 refine set_map I.kIn O c.sa c.po n.taker c.hd wi hz fun h' O' sb=>h _ ?_
 have hd:∃ o,h'.get? dx=some o:=let ⟨o,_,_,e',_⟩:=O'.ns; ⟨o,e'⟩
 refine I.write (x:=a) (e:=dx) (by rw [e]; exact True.intro) (.inr ho) (fun b q hb z=>(sb.2 b hb).trans z) hd ?_
 refine ⟨by rw [upd_ne O.ne]; exact ho,?_,O.ne,O'.obj,_,O'.ns,fun g=>?_,fun g hg=>?_⟩
 ·have:=length_putF f y fs; omega
 ·show RelO ((putF f y fs).lookup g) (if g=f then some u else mA g)
  rw [lookup_putF]
  by_cases q:g=f
  ·rw [if_pos q,if_pos q]; exact ry
  ·rw [if_neg q,if_neg q]; exact r g
 ·by_cases q:g=f
  ·rw [q]; exact (keys_putF f y fs).1
  ·refine (keys_putF f y fs).2 g (wi g fun z=>hg ?_)
   show (if g=f then some u else mA g)=none
   rw [if_neg q]; exact z
theorem Inv.made (I:Inv X pins σ H s):Inv X pins σ (upd (upd H s.heap.objs.size (.own (s.heap.objs.size+1))) (s.heap.objs.size+1) (.ins C s.heap.objs.size []))
  { s with heap:=(s.heap.push PySem.W.emptyDict).push (PySem.W.instObj C s.heap.objs.size) }:=by
 have e1:(s.heap.push PySem.W.emptyDict).get? s.heap.objs.size=some PySem.W.emptyDict:=Heap.get?_push_size s.heap rfl
 have e2:((s.heap.push PySem.W.emptyDict).push (PySem.W.instObj C s.heap.objs.size)).get? (s.heap.objs.size+1)=some (PySem.W.instObj C s.heap.objs.size):=by
  have:=Heap.get?_push_size (s.heap.push PySem.W.emptyDict) (o:=PySem.W.instObj C s.heap.objs.size) rfl
  rwa [Heap.size_push] at this
 have e3:(s.heap.push PySem.W.emptyDict).Ns s.heap.objs.size (fun _=>none):=⟨PySem.W.emptyDict,#[],_,e1,rfl,(fun e he=>absurd he (by simp)),fun _=>rfl⟩
 have I1:=I.laid (a:=s.heap.objs.size) (o:=.own (s.heap.objs.size+1)) (h':=s.heap.push PySem.W.emptyDict) (t':=s.toks) (fun b u q=>Heap.get?_push_of_some _ q) (Nat.le_refl _) ⟨_,e1⟩
 refine I1.laid (a:=s.heap.objs.size+1) (o:=.ins C s.heap.objs.size []) (t':=s.toks) (fun b u q=>Heap.get?_push_of_some _ q) (Nat.le_of_eq (Heap.size_push _ _)) ?_
 have ne:s.heap.objs.size≠s.heap.objs.size+1:=Nat.ne_of_lt (Nat.lt_succ_self _)
 refine ⟨by rw [upd_ne ne,upd_same],Nat.zero_le _,ne,e2,fun _=>none,(Heap.Ns1.of_empty e3).at fun o q=>Heap.get?_push_of_some _ q,fun _=>True.intro,fun y hy=>absurd rfl hy⟩
theorem attr_of {prog:Program} {w:World} {env:Env} {e:Expr} {f:Str} {pos:Pos} {s:Shared} {Q:Value->Shared->Prop} (hb:attributeBase e f env (eval e env)=eval e env)
  (h:wpAny (model prog w) A (eval e env) (fun o s₁=>wpAny (model prog w) A (getAttr o f true) Q E s₁) E s):wpAny (model prog w) A (eval (.Attribute e f pos) env) Q E s:=
 Attribute_any_ h (by rw [arm_eval_Attribute,hb])
end
def tFld (K:PySem.W.Frag) (ta:TE) (f:Str):TE:=fun σ H Q=>ta σ H fun x H1=>∃ a C dx fs v,x=.ref a/\H1 a=some (.ins C dx fs)/\Cls K C/\NoAttr K C f/\fs.lookup f=some v/\Q v H1
def sFld (K:PySem.W.Frag) (ta tv:TE) (f:Str):TS:=fun D σ H=>tv σ H fun y H1=>ta σ H1 fun x H2=>∃ a C dx fs,x=.ref a/\H2 a=some (.ins C dx fs)/\Cls K C/\NoAttr K C f/\fs.length < 1000/\
 D.nx σ (upd H2 a (.ins C dx (putF f y fs)))
section
variable {X:Cx} {o e value:Expr} {f:Str} {pos pos' tpos:Pos} {ta tv:TE}
theorem pe_fld (he:PE X e ta) (hb:attributeBase e f X.env (eval e X.env)=eval e X.env):PE X (.Attribute e f pos) (tFld X.K ta f):=by
 intro pins s σ H Q I h
 refine attr_of hb (thn (he pins s σ H _ I h) fun u s1 hz=>?_)
 obtain ⟨x,H1,I1,rx,a,C,dx,fs,v,ex,ea,c,n,l,q⟩:=hz
 subst ex
 obtain rfl:u=Value.ref a:=rx
 exact getattr_ok I1 ea c n l fun u' s2 I2 ru=>⟨v,H1,I2,ru,q⟩
theorem ps_fld (ha:PE X o ta) (hv:PE X value tv) (hs:swapsWith value (some (.Attribute o f pos')) pos.line X.env=pure false):PS X (.Assign [.Attribute o f pos'] value pos) (sFld X.K ta tv f):=by
 intro pins s σ H D I h
 refine plainObj_wpAny_Assign_Attribute (thn (hv pins s σ H _ I h) fun u s1 ⟨y,H1,I1,ry,q⟩=>thn (ha pins s1 σ H1 _ I1 q) fun ov s2 hz=>?_) hs
 obtain ⟨x,H2,I2,rx,a,C,dx,fs,ex,ea,c,n,l,q2⟩:=hz
 subst ex
 obtain rfl:ov=Value.ref a:=rx
 exact setattr_ok I2 ea c n l ry fun s3 I3=>⟨σ,_,I3,q2⟩
end
section
variable {X:Cx} {pins:List (Addr×Obj)} {σ:St} {H:Hp} {s:Shared} {A:Around} {E:Value->Shared->Prop} {Q:Value->Shared->Prop} {c:Value} {b:Bool}
inductive TyOf (K:PySem.W.Frag) (H:Hp):V->Value->Prop where
 | non:TyOf K H .non (.type "NoneType")
 | bl (x:Bool):TyOf K H (.bl x) (.type "bool")
 | int (i:Int):TyOf K H (.int i) (.type "int")
 | str (x:Str):TyOf K H (.str x) (.type "str")
 | flt (x:UInt64):TyOf K H (.flt x) (.type "float")
 | lst {a:Addr} {xs:List V} (e:H a=some (.lst xs)):TyOf K H (.ref a) (.type "list")
 | frz {a:Addr} {o:Obj} {xs:List V} (e:H a=some (.frz o (.lst xs))):TyOf K H (.ref a) (.type "list")
 | tup {a:Addr} {xs:List V} (e:H a=some (.tup xs)):TyOf K H (.ref a) (.type "tuple")
 | dK {a:Addr} {kvs:List (Key×V)} (e:H a=some (.dK kvs)):TyOf K H (.ref a) (.type "dict")
 | dT {a:Addr} {kvs:List (List Key×V)} (e:H a=some (.dT kvs)):TyOf K H (.ref a) (.type "dict")
 | ins {a C dx:Addr} {fs:List (Str×V)} (e:H a=some (.ins C dx fs)) (cl:Cls K C) (ha:PySem.W.findIn K (.ref C) "__class__" = some (some (.builtin "object.__class__")))
   (hn:PySem.W.specialIn K (.builtin "object.__class__") "__get__" = some (some (.builtin "getset_descriptor.__get__"))) (htk:PySem.W.takesIn K (.builtin "object.__class__")=some true)
   (hm:PySem.W.mroIn K C (.type "object")=some true):TyOf K H (.ref a) (.ref C)
theorem isinst_ok {x:V} {u t:Value} (I:Inv X pins σ H s) (rx:RelV x u) (ty:TyOf X.K H x t) (e:PySem.W.kitOne X.K t c=some b) (h:∀ tk,Q (.bool b) { s with toks:=tk }):
  wpAny (model X.prog X.w) A (call (.builtin "isinstance") [u,c]) Q E s:=by
 cases ty with
 | non=>cases (show u=Value.none from rx); exact PySem.W.kia_one PySem.W.kitx_none I.kIn True.intro e (fun z=>nomatch z) h
 | bl y=>cases (show u=Value.bool y from rx); exact PySem.W.kia_one PySem.W.kitx_bool I.kIn True.intro e (fun z=>nomatch z) h
 | int i=>obtain ⟨t,q⟩:=(show ∃ t,u=Value.int i t from rx); cases q; exact PySem.W.kia_one PySem.W.kitx_int I.kIn True.intro e (fun z=>nomatch z) h
 | str y=>obtain ⟨t,q⟩:=(show ∃ t,u=Value.str y t from rx); cases q; exact PySem.W.kia_one PySem.W.kitx_str I.kIn True.intro e (fun z=>nomatch z) h
 | flt y=>obtain ⟨t,q⟩:=(show ∃ t,u=Value.float y t from rx); cases q; exact PySem.W.kia_one PySem.W.kitx_float I.kIn True.intro e (fun z=>nomatch z) h
 | @lst a xs ea=>
  cases (show u=Value.ref a from rx)
  obtain ⟨_,_,n,_,h1⟩:=(show ObjOk X.prog X.w H s.heap a (.lst xs) from I.hok a _ ea)
  exact PySem.W.kia_one PySem.W.kitx_list I.kIn ⟨_,h1,rfl⟩ e (fun z=>nomatch z) h
 | @frz a ob xs ea=>
  cases (show u=Value.ref a from rx)
  obtain ⟨_,_,_,n,_,h1⟩:=(show ObjOk X.prog X.w H s.heap a (.frz ob (.lst xs)) from I.hok a _ ea)
  exact PySem.W.kia_one PySem.W.kitx_list I.kIn ⟨_,h1,rfl⟩ e (fun z=>nomatch z) h
 | @tup a xs ea=>
  cases (show u=Value.ref a from rx)
  obtain ⟨_,_,_,p⟩:=(show ObjOk X.prog X.w H s.heap a (.tup xs) from I.hok a _ ea)
  obtain ⟨o,h1,h2,_⟩:=p
  exact PySem.W.kia_one PySem.W.kitx_tuple I.kIn ⟨o,h1,h2⟩ e (fun z=>nomatch z) h
 | @dK a kvs ea=>
  cases (show u=Value.ref a from rx)
  obtain ⟨_,_,vs,_,p⟩:=(show ObjOk X.prog X.w H s.heap a (.dK kvs) from I.hok a _ ea)
  obtain ⟨o,es,ep,h1,h2,_⟩:=p
  exact PySem.W.kia_one PySem.W.kitx_dict I.kIn ⟨o,h1,h2.1⟩ e (fun z=>nomatch z) h
 | @dT a kvs ea=>
  cases (show u=Value.ref a from rx)
  obtain ⟨_,_,xs,_,o,es,ep,h1,h2,_⟩:=(show ObjOk X.prog X.w H s.heap a (.dT kvs) from I.hok a _ ea)
  exact PySem.W.kia_one PySem.W.kitx_dict I.kIn ⟨o,h1,h2.1⟩ e (fun z=>nomatch z) h
 | @ins a C dx fs ea cl ha hn htk hm=>
  cases (show u=Value.ref a from rx)
  obtain ⟨mA,O,_⟩:=ins_get I.hok ea
  obtain ⟨od,J,_⟩:=O.look
  exact PySem.W.kia_one (PySem.W.kitx_own (cl.get _) cl.hd ha hn htk hm) I.kIn J e (fun z=>nomatch z) h
end
end L2
namespace L2
open PySem PySem.Spec PyProof.Rows
structure Room (k:Nat) (A:Around):Prop where
 hd:A.handled=none
 dp:A.depth+3*k+5 < recursionLimit
 un:A.units+16*k+200 < cLine
theorem Room.mono {j k:Nat} {A:Around} (r:Room k A) (h:j<=k):Room j A:=⟨r.hd,by have:=r.dp; omega,by have:=r.un; omega⟩
theorem Room.deeper {k:Nat} {A:Around} (r:Room (k+1) A) (env:Env):Room k (A.deeper env):=
 ⟨r.hd,by have:=r.dp; show A.depth+1+3*k+5 < _; omega,by have:=r.un; show A.units+3+16*k+200 < _; omega⟩
theorem make_depth {A:Around} {C:Addr} {us:List Value} {kw:List (Str×Value)}:(A.under (.builtin "type.__call__" ⟨.ref C :: us,kw⟩)).depth=A.depth+1:=by
 first | rfl | simp [Around.under,Code.weight,Code.isCreation,Code.isGuard,Code.isCaller,Code.frames,Code.isFrame,guardIds]
theorem make_units {A:Around} {C:Addr} {us:List Value} {kw:List (Str×Value)}:(A.under (.builtin "type.__call__" ⟨.ref C :: us,kw⟩)).units=A.units+1:=by
 first | rfl | simp [Around.under,Code.cUnits,Code.frames,Code.isFrame]
theorem Room.make {k:Nat} {A:Around} (r:Room (k+1) A) (C:Addr) (us:List Value) (kw:List (Str×Value)):Room k (A.under (.builtin "type.__call__" ⟨.ref C :: us,kw⟩)):=
 ⟨r.hd,by have:=r.dp; rw [make_depth]; omega,by have:=r.un; rw [make_units]; omega⟩
theorem Room.depth {k:Nat} {A:Around} (r:Room k A):A.depth < recursionLimit:=by have:=r.dp; omega
theorem Room.units {k:Nat} {A:Around} (r:Room k A):A.units+64 < cLine:=by have:=r.un; omega
def tNil:TA:=fun _ H Q=>Q [] H
def tCons (ta:TE) (tr:TA):TA:=fun σ H Q=>ta σ H fun x H1=>tr σ H1 fun xs H2=>Q (x :: xs) H2
section
variable {X:Cx} {e:Expr} {es:List Expr} {te:TE} {t:TA} {pos:Pos}
theorem pa_nil:PA X [] tNil:=fun _ _ _ _ H Q I h=>Calls.spliced_nil ⟨[],H,I,.nil,h⟩
theorem pa_cons (ha:PE X e te) (hr:PA X es t) (hs:starEach (e :: es) X.env=(false,eval e X.env) :: starEach es X.env:=by rfl):PA X (e :: es) (tCons te t):=by
 intro pos pins s σ H Q I h
 rw [hs]
 show wpAny _ _ (spliced ((false,eval e X.env) :: backTo pos (starEach es X.env))) _ _ s
 refine Calls.spliced_cons (thn (ha pins s σ H _ I h) fun u s1 hz=>?_)
 obtain ⟨x,H1,I1,r1,q1⟩:=hz
 exact thn (hr pos pins s1 σ H1 _ I1 q1) fun us s2 ⟨xs,H2,I2,r2,q2⟩=>⟨x :: xs,H2,I2,.cons r1 r2,q2⟩
def tTup (t:TA):TE:=fun σ H Q=>t σ H fun xs H1=>xs.length<=sizeLine/\∀ p,H1 p=none->Q (.ref p) (upd H1 p (.tup xs))
def tLst (t:TA):TE:=fun σ H Q=>t σ H fun xs H1=>xs.length<=sizeLine/\∀ p,H1 p=none->Q (.ref p) (upd H1 p (.lst xs))
theorem pe_tup {x1} (h:PA X es t):PE X (.Tuple es x1 pos) (tTup t):=by
 intro pins s σ H Q I hq
 refine wpAny_Tuple_spliced (thn (h pos pins s σ H _ I hq) fun us s1 ⟨xs,H1,I1,r,z,q⟩=>⟨by rw [<- r.length]; exact z,?_⟩)
 have hf:H1 s1.heap.objs.size=none:=I1.hok.fresh (Nat.le_refl _)
 refine ⟨.ref s1.heap.objs.size,upd H1 s1.heap.objs.size (.tup xs),I1.laid (t':=s1.toks) (fun b u e=>Heap.get?_push_of_some _ e) (Nat.le_refl _) ?_,rfl,q _ hf⟩
 exact ⟨z,us,r,⟨_,Heap.get?_push_size _ rfl,rfl,⟨_,rfl⟩,rfl⟩⟩
theorem pe_lst (h:PA X es t):PE X (.List es pos) (tLst t):=by
 intro pins s σ H Q I hq
 refine wpAny_List_spliced (thn (h pos pins s σ H _ I hq) fun us s1 ⟨xs,H1,I1,r,z,q⟩=>⟨by rw [<- r.length]; exact z,?_⟩)
 have hf:H1 s1.heap.objs.size=none:=I1.hok.fresh (Nat.le_refl _)
 refine ⟨.ref s1.heap.objs.size,upd H1 s1.heap.objs.size (.lst xs),I1.laid (t':=s1.toks) (fun b u e=>Heap.get?_push_of_some _ e) (Nat.le_refl _) ?_,rfl,q _ hf⟩
 exact ⟨z,us,0,r,Heap.get?_push_size _ rfl⟩
end
abbrev Sp:=List V->Hp->VK->XK->Prop
abbrev CXT:=List Env->Hp->Shared->XK->Value->Shared->Prop
structure Env0 (P:Program) (w:World) (K:PySem.W.Frag) (mg:Str->Option Value) (base:Heap) (A:Around) (outer:List Env) (s:Shared) (H:Hp):Prop where
 frames:A.frames=some outer
 mod:Mod K mg base
 bs:∀ b o,base.get? b=some o->s.heap.get? b=some o/\H b=none
 bsz:base.objs.size<=s.heap.objs.size
 funs:s.heap.FunFrames base outer
 frf:∀ b∈frs outer,H b=none
 hok:HOk P w H s.heap
 bare:AllBare s.gens
def CE (outer:List Env) (P:Program) (w:World) (H:Hp) (s:Shared) (Q:VK) (u:Value) (s':Shared):Prop:=
 ∃ v H',s'.os=s.os/\AllBare s'.gens/\Un (frs outer) [] H H' s.heap s'.heap/\HOk P w H' s'.heap/\RelV v u/\Q v H'
def CR (CX:CXT) (outer:List Env) (P:Program) (w:World) (H:Hp) (s:Shared) (Q:VK) (E:XK) (r:Result) (s':Shared):Prop:=
 match r with
 | .ok (.ret u)=>CE outer P w H s Q u s'
 | .ok _=>False
 | .error e=>CX outer H s E e s'
structure FnOk (P:Program) (w:World) (K:PySem.W.Frag) (mg:Str->Option Value) (base:Heap) (CX:CXT) (k:Nat) (f:Addr) (fd:FuncData) (ps:List Str) (sp:Sp):Prop where
 len:∀ vs H Q E,sp vs H Q E->vs.length=ps.length
 run:∀ (A:Around) (outer:List Env) (s:Shared) (H:Hp) (args:Args) (us:List Value) (vs:List V) (Q:VK) (E:XK),Room k A->Env0 P w K mg base A outer s H->BindsTo s fd args (ps.zip us)->Vals vs us->sp vs H Q E->
  codeAny (model P w) A (.call (.ref f) args) (CR CX outer P w H s Q E) s
theorem FnOk.imp {P:Program} {w:World} {K:PySem.W.Frag} {mg:Str->Option Value} {base:Heap} {CX:CXT} {k:Nat} {f:Addr} {fd:FuncData} {ps:List Str} {sp sp':Sp} (F:FnOk P w K mg base CX k f fd ps sp)
  (h:∀ vs H Q E,sp' vs H Q E->sp vs H Q E):FnOk P w K mg base CX k f fd ps sp':=
 ⟨fun vs H Q E q=>F.len vs H Q E (h _ _ _ _ q),fun A outer s H args us vs Q E hr he hb hv hs=>F.run A outer s H args us vs Q E hr he hb hv (h _ _ _ _ hs)⟩
theorem Env0.make {P:Program} {w:World} {K:PySem.W.Frag} {mg:Str->Option Value} {base:Heap} {A:Around} {outer:List Env} {s:Shared} {H:Hp} (e:Env0 P w K mg base A outer s H) (C:Addr) (us:List Value) (kw:List (Str×Value)):
  Env0 P w K mg base (A.under (.builtin "type.__call__" ⟨.ref C :: us,kw⟩)) outer s H:=⟨by first | exact e.frames | (simpa [Around.under,Code.envs,Code.isFrame,pushEnvs] using e.frames),e.mod,e.bs,e.bsz,e.funs,e.frf,e.hok,e.bare⟩
section
variable {X:Cx} {pins:List (Addr×Obj)} {σ:St} {H:Hp} {s s':Shared}
theorem Inv.env0 (I:Inv X pins σ H s):Env0 X.prog X.w X.K X.mg X.base X.A X.stack s H:=
 ⟨I.ok.frames,I.ok.mod,I.bs,Nat.le_trans I.ok.bsz I.sz,I.stack,I.stkFree,I.hok,I.bare⟩
theorem Inv.after {Q:VK} {u:Value} (I:Inv X pins σ H s) (h:CE X.stack X.prog X.w H s Q u s'):EP X pins σ Q u s':=by
 obtain ⟨v,H',os,bare,un,hok,r,q⟩:=h
 obtain ⟨hh,g,d,t,os'⟩:=s'
 obtain rfl:os'=s.os:=os
 exact ⟨v,H',I.call (h':=hh) (g':=g) (d':=d) (t':=t) (ch:=[]) un hok bare (fun b z=>absurd z (by simp)),r,q⟩
end
def tCall (sp:Sp) (dvs:List V) (E:XK) (t:TA):TE:=fun σ H Q=>t σ H fun vs H1=>sp (vs++dvs) H1 Q E
def tMake (C:Addr) (sp:Sp) (dvs:List V) (E:XK) (t:TA):TE:=fun σ H Q=>t σ H fun vs H1=>∀ x dx,H1 x=none->H1 dx=none->dx≠x->
 sp (.ref x :: (vs++dvs)) (upd (upd H1 dx (.own x)) x (.ins C dx [])) (fun v H2=>v=.non/\Q (.ref x) H2) E
def Binds (K:PySem.W.Frag) (fd:FuncData) (ps:List Str) (ds:List Value):Prop:=
 ∀ (s:Shared) (us:List Value),K.In s.heap->(us++ds).length=ps.length->BindsTo s fd ⟨us,[]⟩ (ps.zip (us++ds))
theorem Binds.all {K:PySem.W.Frag} {fd:FuncData} {ps:List Str} (h:∀ us:List Value,us.length=ps.length->bindArgs fd ⟨us,[]⟩=pure (ps.zip us)):Binds K fd ps []:=fun s us _ hl=>by
 rw [List.append_nil] at hl ⊢
 exact .of_eq (h us hl)
def Passes (CX:CXT) (X:Cx) (E:XK):Prop:=∀ (pins:List (Addr×Obj)) (σ:St) (H:Hp) (s:Shared) (e:Value) (s':Shared),Inv X pins σ H s->CX X.stack H s E e s'->X.xe e s'
section
variable {X:Cx} {CX:CXT} {k:Nat} {f C:Addr} {fd:FuncData} {ps:List Str} {sp:Sp} {dvs:List V} {ds:List Value} {E:XK} {x m:Str} {p pos apos:Pos} {e o:Expr} {es:List Expr} {ta:TE} {t:TA}
theorem run_fn {pins:List (Addr×Obj)} {σ:St} {H:Hp} {s:Shared} {Q:VK} {us:List Value} {vs:List V} (F:FnOk X.prog X.w X.K X.mg X.base CX k f fd ps sp) (hr:Room k X.A) (hb:Binds X.K fd ps ds) (hd:Vals dvs ds) (hx:Passes CX X E)
  (I:Inv X pins σ H s) (r:Vals vs us) (h:sp (vs++dvs) H Q E):wpAny (model X.prog X.w) X.A (call (.ref f) us) (EP X pins σ Q) X.xe s:=by
 have r2:Vals (vs++dvs) (us++ds):=r.append hd
 have hl:(us++ds).length=ps.length:=by rw [<- r2.length]; exact F.len _ _ _ _ h
 refine wpAny_call (codeAny_mono (F.run X.A X.stack s H ⟨us,[]⟩ (us++ds) (vs++dvs) Q E hr I.env0 (hb s us I.kIn hl) r2 h) fun r s' hq=>?_)
 cases r with
 | error e=>exact hx pins σ H s e s' I hq
 | ok fl=>
  cases fl with
  | ret u=>exact I.after hq
  | next=>exact False.elim hq
  | brk=>exact False.elim hq
  | cont=>exact False.elim hq
theorem pe_call (F:FnOk X.prog X.w X.K X.mg X.base CX k f fd ps sp) (hr:Room k X.A) (hg:Gl X x) (hm:X.mg x=some (.ref f)) (hk:PySem.W.keepIn X.K (.ref f)=true) (hb:Binds X.K fd ps ds) (hd:Vals dvs ds) (hx:Passes CX X E)
  (ha:PA X (e :: es) t) (hdb:(x == ("__debug__" : Str))=false:=by decide) (he:starEach (e :: es) X.env=(false,eval e X.env) :: starEach es X.env:=by rfl) (hpl:(backTo pos (starEach es X.env)).any (·.1)=false:=by rfl):
  PE X (.Call (.Name x p) (e :: es) [] pos) (tCall sp dvs E t):=by
 intro pins s σ H Q I h
 refine wpAny_Call_Name_kw (ld_glob I hg hm ?_ hdb)
 refine PySem.W.callWith_K (h₀:=X.base) I.ok.mod.kin hk (thn (ha pos pins s σ H _ I h) fun us s1 ⟨vs,H1,I1,r,q⟩=>⟨I1.kIn,?_⟩) he hpl
 exact run_fn F hr hb hd hx I1 r q
structure Mk (K:PySem.W.Frag) (C f:Addr):Prop where
 makes:PySem.W.makesIn K C=true
 init:PySem.W.findIn K (.ref C) "__init__" = some (some (.ref f))
 fn:PySem.W.isFn K (.ref f)=true
 kp:PySem.W.keepIn K (.ref C)=true
theorem run_make {pins:List (Addr×Obj)} {σ:St} {H:Hp} {s:Shared} {Q:VK} {us:List Value} {vs:List V} (M:Mk X.K C f) (F:FnOk X.prog X.w X.K X.mg X.base CX k f fd ps sp) (hr:Room (k+1) X.A) (hb:Binds X.K fd ps ds) (hd:Vals dvs ds)
  (hx:Passes CX X E) (I:Inv X pins σ H s) (r:Vals vs us)
  (h:∀ x dx,H x=none->H dx=none->dx≠x->sp (.ref x :: (vs++dvs)) (upd (upd H dx (.own x)) x (.ins C dx [])) (fun v H2=>v=.non/\Q (.ref x) H2) E):
  wpAny (model X.prog X.w) X.A (call (.ref C) us) (EP X pins σ Q) X.xe s:=by
 have hq:=h (s.heap.objs.size+1) s.heap.objs.size (I.hok.fresh (Nat.le_succ _)) (I.hok.fresh (Nat.le_refl _)) (Nat.ne_of_lt (Nat.lt_succ_self _))
 have I2:=Inv.made (C:=C) I
 have r2:Vals (V.ref (s.heap.objs.size+1) :: (vs++dvs)) (Value.ref (s.heap.objs.size+1) :: (us++ds)):=.cons rfl (r.append hd)
 have hl:(Value.ref (s.heap.objs.size+1) :: us++ds).length=ps.length:=by
  have e:=r2.length
  rw [F.len _ _ _ _ hq] at e
  exact e.symm
 refine wpAny_call (make_map (f:=f) I.kIn M.makes M.init (beq_iff_eq.mp M.fn) (codeAny_mono (F.run _ X.stack _ _ ⟨Value.ref (s.heap.objs.size+1) :: us,[]⟩ (Value.ref (s.heap.objs.size+1) :: (us++ds)) _ _ E (hr.make C us [])
  (I2.env0.make C us []) (hb _ (Value.ref (s.heap.objs.size+1) :: us) I2.kIn hl) r2 hq) fun r s' hq'=>?_))
 cases r with
 | error e=>exact hx pins σ _ _ e s' I2 hq'
 | ok fl=>
  cases fl with
  | ret u=>
   obtain ⟨v,H',I3,rv,ev,q3⟩:=I2.after hq'
   subst ev
   exact ⟨rv,⟨V.ref (s.heap.objs.size+1),H',I3,rfl,q3⟩⟩
  | next=>exact False.elim hq'
  | brk=>exact False.elim hq'
  | cont=>exact False.elim hq'
theorem pe_make0 (M:Mk X.K C f) (F:FnOk X.prog X.w X.K X.mg X.base CX k f fd ps sp) (hr:Room (k+1) X.A) (hg:Gl X x) (hm:X.mg x=some (.ref C)) (hb:Binds X.K fd ps ds) (hd:Vals dvs ds) (hx:Passes CX X E)
  (hdb:(x == ("__debug__" : Str))=false:=by decide):PE X (.Call (.Name x p) [] [] pos) (tMake C sp dvs E tNil):=by
 intro pins s σ H Q I h
 refine wpAny_Call_Name_kw (ld_glob I hg hm ?_ hdb)
 exact PySem.W.callWith_K0 I.kIn M.kp (run_make (us:=[]) M F hr hb hd hx I .nil h)
end
section
variable {X:Cx} {CX:CXT} {k:Nat} {f C:Addr} {fd:FuncData} {ps ks:List Str} {sp:Sp} {E:XK} {x m:Str} {p pos apos kpos:Pos} {e o:Expr} {es:List Expr} {kws:List Keyword} {te ta:TE} {t tk:TA} {nm:Option Str}
structure KBinds (K:PySem.W.Frag) (fd:FuncData) (ps ks:List Str) (g:List Value->List Value->List Value) (gV:List V->List V->List V):Prop where
 to:∀ (s:Shared) (us ws:List Value),K.In s.heap->(g us ws).length=ps.length->BindsTo s fd ⟨us,ks.zip ws⟩ (ps.zip (g us ws))
 rel:∀ {vs:List V} {us:List Value} {zs:List V} {ws:List Value},Vals vs us->Vals zs ws->Vals (gV vs zs) (g us ws)
variable {g:List Value->List Value->List Value} {gV:List V->List V->List V}
end
structure FnScope (N P:List Str) (sc:Scope):Prop where
 kind:sc.kind=.function
 co:sc.isCoroutine=false
 gen:sc.isGenerator=false
 nd:N.Nodup
 pre:N.take P.length=P
 par:∀ x∈P,sc.names.lookup x=some .local\/sc.names.lookup x=some .cell
 nofree:∀ y∈sc.names,y.2≠.free
theorem bindL_out {kindOf:Str->Option NameKind} {x:Str}:∀ {binds:List (Str×Value)} {m:Str->Option Value},(∀ v,(x,v)∉binds)->bindL kindOf binds m x=m x
 | [],_,_=>rfl
 | (n,v) :: r,m,h=>by
  unfold bindL
  rw [bindL_out fun w hw=>h w (List.mem_cons_of_mem _ hw)]
  split
  ·have:x≠n:=by rintro rfl; exact h v List.mem_cons_self
   simp [this]
  ·rfl
theorem bindC_out {kindOf:Str->Option NameKind} {x:Str}:∀ {binds:List (Str×Value)} {m:Str->Option Value},(∀ v,(x,v)∉binds)->bindC kindOf binds m x=m x
 | [],_,_=>rfl
 | (n,v) :: r,m,h=>by
  unfold bindC
  rw [bindC_out fun w hw=>h w (List.mem_cons_of_mem _ hw)]
  split
  ·rfl
  ·have:x≠n:=by rintro rfl; exact h v List.mem_cons_self
   simp [this]
theorem bindL_get {kindOf:Str->Option NameKind} {x:Str} {v:Value}:∀ {P:List Str} {vs:List Value} {i:Nat} {m:Str->Option Value},P.Nodup->P[i]?=some x->vs[i]?=some v->kindOf x=some .local->
  bindL kindOf (P.zip vs) m x=some v
 | [],_,_,_,_,h,_,_=>by simp at h
 | _ :: _,[],_,_,_,_,h,_=>by simp at h
 | p :: P,w :: vs,0,m,nd,h1,h2,hk=>by
  simp at h1 h2; subst h1; subst h2
  show bindL kindOf ((p,w) :: P.zip vs) m p=_
  unfold bindL
  rw [bindL_out fun v hv=>(List.nodup_cons.mp nd).1 (List.of_mem_zip hv).1,if_pos hk]
  simp
 | p :: P,w :: vs,i+1,m,nd,h1,h2,hk=>by
  show bindL kindOf ((p,w) :: P.zip vs) m x=_
  unfold bindL
  exact bindL_get (i:=i) (List.nodup_cons.mp nd).2 (by simpa using h1) (by simpa using h2) hk
theorem bindC_get {kindOf:Str->Option NameKind} {x:Str} {v:Value}:∀ {P:List Str} {vs:List Value} {i:Nat} {m:Str->Option Value},P.Nodup->P[i]?=some x->vs[i]?=some v->kindOf x≠some .local->
  bindC kindOf (P.zip vs) m x=some v
 | [],_,_,_,_,h,_,_=>by simp at h
 | _ :: _,[],_,_,_,_,h,_=>by simp at h
 | p :: P,w :: vs,0,m,nd,h1,h2,hk=>by
  simp at h1 h2; subst h1; subst h2
  show bindC kindOf ((p,w) :: P.zip vs) m p=_
  unfold bindC
  rw [bindC_out fun v hv=>(List.nodup_cons.mp nd).1 (List.of_mem_zip hv).1,if_neg hk]
  simp
 | p :: P,w :: vs,i+1,m,nd,h1,h2,hk=>by
  show bindC kindOf ((p,w) :: P.zip vs) m x=_
  unfold bindC
  exact bindC_get (i:=i) (List.nodup_cons.mp nd).2 (by simpa using h1) (by simpa using h2) hk
def start (N:List Str) (vs:List V):St:=vs.map some++List.replicate (N.length - vs.length) none
def cxOf (CX:CXT) (P:Program) (w:World) (K:PySem.W.Frag) (mg:Str->Option Value) (base:Heap) (N:List Str) (qual:Str) (scope:Scope) (f:Addr) (cd:Value) (A:Around) (outer:List Env) (s:Shared) (H:Hp) (E:XK):Cx where
 prog:=P
 w:=w
 K:=K
 mg:=mg
 base:=base
 A:=A.deeper (envOfC qual scope s.heap.objs.size f cd)
 N:=N
 s₀:=s
 H₀:=H
 env:=envOfC qual scope s.heap.objs.size f cd
 outer:=outer
 stack:=envOfC qual scope s.heap.objs.size f cd :: outer
 ex:=[]
 calm:=true
 fn:=fun _=>true
 pn:=[]
 xe:=fun e s'=>wpAny (model P w) (A.deeper (envOfC qual scope s.heap.objs.size f cd)) (leaving (envOfC qual scope s.heap.objs.size f cd) e) (fun _ s''=>CX outer H s E e s'') (fun e' s''=>CX outer H s E e' s'') s'
theorem cell_has {sc:Scope} {n:Nat} {x:Str} (h:sc.names.lookup x=some .cell):∃ c,(cellsFrom n sc.names []).lookup x=some c:=by
 have q:=PySem.W.cellsFrom_some sc.names n [] (.inl h)
 exact Option.isSome_iff_exists.mp q
theorem inv_start {CX:CXT} {P:Program} {w:World} {K:PySem.W.Frag} {mg:Str->Option Value} {base:Heap} {N ps:List Str} {qual:Str} {scope:Scope} {f:Addr} {cd:Value} {A:Around} {outer:List Env} {s s1:Shared} {H:Hp} {E:XK} {us:List Value} {vs:List V}
  (S:FnScope N ps scope) (hd:A.handled=none) (e0:Env0 P w K mg base A outer s H) (hl:vs.length=ps.length) (r:Vals vs us)
  (x:InCallC s s.heap.objs.size (bindL (envOfC qual scope s.heap.objs.size f cd).kindOf (ps.zip us) fun _=>none) (cellsFrom (s.heap.objs.size+1) scope.names []) (bindC (envOfC qual scope s.heap.objs.size f cd).kindOf (ps.zip us) fun _=>none) s1):
  Inv (cxOf CX P w K mg base N qual scope f cd A outer s H E) [] (start N vs) H s1:=by
 have hpl:ps.length<=N.length:=by have:=congrArg List.length S.pre; rw [List.length_take] at this; omega
 obtain ⟨h1,tk,rfl,hk⟩:=x.done
 have noA:∀ b:Addr,b∉(cxOf CX P w K mg base N qual scope f cd A outer s H E).ex:=fun b z=>absurd (show b∈([]:List Addr) from z) (by simp)
 refine ⟨⟨e0.mod,S.kind,rfl,rfl,Nat.le_refl _,fun y z c h1 h2=>?_,fun y hy=>?_,fun y c _ h=>?_,fun _=>hd,Around.frames_deeper e0.frames,.inr ⟨rfl,rfl⟩,fun b z=>absurd z (noA b),e0.bs,e0.bsz,fun b _ _=>noA b,fun b z=>absurd z (noA b),e0.funs,e0.frf⟩,
  rfl,e0.bare,Un.kept hk,⟨_,x.toInCall.ns,fun i y v h1 h2 h3=>?_⟩,fun y c h=>⟨_,x.cell y c h⟩,e0.hok.fresh (Nat.le_refl _),fun y c h=>?_,fun p hp=>absurd (show p∈([]:List (Addr×Obj)) from hp) (by simp),e0.hok.kept hk,?_⟩
 ·exact name_of_addr x.apart (PySem.mem_of_lookup h1) (PySem.mem_of_lookup h2)
 ·have hy:scope.names.lookup y=some .cell\/scope.names.lookup y=some .free:=hy
  rcases hy with hy | hy
  ·exact cell_has hy
  ·exact absurd rfl (S.nofree _ (PySem.mem_of_lookup hy))
 ·exact Nat.le_of_lt (x.above y c (PySem.mem_of_lookup h))
 ·have hi:i < vs.length:=by
   unfold start at h2
   by_cases hi:i < vs.length
   ·exact hi
   ·rw [List.getElem?_append_right (by simpa using hi)] at h2
    rw [List.getElem?_replicate] at h2
    split at h2 <;> cases h2
  have ha:vs[i]?=some v:=by
   unfold start at h2
   rw [List.getElem?_append_left (by simpa using hi),List.getElem?_map] at h2
   cases e:vs[i]? with
   | none=>rw [e] at h2; cases h2
   | some a=>rw [e] at h2; cases h2; rfl
  obtain ⟨u,hu,rv⟩:=r.get ha
  have hp:ps[i]?=some y:=by
   rw [<- S.pre,List.getElem?_take_of_lt (by omega)]; exact h1
  have ndP:ps.Nodup:=by rw [<- S.pre]; exact S.nd.sublist (List.take_sublist _ _)
  refine ⟨u,rv,?_⟩
  rcases S.par y (List.mem_of_getElem? hp) with k | k
  ·exact .inl ⟨k,bindL_get ndP hp hu k⟩
  ·obtain ⟨c,e⟩:=cell_has (n:=s.heap.objs.size+1) k
   refine .inr ⟨.inl k,c,e,?_⟩
   have q:=x.cell y c e
   rw [bindC_get ndP hp hu (by show scope.names.lookup y≠_; rw [k]; decide)] at q
   exact q
 ·exact e0.hok.fresh (Nat.le_of_lt (x.above y c (PySem.mem_of_lookup h)))
 ·unfold start
  show _=N.length
  rw [List.length_append,List.length_map,List.length_replicate]
  omega
theorem fn_of {CX:CXT} {P:Program} {w:World} {K:PySem.W.Frag} {mg:Str->Option Value} {base:Heap} {k:Nat} {f:Addr} {name qual:Str} {params:Arguments} {body:List Stmt} {scope:Scope} {dV kV doc pm cdv ct oc:Value} {an od:Option Addr}
  {osl:Array (Option Value)} {N ps:List Str} {sp:Sp} (lk:K.lookup f=some ⟨oc,od,.func (PySem.W.fnOf name qual params body scope dV kV doc pm an cdv ct),osl⟩) (hcd:PySem.W.codeIn K cdv qual=true) (S:FnScope N ps scope)
  (len:∀ vs H Q E,sp vs H Q E->vs.length=ps.length)
  (hbody:∀ (A:Around) (outer:List Env) (s:Shared) (H:Hp) (vs:List V) (Q:VK) (E:XK),Room k (A.deeper (envOfC qual scope s.heap.objs.size f cdv))->sp vs H Q E->
   ∃ t,PSs (cxOf CX P w K mg base N qual scope f cdv A outer s H E) body t/\t { nx:=fun _ H'=>Q .non H',rt:=Q } (start N vs) H):
  FnOk P w K mg base CX (k+1) f (PySem.W.fnOf name qual params body scope dV kV doc pm an cdv ct) ps sp:=by
 refine ⟨len,fun A outer s H args us vs Q E hr e0 hb r hsp=>?_⟩
 have hl:=len _ _ _ _ hsp
 have KX:K.In s.heap:=e0.mod.kin.keeps fun b o e=>(e0.bs b o e).1
 have lim:s.heap.NoLimit:=e0.mod.nolimit.keeps fun b o e=>(e0.bs b o e).1
 have hkind:∀ y∈ps.zip us,scope.names.lookup y.1=some .local\/(scope.names.lookup y.1=some .cell/\((cellsFrom (s.heap.objs.size+1) scope.names []).lookup y.1).isSome=true):=fun ⟨n,v⟩ hy=>by
  rcases S.par n (List.of_mem_zip hy).1 with q | q
  ·exact .inl q
  ·exact .inr ⟨q,PySem.W.cellsFrom_some _ _ _ (.inl q)⟩
 refine codeAny_call_function hr.depth (KX _ _ lk) rfl S.co S.gen rfl (PySem.W.codeRec_of KX hcd) (hb _ _ _ _ ?_)
 refine wpAny_newFunctionEnv_cells S.kind hkind fun env he s1 x=>?_
 subst he
 refine ⟨lim.keeps x.toInCall.keep,codeAny_func ?_⟩
 obtain ⟨t,ht,hq⟩:=hbody A outer s H vs Q E (hr.deeper _) hsp
 have I:Inv (cxOf CX P w K mg base N qual scope f cdv A outer s H E) [] (start N vs) H s1:=inv_start S hr.hd e0 hl r x
 refine wpAny_mono (ht [] s1 (start N vs) H _ I hq) (fun fl s' hs=>?_) fun e s' hs=>hs
 have fin:∀ {σ':St} {H':Hp} {v:V} {u:Value},Inv (cxOf CX P w K mg base N qual scope f cdv A outer s H E) [] σ' H' s'->RelV v u->Q v H'->CE outer P w H s Q u s':=
  fun {σ' H' v u} J rv q=>⟨v,H',J.os,J.bare,J.base,J.hok,rv,q⟩
 cases fl with
 | ret u=>
  obtain ⟨v,σ',H',J,rv,q⟩:=hs
  exact fin J rv q
 | next=>
  obtain ⟨σ',H',J,q⟩:=hs
  exact fin (v:=V.non) (u:=Value.none) J rfl q
 | brk=>
  obtain ⟨_,_,_,q⟩:=hs
  exact False.elim q
 | cont=>
  obtain ⟨_,_,_,q⟩:=hs
  exact False.elim q
end L2
namespace L2
open PySem PySem.Spec PyProof.Rows
section
variable {X:Cx} {x:Str} {p pos:Pos} {e:Expr} {es:List Expr} {t:TA} {id T:String} {r:List V->Hp->VK->Prop}
def tCB (r:List V->Hp->VK->Prop) (t:TA):TE:=fun σ H Q=>t σ H fun vs H1=>r vs H1 Q
theorem pe_callB (hc:CallR X (.builtin id) r) (hg:Gl X x) (hm:X.mg x=none) (hv:bootBuiltins x=some (.builtin id)) (ha:PA X (e :: es) t) (hn:x≠"__name__" := by decide) (hdb:(x == ("__debug__" : Str))=false:=by decide)
  (he:starEach (e :: es) X.env=(false,eval e X.env) :: starEach es X.env:=by rfl) (hpl:(backTo pos (starEach es X.env)).any (·.1)=false:=by rfl):PE X (.Call (.Name x p) (e :: es) [] pos) (tCB r t):=by
 intro pins s σ H Q I h
 refine wpAny_Call_Name_kw (ld_blt I hg hm hv ?_ hn hdb)
 exact PyProof.Rows.callWith_builtin1 (thn (ha pos pins s σ H _ I h) fun us s1 ⟨vs,H1,I1,r1,q1⟩=>hc pins s1 σ H1 vs us Q I1 r1 q1) he hpl
theorem pe_callTy (hc:CallR X (.type T) r) (hg:Gl X x) (hm:X.mg x=none) (hv:bootBuiltins x=some (.type T)) (ha:PA X (e :: es) t) (hn:x≠"__name__" := by decide) (hdb:(x == ("__debug__" : Str))=false:=by decide)
  (he:starEach (e :: es) X.env=(false,eval e X.env) :: starEach es X.env:=by rfl) (hpl:(backTo pos (starEach es X.env)).any (·.1)=false:=by rfl):PE X (.Call (.Name x p) (e :: es) [] pos) (tCB r t):=by
 intro pins s σ H Q I h
 refine wpAny_Call_Name_kw (ld_blt I hg hm hv ?_ hn hdb)
 exact PyProof.Rows.callWith_type1 (thn (ha pos pins s σ H _ I h) fun us s1 ⟨vs,H1,I1,r1,q1⟩=>hc pins s1 σ H1 vs us Q I1 r1 q1) he hpl
end
end L2
namespace HT
open PySem PyProof.Rows
section
open PySem.SeqAt
open PySem.AutoSeq1 (wpAny_loadPart')
open PySem.MeetsSeq PySem.MeetsSeq2 PySem.MeetsSeq3
end
section
variable {prog:Program} {w:World} {A:Around} {E:Value->Shared->Prop} {s:Shared}
theorem cat_tup {t b:Addr} {vs ws:List Value} {Q:Value->Shared->Prop} (ht:IsTup s.heap t vs.toArray) (hb:IsTup s.heap b ws.toArray) (hv:vs≠[])
  (h1:ws=[]->Q (.ref t) s) (h2:ws≠[]->Q (.ref s.heap.objs.size) { s with heap:=s.heap.push { cls:=.type "tuple",data:=.seq (vs++ws).toArray } })
  (hsz:vs.length+ws.length<=sizeLine):wpAny (model prog w) A (binaryOp .Add (.ref t) (.ref b)) Q E s:=by
 obtain ⟨⟨cls,dd,data,sl⟩,ho,hc,n,hd⟩:=id ht
 obtain ⟨⟨cls2,dd2,data2,sl2⟩,ho2,hc2,n2,hd2⟩:=id hb
 simp only at hc hd hc2 hd2
 subst hc hd hc2 hd2
 have e:vs.toArray++ws.toArray=(vs++ws).toArray:=by simp
 by_cases hw:ws=[]
 ·exact concat_meets ⟨_,ho,rfl⟩ ⟨_,ho2,rfl⟩ noFill_tuple_add seq_tuple_add PySem.F.slot_tuple_add PySem.F.entry_tuple_add (PySem.F.args_tuple_add_2 _ _)
   (tuple_addW1 t b vs.toArray ws.toArray n n2 dd dd2 sl sl2 (by simpa using hv) (by simp [hw])) ⟨ho,ho2,h1 hw⟩
 ·refine concat_meets ⟨_,ho,rfl⟩ ⟨_,ho2,rfl⟩ noFill_tuple_add seq_tuple_add PySem.F.slot_tuple_add PySem.F.entry_tuple_add (PySem.F.args_tuple_add_2 _ _)
   (tuple_addW2 t b vs.toArray ws.toArray n n2 dd dd2 sl sl2 (by simpa using hv) (by simpa using hw) (by rw [List.size_toArray,List.size_toArray]; exact hsz)) ⟨ho,ho2,?_⟩
  rw [e]
  exact h2 hw
def sIx (n d:Nat):Option Int->Nat
 | none=>d
 | some v=>if v < 0 then (v+(n:Int)).toNat else min v.toNat n
theorem sIx_le (n d:Nat) (hd:d<=n) (o:Option Int):sIx n d o<=n:=by
 cases o with
 | none=>exact hd
 | some v=>
  show (if v < 0 then (v+(n:Int)).toNat else min v.toNat n)<=n
  by_cases hv:v < 0
  ·rw [if_pos hv]; omega
  ·rw [if_neg hv]; exact Nat.min_le_right _ _
theorem clip_eq (v:Int) (n d:Nat):(if v < 0 then max (v+(n:Int)) 0 else min v (n:Int))=((sIx n d (some v):Nat):Int):=by
 show (if v < 0 then max (v+(n:Int)) 0 else min v (n:Int))=(((if v < 0 then (v+(n:Int)).toNat else min v.toNat n):Nat):Int)
 by_cases hv:v < 0
 ·simp only [if_pos hv]; omega
 ·simp only [if_neg hv]; omega
theorem adjust_gen (lo hi:Option Int) (n:Nat):Builtin.Slice.sliceAdjust lo hi 1 (n:Int)=(((sIx n 0 lo:Nat):Int),((sIx n n hi:Nat):Int)):=by
 have h1:¬ ((1:Int) < 0):=by omega
 unfold Builtin.Slice.sliceAdjust
 simp only [h1,if_false]
 refine Prod.ext ?_ ?_
 ·cases lo with
  | none=>rfl
  | some v=>exact clip_eq v n 0
 ·cases hi with
  | none=>rfl
  | some v=>exact clip_eq v n n
theorem places_gen (i j:Nat):Builtin.Slice.slicePlaces (i:Int) (j:Int) 1=j - i:=by
 unfold Builtin.Slice.slicePlaces
 have h1:(1:Int) > 0:=by omega
 simp only [h1,if_true,Int.ediv_one]
 split <;> omega
theorem slicePart_ {v:Value} {o:Option Int} {Q:Option Int->Shared->Prop} (p:IsPart v o) (h:Q o s):wpAny (model prog w) A (Builtin.Slice.slicePartIndex v) Q E s:=by
 cases p with
 | none=>exact slicePart_none h
 | int i t=>exact slicePart_int h
theorem sliceApplied_gen {sl:Addr} {vl vu:Value} {lo hi:Option Int} {n:Nat} {Q:Int×Int×Nat->Shared->Prop} (hs:s.heap.IsSliceOf sl vl vu .none) (pl:IsPart vl lo) (pu:IsPart vu hi)
  (h:Q (((sIx n 0 lo:Nat):Int),1,sIx n n hi - sIx n 0 lo) s):wpAny (model prog w) A (Builtin.Slice.sliceApplied (.ref sl) (pure (n:Int))) Q E s:=by
 obtain ⟨os,hos,hcs,hds⟩:=id hs
 unfold Builtin.Slice.sliceApplied Builtin.Slice.sliceFields
 refine wpAny_bind (wpAny_bind (wpAny_field hos hds (x:=vl) rfl (wpAny_bind (wpAny_field hos hds (x:=vu) rfl (wpAny_bind (wpAny_field hos hds (x:=.none) rfl (wpAny_pure ?_)))))))
 refine wpAny_bind (slicePart_none ?_)
 show wpAny _ _ (if ((1:Int) == 0)=true then _ else _) _ _ s
 rw [if_neg (by decide)]
 refine wpAny_bind (slicePart_ pl (wpAny_bind (slicePart_ pu (wpAny_bind (wpAny_pure ?_)))))
 show wpAny _ _ (match Builtin.Slice.sliceAdjust lo hi 1 (n:Int) with | (lo,hi)=>pure (lo,(1:Int),Builtin.Slice.slicePlaces lo hi 1)) _ _ s
 rw [adjust_gen lo hi n]
 show wpAny _ _ (pure (((sIx n 0 lo:Nat):Int),(1:Int),Builtin.Slice.slicePlaces ((sIx n 0 lo:Nat):Int) ((sIx n n hi:Nat):Int) 1)) _ _ s
 rw [places_gen]
 exact wpAny_pure h
theorem pick_gen (xs:Array Value) (i k:Nat):((List.range k).filterMap fun (m:Nat)=>xs[((i:Int)+(m:Int)*1).toNat]?).toArray=((xs.toList.drop i).take k).toArray:=by
 have e:(fun (m:Nat)=>xs[((i:Int)+(m:Int)*1).toNat]?)=fun m=>xs[i+m]?:=by
  funext m
  have:((i:Int)+(m:Int)*1).toNat=i+m:=by omega
  rw [this]
 rw [e]
 have:=pick_run xs i k
 rw [List.filterMap_map] at this
 have e2:((fun x=>xs[x]?) ∘ fun x=>i+x)=fun m=>xs[i+m]?:=rfl
 rw [e2] at this
 rw [this]
theorem getItem_tuple_cut {t sl:Addr} {items:Array Value} {vl vu:Value} {lo hi:Option Int} {Q:Value->Shared->Prop} (ht:IsTup s.heap t items) (hs:s.heap.IsSliceOf sl vl vu .none) (pl:IsPart vl lo) (pu:IsPart vu hi)
  (hw:¬ (sIx items.size 0 lo=0/\sIx items.size items.size hi=items.size))
  (h:Q (.ref s.heap.objs.size) { s with heap:=s.heap.push { cls:=.type "tuple",data:=.seq ((items.toList.drop (sIx items.size 0 lo)).take (sIx items.size items.size hi - sIx items.size 0 lo)).toArray } })
  (hsz:items.size<=sizeLine):wpAny (model prog w) A (getItem (.ref t) (.ref sl)) Q E s:=by
 have htake:sizeOk (.seq ((items.toList.drop (sIx items.size 0 lo)).take (sIx items.size items.size hi - sIx items.size 0 lo)).toArray):=by
  show ((items.toList.drop (sIx items.size 0 lo)).take (sIx items.size items.size hi - sIx items.size 0 lo)).toArray.size<=sizeLine
  rw [List.size_toArray,List.length_take,List.length_drop,Array.length_toList]
  omega
 have hj:sIx items.size items.size hi<=items.size:=sIx_le _ _ (Nat.le_refl _) hi
 obtain ⟨os,hos,hcs,hds⟩:=id hs
 have hTs:s.TypeIs (.ref sl) "slice" := ⟨os,hos,hcs⟩
 unfold getItem
 try with_reducible refine wpAny_holding ?_
 first | refine wpAny_bind (wpAny_pure ?_) | skip
 refine wpAny_bind (wpAny_sequenceKey ht.typeIs (by decide) ?_)
 refine wpAny_bind (wpAny_callSpecial?_slot (name:=Str.ofString "__getitem__") ht.typeIs PyProof.Rows.slot_tuple_getitem
  (wpAny_call_entry PyProof.Rows.slot_tuple_getitem ht.typeIs entry_tuple_getitem ?_ (args_tuple_getitem _ _)))
 show wpAny _ _ (Builtin.Tuple.tupleItemsOf (.ref t) >>= _) _ _ s
 refine wpAny_bind (tupleItemsOf_ ht ?_)
 refine wpAny_bind (wpAny_typeOf hTs ?_)
 rw [if_pos (by decide)]
 refine wpAny_bind (sliceApplied_gen hs pl pu ?_)
 have hno:¬ ((((sIx items.size 0 lo:Nat):Int) == 0 && (1:Int) == 1 && (sIx items.size items.size hi - sIx items.size 0 lo) == items.size)=true):=by
  intro q
  rw [Bool.and_eq_true,Bool.and_eq_true] at q
  have q1:((sIx items.size 0 lo:Nat):Int)=0:=eq_of_beq q.1.1
  have q2:sIx items.size items.size hi - sIx items.size 0 lo=items.size:=eq_of_beq q.2
  exact hw ⟨by omega,by omega⟩
 show wpAny _ _ (if (((sIx items.size 0 lo:Nat):Int) == 0 && (1:Int) == 1 && (sIx items.size items.size hi - sIx items.size 0 lo) == items.size)=true then _ else _) _ _ s
 rw [if_neg hno,pick_gen]
 first
  | exact wpAny_bind (m:=Builtin.Tuple.tupleExact _) (wpAny_newObj_type (wpAny_pure ⟨_,rfl,wpAny_pure h⟩) htake)
  | exact wpAny_bind (m:=Builtin.Tuple.tupleExact _) (wpAny_newObj_type (wpAny_bind (wpAny_pure (wpAny_pure ⟨_,rfl,wpAny_pure h⟩))) htake)
  | exact wpAny_bind (wpAny_bind (m:=Builtin.Tuple.tupleExact _) (wpAny_newObj_type (wpAny_pure (wpAny_pure ⟨_,rfl,wpAny_pure h⟩)) htake))
  | exact wpAny_bind (wpAny_bind (m:=Builtin.Tuple.tupleExact _) (wpAny_newObj_type (wpAny_pure ⟨_,rfl,wpAny_pure h⟩) htake))
end
end HT
namespace L2
open PySem PySem.Spec PyProof.Rows
abbrev TO:=St->Hp->(Option Int->Hp->Prop)->Prop
def PO (X:Cx) (e:Option Expr) (t:TO):Prop:=
 ∀ (pins:List (Addr×Obj)) (s:Shared) (σ:St) (H:Hp) (Q:Option Int->Hp->Prop),Inv X pins σ H s->t σ H Q->
  wpAny (model X.prog X.w) X.A (evalPart e X.env) (fun u s'=>∃ o H',Inv X pins σ H' s'/\IsPart u o/\Q o H') X.xe s
def tNoPart:TO:=fun _ H Q=>Q none H
section
variable {X:Cx} {e:Expr} {te:TE} {lo hi:Option Expr} {tl th:TO} {pos p2:Pos}
theorem po_none:PO X none tNoPart:=by
 intro pins s σ H Q I h
 rw [evalPart_none]
 exact wpAny_pure ⟨none,H,I,.none,h⟩
def SlR (X:Cx) (r:V->Option Int->Option Int->Hp->VK->Prop):Prop:=
 ∀ (pins:List (Addr×Obj)) (s:Shared) (σ:St) (H:Hp) (x:V) (v vl vu:Value) (lo hi:Option Int) (sl:Addr) (Q:VK),Inv X pins σ H s->RelV x v->s.heap.IsSliceOf sl vl vu .none->IsPart vl lo->IsPart vu hi->r x lo hi H Q->
  ∃ T id,typeLookup (.type T) "__getitem__" = pure (some (.builtin id))/\s.TypeIs v T/\wpAny (model X.prog X.w) X.A (getItem v (.ref sl)) (EP X pins σ Q) X.xe s
theorem SlR.or {r r':V->Option Int->Option Int->Hp->VK->Prop} (h:SlR X r) (h':SlR X r'):SlR X (fun x lo hi H Q=>r x lo hi H Q\/r' x lo hi H Q):=by
 intro pins s σ H x v vl vu lo hi sl Q I rx hs pl pu q
 rcases q with q | q
 ·exact h pins s σ H x v vl vu lo hi sl Q I rx hs pl pu q
 ·exact h' pins s σ H x v vl vu lo hi sl Q I rx hs pl pu q
def tSl (r:V->Option Int->Option Int->Hp->VK->Prop) (te:TE) (tl th:TO):TE:=fun σ H Q=>te σ H fun x H1=>tl σ H1 fun l H2=>th σ H2 fun u H3=>r x l u H3 Q
theorem pe_slice {r:V->Option Int->Option Int->Hp->VK->Prop} (hr:SlR X r) (he:PE X e te) (hl:PO X lo tl) (hu:PO X hi th):PE X (.Subscript e (.Slice lo hi none p2) pos) (tSl r te tl th):=by
 intro pins s σ H Q I h
 refine Subscript_ (thn (he pins s σ H _ I h) fun v s1 hz=>?_)
 obtain ⟨x,H1,I1,r1,q1⟩:=hz
 refine wpAny_Slice (thn (hl pins s1 σ H1 _ I1 q1) fun vl s2 ⟨l,H2,I2,pl,q2⟩=>thn (hu pins s2 σ H2 _ I2 q2) fun vu s3 hz=>?_)
 obtain ⟨u,H3,I3,pu,q3⟩:=hz
 rw [evalPart_none]
 refine wpAny_pure ?_
 have I4:Inv X pins σ H3 { s3 with heap:=s3.heap.push { cls:=.type "slice",data:=.fields #[vl,vu,.none] } }:=I3.kept (t':=s3.toks) fun b ob q=>Heap.get?_push_of_some _ q
 obtain ⟨T,id,hT,ht,hg⟩:=hr pins { s3 with heap:=s3.heap.push { cls:=.type "slice",data:=.fields #[vl,vu,.none] } } σ H3 x v vl vu l u s3.heap.objs.size Q I4 r1 (Heap.IsSliceOf.new ..) pl pu q3
 show wpAny (model X.prog X.w) X.A (subscriptTail e (.Slice lo hi none p2) v (.ref s3.heap.objs.size)) (EP X pins σ Q) X.xe { s3 with heap:=s3.heap.push { cls:=.type "slice",data:=.fields #[vl,vu,.none] } }
 exact tail_any (ops:=[.ref s3.heap.objs.size,v]) ht hT hg (by with_unfolding_all rfl)
def cutV (xs:List V) (lo hi:Option Int):List V:=(xs.drop (HT.sIx xs.length 0 lo)).take (HT.sIx xs.length xs.length hi - HT.sIx xs.length 0 lo)
theorem cutV_length (xs:List V) (lo hi:Option Int):(cutV xs lo hi).length<=xs.length:=by
 unfold cutV
 rw [List.length_take,List.length_drop]
 omega
def rSlT (K:PySem.W.Frag):V->Option Int->Option Int->Hp->VK->Prop:=fun x lo hi H Q=>∃ a xs,x=.ref a/\SqT K H a xs/\
 ¬ (HT.sIx xs.length 0 lo=0/\HT.sIx xs.length xs.length hi=xs.length)/\∀ p,H p=none->Q (.ref p) (upd H p (.tup (cutV xs lo hi)))
theorem sl_tup:SlR X (rSlT X.K):=by
 intro pins s σ H x v vl vu lo hi sl Q I rx hs pl pu h
 obtain ⟨a,xs,rfl,hx,hw,q⟩:=h
 cases rx
 obtain ⟨its,r,ht,hz⟩:=I.tuple hx
 have hlen:its.toArray.size=xs.length:=by rw [List.size_toArray]; exact r.length.symm
 refine ⟨"tuple",_,PyProof.Rows.slot_tuple_getitem.lookup,ht.typeIs,?_⟩
 refine HT.getItem_tuple_cut ht hs pl pu (by rw [hlen]; exact hw) ?_ (by rw [hlen]; exact hz)
 rw [hlen]
 refine ⟨.ref s.heap.objs.size,_,I.laid (t':=s.toks) (o:=.tup (cutV xs lo hi)) (fun b ob q=>Heap.get?_push_of_some _ q) (Nat.le_refl _) ?_,rfl,q _ (I.hok.fresh (Nat.le_refl _))⟩
 exact ⟨Nat.le_trans (cutV_length xs lo hi) hz,_,(r.drop (HT.sIx xs.length 0 lo)).take (HT.sIx xs.length xs.length hi - HT.sIx xs.length 0 lo),IsTD.new _ _⟩
def rCatT (K:PySem.W.Frag):R2:=fun x y H Q=>∃ a b xs ys,x=.ref a/\y=.ref b/\SqT K H a xs/\SqT K H b ys/\xs≠[]/\xs.length+ys.length<=sizeLine/\
 (ys=[]->Q (.ref a) H)/\(ys≠[]->∀ p,H p=none->Q (.ref p) (upd H p (.tup (xs++ys))))
theorem Vals.nil_iff {xs:List V} {us:List Value} (r:Vals xs us):us=[] ↔ xs=[]:=by
 cases r with
 | nil=>simp
 | cons _ _=>simp
theorem op_catT:OpR X (binaryOp .Add) (rCatT X.K):=by
 intro pins s σ H x y v u Q I rx ry h
 obtain ⟨a,b,xs,ys,rfl,rfl,ha,hb,hx,hz,q1,q2⟩:=h
 cases rx
 cases ry
 obtain ⟨its,r1,p1,_⟩:=I.tuple ha
 obtain ⟨its2,r2,p2,_⟩:=I.tuple hb
 refine HT.cat_tup p1 p2 (fun z=>hx (r1.nil_iff.mp z)) (fun z=>⟨.ref a,H,I,rfl,q1 (r2.nil_iff.mp z)⟩) (fun z=>?_) (by rw [<- r1.length,<- r2.length]; exact hz)
 refine ⟨.ref s.heap.objs.size,_,I.laid (t':=s.toks) (o:=.tup (xs++ys)) (fun b ob q=>Heap.get?_push_of_some _ q) (Nat.le_refl _) ?_,rfl,q2 (fun w=>z (r2.nil_iff.mpr w)) _ (I.hok.fresh (Nat.le_refl _))⟩
 exact ⟨by rw [List.length_append]; exact hz,_,r1.append r2,IsTD.new _ _⟩
end
end L2
namespace L2
open PySem PySem.Spec PyProof.Rows
def ixN (n:Nat) (i:Int):Option Nat:=if 0<=i then (if i < n then some i.toNat else none) else if -(n:Int)<=i then some (i+n).toNat else none
def atI {α:Type} (xs:List α) (i:Int):Option α:=(ixN xs.length i).bind fun j=>xs[j]?
theorem ixN_seq {n:Nat} {i:Int} {j:Nat} (h:ixN n i=some j):seqIndex? i n=some j/\j < n/\-(n:Int)<=i/\i < n:=by
 unfold ixN at h
 by_cases h0:0<=i
 ·rw [if_pos h0] at h
  by_cases h1:i < n
  ·rw [if_pos h1] at h
   have e:i.toNat=j:=Option.some.inj h
   exact ⟨by rw [seqIndex_of h0 h1,e],by omega,by omega,h1⟩
  ·rw [if_neg h1] at h; cases h
 ·rw [if_neg h0] at h
  by_cases h1:-(n:Int)<=i
  ·rw [if_pos h1] at h
   have e:(i+n).toNat=j:=Option.some.inj h
   exact ⟨by rw [seqIndex_neg (by omega) h1,e],by omega,h1,by omega⟩
  ·rw [if_neg h1] at h; cases h
theorem atI_get {α:Type} {xs:List α} {i:Int} {v:α} (h:atI xs i=some v):∃ j,seqIndex? i xs.length=some j/\xs[j]?=some v/\j < xs.length/\-(xs.length:Int)<=i/\i < xs.length:=by
 unfold atI at h
 cases e:ixN xs.length i with
 | none=>rw [e] at h; cases h
 | some j=>
  rw [e] at h
  obtain ⟨h1,h2,h3,h4⟩:=ixN_seq e
  exact ⟨j,h1,h,h2,h3,h4⟩
def PlainIx (b:Expr):Prop:=∀ o i,subscripted b false o i=operate [o,i] (getItem o i)
def IxR (X:Cx) (r:R2):Prop:=
 ∀ (value slice:Expr) (pins:List (Addr×Obj)) (s:Shared) (σ:St) (H:Hp) (x y:V) (v u:Value) (Q:VK),Inv X pins σ H s->RelV x v->RelV y u->r x y H Q->
  subscripted slice false v u=operate [v,u] (getItem v u)->wpAny (model X.prog X.w) X.A (subscriptTail value slice v u) (EP X pins σ Q) X.xe s
def MtR (X:Cx) (id:String) (r:V->List V->Hp->VK->Prop):Prop:=
 ∀ (pins:List (Addr×Obj)) (s:Shared) (σ:St) (H:Hp) (x:V) (xs:List V) (v:Value) (us:List Value) (Q:VK),Inv X pins σ H s->RelV x v->Vals xs us->r x xs H Q->
  wpAny (model X.prog X.w) X.A (call (.builtin id) (v :: us)) (EP X pins σ Q) X.xe s
section
variable {X:Cx} {a b:Expr} {ta tb:TE} {pos:Pos}
theorem IxR.or {r r':R2} (h:IxR X r) (h':IxR X r'):IxR X (fun x y H Q=>r x y H Q\/r' x y H Q):=by
 intro value slice pins s σ H x y v u Q I rx ry q hs
 rcases q with q | q
 ·exact h value slice pins s σ H x y v u Q I rx ry q hs
 ·exact h' value slice pins s σ H x y v u Q I rx ry q hs
theorem pe_ix {r:R2} (hr:IxR X r) (ha:PE X a ta) (hb:PE X b tb) (hs:PlainIx b):PE X (.Subscript a b pos) (tOp r ta tb):=by
 intro pins s σ H Q I h
 exact Subscript_ (binT ha hb I h fun v u s2 x y H2 I2 rx ry q=>hr a b pins s2 σ H2 x y v u Q I2 rx ry q (hs _ _))
def rIxL (K:PySem.W.Frag):R2:=fun x y H Q=>∃ p xs i v,x=.ref p/\y=.int i/\SqL K H p xs/\atI xs i=some v/\Q v H
def rIxT (K:PySem.W.Frag):R2:=fun x y H Q=>∃ p xs i v,x=.ref p/\y=.int i/\SqT K H p xs/\atI xs i=some v/\Q v H
def rIxS:R2:=fun x y H Q=>∃ z i c,x=.str z/\y=.int i/\z.length<=sizeLine/\atI z.cps.toList i=some c/\Q (.str ⟨#[c]⟩) H
theorem ix_list:IxR X (rIxL X.K):=by
 intro value slice pins s σ H x y v u Q I rx ry h hs
 obtain ⟨p,xs,i,z,rfl,rfl,hq,he,q⟩:=h
 cases rx
 obtain ⟨t,rfl⟩:=ry
 obtain ⟨its,r,pl,hz⟩:=I.list hq
 obtain ⟨j,h1,h2,h3,h4,h5⟩:=atI_get he
 obtain ⟨w,ew,rw'⟩:=r.get h2
 have hl:=r.length
 have hn:=line63
 have fin:EP X pins σ Q w s:=⟨z,H,I,rw',q⟩
 by_cases h0:0<=i
 ·have hj:i.toNat=j:=by
   rw [seqIndex_of h0 h5] at h1
   exact Option.some.inj h1
  exact item_listR pl.isList h0 (by omega) (by rw [hj]; simpa using ew) fin hs
 ·have hj:(i+(its.toArray.size:Int)).toNat=j:=by
   rw [seqIndex_neg (by omega) h4] at h1
   rw [List.size_toArray,<- hl]
   exact Option.some.inj h1
  exact subscriptTail_builtinR (x:=w) pl.isList.typeIs slot_list_getitem.lookup
   (wpAny_getItem_list_neg (Q:=fun r s'=>r=w/\EP X pins σ Q r s') pl.isList (by omega) (by rw [List.size_toArray] <;> omega) (by omega) (by rw [hj]; simpa using ew) ⟨rfl,fin⟩) hs
theorem ix_tup:IxR X (rIxT X.K):=by
 intro value slice pins s σ H x y v u Q I rx ry h hs
 obtain ⟨p,xs,i,z,rfl,rfl,hq,he,q⟩:=h
 cases rx
 obtain ⟨t,rfl⟩:=ry
 obtain ⟨its,r,pl,hz⟩:=I.tuple hq
 obtain ⟨j,h1,h2,h3,h4,h5⟩:=atI_get he
 obtain ⟨w,ew,rw'⟩:=r.get h2
 have hl:=r.length
 have hn:=line63
 have fin:EP X pins σ Q w s:=⟨z,H,I,rw',q⟩
 exact subscriptTail_builtinR (x:=w) pl.typeIs slot_tuple_getitem.lookup
  (getItem_tuple (j:=j) (Q:=fun r s'=>r=w/\EP X pins σ Q r s') pl (by omega) (by omega) (by rw [List.size_toArray,<- hl]; exact h1) (by simpa using ew) ⟨rfl,fin⟩) hs
theorem ix_str:IxR X rIxS:=by
 intro value slice pins s σ H x y v u Q I rx ry h hs
 obtain ⟨z,i,c,rfl,rfl,hz,he,q⟩:=h
 obtain ⟨t,rfl⟩:=rx
 obtain ⟨t',rfl⟩:=ry
 obtain ⟨j,h1,h2,h3,h4,h5⟩:=atI_get he
 have hl:z.cps.toList.length=z.length:=by simp [Str.length]
 rw [hl] at h1 h4 h5
 have hn:=line63
 exact tail_any (typeIs_str s z t) slot_str_getitem.lookup (getItem_str (c:=c) (by
  have e1:decide (i < -(2 ^ 63:Int))=false:=decide_eq_false (by omega)
  have e2:decide (i >= 2 ^ 63)=false:=decide_eq_false (by omega)
  rw [e1,e2,Bool.or_false]) (by rw [h1]; simpa using h2) ⟨.str ⟨#[c]⟩,H,I.tok _,⟨_,rfl⟩,q⟩) hs
theorem mapSeq_set (its:List Value) (n j:Nat) (u:Value):Obj.mapSeq (·.setIfInBounds j u) { cls:=.type "list",data:=.seq its.toArray n }={ cls:=.type "list",data:=.seq (its.set j u).toArray n }:=by
 simp [Obj.mapSeq]
theorem Inv.lst {pins:List (Addr×Obj)} {σ:St} {H:Hp} {s:Shared} {p:Addr} {xs:List V} (I:Inv X pins σ H s) (h:H p=some (.lst xs)):
  ∃ (its:List Value) (n:Nat),Vals xs its/\s.heap.get? p=some { cls:=.type "list",data:=.seq its.toArray n }/\xs.length<=sizeLine:=by
 obtain ⟨z,its,n,r,e⟩:=I.hok p _ h
 exact ⟨its,n,r,e,z⟩
theorem Inv.lstUpd {pins:List (Addr×Obj)} {σ:St} {H:Hp} {s:Shared} {p:Addr} {xs ys:List V} {its its':List Value} {n n':Nat} {f:Obj->Obj} (I:Inv X pins σ H s) (h:H p=some (.lst xs))
  (ho:s.heap.get? p=some { cls:=.type "list",data:=.seq its.toArray n }) (hf:f { cls:=.type "list",data:=.seq its.toArray n }={ cls:=.type "list",data:=.seq its'.toArray n' }) (r:Vals ys its') (hz:ys.length<=sizeLine) (t:Nat):
  Inv X pins σ (upd H p (.lst ys)) { s with heap:=s.heap.update p f,toks:=t }:=by
 have e:(s.heap.update p f).get? p=some { cls:=.type "list",data:=.seq its'.toArray n' }:=by
  rw [Heap.get?_update_self f ho (by rw [hf] <;> rfl),hf]
 refine I.write (x:=p) (e:=p) (by rw [h]; trivial) (.inl rfl) (fun b u hb q=>(Heap.get?_update_other _ _ (Ne.symm hb)).trans q) ⟨_,e⟩ ?_
 exact ⟨hz,its',n',r,e⟩
def rSetL:V->V->V->Hp->(Hp->Prop)->Prop:=fun o i v H Q=>∃ p xs k j,o=.ref p/\i=.int k/\H p=some (.lst xs)/\ixN xs.length k=some j/\Q (upd H p (.lst (xs.set j v)))
theorem set_list:PSet X rSetL:=by
 intro pins s σ H o i v ov iv u Q I ro ri rv h
 obtain ⟨p,xs,k,j,rfl,rfl,hp,hj,q⟩:=h
 cases ro
 obtain ⟨t,rfl⟩:=ri
 obtain ⟨its,n,r,ho,hz⟩:=I.lst hp
 obtain ⟨h1,h2,h3,h4⟩:=ixN_seq hj
 have hl:=r.length
 have hn:=line63
 have I':Inv X pins σ (upd H p (.lst (xs.set j v))) { s with heap:=s.heap.update p (Obj.mapSeq (·.setIfInBounds j u)) }:=
  I.lstUpd hp ho (mapSeq_set its n j u) (r.set rv j) (by rw [List.length_set]; exact hz) s.toks
 by_cases h0:0<=k
 ·have hk:k.toNat=j:=by
   rw [seqIndex_of h0 h4] at h1
   exact Option.some.inj h1
  exact PySem.W.ki_setAt ho h0 (by omega) (by rw [List.size_toArray,<- hl]; exact h4) (by rw [hk]; exact ⟨_,I',q⟩)
 ·have hk:(k+(its.toArray.size:Int)).toNat=j:=by
   rw [seqIndex_neg (by omega) h3] at h1
   rw [List.size_toArray,<- hl]
   exact Option.some.inj h1
  exact PySem.W.ki_setBack ho (by omega) (by rw [List.size_toArray,<- hl]; exact h3) (by omega) (by rw [hk]; exact ⟨_,I',q⟩)
theorem slice_bounds (lo hi:Option Int) (n:Nat):(sliceBounds lo hi none n).1=((HT.sIx n 0 lo:Nat):Int)/\(sliceBounds lo hi none n).2.1=((HT.sIx n n hi:Nat):Int)/\(sliceBounds lo hi none n).2.2=1:=by
 refine ⟨?_,?_,rfl⟩
 ·cases lo with
  | none=>simp [sliceBounds,HT.sIx]
  | some i=>
   simp only [sliceBounds,HT.sIx,Option.getD_none,show (1:Int) > 0 by decide,if_true]
   by_cases h:i < 0
   ·simp only [h,if_true] <;> omega
   ·simp only [h,if_false] <;> omega
 ·cases hi with
  | none=>simp [sliceBounds,HT.sIx]
  | some i=>
   simp only [sliceBounds,HT.sIx,Option.getD_none,show (1:Int) > 0 by decide,if_true]
   by_cases h:i < 0
   ·simp only [h,if_true] <;> omega
   ·simp only [h,if_false] <;> omega
theorem slicePick_cut (its:List Value) (lo hi:Option Int):slicePick its.toArray lo hi none=((its.drop (HT.sIx its.length 0 lo)).take (HT.sIx its.length its.length hi - HT.sIx its.length 0 lo)).toArray:=by
 obtain ⟨h1,h2,h3⟩:=slice_bounds lo hi its.toArray.size
 unfold slicePick
 rw [h1,h2,h3]
 simp only [sliceRange_one,pick_run,List.size_toArray] <;> rfl
def rSlL (K:PySem.W.Frag):V->Option Int->Option Int->Hp->VK->Prop:=fun x lo hi H Q=>∃ a xs,x=.ref a/\SqL K H a xs/\∀ p,H p=none->Q (.ref p) (upd H p (.lst (cutV xs lo hi)))
theorem sl_list:SlR X (rSlL X.K):=by
 intro pins s σ H x v vl vu lo hi sl Q I rx hs pl pu h
 obtain ⟨a,xs,rfl,hx,q⟩:=h
 cases rx
 obtain ⟨its,r,ht,hz⟩:=I.list hx
 have hlen:=r.length
 refine ⟨"list",_,slot_list_getitem.lookup,ht.isList.typeIs,?_⟩
 refine wpAny_getItem_list_slice ht.isList hs pl pu .none (by simp) ?_ (by rw [List.size_toArray] <;> omega)
 rw [slicePick_cut,<- hlen]
 refine ⟨.ref s.heap.objs.size,_,I.laid (t':=s.toks) (o:=.lst (cutV xs lo hi)) (fun b ob q=>Heap.get?_push_of_some _ q) (Nat.le_refl _) ?_,rfl,q _ (I.hok.fresh (Nat.le_refl _))⟩
 exact ⟨Nat.le_trans (cutV_length xs lo hi) hz,_,0,(r.drop (HT.sIx xs.length 0 lo)).take (HT.sIx xs.length xs.length hi - HT.sIx xs.length 0 lo),Heap.get?_push_size _ rfl⟩
def flatV:V->Bool
 | .non=>true
 | .bl _=>true
 | .int _=>true
 | .str _=>true
 | _=>false
def eqV:V->V->Bool
 | .non,.non=>true
 | .bl a,.bl b=>a == b
 | .bl a,.int b=>(if a then 1 else 0) == b
 | .int a,.bl b=>a == (if b then 1 else 0)
 | .int a,.int b=>a == b
 | .str a,.str b=>a == b
 | _,_=>false
theorem eqAt_V {A:Around} {s:Shared} {y x:V} {u v:Value} (ry:RelV y u) (rx:RelV x v) (fy:flatV y=true) (fx:flatV x=true):SeqAt.EqAt A s u v (eqV y x):=by
 cases y with
 | non=>
  cases ry
  cases x with
  | non=>cases rx; exact SeqAt.EqAt.same _
  | bl b=>cases rx; exact SeqAt.EqAt.none_bool b
  | int b=>obtain ⟨t,rfl⟩:=rx; exact SeqAt.EqAt.none_int b t
  | str b=>obtain ⟨t,rfl⟩:=rx; exact SeqAt.EqAt.none_str b t
  | _=>exact absurd (show false=true from fx) Bool.false_ne_true
 | bl a=>
  cases ry
  cases x with
  | non=>cases rx; exact SeqAt.EqAt.bool_none a
  | bl b=>cases rx; exact SeqAt.EqAt.bool_bool a b
  | int b=>obtain ⟨t,rfl⟩:=rx; exact SeqAt.EqAt.bool_int a b t
  | str b=>obtain ⟨t,rfl⟩:=rx; exact SeqAt.EqAt.bool_str a b t
  | _=>exact absurd (show false=true from fx) Bool.false_ne_true
 | int a=>
  obtain ⟨t',rfl⟩:=ry
  cases x with
  | non=>cases rx; exact SeqAt.EqAt.int_none a t'
  | bl b=>cases rx; exact SeqAt.EqAt.int_bool a t' b
  | int b=>obtain ⟨t,rfl⟩:=rx; exact SeqAt.EqAt.int_int a t' b t
  | str b=>obtain ⟨t,rfl⟩:=rx; exact SeqAt.EqAt.int_str a t' b t
  | _=>exact absurd (show false=true from fx) Bool.false_ne_true
 | str a=>
  obtain ⟨t',rfl⟩:=ry
  cases x with
  | non=>cases rx; exact SeqAt.EqAt.str_none a t'
  | bl b=>cases rx; exact SeqAt.EqAt.str_bool a t' b
  | int b=>obtain ⟨t,rfl⟩:=rx; exact SeqAt.EqAt.str_int a t' b t
  | str b=>obtain ⟨t,rfl⟩:=rx; exact SeqAt.EqAt.str_str a t' b t
  | _=>exact absurd (show false=true from fx) Bool.false_ne_true
 | _=>exact absurd (show false=true from fy) Bool.false_ne_true
def eqU (x:V) (u:Value):Bool:=match u with
 | .none=>eqV .non x
 | .bool b=>eqV (.bl b) x
 | .int i _=>eqV (.int i) x
 | .str z _=>eqV (.str z) x
 | _=>false
theorem eqU_of {x y:V} {u:Value} (r:RelV y u) (f:flatV y=true):eqU x u=eqV y x:=by
 cases y with
 | non=>cases r; rfl
 | bl b=>cases r; rfl
 | int i=>obtain ⟨t,rfl⟩:=r; rfl
 | str z=>obtain ⟨t,rfl⟩:=r; rfl
 | _=>exact absurd (show false=true from f) Bool.false_ne_true
theorem any_eqU {x:V}:∀ {xs:List V} {us:List Value},Vals xs us->xs.all flatV=true->us.any (eqU x)=xs.any fun y=>eqV y x
 | _,_,.nil,_=>rfl
 | y :: xs,u :: us,.cons r t,f=>by
  rw [List.all_cons,Bool.and_eq_true] at f
  rw [List.any_cons,List.any_cons,eqU_of r f.1,any_eqU t f.2]
theorem mem_eqAt {A:Around} {s:Shared} {x:V} {v:Value} (rx:RelV x v) (fx:flatV x=true):∀ {xs:List V} {us:List Value},Vals xs us->xs.all flatV=true->∀ u∈us,SeqAt.EqAt A s u v (eqU x u)
 | _,_,.nil,_=>fun u hu=>by cases hu
 | y :: xs,u :: us,.cons r t,f=>fun u' hu=>by
  rw [List.all_cons,Bool.and_eq_true] at f
  rcases List.mem_cons.mp hu with rfl | hu
  ·rw [eqU_of r f.1]; exact eqAt_V r rx f.1 fx
  ·exact mem_eqAt rx fx t f.2 u' hu
def inV (x:V) (xs:List V):Bool:=xs.any fun y=>eqV y x
def rIn (K:PySem.W.Frag) (neg:Bool):R2:=fun x y H Q=>∃ p xs,y=.ref p/\(SqL K H p xs\/SqT K H p xs)/\flatV x=true/\xs.all flatV=true/\Q (.bl (if neg then !inV x xs else inV x xs)) H
theorem op_in_seq:OpR X (compareOp .In) (rIn X.K false):=by
 intro pins s σ H x y v u Q I rx ry h
 obtain ⟨p,xs,rfl,hq,fx,fs,q⟩:=h
 cases ry
 rcases hq with hq | hq
 ·obtain ⟨its,r,pl,hz⟩:=I.list hq
  refine SeqAt.in_listAt (eqU x) pl.isList (fun w hw=>mem_eqAt rx fx r fs w (by simpa using hw)) ⟨.bl _,H,I,rfl,?_⟩
  rw [show its.toArray.any (eqU x)=its.any (eqU x) by simp,any_eqU r fs]
  exact q
 ·obtain ⟨its,r,pl,hz⟩:=I.tuple hq
  refine SeqAt.in_tupleAt (eqU x) pl (fun w hw=>mem_eqAt rx fx r fs w (by simpa using hw)) ⟨.bl _,H,I,rfl,?_⟩
  rw [show its.toArray.any (eqU x)=its.any (eqU x) by simp,any_eqU r fs]
  exact q
theorem op_notIn_seq:OpR X (compareOp .NotIn) (rIn X.K true):=by
 intro pins s σ H x y v u Q I rx ry h
 obtain ⟨p,xs,rfl,hq,fx,fs,q⟩:=h
 cases ry
 rcases hq with hq | hq
 ·obtain ⟨its,r,pl,hz⟩:=I.list hq
  refine SeqAt.notIn_listAt (eqU x) pl.isList (fun w hw=>mem_eqAt rx fx r fs w (by simpa using hw)) ⟨.bl _,H,I,rfl,?_⟩
  rw [show its.toArray.any (eqU x)=its.any (eqU x) by simp,any_eqU r fs]
  exact q
 ·obtain ⟨its,r,pl,hz⟩:=I.tuple hq
  refine SeqAt.notIn_tupleAt (eqU x) pl (fun w hw=>mem_eqAt rx fx r fs w (by simpa using hw)) ⟨.bl _,H,I,rfl,?_⟩
  rw [show its.toArray.any (eqU x)=its.any (eqU x) by simp,any_eqU r fs]
  exact q
theorem call_len_seq:CallR X (.builtin "len") (fun xs H Q=>∃ p ys,xs=[.ref p]/\(SqL X.K H p ys\/SqT X.K H p ys)/\Q (.int ys.length) H):=by
 intro pins s σ H xs us Q I r h
 obtain ⟨p,ys,rfl,hq,q⟩:=h
 obtain ⟨u,rfl,rx⟩:=vals1 r
 cases rx
 have hn:=line63
 rcases hq with hq | hq
 ·obtain ⟨its,r',pl,hz⟩:=I.list hq
  have hlen:=r'.length
  exact Calls.call_len_list pl.isList (by simp only [List.size_toArray] <;> omega) ⟨.int ys.length,H,I.tok _,⟨s.toks+1,by rw [List.size_toArray,hlen]⟩,q⟩
 ·obtain ⟨its,r',pl,hz⟩:=I.tuple hq
  have hlen:=r'.length
  exact len_tuple pl (by simp only [List.size_toArray] <;> omega) ⟨.int ys.length,H,I.tok _,⟨s.toks+1,by rw [List.size_toArray,hlen]⟩,q⟩
theorem CallR.or {f:Value} {r r':List V->Hp->VK->Prop} (h:CallR X f r) (h':CallR X f r'):CallR X f (fun xs H Q=>r xs H Q\/r' xs H Q):=by
 intro pins s σ H xs us Q I rs q
 rcases q with q | q
 ·exact h pins s σ H xs us Q I rs q
 ·exact h' pins s σ H xs us Q I rs q
theorem call_list_of:CallR X (.type "list") (fun xs H Q=>∃ p ys,xs=[.ref p]/\(SqL X.K H p ys\/SqT X.K H p ys)/\∀ l,H l=none->Q (.ref l) (upd H l (.lst ys))):=by
 intro pins s σ H xs us Q I r h
 obtain ⟨p,ys,rfl,hq,q⟩:=h
 obtain ⟨u,rfl,rx⟩:=vals1 r
 cases rx
 have fin:∀ (its:List Value),Vals ys its->ys.length<=sizeLine->∀ (h':Heap) (c':Nat),(∀ b o',s.heap.get? b=some o'->h'.get? b=some o')->
   h'.get? s.heap.objs.size=some { cls:=.type "list",dict:=none,data:=.seq its.toArray c',slots:=#[] }->EP X pins σ Q (.ref s.heap.objs.size) { s with heap:=h' }:=fun its r' hz h' c' kp e=>
  ⟨.ref s.heap.objs.size,_,I.laid (t':=s.toks) kp (Nat.le_refl _) (show ObjOk X.prog X.w _ h' _ (.lst ys) from ⟨hz,its,c',r',e⟩),rfl,q _ (I.hok.fresh (Nat.le_refl _))⟩
 rcases hq with hq | hq
 ·obtain ⟨its,r',pl,hz⟩:=I.list hq
  have hlen:=r'.length
  obtain ⟨o,ho,hc,n,hd⟩:=pl.isList
  exact call_list_seq p (.inl rfl) ho hc hd (fun h' c' kp e=>fin its r' hz h' c' kp e) (by simp only [List.size_toArray] <;> omega)
 ·obtain ⟨its,r',pl,hz⟩:=I.tuple hq
  have hlen:=r'.length
  obtain ⟨o,ho,hc,n,hd⟩:=pl
  exact call_list_seq p (.inr rfl) ho hc hd (fun h' c' kp e=>fin its r' hz h' c' kp e) (by simp only [List.size_toArray] <;> omega)
def tyV (K:PySem.W.Frag) (T:String) (x:V) (H:Hp):Prop:=match x with
 | .str _=>T="str"
 | .int _=>T="int"
 | .ref p=>(T="list" /\ ∃ xs,SqL K H p xs)\/(T="tuple" /\ ∃ o,K.lookup p=some o/\o.cls=.type "tuple" /\ o.dict=none)\/
   (T="dict" /\ ((∃ kvs,H p=some (.dK kvs))\/∃ kvs,H p=some (.dT kvs)))\/(T="set" /\ ∃ S n,H p=some (.set S n))
 | _=>False
theorem tyV_is {pins:List (Addr×Obj)} {σ:St} {H:Hp} {s:Shared} {T:String} {x:V} {v:Value} (I:Inv X pins σ H s) (r:RelV x v) (ty:tyV X.K T x H):
  s.TypeIs v T/\∀ a,v=.ref a->∃ ob,s.heap.get? a=some ob/\ob.dict=none:=by
 cases x with
 | str z=>
  obtain ⟨t,rfl⟩:=r
  cases (show T="str" from ty)
  exact ⟨typeIs_str s z t,fun _ e=>nomatch e⟩
 | int i=>
  obtain ⟨t,rfl⟩:=r
  cases (show T="int" from ty)
  exact ⟨typeIs_int s i t,fun _ e=>nomatch e⟩
 | ref p=>
  cases r
  rcases ty with ⟨rfl,xs,hq⟩ | ⟨rfl,o,hk,hc,hd⟩ | ⟨rfl,hk⟩ | ⟨rfl,S,n,hk⟩
  ·obtain ⟨its,_,pl,_⟩:=I.list hq
   refine ⟨pl.isList.typeIs,fun a e=>?_⟩
   cases e
   obtain ⟨o,n,e,c,hd,_⟩:=pl
   exact ⟨o,e,hd⟩
  ·refine ⟨⟨o,I.kIn p o hk,hc⟩,fun a e=>?_⟩
   cases e
   exact ⟨o,I.kIn _ o hk,hd⟩
  ·have z:∃ o,s.heap.get? p=some o/\o.ExactDict:=by
    rcases hk with ⟨kvs,hk⟩ | ⟨kvs,hk⟩
    ·obtain ⟨_,_,_,_,o,_,_,e,ex,_⟩:=I.hok p _ hk
     exact ⟨o,e,ex⟩
    ·obtain ⟨_,_,_,_,o,_,_,e,ex,_⟩:=I.hok p _ hk
     exact ⟨o,e,ex⟩
   obtain ⟨o,e,ex⟩:=z
   refine ⟨⟨o,e,ex.1⟩,fun a e2=>?_⟩
   cases e2
   exact ⟨o,e,ex.2.1⟩
  ·obtain ⟨o,_,_,_,e,ex,_⟩:=I.hok p _ hk
   refine ⟨⟨o,e,ex.1⟩,fun a e2=>?_⟩
   cases e2
   exact ⟨o,e,ex.2.1⟩
 | _=>exact False.elim ty
def tBM (K:PySem.W.Frag) (T:String) (r:V->List V->Hp->VK->Prop) (to:TE) (t:TA):TE:=fun σ H Q=>to σ H fun x H1=>tyV K T x H1/\t σ H1 fun xs H2=>r x xs H2 Q
variable {o e:Expr} {es:List Expr} {to:TE} {t:TA} {name:Str} {apos cpos:Pos} {T id:String} {r:V->List V->Hp->VK->Prop}
theorem pe_bm (pa:PlainAttrs T) (slot:Slot T name id) (hty:typeOf (.builtin id)=pure (.type "method_descriptor")) (hm:MtR X id r) (ho:PE X o to) (ha:PA X (e :: es) t)
  (hbase:attributeBase o name X.env (eval o X.env)=eval o X.env:=by rfl)
  (hfew:((backTo cpos (starEach (e :: es) X.env)).all (fun x=>!x.1) && (backToKw cpos (keywordEach [] X.env)).all (fun x=>x.1.isSome)
   && decide ((e :: es).length+([]:List Keyword).length+(if ([]:List Keyword).isEmpty then 0 else 1) < 30))=true:=by rfl)
  (hline:(apos.endLine == cpos.line)=true:=by rfl) (hs:starEach (e :: es) X.env=(false,eval e X.env) :: starEach es X.env:=by rfl) (hplain:(backTo cpos (starEach es X.env)).any (·.1)=false:=by rfl):
  PE X (.Call (.Attribute o name apos) (e :: es) [] cpos) (tBM X.K T r to t):=by
 intro pins s σ H Q I h
 refine wpAny_Call_method_late hbase hfew hline rfl (thn (ho pins s σ H _ I h) fun v s1 hz=>?_)
 obtain ⟨x,H1,I1,r1,ty,q1⟩:=hz
 obtain ⟨h1,h2⟩:=tyV_is I1 r1 ty
 refine ⟨T,id,pa,slot,hty,h1,h2,?_⟩
 have hA:=ha cpos pins s1 σ H1 _ I1 q1
 rw [hs] at hA ⊢
 refine Calls.callWith_builtin (by show (false || (backTo cpos (starEach es X.env)).any (·.1))=false; rw [hplain] <;> rfl) (Calls.evalArgs_plain ?_)
 exact thn hA fun us s2 ⟨vs,H2,I2,r2,q2⟩=>hm pins s2 σ H2 x vs v us Q I2 r1 r2 q2
end
end L2
namespace L2
open PySem PySem.Spec PyProof.Rows
def MtM (X:Cx) (id:String) (r:V->List V->Hp->VK->Prop):Prop:=
 ∀ (pins:List (Addr×Obj)) (s:Shared) (σ:St) (H:Hp) (x:V) (xs:List V) (v:Value) (us:List Value) (Q:VK),Inv X pins σ H s->RelV x v->Vals xs us->r x xs H Q->
  wpAny (model X.prog X.w) X.A (call (.builtin id) (v :: us)) (EP X pins σ Q) X.xe s
theorem Vals.one:∀ {x:V} {us:List Value},Vals [x] us->∃ u,us=[u]/\RelV x u
 | _,_,.cons r .nil=>⟨_,rfl,r⟩
section
variable {X:Cx} {pins:List (Addr×Obj)} {σ:St} {H:Hp} {s:Shared} {l b:Addr} {xs ys zs:List V}
theorem Inv.lset {its its':List Value} {n:Nat} {f:Array Value->Array Value} {t':Nat} (I:Inv X pins σ H s) (hH:H l=some (.lst xs))
  (e:s.heap.get? l=some { cls:=.type "list",data:=.seq its.toArray n }) (hf:f its.toArray=its'.toArray) (hv:Vals ys its') (hz:ys.length<=sizeLine):
  Inv X pins σ (upd H l (.lst ys)) { s with heap:=s.heap.update l (Obj.mapSeq f),toks:=t' }:=by
 have q:=PySem.IsL.update e f
 rw [hf] at q
 refine I.write (x:=l) (e:=l) (by rw [hH]; exact trivial) (.inl rfl) (fun b' u hb hu=>(Heap.get?_update_other s.heap (Obj.mapSeq f) (Ne.symm hb)).trans hu) ⟨_,q⟩ ?_
 exact ⟨hz,its',_,hv,q⟩
theorem Inv.lnew {its:List Value} {t':Nat} (I:Inv X pins σ H s) (hv:Vals ys its) (hz:ys.length<=sizeLine):
  Inv X pins σ (upd H s.heap.objs.size (.lst ys)) { s with heap:=s.heap.push { cls:=.type "list",data:=.seq its.toArray },toks:=t' }:=
 I.laid (fun _ _ q=>Heap.get?_push_of_some _ q) (Nat.le_refl _) ⟨hz,its,0,hv,Heap.get?_push_size _ rfl⟩
theorem Inv.fresh (I:Inv X pins σ H s):H s.heap.objs.size=none:=I.hok.fresh (Nat.le_refl _)
theorem Inv.lstM (I:Inv X pins σ H s) (hH:H l=some (.lst xs)):xs.length<=sizeLine/\∃ (its:List Value) (n:Nat),Vals xs its/\xs.length=its.length/\s.heap.get? l=some { cls:=.type "list",data:=.seq its.toArray n }:=by
 obtain ⟨z,its,n,r,e⟩:=I.hok l _ hH
 exact ⟨z,its,n,r,r.length,e⟩
end
section
variable {X:Cx}
def rAppend:V->List V->Hp->VK->Prop:=fun x vs H Q=>∃ l xs y,x=.ref l/\vs=[y]/\H l=some (.lst xs)/\xs.length < sizeLine/\Q .non (upd H l (.lst (xs++[y])))
theorem mt_append:MtM X "list.append" rAppend:=by
 intro pins s σ H x vs v us Q I rx rv h
 obtain ⟨l,xs,y,rfl,rfl,hH,hz,q⟩:=h
 cases rx
 obtain ⟨u,rfl,ru⟩:=rv.one
 obtain ⟨z,its,n,r,hl,e⟩:=I.lstM hH
 refine call_meets F.slot_list_append ⟨_,e,rfl⟩ F.entry_list_append (F.args_list_append_2 _ _) (PySem.list_append l its.toArray n u (by rw [List.size_toArray]; omega)) ⟨e,?_⟩
 refine ⟨.non,_,I.lset (its':=its++[u]) hH e (by simp) (r.append (.cons ru .nil)) ?_,rfl,q⟩
 rw [List.length_append,List.length_singleton]
 omega
def rCat:R2:=fun x y H Q=>∃ l b xs zs,x=.ref l/\y=.ref b/\H l=some (.lst xs)/\H b=some (.lst zs)/\xs.length+zs.length<=sizeLine/\∀ p,H p=none->Q (.ref p) (upd H p (.lst (xs++zs)))
theorem op_cat:OpR X (binaryOp .Add) rCat:=by
 intro pins s σ H x y v u Q I rx ry h
 obtain ⟨l,b,xs,zs,rfl,rfl,hH,hB,hz,q⟩:=h
 cases rx
 cases ry
 obtain ⟨z,its,n,r,hl,e⟩:=I.lstM hH
 obtain ⟨z2,its2,n2,r2,hl2,e2⟩:=I.lstM hB
 refine PySem.P.add_list e e2 ?_ (by rw [List.size_toArray,List.size_toArray]; omega)
 have ea:its.toArray++its2.toArray=(its++its2).toArray:=by simp
 rw [ea]
 exact ⟨.ref _,_,I.lnew (t':=s.toks) (r.append r2) (by rw [List.length_append]; omega),rfl,q _ I.fresh⟩
end
section
variable {prog:Program} {w:World} {A:Around} {E:Value->Shared->Prop} {s:Shared}
end
section
variable {X:Cx}
end
end L2
namespace Att
open PySem PySem.W PySem.Calls PyProof.Rows
theorem ints_of_wellAll {P:Params} {h:Heap}:∀ (ns:List Int) (vs:List Value),WellAll P h vs (ns.map WData.int)->IntsAre vs ns:=by
 intro ns
 induction ns with
 | nil=>
  intro vs w
  rw [List.map_nil] at w
  cases w
  exact .nil
 | cons n ns ih=>
  intro vs w
  rw [List.map_cons] at w
  cases w with
  | cons a b=>
   cases a
   exact .cons _ _ (ih _ b)
theorem script_of {l:OpenLaw} {n:Nat} (hn:l.most=some n) {P:Params} {h:Heap} {args:List WData} {vals:List Value}
  (hpre:l.row.toRowW.claim.pre args=true) (hwl:WellAll P h vals args):
  ∃ a vs ns,vals=[Value.ref a]/\args=[WData.list (ns.map WData.int)]/\h.get? a=some { cls:=.type "list",data:=.seq vs.toArray }/\IntsAre vs ns/\ns.length<=n:=by
 have hsh:WShape.hasAll [] args [.list .int]=true:=(pre_splitW hpre).1
 have hc:l.pre.holds [] { args:=args }=true:=(pre_splitW hpre).2
 obtain ⟨d,r,rfl,h1,h2⟩:=hasAllW_cons hsh
 obtain rfl:=hasAllW_nil h2
 obtain ⟨xs,rfl,h3⟩:=hasW_list h1
 obtain ⟨ns,rfl⟩:=items_int h3
 have hlen:ns.length<=n:=by
  unfold OpenLaw.pre at hc
  have h4:(WTm.not (.lt (.lit (.int (n:Int))) (.len (.arg 0)))).holds [] { args:=[.list (ns.map .int)] }=true:=by
   have h4:=(holds_andW hc).1
   rw [hn] at h4
   exact h4
  have h5:=condW_of h4 (w_not (w_lt w_lit (w_len_list (w_arg rfl))))
  rw [List.length_map] at h5
  refine Nat.le_of_not_lt fun q=>?_
  have q':(n:Int) < ((ns.length:Nat):Int):=by omega
  first
   | (rw [decide_eq_true q'] at h5; exact absurd h5 (by decide))
   | (simp at h5; omega)
 cases hwl with
 | cons w1 w2=>
  cases w2
  cases w1 with
  | list ho hall=>exact ⟨_,_,ns,rfl,rfl,ho,ints_of_wellAll ns _ hall,hlen⟩
theorem post_true (l:OpenLaw) (args:List WData):l.row.toRowW.claim.post args (.bool true) args=true:=
 postW_of (r:=l.row.toRowW) (X:=(true == true))
  (show WShape.has [] (.bool true) .bool=true by first | rfl | decide | simp [WShape.has,WShape.arms,WShape.armsAll])
  (show (WTm.eq .res (.lit (.bool true))).value [] { args:=args,res:=some (.bool true),after:=args }=some (.bool (true == true)) from w_eq_bool (w_res rfl) w_lit) rfl
theorem attach_call {l:OpenLaw} {n:Nat} {q:Program} {loose:List Str} {XP:(Str->Option Value)->Heap->Prop} {YP:World->Heap->Prop} {d:DefRec}
  (hn:l.most=some n) (hdf:d.params.defaults=[])
  (call:∀ (w:World) (s₀ s₁:Shared) (mg mb:Str->Option Value) (fa:Addr) (o:Obj) (pm cd doc:Value) (a:Addr) (vs:List Value) (ns:List Int),
   Ground q loose [] XP w s₀ mg mb s₁.heap->YP w s₁.heap->
   s₁.heap.get? fa=some o->o.data=.func (docDef d.name d.params d.body d.scope pm cd doc)->s₁.heap.CodeRec cd d.name->mg d.name=some (.ref fa)->
   s₁.heap.get? a=some { cls:=.type "list",data:=.seq vs.toArray }->IntsAre vs ns->ns.length<=n->s₁.gens=#[]->
   codeAny (model l.prog w) callerA (.call (.ref fa) ⟨[.ref a],[]⟩) (fun r s'=>r=.ok (.ret (.bool true))/\OldK s₁.heap s'.heap/\s'.os=s₁.os/\AllBare s'.gens) s₁):
  WalkO q loose XP YP l.row.toRowW d [] (fun f vs=>PySem.call f vs):=by
 intro w s₀ s₁ mg mb G Y fa o pm cd doc dV kV ho hd hcd hD hmg hg args vals as hpre hlay hrd hwl hlo
 obtain rfl:dV=.none:=Dflts.none hD hdf
 obtain rfl:kV=.none:=Dflts.noKw hD
 obtain ⟨a,vs,ns,rfl,rfl,hobj,hints,hlen⟩:=script_of hn hpre hwl
 refine enter_call (codeAny_mono (call w s₀ s₁ mg mb fa o pm cd doc a vs ns G Y ho (fd_plain hd) hcd hmg hobj hints hlen hg) fun r s' hq=>?_)
 obtain ⟨rfl,h2,h3,h4⟩:=hq
 exact ⟨.inl ⟨.bool true,.bool true,[],rfl,fun _=>rfl,.bool true,post_true l _,fun _=>⟨List.Pairwise.nil,fun _ hm=>(nomatch hm)⟩⟩,h2,h3,h4⟩
section
variable {prog:Program} {w:World} {A:Around} {E:Value->Shared->Prop} {s:Shared} {K:Frag}
end
end Att
namespace L2
open PySem PySem.Spec PyProof.Rows
theorem vals_ints:∀ {vs:List Value} {ns:List Int},IntsAre vs ns->Vals (ns.map V.int) vs
 | _,_,.nil=>.nil
 | _,_,.cons n t h=>.cons ⟨t,rfl⟩ (vals_ints h)
def Only (H:Hp):Prop:=∀ b,H b=none\/∃ o xs,H b=some (.frz o (.lst xs))
theorem law_call {P:Program} {w:World} {K:PySem.W.Frag} {mg mb:Str->Option Value} {CX:CXT} {k:Nat} {fa a:Addr} {fd:FuncData} {x:Str} {sp:Sp} {s₁:Shared} {vs:List Value} {ns:List Int}
  (KX:K.In s₁.heap) (hns:s₁.heap.Ns mainGlobals mg) (hb:s₁.heap.Ns builtinsNs mb) (hbb:∀ x:Str,x≠"__name__" -> mb x=bootBuiltins x) (hlim:s₁.heap.NoLimit) (hg:s₁.gens=#[])
  (ha:s₁.heap.get? a=some { cls:=.type "list",data:=.seq vs.toArray }) (hi:IntsAre vs ns) (hl:ns.length<=sizeLine) (hr:Room k callerA)
  (F:∀ base:Heap,K.In base->base.Ns mainGlobals mg->FnOk P w K mg base CX k fa fd [x] sp) (hbind:∀ (s:Shared) (u:Value),BindsTo s fd ⟨[u],[]⟩ [(x,u)])
  (hsp:∀ H:Hp,Only H->SqL K H a (ns.map V.int)->sp [.ref a] H (fun v _=>v=.bl true) fun _ _ _=>False)
  (hCX:∀ H e s',CX [] H s₁ (fun _ _ _=>False) e s'->False):
  codeAny (model P w) callerA (.call (.ref fa) ⟨[.ref a],[]⟩) (fun r s'=>r=.ok (.ret (.bool true))/\OldK s₁.heap s'.heap/\s'.os=s₁.os/\AllBare s'.gens) s₁:=by
 have rv:=vals_ints hi
 have lenV:=hi.length
 -- from an abstract heap in which nothing but the script may be tracked
 have core:∀ H:Hp,Only H->SqL K H a (ns.map V.int)->HOk P w H s₁.heap->(∀ b,H b≠none->b=a)->(H a≠none->K.lookup a=none)->
   codeAny (model P w) callerA (.call (.ref fa) ⟨[.ref a],[]⟩) (fun r s'=>r=.ok (.ret (.bool true))/\OldK s₁.heap s'.heap/\s'.os=s₁.os/\AllBare s'.gens) s₁:=by
  intro H hO hS hok hA hK
  have base_of:∀ {b:Addr} {o:Obj},s₁.heap.get? b=some o->H b=none->(hidT s₁.heap H).get? b=some o:=fun e n=>hidT_get e n
  have noA:∀ {b:Addr} {o:Obj} {es:Array DictEntry} {ep:Nat},s₁.heap.get? b=some o->o.data=.dict es ep->H b=none:=fun {b o es ep} e d=>by
   cases q:H b with
   | none=>rfl
   | some u=>
    have e':b=a:=hA b (by rw [q]; simp)
    subst e'
    rw [ha] at e; cases e
    have d':Data.seq vs.toArray _=Data.dict es ep:=d
    cases d'
  have nsK:∀ {b:Addr} {m:Str->Option Value},s₁.heap.Ns b m->(hidT s₁.heap H).Ns b m:=fun {b m} ⟨o,es,ep,e,d,r⟩=>⟨o,es,ep,base_of e (noA e d),d,r⟩
  have hKb:K.In (hidT s₁.heap H):=fun b o e=>base_of (KX b o e) (by
   cases q:H b with
   | none=>rfl
   | some u=>
    have e':b=a:=hA b (by rw [q]; simp)
    subst e'
    rw [hK (by rw [q]; simp)] at e; cases e)
  have hM:Mod K mg (hidT s₁.heap H):=⟨hKb,nsK hns,⟨mb,nsK hb,hbb⟩,let ⟨mc,h1,h2⟩:=hlim; ⟨mc,nsK h1,h2⟩⟩
  have e0:Env0 P w K mg (hidT s₁.heap H) callerA [] s₁ H:=⟨rfl,hM,fun b o e=>of_hidT e,Nat.le_of_eq (hidT_size _ _),trivial,fun b hb=>absurd (show b∈([]:List Addr) from hb) (by simp),hok,.of_eq hg⟩
  refine codeAny_mono ((F _ hKb (nsK hns)).run callerA [] s₁ H ⟨[.ref a],[]⟩ [.ref a] [.ref a] _ _ hr e0 (hbind s₁ (.ref a)) (.cons rfl .nil) (hsp H hO hS)) fun r s' h=>?_
  cases r with
  | error e=>exact (hCX H e s' h).elim
  | ok fl=>
   cases fl with
   | next=>exact False.elim h
   | brk=>exact False.elim h
   | cont=>exact False.elim h
   | ret u=>
    obtain ⟨v,H',os,bare,un,hok',r',q⟩:=h
    have q':v=.bl true:=q
    subst q'
    obtain rfl:u=Value.bool true:=r'
    refine ⟨rfl,OldK.of_keep fun b o e=>?_,os,bare⟩
    cases q:H b with
    | none=>exact un.keep b o e q (by intro z; exact absurd (show b∈([]:List Addr) from z) (by simp)) (by simp)
    | some u=>
     rcases hO b with z | ⟨ob,xs,z⟩
     ·rw [q] at z; cases z
     ·have z2:=un.frzs b ob _ z
      obtain ⟨e1,_⟩:=hok b _ z
      obtain ⟨e2,_⟩:=hok' b _ z2
      rw [e] at e1; cases e1
      exact e2
 cases hk:K.lookup a with
 | some o=>
  -- the script is one of the module's own objects
  have e:=KX a o hk
  rw [ha] at e
  cases e
  refine core (fun _=>none) (fun _=>.inl rfl) (.inr ⟨_,vs.toArray,_,hk,rfl,rfl,rfl,by rw [List.size_toArray,lenV]; exact hl,by simpa using rv⟩) (fun b u z=>by have z':(none:Option HO)=some u:=z; cases z') (fun b z=>absurd rfl z) fun z=>absurd rfl z
 | none=>
  refine core (fun b=>if b=a then some (.frz { cls:=.type "list",data:=.seq vs.toArray } (.lst (ns.map V.int))) else none) (fun b=>?_) (.inl (.inr ⟨{ cls:=.type "list",data:=.seq vs.toArray },if_pos rfl⟩)) (fun b u z=>?_) (fun b z=>?_) fun _=>hk
  ·by_cases hb:b=a
   ·exact .inr ⟨_,_,if_pos hb⟩
   ·exact .inl (if_neg hb)
  ·by_cases hb:b=a
   ·have z':=(if_pos hb).symm.trans z
    cases z'
    subst hb
    exact ⟨ha,by rw [List.length_map]; exact hl,vs,_,rv,ha⟩
   ·have z':=(if_neg hb).symm.trans z
    cases z'
  ·by_cases hb:b=a
   ·exact hb
   ·exact absurd (if_neg hb) z
end L2
namespace L2
open PySem PySem.Spec PyProof.Rows
theorem walk_of {l:PySem.W.OpenLaw} {n k:Nat} {q:Program} {loose:List Str} {XP:(Str->Option Value)->Heap->Prop} {YP:World->Heap->Prop} {d:DefRec} {K:Params->PySem.W.Frag} {CX:World->CXT} {sp:World->Sp} {x:Str}
  (hn:l.most=some n) (hn2:n<=sizeLine) (hdf:d.params.defaults=[]) (hr:Room k callerA)
  (hY:∀ (w:World) (h:Heap),YP w h->(K w.params).In h)
  (F:∀ (w:World) (mg:Str->Option Value) (fa:Addr) (h:Heap),(K w.params).In h->h.Ns mainGlobals mg->mg d.name=some (.ref fa)->
   ∃ fd:FuncData,(∀ (s:Shared) (u:Value),BindsTo s fd ⟨[u],[]⟩ [(x,u)])/\
    ∀ base:Heap,(K w.params).In base->base.Ns mainGlobals mg->FnOk l.prog w (K w.params) mg base (CX w) k fa fd [x] (sp w))
  (hsp:∀ (w:World) (H:Hp) (a:Addr) (ns:List Int),ns.length<=n->Only H->SqL (K w.params) H a (ns.map V.int)->sp w [.ref a] H (fun v _=>v=.bl true) fun _ _ _=>False)
  (hCX:∀ (w:World) (H:Hp) (s:Shared) (e:Value) (s':Shared),CX w [] H s (fun _ _ _=>False) e s'->False):
  PySem.W.WalkO q loose XP YP l.row.toRowW d [] (fun f vs=>PySem.call f vs):=by
 refine Att.attach_call hn hdf fun w s₀ s₁ mg mb fa o pm cd doc a vs ns G Y ho hd hcd hmg hobj hints hlen hg=>?_
 have KX:=hY w _ Y
 obtain ⟨fd,hb,hF⟩:=F w mg fa _ KX G.T.g hmg
 exact law_call KX G.T.g G.T.b G.T.builtins G.T.nolimit hg hobj hints (Nat.le_trans hlen hn2) hr hF hb (fun H hO hS=>hsp w H a ns hlen hO hS) fun H e s'=>hCX w H s₁ e s'
end L2
namespace L2
open PySem PySem.Spec PyProof.Rows
def inClass (s:Stmt) (j:Nat):Stmt:=match s with
 | .ClassDef _ _ _ body _ _ _ _ _ _ _=>body.getD j (.Pass ⟨0,0,0,0⟩)
 | _=>.Pass ⟨0,0,0,0⟩
def defArgs (s:Stmt):Arguments:=match s with
 | .FunctionDef _ a _ _ _ _ _ _ _ _=>a
 | _=>{ posonlyargs:=[],args:=[],vararg:=none,kwonlyargs:=[],kw_defaults:=[],kwarg:=none,defaults:=[] }
def defBody (s:Stmt):List Stmt:=match s with
 | .FunctionDef _ _ b _ _ _ _ _ _ _=>b
 | _=>[]
def defScope (s:Stmt):Scope:=match s with
 | .FunctionDef _ _ _ _ _ _ sc _ _ _=>sc
 | _=>{ kind:=.function,names:=[],isGenerator:=false,isCoroutine:=false }
abbrev CX0:CXT:=fun _ _ _ _ _ _=>False
abbrev E0:XK:=fun _ _ _=>False
theorem pass0 {X:Cx}:Passes CX0 X E0:=fun _ _ _ _ _ _ _ h=>h.elim
structure Fun (K:PySem.W.Frag) (x qual:Str) (st:Stmt) (f:Addr) (fd:FuncData):Prop where
 ex:∃ (oc:Value) (od:Option Addr) (kV doc pm:Value) (an:Option Addr) (cdv ct:Value) (osl:Array (Option Value)),
  fd=PySem.W.fnOf x qual (defArgs st) (defBody st) (defScope st) .none kV doc pm an cdv ct/\K.lookup f=some ⟨oc,od,.func fd,osl⟩/\PySem.W.codeIn K cdv qual=true
 kp:PySem.W.keepIn K (.ref f)=true
section
variable {P:Program} {w:World} {K:PySem.W.Frag} {mg:Str->Option Value} {base:Heap}
theorem Fun.ok {x qual:Str} {st:Stmt} {f:Addr} {fd:FuncData} {N ps:List Str} {k:Nat} {sp:Sp} (F:Fun K x qual st f fd) (S:FnScope N ps (defScope st)) (len:∀ vs H Q E,sp vs H Q E->vs.length=ps.length)
  (hbody:∀ (cdv:Value) (A:Around) (outer:List Env) (s:Shared) (H:Hp) (vs:List V) (Q:VK) (E:XK),Room k (A.deeper (envOfC qual (defScope st) s.heap.objs.size f cdv))->sp vs H Q E->
   ∃ t,PSs (cxOf CX0 P w K mg base N qual (defScope st) f cdv A outer s H E).nox (defBody st) t/\t { nx:=fun _ H'=>Q .non H',rt:=Q } (start N vs) H):FnOk P w K mg base CX0 (k+1) f fd ps sp:=by
 obtain ⟨oc,od,kV,doc,pm,an,cdv,ct,osl,rfl,lk,hcd⟩:=F.ex
 refine fn_of lk hcd S len fun A outer s H vs Q E hr hsp=>?_
 obtain ⟨t,h,q⟩:=hbody cdv A outer s H vs Q E hr hsp
 exact ⟨t,h.nox,q⟩
theorem Fun.binds {x qual:Str} {st:Stmt} {f:Addr} {fd:FuncData} {ps:List Str} (F:Fun K x qual st f fd)
  (h:∀ (kV doc pm:Value) (an:Option Addr) (cdv ct:Value) (us:List Value),us.length=ps.length->bindArgs (PySem.W.fnOf x qual (defArgs st) (defBody st) (defScope st) .none kV doc pm an cdv ct) ⟨us,[]⟩=pure (ps.zip us)):Binds K fd ps []:=by
 obtain ⟨oc,od,kV,doc,pm,an,cdv,ct,osl,rfl,lk,hcd⟩:=F.ex
 exact .all (h kV doc pm an cdv ct)
theorem fun_mk {x qual:Str} {st:Stmt} {f:Addr} {oc:Value} {od an:Option Addr} {osl:Array (Option Value)} {kV doc pm cdv ct:Value} (l:K.lookup f=some ⟨oc,od,.func (PySem.W.fnOf x qual (defArgs st) (defBody st) (defScope st) .none kV doc pm an cdv ct),osl⟩)
  (c:PySem.W.codeIn K cdv qual=true) (k:PySem.W.keepIn K (.ref f)=true):Fun K x qual st f (PySem.W.fnOf x qual (defArgs st) (defBody st) (defScope st) .none kV doc pm an cdv ct):=⟨⟨oc,od,kV,doc,pm,an,cdv,ct,osl,rfl,l,c⟩,k⟩
end
theorem hu_of {A:Around} {k:Nat} (hr:Room k A):A.units+1 < cLine:=Nat.lt_of_le_of_lt (Nat.add_le_add_left (by decide:1<=64) _) hr.units
section
variable {X:Cx}
theorem pv (i:Nat) {x:Str} {pos:Pos} (hN:X.N[i]?=some x:=by rfl) (hv:Vis X.env.scope x:=by first | exact Or.inl rfl | exact Or.inr (Or.inl rfl) | exact Or.inr (Or.inr rfl)) (hd:(x == ("__debug__" : Str))=false:=by decide)
  (hcd:(x == ("__classdict__" : Str))=false:=by decide):PE X (.Name x pos) (tVar i):=pe_var hN hv hd hcd
end
theorem iteF {A B:Prop} (h:B):if false=true then A else B:=by
 rw [if_neg Bool.false_ne_true]
 exact h
theorem iteT {A B:Prop} (h:A):if true=true then A else B:=by
 rw [if_pos rfl]
 exact h
def Same (H H':Hp):Prop:=∀ b o,H b=some o->H' b=some o
end L2
namespace L2
open PySem PySem.Spec PyProof.Rows
section
variable {κ:Type} [DecidableEq κ]
def valV (kvs:List (κ×V)) (k:κ):Option V:=(kvs.find? fun kv=>decide (kv.1=k)).map (·.2)
def putK (kvs:List (κ×V)) (k:κ) (v:V):List (κ×V):=
 if (kvs.any fun kv=>decide (kv.1=k))=true then kvs.map (fun kv=>if kv.1=k then (kv.1,v) else kv) else kvs++[(k,v)]
theorem valV_pos {p:κ×V} {r:List (κ×V)} {k:κ} (e:p.1=k):valV (p :: r) k=some p.2:=by simp [valV,List.find?_cons,e]
theorem valV_neg {p:κ×V} {r:List (κ×V)} {k:κ} (e:¬ p.1=k):valV (p :: r) k=valV r k:=by simp [valV,List.find?_cons,e]
theorem valV_any (k:κ):∀ kvs:List (κ×V),(kvs.any fun kv=>decide (kv.1=k))=(valV kvs k).isSome
 | []=>rfl
 | p :: r=>by
  rw [List.any_cons]
  by_cases e:p.1=k
  ·simp only [valV_pos e,decide_eq_true e,Bool.true_or,Option.isSome_some]
  ·rw [valV_neg e,decide_eq_false e,Bool.false_or]; exact valV_any k r
theorem length_putK (kvs:List (κ×V)) (k:κ) (v:V):(putK kvs k v).length<=kvs.length+1:=by
 unfold putK
 split
 ·rw [List.length_map]; omega
 ·rw [List.length_append,List.length_cons,List.length_nil]; omega
theorem RelO.isSome_eq {o:Option V} {u:Option Value} (r:RelO o u):o.isSome=u.isSome:=by
 cases o with
 | none=>cases u with
  | none=>rfl
  | some _=>exact (show False from r).elim
 | some _=>cases u with
  | none=>exact (show False from r).elim
  | some _=>rfl
theorem RelO.getD {o:Option V} {u:Option Value} {d:V} {d':Value} (r:RelO o u) (rd:RelV d d'):RelV (o.getD d) (u.getD d'):=by
 cases o with
 | none=>cases u with
  | none=>exact rd
  | some _=>exact (show False from r).elim
 | some _=>cases u with
  | none=>exact (show False from r).elim
  | some _=>exact r
theorem KV.val {kvs:List (κ×V)} {vs:List (κ×Value)} (r:KV kvs vs) (k:κ):RelO (valV kvs k) (valueAt vs k):=by
 unfold KV at r
 induction r with
 | nil=>exact True.intro
 | @cons p q ps qs h t ih=>
  obtain ⟨h1,h2⟩:=h
  by_cases e:p.1=k
  ·have e':q.1=k:=h1.symm.trans e
   have b:valueAt (q :: qs) k=some q.2:=by simp [valueAt,List.find?_cons,e']
   rw [valV_pos e,b]; exact h2
  ·have e':¬ q.1=k:=fun z=>e (h1.trans z)
   have b:valueAt (q :: qs) k=valueAt qs k:=by simp [valueAt,List.find?_cons,e']
   rw [valV_neg e,b]; exact ih
theorem KV.any {kvs:List (κ×V)} {vs:List (κ×Value)} (r:KV kvs vs) (k:κ):(kvs.any fun kv=>decide (kv.1=k))=vs.any fun kv=>decide (kv.1=k):=by
 unfold KV at r
 induction r with
 | nil=>rfl
 | cons h t ih=>rw [List.any_cons,List.any_cons,ih,h.1]
theorem KV.repl {kvs:List (κ×V)} {vs:List (κ×Value)} (r:KV kvs vs) (k:κ) {y:V} {u:Value} (ry:RelV y u):
  KV (kvs.map fun kv=>if kv.1=k then (kv.1,y) else kv) (vs.map fun kv=>if kv.1=k then (kv.1,u) else kv):=by
 unfold KV at r ⊢
 induction r with
 | nil=>exact .nil
 | @cons p q ps qs h t ih=>
  rw [List.map_cons,List.map_cons]
  refine .cons ?_ ih
  obtain ⟨h1,h2⟩:=h
  by_cases e:p.1=k
  ·rw [if_pos e,if_pos (h1.symm.trans e)]; exact ⟨h1,ry⟩
  ·rw [if_neg e,if_neg (fun z=>e (h1.trans z))]; exact ⟨h1,h2⟩
theorem KV.put {kvs:List (κ×V)} {vs:List (κ×Value)} (r:KV kvs vs) (k:κ) {y:V} {u:Value} (ry:RelV y u):KV (putK kvs k y) (stored vs k u):=by
 unfold putK stored
 rw [r.any k]
 by_cases e:(vs.any fun kv=>decide (kv.1=k))=true
 ·rw [if_pos e,if_pos e]; exact r.repl k ry
 ·rw [if_neg e,if_neg e]; exact Paired.snoc r ⟨rfl,ry⟩
theorem KV.length {kvs:List (κ×V)} {vs:List (κ×Value)} (r:KV kvs vs):kvs.length=vs.length:=Paired.length r
end
theorem kV_is {P:Program} {w:World} {k:Key} {u:Value} (r:RelV (kV k) u):(mixKind P w).is k u=true:=by
 cases k with
 | inl i=>obtain ⟨t,e⟩:=(show ∃ t,u=Value.int i t from r); subst e; exact mixKind_int P w i t
 | inr x=>obtain ⟨t,e⟩:=(show ∃ t,u=Value.str x t from r); subst e; exact mixKind_str P w x t
theorem items_are {P:Program} {w:World}:∀ {ks:List Key} {us:List Value},Vals (ks.map kV) us->ItemsAre (mixKind P w) ks us
 | [],_,r=>by rw [List.map_nil] at r; cases r; exact .nil
 | k :: ks,_,r=>by
  rw [List.map_cons] at r
  cases r with
  | cons h t=>exact .cons (kV_is h) (items_are t)
abbrev KT (H:Hp):List (List Key×V)->List (List Key×Addr×Value)->Prop:=Paired fun p q=>p.1=q.1/\H q.2.1=some (.tup (p.1.map kV))/\RelV p.2 q.2.2
theorem KT.val {H:Hp} {kvs:List (List Key×V)} {xs:List (List Key×Addr×Value)} (r:KT H kvs xs) (k:List Key):RelO (valV kvs k) ((atKey xs k).map (·.2)):=by
 induction r with
 | nil=>exact True.intro
 | @cons p q ps qs h t ih=>
  obtain ⟨h1,_,h2⟩:=h
  by_cases e:p.1=k
  ·have e':q.1=k:=h1.symm.trans e
   have b:atKey (q :: qs) k=some q.2:=by simp [atKey,List.find?_cons,e']
   rw [valV_pos e,b]; exact h2
  ·have e':¬ q.1=k:=fun z=>e (h1.trans z)
   have b:atKey (q :: qs) k=atKey qs k:=by simp [atKey,List.find?_cons,e']
   rw [valV_neg e,b]; exact ih
theorem KT.repl {H:Hp} {kvs:List (List Key×V)} {xs:List (List Key×Addr×Value)} (r:KT H kvs xs) (k:List Key) {y:V} {u:Value} (ry:RelV y u):
  KT H (kvs.map fun kv=>if kv.1=k then (kv.1,y) else kv) (xs.map (putAt k u)):=by
 induction r with
 | nil=>exact .nil
 | @cons p q ps qs h t ih=>
  rw [List.map_cons,List.map_cons]
  refine .cons ?_ ih
  obtain ⟨h1,h2,h3⟩:=h
  unfold putAt
  by_cases e:p.1=k
  ·rw [if_pos e,if_pos (h1.symm.trans e)]; exact ⟨h1,h2,ry⟩
  ·rw [if_neg e,if_neg (fun z=>e (h1.trans z))]; exact ⟨h1,h2,h3⟩
theorem KT.put {H:Hp} {kvs:List (List Key×V)} {xs:List (List Key×Addr×Value)} (r:KT H kvs xs) (k:List Key) {b:Addr} {y:V} {u:Value} (hb:H b=some (.tup (k.map kV))) (ry:RelV y u):
  KT H (putK kvs k y) (storedH xs k b u):=by
 have e:(kvs.any fun kv=>decide (kv.1=k))=(atKey xs k).isSome:=by
  rw [valV_any,(r.val k).isSome_eq,Option.isSome_map]
 unfold putK storedH
 rw [e]
 by_cases q:(atKey xs k).isSome=true
 ·rw [if_pos q,if_pos q]; exact r.repl k ry
 ·rw [if_neg q,if_neg q]; exact Paired.snoc r ⟨rfl,hb,ry⟩
theorem KT.keeps {H H':Hp} {kvs:List (List Key×V)} {xs:List (List Key×Addr×Value)} (r:KT H kvs xs) (ht:∀ b ys,H b=some (.tup ys)->H' b=some (.tup ys)):KT H' kvs xs:=
 Paired.mapP r fun _ _ z=>⟨z.1,ht _ _ z.2.1,z.2.2⟩
section
variable {P:Program} {w:World} {H:Hp} {h:Heap} {a:Addr}
theorem rd_of {u:HO} (ok:HOk P w H h) (e:Rd H a u):ObjOk P w H h a u:=e.ok ok
theorem dk_rd {kvs:List (Key×V)} (ok:HOk P w H h) (e:Rd H a (.dK kvs)):kvs.length<=sizeLine/\(a == sysModules)=false/\∃ vs,KV kvs vs/\h.DictOf (mixKind P w) a vs:=
 show ObjOk P w H h a (.dK kvs) from rd_of ok e
theorem dk_of {kvs:List (Key×V)} (ok:HOk P w H h) (e:H a=some (.dK kvs)):kvs.length<=sizeLine/\(a == sysModules)=false/\∃ vs,KV kvs vs/\h.DictOf (mixKind P w) a vs:=dk_rd ok (.inl e)
theorem key_of {ks:List Key} (ok:HOk P w H h) (e:H a=some (.tup (ks.map kV))):(tupleKind (mixKind P w)).is h ks a:=by
 obtain ⟨_,its,r,o,h1,h2,⟨n,h3⟩,_⟩:=(show ObjOk P w H h a (.tup (ks.map kV)) from ok a _ e)
 exact ⟨o,its.toArray,n,h1,h2,h3,by simpa using items_are r⟩
theorem dt_rd {kvs:List (List Key×V)} (ok:HOk P w H h) (e:Rd H a (.dT kvs)):kvs.length<=sizeLine/\(a == sysModules)=false/\
  ∃ xs,KT H kvs xs/\h.DictOfH (tupleKind (mixKind P w)) a xs:=by
 obtain ⟨z,y,xs,r,o,es,ep,h1,h2,h3,h4,h5⟩:=(show ObjOk P w H h a (.dT kvs) from rd_of ok e)
 refine ⟨z,y,xs,r,o,es,ep,h1,h2,h3,h4,fun x hx=>?_,h5⟩
 have all:∀ {l:List (List Key×V)} {m:List (List Key×Addr×Value)},KT H l m->∀ x∈m,(tupleKind (mixKind P w)).is h x.1 x.2.1:=by
  intro l m q
  induction q with
  | nil=>intro x hx; exact nomatch hx
  | @cons p q ps qs hq t ih=>
   intro x hx
   rcases List.mem_cons.mp hx with e | hx
   ·subst e
    exact key_of ok (by rw [<- hq.1]; exact hq.2.1)
   ·exact ih x hx
 exact all r x hx
theorem dt_of {kvs:List (List Key×V)} (ok:HOk P w H h) (e:H a=some (.dT kvs)):kvs.length<=sizeLine/\(a == sysModules)=false/\
  ∃ xs,KT H kvs xs/\h.DictOfH (tupleKind (mixKind P w)) a xs:=dt_rd ok (.inl e)
end
def DGet (H:Hp) (a:Addr) (y:V) (r:Option V):Prop:=
 (∃ kvs k,Rd H a (.dK kvs)/\y=kV k/\r=valV kvs k)\/∃ kvs k b,Rd H a (.dT kvs)/\y=.ref b/\H b=some (.tup (k.map kV))/\r=valV kvs k
def DPut (H:Hp) (a:Addr) (y v:V) (H':Hp):Prop:=
 (∃ kvs k,H a=some (.dK kvs)/\y=kV k/\kvs.length < sizeLine/\H'=upd H a (.dK (putK kvs k v)))\/
 ∃ kvs k b,H a=some (.dT kvs)/\y=.ref b/\H b=some (.tup (k.map kV))/\kvs.length < sizeLine/\H'=upd H a (.dT (putK kvs k v))
theorem DGet.k {H:Hp} {a:Addr} {kvs:List (Key×V)} {k:Key} (e:H a=some (.dK kvs)):DGet H a (kV k) (valV kvs k):=.inl ⟨kvs,k,.inl e,rfl,rfl⟩
theorem DPut.k {H:Hp} {a:Addr} {kvs:List (Key×V)} {k:Key} {v:V} (e:H a=some (.dK kvs)) (hl:kvs.length < sizeLine):DPut H a (kV k) v (upd H a (.dK (putK kvs k v))):=.inl ⟨kvs,k,e,rfl,hl,rfl⟩
section
variable {X:Cx} {pins:List (Addr×Obj)} {σ:St} {H:Hp} {s:Shared} {a:Addr} {y v:V} {u r:Value} {o:Option V} {A:Around} {E:Value->Shared->Prop}
theorem Inv.big (I:Inv X pins σ H s):sysModules < s.heap.objs.size:=by
 have h:mainGlobals < s.heap.objs.size:=(I.mod.glob.keeps I.bk).lt
 exact Nat.lt_trans (by decide) h
theorem d_getItem {Q:Value->Shared->Prop} (hu:A.units+1 < cLine) (I:Inv X pins σ H s) (g:DGet H a y (some v)) (ry:RelV y u) (h:∀ w' s',Inv X pins σ H s'->RelV v w'->Q w' s'):
  wpAny (model X.prog X.w) A (getItem (.ref a) u) Q E s:=by
 rcases g with ⟨kvs,k,e,ey,l⟩ | ⟨kvs,k,b,e,ey,eb,l⟩
 ·subst ey
  obtain ⟨z,hd,vs,rel,dd⟩:=dk_rd I.hok e
  obtain ⟨w',hw,rw'⟩:=RelO.some_of (v:=v) (o:=valueAt vs k) (by rw [l]; exact rel.val k)
  exact wpAny_getItem_of (kV_is ry) dd.mapOf hw (h w' _ (I.tok _) rw')
 ·subst ey
  cases (show u=Value.ref b from ry)
  obtain ⟨z,hd,xs,rel,dd⟩:=dt_rd I.hok e
  obtain ⟨w',hw,rw'⟩:=RelO.some_of (v:=v) (o:=(atKey xs k).map (·.2)) (by rw [l]; exact rel.val k)
  obtain ⟨p,hp,hp2⟩:=Option.map_eq_some_iff.mp hw
  refine wpAny_getItem_heap (tupleKind_room_in1 hu) (key_of I.hok eb) dd hp ?_
  rw [hp2]
  exact h w' _ (I.tok _) rw'
theorem d_in {Q:Value->Shared->Prop} (hu:A.units+1 < cLine) (I:Inv X pins σ H s) (g:DGet H a y o) (ry:RelV y u) (h:∀ s',Inv X pins σ H s'->Q (.bool o.isSome) s'):
  wpAny (model X.prog X.w) A (compareOp .In u (.ref a)) Q E s:=by
 rcases g with ⟨kvs,k,e,ey,l⟩ | ⟨kvs,k,b,e,ey,eb,l⟩
 ·subst ey
  obtain ⟨z,hd,vs,rel,dd⟩:=dk_rd I.hok e
  refine wpAny_in_of (kV_is ry) hd dd.mapOf ?_
  rw [<- (rel.val k).isSome_eq,<- l]
  exact h _ (I.tok _)
 ·subst ey
  cases (show u=Value.ref b from ry)
  obtain ⟨z,hd,xs,rel,dd⟩:=dt_rd I.hok e
  refine wpAny_in_heap (tupleKind_room_in1 hu) (key_of I.hok eb) hd dd ?_
  have q:=(rel.val k).isSome_eq
  rw [Option.isSome_map] at q
  rw [<- q,<- l]
  exact h _ (I.tok _)
theorem d_notIn {Q:Value->Shared->Prop} (hu:A.units+1 < cLine) (I:Inv X pins σ H s) (g:DGet H a y o) (ry:RelV y u) (h:∀ s',Inv X pins σ H s'->Q (.bool (!o.isSome)) s'):
  wpAny (model X.prog X.w) A (compareOp .NotIn u (.ref a)) Q E s:=by
 rcases g with ⟨kvs,k,e,ey,l⟩ | ⟨kvs,k,b,e,ey,eb,l⟩
 ·subst ey
  obtain ⟨z,hd,vs,rel,dd⟩:=dk_rd I.hok e
  refine wpAny_notIn_of (kV_is ry) hd dd.mapOf ?_
  rw [<- (rel.val k).isSome_eq,<- l]
  exact h _ (I.tok _)
 ·subst ey
  cases (show u=Value.ref b from ry)
  obtain ⟨z,hd,xs,rel,dd⟩:=dt_rd I.hok e
  refine wpAny_notIn_heap (tupleKind_room_in1 hu) (key_of I.hok eb) hd dd ?_
  have q:=(rel.val k).isSome_eq
  rw [Option.isSome_map] at q
  rw [<- q,<- l]
  exact h _ (I.tok _)
theorem d_write {h':Heap} {t':Nat} {ob:HO} (I:Inv X pins σ H s) (mu:Mut (H a)) (hs:Heap.SameBut a s.heap h') (he:∃ q,h'.get? a=some q) (new:ObjOk X.prog X.w (upd H a ob) h' a ob):
  Inv X pins σ (upd H a ob) { s with heap:=h',toks:=t' }:=
 I.write (x:=a) (e:=a) mu (.inl rfl) (fun b q hb z=>(hs.2 b hb).trans z) he new
theorem dk_new {P:Program} {w:World} {H':Hp} {h':Heap} {kvs:List (Key×V)} {vs:List (Key×Value)} (z:kvs.length<=sizeLine) (hd:(a == sysModules)=false) (rel:KV kvs vs) (dd:h'.DictOf (mixKind P w) a vs):
  ObjOk P w H' h' a (.dK kvs):=⟨z,hd,vs,rel,dd⟩
theorem d_setItem {H':Hp} {Q:Unit->Shared->Prop} (hu:A.units+1 < cLine) (I:Inv X pins σ H s) (g:DPut H a y v H') (ry:RelV y u) (rv:RelV v r) (h:∀ s',Inv X pins σ H' s'->Q () s'):
  wpAny (model X.prog X.w) A (setItem (.ref a) u r) Q E s:=by
 rcases g with ⟨kvs,k,e,ey,l,eH⟩ | ⟨kvs,k,b,e,ey,eb,l,eH⟩
 ·subst ey eH
  obtain ⟨z,hd,vs,rel,dd⟩:=dk_of I.hok e
  have hz:vs.length<=sizeLine:=by rw [<- rel.length]; exact z
  have hl:(putK kvs k v).length<=sizeLine:=by have:=length_putK kvs k v; omega
  refine wpAny_setItem_pairs (hsz:=hz) (kV_is ry) dd fun h' dd' hs=>h _ ?_
  have he:∃ q,h'.get? a=some q:=let ⟨q,_,_,hq,_⟩:=dd'; ⟨q,hq⟩
  exact d_write I (by rw [e]; exact True.intro) hs he (dk_new hl hd (rel.put k rv) dd')
 ·subst ey eH
  cases (show u=Value.ref b from ry)
  obtain ⟨z,hd,xs,rel,dd⟩:=dt_of I.hok e
  have hz:xs.length<=sizeLine:=by rw [<- Paired.length rel]; exact z
  have hl:(putK kvs k v).length<=sizeLine:=by have:=length_putK kvs k v; omega
  refine wpAny_setItem_heap (hsz:=hz) (tupleKind_room_in1 hu) (key_of I.hok eb) dd fun h' dd' hs=>h _ ?_
  obtain ⟨q,es,ep,hq,h2,h3,h4,_,h5⟩:=dd'
  refine d_write I (by rw [e]; exact True.intro) hs ⟨q,hq⟩ ⟨hl,hd,_,(rel.put k eb rv).keeps fun c ys ec=>?_,q,es,ep,hq,h2,h3,h4,h5⟩
  rw [upd_ne (ne_of ec e (fun z=>nomatch z))]
  exact ec
end
section
variable {X:Cx} {pins:List (Addr×Obj)} {σ:St} {H:Hp} {s:Shared} {a:Addr} {kvs:List (Key×V)} {k:Key} {u:Value} {A:Around} {E:Value->Shared->Prop}
theorem d_len {Q:Value->Shared->Prop} (I:Inv X pins σ H s) (e:Rd H a (.dK kvs)) (h:∀ t s',Inv X pins σ H s'->Q (.int kvs.length t) s'):wpAny (model X.prog X.w) A (call (.builtin "len") [.ref a]) Q E s:=by
 obtain ⟨z,hd,vs,rel,dd⟩:=dk_rd I.hok e
 refine call_len_dict hd dd (by rw [<- rel.length]; rw [sizeLine_eq] at z; omega) ?_
 rw [<- rel.length]
 exact h _ _ (I.tok _)
end
theorem dict_typeIs {X:Cx} {pins:List (Addr×Obj)} {σ:St} {H:Hp} {s:Shared} {a:Addr} {y:V} {o:Option V} (I:Inv X pins σ H s) (g:DGet H a y o):s.TypeIs (.ref a) "dict" := by
 rcases g with ⟨kvs,k,e,_,_⟩ | ⟨kvs,k,b,e,_,_,_⟩
 ·obtain ⟨_,_,vs,_,dd⟩:=dk_rd I.hok e
  exact dd.typeIs
 ·obtain ⟨_,_,xs,_,dd⟩:=dt_rd I.hok e
  exact dd.typeIs
section
variable {X:Cx} {o i e value:Expr} {pos pos' tpos:Pos} {td ty tv:TE}
end
theorem dk_empty {P:Program} {w:World} {H:Hp} (h:Heap) (hb:sysModules < h.objs.size):ObjOk P w H (h.push { cls:=.type "dict",data:=.dict #[] }) h.objs.size (.dK []):=
 ⟨Nat.zero_le _,beq_eq_false_iff_ne.mpr (Ne.symm (Nat.ne_of_lt hb)),[],.nil,Heap.DictOf.new h⟩
def tDNewK:TE:=fun _ H Q=>∀ p,H p=none->Q (.ref p) (upd H p (.dK []))
section
variable {X:Cx} {pos:Pos}
theorem pe_dnewK:PE X (.Dict [] [] pos) tDNewK:=fun pins s σ H Q I h=>
 wpAny_Dict_empty ⟨.ref s.heap.objs.size,_,I.laid (a:=s.heap.objs.size) (o:=.dK []) (t':=s.toks) (fun _ _ q=>Heap.get?_push_of_some _ q) (Nat.le_refl _) (dk_empty s.heap I.big),rfl,h _ (I.hok.fresh (Nat.le_refl _))⟩
end
structure M1 (X:Cx) (o:Expr) (m:Str) (apos:Pos) (e:Expr) (cpos:Pos):Prop where
 base:attributeBase o m X.env (eval o X.env)=eval o X.env
 few:((backTo cpos (starEach [e] X.env)).all (fun x=>!x.1) && (backToKw cpos (keywordEach [] X.env)).all (fun x=>x.1.isSome)
  && decide (([e]:List Expr).length+([]:List Keyword).length+(if ([]:List Keyword).isEmpty then 0 else 1) < 30))=true
 line:(apos.endLine == cpos.line)=true
 trees:backTo cpos (starEach [e] X.env)=[(false,eval e X.env)]
structure M2 (X:Cx) (o:Expr) (m:Str) (apos:Pos) (e f:Expr) (cpos:Pos):Prop where
 base:attributeBase o m X.env (eval o X.env)=eval o X.env
 few:((backTo cpos (starEach [e,f] X.env)).all (fun x=>!x.1) && (backToKw cpos (keywordEach [] X.env)).all (fun x=>x.1.isSome)
  && decide (([e,f]:List Expr).length+([]:List Keyword).length+(if ([]:List Keyword).isEmpty then 0 else 1) < 30))=true
 line:(apos.endLine == cpos.line)=true
 trees:backTo cpos (starEach [e,f] X.env)=[(false,eval e X.env),(false,eval f X.env)]
section
variable {X:Cx} {pins:List (Addr×Obj)} {σ:St} {H:Hp} {s:Shared} {a:Addr} {y d:V} {u r:Value} {o:Option V} {A:Around} {E:Value->Shared->Prop}
theorem d_get1 {Q:Value->Shared->Prop} (hu:A.units+1 < cLine) (I:Inv X pins σ H s) (g:DGet H a y o) (ry:RelV y u) (h:∀ w' s',Inv X pins σ H s'->RelV (o.getD .non) w'->Q w' s'):
  wpAny (model X.prog X.w) A (call (.builtin "dict.get") [.ref a,u]) Q E s:=by
 rcases g with ⟨kvs,k,e,ey,l⟩ | ⟨kvs,k,b,e,ey,eb,l⟩
 ·subst ey
  obtain ⟨z,hd,vs,rel,dd⟩:=dk_rd I.hok e
  refine call_meetsIn PySem.F.slot_dict_get dd.typeIs PySem.F.entry_dict_get (PySem.F.args_dict_get_2 _ _) (meets_dict_get (mixKind X.prog X.w) a (kV_is ry) hd) ⟨_,dd.mapOf,h _ _ (I.tok _) ?_⟩
  rw [l]
  exact (rel.val k).getD rfl
 ·subst ey
  cases (show u=Value.ref b from ry)
  obtain ⟨z,hd,xs,rel,dd⟩:=dt_rd I.hok e
  refine call_meetsIn PySem.F.slot_dict_get dd.typeIs PySem.F.entry_dict_get (PySem.F.args_dict_get_2 _ _) (meetsH_dict_get (tupleKind (mixKind X.prog X.w)) a b hd) ⟨tupleKind_room_in1 hu,k,xs,key_of I.hok eb,dd,h _ _ (I.tok _) ?_⟩
  rw [l]
  exact (rel.val k).getD rfl
theorem d_get2 {Q:Value->Shared->Prop} (hu:A.units+1 < cLine) (I:Inv X pins σ H s) (g:DGet H a y o) (ry:RelV y u) (rd:RelV d r) (h:∀ w' s',Inv X pins σ H s'->RelV (o.getD d) w'->Q w' s'):
  wpAny (model X.prog X.w) A (call (.builtin "dict.get") [.ref a,u,r]) Q E s:=by
 rcases g with ⟨kvs,k,e,ey,l⟩ | ⟨kvs,k,b,e,ey,eb,l⟩
 ·subst ey
  obtain ⟨z,hd,vs,rel,dd⟩:=dk_rd I.hok e
  refine call_meetsIn PySem.F.slot_dict_get dd.typeIs PySem.F.entry_dict_get (PySem.F.args_dict_get_3 _ _ _) (meets_dict_get_default (mixKind X.prog X.w) a (kV_is ry) hd r) ⟨_,dd.mapOf,h _ _ (I.tok _) ?_⟩
  rw [l]
  exact (rel.val k).getD rd
 ·subst ey
  cases (show u=Value.ref b from ry)
  obtain ⟨z,hd,xs,rel,dd⟩:=dt_rd I.hok e
  refine call_meetsIn PySem.F.slot_dict_get dd.typeIs PySem.F.entry_dict_get (PySem.F.args_dict_get_3 _ _ _) (meetsH_dict_get_default (tupleKind (mixKind X.prog X.w)) a b hd r) ⟨tupleKind_room_in1 hu,k,xs,key_of I.hok eb,dd,h _ _ (I.tok _) ?_⟩
  rw [l]
  exact (rel.val k).getD rd
end
section
variable {X:Cx} {o e f:Expr} {apos cpos:Pos} {td ty tx:TE}
end
section
variable {X:Cx} {pins:List (Addr×Obj)} {σ:St} {H:Hp} {s:Shared} {a:Addr} {kvs:List (Key×V)} {A:Around} {E:Value->Shared->Prop}
end
section
variable {X:Cx} {pins:List (Addr×Obj)} {σ:St} {H:Hp} {s:Shared} {a:Addr} {y:V} {u:Value} {A:Around} {E:Value->Shared->Prop}
end
end L2
namespace L2
open PySem PySem.Spec PyProof.Rows
section
variable {X:Cx}
theorem call_lenD:CallR X (.builtin "len") (fun xs H Q=>∃ a kvs,xs=[V.ref a]/\H a=some (.dK kvs)/\Q (.int kvs.length) H):=by
 intro pins s σ H xs us Q I r h
 obtain ⟨a,kvs,rfl,ha,q⟩:=h
 obtain ⟨u,rfl,ru⟩:=vals1 r
 cases ru
 exact d_len I (.inl ha) fun t s' I'=>⟨.int kvs.length,H,I',⟨t,rfl⟩,q⟩
end
section
variable {κ:Type} [DecidableEq κ]
end
end L2
set_option Elab.async false
set_option linter.all false
set_option maxRecDepth 100000
namespace L2
open PySem PySem.Spec PyProof.Rows
section
variable {prog:Program} {w:World} {A:Around} {R:Result->Shared->Prop} {s:Shared}
def testsOf (ifs:List Expr) (env:Env):Sem Bool:=forIn ifs true fun c r=>if r=true then do let ok <- isTrue c env (eval c env); pure (ForInStep.yield ok) else pure (ForInStep.yield r)
theorem compLoop_any {elt target iter:Expr} {ifs:List Expr} {scope:Scope} {pos:Pos} {it acc:Value} {env:Env} (I:Nat->Shared->Prop)
  (turn:∀ n s,I n s->wpAny (model prog w) A (pyNext it) (fun r s₁=>match r with
   | none=>R (.ok .next) s₁
   | some v=>wpAny (model prog w) A (letOwnedTupleGo target it v) (fun _ s₁'=>wpAny (model prog w) A (assign target env v) (fun _ s₂=>
     wpAny (model prog w) A (testsOf ifs env) (fun ok s₃=>
      if ok=true then wpAny (model prog w) A (eval elt env) (fun x s₄=>
       wpAny (model prog w) A (call (.builtin "list.append") [acc,x]) (fun _ s₅=>∃ m,m < n/\I m s₅) (fun _ _=>False) s₄) (fun _ _=>False) s₃
      else ∃ m,m < n/\I m s₃) (fun _ _=>False) s₂) (fun _ _=>False) s₁') (fun _ _=>False) s₁) (fun _ _=>False) s)
  (n:Nat) (h:I n s):
  codeAny (model prog w) A (.compLoop (.ListComp elt [⟨target,iter,ifs,0⟩] scope pos) 0 it acc env) R s:=by
 refine codeAny_loop rfl I (fun n s hI=>?_) n h
 show wpAny _ A ((compTurn (.ListComp elt [⟨target,iter,ifs,0⟩] scope pos) 0 it acc env).onRaise (fun x=>do noteFrame x env; theTreesLotGoes x)) _ _ s
 refine wpAny_noted ?_
 rw [compTurn_list]
 refine wpAny_bind (wpAny_standAt (wpAny_bind (wpAny_mono (turn n s hI) (fun r s₁ h₁=>?_) fun _ _ h'=>h'.elim)))
 cases r with
 | none=>exact wpAny_pure h₁
 | some v=>
  refine wpAny_bind (wpAny_mono h₁ (fun _ s₁' h₁'=>?_) fun _ _ h'=>h'.elim)
  refine wpAny_bind (wpAny_mono h₁' (fun _ s₂ h₂=>wpAny_bind (wpAny_mono h₂ (fun ok s₃ h₃=>?_) fun _ _ h'=>h'.elim)) fun _ _ h'=>h'.elim)
  cases ok with
  | false=>exact wpAny_pure ⟨rfl,h₃⟩
  | true=>
   exact wpAny_bind (wpAny_bind (wpAny_mono h₃ (fun x s₄ h₄=>wpAny_bind (wpAny_mono h₄ (fun _ s₅ h₅=>wpAny_pure (wpAny_pure ⟨rfl,h₅⟩)) fun _ _ h'=>h'.elim)) fun _ _ h'=>h'.elim))
end
def clOf (cells:List (Str×Addr)):List (Str×NameKind)->List (Str×Addr)->List (Str×Addr)
 | [],cs=>cs
 | (n,k) :: r,cs=>clOf cells r (if (k == NameKind.free)=true then (n,(cells.lookup n).getD 0) :: cs else cs)
theorem closureFor_of {scope:Scope} {env:Env} (h:∀ y∈scope.names,y.2=NameKind.free->∃ c,env.cells.lookup y.1=some c):closureFor scope env=pure (clOf env.cells scope.names []):=by
 have go:∀ (names:List (Str×NameKind)) (cs:List (Str×Addr)),(∀ y∈names,y.2=NameKind.free->∃ c,env.cells.lookup y.1=some c)->
   (forIn names cs fun (x:Str×NameKind) (r:List (Str×Addr))=>match x with
    | (name,kind)=>if (kind == NameKind.free)=true then (do let y <- cellOf env name; pure (ForInStep.yield ((name,y) :: r))) else (pure (ForInStep.yield r):Sem _))=(pure (clOf env.cells names cs):Sem _):=by
  intro names
  induction names with
  | nil=>intro cs _; rfl
  | cons y r ih=>
   intro cs hy
   obtain ⟨n,k⟩:=y
   rw [List.forIn_cons]
   have ih':=fun cs'=>ih cs' fun y hm=>hy y (List.mem_cons_of_mem _ hm)
   by_cases hk:(k == NameKind.free)=true
   ·obtain ⟨c,hc⟩:=hy (n,k) List.mem_cons_self (by simpa using hk)
    have e1:cellOf env n=pure c:=by unfold cellOf; rw [show env.cells.lookup n=some c from hc]
    have e2:clOf env.cells ((n,k) :: r) cs=clOf env.cells r ((n,c) :: cs):=by
     show clOf env.cells r (if (k == NameKind.free)=true then _ else _)=_
     rw [if_pos hk,show env.cells.lookup n=some c from hc]; rfl
    rw [e2,<- ih' ((n,c) :: cs)]
    simp only [hk,if_true,e1,pure_bind]
   ·have e2:clOf env.cells ((n,k) :: r) cs=clOf env.cells r cs:=by
     show clOf env.cells r (if (k == NameKind.free)=true then _ else _)=_
     rw [if_neg hk]
    rw [e2,<- ih' cs]
    simp only [hk,if_false,pure_bind]
    try rfl
 have:=go scope.names [] h
 unfold closureFor
 simpa using this
theorem clOf_lookup {cells:List (Str×Addr)} {x:Str} {c:Addr}:∀ (names:List (Str×NameKind)) (cs:List (Str×Addr)),(clOf cells names cs).lookup x=some c->cs.lookup x=some c\/(∃ y∈names,y.1=x/\y.2=NameKind.free/\c=(cells.lookup x).getD 0)
 | [],_,h=>.inl h
 | (n,k) :: r,cs,h=>by
  rcases clOf_lookup r _ h with h1 | ⟨y,hy,e⟩
  ·by_cases hk:(k == NameKind.free)=true
   ·rw [if_pos hk] at h1
    by_cases hx:x=n
    ·subst hx
     simp only [List.lookup_cons,beq_self_eq_true] at h1
     exact .inr ⟨(x,k),List.mem_cons_self,rfl,by simpa using hk,(Option.some.inj h1).symm⟩
    ·have:(x == n)=false:=by simpa using hx
     simp only [List.lookup_cons,this] at h1
     exact .inl h1
   ·rw [if_neg hk] at h1
    exact .inl h1
  ·exact .inr ⟨y,List.mem_cons_of_mem _ hy,e⟩
theorem clOf_has {cells:List (Str×Addr)} {x:Str}:∀ (names:List (Str×NameKind)) (cs:List (Str×Addr)),((∃ c,cs.lookup x=some c)\/∃ y∈names,y.1=x/\y.2=NameKind.free)->∃ c,(clOf cells names cs).lookup x=some c
 | [],_,h=>by
  rcases h with h | ⟨y,hy,_⟩
  ·exact h
  ·cases hy
 | (n,k) :: r,cs,h=>by
  refine clOf_has r _ ?_
  rcases h with ⟨c,h⟩ | ⟨y,hy,e1,e2⟩
  ·left
   by_cases hk:(k == NameKind.free)=true
   ·rw [if_pos hk]
    by_cases hx:x=n
    ·subst hx; simp [List.lookup_cons]
    ·have:(x == n)=false:=by simpa using hx
     exact ⟨c,by simp only [List.lookup_cons,this]; exact h⟩
   ·rw [if_neg hk]; exact ⟨c,h⟩
  ·rcases List.mem_cons.mp hy with rfl | hy
   ·left
    have hk:(k == NameKind.free)=true:=by simpa using e2
    rw [if_pos hk]
    have hx:n=x:=e1
    subst hx
    simp [List.lookup_cons]
   ·exact .inr ⟨y,hy,e1,e2⟩
def compSc (os:Scope) (oN:List Str) (sc:Scope) (N:List Str) (js:List (Option Nat)):Bool:=
 (match sc.kind with | .function=>true | _=>false) && sc.names.all (fun y=>match y.2 with | .cell=>false | _=>true) &&
 sc.names.all (fun y=>match y.2 with
  | .local=>(match sc.names.lookup y.1 with | some .local=>true | _=>false)
  | .free=>(match sc.names.lookup y.1,os.names.lookup y.1 with | some .free,some .cell=>true | some .free,some .free=>true | _,_=>false)
  | _=>true) &&
 js.length == N.length && (js.zip N).all (fun p=>match p.1 with
  | none=>true
  | some j=>(match oN[j]? with | some x=>decide (x=p.2) | none=>false) && (match sc.names.lookup p.2 with | some .free=>true | _=>false))
structure CompSc (os:Scope) (oN:List Str) (sc:Scope) (N:List Str) (js:List (Option Nat)):Prop where
 kind:sc.kind=.function
 nocell:∀ y∈sc.names,y.2≠.cell
 nm:∀ y∈sc.names,y.2=.local->sc.names.lookup y.1=some .local
 fr:∀ y∈sc.names,y.2=.free->os.names.lookup y.1=some .cell\/os.names.lookup y.1=some .free
 len:js.length=N.length
 cap:∀ (i j:Nat),js[i]?=some (some j)->∃ x,N[i]?=some x/\oN[j]?=some x/\sc.names.lookup x=some .free
theorem compSc_ok {os:Scope} {oN:List Str} {sc:Scope} {N:List Str} {js:List (Option Nat)} (h:compSc os oN sc N js=true):CompSc os oN sc N js:=by
 unfold compSc at h
 simp only [Bool.and_eq_true] at h
 obtain ⟨⟨⟨⟨h1,h2⟩,h3⟩,h4⟩,h5⟩:=h
 refine ⟨?_,fun y hy e=>?_,fun y hy e=>?_,fun y hy e=>?_,by simpa using h4,fun i j e=>?_⟩
 ·cases hk:sc.kind <;> rw [hk] at h1 <;> first | rfl | exact absurd h1 Bool.false_ne_true
 ·have:=List.all_eq_true.mp h2 y hy
  rw [e] at this
  exact absurd this Bool.false_ne_true
 ·have:=List.all_eq_true.mp h3 y hy
  rw [e] at this
  dsimp only at this
  cases hl:sc.names.lookup y.1 with
  | none=>rw [hl] at this; exact absurd this Bool.false_ne_true
  | some k=>cases k <;> rw [hl] at this <;> first | rfl | exact absurd this Bool.false_ne_true
 ·have:=List.all_eq_true.mp h3 y hy
  rw [e] at this
  dsimp only at this
  cases hl:sc.names.lookup y.1 with
  | none=>rw [hl] at this; exact absurd this Bool.false_ne_true
  | some k=>
   rw [hl] at this
   cases ho:os.names.lookup y.1 with
   | none=>rw [ho] at this; cases k <;> exact absurd this Bool.false_ne_true
   | some k'=>rw [ho] at this; cases k <;> cases k' <;> first | exact .inl rfl | exact .inr rfl | exact absurd this Bool.false_ne_true
 ·have hlen:js.length=N.length:=by simpa using h4
  obtain ⟨hi,ej⟩:=List.getElem?_eq_some_iff.mp e
  have hN:i < N.length:=by omega
  have hz:(js.zip N)[i]?=some (some j,N[i]):=by
   rw [List.getElem?_zip_eq_some]
   exact ⟨e,by simp [hN]⟩
  have:=List.all_eq_true.mp h5 _ (List.mem_of_getElem? hz)
  simp only [Bool.and_eq_true] at this
  obtain ⟨t1,t2⟩:=this
  refine ⟨N[i],by simp [hN],?_,?_⟩
  ·cases ho:oN[j]? with
   | none=>rw [ho] at t1; exact absurd t1 Bool.false_ne_true
   | some x=>rw [ho] at t1; rw [of_decide_eq_true t1]
  ·cases hl:sc.names.lookup N[i] with
   | none=>rw [hl] at t2; exact absurd t2 Bool.false_ne_true
   | some k=>rw [hl] at t2; cases k <;> first | rfl | exact absurd t2 Bool.false_ne_true
theorem lookup_mem' {κ:Type} {x:Str} {k:κ}:∀ {l:List (Str×κ)},l.lookup x=some k->(x,k)∈l
 | [],h=>by simp at h
 | (n,v) :: r,h=>by
  by_cases hx:x=n
  ·subst hx
   simp only [List.lookup_cons,beq_self_eq_true] at h
   cases h
   exact List.mem_cons_self
  ·have:(x == n)=false:=by simpa using hx
   simp only [List.lookup_cons,this] at h
   exact List.mem_cons_of_mem _ (lookup_mem' h)
theorem relabel_lookup {sc:Scope} {env:Env}:∀ {names:List (Str×NameKind)} {x:Str} {k:NameKind},(names.map fun (n,k)=>if (k == NameKind.free && env.scope.kind == .function && env.kindOf n == some .cell) then (n,NameKind.cell) else (n,k)).lookup x=some k->
  names.lookup x=some k\/(k=.cell/\names.lookup x=some .free)
 | [],_,_,h=>by simp at h
 | (n,q) :: r,x,k,h=>by
  have ih:=@relabel_lookup sc env r x k
  by_cases hc:(q == NameKind.free && env.scope.kind == .function && env.kindOf n == some .cell)=true
  ·simp only [List.map_cons] at h
   rw [if_pos hc] at h
   have hq:q=.free:=by
    simp only [Bool.and_eq_true] at hc
    simpa using hc.1.1
   by_cases hx:x=n
   ·subst hx
    simp only [List.lookup_cons,beq_self_eq_true] at h ⊢
    exact .inr ⟨(Option.some.inj h).symm,by rw [hq]⟩
   ·have e:(x == n)=false:=by simpa using hx
    simp only [List.lookup_cons,e] at h ⊢
    exact ih h
  ·simp only [List.map_cons] at h
   rw [if_neg hc] at h
   by_cases hx:x=n
   ·subst hx
    simp only [List.lookup_cons,beq_self_eq_true] at h ⊢
    exact .inl h
   ·have e:(x == n)=false:=by simpa using hx
    simp only [List.lookup_cons,e] at h ⊢
    exact ih h
theorem relabel_free {env:Env}:∀ {names:List (Str×NameKind)} {x:Str},names.lookup x=some .free->
  (names.map fun (n,k)=>if (k == NameKind.free && env.scope.kind == .function && env.kindOf n == some .cell) then (n,NameKind.cell) else (n,k)).lookup x=some .free\/
  (names.map fun (n,k)=>if (k == NameKind.free && env.scope.kind == .function && env.kindOf n == some .cell) then (n,NameKind.cell) else (n,k)).lookup x=some .cell
 | [],_,h=>by simp at h
 | (n,q) :: r,x,h=>by
  have ih:=@relabel_free env r x
  by_cases hc:(q == NameKind.free && env.scope.kind == .function && env.kindOf n == some .cell)=true
  ·simp only [List.map_cons]
   rw [if_pos hc]
   by_cases hx:x=n
   ·subst hx
    simp only [List.lookup_cons,beq_self_eq_true]
    first | exact .inr rfl | exact .inr trivial
   ·have e:(x == n)=false:=by simpa using hx
    simp only [List.lookup_cons,e] at h ⊢
    exact ih h
  ·simp only [List.map_cons]
   rw [if_neg hc]
   by_cases hx:x=n
   ·subst hx
    simp only [List.lookup_cons,beq_self_eq_true] at h ⊢
    exact .inl h
   ·have e:(x == n)=false:=by simpa using hx
    simp only [List.lookup_cons,e] at h ⊢
    exact ih h
def Cx.comp (X:Cx) (sc:Scope) (N:List Str) (C:Addr) (fp:List Addr) (s₀:Shared) (H₀:Hp):Cx:=
 { X with N:=N,s₀:=s₀,H₀:=H₀,env:=compEnvC sc (clOf X.env.cells sc.names []) C X.env,outer:=X.stack,ex:=fp,fn:=fun _=>false,pn:=[],xe:=fun _ _=>False }
def stAt:St->Nat->Option V
 | [],_=>none
 | x :: _,0=>x
 | _ :: r,n+1=>stAt r n
theorem stAt_get:∀ {σ:St} {i:Nat} {v:V},stAt σ i=some v->σ[i]?=some (some v)
 | [],_,_,h=>by cases h
 | x :: _,0,v,h=>by
  have h':x=some v:=h
  simp [h']
 | _ :: r,n+1,v,h=>by
  rw [List.getElem?_cons_succ]
  exact stAt_get (σ:=r) (i:=n) h
def capS (js:List (Option Nat)) (σ:St):St:=js.map fun o=>match o with
 | none=>none
 | some j=>stAt σ j
theorem capS_at {js:List (Option Nat)} {σ:St} {i:Nat} {v:V} (h:(capS js σ)[i]?=some (some v)):∃ j,js[i]?=some (some j)/\σ[j]?=some (some v):=by
 unfold capS at h
 rw [List.getElem?_map] at h
 cases e:js[i]? with
 | none=>rw [e] at h; cases h
 | some o=>
  rw [e] at h
  cases o with
  | none=>cases h
  | some j=>exact ⟨j,rfl,stAt_get (Option.some.inj h)⟩
def PTs (X:Cx) (ifs:List Expr) (t:TT):Prop:=
 ∀ (pins:List (Addr×Obj)) (s:Shared) (σ:St) (H:Hp) (Q:Bool->Hp->Prop),Inv X pins σ H s->t σ H Q->wpAny (model X.prog X.w) X.A (testsOf ifs X.env) (TP X pins σ Q) X.xe s
def tTrue:TT:=fun _ H Q=>Q true H
theorem pts_nil {X:Cx}:PTs X [] tTrue:=fun _ _ _ H _ I h=>wpAny_tests_nil ⟨H,I,h⟩
theorem pts_one {X:Cx} {c:Expr} {t:TT} (h:PT X c t):PTs X [c] t:=fun pins s σ H Q I q=>wpAny_tests_one (h pins s σ H Q I q)
def tTurn (js:List (Option Nat)) (g:TG) (tt:TT) (te:TE) (σ:St) (acc:Addr) (x:V) (H:Hp) (N:Hp->Prop):Prop:=g x (capS js σ) H fun σ2 H4=>tt σ2 H4 fun b H5=>
   if b=true then te σ2 H5 fun v H6=>∃ ys,H6 acc=some (.lst ys)/\ys.length < sizeLine/\N (upd H6 acc (.lst (ys++[v]))) else N H5
def tComp (js:List (Option Nat)) (wi:TI) (g:TG) (tt:TT) (te:TE):TE:=fun σ H Q=>wi σ H fun J H1=>∀ acc,H1 acc=none->
 ∃ W:Nat->Nat->Hp->Prop,(∃ m,W 0 m (upd H1 acc (.lst [])))/\∀ i m H2,W i m H2->
  (J.stop i H2/\Q (.ref acc) H2)\/(J.go i H2/\∃ N:Hp->Prop,(∀ H',N H'->∃ m',m' < m/\W (i+1) m' H')/\∀ x H3,J.yld i H2 x H3->tTurn js g tt te σ acc x H3 N)
section
variable {X:Cx} {elt iter tg:Expr} {ifs:List Expr} {sc:Scope} {pos:Pos} {os:Scope} {oN N:List Str} {js:List (Option Nat)} {wi:TI} {g:TG} {tt:TT} {te:TE}
structure Off (X:Cx) (pins:List (Addr×Obj)) (H:Hp) (C:Addr) (s:Shared):Prop where
 ns:∃ m,s.heap.Ns C m
 none:H C=none
 loc:C≠X.env.locals
 new:X.s₀.heap.objs.size<=C
 cells:∀ x c,X.env.cells.lookup x=some c->c≠C
 pins:∀ p∈X.pn++pins,p.1≠C
theorem Off.go {pins:List (Addr×Obj)} {σ:St} {H:Hp} {C:Addr} {s:Shared} {h':Heap} (o:Off X pins H C s) (I:Inv X pins σ H s) (hs:Heap.SameBut C s.heap h'):Inv X pins σ H { s with heap:=h' }:=
 I.turned (t':=s.toks) (fun b ob hb e=>(hs.2 b hb).trans e) o.none o.loc (.inr o.new) o.cells o.pins
theorem comp_core {use:Option (Value->Sem Unit)} {Q0:Value->Shared->Prop} (hc:X.calm=true) (hes:X.env.scope=os) (heN:X.N=oN) (ok:compSc os oN sc N js=true) (hi:PI X tg iter wi)
  (hg:∀ C fp s₀ H₀,PG (X.comp sc N C fp s₀ H₀) tg g) (ht:∀ C fp s₀ H₀,PTs (X.comp sc N C fp s₀ H₀) ifs tt) (he:∀ C fp s₀ H₀,PE (X.comp sc N C fp s₀ H₀) elt te)
  {pins:List (Addr×Obj)} {s:Shared} {σ:St} {H:Hp} {Q:VK} (I:Inv X pins σ H s) (h:tComp js wi g tt te σ H Q)
  (hfin:∀ acc C s6 H6,Inv X pins σ H6 s6->Off X pins H6 C s6->Q (.ref acc) H6->compPost (model X.prog X.w) X.A X.xe use Q0 (.ref acc) C (.ok .next) s6)
  (hs:∀ x,foldedSetIterable iter X.env x=pure x:=by intro _; rfl):
  wpAny (model X.prog X.w) X.A (comprehension (.ListComp elt [⟨tg,iter,ifs,0⟩] sc pos) sc X.env (firstIterPos [⟨tg,iter,ifs,0⟩] pos) (newList []) false (eval iter X.env) use) Q0 X.xe s:=by
 have S:=compSc_ok ok
 subst hes heN
 have hcl:∀ y∈sc.names,y.2=NameKind.free->∃ c,X.env.cells.lookup y.1=some c:=fun y hy e=>I.ok.has y.1 (S.fr y hy e)
 have clsub:∀ x c,(clOf X.env.cells sc.names []).lookup x=some c->X.env.cells.lookup x=some c:=fun x c e=>by
  rcases clOf_lookup _ _ e with z | ⟨y,hy,e1,e2,e3⟩
  ·cases z
  ·obtain ⟨d,hd⟩:=hcl y hy e2
   rw [e1] at hd
   rw [hd] at e3
   rw [hd,e3]; rfl
 refine wpAny_comprehension_free (use:=use) rfl hs (closureFor_of hcl) S.kind S.nm (thn (hi pins s σ H _ I h) fun v s1 h1=>thn h1 fun itv s2 h2=>?_)
 obtain ⟨it,fp,tn,J,H2,e,I2,T,st2,f2,q⟩:=h2
 subst e
 obtain ⟨W,⟨m0,w0⟩,turn⟩:=q s2.heap.objs.size I2.fresh
 refine wpAny_newObj_type (wpAny_newFunctionEnv S.nocell (by intro y hy; simp at hy) (fun h₁ hns₁ hsb₁=>?_) S.kind)
 have I3:Inv X pins σ (upd H2 s2.heap.objs.size (.lst [])) { s2 with heap:=s2.heap.push { cls:=.type "list",data:=.seq ([]:List Value).toArray },toks:=s2.toks }:=I2.lnew (its:=[]) (ys:=[]) .nil (Nat.zero_le _)
 generalize hH3:upd H2 s2.heap.objs.size (HO.lst [])=H3 at w0 I3
 generalize hs3:({ s2 with heap:=s2.heap.push { cls:=.type "list",data:=.seq ([]:List Value).toArray },toks:=s2.toks }:Shared)=s3 at I3
 have es3:({ s2 with heap:=s2.heap.push { cls:=.type "list",dict:=none,data:=.seq ([]:List Value).toArray } }:Shared)=s3:=hs3
 have eh3:s2.heap.push { cls:=.type "list",dict:=none,data:=.seq ([]:List Value).toArray }=s3.heap:=by rw [<- es3]
 dsimp only at hns₁ hsb₁ ⊢
 (try rw [eh3] at hns₁); (try rw [eh3] at hsb₁); (try rw [eh3])
 have hC:∀ b o,s3.heap.get? b=some o->b≠s3.heap.objs.size:=fun b o e=>Nat.ne_of_lt (Heap.lt_size e)
 have old:∀ b o,s3.heap.get? b=some o->h₁.get? b=some o:=fun b o e=>hsb₁.extBut b o (hC b o e) (Heap.get?_push_of_some _ e)
 have st3:tn 0 s3.heap:=T.keep 0 _ _ st2 fun b hb o e=>by
  rw [<- eh3]; exact Heap.get?_push_of_some _ e
 have fobj:∀ b∈fp,∃ o,s3.heap.get? b=some o/\∀ v,o.data≠.cell v:=T.obj 0 _ st3
 have f3:∀ b∈fp,FpOk X pins H3 b:=fun b hb=>by
  obtain ⟨o,ho,_⟩:=T.obj 0 _ st2 b hb
  refine ⟨?_,(f2 b hb).2⟩
  rw [<- hH3,upd_ne (Nat.ne_of_lt (Heap.lt_size ho))]
  exact (f2 b hb).1
 -- the block's context
 have Xok:(X.comp sc N s3.heap.objs.size fp s3 H3).Ok:=by
  refine ⟨I.ok.mod,S.kind,I.ok.glob,I.ok.blt,Nat.le_refl _,fun x y c e1 e2=>I.ok.inj x y c (clsub x c e1) (clsub y c e2),fun x hx=>?_,fun _ _ z=>absurd z Bool.false_ne_true,I.ok.hd,I.ok.frames,.inl rfl,fun b hb=>?_,I3.bs,
   Nat.le_trans I.ok.bsz I3.sz,fun b o e hb=>?_,fun b hb hf=>?_,I3.stack,I3.stkFree⟩
  ·refine clOf_has _ _ (.inr ?_)
   have fin:∀ {k},(relabel sc X.env).names.lookup x=some k->(k=.cell\/k=.free)->∃ y∈sc.names,y.1=x/\y.2=NameKind.free:=fun {k} e hk=>by
    rcases relabel_lookup (sc:=sc) e with z | ⟨_,z⟩
    ·rcases hk with rfl | rfl
     ·exact absurd rfl (S.nocell _ (lookup_mem' z))
     ·exact ⟨_,lookup_mem' z,rfl,rfl⟩
    ·exact ⟨_,lookup_mem' z,rfl,rfl⟩
   rcases hx with hx | hx
   ·exact fin hx (.inl rfl)
   ·exact fin hx (.inr rfl)
  ·obtain ⟨o,ho,_⟩:=fobj b hb
   exact ⟨hC b o ho,fun x c e=>(f3 b hb).2.2.2.2.1 x c (clsub x c e)⟩
  ·rcases (f3 b hb).2.2.2.1 with z | z
   ·exact I.ok.noex b o e z
   ·exact absurd (Nat.lt_of_lt_of_le (Heap.lt_size e) (Nat.le_trans I.ok.bsz z)) (Nat.lt_irrefl _)
  ·rcases List.mem_cons.mp (I3.stkSub b hf) with z | z
   ·exact (f3 b hb).2.1 z
   ·exact (f3 b hb).2.2.1 z
 -- what the block takes from around it
 have capt:∀ (i:Nat) (x:Str) (v:V),N[i]?=some x->(capS js σ)[i]?=some (some v)->∃ u c o,RelV v u/\((compEnvC sc (clOf X.env.cells sc.names []) s3.heap.objs.size X.env).kindOf x=some .cell\/(compEnvC sc (clOf X.env.cells sc.names []) s3.heap.objs.size X.env).kindOf x=some .free)/\
   (clOf X.env.cells sc.names []).lookup x=some c/\s3.heap.get? c=some o/\o.data=.cell (some u)/\H3 c=none/\c∉fp:=by
  intro i x v hN hv
  obtain ⟨j,hj,hσ⟩:=capS_at hv
  obtain ⟨x',hx',ho,hf⟩:=S.cap i j hj
  rw [hN] at hx'; cases hx'
  obtain ⟨m,hn,hl⟩:=I3.loc
  have hvis:Vis X.env.scope x:=by
   rcases S.fr _ (lookup_mem' hf) rfl with z | z
   ·exact .inr (.inl z)
   ·exact .inr (.inr z)
  obtain ⟨u,r,l⟩:=hl j x v ho hσ hvis
  obtain ⟨c,hcl'⟩:=clOf_has (cells:=X.env.cells) (x:=x) sc.names [] (.inr ⟨_,lookup_mem' hf,rfl,rfl⟩)
  have hcx:=clsub x c hcl'
  have hcell:s3.heap.IsCell c (some u):=by
   rcases l with ⟨k,_⟩ | ⟨_,c',e,z⟩
   ·exfalso
    rcases S.fr _ (lookup_mem' hf) rfl with z | z
    ·have k':X.env.scope.names.lookup x=some .local:=k
     rw [z] at k'; cases k'
    ·have k':X.env.scope.names.lookup x=some .local:=k
     rw [z] at k'; cases k'
   ·rw [hcx] at e; cases e; exact z
  obtain ⟨o,ho',hd⟩:=hcell
  refine ⟨u,c,o,r,?_,hcl',ho',hd,I3.freeC x c hcx,fun hb=>(f3 c hb).2.2.2.2.1 x c hcx rfl⟩
  exact (relabel_free (env:=X.env) hf).symm
 -- at any state of the block,its names as at its start
 have recap:∀ {pins':List (Addr×Obj)} {σ8:St} {H8:Hp} {s8:Shared},Inv (X.comp sc N s3.heap.objs.size fp s3 H3) pins' σ8 H8 s8->Inv (X.comp sc N s3.heap.objs.size fp s3 H3) [] (capS js σ) H8 s8:=fun {pins' σ8 H8 s8} I8=>by
  refine ⟨I8.ok,I8.os,I8.bare,I8.base,?_,I8.cell,I8.free,I8.freeC,fun p hp=>by simp [Cx.comp] at hp,I8.hok,?_⟩
  ·obtain ⟨m,hn,_⟩:=I8.loc
   refine ⟨m,hn,fun i x v hN hv _=>?_⟩
   obtain ⟨u,c,o,r,k,hl,ho,hd,hn3,hnf⟩:=capt i x v hN hv
   refine ⟨u,r,.inr ⟨k,c,hl,?_⟩⟩
   obtain ⟨sl,e⟩:=I8.base.any ho hn3 hnf
   exact ⟨_,e,hd⟩
  ·show (capS js σ).length=N.length
   unfold capS
   rw [List.length_map,S.len]
 have I4:Inv (X.comp sc N s3.heap.objs.size fp s3 H3) [] (capS js σ) H3 { s3 with heap:=h₁,toks:=s3.toks+([]:List (Str×Value)).length }:=by
  refine ⟨Xok,rfl,I3.bare,Un.kept old,⟨_,hns₁,fun i x v hN hv _=>?_⟩,fun x c e=>?_,I3.fresh,fun x c e=>I3.freeC x c (clsub x c e),fun p hp=>by simp [Cx.comp] at hp,I3.hok.kept old,?_⟩
  ·obtain ⟨u,c,o,r,k,hl,ho,hd,_,_⟩:=capt i x v hN hv
   exact ⟨u,r,.inr ⟨k,c,hl,o,old c o ho,hd⟩⟩
  ·obtain ⟨v,o,ho,hd⟩:=I3.cell x c (clsub x c e)
   exact ⟨v,o,old c o ho,hd⟩
  ·show (capS js σ).length=N.length
   unfold capS
   rw [List.length_map,S.len]
 have st4:tn 0 h₁:=T.keep 0 _ _ st3 fun b hb o e=>old b o e
 have fpok:∀ {H':Hp},(∀ b∈fp,H' b=none)->∀ b∈fp,FpOk (X.comp sc N s3.heap.objs.size fp s3 H3) [] H' b:=fun {H'} hn b hb=>
  ⟨hn b hb,(Xok.exf b hb).1,Xok.exfs b hb,.inl hb,(Xok.exf b hb).2,fun p hp=>by simp [Cx.comp] at hp⟩
 have fin:∀ (s6:Shared) (H6:Hp),Inv (X.comp sc N s3.heap.objs.size fp s3 H3) [] (capS js σ) H6 s6->Q (.ref s2.heap.objs.size) H6->compPost (model X.prog X.w) X.A X.xe use Q0 (.ref s2.heap.objs.size) s3.heap.objs.size (.ok .next) s6:=fun s6 H6 I6 q6=>by
  have I7:Inv X pins σ H6 s6:=I3.call' (ch:=fp) I6.os I6.base I6.hok I6.bare fun b hb=>⟨(f3 b hb).2.2.2.1,(f3 b hb).2.1,(f3 b hb).2.2.2.2.1,(f3 b hb).2.2.2.2.2⟩
  refine hfin _ _ _ _ I7 ⟨let ⟨m,hn,_⟩:=I6.loc; ⟨m,hn⟩,I6.free,Nat.ne_of_gt I3.lt,I3.sz,fun x c e=>?_,fun p hp=>?_⟩ q6
  ·obtain ⟨v,z⟩:=I3.cell x c e
   exact Nat.ne_of_lt z.lt
  ·exact Nat.ne_of_lt (Heap.lt_size (I3.pin p hp).1)
 have loop:codeAny (model X.prog X.w) X.A (.compLoop (.ListComp elt [⟨tg,iter,ifs,0⟩] sc pos) 0 (.ref it) (.ref s2.heap.objs.size) (compEnvC sc (clOf X.env.cells sc.names []) s3.heap.objs.size X.env))
   (compPost (model X.prog X.w) X.A X.xe use Q0 (.ref s2.heap.objs.size) s3.heap.objs.size) { s3 with heap:=h₁,toks:=s3.toks+([]:List (Str×Value)).length }:=by
  refine compLoop_any (fun n s'=>∃ i H',Inv (X.comp sc N s3.heap.objs.size fp s3 H3) [] (capS js σ) H' s'/\tn i s'.heap/\(∀ b∈fp,H' b=none)/\W i n H') ?_ m0 ⟨0,H3,I4,st4,fun b hb=>(f3 b hb).1,w0⟩
  rintro n s5 ⟨i,H5,I5,st5,fr5,w5⟩
  rcases turn i n H5 w5 with ⟨stop,qn⟩ | ⟨go,Nn,hN,step⟩
  ·refine thn (T.done (X.comp sc N s3.heap.objs.size fp s3 H3) rfl rfl rfl hc i [] s5 (capS js σ) H5 (fun _ _=>False) I5 (fpok fr5) st5 stop) fun r s6 ⟨hr,I6⟩=>?_
   subst hr
   exact fin s6 H5 I6 qn
  ·refine thn (T.item (X.comp sc N s3.heap.objs.size fp s3 H3) rfl rfl rfl hc i [] s5 (capS js σ) H5 (fun _ _=>False) I5 (fpok fr5) st5 go) fun r s6 ⟨u,hr,h6⟩=>?_
   subst hr
   refine thn h6 fun _ s7 hz=>?_
   obtain ⟨x,H7,I7,r7,y7,st7,fr7⟩:=hz
   have I7':=I7.pinned (fpok fr7) (T.obj _ _ st7)
   refine thn (hg _ _ _ _ _ s7 _ H7 x u _ I7' r7 (step x H7 y7)) fun _ s8 ⟨σ8,H8,I8,q8⟩=>?_
   refine thn (ht _ _ _ _ _ s8 σ8 H8 _ I8 q8) fun b s9 ⟨H9,I9,q9⟩=>?_
   have again:∀ {σ':St} {H':Hp} {s':Shared},Inv (X.comp sc N s3.heap.objs.size fp s3 H3) ([]++pinsAt fp s7.heap) σ' H' s'->Nn H'->∃ m,m < n/\∃ i H',Inv (X.comp sc N s3.heap.objs.size fp s3 H3) [] (capS js σ) H' s'/\tn i s'.heap/\(∀ b∈fp,H' b=none)/\W i m H':=fun {σ' H' s'} I' n'=>by
    obtain ⟨m',hm,w'⟩:=hN H' n'
    refine ⟨m',hm,i+1,H',recap I',T.keep _ _ _ st7 fun b hb o e=>(I'.pin (b,o) (List.mem_append_right _ (List.mem_append_right _ (mem_pinsAt hb e)))).1,fun b hb=>?_,w'⟩
    obtain ⟨o,e,d⟩:=T.obj _ _ st7 b hb
    exact (I'.pin (b,o) (List.mem_append_right _ (List.mem_append_right _ (mem_pinsAt hb e)))).2.1
   cases b with
   | false=>exact again I9 q9
   | true=>
    refine thn (he _ _ _ _ _ s9 σ8 H9 _ I9 q9) fun u' s10 ⟨v,H10,I10,rv,ys,hacc,hz,n10⟩=>?_
    refine thn (mt_append (X:=X.comp sc N s3.heap.objs.size fp s3 H3) _ s10 σ8 H10 (.ref s2.heap.objs.size) [v] (.ref s2.heap.objs.size) [u'] (fun _ H'=>Nn H') I10 rfl (.cons rv .nil) ⟨_,ys,v,rfl,rfl,hacc,hz,n10⟩) fun _ s11 ⟨_,H11,I11,_,n11⟩=>?_
    exact again I11 n11
 exact codeAny_compStart_list loop (T.self X.A 0 _ _ _ st4 loop)
theorem pe_comp (hc:X.calm=true) (hes:X.env.scope=os) (heN:X.N=oN) (ok:compSc os oN sc N js=true) (hi:PI X tg iter wi)
  (hg:∀ C fp s₀ H₀,PG (X.comp sc N C fp s₀ H₀) tg g) (ht:∀ C fp s₀ H₀,PTs (X.comp sc N C fp s₀ H₀) ifs tt) (he:∀ C fp s₀ H₀,PE (X.comp sc N C fp s₀ H₀) elt te)
  (hs:∀ x,foldedSetIterable iter X.env x=pure x:=by intro _; rfl):PE X (.ListComp elt [⟨tg,iter,ifs,0⟩] sc pos) (tComp js wi g tt te):=by
 intro pins s σ H Q I h
 rw [eval_ListComp]
 refine comp_core (use:=none) hc hes heN ok hi hg ht he I h (fun acc C s6 H6 I6 o q=>?_) hs
 exact ⟨o.ns.choose,o.ns.choose_spec,fun h' hs'=>⟨.ref acc,H6,o.go I6 hs',rfl,q⟩⟩
theorem ps_setcomp {i:Nat} {x:Str} {pos' spos:Pos} (hN:X.N.Nodup) (hx':X.N[i]?=some x) (hloc:X.env.scope.names.lookup x=some .local) (hc:X.calm=true) (hes:X.env.scope=os) (heN:X.N=oN) (ok:compSc os oN sc N js=true) (hi:PI X tg iter wi)
  (hg:∀ C fp s₀ H₀,PG (X.comp sc N C fp s₀ H₀) tg g) (ht:∀ C fp s₀ H₀,PTs (X.comp sc N C fp s₀ H₀) ifs tt) (he:∀ C fp s₀ H₀,PE (X.comp sc N C fp s₀ H₀) elt te)
  (hsw:swapsWith (.ListComp elt [⟨tg,iter,ifs,0⟩] sc pos) (some (.Name x pos')) spos.line X.env=pure true:=by rfl)
  (hs:∀ x,foldedSetIterable iter X.env x=pure x:=by intro _; rfl):PS X (.Assign [.Name x pos'] (.ListComp elt [⟨tg,iter,ifs,0⟩] sc pos) spos) (tAsg (tComp js wi g tt te) (gName i)):=by
 intro pins s σ H D I h
 rw [exec_Assign_Name_used _ _ _ _ hsw]
 refine wpAny_bind (wpAny_standAt (wpAny_bind ?_))
 show wpAny _ X.A (do let _ <- comprehension (.ListComp elt [⟨tg,iter,ifs,0⟩] sc pos) sc X.env _ (newList []) false (eval iter X.env) (some (assign (.Name x pos') X.env))) _ _ s
 refine wpAny_bind (thn (comp_core (use:=some (assign (.Name x pos') X.env)) (Q0:=fun _ s'=>SP X pins D .next s') hc hes heN ok hi hg ht he I h (fun acc C s6 H6 I6 o q=>?_) hs) fun _ s' hq=>wpAny_pure (wpAny_pure hq))
 show wpAny _ X.A (assign (.Name x pos') X.env (.ref acc)) _ _ _
 refine wpAny_assign_Name (store_ok2 I6 hN hx' (.inl hloc) (v:=.ref acc) rfl (fun s7 I7 ⟨a,hs7,ha⟩=>?_) (.inr hloc))
 have hCa:C≠a:=by
  rcases ha with rfl | ha
  ·exact o.loc
  ·exact fun e=>o.cells x a ha e.symm
 obtain ⟨m,hn⟩:=o.ns
 have o7:Off X pins H6 C s7:=⟨⟨m,hn.sameBut hs7 hCa⟩,o.none,o.loc,o.new,o.cells,o.pins⟩
 exact ⟨m,hn.sameBut hs7 hCa,fun h' hs'=>⟨_,H6,o7.go I7 hs',q⟩⟩
end
section
variable {K:PySem.W.Frag} {js:List (Option Nat)} {g:TG} {tt:TT} {te:TE} {σ:St} {H:Hp} {R:Hp->Prop} {acc a:Addr}
end
end L2
set_option Elab.async false
set_option linter.all false
set_option maxRecDepth 100000
namespace L2
open PySem PySem.Spec PyProof.Rows
section
variable {X:Cx}
def rSlS:V->Option Int->Option Int->Hp->VK->Prop:=fun x lo hi H Q=>∃ z,x=.str z/\z.length<=sizeLine/\Q (.str (Txt.slice z lo hi)) H
theorem part_of {v:Value} {o:Option Int} (h:IsPart v o):∃ p:Option (Int×Tok),v=partValue p/\p.map (·.1)=o:=by
 cases h with
 | none=>exact ⟨none,rfl,rfl⟩
 | int i t=>exact ⟨some (i,t),rfl,rfl⟩
theorem sl_str:SlR X rSlS:=by
 intro pins s σ H x v vl vu lo hi sl Q I rx hs pl pu h
 obtain ⟨z,rfl,hz,q⟩:=h
 obtain ⟨t,rfl⟩:=rx
 obtain ⟨l,rfl,rfl⟩:=part_of pl
 obtain ⟨u,rfl,rfl⟩:=part_of pu
 obtain ⟨o,ho,hc,hd⟩:=hs
 refine ⟨"str",_,PySem.F.slot_str_getitem.lookup,typeIs_str s z t,?_⟩
 refine wpAny_getItem_str_slice (l:=l) (u:=u) (st:=none) ⟨o,ho,hc,hd⟩ rfl ?_
 have e:sliceMade z t l u none=if ((1:Int) == 1 && (Builtin.Str.strSliceIndices (l.map (·.1)) (u.map (·.1)) 1 z.length).length == z.length)=true then Made.val (.str z t) else Made.str ⟨((Builtin.Str.strSliceIndices (l.map (·.1)) (u.map (·.1)) 1 z.length).filterMap (z.cps[·]?)).toArray⟩:=rfl
 have hle:=Txt.slice_le z (l.map (·.1)) (u.map (·.1))
 unfold Txt.slice at q hle
 rw [e]
 by_cases hc':((1:Int) == 1 && (Builtin.Str.strSliceIndices (l.map (·.1)) (u.map (·.1)) 1 z.length).length == z.length)=true
 ·rw [if_pos hc'] at q ⊢
  exact ⟨.str z,H,I,⟨t,rfl⟩,q⟩
 ·rw [if_neg hc'] at q hle ⊢
  exact ⟨Nat.le_trans hle hz,.str _,H,I.tok _,⟨_,rfl⟩,q⟩
theorem gT {es:List Expr} {k:Nat} {t:TGs} {n:Nat} {pos:Pos} (K:PySem.W.Frag) (hK:X.K=K) (hc:X.calm=true) (h:PGs X es t)
  (hn:(assignEach es X.env).length=n:=by rfl) (hst:(assignEach es X.env).findIdx? (·.1)=none:=by rfl):PG X (.Tuple es k pos) (gTup K n t):=by subst hK; exact pg_tup hc h hn hst
end
end L2
set_option Elab.async false
set_option linter.all false
set_option maxRecDepth 100000
namespace L2
open PySem PySem.Spec PyProof.Rows
section
variable {X:Cx} {e a b:Expr} {t t' ta tb:TE} {pos:Pos}
theorem PE.imp (h:PE X e t) (i:∀ σ H Q,t' σ H Q->t σ H Q):PE X e t':=fun pins s σ H Q I q=>h pins s σ H Q I (i σ H Q q)
theorem PT.imp {t t':TT} (h:PT X e t) (i:∀ σ H Q,t' σ H Q->t σ H Q):PT X e t':=fun pins s σ H Q I q=>h pins s σ H Q I (i σ H Q q)
theorem OpR.imp {f:Value->Value->Sem Value} {r r':R2} (h:OpR X f r) (i:∀ x y H Q,r' x y H Q->r x y H Q):OpR X f r':=fun pins s σ H x y v u Q I rx ry q=>h pins s σ H x y v u Q I rx ry (i x y H Q q)
theorem CallR.imp {f:Value} {r r':List V->Hp->VK->Prop} (h:CallR X f r) (i:∀ xs H Q,r' xs H Q->r xs H Q):CallR X f r':=fun pins s σ H xs us Q I rx q=>h pins s σ H xs us Q I rx (i xs H Q q)
def rAddC (K:PySem.W.Frag):R2:=fun x y H Q=>match x,y with
 | .int i,.int j=>Q (.int (i+j)) H
 | .str i,.str j=>i.length+j.length<=sizeLine/\Q (.str (i++j)) H
 | .ref _,.ref _=>rCat x y H Q\/rCatT K x y H Q
 | _,_=>False
theorem op_addC (K:PySem.W.Frag) (hK:X.K=K):OpR X (binaryOp .Add) (rAddC K):=by
 subst hK
 refine (op_add.or (op_add_str.or (op_cat.or op_catT))).imp fun x y H Q h=>?_
 cases x <;> cases y <;> first
  | exact .inl ⟨_,_,rfl,rfl,h⟩
  | exact .inr (.inl ⟨_,_,rfl,rfl,h.1,h.2⟩)
  | exact .inr (.inr h)
  | exact h.elim
def rIntC (C:Int->Int->Prop) (f:Int->Int->Int):R2:=fun x y H Q=>match x,y with
 | .int i,.int j=>C i j/\Q (.int (f i j)) H
 | _,_=>False
def rIntC0 (f:Int->Int->Int):R2:=fun x y H Q=>match x,y with
 | .int i,.int j=>Q (.int (f i j)) H
 | _,_=>False
theorem op_intC {f:Value->Value->Sem Value} {C:Int->Int->Prop} {g:Int->Int->Int} (h:OpR X f (rI C fun i j=>.int (g i j))):OpR X f (rIntC C g):=
 h.imp fun x y H Q q=>by cases x <;> cases y <;> first | exact ⟨_,_,rfl,rfl,q.1,q.2⟩ | exact q.elim
theorem op_intC0 {f:Value->Value->Sem Value} {g:Int->Int->Int} (h:OpR X f (rI0 fun i j=>.int (g i j))):OpR X f (rIntC0 g):=
 h.imp fun x y H Q q=>by cases x <;> cases y <;> first | exact ⟨_,_,rfl,rfl,q⟩ | exact q.elim
theorem op_subC:OpR X (binaryOp .Sub) (rIntC0 fun i j=>i - j):=op_intC0 op_sub
theorem op_mulC:OpR X (binaryOp .Mult) (rIntC CMul fun i j=>i*j):=op_intC op_mul
theorem op_divC:OpR X (binaryOp .FloorDiv) (rIntC CDiv fun i j=>i / j):=op_intC op_fdiv
theorem op_modC:OpR X (binaryOp .Mod) (rIntC (fun _ j=>0 < j) fun i j=>i % j):=op_intC op_mod
theorem op_powC:OpR X (binaryOp .Pow) (rIntC CPow fun i j=>i ^ j.toNat):=op_intC op_pow
def rCmpC (f:Int->Int->Bool) (g:List Nat->List Nat->Bool):R2:=fun x y H Q=>match x,y with
 | .int i,.int j=>Q (.bl (f i j)) H
 | .str i,.str j=>Q (.bl (g i.cps.toList j.cps.toList)) H
 | _,_=>False
theorem op_cmpC {f:Value->Value->Sem Value} {p:Int->Int->Bool} {g:List Nat->List Nat->Bool} (h1:OpR X f (rI0 fun i j=>.bl (p i j)))
  (h2:OpR X f (fun x y H Q=>∃ i j,x=.str i/\y=.str j/\Q (.bl (g i.cps.toList j.cps.toList)) H)):OpR X f (rCmpC p g):=
 (h1.or h2).imp fun x y H Q q=>by cases x <;> cases y <;> first | exact .inl ⟨_,_,rfl,rfl,q⟩ | exact .inr ⟨_,_,rfl,rfl,q⟩ | exact q.elim
theorem op_ltC:OpR X (compareOp .Lt) (rCmpC (fun i j=>decide (i < j)) fun i j=>decide (i < j)):=op_cmpC op_lt op_lt_str
theorem op_gtC:OpR X (compareOp .Gt) (rCmpC (fun i j=>decide (j < i)) fun i j=>decide (j < i)):=op_cmpC op_gt fun pins s σ H x y v u Q I rx ry h=>by
 obtain ⟨i,j,rfl,rfl,q⟩:=h
 obtain ⟨t,rfl⟩:=rx
 obtain ⟨t',rfl⟩:=ry
 exact PySem.P.gt_str (fin_bl I q rfl)
theorem op_geC:OpR X (compareOp .GtE) (rCmpC (fun i j=>decide (j<=i)) fun i j=>!decide (i < j)):=op_cmpC op_ge fun pins s σ H x y v u Q I rx ry h=>by
 obtain ⟨i,j,rfl,rfl,q⟩:=h
 obtain ⟨t,rfl⟩:=rx
 obtain ⟨t',rfl⟩:=ry
 exact PySem.P.ge_str (fin_bl I q rfl)
end
structure Mono (t:TE):Prop where
 go:∀ σ H (Q Q':VK),(∀ v H1,Q v H1->Q' v H1)->t σ H Q->t σ H Q'
section
variable {X:Cx} {e a b:Expr} {t t' ta tb:TE} {pos:Pos}
theorem bl_of {x:V} {Q:Bool->Prop} (h:match x with | .bl c=>Q c | _=>False):∃ c,x=.bl c/\Q c:=by
 cases x <;> first | exact ⟨_,rfl,h⟩ | exact h.elim
def cAnd (ta tb:TE):TE:=fun σ H Q=>ta σ H fun x H1=>match x with
 | .bl c=>if c=true then tb σ H1 Q else Q (.bl false) H1
 | _=>False
theorem pe_andC {rest:List Expr} (ha:PE X a ta) (hb:PE X (.BoolOp .And (b :: rest) pos) tb):PE X (.BoolOp .And (a :: b :: rest) pos) (cAnd ta tb):=by
 intro pins s σ H Q I h
 refine BoolOp_and (thn (ha pins s σ H _ I h) fun v s1 hz=>?_)
 obtain ⟨x,H1,I1,r1,q1⟩:=hz
 obtain ⟨c,rfl,q1⟩:=bl_of q1
 cases r1
 refine wpAny_truthy_bool ?_
 cases c with
 | true=>exact hb pins s1 σ H1 Q I1 q1
 | false=>exact ⟨.bl false,H1,I1,rfl,q1⟩
theorem ix_dict (hu:X.A.units+1 < cLine):IxR X (fun x y H Q=>∃ p v,x=.ref p/\DGet H p y (some v)/\Q v H):=by
 intro value slice pins s σ H x y v u Q I rx ry h hs
 obtain ⟨p,w,rfl,g,q⟩:=h
 cases rx
 have hT:=dict_typeIs I g
 unfold subscriptTail
 refine wpAny_bind ?_
 rw [getitemInPython_of_ne hT.not_modules]
 refine wpAny_bind (wpAny_specialOf hT PySem.F.slot_dict_getitem.lookup ?_)
 have fin:wpAny (model X.prog X.w) X.A (subscripted slice false (.ref p) u) (fun r s₃=>wpAny (model X.prog X.w) X.A (letTemporaryGo value (.ref p) r >>= fun _=>pure r) (EP X pins σ Q) X.xe s₃) X.xe s:=by
  rw [hs]
  exact wpAny_operating (d_getItem hu I g ry fun w' s3 I3 rw'=>wpAny_bind (wpAny_letTemporaryGo (wpAny_pure ⟨w,H,I3,rw',q⟩)))
 first
  | exact wpAny_pure (wpAny_bind fin)
  | exact wpAny_bind (wpAny_pure (wpAny_bind fin))
  | exact wpAny_bind fin
def rIxC (K:PySem.W.Frag):R2:=fun x y H Q=>match x with
 | .str z=>(match y with
  | .int i=>z.length<=sizeLine/\∃ c,atI z.cps.toList i=some c/\Q (.str ⟨#[c]⟩) H
  | _=>False)
 | .ref p=>(∃ xs i v,y=.int i/\(SqL K H p xs\/SqT K H p xs)/\atI xs i=some v/\Q v H)\/∃ v,DGet H p y (some v)/\Q v H
 | _=>False
theorem IxR.imp {r r':R2} (h:IxR X r) (i:∀ x y H Q,r' x y H Q->r x y H Q):IxR X r':=fun a b pins s σ H x y v u Q I rx ry q hs=>h a b pins s σ H x y v u Q I rx ry (i x y H Q q) hs
theorem ixC (hu:X.A.units+1 < cLine) (K:PySem.W.Frag) (hK:X.K=K):IxR X (rIxC K):=by
 subst hK
 refine (ix_list.or (ix_tup.or (ix_str.or (ix_dict hu)))).imp fun x y H Q h=>?_
 cases x with
 | str z=>
  cases y with
  | int i=>obtain ⟨h1,c,h2,h3⟩:=h; exact .inr (.inr (.inl ⟨z,i,c,rfl,rfl,h1,h2,h3⟩))
  | _=>exact h.elim
 | ref p=>
  rcases h with ⟨xs,i,v,rfl,hs | hs,ha,hq⟩ | ⟨v,g,hq⟩
  ·exact .inl ⟨p,xs,i,v,rfl,rfl,hs,ha,hq⟩
  ·exact .inr (.inl ⟨p,xs,i,v,rfl,rfl,hs,ha,hq⟩)
  ·exact .inr (.inr (.inr ⟨p,v,rfl,g,hq⟩))
 | _=>exact h.elim
theorem op_inC (hu:X.A.units+1 < cLine) (K:PySem.W.Frag) (hK:X.K=K):OpR X (compareOp .In) (fun x y H Q=>rIn K false x y H Q\/∃ a o,y=.ref a/\DGet H a x o/\Q (.bl o.isSome) H):=by
 subst hK
 refine op_in_seq.or fun pins s σ H x y v u Q I rx ry h=>?_
 obtain ⟨a,o,rfl,g,q⟩:=h
 cases ry
 exact d_in hu I g rx fun s' I'=>⟨.bl o.isSome,H,I',rfl,q⟩
theorem op_notInC (hu:X.A.units+1 < cLine) (K:PySem.W.Frag) (hK:X.K=K):OpR X (compareOp .NotIn) (fun x y H Q=>rIn K true x y H Q\/∃ a o,y=.ref a/\DGet H a x o/\Q (.bl (!o.isSome)) H):=by
 subst hK
 refine op_notIn_seq.or fun pins s σ H x y v u Q I rx ry h=>?_
 obtain ⟨a,o,rfl,g,q⟩:=h
 cases ry
 exact d_notIn hu I g rx fun s' I'=>⟨.bl (!o.isSome),H,I',rfl,q⟩
def rLenC (K:PySem.W.Frag):List V->Hp->VK->Prop:=fun xs H Q=>match xs with
 | [.str y]=>y.length<=sizeLine/\Q (.int y.length) H
 | [.ref p]=>(∃ xs,(SqL K H p xs\/SqT K H p xs)/\Q (.int xs.length) H)\/∃ kvs,H p=some (.dK kvs)/\Q (.int kvs.length) H
 | _=>False
theorem call_lenC (K:PySem.W.Frag) (hK:X.K=K):CallR X (.builtin "len") (rLenC K):=by
 subst hK
 intro pins s σ H xs us Q I r h
 match xs,h with
 | [.str y],h=>exact call_len pins s σ H _ us Q I r ⟨_,_,rfl,⟨h.1,rfl⟩,h.2⟩
 | [.ref p],h=>
  rcases h with ⟨ys,hs,q⟩ | ⟨kvs,hs,q⟩
  ·exact call_len_seq pins s σ H _ us Q I r ⟨p,ys,rfl,hs,q⟩
  ·exact call_lenD pins s σ H _ us Q I r ⟨p,kvs,rfl,hs,q⟩
theorem call_listC (K:PySem.W.Frag) (hK:X.K=K):CallR X (.type "list") (fun xs H Q=>∃ p ys,xs=[.ref p]/\(SqL K H p ys\/SqT K H p ys)/\∀ l,H l=none->Q (.ref l) (upd H l (.lst ys))):=by subst hK; exact call_list_of
def cRng1 (ta:TA):TI:=fun σ H R=>ta σ H fun vs H1=>match vs with
 | [.int j]=>(-(2 ^ 62)<=j/\j < 2 ^ 62)/\R (Itr 0 j.toNat) H1
 | _=>False
def cRng2 (ta:TA):TI:=fun σ H R=>ta σ H fun vs H1=>match vs with
 | [.int i,.int j]=>(-(2 ^ 62)<=i/\i < 2 ^ 62/\-(2 ^ 62)<=j/\j < 2 ^ 62)/\R (Itr i (j - i).toNat) H1
 | _=>False
theorem one_int {vs:List V} {Q:Int->Prop} (h:match vs with | [.int i]=>Q i | _=>False):∃ i,vs=[.int i]/\Q i:=by
 split at h
 · exact ⟨_,rfl,h⟩
 · exact h.elim
theorem pr1 {x:Expr} {ta:TA} {tg:Expr} {p pos:Pos} (hg:Gl X "range") (hm:X.mg "range" = none) (ha:PA X [x] ta) (hs:starEach [x] X.env=[(false,eval x X.env)]:=by rfl):PI X tg (.Call (.Name "range" p) [x] [] pos) (cRng1 ta):=by
 intro pins s σ H R I h
 refine Call_ (ld_blt I hg hm boot_range (PyProof.Rows.callWith_type1 (thn (ha pos pins s σ H _ I h) fun us s1 hz=>?_) hs rfl))
 obtain ⟨vs,H1,I1,r1,q1⟩:=hz
 obtain ⟨j,rfl,⟨h1,h2⟩,q⟩:=one_int q1
 obtain ⟨u,rfl,t,rfl⟩:=vals1 r1
 exact call_range_1 (range_it I1 (by omega) (by omega) h1 h2 (by simpa using q))
theorem two_ints {vs:List V} {Q:Int->Int->Prop} (h:match vs with | [.int i,.int j]=>Q i j | _=>False):∃ i j,vs=[.int i,.int j]/\Q i j:=by
 split at h
 ·exact ⟨_,_,rfl,h⟩
 ·exact h.elim
theorem pr2 {x y:Expr} {ta:TA} {tg:Expr} {p pos:Pos} (hg:Gl X "range") (hm:X.mg "range" = none) (ha:PA X [x,y] ta) (hs:starEach [x,y] X.env=[(false,eval x X.env),(false,eval y X.env)]:=by rfl) (hs2:starEach [y] X.env=[(false,eval y X.env)]:=by rfl):
  PI X tg (.Call (.Name "range" p) [x,y] [] pos) (cRng2 ta):=by
 intro pins s σ H R I h
 refine Call_ (ld_blt I hg hm boot_range (PyProof.Rows.callWith_type1 (thn (ha pos pins s σ H _ I h) fun us s1 hz=>?_) (by rw [hs,hs2]) (by rw [hs2]; rfl)))
 obtain ⟨vs,H1,I1,r1,q1⟩:=hz
 obtain ⟨i,j,e,⟨h1,h2,h3,h4⟩,q⟩:=two_ints (Q:=fun i j=>(-(2 ^ 62)<=i/\i < 2 ^ 62/\-(2 ^ 62)<=j/\j < 2 ^ 62)/\R (Itr i (j - i).toNat) H1) q1
 subst e
 obtain ⟨u,w',rfl,⟨t,rfl⟩,⟨t',rfl⟩⟩:=vals2 r1
 exact call_range_2 (range_it I1 h1 h2 h3 h4 q)
def cPart (t:TE):TO:=fun σ H Q=>t σ H fun x H1=>match x with
 | .int i=>Q (some i) H1
 | _=>False
theorem po_someC {x:Expr} {te:TE} (h:PE X x te):PO X (some x) (cPart te):=by
 intro pins s σ H Q I hw
 rw [evalPart_some]
 refine thn (h pins s σ H _ I hw) fun u s1 hz=>?_
 obtain ⟨x,H1,I1,r1,q1⟩:=hz
 cases x with
 | int i=>
  obtain ⟨t,rfl⟩:=r1
  exact ⟨some i,H1,I1,.int i t,q1⟩
 | _=>exact q1.elim
end
end L2
namespace L2
open PySem PySem.Spec PyProof.Rows
structure Def (K:PySem.W.Frag) (mg:Str->Option Value) (x:Str) (st:Stmt) (f:Addr) (fd:FuncData) (ps:List Str):Prop where
 fn:Fun K x x st f fd
 mg:mg x=some (.ref f)
 bd:Binds K fd ps []
section
variable {X:Cx}
theorem pcall {x:Str} {st:Stmt} {f:Addr} {fd:FuncData} {ps:List Str} {k:Nat} {sp:Sp} {e:Expr} {es:List Expr} {t:TA} {p pos:Pos} (D:Def X.K X.mg x st f fd ps) (G:FnOk X.prog X.w X.K X.mg X.base CX0 k f fd ps sp) (hr:Room k X.A) (ha:PA X (e :: es) t)
  (hg:Gl X x:=by rfl) (hdb:(x == ("__debug__" : Str))=false:=by decide) (he:starEach (e :: es) X.env=(false,eval e X.env) :: starEach es X.env:=by rfl) (hpl:(backTo pos (starEach es X.env)).any (·.1)=false:=by rfl):
  PE X (.Call (.Name x p) (e :: es) [] pos) (tCall sp [] E0 t):=pe_call G hr hg D.mg D.fn.kp D.bd .nil pass0 ha hdb he hpl
end
theorem atI_ok {α:Type} {xs:List α} {i:Int} (h0:0<=i) (h1:i < xs.length):∃ v,atI xs i=some v/\xs[i.toNat]?=some v:=by
 have h2:i.toNat < xs.length:=by omega
 refine ⟨xs[i.toNat],?_,by simp [h2]⟩
 unfold atI ixN
 rw [if_pos h0,if_pos h1]
 simp [h2]
theorem atI_of {α:Type} {xs:List α} {i:Nat} {v:α} (h:xs[i]?=some v):atI xs (i:Int)=some v:=by
 have h1:=(List.getElem?_eq_some_iff.mp h).1
 unfold atI ixN
 rw [if_pos (by omega),if_pos (by omega)]
 simpa using h
theorem Same.upd {H:Hp} {a:Addr} {o:HO} (h:H a=none):Same H (upd H a o):=fun b u e=>by
 rw [upd_ne (ne_of_none e h)]; exact e
theorem Def.mk' {K:PySem.W.Frag} {mg:Str->Option Value} {h:Heap} {x:Str} {st:Stmt} {f:Addr} {ps:List Str} {oc:Value} {od an:Option Addr} {osl:Array (Option Value)} {kV doc pm cdv ct:Value} (X:K.In h) (G:h.Ns mainGlobals mg)
  (a:PySem.W.nsIn K mainGlobals x=some (some (.ref f))) (l:K.lookup f=some ⟨oc,od,.func (PySem.W.fnOf x x (defArgs st) (defBody st) (defScope st) .none kV doc pm an cdv ct),osl⟩)
  (c:PySem.W.codeIn K cdv x=true) (k:PySem.W.keepIn K (.ref f)=true)
  (b:∀ (kV doc pm:Value) (an:Option Addr) (cdv ct:Value) (us:List Value),us.length=ps.length->bindArgs (PySem.W.fnOf x x (defArgs st) (defBody st) (defScope st) .none kV doc pm an cdv ct) ⟨us,[]⟩=pure (ps.zip us)):
  Def K mg x st f (PySem.W.fnOf x x (defArgs st) (defBody st) (defScope st) .none kV doc pm an cdv ct) ps:=
 ⟨fun_mk l c k,PySem.W.mg_of X G a,(fun_mk (st:=st) l c k).binds b⟩
end L2
set_option Elab.async false
set_option linter.all false
set_option maxRecDepth 100000
namespace L2
open PySem PySem.Spec PyProof.Rows PySem.SeqAt
inductive D where
 | non | bl (b:Bool) | int (i:Int) | str (x:Str) | tup (xs:List D)
mutual
def D.depth:D->Nat
 | .tup xs=>D.depths xs+1
 | _=>0
def D.depths:List D->Nat
 | []=>0
 | x :: xs=>max (D.depth x) (D.depths xs)
end
theorem D.depths_le:∀ {xs:List D} {i:Nat} {d:D},xs[i]?=some d->d.depth<=D.depths xs
 | [],_,_,h=>by simp at h
 | x :: xs,0,d,h=>by
  have:x=d:=by simpa using h
  subst this
  show x.depth<=max x.depth (D.depths xs)
  omega
 | x :: xs,i+1,d,h=>by
  have:=D.depths_le (xs:=xs) (i:=i) (d:=d) (by simpa using h)
  show d.depth<=max x.depth (D.depths xs)
  omega
mutual
/-- the value x is the datum,in the heap H -/
def Rep (K:PySem.W.Frag) (H:Hp):D->V->Prop
 | .non,v=>v=.non
 | .bl b,v=>v=.bl b
 | .int i,v=>v=.int i
 | .str x,v=>v=.str x
 | .tup ds,v=>∃ a vs,v=.ref a/\SqT K H a vs/\Reps K H ds vs
def Reps (K:PySem.W.Frag) (H:Hp):List D->List V->Prop
 | [],[]=>True
 | d :: ds,v :: vs=>Rep K H d v/\Reps K H ds vs
 | [],_ :: _=>False
 | _ :: _,[]=>False
end
mutual
/-- == -/
def eqD:D->D->Bool
 | .non,.non=>true
 | .bl a,.bl b=>a == b
 | .bl a,.int b=>(if a then 1 else 0) == b
 | .int a,.bl b=>a == (if b then 1 else 0)
 | .int a,.int b=>a == b
 | .str a,.str b=>a == b
 | .tup xs,.tup ys=>eqDs xs ys
 | _,_=>false
def eqDs:List D->List D->Bool
 | [],[]=>true
 | x :: xs,y :: ys=>eqD x y && eqDs xs ys
 | [],_ :: _=>false
 | _ :: _,[]=>false
end
mutual
/-- < (none: an error) -/
def ltD:D->D->Option Bool
 | .int a,.int b=>some (decide (a < b))
 | .str a,.str b=>some (decide (a.cps.toList < b.cps.toList))
 | .tup xs,.tup ys=>ltDs xs ys
 | _,_=>none
def ltDs:List D->List D->Option Bool
 | [],[]=>some false
 | [],_ :: _=>some true
 | _ :: _,[]=>some false
 | x :: xs,y :: ys=>if eqD x y=true then ltDs xs ys else ltD x y
end
mutual
theorem eqD_refl:∀ d:D,eqD d d=true
 | .non=>rfl
 | .bl b=>by simp [eqD]
 | .int i=>by simp [eqD]
 | .str x=>by simp [eqD]
 | .tup xs=>by simp only [eqD]; exact eqDs_refl xs
theorem eqDs_refl:∀ ds:List D,eqDs ds ds=true
 | []=>rfl
 | d :: ds=>by simp only [eqDs,eqD_refl d,eqDs_refl ds,Bool.and_self]
end
def Tups (H H':Hp):Prop:=∀ a xs,Rd H a (.tup xs)->Rd H' a (.tup xs)
theorem Tups.refl (H:Hp):Tups H H:=fun _ _ h=>h
theorem Tups.trans {H H1 H2:Hp} (a:Tups H H1) (b:Tups H1 H2):Tups H H2:=fun c xs h=>b c xs (a c xs h)
theorem Tups.same {H H':Hp} (s:Same H H'):Tups H H':=fun a xs h=>by
 rcases h with h | ⟨o,h⟩
 ·exact .inl (s _ _ h)
 ·exact .inr ⟨o,s _ _ h⟩
def NoTup:Option HO->Prop
 | some (.tup _)=>False
 | some (.frz _ _)=>False
 | _=>True
theorem Tups.upd {H:Hp} {p:Addr} {o:HO} (h:NoTup (H p)):Tups H (upd H p o):=fun a xs q=>by
 have ne:a≠p:=by
  rintro rfl
  rcases q with q | ⟨ob,q⟩
  ·rw [q] at h; exact h
  ·rw [q] at h; exact h
 rcases q with q | ⟨ob,q⟩
 ·exact .inl (by rw [upd_ne ne]; exact q)
 ·exact .inr ⟨ob,by rw [upd_ne ne]; exact q⟩
theorem Tups.sq {K:PySem.W.Frag} {H H':Hp} {a:Addr} {xs:List V} (t:Tups H H') (h:SqT K H a xs):SqT K H' a xs:=by
 rcases h with h | h
 ·exact .inl (t a xs h)
 ·exact .inr h
section
variable {K:PySem.W.Frag} {H H':Hp}
mutual
theorem Rep.tp (t:Tups H H'):∀ {d:D} {v:V},Rep K H d v->Rep K H' d v
 | .non,_,h=>h
 | .bl _,_,h=>h
 | .int _,_,h=>h
 | .str _,_,h=>h
 | .tup ds,_,⟨a,vs,e,q,r⟩=>⟨a,vs,e,t.sq q,Reps.tp t r⟩
theorem Reps.tp (t:Tups H H'):∀ {ds:List D} {vs:List V},Reps K H ds vs->Reps K H' ds vs
 | [],[],_=>trivial
 | _ :: _,_ :: _,⟨h,r⟩=>⟨Rep.tp t h,Reps.tp t r⟩
 | [],_ :: _,h=>h.elim
 | _ :: _,[],h=>h.elim
end
theorem Reps.length:∀ {ds:List D} {vs:List V},Reps K H ds vs->ds.length=vs.length
 | [],[],_=>rfl
 | _ :: _,_ :: _,⟨_,r⟩=>by simp [Reps.length r]
 | [],_ :: _,h=>h.elim
 | _ :: _,[],h=>h.elim
theorem Reps.get:∀ {ds:List D} {vs:List V} {i:Nat} {v:V},Reps K H ds vs->vs[i]?=some v->∃ d,ds[i]?=some d/\Rep K H d v
 | [],[],_,_,_,e=>by simp at e
 | d :: _,w :: _,0,v,⟨h,_⟩,e=>by
  have:w=v:=by simpa using e
  subst this
  exact ⟨d,rfl,h⟩
 | _ :: ds,_ :: vs,i+1,v,⟨_,r⟩,e=>by
  obtain ⟨d,h1,h2⟩:=Reps.get (ds:=ds) (vs:=vs) (i:=i) (v:=v) r (by simpa using e)
  exact ⟨d,by simpa using h1,h2⟩
 | [],_ :: _,_,_,h,_=>h.elim
 | _ :: _,[],_,_,h,_=>h.elim
theorem Reps.at:∀ {ds:List D} {vs:List V} {i:Nat} {d:D},Reps K H ds vs->ds[i]?=some d->∃ v,vs[i]?=some v/\Rep K H d v
 | [],[],_,_,_,e=>by simp at e
 | d :: _,w :: _,0,d',⟨h,_⟩,e=>by
  have:d=d':=by simpa using e
  subst this
  exact ⟨w,rfl,h⟩
 | _ :: ds,_ :: vs,i+1,d,⟨_,r⟩,e=>by
  obtain ⟨v,h1,h2⟩:=Reps.at (ds:=ds) (vs:=vs) (i:=i) (d:=d) r (by simpa using e)
  exact ⟨v,by simpa using h1,h2⟩
 | [],_ :: _,_,_,h,_=>h.elim
 | _ :: _,[],_,_,h,_=>h.elim
end
section
variable {X:Cx} {pins:List (Addr×Obj)} {σ:St} {H:Hp} {s:Shared}
theorem eqAt_of_rc {A:Around} {s:Shared} {v u:Value} {b:Bool} (h:RcAt A s v u b) (hs:v=u->b=true) (hf:∀ f t,v≠.float f t):EqAt A s v u b:=fun prog w E Q hq=>by
 unfold eqBool
 refine wpAny_holding ?_
 refine wpAny_ite_split (fun hab=>?_) (fun _=>?_)
 ·have e:=hs (eq_of_beq hab)
  subst e
  exact wpAny_bind (wpAny_rule (wpAny_pure hq))
 ·cases v <;> first | exact absurd rfl (hf _ _) | exact wpAny_bind (h prog w E _ (wpAny_truthy_bool hq)) | (cases u <;> exact wpAny_bind (h prog w E _ (wpAny_truthy_bool hq)))
theorem rep_noflt {K:PySem.W.Frag} {H:Hp} {d:D} {x:V} {v:Value} (h:Rep K H d x) (r:RelV x v):∀ f t,v≠.float f t:=fun f t e=>by
 subst e
 cases d with
 | non=>cases h; cases r
 | bl b=>cases h; cases r
 | int b=>cases h; obtain ⟨_,z⟩:=r; cases z
 | str b=>cases h; obtain ⟨_,z⟩:=r; cases z
 | tup ds=>obtain ⟨_,_,rfl,_⟩:=h; cases r
theorem rep_fun (I:Inv X pins σ H s):∀ (n:Nat) (d e:D) (v:V),d.depth<=n->Rep X.K H d v->Rep X.K H e v->d=e
 | n,.non,e,v,_,h,h'=>by
  cases h
  cases e <;> first | (obtain ⟨_,_,z,_⟩:=h'; exact absurd z (by intro q; cases q)) | rfl | exact absurd h' (by intro z; cases z)
 | n,.bl b,e,v,_,h,h'=>by
  cases h
  cases e <;> first | (obtain ⟨_,_,z,_⟩:=h'; exact absurd z (by intro q; cases q)) | (cases h'; rfl) | exact absurd h' (by intro z; cases z)
 | n,.int i,e,v,_,h,h'=>by
  cases h
  cases e <;> first | (obtain ⟨_,_,z,_⟩:=h'; exact absurd z (by intro q; cases q)) | (cases h'; rfl) | exact absurd h' (by intro z; cases z)
 | n,.str x,e,v,_,h,h'=>by
  cases h
  cases e <;> first | (obtain ⟨_,_,z,_⟩:=h'; exact absurd z (by intro q; cases q)) | (cases h'; rfl) | exact absurd h' (by intro z; cases z)
 | 0,.tup ds,e,v,hd,h,h'=>absurd hd (by show ¬ D.depths ds+1<=0; omega)
 | n+1,.tup ds,e,v,hd,h,h'=>by
  obtain ⟨a,vs,rfl,q,r⟩:=h
  cases e with
  | tup es=>
   obtain ⟨a',vs',ea,q',r'⟩:=h'
   cases ea
   have:=I.tuple_inj q q'
   subst this
   have hd':D.depths ds+1<=n+1:=hd
   have:ds=es:=by
    apply List.ext_getElem?
    intro i
    cases hi:ds[i]? with
    | none=>
     have h1:=r.length
     have h2:=r'.length
     have:ds.length<=i:=List.getElem?_eq_none_iff.mp hi
     exact (List.getElem?_eq_none_iff.mpr (by omega)).symm
    | some d=>
     obtain ⟨v,hv,hr⟩:=r.at hi
     obtain ⟨e,he,hr'⟩:=r'.get hv
     rw [he,rep_fun I n d e v (by have:=D.depths_le hi; omega) hr hr']
   rw [this]
  | _=>cases h'
theorem allRange {xs ys:List D}:((List.range (min xs.length ys.length)).all (fun j=>match xs[j]?,ys[j]? with | some x,some y=>eqD x y | _,_=>false) && xs.length == ys.length)=eqDs xs ys:=by
 induction xs generalizing ys with
 | nil=>
  cases ys with
  | nil=>rfl
  | cons y ys=>simp [eqDs]
 | cons x xs ih=>
  cases ys with
  | nil=>simp [eqDs]
  | cons y ys=>
   have:=ih (ys:=ys)
   have e:min (x :: xs).length (y :: ys).length=min xs.length ys.length+1:=by simp only [List.length_cons]; omega
   rw [e,List.range_succ_eq_map,List.all_cons,List.all_map]
   simp only [List.getElem?_cons_zero,Function.comp_def,List.getElem?_cons_succ,List.length_cons,eqDs]
   rw [<- this]
   have e2:(xs.length+1 == ys.length+1)=(xs.length == ys.length):=by simp
   rw [e2,Bool.and_assoc]
theorem rc_D (I:Inv X pins σ H s):∀ (n:Nat) (d e:D) (A:Around) (x y:V) (v u:Value),d.depth<=n->A.units+n < cLine->Rep X.K H d x->Rep X.K H e y->RelV x v->RelV y u->RcAt A s v u (eqD d e):=by
 intro n
 induction n with
 | zero=>
  intro d e A x y v u hd hu hx hy rx ry
  cases d with
  | tup ds=>exact absurd hd (by show ¬ D.depths ds+1<=0; omega)
  | non=>
   cases hx; cases rx
   cases e with
   | non=>cases hy; cases ry; exact RcAt.none_none
   | bl b=>cases hy; cases ry; exact RcAt.none_bool b
   | int b=>cases hy; obtain ⟨t,rfl⟩:=ry; exact RcAt.none_int b t
   | str b=>cases hy; obtain ⟨t,rfl⟩:=ry; exact RcAt.none_str b t
   | tup es=>obtain ⟨a,vs,rfl,q,r⟩:=hy; cases ry; obtain ⟨its,_,p,_⟩:=I.tuple q; exact RcAt.none_tuple p (by omega)
  | bl a=>
   cases hx; cases rx
   cases e with
   | non=>cases hy; cases ry; exact RcAt.bool_none a
   | bl b=>cases hy; cases ry; exact RcAt.bool_bool a b
   | int b=>cases hy; obtain ⟨t,rfl⟩:=ry; exact RcAt.bool_int a b t
   | str b=>cases hy; obtain ⟨t,rfl⟩:=ry; exact RcAt.bool_str a b t
   | tup es=>obtain ⟨a',vs,rfl,q,r⟩:=hy; cases ry; obtain ⟨its,_,p,_⟩:=I.tuple q; exact RcAt.bool_tuple a p (by omega)
  | int a=>
   cases hx; obtain ⟨t',rfl⟩:=rx
   cases e with
   | non=>cases hy; cases ry; exact RcAt.int_none a t'
   | bl b=>cases hy; cases ry; exact RcAt.int_bool a t' b
   | int b=>cases hy; obtain ⟨t,rfl⟩:=ry; exact RcAt.int_int a t' b t
   | str b=>cases hy; obtain ⟨t,rfl⟩:=ry; exact RcAt.int_str a t' b t
   | tup es=>obtain ⟨a',vs,rfl,q,r⟩:=hy; cases ry; obtain ⟨its,_,p,_⟩:=I.tuple q; exact RcAt.int_tuple a t' p (by omega)
  | str a=>
   cases hx; obtain ⟨t',rfl⟩:=rx
   cases e with
   | non=>cases hy; cases ry; exact RcAt.str_none a t'
   | bl b=>cases hy; cases ry; exact RcAt.str_bool a t' b
   | int b=>cases hy; obtain ⟨t,rfl⟩:=ry; exact RcAt.str_int a t' b t
   | str b=>cases hy; obtain ⟨t,rfl⟩:=ry; exact RcAt.str_str a t' b t
   | tup es=>obtain ⟨a',vs,rfl,q,r⟩:=hy; cases ry; obtain ⟨its,_,p,_⟩:=I.tuple q; exact RcAt.str_tuple a t' p (by omega)
 | succ n ih=>
  intro d e A x y v u hd hu hx hy rx ry
  by_cases h0:d.depth<=n
  ·exact ih d e A x y v u h0 (by omega) hx hy rx ry
  ·cases d with
   | non=>exact absurd (show D.depth .non<=n from Nat.zero_le n) h0
   | bl b=>exact absurd (show D.depth (.bl b)<=n from Nat.zero_le n) h0
   | int b=>exact absurd (show D.depth (.int b)<=n from Nat.zero_le n) h0
   | str b=>exact absurd (show D.depth (.str b)<=n from Nat.zero_le n) h0
   | tup ds=>
    have hds:D.depths ds<=n:=by have:D.depths ds+1<=n+1:=hd; omega
    obtain ⟨a,vs,rfl,q,r⟩:=hx
    cases rx
    obtain ⟨its,rv,p,_⟩:=I.tuple q
    cases e with
    | non=>cases hy; cases ry; exact RcAt.tuple_none p (by omega)
    | bl b=>cases hy; cases ry; exact RcAt.tuple_bool b p (by omega)
    | int b=>cases hy; obtain ⟨t,rfl⟩:=ry; exact RcAt.tuple_int b t p (by omega)
    | str b=>cases hy; obtain ⟨t,rfl⟩:=ry; exact RcAt.tuple_str b t p (by omega)
    | tup es=>
     obtain ⟨a',vs',rfl,q',r'⟩:=hy
     cases ry
     obtain ⟨its',rv',p',_⟩:=I.tuple q'
     have l1:=r.length
     have l2:=r'.length
     have l3:=rv.length
     have l4:=rv'.length
     have key:=RcAt.tuples (A:=A) (e:=fun j=>match ds[j]?,es[j]? with | some x,some y=>eqD x y | _,_=>false) p p' (by omega) (fun j h1 h2=>by
      have h1':j < ds.length:=by simp at h1; omega
      have h2':j < es.length:=by simp at h2; omega
      have g1:ds[j]?=some ds[j]:=by simp [h1']
      have g2:es[j]?=some es[j]:=by simp [h2']
      obtain ⟨xv,hxv,hrx⟩:=r.at g1
      obtain ⟨yv,hyv,hry⟩:=r'.at g2
      obtain ⟨xu,hxu,hru⟩:=rv.get hxv
      obtain ⟨yu,hyu,hru'⟩:=rv'.get hyv
      have e1:its.toArray[j]=xu:=by
       have:its[j]?=some xu:=hxu
       simpa using (List.getElem?_eq_some_iff.mp this).2
      have e2:its'.toArray[j]=yu:=by
       have:its'[j]?=some yu:=hyu
       simpa using (List.getElem?_eq_some_iff.mp this).2
      rw [e1,e2]
      simp only [g1,g2]
      have hdj:=D.depths_le g1
      refine eqAt_of_rc (ih ds[j] es[j] A.in1 xv yv xu yu (by omega) (by show A.units+1+n < cLine; omega) hrx hry hru hru') (fun ev=>by
      subst ev
      have exy:xv=yv:=RelV.inj hru hru'
      subst exy
      rw [rep_fun I n ds[j] es[j] xv (by omega) hrx hry]
      exact eqD_refl _) (rep_noflt hrx hru))
     have sz:((List.range (min its.toArray.size its'.toArray.size)).all (fun j=>match ds[j]?,es[j]? with | some x,some y=>eqD x y | _,_=>false) && its.toArray.size == its'.toArray.size)=eqD (.tup ds) (.tup es):=by
      have a1:its.toArray.size=ds.length:=by simp; omega
      have a2:its'.toArray.size=es.length:=by simp; omega
      rw [a1,a2]
      simp only [eqD]
      exact allRange
     rw [<- sz]
     exact key
theorem eq_D (I:Inv X pins σ H s) {n:Nat} {d e:D} {A:Around} {x y:V} {v u:Value} (hd:d.depth<=n) (hu:A.units+n < cLine) (hx:Rep X.K H d x) (hy:Rep X.K H e y) (rx:RelV x v) (ry:RelV y u):EqAt A s v u (eqD d e):=
 eqAt_of_rc (rc_D I n d e A x y v u hd hu hx hy rx ry) (fun ev=>by
  subst ev
  have exy:x=y:=RelV.inj rx ry
  subst exy
  rw [rep_fun I n d e x hd hx hy]
  exact eqD_refl _) (rep_noflt hx rx)
theorem rcne_D (I:Inv X pins σ H s):∀ (n:Nat) (d e:D) (A:Around) (x y:V) (v u:Value),d.depth<=n->A.units+n < cLine->Rep X.K H d x->Rep X.K H e y->RelV x v->RelV y u->RcNeAt A s v u (!eqD d e):=by
 intro n
 induction n with
 | zero=>
  intro d e A x y v u hd hu hx hy rx ry
  cases d with
  | tup ds=>exact absurd hd (by show ¬ D.depths ds+1<=0; omega)
  | non=>
   cases hx; cases rx
   cases e with
   | non=>cases hy; cases ry; exact RcNeAt.none_none
   | bl b=>cases hy; cases ry; exact RcNeAt.none_bool b
   | int b=>cases hy; obtain ⟨t,rfl⟩:=ry; exact RcNeAt.none_int b t
   | str b=>cases hy; obtain ⟨t,rfl⟩:=ry; exact RcNeAt.none_str b t
   | tup es=>obtain ⟨a,vs,rfl,q,r⟩:=hy; cases ry; obtain ⟨its,_,p,_⟩:=I.tuple q; exact RcNeAt.none_tuple p (by omega)
  | bl a=>
   cases hx; cases rx
   cases e with
   | non=>cases hy; cases ry; exact RcNeAt.bool_none a
   | bl b=>cases hy; cases ry; exact RcNeAt.bool_bool a b
   | int b=>cases hy; obtain ⟨t,rfl⟩:=ry; exact RcNeAt.bool_int a b t
   | str b=>cases hy; obtain ⟨t,rfl⟩:=ry; exact RcNeAt.bool_str a b t
   | tup es=>obtain ⟨a',vs,rfl,q,r⟩:=hy; cases ry; obtain ⟨its,_,p,_⟩:=I.tuple q; exact RcNeAt.bool_tuple a p (by omega)
  | int a=>
   cases hx; obtain ⟨t',rfl⟩:=rx
   cases e with
   | non=>cases hy; cases ry; exact RcNeAt.int_none a t'
   | bl b=>cases hy; cases ry; exact RcNeAt.int_bool a t' b
   | int b=>cases hy; obtain ⟨t,rfl⟩:=ry; exact RcNeAt.int_int a t' b t
   | str b=>cases hy; obtain ⟨t,rfl⟩:=ry; exact RcNeAt.int_str a t' b t
   | tup es=>obtain ⟨a',vs,rfl,q,r⟩:=hy; cases ry; obtain ⟨its,_,p,_⟩:=I.tuple q; exact RcNeAt.int_tuple a t' p (by omega)
  | str a=>
   cases hx; obtain ⟨t',rfl⟩:=rx
   cases e with
   | non=>cases hy; cases ry; exact RcNeAt.str_none a t'
   | bl b=>cases hy; cases ry; exact RcNeAt.str_bool a t' b
   | int b=>cases hy; obtain ⟨t,rfl⟩:=ry; exact RcNeAt.str_int a t' b t
   | str b=>cases hy; obtain ⟨t,rfl⟩:=ry; exact RcNeAt.str_str a t' b t
   | tup es=>obtain ⟨a',vs,rfl,q,r⟩:=hy; cases ry; obtain ⟨its,_,p,_⟩:=I.tuple q; exact RcNeAt.str_tuple a t' p (by omega)
 | succ n ih=>
  intro d e A x y v u hd hu hx hy rx ry
  by_cases h0:d.depth<=n
  ·exact ih d e A x y v u h0 (by omega) hx hy rx ry
  ·cases d with
   | non=>exact absurd (show D.depth .non<=n from Nat.zero_le n) h0
   | bl b=>exact absurd (show D.depth (.bl b)<=n from Nat.zero_le n) h0
   | int b=>exact absurd (show D.depth (.int b)<=n from Nat.zero_le n) h0
   | str b=>exact absurd (show D.depth (.str b)<=n from Nat.zero_le n) h0
   | tup ds=>
    have hds:D.depths ds<=n:=by have:D.depths ds+1<=n+1:=hd; omega
    obtain ⟨a,vs,rfl,q,r⟩:=hx
    cases rx
    obtain ⟨its,rv,p,_⟩:=I.tuple q
    cases e with
    | non=>cases hy; cases ry; exact RcNeAt.tuple_none p (by omega)
    | bl b=>cases hy; cases ry; exact RcNeAt.tuple_bool b p (by omega)
    | int b=>cases hy; obtain ⟨t,rfl⟩:=ry; exact RcNeAt.tuple_int b t p (by omega)
    | str b=>cases hy; obtain ⟨t,rfl⟩:=ry; exact RcNeAt.tuple_str b t p (by omega)
    | tup es=>
     obtain ⟨a',vs',rfl,q',r'⟩:=hy
     cases ry
     obtain ⟨its',rv',p',_⟩:=I.tuple q'
     have l1:=r.length
     have l2:=r'.length
     have l3:=rv.length
     have l4:=rv'.length
     have key:=RcNeAt.tuples (A:=A) (e:=fun j=>match ds[j]?,es[j]? with | some x,some y=>eqD x y | _,_=>false) p p' (by omega) (fun j h1 h2=>by
      have h1':j < ds.length:=by simp at h1; omega
      have h2':j < es.length:=by simp at h2; omega
      have g1:ds[j]?=some ds[j]:=by simp [h1']
      have g2:es[j]?=some es[j]:=by simp [h2']
      obtain ⟨xv,hxv,hrx⟩:=r.at g1
      obtain ⟨yv,hyv,hry⟩:=r'.at g2
      obtain ⟨xu,hxu,hru⟩:=rv.get hxv
      obtain ⟨yu,hyu,hru'⟩:=rv'.get hyv
      have e1:its.toArray[j]=xu:=by
       have:its[j]?=some xu:=hxu
       simpa using (List.getElem?_eq_some_iff.mp this).2
      have e2:its'.toArray[j]=yu:=by
       have:its'[j]?=some yu:=hyu
       simpa using (List.getElem?_eq_some_iff.mp this).2
      rw [e1,e2]
      simp only [g1,g2]
      have hdj:=D.depths_le g1
      exact eq_D I (n:=n) (by omega) (by show A.units+1+n < cLine; omega) hrx hry hru hru')
     have sz:(!((List.range (min its.toArray.size its'.toArray.size)).all (fun j=>match ds[j]?,es[j]? with | some x,some y=>eqD x y | _,_=>false) && its.toArray.size == its'.toArray.size))=(!eqD (.tup ds) (.tup es)):=by
      have a1:its.toArray.size=ds.length:=by simp; omega
      have a2:its'.toArray.size=es.length:=by simp; omega
      rw [a1,a2]
      simp only [eqD]
      rw [allRange]
     rw [<- sz]
     exact key
def rEqD (K:PySem.W.Frag):R2:=fun x y H Q=>∃ d e,Rep K H d x/\Rep K H e y/\d.depth<=40/\Q (.bl (eqD d e)) H
def rNeD (K:PySem.W.Frag):R2:=fun x y H Q=>∃ d e,Rep K H d x/\Rep K H e y/\d.depth<=40/\Q (.bl (!eqD d e)) H
theorem op_eqD (hu:X.A.units+64 < cLine) (K:PySem.W.Frag) (hK:X.K=K):OpR X (compareOp .Eq) (rEqD K):=by
 subst hK
 intro pins s σ H x y v u Q I rx ry h
 obtain ⟨d,e,hx,hy,hd,q⟩:=h
 exact rc_D I 40 d e X.A x y v u hd (by omega) hx hy rx ry X.prog X.w X.xe _ ⟨.bl _,H,I,rfl,q⟩
theorem op_neD (hu:X.A.units+64 < cLine) (K:PySem.W.Frag) (hK:X.K=K):OpR X (compareOp .NotEq) (rNeD K):=by
 subst hK
 intro pins s σ H x y v u Q I rx ry h
 obtain ⟨d,e,hx,hy,hd,q⟩:=h
 exact rcne_D I 40 d e X.A x y v u hd (by omega) hx hy rx ry X.prog X.w X.xe _ ⟨.bl _,H,I,rfl,q⟩
def RepL (K:PySem.W.Frag) (H:Hp) (ds:List D) (v:V):Prop:=∃ a vs,v=.ref a/\SqL K H a vs/\Reps K H ds vs
theorem allRangeL {xs ys:List D} (h:xs.length=ys.length):(List.range xs.length).all (fun j=>match xs[j]?,ys[j]? with | some x,some y=>eqD x y | _,_=>false)=eqDs xs ys:=by
 have:=allRange (xs:=xs) (ys:=ys)
 rw [h,Nat.min_self,beq_self_eq_true,Bool.and_true] at this
 rw [h]
 exact this
theorem eqDs_len {xs ys:List D} (h:eqDs xs ys=true):xs.length=ys.length:=by
 rw [<- allRange,Bool.and_eq_true] at h
 exact eq_of_beq h.2
theorem list_items {I:Inv X pins σ H s} {A:Around} {ds es:List D} {vs vs':List V} {its its':List Value} (r:Reps X.K H ds vs) (r':Reps X.K H es vs') (rv:Vals vs its) (rv':Vals vs' its') (hd:D.depths ds<=40) (hu:A.units+42 < cLine):
  ∀ j (h1:j < its.toArray.size) (h2:j < its'.toArray.size),EqAt A.in1 s its.toArray[j] its'.toArray[j] (match ds[j]?,es[j]? with | some x,some y=>eqD x y | _,_=>false):=fun j h1 h2=>by
 have l1:=r.length
 have l2:=r'.length
 have l3:=rv.length
 have l4:=rv'.length
 have h1':j < ds.length:=by simp at h1; omega
 have h2':j < es.length:=by simp at h2; omega
 have g1:ds[j]?=some ds[j]:=by simp [h1']
 have g2:es[j]?=some es[j]:=by simp [h2']
 obtain ⟨xv,hxv,hrx⟩:=r.at g1
 obtain ⟨yv,hyv,hry⟩:=r'.at g2
 obtain ⟨xu,hxu,hru⟩:=rv.get hxv
 obtain ⟨yu,hyu,hru'⟩:=rv'.get hyv
 have e1:its.toArray[j]=xu:=by simpa using (List.getElem?_eq_some_iff.mp hxu).2
 have e2:its'.toArray[j]=yu:=by simpa using (List.getElem?_eq_some_iff.mp hyu).2
 rw [e1,e2]
 simp only [g1,g2]
 have hdj:=D.depths_le g1
 exact eq_D I (n:=40) (by omega) (by show A.units+1+40 < cLine; omega) hrx hry hru hru'
def rEqL (K:PySem.W.Frag):R2:=fun x y H Q=>∃ ds es,RepL K H ds x/\RepL K H es y/\D.depths ds<=40/\Q (.bl (eqDs ds es)) H
def rNeL (K:PySem.W.Frag):R2:=fun x y H Q=>∃ ds es,RepL K H ds x/\RepL K H es y/\D.depths ds<=40/\Q (.bl (!eqDs ds es)) H
theorem op_eqL (hu:X.A.units+64 < cLine) (K:PySem.W.Frag) (hK:X.K=K):OpR X (compareOp .Eq) (rEqL K):=by
 subst hK
 intro pins s σ H x y v u Q I rx ry h
 obtain ⟨ds,es,⟨a,vs,rfl,q,r⟩,⟨b,vs',rfl,q',r'⟩,hd,k⟩:=h
 cases rx; cases ry
 obtain ⟨its,rv,p,_⟩:=I.list q
 obtain ⟨its',rv',p',_⟩:=I.list q'
 have l1:=r.length
 have l2:=r'.length
 have l3:=rv.length
 have l4:=rv'.length
 by_cases hl:ds.length=es.length
 ·refine eq_listAt p.isList p'.isList (by simp; omega) (by omega) (list_items (I:=I) r r' rv rv' hd (by omega)) ⟨.bl _,H,I,rfl,?_⟩
  have e1:its.toArray.size=ds.length:=by simp; omega
  rw [e1,allRangeL hl]
  exact k
 ·refine eq_list_lengthsAt p.isList p'.isList (by simp; omega) (by omega) ⟨.bl false,H,I,rfl,?_⟩
  have e:eqDs ds es=false:=by
   cases h:eqDs ds es with
   | false=>rfl
   | true=>exact absurd (eqDs_len h) hl
  rw [e] at k
  exact k
theorem op_neL (hu:X.A.units+64 < cLine) (K:PySem.W.Frag) (hK:X.K=K):OpR X (compareOp .NotEq) (rNeL K):=by
 subst hK
 intro pins s σ H x y v u Q I rx ry h
 obtain ⟨ds,es,⟨a,vs,rfl,q,r⟩,⟨b,vs',rfl,q',r'⟩,hd,k⟩:=h
 cases rx; cases ry
 obtain ⟨its,rv,p,_⟩:=I.list q
 obtain ⟨its',rv',p',_⟩:=I.list q'
 have l1:=r.length
 have l2:=r'.length
 have l3:=rv.length
 have l4:=rv'.length
 by_cases hl:ds.length=es.length
 ·refine RcNeAt.lists p.isList p'.isList (by simp; omega) (by omega) (list_items (I:=I) r r' rv rv' hd (by omega)) X.prog X.w X.xe _ ⟨.bl _,H,I,rfl,?_⟩
  have e1:its.toArray.size=ds.length:=by simp; omega
  rw [e1,allRangeL hl]
  exact k
 ·refine RcNeAt.lists_lengths p.isList p'.isList (by simp; omega) (by omega) X.prog X.w X.xe _ ⟨.bl true,H,I,rfl,?_⟩
  have e:eqDs ds es=false:=by
   cases h:eqDs ds es with
   | false=>rfl
   | true=>exact absurd (eqDs_len h) hl
  rw [e] at k
  exact k
def rInD (K:PySem.W.Frag) (neg:Bool):R2:=fun x y H Q=>∃ d p ds vs,y=.ref p/\(SqL K H p vs\/SqT K H p vs)/\Rep K H d x/\Reps K H ds vs/\D.depths ds<=40/\Q (.bl (if neg then !ds.any (fun e=>eqD e d) else ds.any (fun e=>eqD e d))) H
noncomputable def isD (K:PySem.W.Frag) (H:Hp) (d:D) (u:Value):Bool:=@decide (∃ e x,RelV x u/\Rep K H e x/\e.depth<=40/\eqD e d=true) (Classical.propDecidable _)
theorem isD_of (I:Inv X pins σ H s) {d e:D} {x:V} {u:Value} (r:RelV x u) (h:Rep X.K H e x) (hd:e.depth<=40):isD X.K H d u=eqD e d:=by
 unfold isD
 cases q:eqD e d with
 | true=>exact @decide_eq_true _ (Classical.propDecidable _) ⟨e,x,r,h,hd,q⟩
 | false=>
  refine @decide_eq_false _ (Classical.propDecidable _) ?_
  rintro ⟨e',x',r',h',hd',q'⟩
  have ex:x'=x:=RelV.inj r' r
  subst ex
  rw [rep_fun I 40 e' e x' hd' h' h] at q'
  rw [q] at q'
  cases q'
theorem any_isD (I:Inv X pins σ H s) {d:D}:∀ {ds:List D} {vs:List V} {us:List Value},Reps X.K H ds vs->Vals vs us->D.depths ds<=40->us.any (isD X.K H d)=ds.any fun e=>eqD e d
 | [],[],_,_,.nil,_=>rfl
 | e :: ds,_ :: _,_,⟨h,r⟩,.cons rv rvs,hd=>by
  have h1:e.depth<=40/\D.depths ds<=40:=by
   have:max e.depth (D.depths ds)<=40:=hd
   omega
  rw [List.any_cons,List.any_cons,isD_of I rv h h1.1,any_isD I r rvs h1.2]
 | [],_ :: _,_,h,_,_=>h.elim
 | _ :: _,[],_,h,_,_=>h.elim
theorem mem_isD (I:Inv X pins σ H s) {A:Around} {d:D} {x:V} {v:Value} (hx:Rep X.K H d x) (rx:RelV x v) (hu:A.units+42 < cLine):∀ {ds:List D} {vs:List V} {us:List Value},Reps X.K H ds vs->Vals vs us->D.depths ds<=40->∀ u∈us,EqAt A.in1 s u v (isD X.K H d u)
 | [],[],_,_,.nil,_=>fun u hu=>by cases hu
 | e :: ds,_ :: _,_,⟨h,r⟩,.cons rv rvs,hd=>fun u hm=>by
  have h1:e.depth<=40/\D.depths ds<=40:=by
   have:max e.depth (D.depths ds)<=40:=hd
   omega
  rcases List.mem_cons.mp hm with rfl | hm
  ·rw [isD_of I rv h h1.1]
   exact eq_D I (n:=40) h1.1 (by show A.units+1+40 < cLine; omega) h hx rv rx
  ·exact mem_isD I hx rx hu r rvs h1.2 u hm
 | [],_ :: _,_,h,_,_=>h.elim
 | _ :: _,[],_,h,_,_=>h.elim
theorem op_inD (hu:X.A.units+64 < cLine) (K:PySem.W.Frag) (hK:X.K=K):OpR X (compareOp .In) (rInD K false):=by
 subst hK
 intro pins s σ H x y v u Q I rx ry h
 obtain ⟨d,p,ds,vs,rfl,hq,hx,hr,hd,k⟩:=h
 cases ry
 rcases hq with hq | hq
 ·obtain ⟨its,r,pl,hz⟩:=I.list hq
  refine SeqAt.in_listAt (isD X.K H d) pl.isList (fun w hw=>mem_isD I hx rx (by omega) hr r hd w (by simpa using hw)) ⟨.bl _,H,I,rfl,?_⟩
  rw [show its.toArray.any (isD X.K H d)=its.any (isD X.K H d) by simp,any_isD I hr r hd]
  exact k
 ·obtain ⟨its,r,pl,hz⟩:=I.tuple hq
  refine SeqAt.in_tupleAt (isD X.K H d) pl (fun w hw=>mem_isD I hx rx (by omega) hr r hd w (by simpa using hw)) ⟨.bl _,H,I,rfl,?_⟩
  rw [show its.toArray.any (isD X.K H d)=its.any (isD X.K H d) by simp,any_isD I hr r hd]
  exact k
theorem op_notInD (hu:X.A.units+64 < cLine) (K:PySem.W.Frag) (hK:X.K=K):OpR X (compareOp .NotIn) (rInD K true):=by
 subst hK
 intro pins s σ H x y v u Q I rx ry h
 obtain ⟨d,p,ds,vs,rfl,hq,hx,hr,hd,k⟩:=h
 cases ry
 rcases hq with hq | hq
 ·obtain ⟨its,r,pl,hz⟩:=I.list hq
  refine SeqAt.notIn_listAt (isD X.K H d) pl.isList (fun w hw=>mem_isD I hx rx (by omega) hr r hd w (by simpa using hw)) ⟨.bl _,H,I,rfl,?_⟩
  rw [show its.toArray.any (isD X.K H d)=its.any (isD X.K H d) by simp,any_isD I hr r hd]
  exact k
 ·obtain ⟨its,r,pl,hz⟩:=I.tuple hq
  refine SeqAt.notIn_tupleAt (isD X.K H d) pl (fun w hw=>mem_isD I hx rx (by omega) hr r hd w (by simpa using hw)) ⟨.bl _,H,I,rfl,?_⟩
  rw [show its.toArray.any (isD X.K H d)=its.any (isD X.K H d) by simp,any_isD I hr r hd]
  exact k
end
end L2
set_option Elab.async false
set_option linter.all false
set_option maxRecDepth 100000
namespace L2
open PySem
def keyLt:Sum Int Str->Sum Int Str->Bool
 | .inl a,.inl b=>decide (a < b)
 | .inr a,.inr b=>decide (a.cps.toList < b.cps.toList)
 | _,_=>false
def lexK:List (Sum Int Str)->List (Sum Int Str)->Bool
 | [],[]=>false
 | [],_ :: _=>true
 | _ :: _,[]=>false
 | x :: xs,y :: ys=>if x=y then lexK xs ys else keyLt x y
def kindK:Sum Int Str->Bool
 | .inl _=>true
 | .inr _=>false
abbrev shape (ks:List (Sum Int Str)):List Bool:=ks.map kindK
theorem str_ext {a b:Str} (h:a.cps.toList=b.cps.toList):a=b:=by
 cases a; cases b
 congr
 exact Array.toList_inj.mp h
end L2
namespace L2
open PySem PySem.W PyProof.Rows
section
variable (lt:Nat->Nat->Bool)
def evT {α:Type}:KasT α->α
 | .ret a=>a
 | .ask i j k=>evT (k (lt i j))
theorem evT_bind {α β:Type} (f:α->KasT β):∀ t:KasT α,evT lt (t.bind f)=evT lt (f (evT lt t))
 | .ret _=>rfl
 | .ask i j k=>evT_bind f (k (lt i j))
abbrev pa' (p:Array Nat) (i:Nat):Nat:=p.getD i 0
def STo (p:Array Nat) (k:Nat):Prop:=∀ i j,i<=j->j < k->lt (pa' p j) (pa' p i)=false
def NIc (p:Array Nat) (k:Nat):Prop:=∀ i j,i<=j->j < k->lt (pa' p i) (pa' p j)=false
end
theorem pa_get {p:Array Nat} {i:Nat}:pa' p i=(p[i]?).getD 0:=by
 unfold pa'
 simp [Array.getD_eq_getD_getElem?]
structure DescOk (lt:Nat->Nat->Bool) (p:Array Nat) (n f:Nat) (r:Array Nat×Nat×Nat):Prop where
 perm:r.1.Perm p
 lo:n<=r.2.1
 hi:r.2.1<=n+f
 q:r.2.2+1<=r.2.1
 ni:NIc lt r.1 r.2.1
 eq:∀ i j,r.2.1 - (r.2.2+1)<=i->i < r.2.1->r.2.1 - (r.2.2+1)<=j->j < r.2.1->lt (pa' r.1 i) (pa' r.1 j)=false
section
variable {lt:Nat->Nat->Bool} (tr:∀ i j k,lt j i=false->lt k j=false->lt k i=false) (as:∀ i j,lt i j=true->lt j i=false)
include as in
theorem lt_irr (i:Nat):lt i i=false:=by
 cases h:lt i i with
 | false=>rfl
 | true=>have:=as i i h; rw [h] at this; exact this
include tr as
theorem ev_asc (p:Array Nat):∀ f n,1<=n->STo lt p n->n<=evT lt (kas_asc p f n)/\evT lt (kas_asc p f n)<=n+f/\STo lt p (evT lt (kas_asc p f n))
 | 0,n,_,h=>⟨Nat.le_refl _,Nat.le_refl _,h⟩
 | f+1,n,h1,h=>by
  have e:evT lt (kas_asc p (f+1) n)=evT lt (if lt (p.getD n 0) (p.getD (n - 1) 0)=true then KasT.ret n else kas_asc p f (n+1)):=rfl
  rw [e]
  by_cases c:lt (p.getD n 0) (p.getD (n - 1) 0)=true
  ·rw [if_pos c]
   exact ⟨Nat.le_refl _,Nat.le_add_right _ _,h⟩
  ·rw [if_neg c]
   have c':lt (p.getD n 0) (p.getD (n - 1) 0)=false:=by simpa using c
   have h2:STo lt p (n+1):=fun i j hij hj=>by
    rcases Nat.lt_or_eq_of_le (Nat.le_of_lt_succ hj) with hj | rfl
    ·exact h i j hij hj
    ·rcases Nat.lt_or_eq_of_le hij with hi | rfl
     ·exact tr _ _ _ (h i (j - 1) (by omega) (by omega)) c'
     ·exact lt_irr as _
   obtain ⟨a,b,c⟩:=ev_asc p f (n+1) (by omega) h2
   exact ⟨by omega,by omega,c⟩
theorem rev_eq {p:Array Nat} {a n:Nat} (hn:n<=p.size) (eq:∀ i j,a<=i->i < n->a<=j->j < n->lt (pa' p i) (pa' p j)=false) (i j:Nat):
  lt (pa' (kas_rev p a n) i) (pa' (kas_rev p a n) j)=lt (pa' p i) (pa' p j):=by
 have g:∀ k,pa' (kas_rev p a n) k=if a<=k/\k < n then pa' p (a+n - 1 - k) else pa' p k:=fun k=>by
  rw [pa_get,pa_get,pa_get]
  unfold kas_rev
  rw [getElem?_mirror_all hn]
  split <;> rfl
 have sim:∀ k,∃ k',pa' (kas_rev p a n) k=pa' p k'/\lt (pa' p k) (pa' p k')=false/\lt (pa' p k') (pa' p k)=false:=fun k=>by
  rw [g]
  by_cases h:a<=k/\k < n
  ·rw [if_pos h]
   exact ⟨_,rfl,eq _ _ h.1 h.2 (by omega) (by omega),eq _ _ (by omega) (by omega) h.1 h.2⟩
  ·rw [if_neg h]
   exact ⟨k,rfl,lt_irr as _,lt_irr as _⟩
 obtain ⟨i',ei,i1,i2⟩:=sim i
 obtain ⟨j',ej,j1,j2⟩:=sim j
 rw [ei,ej]
 cases h1:lt (pa' p i) (pa' p j) with
 | false=>exact tr _ _ _ j1 (tr _ _ _ h1 i2)
 | true=>
  cases h2:lt (pa' p i') (pa' p j') with
  | true=>rfl
  | false=>
   have:=tr _ _ _ j2 (tr _ _ _ h2 i1)
   rw [h1] at this
   exact this.symm
theorem ev_desc:∀ f (p:Array Nat) n q,n+f<=p.size->q+1<=n->NIc lt p n->(∀ i j,n - (q+1)<=i->i < n->n - (q+1)<=j->j < n->lt (pa' p i) (pa' p j)=false)->DescOk lt p n f (evT lt (kas_desc f p n q))
 | 0,p,n,q,_,hq,hN,hE=>⟨Array.Perm.refl _,Nat.le_refl _,Nat.le_refl _,hq,hN,hE⟩
 | f+1,p,n,q,hs,hq,hN,hE=>by
  have e:evT lt (kas_desc (f+1) p n q)=evT lt (if lt (p.getD n 0) (p.getD (n - 1) 0)=true then (if q > 0 then kas_desc f (kas_rev p (n - (q+1)) n) (n+1) 0 else kas_desc f p (n+1) 0)
    else .ask (p.getD (n - 1) 0) (p.getD n 0) fun d=>if d=true then .ret (p,n,q) else kas_desc f p (n+1) (q+1)):=rfl
  by_cases c:lt (p.getD n 0) (p.getD (n - 1) 0)=true
  ·have down:∀ p':Array Nat,p'.Perm p->(∀ i j,lt (pa' p' i) (pa' p' j)=lt (pa' p i) (pa' p j))->evT lt (kas_desc (f+1) p n q)=evT lt (kas_desc f p' (n+1) 0)->DescOk lt p n (f+1) (evT lt (kas_desc (f+1) p n q)):=fun p' hp hl hev=>by
    have hN':NIc lt p' (n+1):=fun i j hij hj=>by
     rw [hl]
     rcases Nat.lt_or_eq_of_le (Nat.le_of_lt_succ hj) with hj | rfl
     ·exact hN i j hij hj
     ·rcases Nat.lt_or_eq_of_le hij with hi | rfl
      ·exact tr _ _ _ (as _ _ c) (hN i (j - 1) (by omega) (by omega))
      ·exact lt_irr as _
    have hE':∀ i j,n+1 - (0+1)<=i->i < n+1->n+1 - (0+1)<=j->j < n+1->lt (pa' p' i) (pa' p' j)=false:=fun i j h1 h2 h3 h4=>by
     have:i=j:=by omega
     subst this
     exact lt_irr as _
    have ih:=ev_desc f p' (n+1) 0 (by rw [hp.size_eq]; omega) (by omega) hN' hE'
    rw [<- hev] at ih
    obtain ⟨a1,a2,a3,a4,a5,a6⟩:=ih
    exact ⟨a1.trans hp,by omega,by omega,a4,a5,a6⟩
   rw [if_pos c] at e
   by_cases hq0:q > 0
   ·rw [if_pos hq0] at e
    exact down _ (mirror_perm _ _ _ _) (rev_eq tr as (by omega) hE) e
   ·rw [if_neg hq0] at e
    exact down p (Array.Perm.refl _) (fun _ _=>rfl) e
  ·rw [if_neg c] at e
   have c':lt (p.getD n 0) (p.getD (n - 1) 0)=false:=by simpa using c
   have e2:evT lt (kas_desc (f+1) p n q)=evT lt (if lt (p.getD (n - 1) 0) (p.getD n 0)=true then KasT.ret (p,n,q) else kas_desc f p (n+1) (q+1)):=e
   by_cases d:lt (p.getD (n - 1) 0) (p.getD n 0)=true
   ·rw [if_pos d] at e2
    rw [e2]
    exact ⟨Array.Perm.refl _,Nat.le_refl _,Nat.le_add_right _ _,hq,hN,hE⟩
   ·rw [if_neg d] at e2
    have d':lt (p.getD (n - 1) 0) (p.getD n 0)=false:=by simpa using d
    have hN':NIc lt p (n+1):=fun i j hij hj=>by
     rcases Nat.lt_or_eq_of_le (Nat.le_of_lt_succ hj) with hj | rfl
     ·exact hN i j hij hj
     ·rcases Nat.lt_or_eq_of_le hij with hi | rfl
      ·exact tr _ _ _ d' (hN i (j - 1) (by omega) (by omega))
      ·exact lt_irr as _
    have hE':∀ i j,n+1 - (q+1+1)<=i->i < n+1->n+1 - (q+1+1)<=j->j < n+1->lt (pa' p i) (pa' p j)=false:=fun i j h1 h2 h3 h4=>by
     by_cases hi:i=n
     ·by_cases hj:j=n
      ·rw [hi,hj]; exact lt_irr as _
      ·rw [hi]
       exact tr _ _ _ (hE (n - 1) j (by omega) (by omega) (by omega) (by omega)) c'
     ·by_cases hj:j=n
      ·rw [hj]
       exact tr _ _ _ d' (hE i (n - 1) (by omega) (by omega) (by omega) (by omega))
      ·exact hE i j (by omega) (by omega) (by omega) (by omega)
    have ih:=ev_desc f p (n+1) (q+1) (by omega) (by omega) hN' hE'
    rw [<- e2] at ih
    obtain ⟨a1,a2,a3,a4,a5,a6⟩:=ih
    exact ⟨a1,by omega,by omega,a4,a5,a6⟩
theorem ev_tail3 {n nrem:Nat} {p:Array Nat} (h1:1<=n) (hn:n<=nrem) (hz:nrem<=p.size) (hN:NIc lt p n):
  n<=(evT lt (kas_tail3 n nrem p)).1/\(evT lt (kas_tail3 n nrem p)).1<=nrem/\(evT lt (kas_tail3 n nrem p)).2.Perm p/\STo lt (evT lt (kas_tail3 n nrem p)).2 (evT lt (kas_tail3 n nrem p)).1:=by
 have e:evT lt (kas_tail3 n nrem p)=(evT lt (kas_asc (kas_rev p 0 n) (nrem - n) n),kas_rev p 0 n):=by
  unfold kas_tail3
  rw [evT_bind]; rfl
 have g:∀ k,k < n->pa' (kas_rev p 0 n) k=pa' p (n - 1 - k):=fun k hk=>by
  rw [pa_get,pa_get]
  unfold kas_rev
  rw [getElem?_mirror_all (by omega),if_pos (by omega)]
  congr 2
  omega
 have hS:STo lt (kas_rev p 0 n) n:=fun i j hij hj=>by
  rw [g i (by omega),g j hj]
  exact hN _ _ (by omega) (by omega)
 obtain ⟨a,b,c⟩:=ev_asc tr as (kas_rev p 0 n) (nrem - n) n h1 hS
 rw [e]
 exact ⟨a,by show evT lt (kas_asc (kas_rev p 0 n) (nrem - n) n)<=nrem; omega,mirror_perm _ _ _ _,c⟩
theorem ev_descPart {n nrem:Nat} {p:Array Nat} (h1:1<=n) (hn:n+1<=nrem) (hz:nrem<=p.size) (hN:NIc lt p n) (hd:lt (pa' p n) (pa' p (n - 1))=true):
  1<=(evT lt (kas_descPart n nrem p)).1/\(evT lt (kas_descPart n nrem p)).1<=nrem/\(evT lt (kas_descPart n nrem p)).2.Perm p/\STo lt (evT lt (kas_descPart n nrem p)).2 (evT lt (kas_descPart n nrem p)).1:=by
 have hN':NIc lt p (n+1):=fun i j hij hj=>by
  rcases Nat.lt_or_eq_of_le (Nat.le_of_lt_succ hj) with hj | rfl
  ·exact hN i j hij hj
  ·rcases Nat.lt_or_eq_of_le hij with hi | rfl
   ·exact tr _ _ _ (as _ _ hd) (hN i (j - 1) (by omega) (by omega))
   ·exact lt_irr as _
 have hE':∀ i j,n+1 - (0+1)<=i->i < n+1->n+1 - (0+1)<=j->j < n+1->lt (pa' p i) (pa' p j)=false:=fun i j h1 h2 h3 h4=>by
  have:i=j:=by omega
  subst this
  exact lt_irr as _
 have D:=ev_desc tr as (nrem - (n+1)) p (n+1) 0 (by omega) (by omega) hN' hE'
 have e:evT lt (kas_descPart n nrem p)=evT lt (if (evT lt (kas_desc (nrem - (n+1)) p (n+1) 0)).2.2 > 0 then kas_tail3 (evT lt (kas_desc (nrem - (n+1)) p (n+1) 0)).2.1 nrem (kas_rev (evT lt (kas_desc (nrem - (n+1)) p (n+1) 0)).1 ((evT lt (kas_desc (nrem - (n+1)) p (n+1) 0)).2.1 - ((evT lt (kas_desc (nrem - (n+1)) p (n+1) 0)).2.2+1)) (evT lt (kas_desc (nrem - (n+1)) p (n+1) 0)).2.1) else kas_tail3 (evT lt (kas_desc (nrem - (n+1)) p (n+1) 0)).2.1 nrem (evT lt (kas_desc (nrem - (n+1)) p (n+1) 0)).1):=by
  unfold kas_descPart
  rw [evT_bind]
 generalize evT lt (kas_desc (nrem - (n+1)) p (n+1) 0)=r at D e
 obtain ⟨a1,a2,a3,a4,a5,a6⟩:=D
 have sz:r.1.size=p.size:=a1.size_eq
 rw [e]
 by_cases hq:r.2.2 > 0
 ·rw [if_pos hq]
  have hl:=rev_eq tr as (p:=r.1) (a:=r.2.1 - (r.2.2+1)) (n:=r.2.1) (by omega) a6
  obtain ⟨b1,b2,b3,b4⟩:=ev_tail3 tr as (n:=r.2.1) (nrem:=nrem) (p:=kas_rev r.1 (r.2.1 - (r.2.2+1)) r.2.1) (by omega) (by omega) (by unfold kas_rev; rw [mirror_size]; omega) (fun i j hij hj=>by rw [hl]; exact a5 i j hij hj)
  exact ⟨by omega,b2,(b3.trans (mirror_perm _ _ _ _)).trans a1,b4⟩
 ·rw [if_neg hq]
  obtain ⟨b1,b2,b3,b4⟩:=ev_tail3 tr as (n:=r.2.1) (nrem:=nrem) (p:=r.1) (by omega) (by omega) (by omega) a5
  exact ⟨by omega,b2,b3.trans a1,b4⟩
theorem ev_ascStop (p:Array Nat):∀ f n,1<=n->evT lt (kas_asc p f n) < n+f->lt (pa' p (evT lt (kas_asc p f n))) (pa' p (evT lt (kas_asc p f n) - 1))=true
 | 0,n,_,h=>absurd h (Nat.lt_irrefl _)
 | f+1,n,h1,h=>by
  have e:evT lt (kas_asc p (f+1) n)=evT lt (if lt (p.getD n 0) (p.getD (n - 1) 0)=true then KasT.ret n else kas_asc p f (n+1)):=rfl
  rw [e] at h ⊢
  by_cases c:lt (p.getD n 0) (p.getD (n - 1) 0)=true
  ·rw [if_pos c]
   exact c
  ·rw [if_neg c] at h ⊢
   exact ev_ascStop p f (n+1) (by omega) (by omega)
theorem ev_count {nrem:Nat} {p:Array Nat} (h1:1<=nrem) (hz:nrem<=p.size):
  1<=(evT lt (kas_count nrem p)).1/\(evT lt (kas_count nrem p)).1<=nrem/\(evT lt (kas_count nrem p)).2.Perm p/\STo lt (evT lt (kas_count nrem p)).2 (evT lt (kas_count nrem p)).1:=by
 have h0:STo lt p 1:=fun i j hij hj=>by
  have:i=j:=by omega
  subst this
  exact lt_irr as _
 obtain ⟨a,b,c⟩:=ev_asc tr as p (nrem - 1) 1 (Nat.le_refl _) h0
 have stop:=ev_ascStop tr as p (nrem - 1) 1 (Nat.le_refl _)
 have e:evT lt (kas_count nrem p)=evT lt (if (evT lt (kas_asc p (nrem - 1) 1) == nrem)=true then .ret (evT lt (kas_asc p (nrem - 1) 1),p) else if evT lt (kas_asc p (nrem - 1) 1) > 1 then .ask (p.getD 0 0) (p.getD (evT lt (kas_asc p (nrem - 1) 1) - 1) 0) fun c=>if c=true then .ret (evT lt (kas_asc p (nrem - 1) 1),p) else kas_descPart (evT lt (kas_asc p (nrem - 1) 1)) nrem (kas_rev p 0 (evT lt (kas_asc p (nrem - 1) 1))) else kas_descPart (evT lt (kas_asc p (nrem - 1) 1)) nrem p):=by
  unfold kas_count
  rw [evT_bind]
 generalize evT lt (kas_asc p (nrem - 1) 1)=n at a b c e stop
 rw [e]
 by_cases hn:(n == nrem)=true
 ·rw [if_pos hn]
  exact ⟨a,by show n<=nrem; omega,Array.Perm.refl _,c⟩
 ·rw [if_neg hn]
  have hn':n≠nrem:=by simpa using hn
  have st:=stop (by omega)
  by_cases h2:n > 1
  ·rw [if_pos h2]
   have e2:∀ k:Bool->KasT (Nat×Array Nat),evT lt (.ask (p.getD 0 0) (p.getD (n - 1) 0) k)=evT lt (k (lt (p.getD 0 0) (p.getD (n - 1) 0))):=fun _=>rfl
   rw [e2]
   by_cases h3:lt (p.getD 0 0) (p.getD (n - 1) 0)=true
   ·rw [if_pos h3]
    exact ⟨a,by show n<=nrem; omega,Array.Perm.refl _,c⟩
   ·rw [if_neg h3]
    have h3':lt (pa' p 0) (pa' p (n - 1))=false:=by simpa using h3
    have eq:∀ i j,0<=i->i < n->0<=j->j < n->lt (pa' p i) (pa' p j)=false:=fun i j _ hi _ hj=>by
     exact tr _ _ _ (c j (n - 1) (by omega) (by omega)) (tr _ _ _ h3' (c 0 i (by omega) hi))
    have hl:=rev_eq tr as (p:=p) (a:=0) (n:=n) (by omega) eq
    have g:pa' (kas_rev p 0 n) n=pa' p n:=by
     rw [pa_get,pa_get]
     unfold kas_rev
     rw [getElem?_mirror_all (by omega),if_neg (by omega)]
    obtain ⟨b1,b2,b3,b4⟩:=ev_descPart tr as (n:=n) (nrem:=nrem) (p:=kas_rev p 0 n) a (by omega) (by unfold kas_rev; rw [mirror_size]; omega) (fun i j hij hj=>by rw [hl]; exact eq i j (by omega) (by omega) (by omega) hj) (by rw [hl]; exact st)
    exact ⟨b1,b2,b3.trans (mirror_perm _ _ _ _),b4⟩
  ·rw [if_neg h2]
   have hn1:n=1:=by omega
   subst hn1
   exact ev_descPart tr as (n:=1) (nrem:=nrem) (p:=p) (Nat.le_refl _) (by omega) hz (fun i j hij hj=>by
    have:i=j:=by omega
    subst this
    exact lt_irr as _) st
theorem ev_place (p:Array Nat) (k:Nat) (hS:STo lt p k):∀ f l r,r - l<=f->l<=r->r<=k->(∀ i,i < l->lt (pa' p k) (pa' p i)=false)->(∀ i,r<=i->i < k->lt (pa' p k) (pa' p i)=true)->
  l<=evT lt (kas_place p k f l r)/\evT lt (kas_place p k f l r)<=k/\(∀ i,i < evT lt (kas_place p k f l r)->lt (pa' p k) (pa' p i)=false)/\(∀ i,evT lt (kas_place p k f l r)<=i->i < k->lt (pa' p k) (pa' p i)=true)
 | 0,l,r,hf,hl,hr,h1,h2=>by
  have:l=r:=by omega
  subst this
  exact ⟨Nat.le_refl _,hr,h1,h2⟩
 | f+1,l,r,hf,hl,hr,h1,h2=>by
  have e:evT lt (kas_place p k (f+1) l r)=evT lt (if l >= r then .ret l else .ask (p.getD k 0) (p.getD ((l+r) / 2) 0) fun c=>if c=true then kas_place p k f l ((l+r) / 2) else kas_place p k f ((l+r) / 2+1) r):=rfl
  rw [e]
  by_cases hge:l >= r
  ·rw [if_pos hge]
   have:l=r:=by omega
   subst this
   exact ⟨Nat.le_refl _,hr,h1,h2⟩
  ·rw [if_neg hge]
   have e2:∀ q:Bool->KasT Nat,evT lt (.ask (p.getD k 0) (p.getD ((l+r) / 2) 0) q)=evT lt (q (lt (p.getD k 0) (p.getD ((l+r) / 2) 0))):=fun _=>rfl
   rw [e2]
   by_cases c:lt (p.getD k 0) (p.getD ((l+r) / 2) 0)=true
   ·rw [if_pos c]
    refine ev_place p k hS f l ((l+r) / 2) (by omega) (by omega) (by omega) h1 fun i hi hk=>?_
    cases q:lt (pa' p k) (pa' p i) with
    | true=>rfl
    | false=>
     have:=tr _ _ _ (hS ((l+r) / 2) i hi hk) q
     rw [show lt (pa' p k) (pa' p ((l+r) / 2))=true from c] at this
     exact this.symm
   ·rw [if_neg c]
    have c':lt (pa' p k) (pa' p ((l+r) / 2))=false:=by simpa using c
    obtain ⟨b1,b2,b3,b4⟩:=ev_place p k hS f ((l+r) / 2+1) r (by omega) (by omega) hr (fun i hi=>by
     cases q:lt (pa' p k) (pa' p i) with
     | false=>rfl
     | true=>
      exfalso
      have s1:=hS i ((l+r) / 2) (by omega) (by omega)
      have s2:=as _ _ q
      have:lt (pa' p k) (pa' p i)=false:=by
       -- p[mid]<=p[k] (c'),p[i]<=p[mid]
       exact tr _ _ _ s1 c'
      rw [q] at this
      cases this) h2
    exact ⟨by omega,b2,b3,b4⟩
theorem ev_bin:∀ f (p:Array Nat) k,1<=k->k+f<=p.size->STo lt p k->(evT lt (kas_bin f p k)).Perm p/\STo lt (evT lt (kas_bin f p k)) (k+f)
 | 0,p,k,_,_,h=>⟨Array.Perm.refl _,h⟩
 | f+1,p,k,h1,hz,h=>by
  have e:evT lt (kas_bin (f+1) p k)=evT lt (kas_bin f (bubble p k (k - evT lt (kas_place p k k 0 k))) (k+1)):=by
   show evT lt ((kas_place p k k 0 k).bind fun l=>kas_bin f (bubble p k (k - l)) (k+1))=_
   rw [evT_bind]
  obtain ⟨b1,b2,b3,b4⟩:=ev_place tr as p k h k 0 k (by omega) (Nat.zero_le _) (Nat.le_refl _) (fun i hi=>absurd hi (Nat.not_lt_zero _)) (fun i hi hk=>absurd hk (by omega))
  generalize evT lt (kas_place p k k 0 k)=l at e b1 b2 b3 b4
  have g:∀ i,pa' (bubble p k (k - l)) i=if i=l then pa' p k else if l < i/\i<=k then pa' p (i - 1) else pa' p i:=fun i=>by
   rw [pa_get,pa_get,pa_get,pa_get,getElem?_bubble (by omega) _ (by omega)]
   have el:k - (k - l)=l:=by omega
   rw [el]
   split
   ·rfl
   ·split <;> rfl
  have hS:STo lt (bubble p k (k - l)) (k+1):=fun i j hij hj=>by
   rw [g i,g j]
   by_cases hj1:j=l
   ·by_cases hi1:i=l
    ·rw [if_pos hj1,if_pos hi1]; exact lt_irr as _
    ·rw [if_pos hj1,if_neg hi1,if_neg (by omega)]
     exact b3 i (by omega)
   ·rw [if_neg hj1]
    by_cases hi1:i=l
    ·rw [if_pos hi1,if_pos (by omega)]
     exact as _ _ (b4 (j - 1) (by omega) (by omega))
    ·rw [if_neg hi1]
     by_cases hj2:l < j/\j<=k
     ·rw [if_pos hj2]
      by_cases hi2:l < i/\i<=k
      ·rw [if_pos hi2]; exact h _ _ (by omega) (by omega)
      ·rw [if_neg hi2]; exact h _ _ (by omega) (by omega)
     ·rw [if_neg hj2,if_neg (by omega)]
      exact h _ _ hij (by omega)
  have ih:=ev_bin f (bubble p k (k - l)) (k+1) (by omega) (by rw [bubble_size]; omega) hS
  rw [e]
  exact ⟨ih.1.trans (bubble_perm _ _ _),by rw [show k+(f+1)=k+1+f by omega]; exact ih.2⟩
theorem ev_sort {n:Nat} (h1:1<=n):(evT lt (kas_sort n)).toList.Perm (List.range n)/\(evT lt (kas_sort n)).toList.Pairwise (fun i j=>lt j i=false):=by
 have e:evT lt (kas_sort n)=evT lt (if (evT lt (kas_count n (List.toArray (List.range n)))).1 < n then kas_bin (n - max (evT lt (kas_count n (List.toArray (List.range n)))).1 1) (evT lt (kas_count n (List.toArray (List.range n)))).2 (max (evT lt (kas_count n (List.toArray (List.range n)))).1 1) else .ret (evT lt (kas_count n (List.toArray (List.range n)))).2):=by
  unfold kas_sort
  rw [evT_bind]
 obtain ⟨a1,a2,a3,a4⟩:=ev_count tr as (nrem:=n) (p:=List.toArray (List.range n)) h1 (by simp)
 generalize evT lt (kas_count n (List.toArray (List.range n)))=r at e a1 a2 a3 a4
 have fin:∀ p:Array Nat,p.Perm (List.toArray (List.range n))->STo lt p n->p.toList.Perm (List.range n)/\p.toList.Pairwise (fun i j=>lt j i=false):=fun p hp hs=>by
  have hsz:p.size=n:=by rw [hp.size_eq]; simp
  refine ⟨by simpa using Array.perm_iff_toList_perm.mp hp,?_⟩
  rw [List.pairwise_iff_getElem]
  intro i j hi hj hij
  have hi':i < p.size:=by simpa using hi
  have hj':j < p.size:=by simpa using hj
  have:=hs i j (Nat.le_of_lt hij) (by omega)
  simpa [pa',Array.getD,hi',hj'] using this
 rw [e]
 by_cases hlt:r.1 < n
 ·rw [if_pos hlt]
  have hm:max r.1 1=r.1:=by omega
  rw [hm]
  obtain ⟨b1,b2⟩:=ev_bin tr as (n - r.1) r.2 r.1 a1 (by rw [a3.size_eq]; simp; omega) a4
  refine fin _ (b1.trans a3) ?_
  rw [show r.1+(n - r.1)=n by omega] at b2
  exact b2
 ·rw [if_neg hlt]
  have:r.1=n:=by omega
  exact fin _ a3 (this ▸ a4)
end
end L2
set_option Elab.async false
set_option linter.all false
set_option maxRecDepth 100000
namespace L2
open PySem PySem.Spec PyProof.Rows PySem.SeqAt PySem.W
def InP {α:Type} (n:Nat) (P:α->Prop):KasT α->Prop
 | .ret a=>P a
 | .ask i j k=>i < n/\j < n/\∀ b,InP n P (k b)
theorem InP.bind {α β:Type} {n:Nat} {P:α->Prop} {Q:β->Prop} {f:α->KasT β}:∀ {t:KasT α},InP n P t->(∀ a,P a->InP n Q (f a))->InP n Q (t.bind f)
 | .ret a,h,hf=>hf a h
 | .ask i j k,⟨h1,h2,h3⟩,hf=>⟨h1,h2,fun b=>InP.bind (h3 b) hf⟩
theorem InP.mono {α:Type} {n:Nat} {P Q:α->Prop} (hq:∀ a,P a->Q a):∀ {t:KasT α},InP n P t->InP n Q t
 | .ret a,h=>hq a h
 | .ask i j k,⟨h1,h2,h3⟩=>⟨h1,h2,fun b=>InP.mono hq (h3 b)⟩
def AllLt (n:Nat) (p:Array Nat):Prop:=∀ k,p.getD k 0 < n
theorem AllLt.of {n:Nat} {p q:Array Nat} (h:AllLt n p) (g:∀ k:Nat,q[k]?=none\/∃ k':Nat,q[k]?=p[k']?) (hn:0 < n):AllLt n q:=fun k=>by
 have e:∀ (r:Array Nat) k,r.getD k 0=(r[k]?).getD 0:=fun r k=>by simp [Array.getD_eq_getD_getElem?]
 rw [e]
 rcases g k with h1 | ⟨k',h1⟩
 ·rw [h1]; exact hn
 ·rw [h1,<- e]; exact h k'
theorem AllLt.perm {n:Nat} {p q:Array Nat} (h:AllLt n p) (hp:q.Perm p) (hn:0 < n):AllLt n q:=by
 refine AllLt.of h (fun k=>?_) hn
 cases e:q[k]? with
 | none=>exact .inl rfl
 | some v=>
  right
  have hm:v∈q.toList:=by
   have:q.toList[k]?=some v:=by simpa using e
   exact List.mem_of_getElem? this
  have hm':v∈p.toList:=(Array.perm_iff_toList_perm.mp hp).mem_iff.mp hm
  obtain ⟨k',hk⟩:=List.mem_iff_getElem?.mp hm'
  exact ⟨k',by rw [<- hk]; simp⟩
section
variable {n:Nat} (hn:0 < n)
include hn
theorem inp_asc {p:Array Nat} (h:AllLt n p):∀ f m,InP n (fun _=>True) (kas_asc p f m)
 | 0,m=>trivial
 | f+1,m=>⟨h _,h _,fun b=>by
  cases b with
  | true=>exact trivial
  | false=>exact inp_asc h f (m+1)⟩
theorem inp_desc:∀ f (p:Array Nat) m q,AllLt n p->InP n (fun r=>AllLt n r.1) (kas_desc f p m q)
 | 0,p,m,q,h=>h
 | f+1,p,m,q,h=>⟨h _,h _,fun b=>by
  cases b with
  | true=>
   show InP n _ (if q > 0 then kas_desc f (kas_rev p (m - (q+1)) m) (m+1) 0 else kas_desc f p (m+1) 0)
   by_cases hq:q > 0
   ·rw [if_pos hq]; exact inp_desc f _ _ _ (h.perm (mirror_perm _ _ _ _) hn)
   ·rw [if_neg hq]; exact inp_desc f _ _ _ h
  | false=>exact ⟨h _,h _,fun d=>by
    cases d with
    | true=>exact h
    | false=>exact inp_desc f _ _ _ h⟩⟩
theorem inp_tail3 {p:Array Nat} (h:AllLt n p) (m r:Nat):InP n (fun x=>AllLt n x.2) (kas_tail3 m r p):=by
 unfold kas_tail3
 exact InP.bind (inp_asc hn (h.perm (mirror_perm _ _ _ _) hn) _ _) fun a _=>h.perm (mirror_perm _ _ _ _) hn
theorem inp_descPart {p:Array Nat} (h:AllLt n p) (m r:Nat):InP n (fun x=>AllLt n x.2) (kas_descPart m r p):=by
 unfold kas_descPart
 refine InP.bind (inp_desc hn _ _ _ _ h) fun a ha=>?_
 by_cases hq:a.2.2 > 0
 ·rw [if_pos hq]; exact inp_tail3 hn (ha.perm (mirror_perm _ _ _ _) hn) _ _
 ·rw [if_neg hq]; exact inp_tail3 hn ha _ _
theorem inp_count {p:Array Nat} (h:AllLt n p) (r:Nat):InP n (fun x=>AllLt n x.2) (kas_count r p):=by
 unfold kas_count
 refine InP.bind (inp_asc hn h _ _) fun a _=>?_
 by_cases h1:(a == r)=true
 ·rw [if_pos h1]; exact h
 ·rw [if_neg h1]
  by_cases h2:a > 1
  ·rw [if_pos h2]
   exact ⟨h _,h _,fun b=>by
    cases b with
    | true=>exact h
    | false=>exact inp_descPart hn (h.perm (mirror_perm _ _ _ _) hn) _ _⟩
  ·rw [if_neg h2]; exact inp_descPart hn h _ _
theorem inp_place {p:Array Nat} (h:AllLt n p) (k:Nat):∀ f l r,InP n (fun _=>True) (kas_place p k f l r)
 | 0,l,r=>trivial
 | f+1,l,r=>by
  show InP n _ (if l >= r then .ret l else .ask (p.getD k 0) (p.getD ((l+r) / 2) 0) fun c=>if c=true then kas_place p k f l ((l+r) / 2) else kas_place p k f ((l+r) / 2+1) r)
  by_cases hl:l >= r
  ·rw [if_pos hl]; exact trivial
  ·rw [if_neg hl]
   exact ⟨h _,h _,fun b=>by
    cases b with
    | true=>exact inp_place h k f _ _
    | false=>exact inp_place h k f _ _⟩
theorem inp_bin:∀ f (p:Array Nat) k,AllLt n p->InP n (fun _=>True) (kas_bin f p k)
 | 0,p,k,_=>trivial
 | f+1,p,k,h=>InP.bind (inp_place hn h k _ _ _) fun l _=>inp_bin f _ _ (h.perm (bubble_perm _ _ _) hn)
theorem inp_sort:InP n (fun _=>True) (kas_sort n):=by
 have h0:AllLt n (List.toArray (List.range n)):=fun k=>by
  by_cases hk:k < n
  ·simp [Array.getD,hk]
  ·simp [Array.getD,hk,hn]
 unfold kas_sort
 refine InP.bind (inp_count hn h0 n) fun r hr=>?_
 by_cases h:r.1 < n
 ·rw [if_pos h]; exact inp_bin hn _ _ _ hr
 ·rw [if_neg h]; exact trivial
end
theorem kasWp_ev {α:Type} {n:Nat} {cmp:Nat->Nat->(Bool->Shared->Prop)->Shared->Prop} {lt:Nat->Nat->Bool} {s:Shared} (hc:∀ i j C,i < n->j < n->C (lt i j) s->cmp i j C s) {Q:α->Shared->Prop} {P:α->Prop}:
  ∀ {t:KasT α},InP n P t->Q (evT lt t) s->t.kasWp cmp Q s
 | .ret _,_,h=>h
 | .ask i j k,⟨h1,h2,h3⟩,h=>hc i j _ h1 h2 (kasWp_ev hc (h3 _) h)
def ltX (n:Nat) (lt:Nat->Nat->Bool) (i j:Nat):Bool:=if i < n then (if j < n then lt i j else true) else false
theorem ltX_tr {n:Nat} {lt:Nat->Nat->Bool} (tr:∀ i j k,i < n->j < n->k < n->lt j i=false->lt k j=false->lt k i=false) (i j k:Nat) (h1:ltX n lt j i=false) (h2:ltX n lt k j=false):ltX n lt k i=false:=by
 unfold ltX at*
 by_cases hi:i < n <;> by_cases hj:j < n <;> by_cases hk:k < n <;> simp only [hi,hj,hk,if_true,if_false] at h1 h2 ⊢ <;> first | exact tr i j k hi hj hk h1 h2 | exact absurd h2 (by decide) | exact absurd h1 (by decide) | rfl
theorem ltX_as {n:Nat} {lt:Nat->Nat->Bool} (as:∀ i j,i < n->j < n->lt i j=true->lt j i=false) (i j:Nat) (h:ltX n lt i j=true):ltX n lt j i=false:=by
 unfold ltX at*
 by_cases hi:i < n <;> by_cases hj:j < n <;> simp only [hi,hj,if_true,if_false] at h ⊢ <;> first | exact as i j hi hj h | exact absurd h (by decide) | rfl
theorem evT_congr {α:Type} {n:Nat} {lt lt':Nat->Nat->Bool} (h:∀ i j,i < n->j < n->lt i j=lt' i j) {P:α->Prop}:∀ {t:KasT α},InP n P t->evT lt t=evT lt' t
 | .ret _,_=>rfl
 | .ask i j k,⟨h1,h2,h3⟩=>by
  show evT lt (k (lt i j))=evT lt' (k (lt' i j))
  rw [h i j h1 h2]
  exact evT_congr h (h3 _)
theorem ev_sortX {n:Nat} {lt:Nat->Nat->Bool} (tr:∀ i j k,i < n->j < n->k < n->lt j i=false->lt k j=false->lt k i=false) (as:∀ i j,i < n->j < n->lt i j=true->lt j i=false) (h1:1<=n):
  (evT lt (kas_sort n)).toList.Perm (List.range n)/\(evT lt (kas_sort n)).toList.Pairwise (fun i j=>lt j i=false):=by
 have e:evT lt (kas_sort n)=evT (ltX n lt) (kas_sort n):=evT_congr (fun i j hi hj=>by unfold ltX; rw [if_pos hi,if_pos hj]) (inp_sort (by omega))
 obtain ⟨a,b⟩:=ev_sort (lt:=ltX n lt) (ltX_tr tr) (ltX_as as) h1
 rw [e]
 refine ⟨a,b.imp_of_mem fun {i j} hi hj h=>?_⟩
 have hi':i < n:=by simpa using a.mem_iff.mp hi
 have hj':j < n:=by simpa using a.mem_iff.mp hj
 unfold ltX at h
 rw [if_pos hj',if_pos hi'] at h
 exact h
section
variable {prog:Program} {w:World} {A:Around} {E:Value->Shared->Prop} {s:Shared}
theorem list_sort_treeT {a:Addr} {vs:List Value} {n:Nat} {κ:SortKind} {P:PySem.Fin->Shared->Prop} (lt:Nat->Nat->Bool) (tr:∀ i j k,i < vs.length->j < vs.length->k < vs.length->lt j i=false->lt k j=false->lt k i=false) (as:∀ i j,i < vs.length->j < vs.length->lt i j=true->lt j i=false)
  (ho:s.heap.get? a=some (seqObj "list" vs.toArray n)) (h64:vs.length < 64)
  (hk:∀ s':Shared,(∀ b o,b≠a->s.heap.get? b=some o->s'.heap.get? b=some o)->∀ Q:SortKind->Shared->Prop,Q κ s'->wpAny (model prog w) A (keyKind' vs.toArray) Q E s')
  (hlt:∀ s':Shared,(∀ b o,b≠a->s.heap.get? b=some o->s'.heap.get? b=some o)->∀ i j,i < vs.length->j < vs.length->∀ Q:Bool->Shared->Prop,Q (lt i j) s'->wpAny (model prog w) A (keyLt' κ (vs.getD i Value.none) (vs.getD j Value.none)) Q (fun _ _=>False) s')
  (h:∀ p:List Nat,p.Perm (List.range vs.length)->p.Pairwise (fun i j=>lt j i=false)->P (.done (.ret .none)) { s with heap:=sortedHeap s.heap a vs (p.map fun i=>vs.getD i Value.none).toArray }):
  wpAny (model prog w) A (Builtin.«list.sort» ⟨[.ref a],[]⟩) P E s:=by
 rw [list_sort_plain]
 have ha:a < s.heap.objs.size:=Heap.lt_size ho
 refine wpAny_bind (listItems_at ho rfl ?_)
 refine wpAny_bind (listUpdate_at ho rfl ?_ (by rw [List.size_toArray,sizeLine_eq]; omega) (Nat.zero_le _))
 obtain ⟨e1,ho1⟩:∃ e1,(s.heap.update a (Obj.mapSeq fun _=>#[])).get? a=some (seqObj "list" #[] e1):=⟨_,get?_update_seq ho (fun _=>#[])⟩
 refine wpAny_bind (seqEpoch_at ho1 rfl ?_)
 refine wpAny_bind (wpAny_newTuple ?_ (by show vs.length<=_; rw [sizeLine_eq]; omega))
 refine wpAny_bind (wpAny_newList ?_ (Nat.zero_le _))
 refine wpAny_holding ?_
 have ho6:(((s.heap.update a (Obj.mapSeq fun _=>#[])).push (seqObj "tuple" vs.toArray 0)).push (seqObj "list" #[] 0)).get? a=some (seqObj "list" #[] e1):=by
  rw [Heap.get?_push_ne _ _ _ (by rw [size_push',Heap.size_update]; exact Nat.ne_of_lt (Nat.lt_succ_of_lt ha)),Heap.get?_push_ne _ _ _ (by rw [Heap.size_update]; exact Nat.ne_of_lt ha)]
  exact ho1
 have kept:∀ b o,b≠a->s.heap.get? b=some o->(((s.heap.update a (Obj.mapSeq fun _=>#[])).push (seqObj "tuple" vs.toArray 0)).push (seqObj "list" #[] 0)).get? b=some o:=fun b o hb e=>
  Heap.get?_push_of_some _ (Heap.get?_push_of_some _ ((Heap.get?_update_other s.heap (Obj.mapSeq fun _=>#[]) (Ne.symm hb)).trans e))
 show wpAny (model prog w) A _ P E { s with heap:=((s.heap.update a (Obj.mapSeq fun _=>#[])).push (seqObj "tuple" vs.toArray 0)).push (seqObj "list" #[] 0) }
 dsimp only
 have hsz:vs.toArray.size=vs.length:=by simp
 by_cases h2:vs.toArray.size < 2
 ·rw [if_pos h2,if_pos h2]
  refine wpAny_bind (wpAny_pure ?_)
  rw [StateT.run_pure]
  refine wpAny_bind (wpAny_pure ?_)
  dsimp only
  refine wpAny_bind (seqEpoch_at ho6 rfl ?_)
  refine wpAny_bind (listUpdate_at ho6 rfl ?_ (Nat.zero_le _) (hsz2:=by rw [Array.size_map]; show (pairsOf vs).size<=_; rw [pairsOf_size,sizeLine_eq]; omega))
  simp only [bne_self_eq_false,Bool.false_eq_true,if_false]
  have e:(vs.toArray.zip vs.toArray).map (·.2)=((List.range vs.length).map fun i=>vs.getD i Value.none).toArray:=by
   apply Array.toList_inj.mp
   apply List.ext_getElem?
   intro i
   by_cases hi:i < vs.length
   ·simp [hi]
   ·simp [hi]
  have key:=h (List.range vs.length) (List.Perm.refl _) (by
   rw [List.pairwise_iff_getElem]
   intro i j hi hj hij
   simp only [List.length_range] at hi hj
   omega)
  rw [<- e] at key
  exact wpAny_pure key
 ·rw [if_neg h2,if_neg h2]
  have h2':2<=vs.length:=by omega
  refine wpAny_bind (hk _ kept _ ?_)
  refine wpAny_bind (wpAny_mono (kat_run (ks:=vs) (vs:=vs) (E:=E) (Q:=fun st' s'=>s'={ s with heap:=((s.heap.update a (Obj.mapSeq fun _=>#[])).push (seqObj "tuple" vs.toArray 0)).push (seqObj "list" #[] 0) }/\arrOf st'=(evT lt (kas_sort vs.length)).map (kas_item (vs.toArray.zip vs.toArray))/\failedOf st'=none)
   (G:=fun p s'=>p=evT lt (kas_sort vs.length)/\s'={ s with heap:=((s.heap.update a (Obj.mapSeq fun _=>#[])).push (seqObj "tuple" vs.toArray 0)).push (seqObj "list" #[] 0) }) rfl h2' h64 (fun p st' s' _ a2 a3 a4=>⟨a4.2,by rw [a2,a4.1],a3⟩)
   (kasWp_ev (n:=vs.length) (lt:=lt) (fun i j C hi hj hC=>hlt _ kept i j hi hj C hC) (inp_sort (by omega)) ⟨rfl,rfl⟩)) ?_ fun _ _ e=>e)
  rintro ⟨⟨⟩,st'⟩ s' ⟨rfl,har,hf⟩
  dsimp only
  have hout:=kat_snds (ks:=vs) (vs:=vs) rfl har
  obtain ⟨c1,c2⟩:=ev_sortX tr as (by omega)
  refine wpAny_bind (seqEpoch_at ho6 rfl ?_)
  refine wpAny_bind (listUpdate_at ho6 rfl ?_ (Nat.zero_le _) (hsz2:=by
   have:(Array.map (fun x=>x.snd) (arrOf st')).size<=sizeLine:=by
    rw [hout,List.size_toArray,List.length_map,c1.length_eq,List.length_range,sizeLine_eq]
    omega
   first | exact this | exact Nat.le_succ_of_le this))
  rw [hf]
  simp only [bne_self_eq_false,Bool.false_eq_true,if_false]
  have key:=h _ c1 c2
  rw [<- hout] at key
  exact wpAny_pure key
end
end L2
set_option Elab.async false
set_option linter.all false
set_option maxRecDepth 100000
namespace L2
open PySem PySem.Spec PyProof.Rows PySem.SeqAt PySem.W
def kD:Key->D
 | .inl i=>.int i
 | .inr x=>.str x
def tD (ks:List Key):D:=.tup (ks.map kD)
section
variable {prog:Program} {w:World} {A:Around} {E:Value->Shared->Prop} {s:Shared}
theorem list_sort_treeT0 {a:Addr} {n:Nat} {P:PySem.Fin->Shared->Prop} (ho:s.heap.get? a=some (seqObj "list" ([]:List Value).toArray n)) (h:P (.done (.ret .none)) { s with heap:=sortedHeap s.heap a [] #[] }):wpAny (model prog w) A (Builtin.«list.sort» ⟨[.ref a],[]⟩) P E s:=by
 rw [list_sort_plain]
 refine wpAny_bind (listItems_at ho rfl ?_)
 refine wpAny_bind (listUpdate_at ho rfl ?_ (Nat.zero_le _) (Nat.zero_le _))
 have ha:a < s.heap.objs.size:=Heap.lt_size ho
 obtain ⟨e1,ho1⟩:∃ e1,(s.heap.update a (Obj.mapSeq fun _=>#[])).get? a=some (seqObj "list" #[] e1):=⟨_,get?_update_seq ho (fun _=>#[])⟩
 refine wpAny_bind (seqEpoch_at ho1 rfl ?_)
 refine wpAny_bind (wpAny_newTuple ?_ (Nat.zero_le _))
 refine wpAny_bind (wpAny_newList ?_ (Nat.zero_le _))
 refine wpAny_holding ?_
 have ho6:(((s.heap.update a (Obj.mapSeq fun _=>#[])).push (seqObj "tuple" ([]:List Value).toArray 0)).push (seqObj "list" #[] 0)).get? a=some (seqObj "list" #[] e1):=by
  rw [Heap.get?_push_ne _ _ _ (by rw [size_push',Heap.size_update]; exact Nat.ne_of_lt (Nat.lt_succ_of_lt ha)),Heap.get?_push_ne _ _ _ (by rw [Heap.size_update]; exact Nat.ne_of_lt ha)]
  exact ho1
 show wpAny (model prog w) A _ P E { s with heap:=((s.heap.update a (Obj.mapSeq fun _=>#[])).push (seqObj "tuple" ([]:List Value).toArray 0)).push (seqObj "list" #[] 0) }
 dsimp only
 rw [if_pos (by decide),if_pos (by decide)]
 refine wpAny_bind (wpAny_pure ?_)
 rw [StateT.run_pure]
 refine wpAny_bind (wpAny_pure ?_)
 dsimp only
 refine wpAny_bind (seqEpoch_at ho6 rfl ?_)
 have e0:(Array.map (fun x=>x.snd) (arrOf (SortSt.mk' general' ((#[]:Array Value).zip (#[]:Array Value)) #[] 7 none)))=(#[]:Array Value):=by
  show Array.map (fun x=>x.snd) ((#[]:Array Value).zip (#[]:Array Value))=#[]
  simp
 refine wpAny_bind (listUpdate_at ho6 rfl ?_ (Nat.zero_le _) (hsz2:=by
  have e1:(Array.map (fun x=>x.snd) (arrOf (SortSt.mk' general' ((#[]:Array Value).zip (#[]:Array Value)) #[] 7 none))).size=0:=by rw [e0]; rfl
  first | exact Nat.le_trans (Nat.le_of_eq e1) (Nat.zero_le _) | (show _<=_; omega)))
 simp only [bne_self_eq_false,Bool.false_eq_true,if_false]
 refine wpAny_pure ?_
 show P (.done (.ret .none)) { s with heap:=(((s.heap.update a (Obj.mapSeq fun x=>#[])).push (seqObj "tuple" ([]:List Value).toArray 0)).push (seqObj "list" #[] 0)).update a (Obj.mapSeq fun x=>Array.map (fun x=>x.snd) (arrOf (SortSt.mk' general' ((#[]:Array Value).zip (#[]:Array Value)) #[] 7 none))) }
 rw [e0]
 exact h
theorem sorted_go {v:Value} {Q:Value->Shared->Prop} {κ:SortKind} (Col:List Value->Shared->Prop) (hc:wpAny (model prog w) A.in1 (collect v) Col E s)
  (h:∀ vs s1,Col vs s1->vs.length < 64/\∃ lt:Nat->Nat->Bool,(∀ i j k,i < vs.length->j < vs.length->k < vs.length->lt j i=false->lt k j=false->lt k i=false)/\(∀ i j,i < vs.length->j < vs.length->lt i j=true->lt j i=false)/\
   (∀ (A':Around) (s':Shared),(∀ b o,s1.heap.get? b=some o->s'.heap.get? b=some o)->0 < vs.length->∀ (Q:SortKind->Shared->Prop) E',Q κ s'->wpAny (model prog w) A' (keyKind' vs.toArray) Q E' s')/\
   (∀ (s':Shared),(∀ b o,s1.heap.get? b=some o->s'.heap.get? b=some o)->∀ i j,i < vs.length->j < vs.length->∀ Q:Bool->Shared->Prop,Q (lt i j) s'->wpAny (model prog w) A.in1.in1 (keyLt' κ (vs.getD i Value.none) (vs.getD j Value.none)) Q (fun _ _=>False) s')/\
   ∀ (p:List Nat) (h':Heap) (e:Nat),p.Perm (List.range vs.length)->p.Pairwise (fun i j=>lt j i=false)->(∀ b o,s1.heap.get? b=some o->h'.get? b=some o)->h'.get? s1.heap.objs.size=some (seqObj "list" (p.map fun i=>vs.getD i Value.none).toArray e)->Q (.ref s1.heap.objs.size) { s1 with heap:=h' }):
  wpAny (model prog w) A (call (.builtin "sorted") [v]) Q E s:=by
 refine Calls.call_function_entry kind_sorted plain_sorted entry_sorted (args_sorted1 _) ?_
 unfold Builtin.«sorted»
 refine wpAny_bind (m:=checkCount "sorted" 1 1 _) (wpAny_pure ?_)
 refine wpAny_bind (wpAny_mono hc (fun vs s1 c=>?_) fun _ _ x=>x)
 obtain ⟨h64,lt,tr,as,hk,hlt,fin⟩:=h vs s1 c
 refine wpAny_bind (wpAny_newList ?_ (by rw [sizeLine_eq]; omega))
 have hoL:(s1.heap.push (seqObj "list" vs.toArray 0)).get? s1.heap.objs.size=some (seqObj "list" vs.toArray 0):=Heap.get?_push_size _ rfl
 have keep:∀ b o,s1.heap.get? b=some o->b≠s1.heap.objs.size/\(s1.heap.push (seqObj "list" vs.toArray 0)).get? b=some o:=fun b o q=>⟨Nat.ne_of_lt (Heap.lt_size q),Heap.get?_push_of_some _ q⟩
 show wpAny _ _ _ _ _ { s1 with heap:=s1.heap.push (seqObj "list" vs.toArray 0) }
 refine wpAny_bind (wpAny_holding (wpAny_call_entry slot_list_sort ⟨_,hoL,rfl⟩ entry_list_sort ?_ (args_list_sort _)))
 have tree:wpAny (model prog w) A.in1.in1 (Builtin.«list.sort» ⟨[.ref s1.heap.objs.size],[]⟩) (fun r s'=>∃ p:List Nat,r=.done (.ret .none)/\p.Perm (List.range vs.length)/\p.Pairwise (fun i j=>lt j i=false)/\s'={ s1 with heap:=sortedHeap (s1.heap.push (seqObj "list" vs.toArray 0)) s1.heap.objs.size vs (p.map fun i=>vs.getD i Value.none).toArray }) E { s1 with heap:=s1.heap.push (seqObj "list" vs.toArray 0) }:=by
  by_cases h0:0 < vs.length
  ·exact list_sort_treeT (κ:=κ) lt tr as hoL h64 (fun s' kp Q hq=>hk _ s' (fun b o e=>kp b o (keep b o e).1 (keep b o e).2) h0 Q _ hq) (fun s' kp i j hi hj Q hq=>hlt s' (fun b o e=>kp b o (keep b o e).1 (keep b o e).2) i j hi hj Q hq) fun p a1 a2=>⟨p,rfl,a1,a2,rfl⟩
  ·have e0:vs=[]:=List.length_eq_zero_iff.mp (by omega)
   subst e0
   exact list_sort_treeT0 hoL ⟨[],rfl,List.Perm.refl _,List.Pairwise.nil,rfl⟩
 refine wpAny_mono tree (fun r s' hr=>?_) fun _ _ x=>x
 obtain ⟨p,rfl,a1,a2,rfl⟩:=hr
 refine ⟨_,rfl,wpAny_pure ⟨_,rfl,?_⟩⟩
 obtain ⟨e,he⟩:=sortedHeap_at (h:=s1.heap.push (seqObj "list" vs.toArray 0)) (out:=(p.map fun i=>vs.getD i Value.none).toArray) hoL
 exact fin p _ e a1 a2 (fun b o q=>(sortedHeap_old (keep b o q).1 (by rw [size_push']; exact Nat.lt_succ_of_lt (Heap.lt_size q))).trans (keep b o q).2) he
end
end L2
set_option Elab.async false
set_option linter.all false
set_option maxRecDepth 100000
namespace L2
open PySem PySem.Spec PyProof.Rows PySem.SeqAt PySem.W
section
variable {X:Cx} {pins:List (Addr×Obj)} {σ:St} {H:Hp} {s:Shared} {h':Heap}
end
section
variable {X:Cx}
theorem getD_perm {α:Type} {xs:List α} {d:α} {p:List Nat} (h:p.Perm (List.range xs.length)):(p.map fun i=>xs.getD i d).Perm xs:=by
 have e:(List.range xs.length).map (fun i=>xs.getD i d)=xs:=by
  apply List.ext_getElem?
  intro i
  by_cases hi:i < xs.length
  ·simp [hi]
  ·simp [hi]
 have:=h.map fun i=>xs.getD i d
 rwa [e] at this
theorem vals_getD {vs:List V} {us:List Value} (r:Vals vs us):∀ {p:List Nat},(∀ i∈p,i < vs.length)->Vals (p.map fun i=>vs.getD i .non) (p.map fun i=>us.getD i Value.none)
 | [],_=>.nil
 | i :: p,h=>by
  have hi:=h i List.mem_cons_self
  have g:vs[i]?=some (vs.getD i .non):=by simp [hi]
  obtain ⟨u,hu,hr⟩:=r.get g
  have e:us.getD i Value.none=u:=by simp [List.getD_eq_getElem?_getD,hu]
  refine .cons ?_ (vals_getD r fun j hj=>h j (List.mem_cons_of_mem _ hj))
  show RelV (vs.getD i .non) (us.getD i Value.none)
  rw [e]
  exact hr
end
end L2
set_option Elab.async false
set_option linter.all false
set_option maxRecDepth 100000
namespace L2
open PySem PySem.Spec PyProof.Rows
section
variable {prog:Program} {w:World} {K:Type} [DecidableEq K] {knd:KeyKind prog w K} {A:Around} {R:Result->Shared->Prop}
end
end L2
set_option Elab.async false
set_option linter.all false
set_option maxRecDepth 100000
namespace L2
open PySem PySem.Spec PyProof.Rows
section
variable {prog:Program} {w:World} {K:Type} [DecidableEq K] {A:Around} {E:Value->Shared->Prop} {s:Shared}
end
section
variable {prog:Program} {w:World} {K:Type} [DecidableEq K]
end
end L2
set_option Elab.async false
set_option linter.all false
set_option maxRecDepth 100000
namespace L2
open PySem PySem.Spec PyProof.Rows
section
variable {prog:Program} {w:World} {A:Around} {E:Value->Shared->Prop} {s:Shared} {v dc it:Addr} {oc:Obj} {es:Array DictEntry} {ep:Nat}
end
end L2
set_option Elab.async false
set_option linter.all false
set_option maxRecDepth 100000
namespace L2
open PySem PySem.Spec PyProof.Rows
namespace FR
end FR
section
variable {prog:Program} {w:World} {A:Around} {E:Value->Shared->Prop} {s:Shared} {it l:Addr} {items:Array Value}
end
end L2
set_option Elab.async false
set_option linter.all false
set_option maxRecDepth 100000
namespace L2
open PySem PySem.Spec PyProof.Rows
section
variable {prog:Program} {w:World} {A:Around} {E:Value->Shared->Prop} {s:Shared} {v dc it:Addr} {oc:Obj} {es:Array DictEntry} {ep:Nat} {ok ov:Value}
theorem itemIter_ty {i n:Nat} (hI:IsItemIter s.heap it dc i n ep ok ov):s.TypeIs (.ref it) "dict_itemiterator" := ⟨_,hI,rfl⟩
theorem iter_items {Q:Value->Shared->Prop} (hv:s.heap.IsItemsView v dc) (h1:s.heap.get? dc=some oc) (h2:oc.data=.dict es ep)
  (q:Q (.ref s.heap.objs.size) { s with heap:=s.heap.push { cls:=.type "dict_itemiterator",data:=.fields #[.none,.bool false,.ref dc,.int 0 0,.int es.size 0,.int ep 0,.none,.none] } }):wpAny (model prog w) A (pyIter (.ref v)) Q E s:=by
 obtain ⟨ov,g1,g2,g3⟩:=id hv
 refine wpAny_pyIter_slot hv.typeIs F.slot_dict_items_iter (wpAny_call_entry F.slot_dict_items_iter hv.typeIs F.entry_dict_items_iter (show wpAny _ _ (Builtin.«dict_items.__iter__» _) _ _ _ from ?_) (F.args_dict_items_iter_1 _))
 unfold Builtin.«dict_items.__iter__»
 refine wpAny_bind (wpAny_pure (wpAny_bind ?_)); unfold Builtin.Dict_items.dictOf
 refine wpAny_bind (wpAny_field g1 g3 (x:=.ref dc) rfl (wpAny_pure (wpAny_bind ?_))); unfold Builtin.Dict_items.newIterator
 refine wpAny_bind (wpAny_dictEntries h1 h2 (wpAny_bind (wpAny_dictEpoch h1 h2 ?_)))
 rw [show Builtin.Dict_items.ownsTuple "dict_itemiterator" = true by decide]; simp only [if_true,Builtin.Dict_items.ownedTupleFields,List.cons_append,List.nil_append,Bool.false_eq_true,if_false]
 refine wpAny_newObj_type (wpAny_pure ⟨_,rfl,"dict_itemiterator",_,⟨_,Heap.get?_push_size _ rfl,rfl⟩,F.slot_dict_itemiterator_next.lookup,(by simpa [rawInt] using q)⟩)
theorem next_item {i:Nat} {Q:Option Value->Shared->Prop} (hI:IsItemIter s.heap it dc i es.size ep ok ov) (h1:s.heap.get? dc=some oc) (h2:oc.data=.dict es ep) (hlt:i < es.size)
  (q:∀ h',IsItemIterOut h' it dc (i+1) es.size ep es[i].key es[i].val s.heap.objs.size->h'.get? s.heap.objs.size=some { cls:=.type "tuple",data:=.seq #[es[i].key,es[i].val] }->
   (∀ (b:Addr) (o:Obj),b≠it->s.heap.get? b=some o->h'.get? b=some o)->Q (some (.ref s.heap.objs.size)) { s with heap:=h' }):wpAny (model prog w) A (pyNext (.ref it)) Q E s:=by
 have hT:=itemIter_ty hI
 unfold pyNext
 refine wpAny_bind (wpAny_attempt (wpAny_callSpecial?_slot (name:=Str.ofString "__next__") hT F.slot_dict_itemiterator_next (wpAny_call_entry F.slot_dict_itemiterator_next hT F.entry_dict_itemiterator_next ?_ (F.args_dict_itemiterator_next_1 _))))
 refine wpAny_bind (wpAny_pure (wpAny_bind (wpAny_bind ?_)))
 first | refine wpAny_bind (wpAny_typeNameOfWhole_itemiter hT (wpAny_pure ?_)) | refine wpAny_bind (wpAny_typeNameOf_itemiter hT (wpAny_pure ?_))
 refine wpAny_bind (wpAny_fieldsOf hI rfl ?_)
 rw [show Builtin.Dict_items.ownsTuple "dict_itemiterator" = true by decide]; simp only [if_true]
 show wpAny _ _ (if (Value.ref dc == Value.none)=true then _ else _) _ _ s
 rw [if_neg (show ¬ ((Value.ref dc == Value.none)=true) from Bool.false_ne_true)]
 refine wpAny_bind (wpAny_pure (wpAny_bind (wpAny_dictEntries h1 h2 ?_)))
 rw [if_neg (show ¬ _ by simp)]
 refine wpAny_bind (wpAny_pure (wpAny_bind (wpAny_dictEpoch h1 h2 ?_)))
 rw [if_neg (show ¬ _ by simp)]
 refine wpAny_pure ?_
 simp only [show ¬ ((i:Int) < 0) by omega,if_false,Int.toNat_natCast,Array.getElem?_eq_getElem hlt]
 refine wpAny_bind ?_
 first | refine wpAny_bind (wpAny_typeNameOfWhole_itemiter hT (wpAny_pure ?_)) | refine wpAny_bind (wpAny_typeNameOf_itemiter hT (wpAny_pure ?_))
 refine wpAny_bind (wpAny_isOneOf_itemiter hT (show wpAny _ _ (setField (.ref it) 3 (rawInt ((i:Int)+1)) >>= _) _ _ s from wpAny_bind (wpAny_setField hI rfl (by simp) ?_)))
 have hI':IsItemIter (s.heap.update it (Obj.mapFields (·.setIfInBounds 3 (rawInt ((i:Int)+1))))) it dc (i+1) es.size ep ok ov:=by
  show (s.heap.update it _).get? it=_
  rw [Heap.get?_update_self _ hI (Obj.isFreed_of_fields (Obj.data_mapFields rfl _))]
  simp [Obj.mapFields,rawInt]
 have kp:∀ (b:Addr) (o:Obj),b≠it->s.heap.get? b=some o->(s.heap.update it (Obj.mapFields (·.setIfInBounds 3 (rawInt ((i:Int)+1))))).get? b=some o:=fun b o hb e=>by
  rw [(Heap.SameBut.update ..).2 b hb]; exact e
 have sz:(s.heap.update it (Obj.mapFields (·.setIfInBounds 3 (rawInt ((i:Int)+1))))).objs.size=s.heap.objs.size:=(Heap.SameBut.update ..).1
 generalize s.heap.update it (Obj.mapFields (·.setIfInBounds 3 (rawInt ((i:Int)+1))))=hA at hI' kp sz
 have ty':({ s with heap:=hA }:Shared).TypeIs (.ref it) "dict_itemiterator" := itemIter_ty hI'
 refine wpAny_bind (wpAny_holding (wpAny_bind (wpAny_isOneOf_itemiter ty' (wpAny_bind (wpAny_isOneOf_itemiter ty' ?_)))))
 show wpAny _ _ (Builtin.Dict_items.pairFromOwner (.ref it) 6 es[i].key es[i].val) _ _ _
 unfold Builtin.Dict_items.pairFromOwner
 simp only [newTuple]
 refine wpAny_bind (wpAny_newObj_type ?_ (by size_fits))
 have hI2:IsItemIter (hA.push { cls:=.type "tuple",data:=.seq #[es[i].key,es[i].val] }) it dc (i+1) es.size ep ok ov:=Heap.get?_push_of_some _ hI'
 have gt:(hA.push { cls:=.type "tuple",data:=.seq #[es[i].key,es[i].val] }).get? hA.objs.size=some { cls:=.type "tuple",data:=.seq #[es[i].key,es[i].val] }:=Heap.get?_push_size _ rfl
 have kp2:∀ (b:Addr) (o:Obj),b≠it->s.heap.get? b=some o->(hA.push { cls:=.type "tuple",data:=.seq #[es[i].key,es[i].val] }).get? b=some o:=fun b o hb e=>Heap.get?_push_of_some _ (kp b o hb e)
 rw [sz] at gt
 have ne:s.heap.objs.size≠it:=Nat.ne_of_gt (Heap.lt_size hI)
 show wpAny _ _ _ _ _ { s with heap:=hA.push { cls:=.type "tuple",data:=.seq #[es[i].key,es[i].val] } }
 generalize hA.push { cls:=.type "tuple",data:=.seq #[es[i].key,es[i].val] }=hB at hI2 gt kp2
 have eA:(Value.ref ({ s with heap:=hA }:Shared).heap.objs.size)=.ref s.heap.objs.size:=by rw [<- sz]
 simp only [eA]
 unfold Builtin.Dict_items.ownedTupleIsFree
 refine wpAny_bind (wpAny_bind (wpAny_field (s:={ s with heap:=hB }) hI2 rfl (x:=.none) rfl (wpAny_pure ?_)))
 simp only [if_true]
 refine wpAny_bind (wpAny_field (s:={ s with heap:=hB }) hI2 rfl (x:=ok) rfl (wpAny_bind (wpAny_field (s:={ s with heap:=hB }) hI2 rfl (x:=ov) rfl ?_)))
 have stp:∀ {h1:Heap} {fs:Array Value} {j:Nat} {x:Value} {α:Type} {f:Unit->Sem α} {R:α->Shared->Prop} {E':Value->Shared->Prop},h1.get? it=some { cls:=.type "dict_itemiterator",data:=.fields fs }->j < fs.size->
   (∀ h2:Heap,h2.get? it=some { cls:=.type "dict_itemiterator",data:=.fields (fs.setIfInBounds j x) }->(∀ (b:Addr),b≠it->h2.get? b=h1.get? b)->wpAny (model prog w) A.in1 (f ()) R E' { s with heap:=h2 })->
   wpAny (model prog w) A.in1 (setField (.ref it) j x >>= f) R E' { s with heap:=h1 }:=fun {h1 fs j x α f R E'} g hj k=>by
  refine wpAny_bind (wpAny_setField (s:={ s with heap:=h1 }) g rfl hj ?_)
  refine k _ ?_ fun b hb=>(Heap.SameBut.update ..).2 b hb
  rw [Heap.get?_update_self _ g (Obj.isFreed_of_fields (Obj.data_mapFields rfl _))]
  simp [Obj.mapFields]
 refine stp hI2 (by simp) fun h3 g3 s3=>?_
 refine stp g3 (by simp) fun h4 g4 s4=>?_
 refine stp g4 (by simp) fun h5 g5 s5=>?_
 refine stp g5 (by simp) fun h6 g6 s6=>?_
 refine wpAny_bind (wpAny_letGo (wpAny_pure (wpAny_pure ⟨_,rfl,wpAny_pure (q h6 (by rw [<- sz]; show h6.get? it=_; rw [g6]; simp) ?_ fun b o hb e=>?_)⟩)))
 ·rw [s6 _ ne,s5 _ ne,s4 _ ne,s3 _ ne]; exact gt
 ·rw [s6 _ hb,s5 _ hb,s4 _ hb,s3 _ hb]; exact kp2 b o hb e
theorem end_items {i:Nat} {Q:Option Value->Shared->Prop} (hh:A.handled=none) (hI:IsItemIter s.heap it dc i es.size ep ok ov) (h1:s.heap.get? dc=some oc) (h2:oc.data=.dict es ep) (hge:es.size<=i)
  (q:∀ h',Heap.ExtBut it s.heap h'->Q none { s with heap:=h' }):wpAny (model prog w) A (pyNext (.ref it)) Q E s:=by
 have hT:=itemIter_ty hI
 unfold pyNext
 refine wpAny_bind (wpAny_attempt (wpAny_callSpecial?_slot (name:=Str.ofString "__next__") hT F.slot_dict_itemiterator_next (wpAny_call_entry F.slot_dict_itemiterator_next hT F.entry_dict_itemiterator_next ?_ (F.args_dict_itemiterator_next_1 _))))
 refine wpAny_bind (wpAny_pure (wpAny_bind (wpAny_bind ?_)))
 first | refine wpAny_bind (wpAny_typeNameOfWhole_itemiter hT (wpAny_pure ?_)) | refine wpAny_bind (wpAny_typeNameOf_itemiter hT (wpAny_pure ?_))
 refine wpAny_bind (wpAny_fieldsOf hI rfl ?_)
 rw [show Builtin.Dict_items.ownsTuple "dict_itemiterator" = true by decide]; simp only [if_true]
 show wpAny _ _ (if (Value.ref dc == Value.none)=true then _ else _) _ _ s
 rw [if_neg (show ¬ ((Value.ref dc == Value.none)=true) from Bool.false_ne_true)]
 refine wpAny_bind (wpAny_pure (wpAny_bind (wpAny_dictEntries h1 h2 ?_)))
 rw [if_neg (show ¬ _ by simp)]
 refine wpAny_bind (wpAny_pure (wpAny_bind (wpAny_dictEpoch h1 h2 ?_)))
 rw [if_neg (show ¬ _ by simp)]
 refine wpAny_pure ?_
 simp only [show ¬ ((i:Int) < 0) by omega,if_false,Int.toNat_natCast,Array.getElem?_eq_none hge]
 refine wpAny_bind ?_
 first | refine wpAny_bind (wpAny_typeNameOfWhole_itemiter hT (wpAny_pure ?_)) | refine wpAny_bind (wpAny_typeNameOf_itemiter hT (wpAny_pure ?_))
 refine (show wpAny _ _ (setField (.ref it) 2 .none >>= _) _ _ s from wpAny_bind (wpAny_setField hI rfl (by simp) ?_))
 refine (show wpAny _ _ (newExc (.type "StopIteration") [] >>= _) _ _ _ from wpAny_bind ?_); simp only [newExc,newTuple]
 refine wpAny_bind (wpAny_newObj_type (wpAny_bind (m:=firstArgMember _ _) (wpAny_of_eq (a:=Value.none) (by first | rfl | (simp only [firstArgMember]; rfl)) (wpAny_newObj_type ?_ (by size_fits)))) (by size_fits))
 simp only [raiseNew]
 refine wpAny_bind (wpAny_handled ?_); rw [show A.in1.handled=none from hh]
 refine wpAny_bind (wpAny_pure (wpAny_throw ?_)); refine wpAny_bind (wpAny_isInstance (T:="StopIteration") (b:=true) ⟨_,Heap.get?_push_size _ rfl,rfl⟩ isSubtype_stop ?_)
 exact wpAny_pure (q _ (((Heap.SameBut.update ..).extBut.push _).push _))
theorem entry_itemiter:entryFor table "dict_itemiterator.__iter__" = some Builtin.«dict_keyiterator.__iter__»:=entryFor_alias (id:="dict_itemiterator.__iter__") (id':="dict_keyiterator.__iter__") (by first | rfl | decide +kernel) (by first | rfl | decide +kernel) (by decide +kernel) (by rfl)
theorem self_items {i n:Nat} {Q:Value->Shared->Prop} (hI:IsItemIter s.heap it dc i n ep ok ov) (q:Q (.ref it) s):wpAny (model prog w) A (pyIter (.ref it)) Q E s:=by
 have hT:=itemIter_ty hI
 refine wpAny_pyIter_slot hT F.slot_dict_itemiterator_iter (wpAny_call_entry F.slot_dict_itemiterator_iter hT entry_itemiter (show wpAny _ _ (Builtin.«dict_keyiterator.__iter__» _) _ _ _ from ?_) (F.args_dict_itemiterator_iter_1 _))
 unfold Builtin.«dict_keyiterator.__iter__»
 refine wpAny_bind (wpAny_pure ?_)
 exact wpAny_pure ⟨_,rfl,"dict_itemiterator",_,hT,F.slot_dict_itemiterator_next.lookup,q⟩
theorem meets_items (dc:Addr) (hd:(dc == sysModules)=false):MeetsIn prog w (Builtin.«dict.items» ⟨[.ref dc],[]⟩) (fun _ R s=>s.TypeIs (.ref dc) "dict" /\
   R (.ok (.ret (.ref s.heap.objs.size))) { s with heap:=s.heap.push { cls:=.type "dict_items",data:=.fields #[.ref dc] } }):=
 .of_wp fun A R s ⟨hT,h⟩=>by
  refine wpAny_bind ?_; unfold Builtin.Dict.noArgs
  refine wpAny_bind (wpAny_notOrdered_dict hT (show wpAny _ _ (pure dc) _ _ s from wpAny_pure (show wpAny _ _ (Builtin.Dict.showsAll dc >>= _) _ _ s from ?_)))
  unfold Builtin.Dict.showsAll; rw [if_neg (show ¬ _ from by rw [hd]; decide)]
  refine wpAny_bind (wpAny_pure (wpAny_bind (wpAny_newObj_type (wpAny_pure ⟨_,rfl,h⟩))))
end
end L2
set_option Elab.async false
set_option linter.all false
set_option maxRecDepth 1000000
set_option maxHeartbeats 4000000
namespace L2
open PySem PySem.Spec PyProof.Rows
section
variable {prog:Program} {w:World} {A:Around} {E:Value->Shared->Prop} {s:Shared} {v dc it:Addr} {oc:Obj} {es:Array DictEntry} {ep:Nat}
end
end L2
set_option Elab.async false
set_option linter.all false
set_option maxRecDepth 1000000
set_option maxHeartbeats 4000000
namespace L2
open PySem PySem.Spec PyProof.Rows
structure TOk (bt:Bool) (t:SetTable):Prop where
 dum:t.dummies=#[]
 led:bt=false->t.led=true
 ris:t.plain=true->t.place.toList.Pairwise (· < ·)
end L2
set_option Elab.async false
set_option linter.all false
set_option maxRecDepth 1000000
set_option maxHeartbeats 4000000
namespace L2
open PySem PySem.Spec PyProof.Rows
section
variable {prog:Program} {w:World} {A:Around} {E:Value->Shared->Prop} {s:Shared} {a:Addr}
end
end L2
set_option Elab.async false
set_option linter.all false
set_option maxRecDepth 1000000
set_option maxHeartbeats 4000000
namespace L2
open PySem PySem.Spec PyProof.Rows
section
variable {prog:Program} {w:World} {A:Around} {E:Value->Shared->Prop} {s:Shared} {a:Addr}
end
end L2
set_option Elab.async false
set_option linter.all false
set_option maxRecDepth 1000000
set_option maxHeartbeats 4000000
namespace L2
open PySem PySem.Spec PyProof.Rows
section
variable {prog:Program} {w:World} {A:Around} {E:Value->Shared->Prop} {s:Shared} {a it:Addr} {o:Obj} {es:Array (Int×Value)} {ep:Nat} {t:SetTable}
end
end L2
set_option Elab.async false
set_option linter.all false
set_option maxRecDepth 1000000
set_option maxHeartbeats 4000000
namespace L2
open PySem PySem.Spec PyProof.Rows
section
variable {prog:Program} {w:World} {A:Around} {E:Value->Shared->Prop} {s:Shared} {a it:Addr} {o:Obj} {es:Array (Int×Value)} {ep:Nat} {t:SetTable}
end
end L2
set_option Elab.async false
set_option linter.all false
set_option maxRecDepth 1000000
set_option maxHeartbeats 4000000
namespace L2
open PySem PySem.Spec PyProof.Rows
section
variable {prog:Program} {w:World} {A:Around} {E:Value->Shared->Prop} {s:Shared} {a it:Addr} {o:Obj} {es:Array (Int×Value)} {ep:Nat} {t:SetTable}
end
end L2
set_option Elab.async false
set_option linter.all false
set_option maxRecDepth 100000
namespace L2
open PySem PySem.Spec PyProof.Rows PySem.SeqAt PySem.W
section
variable {prog:Program} {w:World} {A:Around} {E:Value->Shared->Prop} {s:Shared} {a kS:Addr} {b:Bool} {vs ks:List Value}
end
end L2
set_option Elab.async false
set_option linter.all false
set_option maxRecDepth 100000
namespace L2
open PySem PySem.Spec PyProof.Rows PySem.SeqAt
inductive PV where
 | non | bl (b:Bool) | int (i:Int) | str (x:Str) | tup (xs:List PV) | ref (n:Nat) | ty (n:String) | fl (xs:List PV)
mutual
def PV.beq:PV->PV->Bool
 | .non,.non=>true
 | .bl a,.bl b=>a == b
 | .int a,.int b=>a == b
 | .str a,.str b=>a == b
 | .tup a,.tup b=>PV.beqs a b
 | .ref a,.ref b=>a == b
 | .ty a,.ty b=>a == b
 | .fl a,.fl b=>PV.beqs a b
 | _,_=>false
def PV.beqs:List PV->List PV->Bool
 | [],[]=>true
 | x :: xs,y :: ys=>PV.beq x y && PV.beqs xs ys
 | _,_=>false
end
mutual
theorem PV.beq_self:∀ x:PV,PV.beq x x=true
 | .non=>rfl
 | .bl a=>by simp [PV.beq]
 | .int a=>by simp [PV.beq]
 | .str a=>by simp [PV.beq]
 | .tup a=>by simp only [PV.beq]; exact PV.beqs_self a
 | .ref a=>by simp [PV.beq]
 | .ty a=>by simp [PV.beq]
 | .fl a=>by simp only [PV.beq]; exact PV.beqs_self a
theorem PV.beqs_self:∀ x:List PV,PV.beqs x x=true
 | []=>rfl
 | x :: xs=>by simp only [PV.beqs,PV.beq_self x,PV.beqs_self xs,Bool.and_self]
end
mutual
theorem PV.beq_eq:∀ {x y:PV},PV.beq x y=true->x=y
 | .non,y,h=>by cases y <;> first | rfl | (simp [PV.beq] at h)
 | .bl a,y,h=>by cases y <;> first | (simp [PV.beq] at h; rw [h]) | (simp [PV.beq] at h)
 | .int a,y,h=>by cases y <;> first | (simp [PV.beq] at h; rw [h]) | (simp [PV.beq] at h)
 | .str a,y,h=>by cases y <;> first | (simp [PV.beq] at h; rw [h]) | (simp [PV.beq] at h)
 | .tup a,y,h=>by
  cases y with
  | tup b=>simp only [PV.beq] at h; rw [PV.beqs_eq h]
  | _=>simp [PV.beq] at h
 | .ref a,y,h=>by cases y <;> first | (simp [PV.beq] at h; rw [h]) | (simp [PV.beq] at h)
 | .ty a,y,h=>by cases y <;> first | (simp [PV.beq] at h; rw [h]) | (simp [PV.beq] at h)
 | .fl a,y,h=>by
  cases y with
  | fl b=>simp only [PV.beq] at h; rw [PV.beqs_eq h]
  | _=>simp [PV.beq] at h
theorem PV.beqs_eq:∀ {x y:List PV},PV.beqs x y=true->x=y
 | [],y,h=>by cases y <;> first | rfl | (simp [PV.beqs] at h)
 | x :: xs,y,h=>by
  cases y with
  | nil=>simp [PV.beqs] at h
  | cons y ys=>
   simp only [PV.beqs,Bool.and_eq_true] at h
   rw [PV.beq_eq h.1,PV.beqs_eq h.2]
end
instance:DecidableEq PV:=fun x y=>match h:PV.beq x y with
 | true=>isTrue (PV.beq_eq h)
 | false=>isFalse fun e=>by rw [e,PV.beq_self] at h; cases h
def PV.ky:Nat->PV->Bool
 | _,.int _=>true
 | _,.str _=>true
 | n+1,.tup xs=>xs.all (PV.ky n)
 | _,_=>false
section
variable (w:World)
mutual
def hsh:PV->Int
 | .int i=>keyH w (.inl i)
 | .str x=>keyH w (.inr x)
 | .tup xs=>reduceHash (Builtin.Tuple.tupleHashOf (hshs xs))
 | _=>0
def hshs:List PV->List Int
 | []=>[]
 | x :: xs=>hsh x :: hshs xs
end
end
mutual
def drw:PV->Nat
 | .tup xs=>drws xs+1
 | _=>1
def drws:List PV->Nat
 | []=>0
 | x :: xs=>drw x+drws xs
end
mutual
/-- the raw value is the key -/
def HR (h:Heap):PV->Value->Prop
 | .int i,v=>∃ t,v=.int i t
 | .str x,v=>∃ t,v=.str x t
 | .tup ps,v=>∃ a its,v=.ref a/\IsTup h a its.toArray/\HRs h ps its
 | _,_=>False
def HRs (h:Heap):List PV->List Value->Prop
 | [],[]=>True
 | p :: ps,v :: vs=>HR h p v/\HRs h ps vs
 | [],_ :: _=>False
 | _ :: _,[]=>False
end
theorem HRs.length {h:Heap}:∀ {ps:List PV} {vs:List Value},HRs h ps vs->ps.length=vs.length
 | [],[],_=>rfl
 | _ :: _,_ :: _,r=>congrArg (·+1) (HRs.length r.2)
 | [],_ :: _,r=>r.elim
 | _ :: _,[],r=>r.elim
theorem HRs.at {h:Heap}:∀ {ps:List PV} {vs:List Value} {j:Nat} {p:PV},HRs h ps vs->ps[j]?=some p->∃ v,vs[j]?=some v/\HR h p v
 | [],[],_,_,_,e=>by simp at e
 | q :: _,v :: _,0,p,r,e=>by
  have:q=p:=by simpa using e
  subst this
  exact ⟨v,rfl,r.1⟩
 | _ :: ps,_ :: vs,j+1,p,r,e=>by
  obtain ⟨v,h1,h2⟩:=HRs.at (ps:=ps) (vs:=vs) (j:=j) (p:=p) r.2 (by simpa using e)
  exact ⟨v,by simpa using h1,h2⟩
 | [],_ :: _,_,_,r,_=>r.elim
 | _ :: _,[],_,_,r,_=>r.elim
theorem isTup_one {h:Heap} {a:Addr} {x y:Array Value} (p:IsTup h a x) (q:IsTup h a y):x=y:=by
 obtain ⟨o,ho,_,n,hd⟩:=p
 obtain ⟨o',ho',_,n',hd'⟩:=q
 obtain rfl:o=o':=Option.some.inj (ho.symm.trans ho')
 rw [hd] at hd'
 injection hd'
mutual
theorem HR.one {h:Heap}:∀ {p q:PV} {v:Value},HR h p v->HR h q v->p=q
 | .int i,q,v,r,r'=>by
  obtain ⟨t,rfl⟩:=r
  cases q with
  | int j=>obtain ⟨t',e⟩:=r'; injection e with e; rw [e]
  | str j=>obtain ⟨t',e⟩:=r'; cases e
  | tup j=>obtain ⟨_,_,e,_⟩:=r'; cases e
  | _=>exact r'.elim
 | .str i,q,v,r,r'=>by
  obtain ⟨t,rfl⟩:=r
  cases q with
  | int j=>obtain ⟨t',e⟩:=r'; cases e
  | str j=>obtain ⟨t',e⟩:=r'; injection e with e; rw [e]
  | tup j=>obtain ⟨_,_,e,_⟩:=r'; cases e
  | _=>exact r'.elim
 | .tup ps,q,v,r,r'=>by
  obtain ⟨a,its,rfl,p,rs⟩:=r
  cases q with
  | int j=>obtain ⟨t',e⟩:=r'; cases e
  | str j=>obtain ⟨t',e⟩:=r'; cases e
  | tup qs=>
   obtain ⟨b,its',e,p',rs'⟩:=r'
   cases e
   have:its=its':=by simpa using congrArg Array.toList (isTup_one p p')
   subst this
   rw [HRs.one rs rs']
  | _=>exact r'.elim
 | .non,_,_,r,_=>r.elim
 | .bl _,_,_,r,_=>r.elim
 | .ref _,_,_,r,_=>r.elim
 | .ty _,_,_,r,_=>r.elim
 | .fl _,_,_,r,_=>r.elim
theorem HRs.one {h:Heap}:∀ {ps qs:List PV} {vs:List Value},HRs h ps vs->HRs h qs vs->ps=qs
 | [],[],[],_,_=>rfl
 | p :: ps,q :: qs,v :: vs,r,r'=>by rw [HR.one r.1 r'.1,HRs.one r.2 r'.2]
 | [],_ :: _,[],_,r=>r.elim
 | [],_,_ :: _,r,_=>r.elim
 | _ :: _,_,[],r,_=>r.elim
 | _ :: _,[],_ :: _,_,r=>r.elim
end
theorem isTup_keep {h h':Heap} {a d:Addr} {o:Obj} {es ep} {x:Array Value} (p:IsTup h a x) (ho:h.get? d=some o) (hd:o.data=.dict es ep) (hs:Heap.SameBut d h h'):IsTup h' a x:=by
 obtain ⟨q,hq,hc,n,hdt⟩:=p
 have ne:a≠d:=by
  rintro rfl
  obtain rfl:q=o:=Option.some.inj (hq.symm.trans ho)
  rw [hd] at hdt
  cases hdt
 exact ⟨q,(hs.2 a ne).trans hq,hc,n,hdt⟩
mutual
theorem HR.keep {h h':Heap} (k:∀ a x,IsTup h a x->IsTup h' a x):∀ {p:PV} {v:Value},HR h p v->HR h' p v
 | .int i,v,r=>r
 | .str i,v,r=>r
 | .tup ps,v,⟨a,its,e,p,rs⟩=>⟨a,its,e,k _ _ p,HRs.keep k rs⟩
 | .non,_,r=>r.elim
 | .bl _,_,r=>r.elim
 | .ref _,_,r=>r.elim
 | .ty _,_,r=>r.elim
 | .fl _,_,r=>r.elim
theorem HRs.keep {h h':Heap} (k:∀ a x,IsTup h a x->IsTup h' a x):∀ {ps:List PV} {vs:List Value},HRs h ps vs->HRs h' ps vs
 | [],[],_=>trivial
 | _ :: _,_ :: _,r=>⟨HR.keep k r.1,HRs.keep k r.2⟩
 | [],_ :: _,r=>r.elim
 | _ :: _,[],r=>r.elim
end
section
variable {prog:Program} {w:World}
theorem hash_key:∀ (n:Nat) {A:Around} {E:Value->Shared->Prop} {s:Shared} {p:PV} {v:Value} {Q:Int->Shared->Prop},p.ky n=true->A.units+n < cLine->HR s.heap p v->Q (hsh w p) { s with toks:=s.toks+drw p }->
  wpAny (model prog w) A (pyHash v) Q E s:=by
 intro n
 induction n with
 | zero=>
  intro A E s p v Q hk hu r h
  cases p with
  | int i=>obtain ⟨t,rfl⟩:=r; exact wpAny_pyHash_int h
  | str i=>obtain ⟨t,rfl⟩:=r; exact wpAny_pyHash_str h
  | _=>cases hk
 | succ n ih=>
  intro A E s p v Q hk hu r h
  cases p with
  | int i=>obtain ⟨t,rfl⟩:=r; exact wpAny_pyHash_int h
  | str i=>obtain ⟨t,rfl⟩:=r; exact wpAny_pyHash_str h
  | tup ps=>
   obtain ⟨a,its,rfl,⟨o,ho,hc,m,hd⟩,rs⟩:=r
   have hk':∀ q∈ps,q.ky n=true:=List.all_eq_true.mp hk
   have hT:s.TypeIs (.ref a) "tuple" := ⟨o,ho,hc⟩
   unfold pyHash; unfold pyHashByItsType
   refine wpAny_bind (wpAny_cRoomFor_or (.inr (show A.units < cLine by omega)) (wpAny_bind (wpAny_specialOf hT F.slot_tuple_hash.lookup ?_)))
   show wpAny _ _ (if ((some (Value.builtin "tuple.__hash__"):Option Value) == some Value.none)=true then _ else _) Q E s
   rw [if_neg (show ¬ _ from by rw [beq_builtin_none]; decide)]
   refine wpAny_bind (wpAny_specialOf hT F.slot_tuple_hash.lookup (show wpAny _ _ (callSpecialIfBoundUnlessNone? (.ref a) "__hash__" _ >>= _) Q E s from ?_))
   refine wpAny_bind (wpAny_callSpecialIfBoundUnlessNone?_slot hT F.slot_tuple_hash (wpAny_call_entry F.slot_tuple_hash hT F.entry_tuple_hash (show wpAny _ _ (Builtin.Tuple.tupleItemsOf (.ref a) >>= _) _ _ s from ?_) (F.args_tuple_hash_1 _)))
   refine wpAny_bind (wpAny_tupleItemsOf ho hd (wpAny_bind ?_)); rw [<- Array.forIn_toList]
   refine wpAny_forIn_list _ (fun rest (b:Array Int) s'=>∃ left,HRs s.heap left rest/\(∀ q∈left,q.ky n=true)/\b.toList++hshs w left=hshs w ps/\s'.heap=s.heap/\s'={ s with toks:=s'.toks }/\s'.toks+drws left=s.toks+drws ps) _ ?turn ?stop _ _ ⟨ps,rs,hk',rfl,rfl,rfl,rfl⟩
   case turn=>
    rintro x rest b s' ⟨left,rl,kl,eb,eh,es,et⟩
    cases left with
    | nil=>exact rl.elim
    | cons q left=>
     have r1:HR s'.heap q x:=by rw [eh]; exact rl.1
     refine wpAny_bind (ih (kl q List.mem_cons_self) (show A.units+1+n < cLine by omega) r1 (wpAny_pure ?_))
     refine ⟨left,rl.2,fun z hz=>kl z (List.mem_cons_of_mem _ hz),?_,eh,?_,?_⟩
     ·rw [<- eb]; simp [hshs]
     ·rw [es]
     ·rw [<- et]
      show s'.toks+drw q+drws left=s'.toks+(drw q+drws left)
      omega
   case stop=>
    rintro b s' ⟨left,rl,kl,eb,eh,es,et⟩
    cases left with
    | cons q left=>exact rl.elim
    | nil=>
     have eb':b.toList=hshs w ps:=by rw [<- eb]; simp [hshs]
     have et':s'.toks=s.toks+drws ps:=et
     show wpAny _ _ (retInt (Builtin.Tuple.tupleHashOf b.toList)) _ _ _
     rw [eb',es]
     refine wpAny_ret_mkInt ?_
     show wpAny _ _ (if (decide (-(2:Int) ^ 63<=Builtin.Tuple.tupleHashOf (hshs w ps)) && decide (Builtin.Tuple.tupleHashOf (hshs w ps) < 2 ^ 63))=true then _ else _) Q E _
     have h':Q (reduceHash (Builtin.Tuple.tupleHashOf (hshs w ps))) { s with toks:=s.toks+(drws ps+1) }:=h
     unfold reduceHash at h'
     rw [et']
     by_cases hr:(decide (-(2:Int) ^ 63<=Builtin.Tuple.tupleHashOf (hshs w ps)) && decide (Builtin.Tuple.tupleHashOf (hshs w ps) < 2 ^ 63))=true
     ·rw [if_pos hr] at h' ⊢
      exact wpAny_pure (by simpa [Nat.add_assoc] using h')
     ·rw [if_neg hr] at h' ⊢
      exact wpAny_bind (wpAny_rule (wpAny_pure (by simpa [Nat.add_assoc] using h')))
  | _=>cases hk
theorem rc_key:∀ (n:Nat) {A:Around} {s:Shared} {p q:PV} {v u:Value},p.ky n=true->q.ky n=true->A.units+n < cLine->HR s.heap p v->HR s.heap q u->RcAt A s v u (decide (p=q)):=by
 intro n
 induction n with
 | zero=>
  intro A s p q v u hp hq hu r r'
  cases p with
  | int i=>
   obtain ⟨t,rfl⟩:=r
   cases q with
   | int j=>obtain ⟨t',rfl⟩:=r'; have:=RcAt.int_int (A:=A) (s:=s) i t j t'; rwa [show decide (PV.int i=PV.int j)=(i == j) by simp [Bool.beq_eq_decide_eq]]
   | str j=>obtain ⟨t',rfl⟩:=r'; exact RcAt.int_str i t j t'
   | _=>cases hq
  | str i=>
   obtain ⟨t,rfl⟩:=r
   cases q with
   | int j=>obtain ⟨t',rfl⟩:=r'; exact RcAt.str_int i t j t'
   | str j=>obtain ⟨t',rfl⟩:=r'; have:=RcAt.str_str (A:=A) (s:=s) i t j t'; rwa [show decide (PV.str i=PV.str j)=(i == j) by simp [Bool.beq_eq_decide_eq]]
   | _=>cases hq
  | _=>cases hp
 | succ n ih=>
  intro A s p q v u hp hq hu r r'
  cases p with
  | int i=>
   obtain ⟨t,rfl⟩:=r
   cases q with
   | int j=>obtain ⟨t',rfl⟩:=r'; have:=RcAt.int_int (A:=A) (s:=s) i t j t'; rwa [show decide (PV.int i=PV.int j)=(i == j) by simp [Bool.beq_eq_decide_eq]]
   | str j=>obtain ⟨t',rfl⟩:=r'; exact RcAt.int_str i t j t'
   | tup js=>obtain ⟨b,its,rfl,p',_⟩:=r'; exact RcAt.int_tuple i t p' (by omega)
   | _=>cases hq
  | str i=>
   obtain ⟨t,rfl⟩:=r
   cases q with
   | int j=>obtain ⟨t',rfl⟩:=r'; exact RcAt.str_int i t j t'
   | str j=>obtain ⟨t',rfl⟩:=r'; have:=RcAt.str_str (A:=A) (s:=s) i t j t'; rwa [show decide (PV.str i=PV.str j)=(i == j) by simp [Bool.beq_eq_decide_eq]]
   | tup js=>obtain ⟨b,its,rfl,p',_⟩:=r'; exact RcAt.str_tuple i t p' (by omega)
   | _=>cases hq
  | tup ps=>
   obtain ⟨a,its,rfl,ta,rs⟩:=r
   cases q with
   | int j=>obtain ⟨t',rfl⟩:=r'; exact RcAt.tuple_int j t' ta (by omega)
   | str j=>obtain ⟨t',rfl⟩:=r'; exact RcAt.tuple_str j t' ta (by omega)
   | tup qs=>
    obtain ⟨b,its',rfl,tb,rs'⟩:=r'
    have kp:∀ z∈ps,z.ky n=true:=List.all_eq_true.mp hp
    have kq:∀ z∈qs,z.ky n=true:=List.all_eq_true.mp hq
    have l1:=rs.length
    have l2:=rs'.length
    have key:=RcAt.tuples (A:=A) (e:=fun j=>match ps[j]?,qs[j]? with | some x,some y=>decide (x=y) | _,_=>false) ta tb (by omega) (fun j h1 h2=>by
     have h1':j < ps.length:=by simp at h1; omega
     have h2':j < qs.length:=by simp at h2; omega
     have g1:ps[j]?=some ps[j]:=by simp [h1']
     have g2:qs[j]?=some qs[j]:=by simp [h2']
     obtain ⟨xu,hxu,hru⟩:=rs.at g1
     obtain ⟨yu,hyu,hru'⟩:=rs'.at g2
     have e1:its.toArray[j]=xu:=by simpa using (List.getElem?_eq_some_iff.mp hxu).2
     have e2:its'.toArray[j]=yu:=by simpa using (List.getElem?_eq_some_iff.mp hyu).2
     rw [e1,e2]
     simp only [g1,g2]
     refine eqAt_of_rc (ih (kp _ (List.getElem_mem h1')) (kq _ (List.getElem_mem h2')) (show A.units+1+n < cLine by omega) hru hru') (fun ev=>?_) (fun f t e=>?_)
     ·subst ev
      rw [HR.one hru hru']
      exact decide_eq_true rfl
     ·subst e
      generalize ps[j]=z at hru
      cases z with
      | int i=>obtain ⟨_,e⟩:=hru; cases e
      | str i=>obtain ⟨_,e⟩:=hru; cases e
      | tup i=>obtain ⟨_,_,e,_⟩:=hru; cases e
      | _=>exact hru.elim)
    have sz:((List.range (min its.toArray.size its'.toArray.size)).all (fun j=>match ps[j]?,qs[j]? with | some x,some y=>decide (x=y) | _,_=>false) && its.toArray.size == its'.toArray.size)=decide (PV.tup ps=PV.tup qs):=by
     have a1:its.toArray.size=ps.length:=by simp; omega
     have a2:its'.toArray.size=qs.length:=by simp; omega
     rw [a1,a2,Bool.eq_iff_iff]
     simp only [Bool.and_eq_true,List.all_eq_true,List.mem_range,beq_iff_eq,decide_eq_true_eq,PV.tup.injEq]
     constructor
     ·rintro ⟨hall,hlen⟩
      apply List.ext_getElem hlen
      intro i hi hi'
      have:=hall i (by omega)
      simpa [hi,hi'] using this
     ·rintro rfl
      refine ⟨fun x hx=>?_,rfl⟩
      have:x < ps.length:=by omega
      simp [this]
    rw [<- sz]
    exact key
   | _=>cases hq
  | _=>cases hp
theorem HR.noflt {h:Heap} {p:PV} {v:Value} (r:HR h p v):∀ f t,v≠.float f t:=fun f t e=>by
 subst e
 cases p with
 | int i=>obtain ⟨_,e⟩:=r; cases e
 | str i=>obtain ⟨_,e⟩:=r; cases e
 | tup i=>obtain ⟨_,_,e,_⟩:=r; cases e
 | _=>exact r.elim
theorem eq_key {n:Nat} {A:Around} {s:Shared} {p q:PV} {v u:Value} (hp:p.ky n=true) (hq:q.ky n=true) (hu:A.units+n < cLine) (r:HR s.heap p v) (r':HR s.heap q u):EqAt A s v u (decide (p=q)):=
 eqAt_of_rc (rc_key n hp hq hu r r') (fun ev=>by subst ev; rw [HR.one r r']; exact decide_eq_true rfl) r.noflt
theorem quiet_key:∀ (n m:Nat) {A:Around} {E:Value->Shared->Prop} {s:Shared} {p:PV} {v:Value} {Q:Bool->Shared->Prop},p.ky n=true->n<=m->HR s.heap p v->Q true s->wpAny (model prog w) A (eqIsQuiet m v) Q E s:=by
 intro n
 induction n with
 | zero=>
  intro m A E s p v Q hk hm r h
  cases p with
  | int i=>obtain ⟨t,rfl⟩:=r; rw [eqIsQuiet_byValue _ rfl]; exact wpAny_pure h
  | str i=>obtain ⟨t,rfl⟩:=r; rw [eqIsQuiet_byValue _ rfl]; exact wpAny_pure h
  | _=>cases hk
 | succ n ih=>
  intro m A E s p v Q hk hm r h
  cases p with
  | int i=>obtain ⟨t,rfl⟩:=r; rw [eqIsQuiet_byValue _ rfl]; exact wpAny_pure h
  | str i=>obtain ⟨t,rfl⟩:=r; rw [eqIsQuiet_byValue _ rfl]; exact wpAny_pure h
  | tup ps=>
   obtain ⟨a,its,rfl,⟨o,ho,hc,m',hd⟩,rs⟩:=r
   have hk':∀ q∈ps,q.ky n=true:=List.all_eq_true.mp hk
   have hT:s.TypeIs (.ref a) "tuple" := ⟨o,ho,hc⟩
   obtain ⟨m,rfl⟩:∃ j,m=j+1:=⟨m - 1,by omega⟩
   unfold eqIsQuiet
   refine wpAny_bind (wpAny_specialOf hT F.slot_tuple_eq.lookup (show wpAny _ _ (isInstance (.ref a) (.type "tuple") >>= _) _ _ s from ?_))
   refine wpAny_bind (wpAny_isInstance hT isSubtype_tuple_tuple ?_); simp only [Bool.not_true,Bool.false_eq_true,if_false]
   refine wpAny_bind (wpAny_seqItems ho hd (wpAny_bind (show wpAny _ _ (forIn its.toArray _ _) _ _ s from ?_))); rw [<- Array.forIn_toList]
   refine wpAny_forIn_list _ (fun rest r s'=>r.1=none/\s'=s/\∃ left,HRs s.heap left rest/\∀ q∈left,q.ky n=true) _ ?_ ?_ _ _ ⟨rfl,rfl,ps,rs,hk'⟩
   ·rintro v rest r s' ⟨hr,rfl,left,rl,kl⟩
    cases left with
    | nil=>exact rl.elim
    | cons q left=>
     refine wpAny_bind (ih m (kl q List.mem_cons_self) (by omega) rl.1 ?_); simp only [Bool.not_true,Bool.false_eq_true,if_false]
     exact wpAny_pure ⟨rfl,rfl,left,rl.2,fun z hz=>kl z (List.mem_cons_of_mem _ hz)⟩
   ·rintro ⟨r1,r2⟩ s' ⟨hr,rfl,_⟩; simp only at hr; subst hr
    exact wpAny_pure h
  | _=>cases hk
def dKind (prog:Program) (w:World):HeapKind prog w PV where
 is:=fun h p a=>p.ky 6=true/\HR h p (.ref a)
 hash:=hsh w
 draws:=drw
 room:=fun A=>A.units+6 < cLine
 inj:=fun x y=>HR.one x.2 y.2
 keeps:=fun x ho hd hs=>⟨x.1,HR.keep (fun a it p=>isTup_keep p ho hd hs) x.2⟩
 pyHash:=fun hu x h=>hash_key 6 x.1 hu x.2 h
 eqBool:=fun hu x y h=>eq_key x.1 y.1 hu x.2 y.2 _ _ _ _ h
 quiet:=fun x h=>quiet_key 6 8 x.1 (by omega) x.2 h
end
def dDO (w:World) (a:Addr) (ks:List (PV×Addr×V)):HO:=.ext fun h=>ks.length<=sizeLine/\(a == sysModules)=false/\∃ xs:List (PV×Addr×Value),
 Paired (fun (p:PV×Addr×V) (q:PV×Addr×Value)=>p.1=q.1/\p.2.1=q.2.1/\RelV p.2.2 q.2.2) ks xs/\
 ∃ o es ep,h.get? a=some o/\o.ExactDict/\o.data=.dict es ep/\es.toList=xs.map (fun x=>(⟨hsh w x.1,.ref x.2.1,x.2.2⟩:DictEntry))/\(xs.map (·.1)).Nodup
def viewO (kd:Nat) (v d:Addr):HO:=.ext fun h=>match kd with
 | 0=>h.IsItemsView v d
 | 1=>h.IsValuesView v d
 | _=>∃ o,h.get? v=some o/\o.cls=.type "dict_keys" /\ o.data=.fields #[.ref d]
end L2
set_option Elab.async false
set_option linter.all false
set_option maxRecDepth 100000
namespace L2
open PySem PySem.Spec PyProof.Rows
inductive MO where
 | lst (xs:List PV)
 | dK (kvs:List (Key×PV))
 | ins (C:Str) (fs:List (Str×PV))
 | dD (kvs:List (PV×PV))
 | vw (kd d:Nat)
 | fz (o:MO)
abbrev PH:=List MO
abbrev Ev:=List (Option PV)
structure PX where
 cls:Str
 fs:List (Str×PV)
inductive Rs (α:Type) where
 | ok (a:α) (h:PH)
 | exc (x:PX) (h:PH)
 | bad
inductive Fl where
 | nx (δ:Ev) (h:PH)
 | rt (p:PV) (h:PH)
 | bk (δ:Ev) (h:PH)
 | ct (δ:Ev) (h:PH)
 | exc (x:PX) (h:PH)
 | bad
abbrev Me:=Ev->PH->Rs PV
abbrev Ms:=Ev->PH->Fl
abbrev Fn:=List PV->PH->Rs PV
def Rs.bind {α β:Type} (r:Rs α) (f:α->PH->Rs β):Rs β:=match r with
 | .ok a h=>f a h
 | .exc x h=>.exc x h
 | .bad=>.bad
@[simp] theorem Rs.bind_ok {α β:Type} (a:α) (h:PH) (f:α->PH->Rs β):(Rs.ok a h).bind f=f a h:=rfl
@[simp] theorem Rs.bind_exc {α β:Type} (x:PX) (h:PH) (f:α->PH->Rs β):(Rs.exc x h:Rs α).bind f=.exc x h:=rfl
@[simp] theorem Rs.bind_bad {α β:Type} (f:α->PH->Rs β):(Rs.bad:Rs α).bind f=.bad:=rfl
structure MC where
 K:PySem.W.Frag
 cl:Str->Option Addr
 bs:List Str
 ex:List Addr->Hp->PX->Prop
 w:World
def SqF (K:PySem.W.Frag) (H:Hp) (a:Addr) (xs:List V):Prop:=
 (∃ o,H a=some (.frz o (.lst xs)))\/
  ∃ (o:Obj) (its:Array Value) (n:Nat),K.lookup a=some o/\o.cls=.type "list" /\ o.dict=none/\o.data=.seq its n/\its.size<=sizeLine/\Vals xs its.toList
theorem SqF.sq {K:PySem.W.Frag} {H:Hp} {a:Addr} {xs:List V} (h:SqF K H a xs):SqL K H a xs:=by
 rcases h with ⟨o,h⟩ | h
 ·exact .inl (.inr ⟨o,h⟩)
 ·exact .inr h
def Kp (H H':Hp):Prop:=Tups H H'/\∀ a o u,H a=some (.frz o u)->H' a=some (.frz o u)
theorem Kp.refl (H:Hp):Kp H H:=⟨Tups.refl H,fun _ _ _ h=>h⟩
theorem Kp.trans {H H1 H2:Hp} (a:Kp H H1) (b:Kp H1 H2):Kp H H2:=⟨a.1.trans b.1,fun c o u h=>b.2 c o u (a.2 c o u h)⟩
theorem Kp.same {H H':Hp} (s:Same H H'):Kp H H':=⟨Tups.same s,fun _ _ _ h=>s _ _ h⟩
theorem Kp.new {H:Hp} {a:Addr} {o:HO} (h:H a=none):Kp H (upd H a o):=Kp.same (Same.upd h)
theorem Kp.upd {H:Hp} {p:Addr} {o:HO} (h:NoTup (H p)):Kp H (upd H p o):=⟨Tups.upd h,fun a ob u q=>by
 have ne:a≠p:=by
  rintro rfl
  rw [q] at h; exact h
 rw [upd_ne ne]; exact q⟩
theorem Kp.lst {H:Hp} {p:Addr} {o:HO} {xs:List V} (h:H p=some (.lst xs)):Kp H (L2.upd H p o):=Kp.upd (by rw [h]; trivial)
theorem Kp.dK {H:Hp} {p:Addr} {o:HO} {xs:List (Key×V)} (h:H p=some (.dK xs)):Kp H (L2.upd H p o):=Kp.upd (by rw [h]; trivial)
theorem Kp.sq {K:PySem.W.Frag} {H H':Hp} {a:Addr} {xs:List V} (t:Kp H H') (h:SqT K H a xs):SqT K H' a xs:=t.1.sq h
theorem Kp.sf {K:PySem.W.Frag} {H H':Hp} {a:Addr} {xs:List V} (t:Kp H H') (h:SqF K H a xs):SqF K H' a xs:=by
 rcases h with ⟨o,h⟩ | h
 ·exact .inl ⟨o,t.2 _ _ _ h⟩
 ·exact .inr h
section
variable (C:MC) (φ:List Addr) (H:Hp)
mutual
def RV:PV->V->Prop
 | .non,v=>v=.non
 | .bl b,v=>v=.bl b
 | .int i,v=>v=.int i
 | .str x,v=>v=.str x
 | .ty n,v=>v=.ty n
 | .tup ps,v=>∃ a vs,v=.ref a/\SqT C.K H a vs/\RVs ps vs
 | .ref n,v=>∃ a,v=.ref a/\φ[n]?=some a
 | .fl ps,v=>∃ a vs,v=.ref a/\SqF C.K H a vs/\RVs ps vs
def RVs:List PV->List V->Prop
 | [],[]=>True
 | p :: ps,v :: vs=>RV p v/\RVs ps vs
 | [],_ :: _=>False
 | _ :: _,[]=>False
end
def RKv {κ:Type}:List (κ×PV)->List (κ×V)->Prop:=Paired fun p q=>p.1=q.1/\RV C φ H p.2 q.2
def RKd:List (PV×PV)->List (PV×Addr×V)->Prop:=Paired fun p q=>p.1=q.1/\p.1.ky 6=true/\RV C φ H p.1 (.ref q.2.1)/\RV C φ H p.2 q.2.2
def RO (a:Addr):MO->Prop
 | .lst ps=>∃ vs,H a=some (.lst vs)/\RVs C φ H ps vs
 | .dK kvs=>∃ ks,H a=some (.dK ks)/\RKv C φ H kvs ks
 | .ins n fs=>∃ c dx ks,C.cl n=some c/\H a=some (.ins c dx ks)/\RKv C φ H fs ks
 | .dD kvs=>∃ ks,H a=some (dDO C.w a ks)/\RKd C φ H kvs ks
 | .vw kd d=>∃ b,φ[d]?=some b/\H a=some (viewO kd a b)
 | .fz (.dK kvs)=>∃ ob ks,H a=some (.frz ob (.dK ks))/\RKv C φ H kvs ks
 | .fz (.dD kvs)=>∃ ob ks,H a=some (.frz ob (dDO C.w a ks))/\RKd C φ H kvs ks
 | .fz _=>False
structure RH (h:PH):Prop where
 len:φ.length=h.length
 nd:φ.Nodup
 at':∀ (n:Nat) (a:Addr) (o:MO),φ[n]?=some a->h[n]?=some o->RO C φ H a o
def RE (δ:Ev) (σ:St):Prop:=δ.length=σ.length/\∀ (i:Nat) (p:PV),δ[i]?=some (some p)->∃ v,σ[i]?=some (some v)/\RV C φ H p v
end
section
variable {C:MC} {φ φ':List Addr} {H H':Hp}
theorem pre_get {α:Type} {l l':List α} (p:l<+:l') {n:Nat} {a:α} (h:l[n]?=some a):l'[n]?=some a:=by
 obtain ⟨t,rfl⟩:=p
 have:=(List.getElem?_eq_some_iff.mp h).1
 rw [List.getElem?_append_left this]
 exact h
def Kq (H H':Hp):Prop:=Tups H H'/\∀ a o xs,H a=some (.frz o (.lst xs))->H' a=some (.frz o (.lst xs))
theorem Kp.q (t:Kp H H'):Kq H H':=⟨t.1,fun a o xs h=>t.2 a o _ h⟩
theorem Kq.sq {K:PySem.W.Frag} {a:Addr} {xs:List V} (t:Kq H H') (h:SqT K H a xs):SqT K H' a xs:=t.1.sq h
theorem Kq.sf {K:PySem.W.Frag} {a:Addr} {xs:List V} (t:Kq H H') (h:SqF K H a xs):SqF K H' a xs:=by
 rcases h with ⟨o,h⟩ | h
 ·exact .inl ⟨o,t.2 _ _ _ h⟩
 ·exact .inr h
mutual
theorem RV.monoQ (p:φ<+:φ') (t:Kq H H'):∀ {x:PV} {v:V},RV C φ H x v->RV C φ' H' x v
 | .non,_,h=>h
 | .bl _,_,h=>h
 | .int _,_,h=>h
 | .str _,_,h=>h
 | .ty _,_,h=>h
 | .tup _,_,⟨a,vs,e,q,r⟩=>⟨a,vs,e,t.sq q,RVs.monoQ p t r⟩
 | .ref _,_,⟨a,e,q⟩=>⟨a,e,pre_get p q⟩
 | .fl _,_,⟨a,vs,e,q,r⟩=>⟨a,vs,e,t.sf q,RVs.monoQ p t r⟩
theorem RVs.monoQ (p:φ<+:φ') (t:Kq H H'):∀ {xs:List PV} {vs:List V},RVs C φ H xs vs->RVs C φ' H' xs vs
 | [],[],_=>trivial
 | _ :: _,_ :: _,⟨h,r⟩=>⟨RV.monoQ p t h,RVs.monoQ p t r⟩
 | [],_ :: _,h=>h.elim
 | _ :: _,[],h=>h.elim
end
theorem RV.mono (p:φ<+:φ') (t:Kp H H') {x:PV} {v:V} (h:RV C φ H x v):RV C φ' H' x v:=RV.monoQ p t.q h
theorem RVs.mono (p:φ<+:φ') (t:Kp H H') {xs:List PV} {vs:List V} (h:RVs C φ H xs vs):RVs C φ' H' xs vs:=RVs.monoQ p t.q h
theorem RVs.length:∀ {xs:List PV} {vs:List V},RVs C φ H xs vs->xs.length=vs.length
 | [],[],_=>rfl
 | _ :: _,_ :: _,⟨_,r⟩=>by simp [RVs.length r]
 | [],_ :: _,h=>h.elim
 | _ :: _,[],h=>h.elim
theorem RVs.get:∀ {xs:List PV} {vs:List V} {i:Nat} {v:V},RVs C φ H xs vs->vs[i]?=some v->∃ x,xs[i]?=some x/\RV C φ H x v
 | [],[],_,_,_,e=>by simp at e
 | x :: _,w :: _,0,v,⟨h,_⟩,e=>by
  have:w=v:=by simpa using e
  subst this
  exact ⟨x,rfl,h⟩
 | _ :: xs,_ :: vs,i+1,v,⟨_,r⟩,e=>by
  obtain ⟨x,h1,h2⟩:=RVs.get (xs:=xs) (vs:=vs) (i:=i) (v:=v) r (by simpa using e)
  exact ⟨x,by simpa using h1,h2⟩
 | [],_ :: _,_,_,h,_=>h.elim
 | _ :: _,[],_,_,h,_=>h.elim
theorem RVs.at:∀ {xs:List PV} {vs:List V} {i:Nat} {x:PV},RVs C φ H xs vs->xs[i]?=some x->∃ v,vs[i]?=some v/\RV C φ H x v
 | [],[],_,_,_,e=>by simp at e
 | x :: _,w :: _,0,x',⟨h,_⟩,e=>by
  have:x=x':=by simpa using e
  subst this
  exact ⟨w,rfl,h⟩
 | _ :: xs,_ :: vs,i+1,x,⟨_,r⟩,e=>by
  obtain ⟨v,h1,h2⟩:=RVs.at (xs:=xs) (vs:=vs) (i:=i) (x:=x) r (by simpa using e)
  exact ⟨v,by simpa using h1,h2⟩
 | [],_ :: _,_,_,h,_=>h.elim
 | _ :: _,[],_,_,h,_=>h.elim
theorem RVs.append:∀ {xs ys:List PV} {vs us:List V},RVs C φ H xs vs->RVs C φ H ys us->RVs C φ H (xs++ys) (vs++us)
 | [],_,[],_,_,h=>h
 | _ :: _,_,_ :: _,_,⟨h,r⟩,h'=>⟨h,RVs.append r h'⟩
 | [],_,_ :: _,_,h,_=>h.elim
 | _ :: _,_,[],_,h,_=>h.elim
theorem RVs.snoc {xs:List PV} {vs:List V} {x:PV} {v:V} (r:RVs C φ H xs vs) (h:RV C φ H x v):RVs C φ H (xs++[x]) (vs++[v]):=r.append ⟨h,trivial⟩
theorem RVs.drop:∀ {xs:List PV} {vs:List V} (n:Nat),RVs C φ H xs vs->RVs C φ H (xs.drop n) (vs.drop n)
 | _,_,0,h=>h
 | [],[],_+1,_=>trivial
 | _ :: _,_ :: _,n+1,⟨_,r⟩=>RVs.drop n r
 | [],_ :: _,_+1,h=>h.elim
 | _ :: _,[],_+1,h=>h.elim
theorem RVs.take:∀ {xs:List PV} {vs:List V} (n:Nat),RVs C φ H xs vs->RVs C φ H (xs.take n) (vs.take n)
 | [],[],0,_=>trivial
 | _ :: _,_ :: _,0,_=>trivial
 | [],[],_+1,_=>trivial
 | _ :: _,_ :: _,n+1,⟨h,r⟩=>⟨h,RVs.take n r⟩
 | [],_ :: _,_,h=>h.elim
 | _ :: _,[],_,h=>h.elim
theorem RVs.set {x:PV} {v:V} (h:RV C φ H x v):∀ {xs:List PV} {vs:List V} (n:Nat),RVs C φ H xs vs->RVs C φ H (xs.set n x) (vs.set n v)
 | [],[],_,_=>trivial
 | _ :: _,_ :: _,0,⟨_,r⟩=>⟨h,r⟩
 | _ :: _,_ :: _,n+1,⟨q,r⟩=>⟨q,RVs.set h n r⟩
 | [],_ :: _,_,h=>h.elim
 | _ :: _,[],_,h=>h.elim
theorem RKv.monoQ {κ:Type} (p:φ<+:φ') (t:Kq H H') {x:List (κ×PV)} {v:List (κ×V)} (h:RKv C φ H x v):RKv C φ' H' x v:=Paired.mapP h fun _ _ q=>⟨q.1,q.2.monoQ p t⟩
theorem RKd.monoQ (p:φ<+:φ') (t:Kq H H') {x:List (PV×PV)} {v:List (PV×Addr×V)} (h:RKd C φ H x v):RKd C φ' H' x v:=Paired.mapP h fun _ _ q=>⟨q.1,q.2.1,q.2.2.1.monoQ p t,q.2.2.2.monoQ p t⟩
theorem RKv.mono {κ:Type} (p:φ<+:φ') (t:Kp H H') {x:List (κ×PV)} {v:List (κ×V)} (h:RKv C φ H x v):RKv C φ' H' x v:=Paired.mapP h fun _ _ q=>⟨q.1,q.2.mono p t⟩
theorem RKd.mono (p:φ<+:φ') (t:Kp H H') {x:List (PV×PV)} {v:List (PV×Addr×V)} (h:RKd C φ H x v):RKd C φ' H' x v:=Paired.mapP h fun _ _ q=>⟨q.1,q.2.1,q.2.2.1.mono p t,q.2.2.2.mono p t⟩
theorem RE.mono (p:φ<+:φ') (t:Kp H H') {δ:Ev} {σ:St} (h:RE C φ H δ σ):RE C φ' H' δ σ:=⟨h.1,fun i x e=>let ⟨v,q,r⟩:=h.2 i x e; ⟨v,q,r.mono p t⟩⟩
theorem RE.set {δ:Ev} {σ:St} {x:PV} {v:V} (h:RE C φ H δ σ) (r:RV C φ H x v) (i:Nat):RE C φ H (δ.set i (some x)) (σ.set i (some v)):=by
 refine ⟨by rw [List.length_set,List.length_set]; exact h.1,fun j p e=>?_⟩
 by_cases hj:i=j
 ·subst hj
  by_cases hl:i < δ.length
  ·rw [List.getElem?_set_self hl] at e
   cases e
   exact ⟨v,by rw [List.getElem?_set_self (by rw [<- h.1]; exact hl)],r⟩
  ·rw [List.getElem?_eq_none (by rw [List.length_set]; omega)] at e
   cases e
 ·rw [List.getElem?_set_ne hj] at e
  rw [List.getElem?_set_ne hj]
  exact h.2 j p e
theorem RO.stayQ {a:Addr} {o:MO} (p:φ<+:φ') (t:Kq H H') (e:H' a=H a) (h:RO C φ H a o):RO C φ' H' a o:=by
 cases o with
 | lst ps=>obtain ⟨vs,q,r⟩:=h; exact ⟨vs,e.trans q,r.monoQ p t⟩
 | dK ps=>obtain ⟨vs,q,r⟩:=h; exact ⟨vs,e.trans q,r.monoQ p t⟩
 | ins n fs=>obtain ⟨c,dx,ks,hc,q,r⟩:=h; exact ⟨c,dx,ks,hc,e.trans q,r.monoQ p t⟩
 | dD kvs=>obtain ⟨ks,q,r⟩:=h; exact ⟨ks,e.trans q,r.monoQ p t⟩
 | vw kd d=>obtain ⟨b,hb,q⟩:=h; exact ⟨b,pre_get p hb,e.trans q⟩
 | fz o=>
  cases o with
  | dK kvs=>obtain ⟨ob,ks,q,r⟩:=h; exact ⟨ob,ks,e.trans q,r.monoQ p t⟩
  | dD kvs=>obtain ⟨ob,ks,q,r⟩:=h; exact ⟨ob,ks,e.trans q,r.monoQ p t⟩
  | _=>exact h.elim
theorem RO.stay {a:Addr} {o:MO} (p:φ<+:φ') (t:Kp H H') (e:H' a=H a) (h:RO C φ H a o):RO C φ' H' a o:=h.stayQ p t.q e
theorem RO.some {a:Addr} {o:MO} (h:RO C φ H a o):∃ u,H a=some u:=by
 cases o with
 | lst ps=>obtain ⟨vs,q,r⟩:=h; exact ⟨_,q⟩
 | dK ps=>obtain ⟨vs,q,r⟩:=h; exact ⟨_,q⟩
 | ins n fs=>obtain ⟨c,dx,ks,hc,q,r⟩:=h; exact ⟨_,q⟩
 | dD kvs=>obtain ⟨ks,q,r⟩:=h; exact ⟨_,q⟩
 | vw kd d=>obtain ⟨b,hb,q⟩:=h; exact ⟨_,q⟩
 | fz o=>
  cases o with
  | dK kvs=>obtain ⟨ob,ks,q,r⟩:=h; exact ⟨_,q⟩
  | dD kvs=>obtain ⟨ob,ks,q,r⟩:=h; exact ⟨_,q⟩
  | _=>exact h.elim
theorem RH.get {h:PH} (r:RH C φ H h) {n:Nat} {o:MO} (e:h[n]?=some o):∃ a,φ[n]?=some a/\RO C φ H a o:=by
 have hn:=(List.getElem?_eq_some_iff.mp e).1
 have:n < φ.length:=by rw [r.len]; exact hn
 exact ⟨φ[n],by simp [this],r.at' n _ o (by simp [this]) e⟩
theorem RH.tracked {h:PH} (r:RH C φ H h) {n:Nat} {a:Addr} (e:φ[n]?=some a):∃ u,H a=some u:=by
 have hn:=(List.getElem?_eq_some_iff.mp e).1
 have:n < h.length:=by rw [<- r.len]; exact hn
 exact (r.at' n a h[n] e (by simp [this])).some
theorem RH.aside {h:PH} (r:RH C φ H h) {a:Addr} {o:HO} (e:H a=none):RH C φ (upd H a o) h:=
 ⟨r.len,r.nd,fun n b ob h1 h2=>by
  have q:=r.at' n b ob h1 h2
  obtain ⟨u,hu⟩:=q.some
  exact q.stay (List.prefix_rfl) (Kp.new e) (upd_ne (ne_of_none hu e))⟩
theorem RH.new {h:PH} (r:RH C φ H h) {a:Addr} {u:HO} {o:MO} (e:H a=none) (q:RO C (φ++[a]) (upd H a u) a o):RH C (φ++[a]) (upd H a u) (h++[o]):=by
 refine ⟨by simp [r.len],?_,fun n b ob h1 h2=>?_⟩
 ·rw [List.nodup_append]
  refine ⟨r.nd,by simp,fun x hx y hy z=>?_⟩
  rw [List.mem_singleton] at hy
  subst hy z
  obtain ⟨n,hn⟩:=List.mem_iff_getElem?.mp hx
  obtain ⟨u',hu⟩:=r.tracked hn
  rw [e] at hu; cases hu
 ·by_cases hn:n < φ.length
  ·rw [List.getElem?_append_left hn] at h1
   rw [List.getElem?_append_left (by rw [<- r.len]; exact hn)] at h2
   have q':=r.at' n b ob h1 h2
   obtain ⟨u',hu⟩:=q'.some
   exact q'.stay (List.prefix_append _ _) (Kp.new e) (upd_ne (ne_of_none hu e))
  ·have hn':n=φ.length:=by
    have:=(List.getElem?_eq_some_iff.mp h1).1
    simp at this
    omega
   subst hn'
   rw [List.getElem?_append_right (Nat.le_refl _),Nat.sub_self] at h1
   rw [r.len,List.getElem?_append_right (Nat.le_refl _),Nat.sub_self] at h2
   cases h1
   cases h2
   exact q
theorem RH.write {h:PH} (r:RH C φ H h) {n:Nat} {a:Addr} {u:HO} {o:MO} (e:φ[n]?=some a) (t:NoTup (H a)) (q:RO C φ (upd H a u) a o):RH C φ (upd H a u) (h.set n o):=by
 refine ⟨by rw [List.length_set]; exact r.len,r.nd,fun m b ob h1 h2=>?_⟩
 by_cases hm:n=m
 ·subst hm
  rw [e] at h1; cases h1
  have hl:n < h.length:=by rw [<- r.len]; exact (List.getElem?_eq_some_iff.mp e).1
  rw [List.getElem?_set_self hl] at h2
  cases h2
  exact q
 ·rw [List.getElem?_set_ne hm] at h2
  have hb:b≠a:=fun z=>by
   subst z
   exact hm ((List.getElem?_inj (List.getElem?_eq_some_iff.mp e).1 r.nd).mp (e.trans h1.symm))
  exact (r.at' m b ob h1 h2).stay List.prefix_rfl (Kp.upd t) (upd_ne hb)
end
section
variable (C:MC) (φ:List Addr) (H:Hp)
def post (r:Rs PV) (Q:VK):Prop:=match r with
 | .ok p h=>∀ φ' v H',φ<+:φ'->Kp H H'->RH C φ' H' h->RV C φ' H' p v->Q v H'
 | .exc x h=>∀ φ' H',φ<+:φ'->Kp H H'->RH C φ' H' h->C.ex φ' H' x
 | .bad=>False
def postB (r:Rs Bool) (Q:Bool->Hp->Prop):Prop:=match r with
 | .ok b h=>∀ φ' H',φ<+:φ'->Kp H H'->RH C φ' H' h->Q b H'
 | .exc x h=>∀ φ' H',φ<+:φ'->Kp H H'->RH C φ' H' h->C.ex φ' H' x
 | .bad=>False
def postA (r:Rs (List PV)) (Q:List V->Hp->Prop):Prop:=match r with
 | .ok ps h=>∀ φ' vs H',φ<+:φ'->Kp H H'->RH C φ' H' h->RVs C φ' H' ps vs->Q vs H'
 | .exc x h=>∀ φ' H',φ<+:φ'->Kp H H'->RH C φ' H' h->C.ex φ' H' x
 | .bad=>False
def postS (r:Fl) (D:Ends):Prop:=match r with
 | .nx δ h=>∀ φ' σ H',φ<+:φ'->Kp H H'->RH C φ' H' h->RE C φ' H' δ σ->D.nx σ H'
 | .rt p h=>∀ φ' v H',φ<+:φ'->Kp H H'->RH C φ' H' h->RV C φ' H' p v->D.rt v H'
 | .bk δ h=>∀ φ' σ H',φ<+:φ'->Kp H H'->RH C φ' H' h->RE C φ' H' δ σ->D.bk σ H'
 | .ct δ h=>∀ φ' σ H',φ<+:φ'->Kp H H'->RH C φ' H' h->RE C φ' H' δ σ->D.ct σ H'
 | .exc x h=>∀ φ' H',φ<+:φ'->Kp H H'->RH C φ' H' h->C.ex φ' H' x
 | .bad=>False
end
section
variable {C:MC} {φ φ1:List Addr} {H H1:Hp}
theorem post.weak {r:Rs PV} {Q:VK} (p:φ<+:φ1) (t:Kp H H1) (h:post C φ H r Q):post C φ1 H1 r Q:=by
 cases r with
 | ok a h'=>exact fun φ' v H' p' t'=>h φ' v H' (p.trans p') (t.trans t')
 | exc a h'=>exact fun φ' H' p' t'=>h φ' H' (p.trans p') (t.trans t')
 | bad=>exact h
theorem postB.weak {r:Rs Bool} {Q:Bool->Hp->Prop} (p:φ<+:φ1) (t:Kp H H1) (h:postB C φ H r Q):postB C φ1 H1 r Q:=by
 cases r with
 | ok a h'=>exact fun φ' H' p' t'=>h φ' H' (p.trans p') (t.trans t')
 | exc a h'=>exact fun φ' H' p' t'=>h φ' H' (p.trans p') (t.trans t')
 | bad=>exact h
theorem postA.weak {r:Rs (List PV)} {Q:List V->Hp->Prop} (p:φ<+:φ1) (t:Kp H H1) (h:postA C φ H r Q):postA C φ1 H1 r Q:=by
 cases r with
 | ok a h'=>exact fun φ' v H' p' t'=>h φ' v H' (p.trans p') (t.trans t')
 | exc a h'=>exact fun φ' H' p' t'=>h φ' H' (p.trans p') (t.trans t')
 | bad=>exact h
theorem postS.weak {r:Fl} {D:Ends} (p:φ<+:φ1) (t:Kp H H1) (h:postS C φ H r D):postS C φ1 H1 r D:=by
 cases r with
 | nx a h'=>exact fun φ' v H' p' t'=>h φ' v H' (p.trans p') (t.trans t')
 | rt a h'=>exact fun φ' v H' p' t'=>h φ' v H' (p.trans p') (t.trans t')
 | bk a h'=>exact fun φ' v H' p' t'=>h φ' v H' (p.trans p') (t.trans t')
 | ct a h'=>exact fun φ' v H' p' t'=>h φ' v H' (p.trans p') (t.trans t')
 | exc a h'=>exact fun φ' H' p' t'=>h φ' H' (p.trans p') (t.trans t')
 | bad=>exact h
theorem post.imp {r:Rs PV} {Q Q':VK} (h:post C φ H r Q) (i:∀ v H',Q v H'->Q' v H'):post C φ H r Q':=by
 cases r with
 | ok a h'=>exact fun φ' v H' p t rh rv=>i v H' (h φ' v H' p t rh rv)
 | exc a h'=>exact h
 | bad=>exact h
theorem post.bind {r:Rs PV} {f:PV->PH->Rs PV} {Q:VK} (h:post C φ H (r.bind f) Q):post C φ H r fun v H1=>∃ φ1 p h1,φ<+:φ1/\Kp H H1/\RH C φ1 H1 h1/\RV C φ1 H1 p v/\post C φ1 H1 (f p h1) Q:=by
 cases r with
 | ok a h'=>exact fun φ' v H' p t rh rv=>⟨φ',a,h',p,t,rh,rv,post.weak p t h⟩
 | exc a h'=>exact h
 | bad=>exact h
theorem post.bindB {r:Rs PV} {f:PV->PH->Rs Bool} {Q:Bool->Hp->Prop} (h:postB C φ H (r.bind f) Q):post C φ H r fun v H1=>∃ φ1 p h1,φ<+:φ1/\Kp H H1/\RH C φ1 H1 h1/\RV C φ1 H1 p v/\postB C φ1 H1 (f p h1) Q:=by
 cases r with
 | ok a h'=>exact fun φ' v H' p t rh rv=>⟨φ',a,h',p,t,rh,rv,postB.weak p t h⟩
 | exc a h'=>exact h
 | bad=>exact h
theorem postB.bind {r:Rs Bool} {f:Bool->PH->Rs PV} {Q:VK} (h:post C φ H (r.bind f) Q):postB C φ H r fun b H1=>∃ φ1 h1,φ<+:φ1/\Kp H H1/\RH C φ1 H1 h1/\post C φ1 H1 (f b h1) Q:=by
 cases r with
 | ok a h'=>exact fun φ' H' p t rh=>⟨φ',h',p,t,rh,post.weak p t h⟩
 | exc a h'=>exact h
 | bad=>exact h
theorem postB.bindB {r:Rs Bool} {f:Bool->PH->Rs Bool} {Q:Bool->Hp->Prop} (h:postB C φ H (r.bind f) Q):postB C φ H r fun b H1=>∃ φ1 h1,φ<+:φ1/\Kp H H1/\RH C φ1 H1 h1/\postB C φ1 H1 (f b h1) Q:=by
 cases r with
 | ok a h'=>exact fun φ' H' p t rh=>⟨φ',h',p,t,rh,postB.weak p t h⟩
 | exc a h'=>exact h
 | bad=>exact h
theorem postA.bind {r:Rs (List PV)} {f:List PV->PH->Rs PV} {Q:VK} (h:post C φ H (r.bind f) Q):postA C φ H r fun vs H1=>∃ φ1 ps h1,φ<+:φ1/\Kp H H1/\RH C φ1 H1 h1/\RVs C φ1 H1 ps vs/\post C φ1 H1 (f ps h1) Q:=by
 cases r with
 | ok a h'=>exact fun φ' v H' p t rh rv=>⟨φ',a,h',p,t,rh,rv,post.weak p t h⟩
 | exc a h'=>exact h
 | bad=>exact h
theorem postA.bindA {r:Rs (List PV)} {f:List PV->PH->Rs (List PV)} {Q:List V->Hp->Prop} (h:postA C φ H (r.bind f) Q):postA C φ H r fun vs H1=>∃ φ1 ps h1,φ<+:φ1/\Kp H H1/\RH C φ1 H1 h1/\RVs C φ1 H1 ps vs/\postA C φ1 H1 (f ps h1) Q:=by
 cases r with
 | ok a h'=>exact fun φ' v H' p t rh rv=>⟨φ',a,h',p,t,rh,rv,postA.weak p t h⟩
 | exc a h'=>exact h
 | bad=>exact h
theorem post.bindA {r:Rs PV} {f:PV->PH->Rs (List PV)} {Q:List V->Hp->Prop} (h:postA C φ H (r.bind f) Q):post C φ H r fun v H1=>∃ φ1 p h1,φ<+:φ1/\Kp H H1/\RH C φ1 H1 h1/\RV C φ1 H1 p v/\postA C φ1 H1 (f p h1) Q:=by
 cases r with
 | ok a h'=>exact fun φ' v H' p t rh rv=>⟨φ',a,h',p,t,rh,rv,postA.weak p t h⟩
 | exc a h'=>exact h
 | bad=>exact h
theorem post.val {p:PV} {v:V} {h:PH} {Q:VK} (q:post C φ H (.ok p h) Q) (rh:RH C φ H h) (rv:RV C φ H p v):Q v H:=q φ v H List.prefix_rfl (Kp.refl H) rh rv
end
end L2
set_option Elab.async false
set_option linter.all false
set_option maxRecDepth 100000
namespace L2
open PySem PySem.Spec PyProof.Rows
structure Cxt (C:MC) (k:Nat) (X:Cx):Prop where
 K:X.K=C.K
 calm:X.calm=true
 room:Room k X.A
 bn:∀ x∈C.bs,X.mg x=none
 w:X.w=C.w
theorem Cxt.hu {C:MC} {k:Nat} {X:Cx} (c:Cxt C k X):X.A.units+1 < cLine:=hu_of c.room
theorem Cxt.hu64 {C:MC} {k:Nat} {X:Cx} (c:Cxt C k X):X.A.units+64 < cLine:=c.room.units
theorem Cxt.comp {C:MC} {k:Nat} {X:Cx} (c:Cxt C k X) (sc:Scope) (N:List Str) (a:Addr) (fp:List Addr) (s:Shared) (H:Hp):Cxt C k (X.comp sc N a fp s H):=⟨c.K,c.calm,c.room,c.bn,c.w⟩
section
variable (C:MC)
def rd (m:Me):TE:=fun σ H Q=>∃ φ δ h,RH C φ H h/\RE C φ H δ σ/\post C φ H (m δ h) Q
def rdB (m:Ev->PH->Rs Bool):TT:=fun σ H Q=>∃ φ δ h,RH C φ H h/\RE C φ H δ σ/\postB C φ H (m δ h) Q
def rdA (m:Ev->PH->Rs (List PV)):TA:=fun σ H Q=>∃ φ δ h,RH C φ H h/\RE C φ H δ σ/\postA C φ H (m δ h) Q
def rdS (m:Ms):TS:=fun D σ H=>∃ φ δ h,RH C φ H h/\RE C φ H δ σ/\postS C φ H (m δ h) D
def r2 (g:PV->PV->PH->Rs PV):R2:=fun x y H Q=>∃ φ h p q,RH C φ H h/\RV C φ H p x/\RV C φ H q y/\post C φ H (g p q h) Q
def r1 (g:PV->PH->Rs PV):V->Hp->VK->Prop:=fun x H Q=>∃ φ h p,RH C φ H h/\RV C φ H p x/\post C φ H (g p h) Q
def rL (g:List PV->PH->Rs PV):List V->Hp->VK->Prop:=fun xs H Q=>∃ φ h ps,RH C φ H h/\RVs C φ H ps xs/\post C φ H (g ps h) Q
end
variable {C:MC} {k:Nat} {X:Cx}
def SE (C:MC) (k:Nat) (X:Cx) (e:Expr) (m:Me):Prop:=Cxt C k X->PE X e (rd C m)
def ST (C:MC) (k:Nat) (X:Cx) (e:Expr) (m:Ev->PH->Rs Bool):Prop:=Cxt C k X->PT X e (rdB C m)
def SA (C:MC) (k:Nat) (X:Cx) (es:List Expr) (m:Ev->PH->Rs (List PV)):Prop:=Cxt C k X->PA X es (rdA C m)
def SSt (C:MC) (k:Nat) (X:Cx) (st:Stmt) (m:Ms):Prop:=Cxt C k X->PS X st (rdS C m)
def SSs (C:MC) (k:Nat) (X:Cx) (st:List Stmt) (m:Ms):Prop:=Cxt C k X->PSs X st (rdS C m)
def OpS (C:MC) (k:Nat) (X:Cx) (f:Value->Value->Sem Value) (g:PV->PV->PH->Rs PV):Prop:=Cxt C k X->OpR X f (r2 C g)
def UnS (C:MC) (k:Nat) (X:Cx) (f:Value->Sem Value) (g:PV->PH->Rs PV):Prop:=Cxt C k X->UnR X f (r1 C g)
def CallS (C:MC) (k:Nat) (X:Cx) (f:Value) (g:List PV->PH->Rs PV):Prop:=Cxt C k X->CallR X f (rL C g)
def evAt:Ev->Nat->Option PV
 | [],_=>none
 | x :: _,0=>x
 | _ :: r,n+1=>evAt r n
@[simp] theorem evAt_zero (x:Option PV) (r:Ev):evAt (x :: r) 0=x:=(rfl)
@[simp] theorem evAt_succ (x:Option PV) (r:Ev) (n:Nat):evAt (x :: r) (n+1)=evAt r n:=(rfl)
theorem evAt_get:∀ {δ:Ev} {i:Nat} {p:PV},evAt δ i=some p->δ[i]?=some (some p)
 | [],_,_,h=>by cases h
 | x :: _,0,p,h=>by
  have h':x=some p:=h
  simp [h']
 | _ :: r,n+1,p,h=>by
  rw [List.getElem?_cons_succ]
  exact evAt_get (δ:=r) (i:=n) h
def mV (i:Nat):Me:=fun δ h=>match evAt δ i with
 | some p=>.ok p h
 | none=>.bad
def mC (p:PV):Me:=fun _ h=>.ok p h
theorem s_var (i:Nat) {x:Str} {pos:Pos} (hN:X.N[i]?=some x:=by rfl) (hv:Vis X.env.scope x:=by first | exact Or.inl rfl | exact Or.inr (Or.inl rfl) | exact Or.inr (Or.inr rfl)) (hd:(x == ("__debug__" : Str))=false:=by decide)
  (hcd:(x == ("__classdict__" : Str))=false:=by decide):SE C k X (.Name x pos) (mV i):=fun _=>by
 refine (pe_var hN hv hd hcd).imp fun σ H Q h=>?_
 obtain ⟨φ,δ,h,rh,re,p⟩:=h
 unfold mV at p
 cases e:evAt δ i with
 | none=>rw [e] at p; exact p.elim
 | some x=>
  rw [e] at p
  obtain ⟨v,hv,rv⟩:=re.2 i x (evAt_get e)
  exact ⟨v,hv,p.val rh rv⟩
theorem s_int {i j pos}:SE C k X (.Constant (.int i) j pos) (mC (.int i)):=fun _=>pe_int.imp fun σ H Q ⟨φ,δ,h,rh,re,p⟩=>p.val rh rfl
theorem s_bl {i j pos}:SE C k X (.Constant (.bool i) j pos) (mC (.bl i)):=fun _=>pe_bl.imp fun σ H Q ⟨φ,δ,h,rh,re,p⟩=>p.val rh rfl
theorem s_non {j pos}:SE C k X (.Constant .none j pos) (mC .non):=fun _=>pe_non.imp fun σ H Q ⟨φ,δ,h,rh,re,p⟩=>p.val rh rfl
theorem s_str {i j pos}:SE C k X (.Constant (.str i) j pos) (mC (.str i)):=fun _=>pe_str.imp fun σ H Q ⟨φ,δ,h,rh,re,p⟩=>p.val rh rfl
theorem s_bltn {x:Str} {n:String} {pos:Pos} (hv:bootBuiltins x=some (.type n)) (hb:x∈C.bs:=by decide) (hg:Gl X x:=by rfl) (hn:x≠"__name__" := by decide) (hd:(x == ("__debug__" : Str))=false:=by decide):SE C k X (.Name x pos) (mC (.ty n)):=fun c=>
 (pe_bltn (v:=.ty n) hg (c.bn x hb) hv rfl hn hd).imp fun σ H Q ⟨φ,δ,h,rh,re,p⟩=>p.val rh rfl
def mBin (g:PV->PV->PH->Rs PV) (ma mb:Me):Me:=fun δ h=>(ma δ h).bind fun x h1=>(mb δ h1).bind fun y h2=>g x y h2
theorem rd_op {g:PV->PV->PH->Rs PV} {ma mb:Me} {σ:St} {H:Hp} {Q:VK} (h:rd C (mBin g ma mb) σ H Q):tOp (r2 C g) (rd C ma) (rd C mb) σ H Q:=by
 obtain ⟨φ,δ,h,rh,re,p⟩:=h
 refine ⟨φ,δ,h,rh,re,(post.bind p).imp ?_⟩
 rintro v H1 ⟨φ1,x,h1,p1,t1,rh1,rv1,q1⟩
 refine ⟨φ1,δ,h1,rh1,re.mono p1 t1,(post.bind q1).imp ?_⟩
 rintro u H2 ⟨φ2,y,h2,p2,t2,rh2,rv2,q2⟩
 exact ⟨φ2,h2,x,y,rh2,rv1.mono p2 t2,rv2,q2⟩
section
variable {a b e:Expr} {ma mb:Me} {g:PV->PV->PH->Rs PV} {pos:Pos}
theorem s_bin {op:Operator} (ho:OpS C k X (binaryOp op) g) (ha:SE C k X a ma) (hb:SE C k X b mb):SE C k X (.BinOp a op b pos) (mBin g ma mb):=fun c=>
 (pe_op (ho c) (ha c) (hb c)).imp fun σ H Q h=>rd_op h
theorem s_cmp {op:CmpOp} (ho:OpS C k X (compareOp op) g) (ha:SE C k X a ma) (hb:SE C k X b mb) (hm:behindInMarks op b=false:=by first | exact nomark _ | rfl):SE C k X (.Compare a [op] [b] pos) (mBin g ma mb):=fun c=>
 (pe_cmpR (ho c) (ha c) (hb c) hm).imp fun σ H Q h=>rd_op h
def mUn (g:PV->PH->Rs PV) (ma:Me):Me:=fun δ h=>(ma δ h).bind g
theorem s_un {op:UnaryOp} {g:PV->PH->Rs PV} (ho:UnS C k X (unaryOp op) g) (ha:SE C k X a ma):SE C k X (.UnaryOp op a pos) (mUn g ma):=fun c=>
 (pe_un (ho c) (ha c)).imp fun σ H Q h=>by
  obtain ⟨φ,δ,h,rh,re,p⟩:=h
  refine ⟨φ,δ,h,rh,re,(post.bind p).imp ?_⟩
  rintro v H1 ⟨φ1,x,h1,p1,t1,rh1,rv1,q1⟩
  exact ⟨φ1,h1,x,rh1,rv1,q1⟩
end
def lstAt (h:PH) (n:Nat):Option (List PV):=match h[n]? with
 | some (.lst xs)=>some xs
 | _=>none
theorem lstAt_sq {φ:List Addr} {H:Hp} {h:PH} {n:Nat} {xs:List PV} (rh:RH C φ H h) (e:lstAt h n=some xs):∃ a vs,φ[n]?=some a/\SqL C.K H a vs/\RVs C φ H xs vs:=by
 unfold lstAt at e
 cases q:h[n]? with
 | none=>rw [q] at e; cases e
 | some o=>
  rw [q] at e
  obtain ⟨a,ha,ro⟩:=rh.get q
  cases o with
  | lst ys=>cases e; obtain ⟨vs,q',r⟩:=ro; exact ⟨a,vs,ha,SqL.of q',r⟩
  | _=>cases e
def isLst (h:PH) (n:Nat):Option (List PV):=match h[n]? with
 | some (.lst xs)=>some xs
 | _=>none
theorem isLst_eq {h:PH} {n:Nat} {xs:List PV} (e:isLst h n=some xs):h[n]?=some (.lst xs):=by
 unfold isLst at e
 cases q:h[n]? with
 | none=>rw [q] at e; cases e
 | some o=>
  rw [q] at e
  cases o with
  | lst ys=>cases e; rfl
  | _=>cases e
def seqAt (x:PV) (h:PH):Option (List PV):=match x with
 | .ref n=>lstAt h n
 | .fl xs=>some xs
 | _=>none
theorem seqAt_sq {φ:List Addr} {H:Hp} {h:PH} {x:PV} {v:V} {xs:List PV} (rh:RH C φ H h) (rv:RV C φ H x v) (e:seqAt x h=some xs):∃ a vs,v=.ref a/\SqL C.K H a vs/\RVs C φ H xs vs:=by
 cases x with
 | ref n=>
  obtain ⟨a,rfl,ha⟩:=rv
  obtain ⟨a2,vs,ha2,sa,ra⟩:=lstAt_sq rh e
  rw [ha] at ha2; cases ha2
  exact ⟨a,vs,rfl,sa,ra⟩
 | fl ys=>
  cases e
  obtain ⟨a,vs,rfl,sa,ra⟩:=rv
  exact ⟨a,vs,rfl,sa.sq,ra⟩
 | _=>cases e
def isEmp:List PV->Bool
 | []=>true
 | _ :: _=>false
def vAdd:PV->PV->PH->Rs PV:=fun x y h=>match x,y with
 | .int i,.int j=>.ok (.int (i+j)) h
 | .str i,.str j=>if i.length+j.length<=sizeLine then .ok (.str (i++j)) h else .bad
 | .tup xs,.tup ys=>if isEmp xs=false/\xs.length+ys.length<=sizeLine then .ok (.tup (xs++ys)) h else .bad
 | .ref a,.ref b=>match isLst h a,isLst h b with
  | some xs,some ys=>if xs.length+ys.length<=sizeLine then .ok (.ref h.length) (h++[.lst (xs++ys)]) else .bad
  | _,_=>.bad
 | _,_=>.bad
theorem post.ite {φ:List Addr} {H:Hp} {c:Prop} [Decidable c] {r:Rs PV} {Q:VK} (h:post C φ H (if c then r else .bad) Q):c/\post C φ H r Q:=by
 by_cases hc:c
 ·rw [if_pos hc] at h; exact ⟨hc,h⟩
 ·rw [if_neg hc] at h; exact h.elim
theorem post.lnew {φ:List Addr} {H:Hp} {h:PH} {xs:List PV} {vs:List V} {Q:VK} (q:post C φ H (.ok (.ref h.length) (h++[.lst xs])) Q) (rh:RH C φ H h) (r:RVs C φ H xs vs) {p:Addr} (hp:H p=none):Q (.ref p) (upd H p (.lst vs)):=
 q (φ++[p]) (.ref p) _ (List.prefix_append _ _) (Kp.new hp) (rh.new hp ⟨vs,upd_same,r.mono (List.prefix_append _ _) (Kp.new hp)⟩) ⟨p,rfl,by rw [<- rh.len]; simp⟩
theorem post.tnew {φ:List Addr} {H:Hp} {h:PH} {xs:List PV} {vs:List V} {Q:VK} (q:post C φ H (.ok (.tup xs) h) Q) (rh:RH C φ H h) (r:RVs C φ H xs vs) {p:Addr} (hp:H p=none):Q (.ref p) (upd H p (.tup vs)):=
 q φ (.ref p) _ List.prefix_rfl (Kp.new hp) (rh.aside hp) ⟨p,vs,rfl,SqT.of upd_same,r.mono List.prefix_rfl (Kp.new hp)⟩
theorem post.lset {φ:List Addr} {H:Hp} {h:PH} {n:Nat} {a:Addr} {p:PV} {v:V} {xs:List PV} {ws vs:List V} {Q:VK} (q:post C φ H (.ok p (h.set n (.lst xs))) Q) (rh:RH C φ H h) (e:φ[n]?=some a) (hl:H a=some (.lst ws)) (r:RVs C φ H xs vs) (rv:RV C φ H p v):Q v (upd H a (.lst vs)):=
 q φ v _ List.prefix_rfl (Kp.lst hl) (rh.write e (by rw [hl]; trivial) ⟨vs,upd_same,r.mono List.prefix_rfl (Kp.lst hl)⟩) (rv.mono List.prefix_rfl (Kp.lst hl))
theorem isEmp_ne {xs:List PV} {vs:List V} {φ:List Addr} {H:Hp} (r:RVs C φ H xs vs) (h:isEmp xs=false):vs≠[]:=by
 cases xs with
 | nil=>cases h
 | cons x xs=>
  cases vs with
  | nil=>exact r.elim
  | cons=>intro z; cases z
theorem o_add:OpS C k X (binaryOp .Add) vAdd:=fun c=>(op_addC C.K c.K).imp fun x y H Q h=>by
 obtain ⟨φ,h,p,q,rh,rx,ry,po⟩:=h
 unfold vAdd at po
 cases p with
 | int i=>
  cases q with
  | int j=>cases rx; cases ry; exact po.val rh rfl
  | _=>exact po.elim
 | str i=>
  cases q with
  | str j=>cases rx; cases ry; exact ⟨po.ite.1,po.ite.2.val rh rfl⟩
  | _=>exact po.elim
 | tup xs=>
  cases q with
  | tup ys=>
   obtain ⟨a,vs,rfl,sa,ra⟩:=rx
   obtain ⟨b,us,rfl,sb,rb⟩:=ry
   obtain ⟨⟨h1,h2⟩,po⟩:=po.ite
   refine .inr ⟨a,b,vs,us,rfl,rfl,sa,sb,isEmp_ne ra h1,by rw [<- ra.length,<- rb.length]; exact h2,fun z=>?_,fun z p hp=>po.tnew rh (ra.append rb) hp⟩
   subst z
   have e:ys=[]:=List.eq_nil_of_length_eq_zero rb.length
   subst e
   exact po.val rh ⟨a,vs,rfl,sa,by rw [List.append_nil]; exact ra⟩
  | _=>exact po.elim
 | ref n=>
  cases q with
  | ref m=>
   obtain ⟨a,rfl,ha⟩:=rx
   obtain ⟨b,rfl,hb⟩:=ry
   dsimp only at po
   cases e1:isLst h n with
   | none=>rw [e1] at po; exact po.elim
   | some xs=>
    cases e2:isLst h m with
    | none=>rw [e1,e2] at po; exact po.elim
    | some ys=>
     rw [e1,e2] at po
     obtain ⟨vs,h1,r1⟩:=rh.at' n a _ ha (isLst_eq e1)
     obtain ⟨us,h2,r2⟩:=rh.at' m b _ hb (isLst_eq e2)
     obtain ⟨hz,po⟩:=po.ite
     exact .inl ⟨a,b,vs,us,rfl,rfl,h1,h2,by rw [<- r1.length,<- r2.length]; exact hz,fun p hp=>po.lnew rh (r1.append r2) hp⟩
  | _=>exact po.elim
 | _=>exact po.elim
def vInt (P:Int->Int->Prop) [∀ i j,Decidable (P i j)] (f:Int->Int->Int):PV->PV->PH->Rs PV:=fun x y h=>match x,y with
 | .int i,.int j=>if P i j then .ok (.int (f i j)) h else .bad
 | _,_=>.bad
theorem o_int {f:Value->Value->Sem Value} {P:Int->Int->Prop} [∀ i j,Decidable (P i j)] {g:Int->Int->Int} (ho:OpR X f (rIntC P g)):OpS C k X f (vInt P g):=fun c=>ho.imp fun x y H Q h=>by
 obtain ⟨φ,h,p,q,rh,rx,ry,po⟩:=h
 unfold vInt at po
 cases p with
 | int i=>
  cases q with
  | int j=>cases rx; cases ry; exact ⟨po.ite.1,po.ite.2.val rh rfl⟩
  | _=>exact po.elim
 | _=>exact po.elim
noncomputable instance (i j:Int):Decidable (CMul i j):=Classical.propDecidable _
noncomputable instance (i j:Int):Decidable (CDiv i j):=Classical.propDecidable _
noncomputable instance (i j:Int):Decidable (CPow i j):=Classical.propDecidable _
def vSub:PV->PV->PH->Rs PV:=fun x y h=>match x,y with
 | .int i,.int j=>.ok (.int (i - j)) h
 | _,_=>.bad
theorem o_sub:OpS C k X (binaryOp .Sub) vSub:=fun c=>op_subC.imp fun x y H Q h=>by
 obtain ⟨φ,h,p,q,rh,rx,ry,po⟩:=h
 unfold vSub at po
 cases p with
 | int i=>
  cases q with
  | int j=>cases rx; cases ry; exact po.val rh rfl
  | _=>exact po.elim
 | _=>exact po.elim
noncomputable abbrev vMul:=vInt CMul fun i j=>i*j
noncomputable abbrev vDiv:=vInt CDiv fun i j=>i / j
abbrev vMod:=vInt (fun _ j=>0 < j) fun i j=>i % j
noncomputable abbrev vPow:=vInt CPow fun i j=>i ^ j.toNat
theorem o_mul:OpS C k X (binaryOp .Mult) vMul:=o_int op_mulC
theorem o_div:OpS C k X (binaryOp .FloorDiv) vDiv:=o_int op_divC
theorem o_mod:OpS C k X (binaryOp .Mod) vMod:=o_int op_modC
theorem o_pow:OpS C k X (binaryOp .Pow) vPow:=o_int op_powC
def vNeg:PV->PH->Rs PV:=fun x h=>match x with
 | .int i=>.ok (.int (-i)) h
 | _=>.bad
end L2
set_option Elab.async false
set_option linter.all false
set_option maxRecDepth 100000
namespace L2
open PySem PySem.Spec PyProof.Rows
variable {C:MC} {k:Nat} {X:Cx}
def vCmp (f:Int->Int->Bool) (g:List Nat->List Nat->Bool):PV->PV->PH->Rs PV:=fun x y h=>match x,y with
 | .int i,.int j=>.ok (.bl (f i j)) h
 | .str i,.str j=>.ok (.bl (g i.cps.toList j.cps.toList)) h
 | _,_=>.bad
theorem o_cmp {f:Value->Value->Sem Value} {p:Int->Int->Bool} {g:List Nat->List Nat->Bool} (ho:OpR X f (rCmpC p g)):OpS C k X f (vCmp p g):=fun c=>ho.imp fun x y H Q h=>by
 obtain ⟨φ,h,p,q,rh,rx,ry,po⟩:=h
 unfold vCmp at po
 cases p with
 | int i=>
  cases q with
  | int j=>cases rx; cases ry; exact po.val rh rfl
  | _=>exact po.elim
 | str i=>
  cases q with
  | str j=>cases rx; cases ry; exact po.val rh rfl
  | _=>exact po.elim
 | _=>exact po.elim
abbrev vLt:=vCmp (fun i j=>decide (i < j)) fun i j=>decide (i < j)
abbrev vGt:=vCmp (fun i j=>decide (j < i)) fun i j=>decide (j < i)
abbrev vGe:=vCmp (fun i j=>decide (j<=i)) fun i j=>!decide (i < j)
theorem o_lt:OpS C k X (compareOp .Lt) vLt:=o_cmp op_ltC
theorem o_gt:OpS C k X (compareOp .Gt) vGt:=o_cmp op_gtC
theorem o_ge:OpS C k X (compareOp .GtE) vGe:=o_cmp op_geC
mutual
def PV.d:PV->Option D
 | .non=>some .non
 | .bl b=>some (.bl b)
 | .int i=>some (.int i)
 | .str x=>some (.str x)
 | .tup xs=>match PV.ds xs with
  | some ds=>some (.tup ds)
  | none=>none
 | .ref _=>none
 | .ty _=>none
 | .fl _=>none
def PV.ds:List PV->Option (List D)
 | []=>some []
 | x :: xs=>match PV.d x,PV.ds xs with
  | some d,some ds=>some (d :: ds)
  | _,_=>none
end
section
variable {φ:List Addr} {H:Hp}
mutual
theorem RV.rep:∀ {x:PV} {d:D} {v:V},RV C φ H x v->x.d=some d->Rep C.K H d v
 | .non,_,_,h,e=>by cases e; exact h
 | .bl _,_,_,h,e=>by cases e; exact h
 | .int _,_,_,h,e=>by cases e; exact h
 | .str _,_,_,h,e=>by cases e; exact h
 | .tup xs,d,v,⟨a,vs,e1,q,r⟩,e=>by
  unfold PV.d at e
  cases e2:PV.ds xs with
  | none=>rw [e2] at e; cases e
  | some ds=>
   rw [e2] at e
   cases e
   exact ⟨a,vs,e1,q,RVs.reps r e2⟩
 | .ref _,_,_,_,e=>by cases e
 | .ty _,_,_,_,e=>by cases e
 | .fl _,_,_,_,e=>by cases e
theorem RVs.reps:∀ {xs:List PV} {ds:List D} {vs:List V},RVs C φ H xs vs->PV.ds xs=some ds->Reps C.K H ds vs
 | [],_,[],_,e=>by cases e; trivial
 | x :: xs,_,v :: vs,⟨h,r⟩,e=>by
  unfold PV.ds at e
  cases e1:PV.d x with
  | none=>rw [e1] at e; cases e
  | some d=>
   cases e2:PV.ds xs with
   | none=>rw [e1,e2] at e; cases e
   | some ds=>
    rw [e1,e2] at e
    cases e
    exact ⟨RV.rep h e1,RVs.reps r e2⟩
 | [],_,_ :: _,h,_=>h.elim
 | _ :: _,_,[],h,_=>h.elim
end
end
def eqV2 (x y:PV) (h:PH):Option Bool:=match x.d,y.d with
 | some d,some e=>if d.depth<=40 then some (eqD d e) else none
 | _,_=>match seqAt x h,seqAt y h with
   | some xs,some ys=>match PV.ds xs,PV.ds ys with
    | some ds,some es=>if D.depths ds<=40 then some (eqDs ds es) else none
    | _,_=>none
   | _,_=>none
def ofB (o:Option Bool) (h:PH):Rs PV:=match o with
 | some b=>.ok (.bl b) h
 | none=>.bad
def vEq:PV->PV->PH->Rs PV:=fun x y h=>ofB (eqV2 x y h) h
def vNe:PV->PV->PH->Rs PV:=fun x y h=>ofB ((eqV2 x y h).map not) h
theorem eqV2_sound {φ:List Addr} {H:Hp} {h:PH} {p q:PV} {x y:V} {b:Bool} (rh:RH C φ H h) (rx:RV C φ H p x) (ry:RV C φ H q y) (e:eqV2 p q h=some b):
  (∃ d e,Rep C.K H d x/\Rep C.K H e y/\d.depth<=40/\b=eqD d e)\/(∃ ds es,RepL C.K H ds x/\RepL C.K H es y/\D.depths ds<=40/\b=eqDs ds es):=by
 unfold eqV2 at e
 split at e
 ·rename_i d e' h1 h2
  split at e
  ·rename_i hd
   cases e
   exact .inl ⟨d,e',rx.rep h1,ry.rep h2,hd,rfl⟩
  ·cases e
 ·split at e
  ·rename_i xs ys h1 h2
   split at e
   ·rename_i ds es h3 h4
    split at e
    ·rename_i hd
     cases e
     obtain ⟨a',vs,rfl,sa,ra⟩:=seqAt_sq rh rx h1
     obtain ⟨b'',us,rfl,sb,rb⟩:=seqAt_sq rh ry h2
     exact .inr ⟨ds,es,⟨a',vs,rfl,sa,ra.reps h3⟩,⟨b'',us,rfl,sb,rb.reps h4⟩,hd,rfl⟩
    ·cases e
   ·cases e
  ·cases e
theorem post.ofB {φ:List Addr} {H:Hp} {h:PH} {o:Option Bool} {Q:VK} (q:post C φ H (ofB o h) Q):∃ b,o=some b/\post C φ H (.ok (.bl b) h) Q:=by
 cases o with
 | none=>exact q.elim
 | some b=>exact ⟨b,rfl,q⟩
theorem o_eq:OpS C k X (compareOp .Eq) vEq:=fun c=>((op_eqD c.hu64 C.K c.K).or (op_eqL c.hu64 C.K c.K)).imp fun x y H Q h=>by
 obtain ⟨φ,h,p,q,rh,rx,ry,po⟩:=h
 obtain ⟨b,e,po⟩:=po.ofB
 rcases eqV2_sound rh rx ry e with ⟨d,e',h1,h2,h3,rfl⟩ | ⟨d,e',h1,h2,h3,rfl⟩
 ·exact .inl ⟨d,e',h1,h2,h3,po.val rh rfl⟩
 ·exact .inr ⟨d,e',h1,h2,h3,po.val rh rfl⟩
theorem o_ne:OpS C k X (compareOp .NotEq) vNe:=fun c=>((op_neD c.hu64 C.K c.K).or (op_neL c.hu64 C.K c.K)).imp fun x y H Q h=>by
 obtain ⟨φ,h,p,q,rh,rx,ry,po⟩:=h
 obtain ⟨b,e,po⟩:=po.ofB
 cases e0:eqV2 p q h with
 | none=>rw [e0] at e; cases e
 | some b'=>
  rw [e0] at e
  cases e
  rcases eqV2_sound rh rx ry e0 with ⟨d,e',h1,h2,h3,rfl⟩ | ⟨d,e',h1,h2,h3,rfl⟩
  ·exact .inl ⟨d,e',h1,h2,h3,po.val rh rfl⟩
  ·exact .inr ⟨d,e',h1,h2,h3,po.val rh rfl⟩
def keyP:PV->Option Key
 | .int i=>some (.inl i)
 | .str x=>some (.inr x)
 | _=>none
def dLook {κ:Type} [DecidableEq κ]:List (κ×PV)->κ->Option PV
 | [],_=>none
 | (a,p) :: r,b=>if a=b then some p else dLook r b
def dGet (h:PH) (n:Nat) (x:PV):Option (Option PV):=match h[n]? with
 | some (.dK kvs)=>match keyP x with
  | some key=>some (dLook kvs key)
  | none=>none
 | _=>none
def anyIn (x:PV) (ys:List PV):Option Bool:=match x.d,PV.ds ys with
 | some d,some ds=>if D.depths ds<=40 then some (ds.any fun e=>eqD e d) else none
 | _,_=>none
def inV2 (x y:PV) (h:PH):Option Bool:=match y with
 | .tup ys=>anyIn x ys
 | .ref n=>match lstAt h n with
  | some ys=>anyIn x ys
  | none=>(dGet h n x).map Option.isSome
 | .fl ys=>anyIn x ys
 | _=>none
def vIn:PV->PV->PH->Rs PV:=fun x y h=>ofB (inV2 x y h) h
def vNotIn:PV->PV->PH->Rs PV:=fun x y h=>ofB ((inV2 x y h).map not) h
theorem keyP_v {φ:List Addr} {H:Hp} {x:PV} {v:V} {key:Key} (r:RV C φ H x v) (e:keyP x=some key):v=kV key:=by
 cases x <;> first | (cases e; exact r) | cases e
theorem dLook_val {φ:List Addr} {H:Hp} {κ:Type} [DecidableEq κ] {kvs:List (κ×PV)} {ks:List (κ×V)} (r:RKv C φ H kvs ks) (a:κ):match dLook kvs a,valV ks a with
  | some p,some v=>RV C φ H p v
  | none,none=>True
  | _,_=>False:=by
 unfold RKv at r
 induction r with
 | nil=>trivial
 | @cons p q ps qs h t ih=>
  obtain ⟨h1,h2⟩:=h
  obtain ⟨pk,pv⟩:=p
  by_cases e:pk=a
  ·have e':q.1=a:=h1.symm.trans e
   rw [valV_pos e']
   unfold dLook
   rw [if_pos e]
   exact h2
  ·have e':¬ q.1=a:=fun z=>e (h1.trans z)
   rw [valV_neg e']
   unfold dLook
   rw [if_neg e]
   exact ih
theorem dGet_sound {φ:List Addr} {H:Hp} {h:PH} {n:Nat} {a:Addr} {x:PV} {v:V} {o:Option PV} (rh:RH C φ H h) (ha:φ[n]?=some a) (rv:RV C φ H x v) (e:dGet h n x=some o):
  ∃ o',DGet H a v o'/\o.isSome=o'.isSome/\∀ p,o=some p->∃ w,o'=some w/\RV C φ H p w:=by
 unfold dGet at e
 split at e
 ·rename_i kvs hk
  split at e
  ·rename_i key hkey
   cases e
   obtain ⟨ks,hH,rk⟩:=rh.at' n a _ ha hk
   have q:=dLook_val rk key
   rw [keyP_v rv hkey]
   refine ⟨valV ks key,DGet.k hH,?_,fun p hp=>?_⟩
   ·cases e1:dLook kvs key <;> cases e2:valV ks key <;> rw [e1,e2] at q <;> first | rfl | exact q.elim
   ·rw [hp] at q
    cases e2:valV ks key with
    | none=>rw [e2] at q; exact q.elim
    | some w=>rw [e2] at q; exact ⟨w,rfl,q⟩
  ·cases e
 ·cases e
theorem inV2_sound {φ:List Addr} {H:Hp} {h:PH} {p q:PV} {x y:V} {b:Bool} (rh:RH C φ H h) (rx:RV C φ H p x) (ry:RV C φ H q y) (e:inV2 p q h=some b):
  (∃ d a ds vs,y=.ref a/\(SqL C.K H a vs\/SqT C.K H a vs)/\Rep C.K H d x/\Reps C.K H ds vs/\D.depths ds<=40/\b=ds.any fun e=>eqD e d)\/∃ a o,y=.ref a/\DGet H a x o/\b=o.isSome:=by
 have go:∀ {a:Addr} {vs:List V} {ys:List PV},(SqL C.K H a vs\/SqT C.K H a vs)->RVs C φ H ys vs->anyIn p ys=some b->∃ d a' ds vs,V.ref a=.ref a'/\(SqL C.K H a' vs\/SqT C.K H a' vs)/\Rep C.K H d x/\Reps C.K H ds vs/\D.depths ds<=40/\b=ds.any fun e=>eqD e d:=by
  intro a vs ys hs hr he
  unfold anyIn at he
  split at he
  ·rename_i d ds h1 h2
   split at he
   ·rename_i hd
    cases he
    exact ⟨d,a,ds,vs,rfl,hs,rx.rep h1,hr.reps h2,hd,rfl⟩
   ·cases he
  ·cases he
 unfold inV2 at e
 split at e
 ·obtain ⟨a,vs,rfl,sa,ra⟩:=ry
  exact .inl (go (.inr sa) ra e)
 ·rename_i n
  obtain ⟨a,rfl,ha⟩:=ry
  split at e
  ·rename_i ys hl
   obtain ⟨a2,vs,ha2,sa,ra⟩:=lstAt_sq rh hl
   rw [ha] at ha2; cases ha2
   exact .inl (go (.inl sa) ra e)
  ·cases e':dGet h n p with
   | none=>rw [e'] at e; cases e
   | some o=>
    rw [e'] at e
    cases e
    obtain ⟨o',g,i,_⟩:=dGet_sound rh ha rx e'
    exact .inr ⟨a,o',rfl,g,i⟩
 ·obtain ⟨a,vs,rfl,sa,ra⟩:=ry
  exact .inl (go (.inl sa.sq) ra e)
 ·cases e
theorem o_in:OpS C k X (compareOp .In) vIn:=fun c=>((op_inD c.hu64 C.K c.K).or (op_inC c.hu C.K c.K)).imp fun x y H Q h=>by
 obtain ⟨φ,h,p,q,rh,rx,ry,po⟩:=h
 obtain ⟨b,e,po⟩:=po.ofB
 rcases inV2_sound rh rx ry e with ⟨d,a,ds,vs,rfl,h1,h2,h3,h4,rfl⟩ | ⟨a,o,rfl,g,rfl⟩
 ·exact .inl ⟨d,a,ds,vs,rfl,h1,h2,h3,h4,po.val rh rfl⟩
 ·exact .inr (.inr ⟨a,o,rfl,g,po.val rh rfl⟩)
theorem o_notIn:OpS C k X (compareOp .NotIn) vNotIn:=fun c=>((op_notInD c.hu64 C.K c.K).or (op_notInC c.hu C.K c.K)).imp fun x y H Q h=>by
 obtain ⟨φ,h,p,q,rh,rx,ry,po⟩:=h
 obtain ⟨b,e,po⟩:=po.ofB
 cases e':inV2 p q h with
 | none=>rw [e'] at e; cases e
 | some b'=>
  rw [e'] at e
  cases e
  rcases inV2_sound rh rx ry e' with ⟨d,a,ds,vs,rfl,h1,h2,h3,h4,rfl⟩ | ⟨a,o,rfl,g,rfl⟩
  ·exact .inl ⟨d,a,ds,vs,rfl,h1,h2,h3,h4,po.val rh rfl⟩
  ·exact .inr (.inr ⟨a,o,rfl,g,po.val rh rfl⟩)
def isNonP:PV->Bool
 | .non=>true
 | _=>false
def vIs:PV->PV->PH->Rs PV:=fun x y h=>match y with
 | .non=>.ok (.bl (isNonP x)) h
 | .bl b=>match x with
  | .bl a=>.ok (.bl (a == b)) h
  | _=>.bad
 | _=>.bad
def vIsNot:PV->PV->PH->Rs PV:=fun x y h=>match y with
 | .non=>.ok (.bl (!isNonP x)) h
 | .bl b=>match x with
  | .bl a=>.ok (.bl (!(a == b))) h
  | _=>.bad
 | _=>.bad
def tru (x:PV) (h:PH):Rs Bool:=match x with
 | .non=>.ok false h
 | .bl b=>.ok b h
 | .int i=>.ok (i != 0) h
 | .str y=>if y.length<=sizeLine then .ok ((y.length:Int) != 0) h else .bad
 | .tup xs=>.ok (!xs.isEmpty) h
 | .ref n=>match lstAt h n with
  | some xs=>.ok (!xs.isEmpty) h
  | none=>match h[n]? with
   | some (.dK kvs)=>.ok (!kvs.isEmpty) h
   | _=>.bad
 | .fl xs=>.ok (!xs.isEmpty) h
 | .ty _=>.bad
theorem RVs.isEmpty {φ:List Addr} {H:Hp} {xs:List PV} {vs:List V} (r:RVs C φ H xs vs):(!vs.isEmpty)=!xs.isEmpty:=by
 cases xs <;> cases vs <;> first | rfl | exact r.elim
theorem postB.ite {φ:List Addr} {H:Hp} {c:Prop} [Decidable c] {r:Rs Bool} {Q:Bool->Hp->Prop} (h:postB C φ H (if c then r else .bad) Q):c/\postB C φ H r Q:=by
 by_cases hc:c
 ·rw [if_pos hc] at h; exact ⟨hc,h⟩
 ·rw [if_neg hc] at h; exact h.elim
theorem postB.val {φ:List Addr} {H:Hp} {b:Bool} {h:PH} {Q:Bool->Hp->Prop} (q:postB C φ H (.ok b h) Q) (rh:RH C φ H h):Q b H:=q φ H List.prefix_rfl (Kp.refl H) rh
theorem tru_sound {φ:List Addr} {H:Hp} {h:PH} {p:PV} {v:V} {Q:Bool->Hp->Prop} (rh:RH C φ H h) (rv:RV C φ H p v) (po:postB C φ H (tru p h) Q):∃ b,TruV C.K v H b/\Q b H:=by
 unfold tru at po
 cases p with
 | non=>cases rv; exact ⟨_,rfl,po.val rh⟩
 | bl b=>cases rv; exact ⟨_,rfl,po.val rh⟩
 | int i=>cases rv; exact ⟨_,rfl,po.val rh⟩
 | str y=>cases rv; exact ⟨_,⟨po.ite.1,rfl⟩,po.ite.2.val rh⟩
 | tup xs=>
  obtain ⟨a,vs,rfl,sa,ra⟩:=rv
  exact ⟨_,.inr (.inl ⟨vs,sa,rfl⟩),by rw [ra.isEmpty]; exact po.val rh⟩
 | ref n=>
  obtain ⟨a,rfl,ha⟩:=rv
  dsimp only at po
  cases e:lstAt h n with
  | some xs=>
   rw [e] at po
   obtain ⟨a2,vs,ha2,sa,ra⟩:=lstAt_sq rh e
   rw [ha] at ha2; cases ha2
   exact ⟨_,.inl ⟨vs,sa,rfl⟩,by rw [ra.isEmpty]; exact po.val rh⟩
  | none=>
   rw [e] at po
   dsimp only at po
   split at po
   ·rename_i kvs hk
    obtain ⟨ks,hH,rk⟩:=rh.at' n a _ ha hk
    refine ⟨_,.inr (.inr ⟨ks,hH,rfl⟩),?_⟩
    have:(!ks.isEmpty)=!kvs.isEmpty:=by cases rk <;> rfl
    rw [this]
    exact po.val rh
   ·exact po.elim
 | fl xs=>
  obtain ⟨a,vs,rfl,sa,ra⟩:=rv
  exact ⟨_,.inl ⟨vs,sa.sq,rfl⟩,by rw [ra.isEmpty]; exact po.val rh⟩
 | ty n=>exact po.elim
end L2
set_option Elab.async false
set_option linter.all false
set_option maxRecDepth 100000
namespace L2
open PySem PySem.Spec PyProof.Rows
variable {C:MC} {k:Nat} {X:Cx}
def mTru (m:Me):Ev->PH->Rs Bool:=fun δ h=>(m δ h).bind tru
theorem rd_tru {m:Me} {σ:St} {H:Hp} {Q:Bool->Hp->Prop} (h:rdB C (mTru m) σ H Q):rd C m σ H fun v H1=>∃ b,TruV C.K v H1 b/\Q b H1:=by
 obtain ⟨φ,δ,h,rh,re,p⟩:=h
 refine ⟨φ,δ,h,rh,re,(post.bindB p).imp ?_⟩
 rintro v H1 ⟨φ1,x,h1,p1,t1,rh1,rv1,q1⟩
 exact tru_sound rh1 rv1 q1
section
variable {a b e c':Expr} {ma mb mc m:Me} {g g':PV->PV->PH->Rs PV} {pos:Pos} {ta tb:Ev->PH->Rs Bool}
theorem t_val (h:SE C k X e m) (he:∀ whole,isTrue e X.env whole=(do let v <- whole; standAt e.pos; holding [v] (truthy v)):=by intro _; rfl):ST C k X e (mTru m):=fun c=>
 (pt_truth (h c) he).imp fun σ H Q q=>by rw [c.K]; exact rd_tru q
theorem t_cmp {op:CmpOp} (ho:OpS C k X (compareOp op) g) (ha:SE C k X a ma) (hb:SE C k X b mb) (hm:behindInMarks op b=false:=by first | exact nomark _ | rfl):ST C k X (.Compare a [op] [b] pos) (mTru (mBin g ma mb)):=fun c=>by
 intro pins s σ H Q I h
 have h:=rd_op (rd_tru h)
 refine wpAny_isTrue_Compare1 (thn (ha c pins s σ H _ I h) fun v s1 ⟨x,H1,I1,r1,q1⟩=>thn (hb c pins s1 σ H1 _ I1 q1) fun u s2 ⟨y,H2,I2,r2,q2⟩=>
  thn (ho c pins s2 σ H2 x y v u _ I2 r1 r2 q2) fun w s3 ⟨z,H3,I3,r3,q3⟩=>?_) hm
 rw [<- c.K] at q3
 exact tru_ok pins s3 σ H3 z w Q I3 r3 q3
def onlyB (z:PV) (h:PH):Rs PV:=match z with
 | .bl b=>.ok (.bl b) h
 | _=>.bad
def mChn (g g':PV->PV->PH->Rs PV) (ma mb mc:Me):Me:=fun δ h=>(ma δ h).bind fun x h1=>(mb δ h1).bind fun y h2=>(g x y h2).bind fun z h3=>match z with
 | .bl true=>(mc δ h3).bind fun w h4=>(g' y w h4).bind onlyB
 | .bl false=>.ok (.bl false) h3
 | _=>.bad
def mNotT (t:Ev->PH->Rs Bool):Ev->PH->Rs Bool:=fun δ h=>(t δ h).bind fun b h1=>.ok (!b) h1
def mAndT (ta tb:Ev->PH->Rs Bool):Ev->PH->Rs Bool:=fun δ h=>(ta δ h).bind fun b h1=>match b with
 | true=>tb δ h1
 | false=>.ok false h1
def mOrT (ta tb:Ev->PH->Rs Bool):Ev->PH->Rs Bool:=fun δ h=>(ta δ h).bind fun b h1=>match b with
 | true=>.ok true h1
 | false=>tb δ h1
theorem postB.imp {φ:List Addr} {H:Hp} {r:Rs Bool} {Q Q':Bool->Hp->Prop} (h:postB C φ H r Q) (i:∀ v H',Q v H'->Q' v H'):postB C φ H r Q':=by
 cases r with
 | ok a h'=>exact fun φ' H' p t rh=>i a H' (h φ' H' p t rh)
 | exc a h'=>exact h
 | bad=>exact h
theorem t_not (h:ST C k X e ta):ST C k X (.UnaryOp .Not e pos) (mNotT ta):=fun c=>(pt_not (h c)).imp fun σ H Q q=>by
 obtain ⟨φ,δ,h,rh,re,p⟩:=q
 refine ⟨φ,δ,h,rh,re,(postB.bindB p).imp ?_⟩
 rintro b H1 ⟨φ1,h1,p1,t1,rh1,q1⟩
 exact q1.val rh1
def SW (C:MC) (k:Nat) (X:Cx) (e:Expr) (m:Ev->PH->Rs Bool):Prop:=Cxt C k X->PW X e (rdB C m)
theorem SW.t (h:SW C k X e ta):ST C k X e ta:=fun c=>(h c).pt
theorem PW.imp {t t':TT} (h:PW X e t) (i:∀ σ H Q,t' σ H Q->t σ H Q):PW X e t':=fun w pins s σ H Q I q=>h w pins s σ H Q I (i σ H Q q)
theorem w_and1 (ha:ST C k X a ta):SW C k X (.BoolOp .And [a] pos) ta:=fun c=>pw_and1 (ha c)
theorem w_or1 (ha:ST C k X a ta):SW C k X (.BoolOp .Or [a] pos) ta:=fun c=>pw_or1 (ha c)
theorem w_and {rest:List Expr} (ha:ST C k X a ta) (hb:SW C k X (.BoolOp .And (b :: rest) pos) tb):SW C k X (.BoolOp .And (a :: b :: rest) pos) (mAndT ta tb):=fun c=>PW.imp (pw_and (ha c) (hb c)) fun σ H Q q=>by
 obtain ⟨φ,δ,h,rh,re,p⟩:=q
 refine ⟨φ,δ,h,rh,re,(postB.bindB p).imp ?_⟩
 rintro b H1 ⟨φ1,h1,p1,t1,rh1,q1⟩
 cases b with
 | true=>exact iteT ⟨φ1,δ,h1,rh1,re.mono p1 t1,q1⟩
 | false=>exact iteF (q1.val rh1)
theorem w_or {rest:List Expr} (ha:ST C k X a ta) (hb:SW C k X (.BoolOp .Or (b :: rest) pos) tb):SW C k X (.BoolOp .Or (a :: b :: rest) pos) (mOrT ta tb):=fun c=>PW.imp (pw_or (ha c) (hb c)) fun σ H Q q=>by
 obtain ⟨φ,δ,h,rh,re,p⟩:=q
 refine ⟨φ,δ,h,rh,re,(postB.bindB p).imp ?_⟩
 rintro b H1 ⟨φ1,h1,p1,t1,rh1,q1⟩
 cases b with
 | true=>exact iteT (q1.val rh1)
 | false=>exact iteF ⟨φ1,δ,h1,rh1,re.mono p1 t1,q1⟩
def mAndV (ma mb:Me):Me:=fun δ h=>(ma δ h).bind fun x h1=>match x with
 | .bl true=>mb δ h1
 | .bl false=>.ok (.bl false) h1
 | _=>.bad
theorem s_one {op} (h:SE C k X a ma):SE C k X (.BoolOp op [a] pos) ma:=fun c=>pe_one (h c)
theorem s_and {rest:List Expr} (ha:SE C k X a ma) (hb:SE C k X (.BoolOp .And (b :: rest) pos) mb):SE C k X (.BoolOp .And (a :: b :: rest) pos) (mAndV ma mb):=fun c=>(pe_andC (ha c) (hb c)).imp fun σ H Q q=>by
 obtain ⟨φ,δ,h,rh,re,p⟩:=q
 refine ⟨φ,δ,h,rh,re,(post.bind p).imp ?_⟩
 rintro v H1 ⟨φ1,x,h1,p1,t1,rh1,rv,q1⟩
 cases x with
 | bl b=>
  cases rv
  cases b with
  | true=>exact iteT ⟨φ1,δ,h1,rh1,re.mono p1 t1,q1⟩
  | false=>exact iteF (q1.val rh1 rfl)
 | _=>exact q1.elim
def mIf (t:Ev->PH->Rs Bool) (ma mb:Me):Me:=fun δ h=>(t δ h).bind fun b h1=>match b with
 | true=>ma δ h1
 | false=>mb δ h1
theorem s_ifExp (ht:ST C k X c' ta) (ha:SE C k X a ma) (hb:SE C k X b mb):SE C k X (.IfExp c' a b pos) (mIf ta ma mb):=fun c=>(pe_ifExp (ht c) (ha c) (hb c)).imp fun σ H Q q=>by
 obtain ⟨φ,δ,h,rh,re,p⟩:=q
 refine ⟨φ,δ,h,rh,re,(postB.bind p).imp ?_⟩
 rintro b H1 ⟨φ1,h1,p1,t1,rh1,q1⟩
 cases b with
 | true=>exact iteT ⟨φ1,δ,h1,rh1,re.mono p1 t1,q1⟩
 | false=>exact iteF ⟨φ1,δ,h1,rh1,re.mono p1 t1,q1⟩
end
theorem RVs.atI {φ:List Addr} {H:Hp} {xs:List PV} {vs:List V} {i:Int} {x:PV} (r:RVs C φ H xs vs) (e:L2.atI xs i=some x):∃ v,L2.atI vs i=some v/\RV C φ H x v:=by
 unfold L2.atI at e ⊢
 rw [<- r.length]
 cases q:ixN xs.length i with
 | none=>rw [q] at e; cases e
 | some j=>
  rw [q] at e
  exact r.at e
def ofO (o:Option PV) (h:PH):Rs PV:=match o with
 | some p=>.ok p h
 | none=>.bad
def vIx:PV->PV->PH->Rs PV:=fun x y h=>match x with
 | .str z=>(match y with
  | .int i=>if z.length<=sizeLine then ofO ((atI z.cps.toList i).map fun c=>.str ⟨#[c]⟩) h else .bad
  | _=>.bad)
 | .tup xs=>(match y with
  | .int i=>ofO (atI xs i) h
  | _=>.bad)
 | .fl xs=>(match y with
  | .int i=>ofO (atI xs i) h
  | _=>.bad)
 | .ref n=>(match lstAt h n with
  | some xs=>(match y with
   | .int i=>ofO (atI xs i) h
   | _=>.bad)
  | none=>(match dGet h n y with
   | some o=>ofO o h
   | none=>.bad))
 | _=>.bad
theorem post.ofO {φ:List Addr} {H:Hp} {h:PH} {o:Option PV} {Q:VK} (q:post C φ H (ofO o h) Q):∃ p,o=some p/\post C φ H (.ok p h) Q:=by
 cases o with
 | none=>exact q.elim
 | some b=>exact ⟨b,rfl,q⟩
theorem ix_of {x y:V} {H:Hp} {Q:VK} (h:r2 C vIx x y H Q):rIxC C.K x y H Q:=by
 obtain ⟨φ,h,p,q,rh,rx,ry,po⟩:=h
 unfold vIx at po
 cases p with
 | str z=>
  cases rx
  cases q with
  | int i=>
   cases ry
   obtain ⟨hz,po⟩:=po.ite
   obtain ⟨p,e,po⟩:=po.ofO
   cases e':atI z.cps.toList i with
   | none=>rw [e'] at e; cases e
   | some c=>rw [e'] at e; cases e; exact ⟨hz,c,e',po.val rh rfl⟩
  | _=>exact po.elim
 | tup xs=>
  obtain ⟨a,vs,rfl,sa,ra⟩:=rx
  cases q with
  | int i=>
   cases ry
   obtain ⟨p,e,po⟩:=po.ofO
   obtain ⟨v,hv,rv⟩:=ra.atI e
   exact .inl ⟨vs,i,v,rfl,.inr sa,hv,po.val rh rv⟩
  | _=>exact po.elim
 | fl xs=>
  obtain ⟨a,vs,rfl,sa,ra⟩:=rx
  cases q with
  | int i=>
   cases ry
   obtain ⟨p,e,po⟩:=po.ofO
   obtain ⟨v,hv,rv⟩:=ra.atI e
   exact .inl ⟨vs,i,v,rfl,.inl sa.sq,hv,po.val rh rv⟩
  | _=>exact po.elim
 | ref n=>
  obtain ⟨a,rfl,ha⟩:=rx
  dsimp only at po
  cases e:lstAt h n with
  | some xs=>
   rw [e] at po
   obtain ⟨a2,vs,ha2,sa,ra⟩:=lstAt_sq rh e
   rw [ha] at ha2; cases ha2
   cases q with
   | int i=>
    cases ry
    obtain ⟨p,e,po⟩:=po.ofO
    obtain ⟨v,hv,rv⟩:=ra.atI e
    exact .inl ⟨vs,i,v,rfl,.inl sa,hv,po.val rh rv⟩
   | _=>exact po.elim
  | none=>
   rw [e] at po
   dsimp only at po
   cases e':dGet h n q with
   | none=>rw [e'] at po; exact po.elim
   | some o=>
    rw [e'] at po
    obtain ⟨p,eo,po⟩:=po.ofO
    obtain ⟨o',g,_,hp⟩:=dGet_sound rh ha ry e'
    obtain ⟨w,rfl,rw'⟩:=hp p eo
    exact .inr ⟨w,g,po.val rh rw'⟩
 | _=>exact po.elim
theorem getItem_tuple_whole {prog:Program} {w:World} {A:Around} {E:Value->Shared->Prop} {s:Shared} {t sl:Addr} {items:Array Value} {vl vu:Value} {lo hi:Option Int} {Q:Value->Shared->Prop} (ht:IsTup s.heap t items) (hs:s.heap.IsSliceOf sl vl vu .none) (pl:IsPart vl lo) (pu:IsPart vu hi)
  (hw:HT.sIx items.size 0 lo=0/\HT.sIx items.size items.size hi=items.size) (h:Q (.ref t) s):wpAny (model prog w) A (getItem (.ref t) (.ref sl)) Q E s:=by
 obtain ⟨os,hos,hcs,hds⟩:=id hs
 have hTs:s.TypeIs (.ref sl) "slice" := ⟨os,hos,hcs⟩
 unfold getItem
 try with_reducible refine wpAny_holding ?_
 first | refine wpAny_bind (wpAny_pure ?_) | skip
 refine wpAny_bind (wpAny_sequenceKey ht.typeIs (by decide) ?_)
 refine wpAny_bind (wpAny_callSpecial?_slot (name:=Str.ofString "__getitem__") ht.typeIs PyProof.Rows.slot_tuple_getitem
  (wpAny_call_entry PyProof.Rows.slot_tuple_getitem ht.typeIs entry_tuple_getitem ?_ (args_tuple_getitem _ _)))
 show wpAny _ _ (Builtin.Tuple.tupleItemsOf (.ref t) >>= _) _ _ s
 refine wpAny_bind (tupleItemsOf_ ht ?_)
 refine wpAny_bind (wpAny_typeOf hTs ?_)
 rw [if_pos (by decide)]
 refine wpAny_bind (HT.sliceApplied_gen hs pl pu ?_)
 have hno:((((HT.sIx items.size 0 lo:Nat):Int) == 0 && (1:Int) == 1 && (HT.sIx items.size items.size hi - HT.sIx items.size 0 lo) == items.size)=true):=by
  rw [hw.1,hw.2]; simp
 show wpAny _ _ (if (((HT.sIx items.size 0 lo:Nat):Int) == 0 && (1:Int) == 1 && (HT.sIx items.size items.size hi - HT.sIx items.size 0 lo) == items.size)=true then _ else _) _ _ s
 rw [if_pos hno]
 refine wpAny_bind ?_
 unfold Builtin.Tuple.tupleIsExact
 refine wpAny_bind (wpAny_typeOf ht.typeIs (wpAny_pure ?_))
 rw [if_pos (by decide)]
 refine wpAny_bind (wpAny_rule ?_)
 exact wpAny_pure ⟨_,rfl,wpAny_pure h⟩
end L2
set_option Elab.async false
set_option linter.all false
set_option maxRecDepth 100000
namespace L2
open PySem PySem.Spec PyProof.Rows
variable {C:MC} {k:Nat} {X:Cx}
def cutP {α:Type} (xs:List α) (lo hi:Option Int):List α:=(xs.drop (HT.sIx xs.length 0 lo)).take (HT.sIx xs.length xs.length hi - HT.sIx xs.length 0 lo)
theorem RVs.cut {φ:List Addr} {H:Hp} {xs:List PV} {vs:List V} (r:RVs C φ H xs vs) (lo hi:Option Int):RVs C φ H (cutP xs lo hi) (cutV vs lo hi):=by
 unfold cutP cutV
 rw [<- r.length]
 exact (r.drop _).take _
def vSl:PV->Option Int->Option Int->PH->Rs PV:=fun x lo hi h=>match x with
 | .str z=>if z.length<=sizeLine then .ok (.str (Txt.slice z lo hi)) h else .bad
 | .tup xs=>.ok (.tup (cutP xs lo hi)) h
 | .ref n=>match lstAt h n with
  | some xs=>.ok (.ref h.length) (h++[.lst (cutP xs lo hi)])
  | none=>.bad
 | .fl xs=>.ok (.ref h.length) (h++[.lst (cutP xs lo hi)])
 | _=>.bad
def rSlW (K:PySem.W.Frag):V->Option Int->Option Int->Hp->VK->Prop:=fun x lo hi H Q=>∃ a xs,x=.ref a/\SqT K H a xs/\(HT.sIx xs.length 0 lo=0/\HT.sIx xs.length xs.length hi=xs.length)/\Q (.ref a) H
theorem sl_whole:SlR X (rSlW X.K):=by
 intro pins s σ H x v vl vu lo hi sl Q I rx hs pl pu h
 obtain ⟨a,xs,rfl,hx,hw,q⟩:=h
 cases rx
 obtain ⟨its,r,ht,hz⟩:=I.tuple hx
 have hlen:its.toArray.size=xs.length:=by rw [List.size_toArray]; exact r.length.symm
 refine ⟨"tuple",_,PyProof.Rows.slot_tuple_getitem.lookup,ht.typeIs,?_⟩
 exact getItem_tuple_whole ht hs pl pu (by rw [hlen]; exact hw) ⟨.ref a,H,I,rfl,q⟩
theorem SlR.imp {r r':V->Option Int->Option Int->Hp->VK->Prop} (h:SlR X r) (i:∀ x lo hi H Q,r' x lo hi H Q->r x lo hi H Q):SlR X r':=fun pins s σ H x v vl vu lo hi sl Q I rx hs pl pu q=>h pins s σ H x v vl vu lo hi sl Q I rx hs pl pu (i x lo hi H Q q)
def r3 (C:MC) (g:PV->Option Int->Option Int->PH->Rs PV):V->Option Int->Option Int->Hp->VK->Prop:=fun x lo hi H Q=>∃ φ h p,RH C φ H h/\RV C φ H p x/\post C φ H (g p lo hi h) Q
theorem sl_all (hK:X.K=C.K):SlR X (r3 C vSl):=by
 have e:SlR X (fun x lo hi H Q=>rSlS x lo hi H Q\/rSlT C.K x lo hi H Q\/rSlL C.K x lo hi H Q\/rSlW C.K x lo hi H Q):=by rw [<- hK]; exact sl_str.or (sl_tup.or (sl_list.or sl_whole))
 refine e.imp fun x lo hi H Q h=>?_
 obtain ⟨φ,h,p,rh,rv,po⟩:=h
 unfold vSl at po
 cases p with
 | str z=>cases rv; exact .inl ⟨z,rfl,po.ite.1,po.ite.2.val rh rfl⟩
 | tup xs=>
  obtain ⟨a,vs,rfl,sa,ra⟩:=rv
  by_cases hw:HT.sIx vs.length 0 lo=0/\HT.sIx vs.length vs.length hi=vs.length
  ·refine .inr (.inr (.inr ⟨a,vs,rfl,sa,hw,po.val rh ⟨a,vs,rfl,sa,?_⟩⟩))
   have e:cutP xs lo hi=xs:=by
    unfold cutP
    rw [ra.length,hw.1,hw.2,List.drop_zero,Nat.sub_zero,<- ra.length,List.take_length]
   rw [e]
   exact ra
  ·exact .inr (.inl ⟨a,vs,rfl,sa,hw,fun p hp=>po.tnew rh (ra.cut lo hi) hp⟩)
 | ref n=>
  obtain ⟨a,rfl,ha⟩:=rv
  dsimp only at po
  cases e:lstAt h n with
  | none=>rw [e] at po; exact po.elim
  | some xs=>
   rw [e] at po
   obtain ⟨a2,vs,ha2,sa,ra⟩:=lstAt_sq rh e
   rw [ha] at ha2; cases ha2
   exact .inr (.inr (.inl ⟨a,vs,rfl,sa,fun p hp=>po.lnew rh (ra.cut lo hi) hp⟩))
 | fl xs=>
  obtain ⟨a,vs,rfl,sa,ra⟩:=rv
  exact .inr (.inr (.inl ⟨a,vs,rfl,sa.sq,fun p hp=>po.lnew rh (ra.cut lo hi) hp⟩))
 | _=>exact po.elim
abbrev Mo:=Ev->PH->Rs (Option Int)
def postO (C:MC) (φ:List Addr) (H:Hp) (r:Rs (Option Int)) (Q:Option Int->Hp->Prop):Prop:=match r with
 | .ok b h=>∀ φ' H',φ<+:φ'->Kp H H'->RH C φ' H' h->Q b H'
 | .exc x h=>∀ φ' H',φ<+:φ'->Kp H H'->RH C φ' H' h->C.ex φ' H' x
 | .bad=>False
def rdO (C:MC) (m:Mo):TO:=fun σ H Q=>∃ φ δ h,RH C φ H h/\RE C φ H δ σ/\postO C φ H (m δ h) Q
def SO (C:MC) (k:Nat) (X:Cx) (e:Option Expr) (m:Mo):Prop:=Cxt C k X->PO X e (rdO C m)
def mNoP:Mo:=fun _ h=>.ok none h
def mP (m:Me):Mo:=fun δ h=>(m δ h).bind fun x h1=>match x with
 | .int i=>.ok (some i) h1
 | _=>.bad
theorem o_none:SO C k X none mNoP:=fun c pins s σ H Q I h=>by
 obtain ⟨φ,δ,h,rh,re,p⟩:=h
 exact po_none pins s σ H Q I (p φ H List.prefix_rfl (Kp.refl H) rh)
theorem o_some {e:Expr} {m:Me} (h:SE C k X e m):SO C k X (some e) (mP m):=fun c pins s σ H Q I q=>by
 refine po_someC (h c) pins s σ H Q I ?_
 obtain ⟨φ,δ,h,rh,re,p⟩:=q
 refine ⟨φ,δ,h,rh,re,?_⟩
 unfold mP at p
 cases e':m δ h with
 | ok x h1=>
  rw [e'] at p
  intro φ' v H' p' t' rh' rv'
  cases x with
  | int i=>cases rv'; exact p φ' H' p' t' rh'
  | _=>exact p.elim
 | exc x h1=>rw [e'] at p; exact p
 | bad=>rw [e'] at p; exact p
def mSl (me:Me) (ml mh:Mo):Me:=fun δ h=>(me δ h).bind fun x h1=>(ml δ h1).bind fun l h2=>(mh δ h2).bind fun u h3=>vSl x l u h3
theorem postO.bind {φ:List Addr} {H:Hp} {r:Rs (Option Int)} {f:Option Int->PH->Rs PV} {Q:VK} (h:post C φ H (r.bind f) Q):postO C φ H r fun b H1=>∃ φ1 h1,φ<+:φ1/\Kp H H1/\RH C φ1 H1 h1/\post C φ1 H1 (f b h1) Q:=by
 cases r with
 | ok a h'=>exact fun φ' H' p t rh=>⟨φ',h',p,t,rh,post.weak p t h⟩
 | exc a h'=>exact h
 | bad=>exact h
theorem postO.imp {φ:List Addr} {H:Hp} {r:Rs (Option Int)} {Q Q':Option Int->Hp->Prop} (h:postO C φ H r Q) (i:∀ v H',Q v H'->Q' v H'):postO C φ H r Q':=by
 cases r with
 | ok a h'=>exact fun φ' H' p t rh=>i a H' (h φ' H' p t rh)
 | exc a h'=>exact h
 | bad=>exact h
theorem s_sl {e:Expr} {lo hi:Option Expr} {me:Me} {ml mh:Mo} {p2 pos:Pos} (he:SE C k X e me) (hl:SO C k X lo ml) (hh:SO C k X hi mh):SE C k X (.Subscript e (.Slice lo hi none p2) pos) (mSl me ml mh):=fun c=>
 (pe_slice (sl_all c.K) (he c) (hl c) (hh c)).imp fun σ H Q h=>by
  obtain ⟨φ,δ,h,rh,re,p⟩:=h
  refine ⟨φ,δ,h,rh,re,(post.bind p).imp ?_⟩
  rintro v H1 ⟨φ1,x,h1,p1,t1,rh1,rv1,q1⟩
  refine ⟨φ1,δ,h1,rh1,re.mono p1 t1,(postO.bind q1).imp ?_⟩
  rintro l H2 ⟨φ2,h2,p2,t2,rh2,q2⟩
  refine ⟨φ2,δ,h2,rh2,re.mono (p1.trans p2) (t1.trans t2),(postO.bind q2).imp ?_⟩
  rintro u H3 ⟨φ3,h3,p3,t3,rh3,q3⟩
  exact ⟨φ3,h3,x,rh3,rv1.mono (p2.trans p3) (t2.trans t3),q3⟩
abbrev Ma:=Ev->PH->Rs (List PV)
def mNil:Ma:=fun _ h=>.ok [] h
def mCons (m:Me) (ms:Ma):Ma:=fun δ h=>(m δ h).bind fun x h1=>(ms δ h1).bind fun xs h2=>.ok (x :: xs) h2
theorem PA.imp {es:List Expr} {t t':TA} (h:PA X es t) (i:∀ σ H Q,t' σ H Q->t σ H Q):PA X es t':=fun pos pins s σ H Q I q=>h pos pins s σ H Q I (i σ H Q q)
theorem a_nil:SA C k X [] mNil:=fun c=>pa_nil.imp fun σ H Q h=>by
 obtain ⟨φ,δ,h,rh,re,p⟩:=h
 exact p φ [] H List.prefix_rfl (Kp.refl H) rh trivial
theorem postA.imp {φ:List Addr} {H:Hp} {r:Rs (List PV)} {Q Q':List V->Hp->Prop} (h:postA C φ H r Q) (i:∀ v H',Q v H'->Q' v H'):postA C φ H r Q':=by
 cases r with
 | ok a h'=>exact fun φ' v H' p t rh rv=>i v H' (h φ' v H' p t rh rv)
 | exc a h'=>exact h
 | bad=>exact h
theorem a_cons {e:Expr} {es:List Expr} {m:Me} {ms:Ma} (he:SE C k X e m) (hs:SA C k X es ms) (hh:starEach (e :: es) X.env=(false,eval e X.env) :: starEach es X.env:=by rfl):SA C k X (e :: es) (mCons m ms):=fun c=>(pa_cons (he c) (hs c) hh).imp fun σ H Q h=>by
 obtain ⟨φ,δ,h,rh,re,p⟩:=h
 refine ⟨φ,δ,h,rh,re,(post.bindA p).imp ?_⟩
 rintro v H1 ⟨φ1,x,h1,p1,t1,rh1,rv1,q1⟩
 refine ⟨φ1,δ,h1,rh1,re.mono p1 t1,(postA.bindA q1).imp ?_⟩
 rintro vs H2 ⟨φ2,xs,h2,p2,t2,rh2,rv2,q2⟩
 exact q2 φ2 (v :: vs) H2 List.prefix_rfl (Kp.refl H2) rh2 ⟨rv1.mono p2 t2,rv2⟩
def mTup (ms:Ma):Me:=fun δ h=>(ms δ h).bind fun xs h1=>if xs.length<=sizeLine then .ok (.tup xs) h1 else .bad
def mLst (ms:Ma):Me:=fun δ h=>(ms δ h).bind fun xs h1=>if xs.length<=sizeLine then .ok (.ref h1.length) (h1++[.lst xs]) else .bad
theorem s_tup {es:List Expr} {ms:Ma} {x1} {pos:Pos} (hs:SA C k X es ms):SE C k X (.Tuple es x1 pos) (mTup ms):=fun c=>(pe_tup (hs c)).imp fun σ H Q h=>by
 obtain ⟨φ,δ,h,rh,re,p⟩:=h
 refine ⟨φ,δ,h,rh,re,(postA.bind p).imp ?_⟩
 rintro vs H1 ⟨φ1,xs,h1,p1,t1,rh1,rv1,q1⟩
 exact ⟨by rw [<- rv1.length]; exact q1.ite.1,fun p hp=>q1.ite.2.tnew rh1 rv1 hp⟩
theorem s_lst {es:List Expr} {ms:Ma} {pos:Pos} (hs:SA C k X es ms):SE C k X (.List es pos) (mLst ms):=fun c=>(pe_lst (hs c)).imp fun σ H Q h=>by
 obtain ⟨φ,δ,h,rh,re,p⟩:=h
 refine ⟨φ,δ,h,rh,re,(postA.bind p).imp ?_⟩
 rintro vs H1 ⟨φ1,xs,h1,p1,t1,rh1,rv1,q1⟩
 exact ⟨by rw [<- rv1.length]; exact q1.ite.1,fun p hp=>q1.ite.2.lnew rh1 rv1 hp⟩
def mDict0:Me:=fun _ h=>.ok (.ref h.length) (h++[.dK []])
theorem s_dict0 {pos:Pos}:SE C k X (.Dict [] [] pos) mDict0:=fun c=>pe_dnewK.imp fun σ H Q h=>by
 obtain ⟨φ,δ,h,rh,re,p⟩:=h
 intro a ha
 exact p (φ++[a]) (.ref a) _ (List.prefix_append _ _) (Kp.new ha) (rh.new ha ⟨[],upd_same,.nil⟩) ⟨a,rfl,by rw [<- rh.len]; simp⟩
def mCB (g:List PV->PH->Rs PV) (ms:Ma):Me:=fun δ h=>(ms δ h).bind g
theorem rd_cb {g:List PV->PH->Rs PV} {ms:Ma} {σ:St} {H:Hp} {Q:VK} (h:rd C (mCB g ms) σ H Q):tCB (rL C g) (rdA C ms) σ H Q:=by
 obtain ⟨φ,δ,h,rh,re,p⟩:=h
 refine ⟨φ,δ,h,rh,re,(postA.bind p).imp ?_⟩
 rintro vs H1 ⟨φ1,xs,h1,p1,t1,rh1,rv1,q1⟩
 exact ⟨φ1,h1,xs,rh1,rv1,q1⟩
section
variable {x:Str} {p pos:Pos} {e:Expr} {es:List Expr} {ms:Ma} {id T:String} {g:List PV->PH->Rs PV}
theorem s_callB (hc:CallS C k X (.builtin id) g) (hv:bootBuiltins x=some (.builtin id)) (ha:SA C k X (e :: es) ms) (hb:x∈C.bs:=by decide) (hg:Gl X x:=by rfl) (hn:x≠"__name__" := by decide) (hdb:(x == ("__debug__" : Str))=false:=by decide)
  (he:starEach (e :: es) X.env=(false,eval e X.env) :: starEach es X.env:=by rfl) (hpl:(backTo pos (starEach es X.env)).any (·.1)=false:=by rfl):SE C k X (.Call (.Name x p) (e :: es) [] pos) (mCB g ms):=fun c=>
 (pe_callB (hc c) hg (c.bn x hb) hv (ha c) hn hdb he hpl).imp fun σ H Q h=>rd_cb h
theorem s_callTy (hc:CallS C k X (.type T) g) (hv:bootBuiltins x=some (.type T)) (ha:SA C k X (e :: es) ms) (hb:x∈C.bs:=by decide) (hg:Gl X x:=by rfl) (hn:x≠"__name__" := by decide) (hdb:(x == ("__debug__" : Str))=false:=by decide)
  (he:starEach (e :: es) X.env=(false,eval e X.env) :: starEach es X.env:=by rfl) (hpl:(backTo pos (starEach es X.env)).any (·.1)=false:=by rfl):SE C k X (.Call (.Name x p) (e :: es) [] pos) (mCB g ms):=fun c=>
 (pe_callTy (hc c) hg (c.bn x hb) hv (ha c) hn hdb he hpl).imp fun σ H Q h=>rd_cb h
def spM (C:MC) (n:Nat) (f:Fn):Sp:=fun vs H Q _=>∃ φ h ps,RH C φ H h/\RVs C φ H ps vs/\ps.length=n/\post C φ H (f ps h) Q
def mCall (n:Nat) (f:Fn) (ms:Ma):Me:=fun δ h=>(ms δ h).bind fun ps h1=>if ps.length=n then f ps h1 else .bad
theorem s_call {st:Stmt} {a:Addr} {fd:FuncData} {ps:List Str} {j n:Nat} {f:Fn} (D:Def C.K X.mg x st a fd ps) (G:FnOk X.prog X.w C.K X.mg X.base CX0 j a fd ps (spM C n f)) (ha:SA C k X (e :: es) ms) (hj:j<=k:=by decide)
  (hg:Gl X x:=by rfl) (hdb:(x == ("__debug__" : Str))=false:=by decide) (he:starEach (e :: es) X.env=(false,eval e X.env) :: starEach es X.env:=by rfl) (hpl:(backTo pos (starEach es X.env)).any (·.1)=false:=by rfl):
  SE C k X (.Call (.Name x p) (e :: es) [] pos) (mCall n f ms):=fun c=>by
 have e1:=c.K
 have D':Def X.K X.mg x st a fd ps:=by rw [e1]; exact D
 have G':FnOk X.prog X.w X.K X.mg X.base CX0 j a fd ps (spM C n f):=by rw [e1]; exact G
 refine (pcall D' G' (c.room.mono hj) (ha c) hg hdb he hpl).imp fun σ H Q h=>?_
 obtain ⟨φ,δ,h,rh,re,p⟩:=h
 refine ⟨φ,δ,h,rh,re,(postA.bind p).imp ?_⟩
 rintro vs H1 ⟨φ1,xs,h1,p1,t1,rh1,rv1,q1⟩
 refine ⟨φ1,h1,xs,rh1,by rw [List.append_nil]; exact rv1,q1.ite.1,q1.ite.2⟩
end
def vLen:List PV->PH->Rs PV:=fun xs h=>match xs with
 | [.str y]=>if y.length<=sizeLine then .ok (.int y.length) h else .bad
 | [.tup ys]=>.ok (.int ys.length) h
 | [.fl ys]=>.ok (.int ys.length) h
 | [.ref n]=>match lstAt h n with
  | some ys=>.ok (.int ys.length) h
  | none=>match h[n]? with
   | some (.dK kvs)=>.ok (.int kvs.length) h
   | _=>.bad
 | _=>.bad
theorem RVs.one {φ:List Addr} {H:Hp} {x:PV} {vs:List V} (r:RVs C φ H [x] vs):∃ v,vs=[v]/\RV C φ H x v:=by
 match vs,r with
 | [v],⟨h,_⟩=>exact ⟨v,rfl,h⟩
 | [],h=>exact h.elim
 | _ :: _ :: _,⟨_,h⟩=>exact h.elim
theorem RVs.two {φ:List Addr} {H:Hp} {x y:PV} {vs:List V} (r:RVs C φ H [x,y] vs):∃ v w,vs=[v,w]/\RV C φ H x v/\RV C φ H y w:=by
 match vs,r with
 | [v,w],⟨h,h',_⟩=>exact ⟨v,w,rfl,h,h'⟩
 | [],h=>exact h.elim
 | [_],⟨_,h⟩=>exact h.elim
 | _ :: _ :: _ :: _,⟨_,_,h⟩=>exact h.elim
theorem b_len:CallS C k X (.builtin "len") vLen:=fun c=>(call_lenC C.K c.K).imp fun vs H Q h=>by
 obtain ⟨φ,h,ps,rh,rv,po⟩:=h
 unfold vLen at po
 split at po
 ·obtain ⟨v,rfl,rx⟩:=rv.one
  cases rx
  exact ⟨po.ite.1,po.ite.2.val rh rfl⟩
 ·obtain ⟨v,rfl,rx⟩:=rv.one
  obtain ⟨a,vs,rfl,sa,ra⟩:=rx
  exact .inl ⟨vs,.inr sa,by rw [<- ra.length]; exact po.val rh rfl⟩
 ·obtain ⟨v,rfl,rx⟩:=rv.one
  obtain ⟨a,vs,rfl,sa,ra⟩:=rx
  exact .inl ⟨vs,.inl sa.sq,by rw [<- ra.length]; exact po.val rh rfl⟩
 ·rename_i n
  obtain ⟨v,rfl,rx⟩:=rv.one
  obtain ⟨a,rfl,ha⟩:=rx
  split at po
  ·rename_i ys e
   obtain ⟨a2,vs,ha2,sa,ra⟩:=lstAt_sq rh e
   rw [ha] at ha2; cases ha2
   exact .inl ⟨vs,.inl sa,by rw [<- ra.length]; exact po.val rh rfl⟩
  ·split at po
   ·rename_i kvs hk
    obtain ⟨ks,hH,rk⟩:=rh.at' n a _ ha hk
    refine .inr ⟨ks,hH,?_⟩
    have:ks.length=kvs.length:=(Paired.length rk).symm
    rw [this]
    exact po.val rh rfl
   ·exact po.elim
 ·exact po.elim
def vList:List PV->PH->Rs PV:=fun xs h=>match xs with
 | [.tup ys]=>.ok (.ref h.length) (h++[.lst ys])
 | [.fl ys]=>.ok (.ref h.length) (h++[.lst ys])
 | [.ref n]=>match lstAt h n with
  | some ys=>.ok (.ref h.length) (h++[.lst ys])
  | none=>.bad
 | _=>.bad
theorem b_list:CallS C k X (.type "list") vList:=fun c=>(call_listC C.K c.K).imp fun vs H Q h=>by
 obtain ⟨φ,h,ps,rh,rv,po⟩:=h
 unfold vList at po
 split at po
 ·obtain ⟨v,rfl,rx⟩:=rv.one
  obtain ⟨a,vs,rfl,sa,ra⟩:=rx
  exact ⟨a,vs,rfl,.inr sa,fun p hp=>po.lnew rh ra hp⟩
 ·obtain ⟨v,rfl,rx⟩:=rv.one
  obtain ⟨a,vs,rfl,sa,ra⟩:=rx
  exact ⟨a,vs,rfl,.inl sa.sq,fun p hp=>po.lnew rh ra hp⟩
 ·rename_i n
  obtain ⟨v,rfl,rx⟩:=rv.one
  obtain ⟨a,rfl,ha⟩:=rx
  split at po
  ·rename_i ys e
   obtain ⟨a2,vs,ha2,sa,ra⟩:=lstAt_sq rh e
   rw [ha] at ha2; cases ha2
   exact ⟨a,vs,rfl,.inl sa,fun p hp=>po.lnew rh ra hp⟩
  ·exact po.elim
 ·exact po.elim
def vMax:List PV->PH->Rs PV:=fun xs h=>match xs with
 | [.int i,.int j]=>.ok (.int (if j > i then j else i)) h
 | _=>.bad
end L2
set_option Elab.async false
set_option linter.all false
set_option maxRecDepth 100000
namespace L2
open PySem PySem.Spec PyProof.Rows
variable {C:MC} {k:Nat} {X:Cx}
def Rs.fl {α:Type} (r:Rs α) (f:α->PH->Fl):Fl:=match r with
 | .ok a h=>f a h
 | .exc x h=>.exc x h
 | .bad=>.bad
@[simp] theorem Rs.fl_ok {α:Type} (a:α) (h:PH) (f:α->PH->Fl):(Rs.ok a h).fl f=f a h:=(rfl)
@[simp] theorem Rs.fl_exc {α:Type} (x:PX) (h:PH) (f:α->PH->Fl):(Rs.exc x h:Rs α).fl f=.exc x h:=(rfl)
@[simp] theorem Rs.fl_bad {α:Type} (f:α->PH->Fl):(Rs.bad:Rs α).fl f=.bad:=(rfl)
section
variable {φ:List Addr} {H:Hp}
theorem post.fl {r:Rs PV} {f:PV->PH->Fl} {D:Ends} (h:postS C φ H (r.fl f) D):post C φ H r fun v H1=>∃ φ1 p h1,φ<+:φ1/\Kp H H1/\RH C φ1 H1 h1/\RV C φ1 H1 p v/\postS C φ1 H1 (f p h1) D:=by
 cases r with
 | ok a h'=>exact fun φ' v H' p t rh rv=>⟨φ',a,h',p,t,rh,rv,postS.weak p t h⟩
 | exc a h'=>exact h
 | bad=>exact h
theorem postB.fl {r:Rs Bool} {f:Bool->PH->Fl} {D:Ends} (h:postS C φ H (r.fl f) D):postB C φ H r fun b H1=>∃ φ1 h1,φ<+:φ1/\Kp H H1/\RH C φ1 H1 h1/\postS C φ1 H1 (f b h1) D:=by
 cases r with
 | ok a h'=>exact fun φ' H' p t rh=>⟨φ',h',p,t,rh,postS.weak p t h⟩
 | exc a h'=>exact h
 | bad=>exact h
theorem postS.nx {δ:Ev} {h:PH} {D:Ends} {σ:St} (q:postS C φ H (.nx δ h) D) (rh:RH C φ H h) (re:RE C φ H δ σ):D.nx σ H:=q φ σ H List.prefix_rfl (Kp.refl H) rh re
theorem postS.rt {p:PV} {h:PH} {D:Ends} {v:V} (q:postS C φ H (.rt p h) D) (rh:RH C φ H h) (rv:RV C φ H p v):D.rt v H:=q φ v H List.prefix_rfl (Kp.refl H) rh rv
end
abbrev Mg:=PV->Ev->Option Ev
abbrev Mgs:=List PV->Ev->Option Ev
def rdG (C:MC) (t:Mg):TG:=fun v σ H Q=>∃ φ δ h p δ',RH C φ H h/\RE C φ H δ σ/\RV C φ H p v/\t p δ=some δ'/\∀ σ',RE C φ H δ' σ'->Q σ' H
def rdGs (C:MC) (t:Mgs):TGs:=fun vs σ H Q=>∃ φ δ h ps δ',RH C φ H h/\RE C φ H δ σ/\RVs C φ H ps vs/\t ps δ=some δ'/\∀ σ',RE C φ H δ' σ'->Q σ' H
def SG (C:MC) (k:Nat) (X:Cx) (e:Expr) (t:Mg):Prop:=Cxt C k X->PG X e (rdG C t)
def SGs (C:MC) (k:Nat) (X:Cx) (es:List Expr) (t:Mgs):Prop:=Cxt C k X->PGs X es (rdGs C t)
def gN (i:Nat):Mg:=fun p δ=>some (δ.set i (some p))
def gNl:Mgs:=fun ps δ=>match ps with
 | []=>some δ
 | _ :: _=>none
def gCn (t:Mg) (u:Mgs):Mgs:=fun ps δ=>match ps with
 | p :: r=>(t p δ).bind (u r)
 | []=>none
def gTp (n:Nat) (u:Mgs):Mg:=fun p δ=>match p with
 | .tup ps=>if ps.length=n then u ps δ else none
 | _=>none
theorem PG.imp {e:Expr} {t t':TG} (h:PG X e t) (i:∀ v σ H Q,t' v σ H Q->t v σ H Q):PG X e t':=fun pins s σ H v u Q I r q=>h pins s σ H v u Q I r (i v σ H Q q)
theorem PGs.imp {es:List Expr} {t t':TGs} (h:PGs X es t) (i:∀ v σ H Q,t' v σ H Q->t v σ H Q):PGs X es t':=fun pins s σ H v u Q I r q=>h pins s σ H v u Q I r (i v σ H Q q)
theorem g_name {i:Nat} {x:Str} {pos:Pos} (hN:X.N.Nodup) (hi:X.N[i]?=some x:=by rfl) (hx:Loc X.env.scope x:=by first | exact Or.inl rfl | exact Or.inr rfl) (hf:X.fn x=true\/X.env.scope.names.lookup x=some .local:=by first | exact .inl rfl | exact .inr rfl):SG C k X (.Name x pos) (gN i):=fun c=>
 (pg_name hN hi hx hf).imp fun v σ H Q h=>by
  obtain ⟨φ,δ,h,p,δ',rh,re,rv,e,q⟩:=h
  cases e
  exact q _ (re.set rv i)
theorem g_nil:SGs C k X [] gNl:=fun c=>pgs_nil.imp fun v σ H Q h=>by
 obtain ⟨φ,δ,h,ps,δ',rh,re,rv,e,q⟩:=h
 cases ps with
 | nil=>
  cases e
  cases v with
  | nil=>exact ⟨rfl,q σ re⟩
  | cons=>exact rv.elim
 | cons=>cases e
theorem g_cons {e:Expr} {es:List Expr} {t:Mg} {u:Mgs} (h1:SG C k X e t) (h2:SGs C k X es u) (hs:(assignEach (e :: es) X.env).map (·.2)=assign e X.env :: (assignEach es X.env).map (·.2):=by rfl):SGs C k X (e :: es) (gCn t u):=fun c=>
 (pgs_cons (h1 c) (h2 c) hs).imp fun vs σ H Q h=>by
  obtain ⟨φ,δ,h,ps,δ',rh,re,rv,e,q⟩:=h
  cases ps with
  | nil=>cases e
  | cons p r=>
   cases vs with
   | nil=>exact rv.elim
   | cons v vs=>
    obtain ⟨δ1,e1,e2⟩:=Option.bind_eq_some_iff.mp (show (t p δ).bind (u r)=some δ' from e)
    exact ⟨v,vs,rfl,φ,δ,h,p,δ1,rh,re,rv.1,e1,fun σ' re'=>⟨φ,δ1,h,r,δ',rh,re',rv.2,e2,q⟩⟩
theorem g_tup {es:List Expr} {j:Nat} {u:Mgs} {n:Nat} {pos:Pos} (h:SGs C k X es u) (hn:(assignEach es X.env).length=n:=by rfl) (hst:(assignEach es X.env).findIdx? (·.1)=none:=by rfl):SG C k X (.Tuple es j pos) (gTp n u):=fun c=>
 (gT C.K c.K c.calm (h c) hn hst).imp fun v σ H Q h=>by
  obtain ⟨φ,δ,h,p,δ',rh,re,rv,e,q⟩:=h
  cases p with
  | tup ps=>
   obtain ⟨a,vs,rfl,sa,ra⟩:=rv
   by_cases hl:ps.length=n
   ·have e':u ps δ=some δ':=by
     have:(if ps.length=n then u ps δ else none)=some δ':=e
     rw [if_pos hl] at this
     exact this
    exact ⟨a,vs,rfl,sa,by rw [<- ra.length]; exact hl,φ,δ,h,ps,δ',rh,re,ra,e',q⟩
   ·have:(if ps.length=n then u ps δ else none)=some δ':=e
    rw [if_neg hl] at this
    cases this
  | _=>cases e
theorem PS.imp {st:Stmt} {t t':TS} (h:PS X st t) (i:∀ D σ H,t' D σ H->t D σ H):PS X st t':=fun pins s σ H D I q=>h pins s σ H D I (i D σ H q)
theorem PSs.imp {st:List Stmt} {t t':TS} (h:PSs X st t) (i:∀ D σ H,t' D σ H->t D σ H):PSs X st t':=fun pins s σ H D I q=>h pins s σ H D I (i D σ H q)
def mSeq (a b:Ms):Ms:=fun δ h=>match a δ h with
 | .nx δ1 h1=>b δ1 h1
 | r=>r
def mNop:Ms:=fun δ h=>.nx δ h
def mBrk:Ms:=fun δ h=>.bk δ h
def mCnt:Ms:=fun δ h=>.ct δ h
def mSet (i:Nat) (m:Me):Ms:=fun δ h=>(m δ h).fl fun p h1=>.nx (δ.set i (some p)) h1
def mAsg (m:Me) (t:Mg):Ms:=fun δ h=>(m δ h).fl fun p h1=>match t p δ with
 | some δ'=>.nx δ' h1
 | none=>.bad
def mExp (m:Me):Ms:=fun δ h=>(m δ h).fl fun _ h1=>.nx δ h1
def mRet (m:Me):Ms:=fun δ h=>(m δ h).fl fun p h1=>.rt p h1
def mRetN:Ms:=fun _ h=>.rt .non h
def mIfS (t:Ev->PH->Rs Bool) (a b:Ms):Ms:=fun δ h=>(t δ h).fl fun c h1=>match c with
 | true=>a δ h1
 | false=>b δ h1
section
variable {st:Stmt} {rest:List Stmt} {a b:Ms} {e:Expr} {m:Me} {pos:Pos}
theorem zz_nil:SSs C k X [] mNop:=fun c=>pss_nil.imp fun D σ H h=>by
 obtain ⟨φ,δ,h,rh,re,p⟩:=h
 exact p.nx rh re
theorem seq_ok {φ:List Addr} {H:Hp} {r:Fl} {b:Ms} {D:Ends} (h:postS C φ H (match r with | .nx δ1 h1=>b δ1 h1 | r=>r) D):postS C φ H r { D with nx:=rdS C b D }:=by
 cases r with
 | nx δ h'=>exact fun φ' σ H' p t rh re=>⟨φ',δ,h',rh,re,postS.weak p t h⟩
 | rt p h'=>exact h
 | bk δ h'=>exact h
 | ct δ h'=>exact h
 | exc x h'=>exact h
 | bad=>exact h
theorem zz_cons (h1:SSt C k X st a) (h2:SSs C k X rest b):SSs C k X (st :: rest) (mSeq a b):=fun c=>(pss_cons (h1 c) (h2 c)).imp fun D σ H h=>by
 obtain ⟨φ,δ,h,rh,re,p⟩:=h
 exact ⟨φ,δ,h,rh,re,seq_ok p⟩
theorem zz_one (h1:SSt C k X st a):SSs C k X [st] a:=fun c=>pss_one (h1 c)
theorem z_set {i:Nat} {x:Str} {pos':Pos} (hN:X.N.Nodup) (he:SE C k X e m) (hi:X.N[i]?=some x:=by rfl) (hx:Loc X.env.scope x:=by first | exact Or.inl rfl | exact Or.inr rfl) (hs:swapsWith e (some (.Name x pos')) pos.line X.env=pure false:=by rfl)
  (hf:X.fn x=true\/X.env.scope.names.lookup x=some .local:=by first | exact .inl rfl | exact .inr rfl):SSt C k X (.Assign [.Name x pos'] e pos) (mSet i m):=fun c=>(ps_set hN hi hx (he c) hs hf).imp fun D σ H h=>by
 obtain ⟨φ,δ,h,rh,re,p⟩:=h
 refine ⟨φ,δ,h,rh,re,(post.fl p).imp ?_⟩
 rintro v H1 ⟨φ1,x,h1,p1,t1,rh1,rv1,q1⟩
 exact q1.nx rh1 ((re.mono p1 t1).set rv1 i)
theorem z_asg {tg:Expr} {t:Mg} (he:SE C k X e m) (hg:SG C k X tg t) (hs:swapsWithSole [tg] e pos.line X.env=pure false:=by rfl) (hw:swappedStores [tg] e X.env=pure none:=by rfl)
  (h1:(assignEach [tg] X.env).map (·.2)=[assign tg X.env]:=by rfl):SSt C k X (.Assign [tg] e pos) (mAsg m t):=fun c=>(ps_asg (he c) (hg c) hs hw h1).imp fun D σ H h=>by
 obtain ⟨φ,δ,h,rh,re,p⟩:=h
 refine ⟨φ,δ,h,rh,re,(post.fl p).imp ?_⟩
 rintro v H1 ⟨φ1,x,h1,p1,t1,rh1,rv1,q1⟩
 cases et:t x δ with
 | none=>rw [et] at q1; exact q1.elim
 | some δ'=>
  rw [et] at q1
  exact ⟨φ1,δ,h1,x,δ',rh1,re.mono p1 t1,rv1,et,fun σ' re'=>q1.nx rh1 re'⟩
theorem z_exp (he:SE C k X e m) (hs:swapsWith e none pos.line X.env=pure false:=by rfl):SSt C k X (.Expr e pos) (mExp m):=fun c=>(ps_expr (he c) hs).imp fun D σ H h=>by
 obtain ⟨φ,δ,h,rh,re,p⟩:=h
 refine ⟨φ,δ,h,rh,re,(post.fl p).imp ?_⟩
 rintro v H1 ⟨φ1,x,h1,p1,t1,rh1,rv1,q1⟩
 exact q1.nx rh1 (re.mono p1 t1)
theorem z_ret (he:SE C k X e m):SSt C k X (.Return (some e) pos) (mRet m):=fun c=>(ps_ret (he c)).imp fun D σ H h=>by
 obtain ⟨φ,δ,h,rh,re,p⟩:=h
 refine ⟨φ,δ,h,rh,re,(post.fl p).imp ?_⟩
 rintro v H1 ⟨φ1,x,h1,p1,t1,rh1,rv1,q1⟩
 exact q1.rt rh1 rv1
theorem z_if {cnd:Expr} {as bs:List Stmt} {t:Ev->PH->Rs Bool} (hc:ST C k X cnd t) (ha:SSs C k X as a) (hb:SSs C k X bs b):SSt C k X (.If cnd as bs pos) (mIfS t a b):=fun c=>(ps_if (hc c) (ha c) (hb c)).imp fun D σ H h=>by
 obtain ⟨φ,δ,h,rh,re,p⟩:=h
 refine ⟨φ,δ,h,rh,re,(postB.fl p).imp ?_⟩
 rintro d H1 ⟨φ1,h1,p1,t1,rh1,q1⟩
 cases d with
 | true=>exact iteT ⟨φ1,δ,h1,rh1,re.mono p1 t1,q1⟩
 | false=>exact iteF ⟨φ1,δ,h1,rh1,re.mono p1 t1,q1⟩
end
structure Wk where
 xs:List PV
 g:PH->Bool
def WkOk (C:MC) (J:It) (w:Wk) (φ0:List Addr) (H0:Hp):Prop:=∀ φ H h,φ0<+:φ->Kp H0 H->RH C φ H h->w.g h=true->∀ i:Nat,
 (i < w.xs.length->J.go i H/\∀ x H',J.yld i H x H'->(∃ p,w.xs[i]?=some p/\RV C φ H' p x)/\Kp H H'/\RH C φ H' h)/\(w.xs.length<=i->J.stop i H)
abbrev Mi:=Ev->PH->Rs Wk
def postI (C:MC) (φ:List Addr) (H:Hp) (r:Rs Wk) (R:It->Hp->Prop):Prop:=match r with
 | .ok w h=>∀ φ' H' J,φ<+:φ'->Kp H H'->RH C φ' H' h->WkOk C J w φ' H'->R J H'
 | .exc x h=>∀ φ' H',φ<+:φ'->Kp H H'->RH C φ' H' h->C.ex φ' H' x
 | .bad=>False
def rdI (C:MC) (m:Mi):TI:=fun σ H R=>∃ φ δ h,RH C φ H h/\RE C φ H δ σ/\postI C φ H (m δ h) R
def SI (C:MC) (k:Nat) (X:Cx) (tg iter:Expr) (m:Mi):Prop:=Cxt C k X->PI X tg iter (rdI C m)
def lstG (n:Nat) (xs:List PV) (h':PH):Bool:=match lstAt h' n with
 | some ys=>PV.beqs ys xs
 | none=>false
def ofSeq (x:PV) (h:PH):Rs Wk:=match x with
 | .tup xs=>.ok ⟨xs,fun _=>true⟩ h
 | .ref n=>match lstAt h n with
  | some xs=>.ok ⟨xs,lstG n xs⟩ h
  | none=>.bad
 | .fl xs=>.ok ⟨xs,fun _=>true⟩ h
 | _=>.bad
def mSeqI (m:Me):Mi:=fun δ h=>(m δ h).bind ofSeq
theorem i_seq {tg iter:Expr} {m:Me} (h:SE C k X iter m):SI C k X tg iter (mSeqI m):=fun c=>by
 intro pins s σ H R I q
 obtain ⟨φ,δ,hh,rh,re,p⟩:=q
 have key:rd C m σ H fun v H1=>∃ φ1 x h1,φ<+:φ1/\Kp H H1/\RH C φ1 H1 h1/\RV C φ1 H1 x v/\postI C φ1 H1 (ofSeq x h1) R:=by
  refine ⟨φ,δ,hh,rh,re,?_⟩
  unfold mSeqI at p
  cases e:m δ hh with
  | ok x h1=>
   rw [e] at p
   intro φ' v H' p' t' rh' rv'
   refine ⟨φ',x,h1,p',t',rh',rv',?_⟩
   show postI C φ' H' (ofSeq x h1) R
   have p0:postI C φ H (ofSeq x h1) R:=p
   cases e2:ofSeq x h1 with
   | ok w h2=>rw [e2] at p0; exact fun φ2 H2 J p2 t2=>p0 φ2 H2 J (p'.trans p2) (t'.trans t2)
   | exc z h2=>rw [e2] at p0; exact fun φ2 H2 p2 t2=>p0 φ2 H2 (p'.trans p2) (t'.trans t2)
   | bad=>rw [e2] at p0; exact p0
  | exc x h1=>rw [e] at p; exact p
  | bad=>rw [e] at p; exact p
 refine thn (h c pins s σ H _ I key) fun v s1 hz=>?_
 obtain ⟨x,H1,I1,r1,φ1,x',h1,p1,t1,rh1,rv1,q1⟩:=hz
 unfold ofSeq at q1
 cases x' with
 | tup xs=>
  obtain ⟨a,vs,rfl,sa,ra⟩:=rv1
  cases r1
  rw [<- c.K] at sa
  obtain ⟨its,rv,p,hz⟩:=I1.tuple sa
  refine wpAny_pyIter_tuple (show s1.heap.IsTuple a its.toArray from p) ?_
  refine ⟨s1.heap.objs.size,[s1.heap.objs.size],_,_,H1,rfl,I1.kept (t':=s1.toks) fun b o e=>Heap.get?_push_of_some _ e,turn_tuple a _,⟨_,Heap.get?_push_size _ rfl,rfl,rfl⟩,fun b hb=>?_,?_⟩
  ·have e:b=s1.heap.objs.size:=by simpa using hb
   subst e
   exact I1.fpOk (Nat.le_refl _) (I1.hok.fresh (Nat.le_refl _))
  ·refine q1 φ1 H1 (Itt X.K a) List.prefix_rfl (Kp.refl H1) rh1 fun φ2 H2 h2 p2 t2 rh2 _ i=>⟨fun hi=>?_,fun hi=>⟨vs,t2.sq sa,by rw [<- ra.length]; exact hi⟩⟩
   have hi':i < vs.length:=by rw [<- ra.length]; exact hi
   refine ⟨⟨vs,vs[i],t2.sq sa,by simp [hi']⟩,fun x H' y=>?_⟩
   obtain ⟨e,y⟩:=y
   subst e
   obtain ⟨x2,e2,r2⟩:=ra.get (y vs (t2.sq sa))
   exact ⟨⟨x2,e2,r2.mono p2 t2⟩,Kp.refl _,rh2⟩
 | ref n=>
  obtain ⟨a,rfl,ha⟩:=rv1
  cases r1
  dsimp only at q1
  cases e:lstAt h1 n with
  | none=>rw [e] at q1; exact q1.elim
  | some xs=>
   rw [e] at q1
   obtain ⟨a2,vs,ha2,sa,ra⟩:=lstAt_sq rh1 e
   rw [ha] at ha2; cases ha2
   have sa':SqL X.K H1 a vs:=by rw [c.K]; exact sa
   obtain ⟨its,rv,p,hz⟩:=I1.list sa'
   refine wpAny_pyIter_list p.isList ?_
   refine ⟨s1.heap.objs.size,[s1.heap.objs.size],_,_,H1,rfl,I1.kept (t':=s1.toks) fun b o e=>Heap.get?_push_of_some _ e,turn_list a _,⟨_,Heap.get?_push_size _ rfl,rfl,rfl⟩,fun b hb=>?_,?_⟩
   ·have e:b=s1.heap.objs.size:=by simpa using hb
    subst e
    exact I1.fpOk (Nat.le_refl _) (I1.hok.fresh (Nat.le_refl _))
   ·refine q1 φ1 H1 (Itl X.K a) List.prefix_rfl (Kp.refl H1) rh1 fun φ2 H2 h2 p2 t2 rh2 hg i=>?_
    have hg:(match lstAt h2 n with | some ys=>PV.beqs ys xs | none=>false)=true:=hg
    cases e2:lstAt h2 n with
    | none=>rw [e2] at hg; cases hg
    | some ys=>
     rw [e2] at hg
     have hxy:=PV.beqs_eq hg
     subst hxy
     obtain ⟨a3,us,ha3,su,ru⟩:=lstAt_sq rh2 e2
     rw [pre_get p2 ha] at ha3; cases ha3
     rw [<- c.K] at su
     refine ⟨fun hi=>?_,fun hi=>⟨us,su,by rw [<- ru.length]; exact hi⟩⟩
     have hi':i < us.length:=by rw [<- ru.length]; exact hi
     refine ⟨⟨us,us[i],su,by simp [hi']⟩,fun x H' y=>?_⟩
     obtain ⟨e,y⟩:=y
     subst e
     obtain ⟨x2,e2,r2⟩:=ru.get (y us su)
     exact ⟨⟨x2,e2,r2⟩,Kp.refl _,rh2⟩
 | fl xs=>
  obtain ⟨a,vs,rfl,sa,ra⟩:=rv1
  cases r1
  rw [<- c.K] at sa
  obtain ⟨its,rv,p,hz⟩:=I1.list sa.sq
  refine wpAny_pyIter_list p.isList ?_
  refine ⟨s1.heap.objs.size,[s1.heap.objs.size],_,_,H1,rfl,I1.kept (t':=s1.toks) fun b o e=>Heap.get?_push_of_some _ e,turn_list a _,⟨_,Heap.get?_push_size _ rfl,rfl,rfl⟩,fun b hb=>?_,?_⟩
  ·have e:b=s1.heap.objs.size:=by simpa using hb
   subst e
   exact I1.fpOk (Nat.le_refl _) (I1.hok.fresh (Nat.le_refl _))
  ·refine q1 φ1 H1 (Itl X.K a) List.prefix_rfl (Kp.refl H1) rh1 fun φ2 H2 h2 p2 t2 rh2 _ i=>⟨fun hi=>?_,fun hi=>⟨vs,(t2.sf sa).sq,by rw [<- ra.length]; exact hi⟩⟩
   have hi':i < vs.length:=by rw [<- ra.length]; exact hi
   refine ⟨⟨vs,vs[i],(t2.sf sa).sq,by simp [hi']⟩,fun x H' y=>?_⟩
   obtain ⟨e,y⟩:=y
   subst e
   obtain ⟨x2,e2,r2⟩:=ra.get (y vs (t2.sf sa).sq)
   exact ⟨⟨x2,e2,r2.mono p2 t2⟩,Kp.refl _,rh2⟩
 | _=>exact q1.elim
def upTo (lo:Int):Nat->List PV
 | 0=>[]
 | n+1=>.int lo :: upTo (lo+1) n
theorem upTo_length:∀ (n:Nat) (lo:Int),(upTo lo n).length=n
 | 0,_=>rfl
 | n+1,lo=>by simp [upTo,upTo_length n]
theorem upTo_get:∀ (n:Nat) (lo:Int) (i:Nat),i < n->(upTo lo n)[i]?=some (.int (lo+i))
 | 0,_,_,h=>by omega
 | n+1,lo,0,_=>by simp [upTo]
 | n+1,lo,i+1,h=>by
  simp only [upTo,List.getElem?_cons_succ]
  rw [upTo_get n (lo+1) i (by omega)]
  congr 2
  omega
open Classical in
noncomputable def rngI1:List PV->PH->Rs Wk:=fun xs h=>match xs with
 | [.int j]=>if -(2 ^ 62)<=j/\j < 2 ^ 62 then .ok ⟨upTo 0 j.toNat,fun _=>true⟩ h else .bad
 | _=>.bad
open Classical in
noncomputable def rngI2:List PV->PH->Rs Wk:=fun xs h=>match xs with
 | [.int i,.int j]=>if -(2 ^ 62)<=i/\i < 2 ^ 62/\-(2 ^ 62)<=j/\j < 2 ^ 62 then .ok ⟨upTo i (j - i).toNat,fun _=>true⟩ h else .bad
 | _=>.bad
noncomputable def mRng1 (ms:Ma):Mi:=fun δ h=>(ms δ h).bind rngI1
noncomputable def mRng2 (ms:Ma):Mi:=fun δ h=>(ms δ h).bind rngI2
theorem wk_rng (lo:Int) (n:Nat) (φ:List Addr) (H:Hp):WkOk C (Itr lo n) ⟨upTo lo n,fun _=>true⟩ φ H:=fun φ2 H2 h2 p2 t2 rh2 _ i=>by
 refine ⟨fun hi=>?_,fun hi=>?_⟩
 ·have hi':i < n:=by rw [<- upTo_length n lo]; exact hi
  refine ⟨hi',fun x H' y=>?_⟩
  obtain ⟨e,y⟩:=y
  subst e y
  exact ⟨⟨.int (lo+i),upTo_get n lo i hi',rfl⟩,Kp.refl _,rh2⟩
 ·have:(upTo lo n).length<=i:=hi
  rw [upTo_length] at this
  exact this
theorem postA.bindI {φ:List Addr} {H:Hp} {r:Rs (List PV)} {f:List PV->PH->Rs Wk} {R:It->Hp->Prop} (h:postI C φ H (r.bind f) R):postA C φ H r fun vs H1=>∃ φ1 ps h1,φ<+:φ1/\Kp H H1/\RH C φ1 H1 h1/\RVs C φ1 H1 ps vs/\postI C φ1 H1 (f ps h1) R:=by
 cases r with
 | ok a h'=>
  intro φ' v H' p' t' rh rv
  refine ⟨φ',a,h',p',t',rh,rv,?_⟩
  have p0:postI C φ H (f a h') R:=h
  cases e2:f a h' with
  | ok w h2=>rw [e2] at p0; exact fun φ2 H2 J p2 t2=>p0 φ2 H2 J (p'.trans p2) (t'.trans t2)
  | exc z h2=>rw [e2] at p0; exact fun φ2 H2 p2 t2=>p0 φ2 H2 (p'.trans p2) (t'.trans t2)
  | bad=>rw [e2] at p0; exact p0
 | exc a h'=>exact h
 | bad=>exact h
theorem PI.imp {tg iter:Expr} {t t':TI} (h:PI X tg iter t) (i:∀ σ H R,t' σ H R->t σ H R):PI X tg iter t':=fun pins s σ H R I q=>h pins s σ H R I (i σ H R q)
theorem i_rng1 {x:Expr} {ms:Ma} {tg:Expr} {p pos:Pos} (ha:SA C k X [x] ms) (hb:("range" : Str)∈C.bs:=by decide) (hg:Gl X "range" := by rfl) (hs:starEach [x] X.env=[(false,eval x X.env)]:=by rfl):SI C k X tg (.Call (.Name "range" p) [x] [] pos) (mRng1 ms):=fun c=>
 (pr1 hg (c.bn _ hb) (ha c) hs).imp fun σ H R h=>by
  obtain ⟨φ,δ,h,rh,re,p⟩:=h
  refine ⟨φ,δ,h,rh,re,(postA.bindI p).imp ?_⟩
  rintro vs H1 ⟨φ1,xs,h1,p1,t1,rh1,rv1,q1⟩
  unfold rngI1 at q1
  split at q1
  ·obtain ⟨v,rfl,rx⟩:=rv1.one
   cases rx
   rename_i j
   by_cases hj:-(2 ^ 62)<=j/\j < 2 ^ 62
   ·rw [if_pos hj] at q1
    exact ⟨hj,q1 φ1 H1 _ List.prefix_rfl (Kp.refl _) rh1 (wk_rng 0 j.toNat φ1 H1)⟩
   ·rw [if_neg hj] at q1; exact q1.elim
  ·exact q1.elim
theorem i_rng2 {x y:Expr} {ms:Ma} {tg:Expr} {p pos:Pos} (ha:SA C k X [x,y] ms) (hb:("range" : Str)∈C.bs:=by decide) (hg:Gl X "range" := by rfl) (hs:starEach [x,y] X.env=[(false,eval x X.env),(false,eval y X.env)]:=by rfl) (hs2:starEach [y] X.env=[(false,eval y X.env)]:=by rfl):
  SI C k X tg (.Call (.Name "range" p) [x,y] [] pos) (mRng2 ms):=fun c=>
 (pr2 hg (c.bn _ hb) (ha c) hs hs2).imp fun σ H R h=>by
  obtain ⟨φ,δ,h,rh,re,p⟩:=h
  refine ⟨φ,δ,h,rh,re,(postA.bindI p).imp ?_⟩
  rintro vs H1 ⟨φ1,xs,h1,p1,t1,rh1,rv1,q1⟩
  unfold rngI2 at q1
  split at q1
  ·obtain ⟨v,w,rfl,rx,ry⟩:=rv1.two
   cases rx; cases ry
   rename_i i j
   by_cases hj:-(2 ^ 62)<=i/\i < 2 ^ 62/\-(2 ^ 62)<=j/\j < 2 ^ 62
   ·rw [if_pos hj] at q1
    exact ⟨hj,q1 φ1 H1 _ List.prefix_rfl (Kp.refl _) rh1 (wk_rng i (j - i).toNat φ1 H1)⟩
   ·rw [if_neg hj] at q1; exact q1.elim
  ·exact q1.elim
def loopF (g:PH->Bool) (tg:Mg) (body:Ms):List PV->Ev->PH->Fl
 | [],δ,h=>if g h=true then .nx δ h else .bad
 | x :: xs,δ,h=>if g h=true then (match tg x δ with
  | none=>.bad
  | some δ1=>match body δ1 h with
   | .nx δ2 h2=>loopF g tg body xs δ2 h2
   | .ct δ2 h2=>loopF g tg body xs δ2 h2
   | .bk δ2 h2=>.nx δ2 h2
   | r=>r) else .bad
def mFor (mi:Mi) (tg:Mg) (body:Ms):Ms:=fun δ h=>(mi δ h).fl fun w h1=>loopF w.g tg body w.xs δ h1
theorem postI.fl {φ:List Addr} {H:Hp} {r:Rs Wk} {f:Wk->PH->Fl} {D:Ends} (h:postS C φ H (r.fl f) D):postI C φ H r fun J H1=>∃ φ1 w h1,φ<+:φ1/\Kp H H1/\RH C φ1 H1 h1/\WkOk C J w φ1 H1/\postS C φ1 H1 (f w h1) D:=by
 cases r with
 | ok a h'=>exact fun φ' H' J p t rh wk=>⟨φ',a,h',p,t,rh,wk,postS.weak p t h⟩
 | exc a h'=>exact h
 | bad=>exact h
theorem postI.imp {φ:List Addr} {H:Hp} {r:Rs Wk} {Q Q':It->Hp->Prop} (h:postI C φ H r Q) (i:∀ v H',Q v H'->Q' v H'):postI C φ H r Q':=by
 cases r with
 | ok a h'=>exact fun φ' H' J p t rh wk=>i J H' (h φ' H' J p t rh wk)
 | exc a h'=>exact h
 | bad=>exact h
theorem drop_cons {α:Type} {xs:List α} {i:Nat} {p:α} (h:xs[i]?=some p):xs.drop i=p :: xs.drop (i+1):=by
 obtain ⟨h1,h2⟩:=List.getElem?_eq_some_iff.mp h
 rw [List.drop_eq_getElem_cons h1,h2]
theorem loop_ok {J:It} {w:Wk} {φ0:List Addr} {H0:Hp} {tg:Mg} {body:Ms} {D:Ends} {σ:St} {δ:Ev} {h:PH} (wk:WkOk C J w φ0 H0) (rh:RH C φ0 H0 h) (re:RE C φ0 H0 δ σ) (p:postS C φ0 H0 (loopF w.g tg body w.xs δ h) D):
  ∃ W:Nat->Nat->St->Hp->Prop,(∃ m,W 0 m σ H0)/\∀ i m σ H,W i m σ H->
   (J.stop i H/\D.nx σ H)\/(J.go i H/\∃ N:St->Hp->Prop,(∀ σ' H',N σ' H'->∃ m',m' < m/\W (i+1) m' σ' H')/\∀ x H',J.yld i H x H'->rdG C tg x σ H' fun σ2 H2=>rdS C body { D with nx:=N,ct:=N,bk:=D.nx } σ2 H2):=by
 refine ⟨fun i m σ H=>m=w.xs.length - i/\i<=w.xs.length/\∃ φ δ h,φ0<+:φ/\Kp H0 H/\RH C φ H h/\RE C φ H δ σ/\postS C φ H (loopF w.g tg body (w.xs.drop i) δ h) D,
  ⟨w.xs.length,by simp,Nat.zero_le _,φ0,δ,h,List.prefix_rfl,Kp.refl _,rh,re,by rw [List.drop_zero]; exact p⟩,?_⟩
 rintro i m σ H ⟨rfl,hi,φ,δ,h,pp,tt,rh,re,p⟩
 by_cases hlt:i < w.xs.length
 ·have hd:w.xs.drop i=w.xs[i] :: w.xs.drop (i+1):=drop_cons (by simp [hlt])
  rw [hd] at p
  unfold loopF at p
  by_cases hg:w.g h=true
  ·rw [if_pos hg] at p
   obtain ⟨go,step⟩:=(wk φ H h pp tt rh hg i).1 hlt
   refine .inr ⟨go,fun σ' H'=>∃ φ δ h,φ0<+:φ/\Kp H0 H'/\RH C φ H' h/\RE C φ H' δ σ'/\postS C φ H' (loopF w.g tg body (w.xs.drop (i+1)) δ h) D,fun σ' H' ⟨φ',δ',h',q⟩=>⟨w.xs.length - (i+1),by omega,rfl,hlt,φ',δ',h',q⟩,fun x H' y=>?_⟩
   obtain ⟨⟨q,eq,rv⟩,t1,rh1⟩:=step x H' y
   have eq':w.xs[i]=q:=by
    have:w.xs[i]?=some w.xs[i]:=by simp [hlt]
    rw [this] at eq
    exact Option.some.inj eq
   rw [eq'] at p
   cases et:tg q δ with
   | none=>rw [et] at p; exact p.elim
   | some δ1=>
    rw [et] at p
    dsimp only at p
    refine ⟨φ,δ,h,q,δ1,rh1,re.mono List.prefix_rfl t1,rv,et,fun σ2 re2=>⟨φ,δ1,h,rh1,re2,?_⟩⟩
    have p:=postS.weak List.prefix_rfl t1 p
    cases eb:body δ1 h with
    | nx δ2 h2=>rw [eb] at p; exact fun φ3 σ3 H3 p3 t3 rh3 re3=>⟨φ3,δ2,h2,pp.trans p3,(tt.trans t1).trans t3,rh3,re3,postS.weak p3 t3 p⟩
    | ct δ2 h2=>rw [eb] at p; exact fun φ3 σ3 H3 p3 t3 rh3 re3=>⟨φ3,δ2,h2,pp.trans p3,(tt.trans t1).trans t3,rh3,re3,postS.weak p3 t3 p⟩
    | bk δ2 h2=>rw [eb] at p; exact p
    | rt z h2=>rw [eb] at p; exact p
    | exc z h2=>rw [eb] at p; exact p
    | bad=>rw [eb] at p; exact p
  ·rw [if_neg hg] at p
   exact p.elim
 ·have e:i=w.xs.length:=by omega
  subst e
  rw [List.drop_length] at p
  unfold loopF at p
  by_cases hg:w.g h=true
  ·rw [if_pos hg] at p
   exact .inl ⟨(wk φ H h pp tt rh hg _).2 (Nat.le_refl _),p.nx rh re⟩
  ·rw [if_neg hg] at p
   exact p.elim
theorem z_for {tg iter:Expr} {body:List Stmt} {mi:Mi} {t:Mg} {mb:Ms} {pos:Pos} (hi:SI C k X tg iter mi) (hg:SG C k X tg t) (hb:SSs C k X body mb) (hp:PassesOwn (model X.prog X.w) X.A X.env X.xe:=by exact PassesOwn.never)
  (hs:∀ x,foldedSetIterable iter X.env x=pure x:=by intro _; rfl):SSt C k X (.For tg iter body [] pos) (mFor mi t mb):=fun c=>(ps_for hp c.calm (hi c) (hg c) (hb c) hs).imp fun D σ H h=>by
 obtain ⟨φ,δ,h,rh,re,p⟩:=h
 refine ⟨φ,δ,h,rh,re,(postI.fl p).imp ?_⟩
 rintro J H1 ⟨φ1,w,h1,p1,t1,rh1,wk,q1⟩
 exact loop_ok wk rh1 (re.mono p1 t1) q1
def loopW (t:Ev->PH->Rs Bool) (body:Ms):Nat->Ev->PH->Fl
 | 0,_,_=>.bad
 | n+1,δ,h=>(t δ h).fl fun b h1=>match b with
  | false=>.nx δ h1
  | true=>match body δ h1 with
   | .nx δ2 h2=>loopW t body n δ2 h2
   | .ct δ2 h2=>loopW t body n δ2 h2
   | .bk δ2 h2=>.nx δ2 h2
   | r=>r
def mWhile (n:Nat) (t:Ev->PH->Rs Bool) (body:Ms):Ms:=loopW t body n
theorem z_while {n:Nat} {cnd:Expr} {body:List Stmt} {t:Ev->PH->Rs Bool} {mb:Ms} {pos:Pos} (hc:ST C k X cnd t) (hb:SSs C k X body mb) (hp:PassesOwn (model X.prog X.w) X.A X.env X.xe:=by exact PassesOwn.never):SSt C k X (.While cnd body [] pos) (mWhile n t mb):=fun c=>
 (ps_while hp (hc c) (hb c)).imp fun D σ H h=>by
  refine ⟨fun m σ H=>∃ φ δ h,RH C φ H h/\RE C φ H δ σ/\postS C φ H (loopW t mb m δ h) D,⟨n,h⟩,?_⟩
  rintro m σ H ⟨φ,δ,h,rh,re,p⟩
  cases m with
  | zero=>exact p.elim
  | succ m=>
   refine ⟨φ,δ,h,rh,re,(postB.fl p).imp ?_⟩
   rintro b H1 ⟨φ1,h1,p1,t1,rh1,q1⟩
   cases b with
   | false=>exact iteF (q1.nx rh1 (re.mono p1 t1))
   | true=>
    refine iteT ⟨fun σ' H'=>∃ φ δ h,RH C φ H' h/\RE C φ H' δ σ'/\postS C φ H' (loopW t mb m δ h) D,fun σ' H' q=>⟨m,Nat.lt_succ_self m,q⟩,φ1,δ,h1,rh1,re.mono p1 t1,?_⟩
    dsimp only at q1
    cases eb:mb δ h1 with
    | nx δ2 h2=>rw [eb] at q1; exact fun φ3 σ3 H3 p3 t3 rh3 re3=>⟨φ3,δ2,h2,rh3,re3,postS.weak p3 t3 q1⟩
    | ct δ2 h2=>rw [eb] at q1; exact fun φ3 σ3 H3 p3 t3 rh3 re3=>⟨φ3,δ2,h2,rh3,re3,postS.weak p3 t3 q1⟩
    | bk δ2 h2=>rw [eb] at q1; exact q1
    | rt z h2=>rw [eb] at q1; exact q1
    | exc z h2=>rw [eb] at q1; exact q1
    | bad=>rw [eb] at q1; exact q1
end L2
set_option Elab.async false
set_option linter.all false
set_option maxRecDepth 100000
namespace L2
open PySem PySem.Spec PyProof.Rows
variable {C:MC} {k:Nat} {X:Cx}
def capE (js:List (Option Nat)) (δ:Ev):Ev:=js.map fun o=>match o with
 | none=>none
 | some j=>evAt δ j
theorem stAt_of:∀ {σ:St} {i:Nat} {v:V},σ[i]?=some (some v)->stAt σ i=some v
 | [],_,_,h=>by simp at h
 | x :: _,0,v,h=>by
  have:x=some v:=by simpa using h
  exact this
 | _ :: r,n+1,v,h=>stAt_of (σ:=r) (i:=n) (by simpa using h)
theorem RE.cap {φ:List Addr} {H:Hp} {δ:Ev} {σ:St} (re:RE C φ H δ σ) (js:List (Option Nat)):RE C φ H (capE js δ) (capS js σ):=by
 refine ⟨by simp [capE,capS],fun i p e=>?_⟩
 unfold capE at e
 unfold capS
 rw [List.getElem?_map] at e ⊢
 cases q:js[i]? with
 | none=>rw [q] at e; cases e
 | some o=>
  rw [q] at e
  cases o with
  | none=>cases e
  | some j=>
   obtain ⟨v,hv,rv⟩:=re.2 j p (evAt_get (Option.some.inj e))
   exact ⟨v,by show some (stAt σ j)=_; rw [stAt_of hv],rv⟩
def loopC (g:PH->Bool) (tg:Mg) (tst:Ev->PH->Rs Bool) (elt:Me) (δ0:Ev) (n:Nat):List PV->PH->Rs PV
 | [],h=>if g h=true then .ok (.ref n) h else .bad
 | x :: xs,h=>if g h=true then (match tg x δ0 with
  | none=>.bad
  | some δ1=>(tst δ1 h).bind fun b h1=>match b with
   | false=>loopC g tg tst elt δ0 n xs h1
   | true=>(elt δ1 h1).bind fun p h2=>match isLst h2 n with
    | some ys=>if ys.length < sizeLine then loopC g tg tst elt δ0 n xs (h2.set n (.lst (ys++[p]))) else .bad
    | none=>.bad) else .bad
def mComp (js:List (Option Nat)) (mi:Mi) (tg:Mg) (tst:Ev->PH->Rs Bool) (elt:Me):Me:=fun δ h=>(mi δ h).bind fun w h1=>loopC w.g tg tst elt (capE js δ) h1.length w.xs (h1++[.lst []])
def mYes:Ev->PH->Rs Bool:=fun _ h=>.ok true h
def STs (C:MC) (k:Nat) (X:Cx) (es:List Expr) (m:Ev->PH->Rs Bool):Prop:=Cxt C k X->PTs X es (rdB C m)
theorem ts_nil:STs C k X [] mYes:=fun c pins s σ H Q I h=>by
 obtain ⟨φ,δ,h,rh,re,p⟩:=h
 exact pts_nil pins s σ H Q I (p.val rh)
theorem ts_one {e:Expr} {m:Ev->PH->Rs Bool} (h:ST C k X e m):STs C k X [e] m:=fun c=>pts_one (h c)
theorem postI.bind {φ:List Addr} {H:Hp} {r:Rs Wk} {f:Wk->PH->Rs PV} {Q:VK} (h:post C φ H (r.bind f) Q):postI C φ H r fun J H1=>∃ φ1 w h1,φ<+:φ1/\Kp H H1/\RH C φ1 H1 h1/\WkOk C J w φ1 H1/\post C φ1 H1 (f w h1) Q:=by
 cases r with
 | ok a h'=>exact fun φ' H' J p t rh wk=>⟨φ',a,h',p,t,rh,wk,post.weak p t h⟩
 | exc a h'=>exact h
 | bad=>exact h
theorem loopC_ok {J:It} {w:Wk} {φ0:List Addr} {H0:Hp} {tg:Mg} {tst:Ev->PH->Rs Bool} {elt:Me} {Q:VK} {σ:St} {δ:Ev} {h:PH} {js:List (Option Nat)} (wk:WkOk C J w φ0 H0) (rh:RH C φ0 H0 h) (re:RE C φ0 H0 δ σ)
  (p:post C φ0 H0 (loopC w.g tg tst elt (capE js δ) h.length w.xs (h++[.lst []])) Q) (acc:Addr) (hacc:H0 acc=none):
  ∃ W:Nat->Nat->Hp->Prop,(∃ m,W 0 m (upd H0 acc (.lst [])))/\∀ i m H2,W i m H2->
   (J.stop i H2/\Q (.ref acc) H2)\/(J.go i H2/\∃ N:Hp->Prop,(∀ H',N H'->∃ m',m' < m/\W (i+1) m' H')/\∀ x H3,J.yld i H2 x H3->tTurn js (rdG C tg) (rdB C tst) (rd C elt) σ acc x H3 N):=by
 have hlen:(φ0++[acc])[h.length]?=some acc:=by rw [<- rh.len]; simp
 refine ⟨fun i m H=>m=w.xs.length - i/\i<=w.xs.length/\∃ φ h',(φ0++[acc])<+:φ/\Kp H0 H/\RH C φ H h'/\post C φ H (loopC w.g tg tst elt (capE js δ) h.length (w.xs.drop i) h') Q,
  ⟨w.xs.length,by simp,Nat.zero_le _,φ0++[acc],h++[.lst []],List.prefix_rfl,Kp.new hacc,rh.new (o:=.lst []) hacc ⟨[],upd_same,trivial⟩,by rw [List.drop_zero]; exact post.weak (List.prefix_append _ _) (Kp.new hacc) p⟩,?_⟩
 rintro i m H ⟨rfl,hi,φ,h',pp,tt,rh',p⟩
 have pp0:φ0<+:φ:=(List.prefix_append _ _).trans pp
 by_cases hlt:i < w.xs.length
 ·have hd:w.xs.drop i=w.xs[i] :: w.xs.drop (i+1):=drop_cons (by simp [hlt])
  rw [hd] at p
  unfold loopC at p
  by_cases hg:w.g h'=true
  ·rw [if_pos hg] at p
   obtain ⟨go,step⟩:=(wk φ H h' pp0 tt rh' hg i).1 hlt
   refine .inr ⟨go,fun H'=>∃ φ h',(φ0++[acc])<+:φ/\Kp H0 H'/\RH C φ H' h'/\post C φ H' (loopC w.g tg tst elt (capE js δ) h.length (w.xs.drop (i+1)) h') Q,fun H' ⟨φ',h',q⟩=>⟨w.xs.length - (i+1),by omega,rfl,hlt,φ',h',q⟩,fun x H' y=>?_⟩
   obtain ⟨⟨q,eq,rv⟩,t1,rh1⟩:=step x H' y
   have eq':w.xs[i]=q:=by
    have:w.xs[i]?=some w.xs[i]:=by simp [hlt]
    rw [this] at eq
    exact Option.some.inj eq
   rw [eq'] at p
   cases et:tg q (capE js δ) with
   | none=>rw [et] at p; exact p.elim
   | some δ1=>
    rw [et] at p
    have re1:RE C φ H' (capE js δ) (capS js σ):=(re.mono pp0 (tt.trans t1)).cap js
    refine ⟨φ,capE js δ,h',q,δ1,rh1,re1,rv,et,fun σ2 re2=>⟨φ,δ1,h',rh1,re2,(postB.bind (post.weak List.prefix_rfl t1 p)).imp ?_⟩⟩
    rintro b H5 ⟨φ5,h5,p5,t5,rh5,q5⟩
    cases b with
    | false=>exact iteF ⟨φ5,h5,pp.trans p5,(tt.trans t1).trans t5,rh5,q5⟩
    | true=>
     refine iteT ⟨φ5,δ1,h5,rh5,re2.mono p5 t5,(post.bind q5).imp ?_⟩
     rintro v H6 ⟨φ6,z,h6,p6,t6,rh6,rv6,q6⟩
     cases e6:isLst h6 h.length with
     | none=>rw [e6] at q6; exact q6.elim
     | some ys=>
      rw [e6] at q6
      obtain ⟨hz,q6⟩:=q6.ite
      have hφ:φ6[h.length]?=some acc:=pre_get ((pp.trans p5).trans p6) hlen
      obtain ⟨vs,hH,rvs⟩:=rh6.at' h.length acc _ hφ (isLst_eq e6)
      refine ⟨vs,hH,by rw [<- rvs.length]; exact hz,φ6,h6.set h.length (.lst (ys++[z])),(pp.trans p5).trans p6,(((tt.trans t1).trans t5).trans t6).trans (Kp.lst hH),
       rh6.write hφ (by rw [hH]; trivial) ⟨vs++[v],upd_same,(rvs.snoc rv6).mono List.prefix_rfl (Kp.lst hH)⟩,post.weak List.prefix_rfl (Kp.lst hH) q6⟩
  ·rw [if_neg hg] at p
   exact p.elim
 ·have e:i=w.xs.length:=by omega
  subst e
  rw [List.drop_length] at p
  unfold loopC at p
  by_cases hg:w.g h'=true
  ·rw [if_pos hg] at p
   exact .inl ⟨(wk φ H h' pp0 tt rh' hg _).2 (Nat.le_refl _),p.val rh' ⟨acc,rfl,pre_get pp hlen⟩⟩
  ·rw [if_neg hg] at p
   exact p.elim
theorem rd_comp {js:List (Option Nat)} {mi:Mi} {tg:Mg} {tst:Ev->PH->Rs Bool} {elt:Me} {σ:St} {H:Hp} {Q:VK} (h:rd C (mComp js mi tg tst elt) σ H Q):tComp js (rdI C mi) (rdG C tg) (rdB C tst) (rd C elt) σ H Q:=by
 obtain ⟨φ,δ,h,rh,re,p⟩:=h
 refine ⟨φ,δ,h,rh,re,(postI.bind p).imp ?_⟩
 rintro J H1 ⟨φ1,w,h1,p1,t1,rh1,wk,q1⟩
 intro acc hacc
 exact loopC_ok wk rh1 (re.mono p1 t1) q1 acc hacc
section
variable {elt iter tg:Expr} {ifs:List Expr} {sc:Scope} {pos:Pos} {os:Scope} {oN N:List Str} {js:List (Option Nat)} {mi:Mi} {g:Mg} {tt:Ev->PH->Rs Bool} {me:Me}
theorem s_comp (hes:X.env.scope=os) (heN:X.N=oN) (ok:compSc os oN sc N js=true) (hi:SI C k X tg iter mi)
  (hg:∀ C' fp s₀ H₀,SG C k (X.comp sc N C' fp s₀ H₀) tg g) (ht:∀ C' fp s₀ H₀,STs C k (X.comp sc N C' fp s₀ H₀) ifs tt) (he:∀ C' fp s₀ H₀,SE C k (X.comp sc N C' fp s₀ H₀) elt me)
  (hs:∀ x,foldedSetIterable iter X.env x=pure x:=by intro _; rfl):SE C k X (.ListComp elt [⟨tg,iter,ifs,0⟩] sc pos) (mComp js mi g tt me):=fun c=>
 (pe_comp c.calm hes heN ok (hi c) (fun a b s H=>hg a b s H (c.comp sc N a b s H)) (fun a b s H=>ht a b s H (c.comp sc N a b s H)) (fun a b s H=>he a b s H (c.comp sc N a b s H)) hs).imp fun σ H Q h=>rd_comp h
theorem z_setcomp {i:Nat} {x:Str} {pos' spos:Pos} (hN:X.N.Nodup) (hx':X.N[i]?=some x) (hloc:X.env.scope.names.lookup x=some .local) (hes:X.env.scope=os) (heN:X.N=oN) (ok:compSc os oN sc N js=true) (hi:SI C k X tg iter mi)
  (hg:∀ C' fp s₀ H₀,SG C k (X.comp sc N C' fp s₀ H₀) tg g) (ht:∀ C' fp s₀ H₀,STs C k (X.comp sc N C' fp s₀ H₀) ifs tt) (he:∀ C' fp s₀ H₀,SE C k (X.comp sc N C' fp s₀ H₀) elt me)
  (hsw:swapsWith (.ListComp elt [⟨tg,iter,ifs,0⟩] sc pos) (some (.Name x pos')) spos.line X.env=pure true:=by rfl)
  (hs:∀ x,foldedSetIterable iter X.env x=pure x:=by intro _; rfl):SSt C k X (.Assign [.Name x pos'] (.ListComp elt [⟨tg,iter,ifs,0⟩] sc pos) spos) (mSet i (mComp js mi g tt me)):=fun c=>
 (ps_setcomp hN hx' hloc c.calm hes heN ok (hi c) (fun a b s H=>hg a b s H (c.comp sc N a b s H)) (fun a b s H=>ht a b s H (c.comp sc N a b s H)) (fun a b s H=>he a b s H (c.comp sc N a b s H)) hsw hs).imp fun D σ H h=>by
  obtain ⟨φ,δ,h,rh,re,p⟩:=h
  refine rd_comp ⟨φ,δ,h,rh,re,(post.fl p).imp ?_⟩
  rintro v H1 ⟨φ1,x,h1,p1,t1,rh1,rv1,q1⟩
  exact q1.nx rh1 ((re.mono p1 t1).set rv1 i)
end
def mFn (N:Nat) (body:Ms):Fn:=fun args h=>match body (args.map some++List.replicate (N - args.length) none) h with
 | .nx _ h'=>.ok .non h'
 | .rt p h'=>.ok p h'
 | .exc x h'=>.exc x h'
 | _=>.bad
theorem RE.start {φ:List Addr} {H:Hp} {ps:List PV} {vs:List V} (r:RVs C φ H ps vs) (N:List Str):RE C φ H (ps.map some++List.replicate (N.length - ps.length) none) (start N vs):=by
 unfold L2.start
 refine ⟨by simp [r.length],fun i p e=>?_⟩
 by_cases hi:i < ps.length
 ·rw [List.getElem?_append_left (by simpa using hi),List.getElem?_map] at e
  rw [List.getElem?_append_left (by simpa [<- r.length] using hi),List.getElem?_map]
  cases q:ps[i]? with
  | none=>rw [q] at e; cases e
  | some x=>
   rw [q] at e
   cases e
   obtain ⟨v,hv,rv⟩:=r.at q
   exact ⟨v,by rw [hv]; rfl,rv⟩
 ·rw [List.getElem?_append_right (by simpa using hi)] at e
  rw [List.getElem?_replicate] at e
  split at e
  ·cases e
  ·cases e
theorem fn_ok {P:Program} {mg:Str->Option Value} {base:Heap} {x qual:Str} {st:Stmt} {f:Addr} {fd:FuncData} {N ps:List Str} {body:Ms} (hex:∀ φ H x,¬ C.ex φ H x) (hbn:∀ x∈C.bs,mg x=none)
  (F:Fun C.K x qual st f fd) (S:FnScope N ps (defScope st))
  (hb:∀ (cdv:Value) (A:Around) (outer:List Env) (s:Shared) (H:Hp) (E:XK),SSs C k (cxOf CX0 P C.w C.K mg base N qual (defScope st) f cdv A outer s H E).nox (defBody st) body):
  FnOk P C.w C.K mg base CX0 (k+1) f fd ps (spM C ps.length (mFn N.length body)):=by
 refine F.ok S (fun vs H Q E h=>?_) (fun cdv A outer s H vs Q E hr h=>?_)
 ·obtain ⟨φ,h,xs,rh,rv,hl,_⟩:=h
  rw [<- rv.length]
  exact hl
 ·obtain ⟨φ,h,xs,rh,rv,hl,p⟩:=h
  refine ⟨_,hb cdv A outer s H E ⟨rfl,rfl,hr,hbn,rfl⟩,φ,xs.map some++List.replicate (N.length - xs.length) none,h,rh,RE.start rv N,?_⟩
  unfold mFn at p
  cases e:body (xs.map some++List.replicate (N.length - xs.length) none) h with
  | nx δ h'=>rw [e] at p; exact fun φ' σ' H' pp tt rh' re'=>p φ' .non H' pp tt rh' rfl
  | rt z h'=>rw [e] at p; exact p
  | exc z h'=>rw [e] at p; exact fun φ' H' pp tt rh'=>(hex _ _ _ (p φ' H' pp tt rh')).elim
  | bk δ h'=>rw [e] at p; exact p.elim
  | ct δ h'=>rw [e] at p; exact p.elim
  | bad=>rw [e] at p; exact p.elim
theorem law_sp {f:Fn} {H:Hp} {Q:VK} {E:XK} {a:Addr} {ns:List Int} (hO:Only H) (ho:SqL C.K H a (ns.map V.int)) (hf:∃ h,f [.fl (ns.map PV.int)] []=.ok (.bl true) h) (hQ:∀ H',Q (.bl true) H'):spM C 1 f [.ref a] H Q E:=by
 have r0:∀ ns:List Int,RVs C [] H (ns.map PV.int) (ns.map V.int):=by
  intro ns
  induction ns with
  | nil=>trivial
  | cons n ns ih=>exact ⟨rfl,ih⟩
 have hs:SqF C.K H a (ns.map V.int):=by
  rcases ho with (h | ⟨o,h⟩) | h
  ·rcases hO a with z | ⟨o,xs,z⟩
   ·rw [z] at h; cases h
   ·rw [z] at h; cases h
  ·exact .inl ⟨o,h⟩
  ·exact .inr h
 refine ⟨[],[],[.fl (ns.map PV.int)],⟨rfl,by simp,fun n b ob h1 h2=>by simp at h1⟩,⟨⟨a,_,rfl,hs,r0 ns⟩,trivial⟩,rfl,?_⟩
 obtain ⟨h,e⟩:=hf
 rw [e]
 intro φ' v H' _ _ _ rv
 cases rv
 exact hQ H'
end L2
set_option Elab.async false
set_option linter.all false
set_option maxRecDepth 100000
namespace L2
open PySem PySem.Spec PyProof.Rows
variable {C:MC} {k:Nat} {X:Cx}
def tyN (x:PV) (h:PH):Option String:=match x with
 | .non=>some "NoneType"
 | .bl _=>some "bool"
 | .int _=>some "int"
 | .str _=>some "str"
 | .tup _=>some "tuple"
 | .fl _=>some "list"
 | .ref n=>match h[n]? with
  | some (.lst _)=>some "list"
  | some (.dK _)=>some "dict"
  | _=>none
 | .ty _=>none
def isSub (t c:String):Bool:=t == c || (t == "bool" && c == "int")
def known:List String:=["int","str","bool","list","tuple","dict"]
theorem kit_ok {K:PySem.W.Frag} {t c:String} (ht:t∈"NoneType" :: known) (hc:c∈known):PySem.W.kitOne K (.type t) (.type c)=some (isSub t c):=by
 simp only [known,List.mem_cons,List.not_mem_nil,or_false] at ht hc
 rcases ht with rfl | rfl | rfl | rfl | rfl | rfl | rfl <;> rcases hc with rfl | rfl | rfl | rfl | rfl | rfl <;> rfl
def vIsI:List PV->PH->Rs PV:=fun xs h=>match xs with
 | [x,.ty c]=>match tyN x h with
  | some t=>if c∈known then .ok (.bl (isSub t c)) h else .bad
  | none=>.bad
 | _=>.bad
theorem call_isI (hK:X.K=C.K):CallR X (.builtin "isinstance") (fun xs H Q=>∃ x c t b,xs=[x,.ty c]/\(TyOf C.K H x (.type t)\/(∃ a vs,x=.ref a/\SqT C.K H a vs/\t="tuple")\/(∃ a vs,x=.ref a/\SqL C.K H a vs/\t="list"))/\PySem.W.kitOne C.K (.type t) (.type c)=some b/\Q (.bl b) H):=by
 intro pins s σ H xs us Q I r h
 obtain ⟨x,c,t,b,rfl,ty,e,q⟩:=h
 obtain ⟨u,v,rfl,ru,rv⟩:=vals2 r
 cases rv
 rw [<- hK] at e ty
 rcases ty with ty | ⟨a,vs,rfl,sa,rfl⟩ | ⟨a,vs,rfl,sa,rfl⟩
 ·exact isinst_ok I ru ty e fun tk=>⟨.bl b,H,I.tok tk,rfl,q⟩
 ·cases ru
  obtain ⟨its,_,⟨o,h1,h2,_⟩,_⟩:=I.tuple sa
  exact PySem.W.kia_one PySem.W.kitx_tuple I.kIn ⟨o,h1,h2⟩ e (fun z=>nomatch z) fun tk=>⟨.bl b,H,I.tok tk,rfl,q⟩
 ·cases ru
  obtain ⟨its,_,⟨o,n,h1,h2,_⟩,_⟩:=I.list sa
  exact PySem.W.kia_one PySem.W.kitx_list I.kIn ⟨o,h1,h2⟩ e (fun z=>nomatch z) fun tk=>⟨.bl b,H,I.tok tk,rfl,q⟩
theorem b_isinstance:CallS C k X (.builtin "isinstance") vIsI:=fun c=>(call_isI c.K).imp fun vs H Q h=>by
 obtain ⟨φ,h,ps,rh,rv,po⟩:=h
 unfold vIsI at po
 split at po
 ·rename_i x n
  obtain ⟨v,w,rfl,rx,ry⟩:=rv.two
  cases ry
  split at po
  ·rename_i t ht
   obtain ⟨hn,po⟩:=po.ite
   have fin:∀ {t:String},t∈"NoneType" :: known->post C φ H (.ok (.bl (isSub t n)) h) Q->PySem.W.kitOne C.K (.type t) (.type n)=some (isSub t n)/\Q (.bl (isSub t n)) H:=fun hm po=>⟨kit_ok hm hn,po.val rh rfl⟩
   unfold tyN at ht
   cases x with
   | non=>cases ht; cases rx; exact ⟨_,n,_,_,rfl,.inl .non,fin (by decide) po⟩
   | bl b=>cases ht; cases rx; exact ⟨_,n,_,_,rfl,.inl (.bl _),fin (by decide) po⟩
   | int b=>cases ht; cases rx; exact ⟨_,n,_,_,rfl,.inl (.int _),fin (by decide) po⟩
   | str b=>cases ht; cases rx; exact ⟨_,n,_,_,rfl,.inl (.str _),fin (by decide) po⟩
   | tup xs=>
    cases ht
    obtain ⟨a,vs,rfl,sa,ra⟩:=rx
    exact ⟨_,n,_,_,rfl,.inr (.inl ⟨a,vs,rfl,sa,rfl⟩),fin (by decide) po⟩
   | fl xs=>
    cases ht
    obtain ⟨a,vs,rfl,sa,ra⟩:=rx
    exact ⟨_,n,_,_,rfl,.inr (.inr ⟨a,vs,rfl,sa.sq,rfl⟩),fin (by decide) po⟩
   | ref m=>
    obtain ⟨a,rfl,ha⟩:=rx
    dsimp only at ht
    split at ht
    ·rename_i xs hx
     cases ht
     obtain ⟨vs,hH,ra⟩:=rh.at' m a _ ha hx
     exact ⟨_,n,_,_,rfl,.inl (.lst hH),fin (by decide) po⟩
    ·rename_i xs hx
     cases ht
     obtain ⟨vs,hH,ra⟩:=rh.at' m a _ ha hx
     exact ⟨_,n,_,_,rfl,.inl (.dK hH),fin (by decide) po⟩
    ·cases ht
   | ty z=>cases ht
  ·exact po.elim
 ·exact po.elim
def vMin:List PV->PH->Rs PV:=fun xs h=>match xs with
 | [.int i,.int j]=>.ok (.int (if j < i then j else i)) h
 | _=>.bad
def mMt (ty:PV->PH->Bool) (g:PV->List PV->PH->Rs PV) (mo:Me) (ms:Ma):Me:=fun δ h=>(mo δ h).bind fun x h1=>if ty x h1=true then (ms δ h1).bind fun ps h2=>g x ps h2 else .bad
def mMt0 (ty:PV->PH->Bool) (g:PV->List PV->PH->Rs PV) (mo:Me):Me:=fun δ h=>(mo δ h).bind fun x h1=>if ty x h1=true then g x [] h1 else .bad
def rM (C:MC) (g:PV->List PV->PH->Rs PV):V->List V->Hp->VK->Prop:=fun x xs H Q=>∃ φ h p ps,RH C φ H h/\RV C φ H p x/\RVs C φ H ps xs/\post C φ H (g p ps h) Q
def MtS (C:MC) (k:Nat) (X:Cx) (T:String) (ty:PV->PH->Bool) (id:String) (g:PV->List PV->PH->Rs PV):Prop:=Cxt C k X->MtR X id (rM C g)/\∀ φ H h p x,RH C φ H h->RV C φ H p x->ty p h=true->tyV C.K T x H
section
variable {o e:Expr} {es:List Expr} {mo:Me} {ms:Ma} {name:Str} {apos cpos:Pos} {T id:String} {ty:PV->PH->Bool} {g:PV->List PV->PH->Rs PV}
theorem s_mt (pa:PlainAttrs T) (slot:Slot T name id) (hty:typeOf (.builtin id)=pure (.type "method_descriptor")) (hm:MtS C k X T ty id g) (ho:SE C k X o mo) (ha:SA C k X (e :: es) ms)
  (hbase:attributeBase o name X.env (eval o X.env)=eval o X.env:=by rfl)
  (hfew:((backTo cpos (starEach (e :: es) X.env)).all (fun x=>!x.1) && (backToKw cpos (keywordEach [] X.env)).all (fun x=>x.1.isSome)
   && decide ((e :: es).length+([]:List Keyword).length+(if ([]:List Keyword).isEmpty then 0 else 1) < 30))=true:=by rfl)
  (hline:(apos.endLine == cpos.line)=true:=by rfl) (hs:starEach (e :: es) X.env=(false,eval e X.env) :: starEach es X.env:=by rfl) (hplain:(backTo cpos (starEach es X.env)).any (·.1)=false:=by rfl):
  SE C k X (.Call (.Attribute o name apos) (e :: es) [] cpos) (mMt ty g mo ms):=fun c=>(pe_bm pa slot hty (hm c).1 (ho c) (ha c) hbase hfew hline hs hplain).imp fun σ H Q h=>by
 obtain ⟨φ,δ,h,rh,re,p⟩:=h
 refine ⟨φ,δ,h,rh,re,(post.bind p).imp ?_⟩
 rintro v H1 ⟨φ1,x,h1,p1,t1,rh1,rv1,q1⟩
 obtain ⟨ht,q1⟩:=q1.ite
 refine ⟨by rw [c.K]; exact (hm c).2 φ1 H1 h1 x v rh1 rv1 ht,φ1,δ,h1,rh1,re.mono p1 t1,(postA.bind q1).imp ?_⟩
 rintro vs H2 ⟨φ2,xs,h2,p2,t2,rh2,rv2,q2⟩
 exact ⟨φ2,h2,x,xs,rh2,rv1.mono p2 t2,rv2,q2⟩
end
theorem MtR.imp {id:String} {r r':V->List V->Hp->VK->Prop} (h:MtR X id r) (i:∀ x xs H Q,r' x xs H Q->r x xs H Q):MtR X id r':=fun pins s σ H x xs v us Q I rx rs q=>h pins s σ H x xs v us Q I rx rs (i x xs H Q q)
def isL (x:PV) (h:PH):Bool:=match x with
 | .ref n=>(isLst h n).isSome
 | _=>false
theorem isL_ty {φ:List Addr} {H:Hp} {h:PH} {p:PV} {x:V} (rh:RH C φ H h) (rv:RV C φ H p x) (e:isL p h=true):tyV C.K "list" x H:=by
 cases p with
 | ref n=>
  obtain ⟨a,rfl,ha⟩:=rv
  obtain ⟨xs,hx⟩:=Option.isSome_iff_exists.mp (show (isLst h n).isSome=true from e)
  obtain ⟨vs,hH,ra⟩:=rh.at' n a _ ha (isLst_eq hx)
  exact .inl ⟨rfl,vs,SqL.of hH⟩
 | _=>cases e
def onL (f:List PV->List PV->Option (PV×List PV)):PV->List PV->PH->Rs PV:=fun x ps h=>match x with
 | .ref n=>match isLst h n with
  | some xs=>match f xs ps with
   | some (r,ys)=>.ok r (h.set n (.lst ys))
   | none=>.bad
  | none=>.bad
 | _=>.bad
theorem onL_ok {f:List PV->List PV->Option (PV×List PV)} {x:V} {xs:List V} {H:Hp} {Q:VK} (h:rM C (onL f) x xs H Q):∃ φ l ps ys vs r zs,x=.ref l/\H l=some (.lst vs)/\RVs C φ H ys vs/\RVs C φ H ps xs/\f ys ps=some (r,zs)/\
  ∀ (v:V) (ws:List V),RV C φ H r v->RVs C φ H zs ws->Q v (upd H l (.lst ws)):=by
 obtain ⟨φ,h,p,ps,rh,rx,rs,po⟩:=h
 unfold onL at po
 cases p with
 | ref n=>
  obtain ⟨a,rfl,ha⟩:=rx
  dsimp only at po
  cases e:isLst h n with
  | none=>rw [e] at po; exact po.elim
  | some ys=>
   rw [e] at po
   dsimp only at po
   obtain ⟨vs,hH,ra⟩:=rh.at' n a _ ha (isLst_eq e)
   cases ef:f ys ps with
   | none=>rw [ef] at po; exact po.elim
   | some rz=>
    rw [ef] at po
    obtain ⟨r,zs⟩:=rz
    exact ⟨φ,a,ps,ys,vs,r,zs,rfl,hH,ra,rs,ef,fun v ws rv rw'=>po.lset rh ha hH rw' rv⟩
 | _=>exact po.elim
def fAppend:List PV->List PV->Option (PV×List PV):=fun xs ps=>match ps with
 | [p]=>if xs.length < sizeLine then some (.non,xs++[p]) else none
 | _=>none
theorem m_append1:MtR X "list.append" (rM C (onL fAppend)):=MtR.imp (show MtR X "list.append" rAppend from mt_append) fun x xs H Q h=>by
 obtain ⟨φ,l,ps,ys,vs,r,zs,rfl,hH,ra,rs,ef,q⟩:=onL_ok h
 unfold fAppend at ef
 split at ef
 ·split at ef
  ·rename_i hz
   cases ef
   obtain ⟨v,rfl,rx⟩:=rs.one
   exact ⟨l,vs,v,rfl,rfl,hH,by rw [<- ra.length]; exact hz,q .non _ rfl (ra.snoc rx)⟩
  ·cases ef
 ·cases ef
theorem m_append:MtS C k X "list" isL "list.append" (onL fAppend):=fun c=>⟨m_append1,fun φ H h p x rh rv e=>isL_ty rh rv e⟩
def rCat0 (K:PySem.W.Frag):R2:=fun x y H Q=>∃ a b ys,x=.ref a/\y=.ref b/\SqT K H a []/\SqT K H b ys/\Q (.ref b) H
theorem op_cat0:OpR X (binaryOp .Add) (rCat0 X.K):=by
 intro pins s σ H x y v u Q I rx ry h
 obtain ⟨a,b,ys,rfl,rfl,ha,hb,q⟩:=h
 cases rx
 cases ry
 obtain ⟨its,r1,p1,_⟩:=I.tuple ha
 obtain ⟨its2,r2,p2,_⟩:=I.tuple hb
 cases r1
 obtain ⟨⟨cls,dd,data,sl⟩,ho,hc,n,hd⟩:=id p1
 obtain ⟨⟨cls2,dd2,data2,sl2⟩,ho2,hc2,n2,hd2⟩:=id p2
 simp only at hc hd hc2 hd2
 subst hc hd hc2 hd2
 exact concat_meets ⟨_,ho,rfl⟩ ⟨_,ho2,rfl⟩ noFill_tuple_add seq_tuple_add PySem.F.slot_tuple_add PySem.F.entry_tuple_add (PySem.F.args_tuple_add_2 _ _)
   (tuple_addW0 a b ([]:List Value).toArray its2.toArray n n2 dd dd2 sl sl2 (by simp)) ⟨ho,ho2,⟨.ref b,H,I,rfl,q⟩⟩
def vPlus:PV->PV->PH->Rs PV:=fun x y h=>match x,y with
 | .tup [],.tup ys=>.ok (.tup ys) h
 | x,y=>vAdd x y h
theorem o_plus:OpS C k X (binaryOp .Add) vPlus:=fun c=>((o_add c).or (by have:=op_cat0 (X:=X); rw [c.K] at this; exact this)).imp fun x y H Q h=>by
 obtain ⟨φ,h,p,q,rh,rx,ry,po⟩:=h
 unfold vPlus at po
 split at po
 ·obtain ⟨a,vs,rfl,sa,ra⟩:=rx
  obtain ⟨b,us,rfl,sb,rb⟩:=ry
  have:vs=[]:=by cases vs <;> first | rfl | exact ra.elim
  subst this
  exact .inr ⟨a,b,us,rfl,rfl,sa,sb,po.val rh ⟨b,us,rfl,sb,rb⟩⟩
 ·exact .inl ⟨φ,h,p,q,rh,rx,ry,po⟩
end L2
set_option Elab.async false
set_option linter.all false
set_option maxRecDepth 100000
namespace L2
open PySem PySem.Spec PyProof.Rows
variable {C:MC} {k:Nat} {X:Cx}
theorem o_neg:UnS C k X (unaryOp .USub) vNeg:=fun c=>by
 have h:UnR X (unaryOp .USub) (rU fun i=>.int (-i)):=un_neg
 intro pins s σ H x v Q I rx q
 refine h pins s σ H x v Q I rx ?_
 obtain ⟨φ,h,p,rh,rv,po⟩:=q
 unfold vNeg at po
 cases p with
 | int i=>cases rv; exact ⟨i,rfl,po.val rh rfl⟩
 | _=>exact po.elim
end L2
set_option Elab.async false
set_option linter.all false
set_option maxRecDepth 100000
namespace L2
open PySem
@[irreducible] def Rs.W {α:Type} (r:Rs α) (Q:α->PH->Prop):Prop:=match r with
 | .ok a h=>Q a h
 | _=>False
structure FE where
 nx:Ev->PH->Prop
 rt:PV->PH->Prop
 bk:Ev->PH->Prop:=fun _ _=>False
 ct:Ev->PH->Prop:=fun _ _=>False
@[irreducible] def Fl.W (r:Fl) (E:FE):Prop:=match r with
 | .nx δ h=>E.nx δ h
 | .rt p h=>E.rt p h
 | .bk δ h=>E.bk δ h
 | .ct δ h=>E.ct δ h
 | _=>False
@[irreducible] def Lt (b:Ms) (E:FE) (δ:Ev) (h:PH):Prop:=(b δ h).W E
section
unseal Rs.W Fl.W Lt
variable {α β:Type} {Q:α->PH->Prop} {E:FE} {δ:Ev} {h:PH}
@[simp] theorem W_ok {a:α}:(Rs.ok a h).W Q=Q a h:=(rfl)
@[simp] theorem W_nx:(Fl.nx δ h).W E=E.nx δ h:=(rfl)
@[simp] theorem W_rt {p:PV}:(Fl.rt p h).W E=E.rt p h:=(rfl)
@[simp] theorem W_bk:(Fl.bk δ h).W E=E.bk δ h:=(rfl)
@[simp] theorem W_ct:(Fl.ct δ h).W E=E.ct δ h:=(rfl)
@[simp] theorem W_bind {Q:β->PH->Prop} {r:Rs α} {f:α->PH->Rs β}:(r.bind f).W Q=r.W fun a h=>(f a h).W Q:=by cases r <;> rfl
@[simp] theorem W_fl {r:Rs α} {f:α->PH->Fl}:(r.fl f).W E=r.W fun a h=>(f a h).W E:=by cases r <;> rfl
theorem W_mono {Q':α->PH->Prop} {r:Rs α} (h:r.W Q) (i:∀ a h,Q a h->Q' a h):r.W Q':=by cases r <;> first | exact i _ _ h | exact h
@[simp] theorem W_ite {c:Prop} [Decidable c] {x y:Rs α}:(if c then x else y).W Q=if c then x.W Q else y.W Q:=by split <;> rfl
@[simp] theorem W_bad:(Rs.bad:Rs α).W Q=False:=(rfl)
@[simp] theorem WF_bad:Fl.bad.W E=False:=(rfl)
theorem W_ex {r:Rs α} (w:r.W Q):∃ a h,r=.ok a h/\Q a h:=by
 cases r with
 | ok a h=>exact ⟨a,h,rfl,w⟩
 | exc=>exact w.elim
 | bad=>exact w.elim
variable {a b:Ms} {m ma mb mc:Me} {t ta tb:Ev->PH->Rs Bool} {g g':PV->PV->PH->Rs PV}
theorem W_seq:(mSeq a b δ h).W E=(a δ h).W { E with nx:=Lt b E }:=by
 show (match a δ h with | .nx δ1 h1=>b δ1 h1 | r=>r).W E=_
 cases a δ h <;> rfl
theorem now {b:Ms} (w:(b δ h).W E):Lt b E δ h:=w
@[simp] theorem W_nop:(mNop δ h).W E=E.nx δ h:=(rfl)
@[simp] theorem W_brk:(mBrk δ h).W E=E.bk δ h:=(rfl)
@[simp] theorem W_cnt:(mCnt δ h).W E=E.ct δ h:=(rfl)
@[simp] theorem W_set {i:Nat}:(mSet i m δ h).W E=(m δ h).W fun p h=>E.nx (δ.set i (some p)) h:=by simp [mSet]
@[simp] theorem W_asg {t:Mg}:(mAsg m t δ h).W E=(m δ h).W fun p h=>∃ δ',t p δ=some δ'/\E.nx δ' h:=by
 unfold mAsg
 cases m δ h with
 | ok p h1=>
  show (match t p δ with | some δ'=>Fl.nx δ' h1 | none=>.bad).W E=∃ δ',t p δ=some δ'/\E.nx δ' h1
  cases t p δ <;> simp [Fl.W]
 | exc=>rfl
 | bad=>rfl
@[simp] theorem W_exp:(mExp m δ h).W E=(m δ h).W fun _ h=>E.nx δ h:=by simp [mExp]
@[simp] theorem W_ret:(mRet m δ h).W E=(m δ h).W E.rt:=by simp [mRet]
@[simp] theorem W_retN:(mRetN δ h).W E=E.rt .non h:=(rfl)
@[simp] theorem W_ifS:(mIfS t a b δ h).W E=(t δ h).W fun c h=>if c=true then (a δ h).W E else (b δ h).W E:=by
 unfold mIfS
 rw [W_fl]
 congr
 funext c h
 cases c <;> simp
@[simp] theorem mV_eq {i:Nat}:mV i δ h=match evAt δ i with | some p=>.ok p h | none=>.bad:=(rfl)
@[simp] theorem mC_eq {p:PV}:mC p δ h=.ok p h:=(rfl)
@[simp] theorem mBin_eq:mBin g ma mb δ h=(ma δ h).bind fun x h1=>(mb δ h1).bind fun y h2=>g x y h2:=(rfl)
@[simp] theorem mUn_eq {g:PV->PH->Rs PV}:mUn g ma δ h=(ma δ h).bind g:=(rfl)
@[simp] theorem mTru_eq:mTru m δ h=(m δ h).bind tru:=(rfl)
@[simp] theorem mNotT_eq:mNotT t δ h=(t δ h).bind fun b h1=>.ok (!b) h1:=(rfl)
@[simp] theorem mAndT_eq:mAndT ta tb δ h=(ta δ h).bind fun b h1=>if b=true then tb δ h1 else .ok false h1:=by
 unfold mAndT; congr 1; funext b h1; cases b <;> simp
@[simp] theorem mOrT_eq:mOrT ta tb δ h=(ta δ h).bind fun b h1=>if b=true then .ok true h1 else tb δ h1:=by
 unfold mOrT; congr 1; funext b h1; cases b <;> simp
@[simp] theorem mIf_eq:mIf t ma mb δ h=(t δ h).bind fun b h1=>if b=true then ma δ h1 else mb δ h1:=by
 unfold mIf; congr 1; funext b h1; cases b <;> simp
def bl2 (x:PV) (f g:Rs PV):Rs PV:=match x with
 | .bl true=>f
 | .bl false=>g
 | _=>.bad
@[simp] theorem bl2_bl {b:Bool} {f g:Rs PV}:bl2 (.bl b) f g=if b=true then f else g:=by cases b <;> simp [bl2]
@[simp] theorem mAndV_eq:mAndV ma mb δ h=(ma δ h).bind fun x h1=>bl2 x (mb δ h1) (.ok (.bl false) h1):=by
 unfold mAndV; first | rfl | (congr 1; funext x h1; cases x <;> first | rfl | (rename_i b; cases b <;> rfl))
@[simp] theorem onlyB_bl {b:Bool}:onlyB (.bl b) h=.ok (.bl b) h:=(rfl)
@[simp] theorem mTup_eq {ms:Ma}:mTup ms δ h=(ms δ h).bind fun xs h1=>if xs.length<=sizeLine then .ok (.tup xs) h1 else .bad:=(rfl)
@[simp] theorem mLst_eq {ms:Ma}:mLst ms δ h=(ms δ h).bind fun xs h1=>if xs.length<=sizeLine then .ok (.ref h1.length) (h1++[.lst xs]) else .bad:=(rfl)
@[simp] theorem mDict0_eq:mDict0 δ h=.ok (.ref h.length) (h++[.dK []]):=(rfl)
@[simp] theorem mNil_eq:mNil δ h=.ok [] h:=(rfl)
@[simp] theorem mCons_eq {ms:Ma}:mCons m ms δ h=(m δ h).bind fun x h1=>(ms δ h1).bind fun xs h2=>.ok (x :: xs) h2:=(rfl)
@[simp] theorem mCB_eq {g:List PV->PH->Rs PV} {ms:Ma}:mCB g ms δ h=(ms δ h).bind g:=(rfl)
@[simp] theorem mCall_eq {n:Nat} {f:Fn} {ms:Ma}:mCall n f ms δ h=(ms δ h).bind fun ps h1=>if ps.length=n then f ps h1 else .bad:=(rfl)
@[simp] theorem mNoP_eq:mNoP δ h=.ok none h:=(rfl)
def toPart (x:PV) (h:PH):Rs (Option Int):=match x with
 | .int i=>.ok (some i) h
 | _=>.bad
@[simp] theorem toPart_int {i:Int}:toPart (.int i) h=.ok (some i) h:=(rfl)
@[simp] theorem mP_eq:mP m δ h=(m δ h).bind toPart:=(rfl)
@[simp] theorem mSl_eq {ml mh:Mo}:mSl m ml mh δ h=(m δ h).bind fun x h1=>(ml δ h1).bind fun l h2=>(mh δ h2).bind fun u h3=>vSl x l u h3:=(rfl)
@[simp] theorem mMt_eq {ty:PV->PH->Bool} {g:PV->List PV->PH->Rs PV} {ms:Ma}:mMt ty g m ms δ h=(m δ h).bind fun x h1=>if ty x h1=true then (ms δ h1).bind fun ps h2=>g x ps h2 else .bad:=(rfl)
@[simp] theorem mMt0_eq {ty:PV->PH->Bool} {g:PV->List PV->PH->Rs PV}:mMt0 ty g m δ h=(m δ h).bind fun x h1=>if ty x h1=true then g x [] h1 else .bad:=(rfl)
@[simp] theorem sizeLine_num:sizeLine=16777216:=by rw [sizeLine_eq]
theorem vMul_ok {i j:Int} {h:PH} (c:(-18446744073709551616 < i/\i < 18446744073709551616)\/(-18446744073709551616 < j/\j < 18446744073709551616)):vMul (.int i) (.int j) h=.ok (.int (i*j)) h:=by
 show (if CMul i j then _ else _)=_
 exact if_pos c
@[simp] theorem vInt_mul {i j:Int} (c:(-18446744073709551616 < i/\i < 18446744073709551616)\/(-18446744073709551616 < j/\j < 18446744073709551616)):vInt CMul (fun i j=>i*j) (.int i) (.int j) h=.ok (.int (i*j)) h:=vMul_ok c
@[simp] theorem vDiv_ok {i j:Int} (c:0 < j/\j < 1073741824):vInt CDiv (fun i j=>i / j) (.int i) (.int j) h=.ok (.int (i / j)) h:=if_pos c
@[simp] theorem vMod_ok {i j:Int} (c:0 < j):vInt (fun _ j=>0 < j) (fun i j=>i % j) (.int i) (.int j) h=.ok (.int (i % j)) h:=if_pos c
@[simp] theorem vPow_ok {i j:Int} (c:0<=j/\j<=1000000/\-18446744073709551616 < i/\i < 18446744073709551616):vInt CPow (fun i j=>i ^ j.toNat) (.int i) (.int j) h=.ok (.int (i ^ j.toNat)) h:=by
 show (if CPow i j then _ else _)=_
 refine if_pos ⟨c.1,c.2.1,?_⟩
 obtain ⟨_,_,h1,h2⟩:=c
 omega
@[simp] theorem vSub_ok {i j:Int}:vSub (.int i) (.int j) h=.ok (.int (i - j)) h:=(rfl)
@[simp] theorem vNeg_ok {i:Int}:vNeg (.int i) h=.ok (.int (-i)) h:=(rfl)
@[simp] theorem vPlus_int {i j:Int}:vPlus (.int i) (.int j) h=.ok (.int (i+j)) h:=(rfl)
@[simp] theorem vPlus_str {x y:Str} (c:x.length+y.length<=16777216):vPlus (.str x) (.str y) h=.ok (.str (x++y)) h:=if_pos c
@[simp] theorem vPlus_tup {xs ys:List PV} (c:xs.length+ys.length<=16777216):vPlus (.tup xs) (.tup ys) h=.ok (.tup (xs++ys)) h:=by
 cases xs with
 | nil=>rfl
 | cons x xs=>exact if_pos ⟨rfl,c⟩
@[simp] theorem vCmp_int {f:Int->Int->Bool} {g:List Nat->List Nat->Bool} {i j:Int}:vCmp f g (.int i) (.int j) h=.ok (.bl (f i j)) h:=(rfl)
@[simp] theorem vCmp_str {f:Int->Int->Bool} {g:List Nat->List Nat->Bool} {i j:Str}:vCmp f g (.str i) (.str j) h=.ok (.bl (g i.cps.toList j.cps.toList)) h:=(rfl)
@[simp] theorem tru_bl {b:Bool}:tru (.bl b) h=.ok b h:=(rfl)
@[simp] theorem tru_non:tru .non h=.ok false h:=(rfl)
@[simp] theorem tru_int {i:Int}:tru (.int i) h=.ok (i != 0) h:=(rfl)
@[simp] theorem tru_tup {xs:List PV}:tru (.tup xs) h=.ok (!xs.isEmpty) h:=(rfl)
@[simp] theorem ofO_some {p:PV}:ofO (some p) h=.ok p h:=(rfl)
@[simp] theorem ofB_some {b:Bool}:ofB (some b) h=.ok (.bl b) h:=(rfl)
@[simp] theorem vIx_tup {xs:List PV} {i:Int}:vIx (.tup xs) (.int i) h=ofO (atI xs i) h:=(rfl)
@[simp] theorem vIx_fl {xs:List PV} {i:Int}:vIx (.fl xs) (.int i) h=ofO (atI xs i) h:=(rfl)
theorem vIx_ref {n:Nat} {xs:List PV} {i:Int} (e:h[n]?=some (.lst xs)):vIx (.ref n) (.int i) h=ofO (atI xs i) h:=by simp [vIx,lstAt,e]
@[simp] theorem vIx_str {z:Str} {i:Int} (c:z.length<=16777216):vIx (.str z) (.int i) h=ofO ((atI z.cps.toList i).map fun c=>.str ⟨#[c]⟩) h:=if_pos c
@[simp] theorem vLen_tup {xs:List PV}:vLen [.tup xs] h=.ok (.int xs.length) h:=(rfl)
@[simp] theorem vLen_fl {xs:List PV}:vLen [.fl xs] h=.ok (.int xs.length) h:=(rfl)
@[simp] theorem vLen_str {x:Str} (c:x.length<=16777216):vLen [.str x] h=.ok (.int x.length) h:=if_pos c
theorem vLen_ref {n:Nat} {xs:List PV} (e:h[n]?=some (.lst xs)):vLen [.ref n] h=.ok (.int xs.length) h:=by simp [vLen,lstAt,e]
@[simp] theorem vMin_ok {i j:Int}:vMin [.int i,.int j] h=.ok (.int (if j < i then j else i)) h:=(rfl)
@[simp] theorem vMax_ok {i j:Int}:vMax [.int i,.int j] h=.ok (.int (if j > i then j else i)) h:=(rfl)
@[simp] theorem vIsI_int {i:Int} {c:String}:vIsI [.int i,.ty c] h=if c∈known then .ok (.bl (isSub "int" c)) h else .bad:=(rfl)
@[simp] theorem vIsI_str {i:Str} {c:String}:vIsI [.str i,.ty c] h=if c∈known then .ok (.bl (isSub "str" c)) h else .bad:=(rfl)
@[simp] theorem vIsI_bl {i:Bool} {c:String}:vIsI [.bl i,.ty c] h=if c∈known then .ok (.bl (isSub "bool" c)) h else .bad:=(rfl)
@[simp] theorem vIsI_tup {i:List PV} {c:String}:vIsI [.tup i,.ty c] h=if c∈known then .ok (.bl (isSub "tuple" c)) h else .bad:=(rfl)
theorem isL_ref {n:Nat} {xs:List PV} (e:h[n]?=some (.lst xs)):isL (.ref n) h=true:=by simp [isL,isLst,e]
theorem append_ref {n:Nat} {xs:List PV} {p:PV} (e:h[n]?=some (.lst xs)) (c:xs.length < 16777216):onL fAppend (.ref n) [p] h=.ok .non (h.set n (.lst (xs++[p]))):=by simp [onL,isLst,e,fAppend,c]
theorem atI_pos {α:Type} {xs:List α} {i:Int} (h0:0<=i) (h1:i < xs.length):atI xs i=xs[i.toNat]?:=by
 unfold atI ixN
 rw [if_pos h0,if_pos h1]; rfl
theorem W_loop {g:PH->Bool} {tg:Mg} {body:Ms} {E:FE} (I:Nat->Ev->PH->Prop):∀ (xs:List PV) (k:Nat) (δ:Ev) (h:PH),I k δ h->
  (∀ i x δ h,k<=i->xs[i - k]?=some x->I i δ h->g h=true/\∃ δ1,tg x δ=some δ1/\(body δ1 h).W { nx:=I (i+1),ct:=I (i+1),rt:=E.rt,bk:=E.nx })->
  (∀ δ h,I (k+xs.length) δ h->g h=true/\E.nx δ h)->(loopF g tg body xs δ h).W E
 | [],k,δ,h,i0,_,fin=>by
  obtain ⟨h1,h2⟩:=fin δ h i0
  simp [loopF,h1,h2]
 | x :: xs,k,δ,h,i0,step,fin=>by
  obtain ⟨h1,δ1,h2,h3⟩:=step k x δ h (Nat.le_refl _) (by simp) i0
  have go:∀ δ2 h2,I (k+1) δ2 h2->(loopF g tg body xs δ2 h2).W E:=fun δ2 h2 i2=>
   W_loop I xs (k+1) δ2 h2 i2 (fun i y δ h hk hy=>step i y δ h (by omega) (by
    have:i - k=(i - (k+1))+1:=by omega
    rw [this,List.getElem?_cons_succ]; exact hy)) (fun δ h hi=>fin δ h (by
    have e:k+(x :: xs).length=k+1+xs.length:=by simp; omega
    rw [e]; exact hi))
  unfold loopF
  rw [if_pos h1,h2]
  show Fl.W (match body δ1 h with | .nx δ2 h2=>loopF g tg body xs δ2 h2 | .ct δ2 h2=>loopF g tg body xs δ2 h2 | .bk δ2 h2=>.nx δ2 h2 | r=>r) E
  cases e:body δ1 h with
  | nx δ2 h2=>rw [e] at h3; exact go δ2 h2 h3
  | ct δ2 h2=>rw [e] at h3; exact go δ2 h2 h3
  | bk δ2 h2=>rw [e] at h3; exact h3
  | rt p h2=>rw [e] at h3; exact h3
  | exc=>rw [e] at h3; exact h3
  | bad=>rw [e] at h3; exact h3
theorem W_for1 {ms:Ma} {i:Nat} {body:Ms} {j:Int} (I:Nat->Ev->PH->Prop) (e:ms δ h=.ok [.int j] h) (hj:-4611686018427387904<=j/\j < 4611686018427387904) (h0:I 0 δ h)
  (step:∀ (q:Nat) δ h,(q:Int) < j->I q δ h->(body (δ.set i (some (.int q))) h).W { nx:=I (q+1),ct:=I (q+1),rt:=E.rt,bk:=E.nx })
  (fin:∀ δ h,I j.toNat δ h->E.nx δ h):(mFor (mRng1 ms) (gN i) body δ h).W E:=by
 unfold mFor mRng1
 rw [e]
 have hj':-(2 ^ 62)<=j/\j < 2 ^ 62:=hj
 simp only [Rs.bind_ok,rngI1,if_pos hj',Rs.fl_ok]
 refine W_loop I _ 0 δ h h0 (fun q x δ h _ hx hi=>?_) (fun δ h hi=>⟨rfl,fin δ h (by rw [upTo_length,Nat.zero_add] at hi; exact hi)⟩)
 have hq:q < j.toNat:=by
  have:=(List.getElem?_eq_some_iff.mp hx).1
  rw [upTo_length] at this
  omega
 rw [Nat.sub_zero,upTo_get _ _ _ hq] at hx
 cases hx
 refine ⟨rfl,_,rfl,?_⟩
 rw [Int.zero_add]
 exact step q δ h (by omega) hi
theorem W_for2 {ms:Ma} {i:Nat} {body:Ms} {lo j:Int} (I:Nat->Ev->PH->Prop) (e:ms δ h=.ok [.int lo,.int j] h) (hj:-4611686018427387904<=lo/\lo < 4611686018427387904/\-4611686018427387904<=j/\j < 4611686018427387904) (h0:I 0 δ h)
  (step:∀ (q:Nat) δ h,lo+(q:Int) < j->I q δ h->(body (δ.set i (some (.int (lo+q)))) h).W { nx:=I (q+1),ct:=I (q+1),rt:=E.rt,bk:=E.nx })
  (fin:∀ δ h,I (j - lo).toNat δ h->E.nx δ h):(mFor (mRng2 ms) (gN i) body δ h).W E:=by
 unfold mFor mRng2
 rw [e]
 have hj':-(2 ^ 62)<=lo/\lo < 2 ^ 62/\-(2 ^ 62)<=j/\j < 2 ^ 62:=hj
 simp only [Rs.bind_ok,rngI2,if_pos hj',Rs.fl_ok]
 refine W_loop I _ 0 δ h h0 (fun q x δ h _ hx hi=>?_) (fun δ h hi=>⟨rfl,fin δ h (by rw [upTo_length,Nat.zero_add] at hi; exact hi)⟩)
 have hq:q < (j - lo).toNat:=by
  have:=(List.getElem?_eq_some_iff.mp hx).1
  rw [upTo_length] at this
  omega
 rw [Nat.sub_zero,upTo_get _ _ _ hq] at hx
 cases hx
 exact ⟨rfl,_,rfl,step q δ h (by omega) hi⟩
theorem W_forL {m:Me} {tg:Mg} {body:Ms} {n:Nat} {xs:List PV} {h1:PH} (I:Nat->Ev->PH->Prop) (e:m δ h=.ok (.ref n) h1) (hn:h1[n]?=some (.lst xs)) (h0:I 0 δ h1)
  (keep:∀ q δ h,q<=xs.length->I q δ h->h[n]?=some (.lst xs))
  (step:∀ (q:Nat) x δ h,xs[q]?=some x->I q δ h->∃ δ1,tg x δ=some δ1/\(body δ1 h).W { nx:=I (q+1),ct:=I (q+1),rt:=E.rt,bk:=E.nx })
  (fin:∀ δ h,I xs.length δ h->E.nx δ h):(mFor (mSeqI m) tg body δ h).W E:=by
 have hk:∀ {h:PH},h[n]?=some (.lst xs)->lstG n xs h=true:=fun {h} e=>by
  have e3:lstAt h n=some xs:=by unfold lstAt; rw [e]
  unfold lstG; rw [e3]; exact PV.beqs_self xs
 unfold mFor mSeqI
 rw [e]
 have e2:ofSeq (.ref n) h1=.ok ⟨xs,lstG n xs⟩ h1:=by
  have e3:lstAt h1 n=some xs:=by unfold lstAt; rw [hn]
  unfold ofSeq; simp only [e3]
 rw [Rs.bind_ok,e2,Rs.fl_ok]
 refine W_loop I _ 0 δ h1 h0 (fun q x δ h _ hx hi=>?_) (fun δ h hi=>?_)
 ·have hx':xs[q]?=some x:=by simpa using hx
  have:=(List.getElem?_eq_some_iff.mp hx').1
  exact ⟨hk (keep q δ h (by omega) hi),step q x δ h hx' hi⟩
 ·have hi':I xs.length δ h:=by simpa using hi
  exact ⟨hk (keep _ δ h (Nat.le_refl _) hi'),fin δ h hi'⟩
theorem W_fn {N:Nat} {body:Ms} {args:List PV} {Q:PV->PH->Prop} (w:(body (args.map some++List.replicate (N - args.length) none) h).W { nx:=fun _ h=>Q .non h,rt:=Q }):(mFn N body args h).W Q:=by
 unfold mFn
 cases e:body (args.map some++List.replicate (N - args.length) none) h with
 | nx δ h'=>rw [e] at w; exact w
 | rt p h'=>rw [e] at w; exact w
 | _=>rw [e] at w; exact w.elim
@[simp] theorem gN_eq {i:Nat} {p:PV}:gN i p δ=some (δ.set i (some p)):=(rfl)
@[simp] theorem gTp_eq {n:Nat} {u:Mgs} {ps:List PV}:gTp n u (.tup ps) δ=if ps.length=n then u ps δ else none:=(rfl)
@[simp] theorem gCn_eq {t:Mg} {u:Mgs} {p:PV} {r:List PV}:gCn t u (p :: r) δ=(t p δ).bind (u r):=(rfl)
@[simp] theorem gNl_eq:gNl [] δ=some δ:=(rfl)
end
def Ext (h h':PH):Prop:=∀ (n:Nat) (o:MO),h[n]?=some o->h'[n]?=some o
theorem Ext.refl (h:PH):Ext h h:=fun _ _ e=>e
theorem Ext.trans {h h1 h2:PH} (a:Ext h h1) (b:Ext h1 h2):Ext h h2:=fun n o e=>b n o (a n o e)
theorem Ext.app (h g:PH):Ext h (h++g):=fun n o e=>by
 rw [List.getElem?_append_left (List.getElem?_eq_some_iff.mp e).1]; exact e
theorem Ext.len {h h':PH} (e:Ext h h'):h.length<=h'.length:=by
 rcases Nat.lt_or_ge h'.length h.length with z | z
 ·have:h[h'.length]?=some h[h'.length]:=by simp [z]
  have:=(List.getElem?_eq_some_iff.mp (e _ _ this)).1
  omega
 ·exact z
theorem snoc_at {h:PH} {o:MO}:(h++[o])[h.length]?=some o:=by simp
theorem set_at {h:PH} {n:Nat} {o o':MO} (e:h[n]?=some o):(h.set n o')[n]?=some o':=List.getElem?_set_self (List.getElem?_eq_some_iff.mp e).1
theorem set_ne {h:PH} {n m:Nat} {o o':MO} (e:h[m]?=some o) (d:n≠m):(h.set n o')[m]?=some o:=by rw [List.getElem?_set_ne d]; exact e
end L2
set_option Elab.async false
set_option linter.all false
set_option maxRecDepth 100000
namespace L2
open PySem
def PV.pl:Nat->PV->Bool
 | _,.non=>true
 | _,.int _=>true
 | _,.str _=>true
 | n+1,.tup xs=>xs.all (PV.pl n)
 | _,_=>false
theorem ds_cons {x:PV} {xs:List PV} {d:D} {ds:List D} (h1:x.d=some d) (h2:PV.ds xs=some ds):PV.ds (x :: xs)=some (d :: ds):=by simp [PV.ds,h1,h2]
theorem d_tup {xs:List PV} {ds:List D} (h:PV.ds xs=some ds):(PV.tup xs).d=some (.tup ds):=by simp [PV.d,h]
theorem d_tup_inv {xs:List PV} {d:D} (h:(PV.tup xs).d=some d):∃ ds,PV.ds xs=some ds/\d=.tup ds:=by
 unfold PV.d at h
 split at h
 ·rename_i ds e; cases h; exact ⟨ds,e,rfl⟩
 ·cases h
theorem ds_cons_inv {x:PV} {xs:List PV} {ds:List D} (h:PV.ds (x :: xs)=some ds):∃ d r,x.d=some d/\PV.ds xs=some r/\ds=d :: r:=by
 unfold PV.ds at h
 split at h
 ·rename_i d r e1 e2; cases h; exact ⟨d,r,e1,e2,rfl⟩
 ·cases h
theorem pl_one:∀ (n:Nat) (x:PV),x.pl n=true->∃ d,x.d=some d/\d.depth<=n:=by
 intro n
 induction n with
 | zero=>
  intro x h
  cases x <;> first | exact ⟨_,rfl,Nat.le_refl _⟩ | (simp [PV.pl] at h)
 | succ n ih=>
  intro x h
  cases x with
  | tup xs=>
   have h:xs.all (PV.pl n)=true:=h
   have many:∀ (xs:List PV),xs.all (PV.pl n)=true->∃ ds,PV.ds xs=some ds/\D.depths ds<=n:=by
    intro xs
    induction xs with
    | nil=>intro _; exact ⟨[],rfl,Nat.zero_le _⟩
    | cons x xs ihx=>
     intro h
     simp only [List.all_cons,Bool.and_eq_true] at h
     obtain ⟨d,h1,h2⟩:=ih x h.1
     obtain ⟨ds,h3,h4⟩:=ihx h.2
     refine ⟨d :: ds,ds_cons h1 h3,?_⟩
     show max d.depth (D.depths ds)<=n
     omega
   obtain ⟨ds,h1,h2⟩:=many xs h
   refine ⟨.tup ds,d_tup h1,?_⟩
   show D.depths ds+1<=n+1
   omega
  | _=>first | exact ⟨_,rfl,Nat.zero_le _⟩ | (simp [PV.pl] at h)
theorem pl_eq:∀ (n:Nat) (x y:PV) (d e:D),x.pl n=true->y.pl n=true->x.d=some d->y.d=some e->eqD d e=decide (x=y):=by
 intro n
 induction n with
 | zero=>
  intro x y d e hx hy h1 h2
  cases x <;> first | (simp [PV.pl] at hx; done) | skip
  all_goals cases h1
  all_goals cases y <;> first | (simp [PV.pl] at hy; done) | skip
  all_goals cases h2
  all_goals simp only [eqD]
  all_goals rw [Bool.eq_iff_iff]
  all_goals simp
 | succ n ih=>
  intro x y d e hx hy h1 h2
  have lists:∀ (xs ys:List PV) (ds es:List D),xs.all (PV.pl n)=true->ys.all (PV.pl n)=true->PV.ds xs=some ds->PV.ds ys=some es->eqDs ds es=decide (xs=ys):=by
   intro xs
   induction xs with
   | nil=>
    intro ys ds es _ _ h1 h2
    cases h1
    cases ys with
    | nil=>cases h2; rfl
    | cons y ys=>obtain ⟨d,r,_,_,rfl⟩:=ds_cons_inv h2; simp [eqDs]
   | cons x xs ihx=>
    intro ys ds es hx hy h1 h2
    obtain ⟨d,r,g1,g2,rfl⟩:=ds_cons_inv h1
    simp only [List.all_cons,Bool.and_eq_true] at hx
    cases ys with
    | nil=>cases h2; simp [eqDs]
    | cons y ys=>
     obtain ⟨e,q,g3,g4,rfl⟩:=ds_cons_inv h2
     simp only [List.all_cons,Bool.and_eq_true] at hy
     simp only [eqDs,ih x y d e hx.1 hy.1 g1 g3,ihx ys r q hx.2 hy.2 g2 g4]
     rw [Bool.eq_iff_iff]
     simp
  cases x with
  | tup xs=>
   obtain ⟨ds,g1,rfl⟩:=d_tup_inv h1
   cases y with
   | tup ys=>
    obtain ⟨es,g2,rfl⟩:=d_tup_inv h2
    simp only [eqD,lists xs ys ds es hx hy g1 g2]
    rw [Bool.eq_iff_iff]
    simp
   | non=>cases h2; simp [eqD]
   | int j=>cases h2; simp [eqD]
   | str j=>cases h2; simp [eqD]
   | _=>simp [PV.pl] at hy
  | non=>
   cases h1
   cases y with
   | tup ys=>obtain ⟨es,g2,rfl⟩:=d_tup_inv h2; simp [eqD]
   | non=>cases h2; simp [eqD]
   | int j=>cases h2; simp [eqD]
   | str j=>cases h2; simp [eqD]
   | _=>simp [PV.pl] at hy
  | int i=>
   cases h1
   cases y with
   | tup ys=>obtain ⟨es,g2,rfl⟩:=d_tup_inv h2; simp [eqD]
   | non=>cases h2; simp [eqD]
   | int j=>cases h2; simp only [eqD]; rw [Bool.eq_iff_iff]; simp
   | str j=>cases h2; simp [eqD]
   | _=>simp [PV.pl] at hy
  | str i=>
   cases h1
   cases y with
   | tup ys=>obtain ⟨es,g2,rfl⟩:=d_tup_inv h2; simp [eqD]
   | non=>cases h2; simp [eqD]
   | int j=>cases h2; simp [eqD]
   | str j=>cases h2; simp only [eqD]; rw [Bool.eq_iff_iff]; simp
   | _=>simp [PV.pl] at hy
  | _=>simp [PV.pl] at hx
section
variable {x y:PV} {h:PH}
theorem eqV2_pl (hx:x.pl 40=true) (hy:y.pl 40=true):eqV2 x y h=some (decide (x=y)):=by
 obtain ⟨d,h1,h2⟩:=pl_one 40 x hx
 obtain ⟨e,h3,h4⟩:=pl_one 40 y hy
 unfold eqV2
 rw [h1,h3]
 simp only [h2,if_true,pl_eq 40 x y d e hx hy h1 h3]
theorem vEq_pl (hx:x.pl 40=true) (hy:y.pl 40=true):vEq x y h=.ok (.bl (decide (x=y))) h:=by unfold vEq; rw [eqV2_pl hx hy]; rfl
theorem vNe_pl (hx:x.pl 40=true) (hy:y.pl 40=true):vNe x y h=.ok (.bl (!decide (x=y))) h:=by unfold vNe; rw [eqV2_pl hx hy]; rfl
@[simp] theorem vEq_int {i j:Int}:vEq (.int i) (.int j) h=.ok (.bl (decide (i=j))) h:=by rw [vEq_pl rfl rfl]; congr 2; simp
@[simp] theorem vEq_str {i j:Str}:vEq (.str i) (.str j) h=.ok (.bl (decide (i=j))) h:=by rw [vEq_pl rfl rfl]; congr 2; simp
@[simp] theorem vNe_str {i j:Str}:vNe (.str i) (.str j) h=.ok (.bl (!decide (i=j))) h:=by rw [vNe_pl rfl rfl]; congr 3; simp
theorem eqV2_lst {n m:Nat} {xs ys:List PV} (e1:h[n]?=some (.lst xs)) (e2:h[m]?=some (.lst ys)) (hx:xs.all (PV.pl 39)=true) (hy:ys.all (PV.pl 39)=true):eqV2 (.ref n) (.ref m) h=some (decide (xs=ys)):=by
 have e3:seqAt (.ref n) h=some xs:=by unfold seqAt lstAt; simp only [e1]
 have e4:seqAt (.ref m) h=some ys:=by unfold seqAt lstAt; simp only [e2]
 have hx':(PV.tup xs).pl 40=true:=hx
 have hy':(PV.tup ys).pl 40=true:=hy
 obtain ⟨d,h1,h2⟩:=pl_one 40 _ hx'
 obtain ⟨e,h3,h4⟩:=pl_one 40 _ hy'
 obtain ⟨ds,g1,rfl⟩:=d_tup_inv h1
 obtain ⟨es,g2,rfl⟩:=d_tup_inv h3
 have h5:=pl_eq 40 _ _ _ _ hx' hy' h1 h3
 have h2':D.depths ds+1<=40:=h2
 have h5':eqDs ds es=decide (xs=ys):=by
  have:eqDs ds es=decide (PV.tup xs=PV.tup ys):=h5
  rw [this,Bool.eq_iff_iff]; simp
 unfold eqV2
 have n1:(PV.ref n).d=none:=rfl
 rw [n1]
 simp only [e3,e4,g1,g2,show D.depths ds<=40 by omega,if_true,h5']
theorem vEq_lst {n m:Nat} {xs ys:List PV} (e1:h[n]?=some (.lst xs)) (e2:h[m]?=some (.lst ys)) (hx:xs.all (PV.pl 39)=true) (hy:ys.all (PV.pl 39)=true):vEq (.ref n) (.ref m) h=.ok (.bl (decide (xs=ys))) h:=by unfold vEq; rw [eqV2_lst e1 e2 hx hy]; rfl
theorem vNe_lst {n m:Nat} {xs ys:List PV} (e1:h[n]?=some (.lst xs)) (e2:h[m]?=some (.lst ys)) (hx:xs.all (PV.pl 39)=true) (hy:ys.all (PV.pl 39)=true):vNe (.ref n) (.ref m) h=.ok (.bl (!decide (xs=ys))) h:=by unfold vNe; rw [eqV2_lst e1 e2 hx hy]; rfl
end
end L2
namespace L2
section
variable {α:Type} {a b c d e f g:α} {r:List α}
theorem atI_lit {xs:List α} {v:α} (i:Nat) (h:xs[i]?=some v):atI xs (i:Int)=some v:=atI_of h
@[simp] theorem atI0:atI (a :: r) 0=some a:=atI_lit 0 rfl
@[simp] theorem atI1:atI (a :: b :: r) 1=some b:=atI_lit 1 rfl
@[simp] theorem atI2:atI (a :: b :: c :: r) 2=some c:=atI_lit 2 rfl
theorem atI_mod {xs:List α} {i:Int} (h:xs≠[]):∃ v,atI xs (i % (xs.length:Int))=some v/\v∈xs:=by
 have h0:0 < xs.length:=List.length_pos_iff.mpr h
 obtain ⟨v,h1,h2⟩:=atI_ok (xs:=xs) (i:=i % (xs.length:Int)) (Int.emod_nonneg _ (by omega)) (Int.emod_lt_of_pos _ (by omega))
 exact ⟨v,h1,List.mem_of_getElem? h2⟩
end
end L2
namespace L2
end L2
namespace L2
end L2
set_option Elab.async false
set_option linter.all false
set_option maxRecDepth 100000
namespace L2
open PySem PySem.Spec PyProof.Rows PySem.SeqAt
open PySem.AutoSeq1 (wpAny_loadPart')
open PySem.MeetsSeq PySem.MeetsSeq2 PySem.MeetsSeq3
def LtAt (A:Around) (s:Shared) (v u:Value) (b:Bool):Prop:=∀ (prog:Program) (w:World) (E:Value->Shared->Prop) (Q:Value->Shared->Prop),Q (.bool b) s->wpAny (model prog w) A (richCompare .Lt v u) Q E s
def ItLt (A:Around) (s:Shared) (v u:Value) (d e:D):Prop:=EqAt A s v u (eqD d e)/\(eqD d e=false->∀ b,ltD d e=some b->LtAt A s v u b)
abbrev ItsLt (A:Around) (s:Shared):List Value->List Value->List D->List D->Prop:=fun vs us ds es=>vs.length=ds.length/\us.length=es.length/\∀ (j:Nat) v u d e,vs[j]?=some v->us[j]?=some u->ds[j]?=some d->es[j]?=some e->ItLt A s v u d e
theorem ItsLt.tail {A:Around} {s:Shared} {v u:Value} {vs us:List Value} {d e:D} {ds es:List D} (h:ItsLt A s (v :: vs) (u :: us) (d :: ds) (e :: es)):ItLt A s v u d e/\ItsLt A s vs us ds es:=
 ⟨h.2.2 0 v u d e rfl rfl rfl rfl,by have:=h.1; simpa using this,by have:=h.2.1; simpa using this,fun j v u d e h1 h2 h3 h4=>h.2.2 (j+1) v u d e (by simpa using h1) (by simpa using h2) (by simpa using h3) (by simpa using h4)⟩
theorem tuple_lt_gen (l b:Addr) (items items2:Array Value) (n n2:Nat) (dd dd2:Option Addr) (sl sl2:Array (Option Value)) (ds es:List D) (c:Bool) (hc:ltDs ds es=some c):
  Meets (Builtin.«tuple.__lt__» ⟨[.ref l,.ref b],[]⟩)
   (fun A R s=>s.heap.get? l=some { cls:=.type "tuple",dict:=dd,data:=.seq items n,slots:=sl }/\s.heap.get? b=some { cls:=.type "tuple",dict:=dd2,data:=.seq items2 n2,slots:=sl2 }/\
    ItsLt A.in1 s items.toList items2.toList ds es/\R (.ok (.ret (.bool c))) s):=
 .of_wp fun prog w A R s h=>by
  obtain ⟨hp,g,d,tk,os⟩:=s; obtain ⟨hl,hb,hit,h⟩:=h
  have f2:=AutoSeq1.sub_tuple_tuple
  have z1:items.size=ds.length:=by rw [<- hit.1]; simp
  have z2:items2.size=es.length:=by rw [<- hit.2.1]; simp
  wp_walk using wpAny_loadPart' hl,wpAny_loadPart' hb,wpAny_forIn_list _ (fun rest b s'=>b.1=none/\s'=⟨hp,g,d,tk,os⟩/\∃ (vs ws:List Value) (ns' ms':List D),rest=vs.zip ws/\
   ItsLt A.in1 ⟨hp,g,d,tk,os⟩ vs ws ns' ms'/\ns'.length+items2.size=ms'.length+items.size/\ltDs ns' ms'=some c) _
  case turn=>
   rintro ⟨y,x⟩ rest b s' ⟨hb',rfl,vs,ws,ns',ms',hz,hvi,hlen,hR⟩
   cases vs with
   | nil=>rw [List.zip_nil_left] at hz; cases hz
   | cons v vs=>
    cases ws with
    | nil=>rw [List.zip_nil_right] at hz; cases hz
    | cons u ws=>
     rw [List.zip_cons_cons] at hz
     injection hz with hyx hrest
     injection hyx with hy hx
     subst hy hx
     cases ns' with
     | nil=>have:=hvi.1; simp at this
     | cons a ns'=>
      cases ms' with
      | nil=>have:=hvi.2.1; simp at this
      | cons e ms'=>
       obtain ⟨⟨h1,h2⟩,ht⟩:=ItsLt.tail hvi
       simp only [List.length_cons] at hlen
       simp only [ltDs] at hR
       refine wpAny_bind (h1 prog w _ _ ?_)
       cases q:eqD a e with
       | true=>
        rw [q,if_pos rfl] at hR
        wp_walk
        exact ⟨rfl,rfl,_,_,_,_,hrest,ht,by omega,hR⟩
       | false=>
        rw [q,if_neg Bool.false_ne_true] at hR
        have hri:=h2 q c hR prog w
        wp_walk using hri
        exact ⟨_,rfl,by simpa using h⟩
  case fin=>
   rintro ⟨b1,b2⟩ s' ⟨hb',rfl,vs,ws,ns',ms',hz,hvi,hlen,hR⟩
   simp only at hb'
   subst hb'
   have hv:c=decide (items.size < items2.size):=by
    cases ns' with
    | nil=>
     cases ms' with
     | nil=>
      simp only [List.length_nil] at hlen
      simp only [ltDs] at hR
      cases hR
      exact (decide_eq_false (by omega)).symm
     | cons e ms'=>
      simp only [List.length_nil,List.length_cons] at hlen
      simp only [ltDs] at hR
      cases hR
      exact (decide_eq_true (by omega)).symm
    | cons a ns'=>
     cases ms' with
     | nil=>
      simp only [List.length_nil,List.length_cons] at hlen
      simp only [ltDs] at hR
      cases hR
      exact (decide_eq_false (by omega)).symm
     | cons e ms'=>
      exfalso
      cases vs with
      | nil=>have:=hvi.1; simp at this
      | cons v vs=>
       cases ws with
       | nil=>have:=hvi.2.1; simp at this
       | cons u ws=>rw [List.zip_cons_cons] at hz; cases hz
   rw [hv] at h
   wp_walk
   exact ⟨_,rfl,by simpa [Builtin.Tuple.tupleCompareSizes] using h⟩
  case h=>
   exact ⟨rfl,rfl,items.toList,items2.toList,ds,es,rfl,hit,by omega,hc⟩
section
variable {X:Cx} {pins:List (Addr×Obj)} {σ:St} {H:Hp} {s:Shared}
theorem lt_D (I:Inv X pins σ H s):∀ (n:Nat) (d e:D) (A:Around) (x y:V) (v u:Value) (b:Bool),d.depth<=n->A.units+n < cLine->Rep X.K H d x->Rep X.K H e y->RelV x v->RelV y u->ltD d e=some b->LtAt A s v u b:=by
 intro n
 induction n with
 | zero=>
  intro d e A x y v u b hd hu hx hy rx ry hb
  cases d with
  | tup ds=>exact absurd hd (by show ¬ D.depths ds+1<=0; omega)
  | int i=>
   cases e with
   | int j=>
    cases hx; cases hy
    obtain ⟨t,rfl⟩:=rx
    obtain ⟨t',rfl⟩:=ry
    simp only [ltD] at hb
    cases hb
    exact fun prog w E Q q=>(PyProof.Rows.lt_int q:wpAny (model prog w) A (compareOp .Lt _ _) Q E s)
   | _=>simp [ltD] at hb
  | str i=>
   cases e with
   | str j=>
    cases hx; cases hy
    obtain ⟨t,rfl⟩:=rx
    obtain ⟨t',rfl⟩:=ry
    simp only [ltD] at hb
    cases hb
    exact fun prog w E Q q=>(PyProof.Rows.lt_str q:wpAny (model prog w) A (compareOp .Lt _ _) Q E s)
   | _=>simp [ltD] at hb
  | _=>cases e <;> simp [ltD] at hb
 | succ n ih=>
  intro d e A x y v u b hd hu hx hy rx ry hb
  by_cases h0:d.depth<=n
  ·exact ih d e A x y v u b h0 (by omega) hx hy rx ry hb
  ·cases d with
   | tup ds=>
    cases e with
    | tup es=>
     have hds:D.depths ds<=n:=by have:D.depths ds+1<=n+1:=hd; omega
     obtain ⟨a,vs,rfl,q,r⟩:=hx
     cases rx
     obtain ⟨its,rv,p,_⟩:=I.tuple q
     obtain ⟨a',vs',rfl,q',r'⟩:=hy
     cases ry
     obtain ⟨its',rv',p',_⟩:=I.tuple q'
     have hb':ltDs ds es=some b:=by simpa [ltD] using hb
     obtain ⟨⟨cls,dd,data,sl⟩,ho,hc,m,hdt⟩:=id p
     obtain ⟨⟨cls2,dd2,data2,sl2⟩,ho2,hc2,m2,hd2⟩:=id p'
     simp only at hc hdt hc2 hd2
     subst hc hdt hc2 hd2
     intro prog w E Q hq
     refine richCompare_meets_room (op:=.Lt) ⟨_,ho,rfl⟩ ⟨_,ho2,rfl⟩ PySem.F.slot_tuple_lt PySem.F.entry_tuple_lt (PySem.F.args_tuple_lt_2 _ _) (tuple_lt_gen a a' its.toArray its'.toArray m m2 dd dd2 sl sl2 ds es b hb')
      ⟨ho,ho2,⟨?_,?_,?_⟩,show Value.bool b≠Value.notImplemented/\Q (.bool b) s from ⟨(fun x=>nomatch x),hq⟩⟩ (by omega)
     ·have l1:=r.length
      have l3:=rv.length
      show its.length=ds.length
      omega
     ·have l1:=r'.length
      have l3:=rv'.length
      show its'.length=es.length
      omega
     ·intro j v u d e h1 h2 h3 h4
      obtain ⟨xv,hxv,hrx⟩:=r.at h3
      obtain ⟨yv,hyv,hry⟩:=r'.at h4
      obtain ⟨xu,hxu,hru⟩:=rv.get hxv
      obtain ⟨yu,hyu,hru'⟩:=rv'.get hyv
      have e1:v=xu:=by
       have:its[j]?=some v:=h1
       rw [hxu] at this
       exact (Option.some.inj this).symm
      have e2:u=yu:=by
       have:its'[j]?=some u:=h2
       rw [hyu] at this
       exact (Option.some.inj this).symm
      subst e1 e2
      have hdj:=D.depths_le h3
      refine ⟨eq_D I (n:=n) (by omega) ?_ hrx hry hru hru',fun _ b hb=>ih d e _ xv yv v u b (by omega) ?_ hrx hry hru hru' hb⟩
      all_goals (show A.units+1+n < cLine; omega)
    | _=>simp [ltD] at hb
   | _=>exact absurd (Nat.zero_le n) h0
end
variable {C:MC} {k:Nat} {X:Cx}
def ltV2 (x y:PV):Option Bool:=match x.d,y.d with
 | some d,some e=>if d.depth<=40 then ltD d e else none
 | _,_=>none
def vLess:PV->PV->PH->Rs PV:=fun x y h=>match x,y with
 | .tup xs,.tup ys=>ofB (ltV2 (.tup xs) (.tup ys)) h
 | x,y=>vLt x y h
theorem op_ltD (hu:X.A.units+64 < cLine) (K:PySem.W.Frag) (hK:X.K=K):OpR X (compareOp .Lt) (fun x y H Q=>∃ d e b,Rep K H d x/\Rep K H e y/\d.depth<=40/\ltD d e=some b/\Q (.bl b) H):=by
 subst hK
 intro pins s σ H x y v u Q I rx ry h
 obtain ⟨d,e,b,hx,hy,hd,hb,q⟩:=h
 exact lt_D I 40 d e X.A x y v u b hd (by omega) hx hy rx ry hb X.prog X.w X.xe _ ⟨.bl _,H,I,rfl,q⟩
theorem o_less:OpS C k X (compareOp .Lt) vLess:=fun c=>((op_ltD c.hu64 C.K c.K).or (o_lt c)).imp fun x y H Q h=>by
 obtain ⟨φ,h,p,q,rh,rx,ry,po⟩:=h
 unfold vLess at po
 split at po
 ·obtain ⟨b,e,po⟩:=po.ofB
  unfold ltV2 at e
  split at e
  ·rename_i d e' h1 h2
   split at e
   ·rename_i hd
    exact .inl ⟨d,e',b,rx.rep h1,ry.rep h2,hd,e,po.val rh rfl⟩
   ·cases e
  ·cases e
 ·exact .inr ⟨φ,h,p,q,rh,rx,ry,po⟩
section
variable {h:PH}
@[simp] theorem vLess_int {i j:Int}:vLess (.int i) (.int j) h=.ok (.bl (decide (i < j))) h:=(rfl)
@[simp] theorem vLess_str {i j:Str}:vLess (.str i) (.str j) h=.ok (.bl (decide (i.cps.toList < j.cps.toList))) h:=(rfl)
def ltL (f:PV->PV->Option Bool):List PV->List PV->Option Bool
 | [],[]=>some false
 | [],_ :: _=>some true
 | _ :: _,[]=>some false
 | x :: xs,y :: ys=>if x=y then ltL f xs ys else f x y
def ltP:Nat->PV->PV->Option Bool
 | _,.int a,.int b=>some (decide (a < b))
 | _,.str a,.str b=>some (decide (a.cps.toList < b.cps.toList))
 | n+1,.tup xs,.tup ys=>ltL (ltP n) xs ys
 | _,_,_=>none
theorem ltP_d:∀ (n:Nat) (x y:PV) (d e:D),x.pl n=true->y.pl n=true->x.d=some d->y.d=some e->ltD d e=ltP n x y:=by
 intro n
 induction n with
 | zero=>
  intro x y d e hx hy h1 h2
  cases x <;> first | (simp [PV.pl] at hx; done) | skip
  all_goals cases h1
  all_goals cases y <;> first | (simp [PV.pl] at hy; done) | skip
  all_goals cases h2
  all_goals simp [ltD,ltP]
 | succ n ih=>
  intro x y d e hx hy h1 h2
  have lists:∀ (xs ys:List PV) (ds es:List D),xs.all (PV.pl n)=true->ys.all (PV.pl n)=true->PV.ds xs=some ds->PV.ds ys=some es->ltDs ds es=ltL (ltP n) xs ys:=by
   intro xs
   induction xs with
   | nil=>
    intro ys ds es _ _ h1 h2
    cases h1
    cases ys with
    | nil=>cases h2; simp [ltDs,ltL]
    | cons y ys=>obtain ⟨d,r,_,_,rfl⟩:=ds_cons_inv h2; simp [ltDs,ltL]
   | cons x xs ihx=>
    intro ys ds es hx hy h1 h2
    obtain ⟨d,r,g1,g2,rfl⟩:=ds_cons_inv h1
    simp only [List.all_cons,Bool.and_eq_true] at hx
    cases ys with
    | nil=>cases h2; simp [ltDs,ltL]
    | cons y ys=>
     obtain ⟨e,q,g3,g4,rfl⟩:=ds_cons_inv h2
     simp only [List.all_cons,Bool.and_eq_true] at hy
     simp only [ltDs,ltL,pl_eq n x y d e hx.1 hy.1 g1 g3,ihx ys r q hx.2 hy.2 g2 g4,ih x y d e hx.1 hy.1 g1 g3,decide_eq_true_eq]
  cases x with
  | tup xs=>
   obtain ⟨ds,g1,rfl⟩:=d_tup_inv h1
   cases y with
   | tup ys=>
    obtain ⟨es,g2,rfl⟩:=d_tup_inv h2
    simp only [ltD,lists xs ys ds es hx hy g1 g2,ltP]
   | non=>cases h2; simp [ltD,ltP]
   | int j=>cases h2; simp [ltD,ltP]
   | str j=>cases h2; simp [ltD,ltP]
   | _=>simp [PV.pl] at hy
  | non=>cases h1; cases y <;> first | (simp [PV.pl] at hy; done) | (obtain ⟨es,g2,rfl⟩:=d_tup_inv h2; simp [ltD,ltP]; done) | (cases h2; simp [ltD,ltP])
  | int i=>cases h1; cases y <;> first | (simp [PV.pl] at hy; done) | (obtain ⟨es,g2,rfl⟩:=d_tup_inv h2; simp [ltD,ltP]; done) | (cases h2; simp [ltD,ltP])
  | str i=>cases h1; cases y <;> first | (simp [PV.pl] at hy; done) | (obtain ⟨es,g2,rfl⟩:=d_tup_inv h2; simp [ltD,ltP]; done) | (cases h2; simp [ltD,ltP])
  | _=>simp [PV.pl] at hx
theorem vLess_pl {xs ys:List PV} {b:Bool} (hx:(PV.tup xs).pl 40=true) (hy:(PV.tup ys).pl 40=true) (e:ltL (ltP 39) xs ys=some b):vLess (.tup xs) (.tup ys) h=.ok (.bl b) h:=by
 obtain ⟨d,h1,h2⟩:=pl_one 40 _ hx
 obtain ⟨d',h3,h4⟩:=pl_one 40 _ hy
 have:=ltP_d 40 _ _ d d' hx hy h1 h3
 have e':ltP 40 (.tup xs) (.tup ys)=some b:=e
 unfold vLess ltV2
 simp only [h1,h3,h2,if_true,this,e']
 rfl
end
end L2
set_option Elab.async false
set_option linter.all false
set_option maxRecDepth 100000
namespace L2
open PySem PySem.Spec PyProof.Rows
variable {C:MC} {k:Nat} {X:Cx}
def intsP:List PV->Option (List Int)
 | []=>some []
 | .int i :: r=>(intsP r).map (i :: ·)
 | _ :: _=>none
end L2
set_option Elab.async false
set_option linter.all false
namespace L2
open PySem
section
variable {h:PH} {lo hi:Option Int}
@[simp] theorem vSl_str {z:Str} (c:z.length<=16777216):vSl (.str z) lo hi h=.ok (.str (Txt.slice z lo hi)) h:=if_pos c
@[simp] theorem vSl_tup {xs:List PV}:vSl (.tup xs) lo hi h=.ok (.tup (cutP xs lo hi)) h:=(rfl)
@[simp] theorem vSl_fl {xs:List PV}:vSl (.fl xs) lo hi h=.ok (.ref h.length) (h++[.lst (cutP xs lo hi)]):=(rfl)
theorem vSl_ref {n:Nat} {xs:List PV} (e:h[n]?=some (.lst xs)):vSl (.ref n) lo hi h=.ok (.ref h.length) (h++[.lst (cutP xs lo hi)]):=by
 have e3:lstAt h n=some xs:=by unfold lstAt; rw [e]
 unfold vSl; simp only [e3]
@[simp] theorem vIs_bl {a b:Bool}:vIs (.bl a) (.bl b) h=.ok (.bl (a == b)) h:=(rfl)
@[simp] theorem vIsNot_bl {a b:Bool}:vIsNot (.bl a) (.bl b) h=.ok (.bl (!(a == b))) h:=(rfl)
@[simp] theorem vIs_non {x:PV}:vIs x .non h=.ok (.bl (isNonP x)) h:=(rfl)
@[simp] theorem vIsNot_non {x:PV}:vIsNot x .non h=.ok (.bl (!isNonP x)) h:=(rfl)
theorem sIx_pos {n d:Nat} {i:Int} (h0:0<=i):HT.sIx n d (some i)=min i.toNat n:=by
 show (if i < 0 then (i+(n:Int)).toNat else min i.toNat n)=_
 rw [if_neg (by omega)]
theorem cut_to {α:Type} {xs:List α} {j:Int} (h0:0<=j):cutP xs none (some j)=xs.take j.toNat:=by
 unfold cutP
 rw [sIx_pos h0]
 simp only [HT.sIx,List.drop_zero,Nat.sub_zero]
 rw [List.take_eq_take_iff]
 omega
theorem cut_map {α β:Type} {f:α->β} {xs:List α}:cutP (xs.map f) lo hi=(cutP xs lo hi).map f:=by
 unfold cutP
 rw [List.length_map,List.map_take,List.map_drop]
end
end L2
namespace L2
end L2
set_option Elab.async false
set_option linter.all false
namespace L2
open PySem
section
variable {δ:Ev} {h h1:PH} {js:List (Option Nat)} {tg:Mg} {tst:Ev->PH->Rs Bool} {elt:Me} {g:PH->Bool} {n:Nat}
theorem W_loopC {δ0:Ev} {Q:PV->PH->Prop} (I:Nat->PH->Prop):∀ (xs:List PV) (k:Nat) (h:PH),I k h->
  (∀ i x h,k<=i->xs[i - k]?=some x->I i h->g h=true/\∃ δ1,tg x δ0=some δ1/\(tst δ1 h).W fun b h'=>if b=true then (elt δ1 h').W fun p h''=>∃ ys,h''[n]?=some (.lst ys)/\ys.length < 16777216/\I (i+1) (h''.set n (.lst (ys++[p]))) else I (i+1) h')->
  (∀ h,I (k+xs.length) h->g h=true/\Q (.ref n) h)->(loopC g tg tst elt δ0 n xs h).W Q
 | [],k,h,i0,_,fin=>by
  obtain ⟨h1,h2⟩:=fin h i0
  simp [loopC,h1,h2]
 | x :: xs,k,h,i0,step,fin=>by
  obtain ⟨h1,δ1,h2,h3⟩:=step k x h (Nat.le_refl _) (by simp) i0
  have go:∀ h2,I (k+1) h2->(loopC g tg tst elt δ0 n xs h2).W Q:=fun h2 i2=>
   W_loopC I xs (k+1) h2 i2 (fun i y h hk hy=>step i y h (by omega) (by
    have:i - k=(i - (k+1))+1:=by omega
    rw [this,List.getElem?_cons_succ]; exact hy)) (fun h hi=>fin h (by
    have e:k+(x :: xs).length=k+1+xs.length:=by simp; omega
    rw [e]; exact hi))
  unfold loopC
  rw [if_pos h1,h2]
  show (Rs.bind (tst δ1 h) _).W Q
  rw [W_bind]
  refine W_mono h3 fun b h' hb=>?_
  cases b with
  | false=>exact go h' (by simpa using hb)
  | true=>
   show (Rs.bind (elt δ1 h') _).W Q
   rw [W_bind]
   refine W_mono (show (elt δ1 h').W _ from by simpa using hb) fun p h'' hp=>?_
   obtain ⟨ys,e,hz,hi⟩:=hp
   have e':isLst h'' n=some ys:=by unfold isLst; rw [e]
   simp [e',hz]
   exact go _ hi
theorem comp_pure {α:Type} {mi:Mi} {ys:List α} {emb:α->PV} (f:α->Option PV) (e:mi δ h=.ok ⟨ys.map emb,g⟩ h1) (hg:∀ h,Ext h1 h->g h=true) (hz:ys.length<=16777216)
  (step:∀ y∈ys,∃ δ1,tg (emb y) (capE js δ)=some δ1/\∀ h,Ext h1 h->match f y with
   | none=>tst δ1 h=.ok false h
   | some p=>tst δ1 h=.ok true h/\elt δ1 h=.ok p h):mComp js mi tg tst elt δ h=.ok (.ref h1.length) (h1++[.lst (ys.filterMap f)]):=by
 have w:(mComp js mi tg tst elt δ h).W fun p h'=>p=.ref h1.length/\h'=h1++[.lst (ys.filterMap f)]:=by
  unfold mComp
  rw [e,Rs.bind_ok]
  refine W_loopC (fun i h'=>h'=h1++[.lst ((ys.take i).filterMap f)]) (ys.map emb) 0 _ (by simp) (fun i x h' _ hx hi=>?_) (fun h' hi=>?_)
  ·subst hi
   have hx:(ys.map emb)[i]?=some x:=by simpa using hx
   rw [List.getElem?_map] at hx
   obtain ⟨y,hy,rfl⟩:=Option.map_eq_some_iff.mp hx
   have hil:=(List.getElem?_eq_some_iff.mp hy).1
   obtain ⟨δ1,ht,hs⟩:=step y (List.mem_of_getElem? hy)
   have hs:=hs (h1++[.lst ((ys.take i).filterMap f)]) (Ext.app _ _)
   have htk:ys.take (i+1)=ys.take i++[y]:=by rw [List.take_add_one,hy]; rfl
   refine ⟨hg _ (Ext.app _ _),δ1,ht,?_⟩
   cases ef:f y with
   | none=>
    rw [ef] at hs
    rw [hs]
    simp [htk,ef]
   | some p=>
    rw [ef] at hs
    rw [hs.1]
    simp [hs.2]
    refine ⟨?_,by simp [htk,ef]⟩
    have:=List.length_filterMap_le f (ys.take i)
    rw [List.length_take] at this
    omega
  ·subst hi
   simp
   exact hg _ (Ext.app _ _)
 obtain ⟨p,h',e,rfl,rfl⟩:=W_ex w
 exact e
theorem seqI_lst {m:Me} {xs:List PV} (e:m δ h=.ok (.ref n) h1) (hn:h1[n]?=some (.lst xs)):mSeqI m δ h=.ok ⟨xs,lstG n xs⟩ h1:=by
 unfold mSeqI
 have e3:lstAt h1 n=some xs:=by unfold lstAt; rw [hn]
 rw [e,Rs.bind_ok]
 unfold ofSeq; simp only [e3]
theorem lstG_ext {xs:List PV} (hn:h1[n]?=some (.lst xs)):∀ h,Ext h1 h->lstG n xs h=true:=fun h hx=>by
 have e3:lstAt h n=some xs:=by unfold lstAt; rw [hx _ _ hn]
 unfold lstG; rw [e3]; exact PV.beqs_self xs
theorem comp_lst {α:Type} {m:Me} {ys:List α} {emb:α->PV} (f:α->Option PV) (e:m δ h=.ok (.ref n) h1) (hn:h1[n]?=some (.lst (ys.map emb))) (hz:ys.length<=16777216)
  (step:∀ y∈ys,∃ δ1,tg (emb y) (capE js δ)=some δ1/\∀ h,Ext h1 h->match f y with
   | none=>tst δ1 h=.ok false h
   | some p=>tst δ1 h=.ok true h/\elt δ1 h=.ok p h):mComp js (mSeqI m) tg tst elt δ h=.ok (.ref h1.length) (h1++[.lst (ys.filterMap f)]):=
 comp_pure f (seqI_lst e hn) (lstG_ext hn) hz step
theorem upTo_map (lo:Int):∀ n,upTo lo n=(List.range n).map (fun (i:Nat)=>PV.int (lo+(i:Int)))
 | 0=>rfl
 | n+1=>by
  rw [upTo,upTo_map (lo+1) n,List.range_succ_eq_map,List.map_cons,List.map_map]
  congr 1
  ·simp
  ·apply List.map_congr_left
   intro a _
   simp only [Function.comp_def]
   congr 1
   omega
theorem comp_rng {ms:Ma} {j:Int} (f:Nat->Option PV) (e:ms δ h=.ok [.int j] h1) (hj:-4611686018427387904<=j/\j < 16777216)
  (step:∀ i:Nat,(i:Int) < j->∃ δ1,tg (.int i) (capE js δ)=some δ1/\∀ h,Ext h1 h->match f i with
   | none=>tst δ1 h=.ok false h
   | some p=>tst δ1 h=.ok true h/\elt δ1 h=.ok p h):mComp js (mRng1 ms) tg tst elt δ h=.ok (.ref h1.length) (h1++[.lst ((List.range j.toNat).filterMap f)]):=by
 refine comp_pure (emb:=fun i:Nat=>.int ((0:Int)+i)) (g:=fun _=>true) f ?_ (fun _ _=>rfl) (by simp; omega) (fun i hi=>?_)
 ·unfold mRng1
  rw [e]
  have hj':-(2 ^ 62)<=j/\j < 2 ^ 62:=⟨hj.1,by omega⟩
  simp only [Rs.bind_ok,rngI1,if_pos hj']
  rw [upTo_map]
 ·have hi':=List.mem_range.mp hi
  rw [Int.zero_add]
  exact step i (by omega)
theorem filterMap_some {α β:Type} (f:α->β) (xs:List α):xs.filterMap (fun x=>some (f x))=xs.map f:=by
 induction xs with
 | nil=>rfl
 | cons x xs ih=>simp [ih]
end
end L2
namespace L2
open PySem
end L2
set_option Elab.async false
set_option linter.all false
set_option maxRecDepth 100000
namespace L2
open PySem PySem.Spec PyProof.Rows
section
variable {X:Cx} {pins:List (Addr×Obj)} {σ:St} {H:Hp} {s:Shared} {C:MC} {φ:List Addr}
mutual
theorem rv_hr (I:Inv X pins σ H s) (hK:X.K=C.K):∀ (n:Nat) {p:PV} {v:V} {u:Value},p.ky n=true->RV C φ H p v->RelV v u->HR s.heap p u
 | _,.int i,v,u,_,r,ru=>by cases r; exact ru
 | _,.str i,v,u,_,r,ru=>by cases r; exact ru
 | n+1,.tup ps,v,u,hk,r,ru=>by
  obtain ⟨a,vs,rfl,q,rs⟩:=r
  cases ru
  rw [<- hK] at q
  obtain ⟨its,rv,p,_⟩:=I.tuple q
  exact ⟨a,its,rfl,p,rvs_hrs I hK n (List.all_eq_true.mp hk) rs rv⟩
 | 0,.tup _,_,_,hk,_,_=>by cases hk
 | n,.non,_,_,hk,_,_=>by cases n <;> cases hk
 | n,.bl _,_,_,hk,_,_=>by cases n <;> cases hk
 | n,.ref _,_,_,hk,_,_=>by cases n <;> cases hk
 | n,.ty _,_,_,hk,_,_=>by cases n <;> cases hk
 | n,.fl _,_,_,hk,_,_=>by cases n <;> cases hk
theorem rvs_hrs (I:Inv X pins σ H s) (hK:X.K=C.K):∀ (n:Nat) {ps:List PV} {vs:List V} {us:List Value},(∀ p∈ps,p.ky n=true)->RVs C φ H ps vs->Vals vs us->HRs s.heap ps us
 | _,[],[],us,_,_,ru=>by cases ru; trivial
 | n,p :: ps,v :: vs,us,hk,r,ru=>by
  cases ru with
  | cons h t=>exact ⟨rv_hr I hK n (hk p List.mem_cons_self) r.1 h,rvs_hrs I hK n (fun q hq=>hk q (List.mem_cons_of_mem _ hq)) r.2 t⟩
 | _,[],_ :: _,_,_,r,_=>r.elim
 | _,_ :: _,[],_,_,r,_=>r.elim
end
abbrev RawD:List (PV×Addr×V)->List (PV×Addr×Value)->Prop:=Paired fun p q=>p.1=q.1/\p.2.1=q.2.1/\RelV p.2.2 q.2.2
def HD (C:MC) (φ:List Addr) (H:Hp) (X:Cx) (s:Shared) (a:Addr) (kvs:List (PV×PV)):Prop:=
 ∃ ks xs,RKd C φ H kvs ks/\RawD ks xs/\xs.length<=sizeLine/\(a == sysModules)=false/\s.heap.DictOfH (dKind X.prog X.w) a xs
def tblD (h:PH) (n:Nat):Option (List (PV×PV)):=match h[n]? with
 | some (.dD kvs)=>some kvs
 | some (.dK [])=>some []
 | _=>none
def PV.isKt:PV->Bool
 | .tup xs=>(PV.tup xs).ky 6
 | _=>false
theorem isKt_ky {p:PV} (h:p.isKt=true):p.ky 6=true:=by cases p <;> first | exact h | cases h
theorem isKt_rv {p:PV} {v:V} (h:p.isKt=true) (r:RV C φ H p v):∃ b,v=.ref b:=by
 cases p <;> first | (obtain ⟨b,_,e,_⟩:=r; exact ⟨b,e⟩) | cases h
theorem hd_of {h:PH} {n:Nat} {a:Addr} {kvs:List (PV×PV)} (I:Inv X pins σ H s) (hK:X.K=C.K) (hw:X.w=C.w) (rh:RH C φ H h) (ha:φ[n]?=some a) (e:tblD h n=some kvs):HD C φ H X s a kvs/\Mut (H a)/\NoTup (H a):=by
 unfold tblD at e
 split at e
 ·rename_i kv hk
  cases e
  obtain ⟨ks,hH,r⟩:=rh.at' n a _ ha hk
  have hO:ObjOk X.prog X.w H s.heap a (dDO C.w a ks):=I.hok a _ hH
  obtain ⟨⟨hz,hm,xs,rx,o,es,ep,h1,h2,h3,h4,h5⟩,_⟩:=hO
  refine ⟨⟨ks,xs,r,rx,by rw [<- Paired.length rx]; exact hz,hm,o,es,ep,h1,h2,h3,?_,?_,h5⟩,by rw [hH]; exact True.intro,by rw [hH]; exact True.intro⟩
  ·rw [h4,<- hw]; rfl
  ·have all:∀ {l:List (PV×PV)} {m:List (PV×Addr×V)} {z:List (PV×Addr×Value)},RKd C φ H l m->RawD m z->∀ x∈z,(dKind X.prog X.w).is s.heap x.1 x.2.1:=by
    intro l m z q
    unfold RKd at q
    induction q generalizing z with
    | nil=>intro rz x hx; cases rz; cases hx
    | cons hq t ih=>
     intro rz x hx
     cases rz with
     | cons hz' tz=>
      rcases List.mem_cons.mp hx with e | hx
      ·subst e
       refine ⟨?_,?_⟩
       ·rw [<- hz'.1,<- hq.1]; exact hq.2.1
       ·rw [<- hz'.1,<- hq.1,<- hz'.2.1]; exact rv_hr I hK 6 hq.2.1 hq.2.2.1 rfl
      ·exact ih tz x hx
   exact all r rx
 ·rename_i hk
  cases e
  obtain ⟨ks,hH,r⟩:=rh.at' n a _ ha hk
  have:ks=[]:=by cases r; rfl
  subst this
  obtain ⟨z,hd,vs,rel,o,es,ep,h1,h2,h3,h4,h5,h6⟩:=dk_of I.hok hH
  have:vs=[]:=by cases rel; rfl
  subst this
  refine ⟨⟨[],[],.nil,.nil,Nat.zero_le _,hd,o,es,ep,h1,h2,h3,?_,(fun x hx=>nomatch hx),List.nodup_nil⟩,by rw [hH]; exact True.intro,by rw [hH]; exact True.intro⟩
  cases he:es.toList with
  | nil=>rfl
  | cons y ys=>rw [he] at h5; cases h5
 ·cases e
theorem HD.val {a:Addr} {kvs:List (PV×PV)} {ks:List (PV×Addr×V)} {xs:List (PV×Addr×Value)} (r:RKd C φ H kvs ks) (rx:RawD ks xs) (k:PV):match dLook kvs k,(atKey xs k).map (·.2) with
  | some p,some u=>∃ v,RelV v u/\RV C φ H p v
  | none,none=>True
  | _,_=>False:=by
 unfold RKd at r
 induction r generalizing xs with
 | nil=>cases rx; trivial
 | @cons p q ps qs h t ih=>
  cases rx with
  | @cons q' x qs' xs' hx tx=>
   obtain ⟨pk,pv⟩:=p
   by_cases e:pk=k
   ·have e':x.1=k:=hx.1.symm.trans (h.1.symm.trans e)
    have b:atKey (x :: xs') k=some x.2:=by simp [atKey,List.find?_cons,e']
    rw [b]
    unfold dLook
    rw [if_pos e]
    exact ⟨_,hx.2.2,h.2.2.2⟩
   ·have e':¬ x.1=k:=fun z=>e (h.1.trans (hx.1.trans z))
    have b:atKey (x :: xs') k=atKey xs' k:=by simp [atKey,List.find?_cons,e']
    rw [b]
    unfold dLook
    rw [if_neg e]
    exact ih tx
def putP {κ:Type} [DecidableEq κ] (kvs:List (κ×PV)) (k:κ) (p:PV):List (κ×PV):=if (dLook kvs k).isSome then kvs.map (fun kv=>if kv.1=k then (kv.1,p) else kv) else kvs++[(k,p)]
theorem HD.replace {a:Addr} {kvs:List (PV×PV)} {ks:List (PV×Addr×V)} {xs:List (PV×Addr×Value)} (r:RKd C φ H kvs ks) (rx:RawD ks xs) (k:PV) {p:PV} {v:V} {u:Value} (rp:RV C φ H p v) (ru:RelV v u):
  ∃ ks',RKd C φ H (kvs.map fun kv=>if kv.1=k then (kv.1,p) else kv) ks'/\RawD ks' (xs.map (putAt k u)):=by
 unfold RKd at r
 induction r generalizing xs with
 | nil=>cases rx; exact ⟨[],.nil,.nil⟩
 | @cons pp q ps qs h t ih=>
  cases rx with
  | @cons q' x qs' xs' hx tx=>
   obtain ⟨ks',r1,r2⟩:=ih tx
   by_cases e:pp.1=k
   ·refine ⟨(q.1,q.2.1,v) :: ks',.cons ?_ r1,.cons ?_ r2⟩
    ·simp only [if_pos e]; exact ⟨h.1,h.2.1,h.2.2.1,rp⟩
    ·unfold putAt; rw [if_pos (hx.1.symm.trans (h.1.symm.trans e))]; exact ⟨hx.1,hx.2.1,ru⟩
   ·refine ⟨q :: ks',.cons ?_ r1,.cons ?_ r2⟩
    ·simp only [if_neg e]; exact h
    ·unfold putAt; rw [if_neg fun z=>e (h.1.trans (hx.1.trans z))]; exact hx
theorem HD.put {a b:Addr} {kvs:List (PV×PV)} {ks:List (PV×Addr×V)} {xs:List (PV×Addr×Value)} (r:RKd C φ H kvs ks) (rx:RawD ks xs) {k:PV} (hk:k.ky 6=true) (rk:RV C φ H k (.ref b)) {p:PV} {v:V} {u:Value} (rp:RV C φ H p v) (ru:RelV v u):
  ∃ ks',RKd C φ H (putP kvs k p) ks'/\RawD ks' (storedH xs k b u):=by
 have hv:=HD.val (a:=b) r rx k
 unfold putP storedH
 cases e1:dLook kvs k with
 | some p0=>
  rw [e1] at hv
  cases e2:atKey xs k with
  | none=>rw [e2] at hv; exact hv.elim
  | some z=>exact HD.replace (a:=b) r rx k rp ru
 | none=>
  rw [e1] at hv
  cases e2:atKey xs k with
  | some z=>rw [e2] at hv; exact hv.elim
  | none=>exact ⟨ks++[(k,b,v)],Paired.snoc r ⟨rfl,hk,rk,rp⟩,Paired.snoc rx ⟨rfl,rfl,ru⟩⟩
theorem HD.isSome {kvs:List (PV×PV)} {ks:List (PV×Addr×V)} {xs:List (PV×Addr×Value)} (r:RKd C φ H kvs ks) (rx:RawD ks xs) (k:PV):(atKey xs k).isSome=(dLook kvs k).isSome:=by
 have hv:=HD.val (a:=0) r rx k
 cases e1:dLook kvs k with
 | some p0=>
  rw [e1] at hv
  cases e2:atKey xs k with
  | none=>rw [e2] at hv; exact hv.elim
  | some z=>rfl
 | none=>
  rw [e1] at hv
  cases e2:atKey xs k with
  | some z=>rw [e2] at hv; exact hv.elim
  | none=>rfl
theorem kt_is (I:Inv X pins σ H s) (hK:X.K=C.K) {p:PV} {b:Addr} (hk:p.isKt=true) (r:RV C φ H p (.ref b)):(dKind X.prog X.w).is s.heap p b:=⟨isKt_ky hk,rv_hr I hK 6 (isKt_ky hk) r rfl⟩
end
section
variable {C:MC} {k:Nat} {X:Cx}
theorem Cxt.room6 (c:Cxt C k X):(dKind X.prog X.w).room X.A.in1:=by
 have:=c.hu64
 show X.A.units+1+6 < cLine
 omega
def hasD (x y:PV) (h:PH):Option (Option PV):=match y with
 | .ref n=>if x.isKt=true then (tblD h n).map fun kvs=>dLook kvs x else none
 | _=>none
def rHasD (C:MC):V->V->Hp->(List Addr->Option PV->Prop)->Prop:=fun x y H R=>∃ φ h p n a kvs,RH C φ H h/\RV C φ H p x/\y=.ref a/\φ[n]?=some a/\tblD h n=some kvs/\p.isKt=true/\R φ (dLook kvs p)
theorem hasD_sound {φ:List Addr} {H:Hp} {h:PH} {p q:PV} {x y:V} {o:Option PV} {R:List Addr->Option PV->Prop} (rh:RH C φ H h) (rx:RV C φ H p x) (ry:RV C φ H q y) (e:hasD p q h=some o) (r:R φ o):rHasD C x y H R:=by
 unfold hasD at e
 cases q with
 | ref n=>
  obtain ⟨a,rfl,ha⟩:=ry
  dsimp only at e
  split at e
  ·rename_i hk
   cases e1:tblD h n with
   | none=>rw [e1] at e; cases e
   | some kvs=>rw [e1] at e; cases e; exact ⟨φ,h,p,n,a,kvs,rh,rx,rfl,ha,e1,hk,r⟩
  ·cases e
 | _=>cases e
theorem op_inDD (c:Cxt C k X):OpR X (compareOp .In) (fun x y H Q=>rHasD C x y H fun _ o=>Q (.bl o.isSome) H):=fun pins s σ H x y v u Q I rx ry h=>by
 obtain ⟨φ,h,p,n,a,kvs,rh,rp,rfl,ha,ht,hk,q⟩:=h
 cases ry
 obtain ⟨b,rfl⟩:=isKt_rv hk rp
 cases rx
 obtain ⟨⟨ks,xs,r,rx',hz,hm,dd⟩,_⟩:=hd_of I c.K c.w rh ha ht
 refine wpAny_in_heap c.room6 (kt_is I c.K hk rp) hm dd ?_
 rw [HD.isSome r rx' p]
 exact ⟨.bl _,H,I.tok _,rfl,q⟩
theorem op_notInDD (c:Cxt C k X):OpR X (compareOp .NotIn) (fun x y H Q=>rHasD C x y H fun _ o=>Q (.bl (!o.isSome)) H):=fun pins s σ H x y v u Q I rx ry h=>by
 obtain ⟨φ,h,p,n,a,kvs,rh,rp,rfl,ha,ht,hk,q⟩:=h
 cases ry
 obtain ⟨b,rfl⟩:=isKt_rv hk rp
 cases rx
 obtain ⟨⟨ks,xs,r,rx',hz,hm,dd⟩,_⟩:=hd_of I c.K c.w rh ha ht
 refine wpAny_notIn_heap c.room6 (kt_is I c.K hk rp) hm dd ?_
 rw [HD.isSome r rx' p]
 exact ⟨.bl _,H,I.tok _,rfl,q⟩
def vHas:PV->PV->PH->Rs PV:=fun x y h=>match hasD x y h with
 | some o=>.ok (.bl o.isSome) h
 | none=>vIn x y h
def vHasNot:PV->PV->PH->Rs PV:=fun x y h=>match hasD x y h with
 | some o=>.ok (.bl (!o.isSome)) h
 | none=>vNotIn x y h
theorem o_has:OpS C k X (compareOp .In) vHas:=fun c=>((o_in c).or (op_inDD c)).imp fun x y H Q h=>by
 obtain ⟨φ,h,p,q,rh,rx,ry,po⟩:=h
 unfold vHas at po
 cases e:hasD p q h with
 | none=>rw [e] at po; exact .inl ⟨φ,h,p,q,rh,rx,ry,po⟩
 | some o=>rw [e] at po; exact .inr (hasD_sound rh rx ry e (po.val rh rfl))
theorem o_hasNot:OpS C k X (compareOp .NotIn) vHasNot:=fun c=>((o_notIn c).or (op_notInDD c)).imp fun x y H Q h=>by
 obtain ⟨φ,h,p,q,rh,rx,ry,po⟩:=h
 unfold vHasNot at po
 cases e:hasD p q h with
 | none=>rw [e] at po; exact .inl ⟨φ,h,p,q,rh,rx,ry,po⟩
 | some o=>rw [e] at po; exact .inr (hasD_sound rh rx ry e (po.val rh rfl))
theorem ix_D (c:Cxt C k X):IxR X (fun x y H Q=>rHasD C y x H fun φ o=>∃ p,o=some p/\∀ v:V,RV C φ H p v->Q v H):=by
 intro value slice pins s σ H x y v u Q I rx ry h hs
 obtain ⟨φ,h,p,n,a,kvs,rh,rp,rfl,ha,ht,hk,p',ep,q⟩:=h
 cases rx
 obtain ⟨b,rfl⟩:=isKt_rv hk rp
 cases ry
 obtain ⟨⟨ks,xs,r,rx',hz,hm,dd⟩,_⟩:=hd_of I c.K c.w rh ha ht
 have hT:=dd.typeIs
 have hv:=HD.val (a:=a) r rx' p
 rw [ep] at hv
 cases e2:atKey xs p with
 | none=>rw [e2] at hv; exact hv.elim
 | some z=>
  rw [e2] at hv
  obtain ⟨v',rv1,rv2⟩:=hv
  unfold subscriptTail
  refine wpAny_bind ?_
  rw [getitemInPython_of_ne hT.not_modules]
  refine wpAny_bind (wpAny_specialOf hT PySem.F.slot_dict_getitem.lookup ?_)
  have fin:wpAny (model X.prog X.w) X.A (subscripted slice false (.ref a) (.ref b)) (fun r s₃=>wpAny (model X.prog X.w) X.A (letTemporaryGo value (.ref a) r >>= fun _=>pure r) (EP X pins σ Q) X.xe s₃) X.xe s:=by
   rw [hs]
   exact wpAny_operating (wpAny_getItem_heap c.room6 (kt_is I c.K hk rp) dd e2 (wpAny_bind (wpAny_letTemporaryGo (wpAny_pure ⟨v',H,I.tok _,rv1,q v' rv2⟩))))
  first
   | exact wpAny_pure (wpAny_bind fin)
   | exact wpAny_bind (wpAny_pure (wpAny_bind fin))
   | exact wpAny_bind fin
def vAt:PV->PV->PH->Rs PV:=fun x y h=>match hasD y x h with
 | some (some p)=>.ok p h
 | some none=>.bad
 | none=>vIx x y h
theorem s_at {a b:Expr} {ma mb:Me} {pos:Pos} (ha:SE C k X a ma) (hb:SE C k X b mb) (hs:PlainIx b:=by intro _ _; rfl):SE C k X (.Subscript a b pos) (mBin vAt ma mb):=fun c=>
 (pe_ix ((ixC c.hu C.K c.K).or (ix_D c)) (ha c) (hb c) hs).imp fun σ H Q h=>by
  obtain ⟨φ,δ,h,rh,re,p⟩:=rd_op h
  refine ⟨φ,δ,h,rh,re,p.imp ?_⟩
  rintro v H1 ⟨φ,δ,h,rh,re,p⟩
  refine ⟨φ,δ,h,rh,re,p.imp ?_⟩
  rintro u H2 ⟨φ,h,p,q,rh,rx,ry,po⟩
  unfold vAt at po
  cases e:hasD q p h with
  | none=>rw [e] at po; exact .inl (ix_of ⟨φ,h,p,q,rh,rx,ry,po⟩)
  | some o=>
   rw [e] at po
   cases o with
   | none=>exact po.elim
   | some r=>exact .inr (hasD_sound rh ry rx e ⟨r,rfl,fun v' rv=>po.val rh rv⟩)
def vPut (x y v:PV) (h:PH):Option PH:=match x with
 | .ref n=>match keyP y,h[n]? with
  | some key,some (.dK kvs)=>if kvs.length < sizeLine then some (h.set n (.dK (putP kvs key v))) else none
  | some _,_=>none
  | none,_=>if y.isKt=true then (match tblD h n with
   | some kvs=>if kvs.length < sizeLine then some (h.set n (.dD (putP kvs y v))) else none
   | none=>none) else none
 | _=>none
theorem dLook_some {φ:List Addr} {H:Hp} {κ:Type} [DecidableEq κ] {kvs:List (κ×PV)} {ks:List (κ×V)} (r:RKv C φ H kvs ks) (a:κ):(dLook kvs a).isSome=(valV ks a).isSome:=by
 have:=dLook_val r a
 cases e1:dLook kvs a with
 | none=>
  cases e2:valV ks a with
  | none=>rfl
  | some v=>rw [e1,e2] at this; exact this.elim
 | some p=>
  cases e2:valV ks a with
  | none=>rw [e1,e2] at this; exact this.elim
  | some v=>rfl
theorem putP_rel {φ:List Addr} {H:Hp} {κ:Type} [DecidableEq κ] {kvs:List (κ×PV)} {ks:List (κ×V)} (r:RKv C φ H kvs ks) (a:κ) {p:PV} {v:V} (rp:RV C φ H p v):RKv C φ H (putP kvs a p) (putK ks a v):=by
 unfold putP putK
 rw [valV_any,dLook_some r a]
 split
 ·rename_i hx
  clear hx
  unfold RKv at r ⊢
  induction r with
  | nil=>exact .nil
  | @cons p' q' ps qs h t ih=>
   refine .cons ?_ ih
   by_cases e:p'.1=a
   ·have e':q'.1=a:=h.1.symm.trans e
    simp only [if_pos e,if_pos e']
    exact ⟨h.1,rp⟩
   ·have e':¬ q'.1=a:=fun z=>e (h.1.trans z)
    simp only [if_neg e,if_neg e']
    exact h
 ·exact Paired.snoc r ⟨rfl,rp⟩
theorem set_sound {φ:List Addr} {H:Hp} {h h':PH} {px py pv:PV} {x y v:V} (c:Cxt C k X) (rh:RH C φ H h) (rx:RV C φ H px x) (ry:RV C φ H py y) (rv:RV C φ H pv v) (e:vPut px py pv h=some h') {pins:List (Addr×Obj)} {σ:St} {s:Shared} {xu yu vu:Value}
  {Q:Unit->Shared->Prop} (I:Inv X pins σ H s) (rxu:RelV x xu) (ryu:RelV y yu) (rvu:RelV v vu) (q:∀ s' H',Inv X pins σ H' s'->Kp H H'->RH C φ H' h'->Q () s'):wpAny (model X.prog X.w) X.A (setItem xu yu vu) Q X.xe s:=by
 unfold vPut at e
 cases px with
 | ref n=>
  obtain ⟨a,rfl,ha⟩:=rx
  cases rxu
  dsimp only at e
  split at e
  ·rename_i key kvs hkey hk
   split at e
   ·rename_i hl
    cases e
    obtain ⟨ks,hH,rk⟩:=rh.at' n a _ ha hk
    have ey:y=kV key:=keyP_v ry hkey
    subst ey
    have hl':ks.length < sizeLine:=by rw [<- Paired.length rk]; exact hl
    refine d_setItem c.hu I (.k hH hl') ryu rvu fun s' I'=>q s' _ I' (Kp.dK hH) ?_
    refine rh.write ha (by rw [hH]; exact True.intro) ⟨_,upd_same,?_⟩
    exact (putP_rel rk key rv).mono List.prefix_rfl (Kp.dK hH)
   ·cases e
  ·cases e
  ·split at e
   ·rename_i hk
    split at e
    ·rename_i kvs ht
     split at e
     ·rename_i hl
      cases e
      obtain ⟨b,rfl⟩:=isKt_rv hk ry
      cases ryu
      obtain ⟨⟨ks,xs,r,rx',hz,hm,dd⟩,mu,nt⟩:=hd_of I c.K c.w rh ha ht
      refine wpAny_setItem_heap (hsz:=hz) c.room6 (kt_is I c.K hk ry) dd fun h' dd' hs=>?_
      obtain ⟨ks',r1,r2⟩:=HD.put (a:=a) r rx' (isKt_ky hk) ry rv rvu
      obtain ⟨o,es,ep,hq,h2,h3,h4,_,h5⟩:=dd'
      have hl2:ks'.length<=sizeLine:=by
       have e1:=Paired.length r1
       have e2:(putP kvs py pv).length<=kvs.length+1:=by
        unfold putP
        split
        ·rw [List.length_map]; omega
        ·simp
       omega
      refine q _ (upd H a (dDO C.w a ks')) (d_write I mu hs ⟨o,hq⟩ ⟨⟨hl2,hm,_,r2,o,es,ep,hq,h2,h3,?_,h5⟩,⟨o,hq⟩,?_⟩) (Kp.upd nt) ?_
      ·rw [h4,<- c.w]; rfl
      ·rintro g1 g2 ⟨z1,z2,ws,z3,o',es',ep',z4,z5⟩ keep
       exact ⟨z1,z2,ws,z3,o',es',ep',keep _ z4,z5⟩
      ·exact rh.write ha nt ⟨ks',upd_same,RKd.mono List.prefix_rfl (Kp.upd nt) r1⟩
     ·cases e
    ·cases e
   ·cases e
 | _=>cases e
end
end L2
set_option Elab.async false
set_option linter.all false
set_option maxRecDepth 100000
namespace L2
open PySem PySem.Spec PyProof.Rows
def MtG (C:MC) (k:Nat) (X:Cx) (T:String) (ty:PV->PH->Bool) (id:String) (g:PV->List PV->PH->Rs PV):Prop:=Cxt C k X->MtR X id (rM C g)/\
 ∀ pins s σ H φ h p x v,Inv X pins σ H s->RH C φ H h->RV C φ H p x->RelV x v->ty p h=true->s.TypeIs v T/\∀ a,v=.ref a->∃ ob,s.heap.get? a=some ob/\ob.dict=none
section
variable {C:MC} {k:Nat} {X:Cx}
section
variable {o e:Expr} {es:List Expr} {mo:Me} {ms:Ma} {name:Str} {apos cpos:Pos} {T id:String} {ty:PV->PH->Bool} {g:PV->List PV->PH->Rs PV}
theorem s_mg (pa:PlainAttrs T) (slot:Slot T name id) (hty:typeOf (.builtin id)=pure (.type "method_descriptor")) (hm:MtG C k X T ty id g) (ho:SE C k X o mo) (ha:SA C k X (e :: es) ms)
  (hbase:attributeBase o name X.env (eval o X.env)=eval o X.env:=by rfl)
  (hfew:((backTo cpos (starEach (e :: es) X.env)).all (fun x=>!x.1) && (backToKw cpos (keywordEach [] X.env)).all (fun x=>x.1.isSome)
   && decide ((e :: es).length+([]:List Keyword).length+(if ([]:List Keyword).isEmpty then 0 else 1) < 30))=true:=by rfl)
  (hline:(apos.endLine == cpos.line)=true:=by rfl) (hs:starEach (e :: es) X.env=(false,eval e X.env) :: starEach es X.env:=by rfl) (hplain:(backTo cpos (starEach es X.env)).any (·.1)=false:=by rfl):
  SE C k X (.Call (.Attribute o name apos) (e :: es) [] cpos) (mMt ty g mo ms):=fun c pins s σ H Q I ⟨φ,δ,h,rh,re,p⟩=>by
 refine wpAny_Call_method_late hbase hfew hline rfl (thn (ho c pins s σ H _ I ⟨φ,δ,h,rh,re,post.bind p⟩) ?_)
 rintro v s1 ⟨x,H1,I1,r1,φ1,px,h1,p1,t1,rh1,rv1,q1⟩
 obtain ⟨ht,q1⟩:=q1.ite
 obtain ⟨g1,g2⟩:=(hm c).2 pins s1 σ H1 φ1 h1 px x v I1 rh1 rv1 r1 ht
 refine ⟨T,id,pa,slot,hty,g1,g2,?_⟩
 have hA:=ha c cpos pins s1 σ H1 _ I1 ⟨φ1,δ,h1,rh1,re.mono p1 t1,postA.bind q1⟩
 rw [hs] at hA ⊢
 refine Calls.callWith_builtin (show (false || (backTo cpos (starEach es X.env)).any (·.1))=false by rw [hplain]; rfl) (Calls.evalArgs_plain (thn hA ?_))
 rintro us s2 ⟨vs,H2,I2,r2,φ2,ps,h2,p2,t2,rh2,rv2,q2⟩
 exact (hm c).1 pins s2 σ H2 x vs v us Q I2 r1 r2 ⟨φ2,h2,px,ps,rh2,rv1.mono p2 t2,rv2,q2⟩
theorem s_mg0 (pa:PlainAttrs T) (slot:Slot T name id) (hty:typeOf (.builtin id)=pure (.type "method_descriptor")) (hm:MtG C k X T ty id g) (ho:SE C k X o mo)
  (hbase:attributeBase o name X.env (eval o X.env)=eval o X.env:=by rfl) (hline:(apos.endLine == cpos.line)=true:=by rfl):SE C k X (.Call (.Attribute o name apos) [] [] cpos) (mMt0 ty g mo):=fun c pins s σ H Q I ⟨φ,δ,h,rh,re,p⟩=>by
 refine wpAny_Call_method0_late hbase hline (thn (ho c pins s σ H _ I ⟨φ,δ,h,rh,re,post.bind p⟩) ?_)
 rintro v s1 ⟨x,H1,I1,r1,φ1,px,h1,p1,t1,rh1,rv1,q1⟩
 obtain ⟨ht,q1⟩:=q1.ite
 obtain ⟨g1,g2⟩:=(hm c).2 pins s1 σ H1 φ1 h1 px x v I1 rh1 rv1 r1 ht
 exact ⟨T,id,pa,slot,hty,g1,g2,Calls.callWith_builtin rfl (PySem.evalArgs_none ((hm c).1 pins s1 σ H1 x [] v [] Q I1 r1 .nil ⟨φ1,h1,px,[],rh1,rv1,trivial,q1⟩))⟩
end
def isDct (x:PV) (h:PH):Bool:=match x with
 | .ref n=>match h[n]? with
  | some (.dK _)=>true
  | some (.dD _)=>true
  | _=>false
 | _=>false
theorem isDct_ty (c:Cxt C k X):∀ pins s σ H φ h p x v,Inv X pins σ H s->RH C φ H h->RV C φ H p x->RelV x v->isDct p h=true->s.TypeIs v "dict" /\ ∀ a,v=.ref a->∃ ob,s.heap.get? a=some ob/\ob.dict=none:=by
 intro pins s σ H φ h p x v I rh rv r e
 unfold isDct at e
 cases p with
 | ref n=>
  obtain ⟨a,rfl,ha⟩:=rv
  cases r
  dsimp only at e
  split at e
  ·rename_i kvs hk
   obtain ⟨ks,hH,rk⟩:=rh.at' n a _ ha hk
   obtain ⟨z,hd,vs,rel,dd⟩:=dk_of I.hok hH
   refine ⟨dd.typeIs,fun b eb=>?_⟩
   cases eb
   obtain ⟨ob,_,_,h1,h2,_⟩:=dd
   exact ⟨ob,h1,h2.2.1⟩
  ·rename_i kvs hk
   have ht:tblD h n=some kvs:=by unfold tblD; rw [hk]
   obtain ⟨⟨ks,xs,r,rx',hz,hm,dd⟩,_⟩:=hd_of I c.K c.w rh ha ht
   refine ⟨dd.typeIs,fun b eb=>?_⟩
   cases eb
   obtain ⟨ob,_,_,h1,h2,_⟩:=dd
   exact ⟨ob,h1,h2.2.1⟩
  ·cases e
 | _=>cases e
def dG (h:PH) (x y:PV):Option (Option PV):=match hasD y x h with
 | some o=>some o
 | none=>match x with
  | .ref n=>dGet h n y
  | _=>none
def vGet:PV->List PV->PH->Rs PV:=fun x ps h=>match ps with
 | [y]=>match dG h x y with
  | some o=>.ok (o.getD .non) h
  | none=>.bad
 | [y,z]=>match dG h x y with
  | some o=>.ok (o.getD z) h
  | none=>.bad
 | _=>.bad
theorem hasD_inv {x y:PV} {h:PH} {o:Option PV} (e:hasD x y h=some o):∃ n kvs,y=.ref n/\x.isKt=true/\tblD h n=some kvs/\o=dLook kvs x:=by
 unfold hasD at e
 cases y with
 | ref n=>
  dsimp only at e
  split at e
  ·rename_i hk
   cases e1:tblD h n with
   | none=>rw [e1] at e; cases e
   | some kvs=>rw [e1] at e; cases e; exact ⟨n,kvs,rfl,hk,e1,rfl⟩
  ·cases e
 | _=>cases e
theorem m_get1 (c:Cxt C k X):MtR X "dict.get" (rM C vGet):=fun pins s σ H x xs v us Q I rx rs h=>by
 obtain ⟨φ,h,p,ps,rh,rp,rps,po⟩:=h
 -- what is found
 have key:∀ {y:PV} {yv:V} {yu:Value} {o:Option PV} {d:PV} {dv:V} {du:Value} {more:List Value},dG h p y=some o->RV C φ H y yv->RelV yv yu->RV C φ H d dv->RelV dv du->
   ((more=[]/\du=.none/\dv=.non)\/more=[du])->(∀ z,RV C φ H (o.getD d) z->Q z H)->wpAny (model X.prog X.w) X.A (call (.builtin "dict.get") (v :: yu :: more)) (EP X pins σ Q) X.xe s:=by
  intro y yv yu o d dv du more e ry ryu rd rdu hm q
  unfold dG at e
  cases e1:hasD y p h with
  | some o'=>
   rw [e1] at e
   cases e
   obtain ⟨n,kvs,rfl,hk,ht,rfl⟩:=hasD_inv e1
   obtain ⟨a,rfl,ha⟩:=rp
   cases rx
   obtain ⟨b,rfl⟩:=isKt_rv hk ry
   cases ryu
   obtain ⟨⟨ks,xs,r,rx',hz,hm',dd⟩,_⟩:=hd_of I c.K c.w rh ha ht
   have hv:=HD.val (a:=a) r rx' y
   have fin:EP X pins σ Q (((atKey xs y).map (·.2)).getD du) { s with toks:=s.toks+(dKind X.prog X.w).draws y }:=by
    cases e2:dLook kvs y with
    | some p2=>
     rw [e2] at hv q
     cases e3:atKey xs y with
     | none=>rw [e3] at hv; exact hv.elim
     | some z=>
      rw [e3] at hv
      obtain ⟨v',rv1,rv2⟩:=hv
      exact ⟨v',H,I.tok _,rv1,q v' rv2⟩
    | none=>
     rw [e2] at hv q
     cases e3:atKey xs y with
     | some z=>rw [e3] at hv; exact hv.elim
     | none=>exact ⟨dv,H,I.tok _,rdu,q dv rd⟩
   rcases hm with ⟨rfl,rfl,_⟩ | rfl
   ·exact call_meetsIn PySem.F.slot_dict_get dd.typeIs PySem.F.entry_dict_get (PySem.F.args_dict_get_2 _ _) (meetsH_dict_get (dKind X.prog X.w) a b hm') ⟨c.room6,y,xs,kt_is I c.K hk ry,dd,fin⟩
   ·exact call_meetsIn PySem.F.slot_dict_get dd.typeIs PySem.F.entry_dict_get (PySem.F.args_dict_get_3 _ _ _) (meetsH_dict_get_default (dKind X.prog X.w) a b hm' du) ⟨c.room6,y,xs,kt_is I c.K hk ry,dd,fin⟩
  | none=>
   rw [e1] at e
   cases p with
   | ref n=>
    obtain ⟨a,rfl,ha⟩:=rp
    cases rx
    dsimp only at e
    obtain ⟨o',g,is,val⟩:=dGet_sound rh ha ry e
    have fin:∀ w' s',Inv X pins σ H s'->RelV (o'.getD dv) w'->EP X pins σ Q w' s':=fun w' s' I' r'=>by
     refine ⟨o'.getD dv,H,I',r',q _ ?_⟩
     cases o with
     | some p2=>obtain ⟨w2,rfl,rw2⟩:=val p2 rfl; exact rw2
     | none=>
      cases o' with
      | none=>exact rd
      | some z=>cases is
    rcases hm with ⟨rfl,rfl,rfl⟩ | rfl
    ·exact d_get1 c.hu I g ryu fin
    ·exact d_get2 c.hu I g ryu rdu fin
   | _=>cases e
 unfold vGet at po
 split at po
 ·rename_i y
  split at po
  ·rename_i o e
   obtain ⟨yv,rfl,ry⟩:=rps.one
   obtain ⟨yu,rfl,ryu⟩:=vals1 rs
   exact key (d:=.non) (dv:=.non) (du:=.none) e ry ryu rfl rfl (.inl ⟨rfl,rfl,rfl⟩) fun z rz=>po.val rh rz
  ·exact po.elim
 ·rename_i y z
  split at po
  ·rename_i o e
   obtain ⟨yv,zv,rfl,ry,rz⟩:=rps.two
   obtain ⟨yu,zu,rfl,ryu,rzu⟩:=vals2 rs
   exact key e ry ryu rz rzu (.inr rfl) fun z rz=>po.val rh rz
  ·exact po.elim
 ·exact po.elim
theorem m_get:MtG C k X "dict" isDct "dict.get" vGet:=fun c=>⟨m_get1 c,isDct_ty c⟩
end
end L2
set_option Elab.async false
set_option linter.all false
set_option maxRecDepth 100000
namespace L2
open PySem PySem.Spec PyProof.Rows
def kP:Key->PV
 | .inl i=>.int i
 | .inr x=>.str x
def keysP:List PV->Option (List Key)
 | []=>some []
 | x :: xs=>match keyP x,keysP xs with
  | some a,some r=>some (a :: r)
  | _,_=>none
def rowsP:List PV->Option (List (List Key))
 | []=>some []
 | .tup xs :: r=>match keysP xs,rowsP r with
  | some a,some b=>some (a :: b)
  | _,_=>none
 | _ :: _=>none
def unif (kss:List (List Key)):Bool:=match kss with
 | []=>true
 | a :: r=>(!a.isEmpty) && r.all fun x=>shape x == shape a
section
variable {C:MC} {k:Nat} {X:Cx}
end
end L2
set_option Elab.async false
set_option linter.all false
set_option maxRecDepth 100000
namespace L2
open PySem
section
variable {h:PH}
@[simp] theorem hasD_tup {x:PV} {xs:List PV}:hasD x (.tup xs) h=none:=(rfl)
@[simp] theorem hasD_fl {x:PV} {xs:List PV}:hasD x (.fl xs) h=none:=(rfl)
@[simp] theorem hasD_strD {x:PV} {z:Str}:hasD x (.str z) h=none:=(rfl)
@[simp] theorem hasD_int {i:Int} {y:PV}:hasD (.int i) y h=none:=by cases y <;> rfl
@[simp] theorem hasD_str {i:Str} {y:PV}:hasD (.str i) y h=none:=by cases y <;> rfl
@[simp] theorem vAt_str {z:Str} {y:PV}:vAt (.str z) y h=vIx (.str z) y h:=by unfold vAt; simp
@[simp] theorem vAt_int {x:PV} {i:Int}:vAt x (.int i) h=vIx x (.int i) h:=by unfold vAt; simp
@[simp] theorem vAt_key {x:PV} {i:Str}:vAt x (.str i) h=vIx x (.str i) h:=by unfold vAt; simp
theorem isDct_dK {n:Nat} {kvs:List (Key×PV)} (e:h[n]?=some (.dK kvs)):isDct (.ref n) h=true:=by unfold isDct; simp [e]
theorem vGet_dK {n:Nat} {kvs:List (Key×PV)} {x:Str} {z:PV} (e:h[n]?=some (.dK kvs)):vGet (.ref n) [.str x,z] h=.ok ((dLook kvs (.inr x)).getD z) h:=by
 simp [vGet,dG,dGet,e,keyP]
theorem vPut_dK {n:Nat} {kvs:List (Key×PV)} {x:Str} {z:PV} (e:h[n]?=some (.dK kvs)) (c:kvs.length < 16777216):vPut (.ref n) (.str x) z h=some (h.set n (.dK (putP kvs (.inr x) z))):=by
 simp [vPut,e,keyP,c]
end
end L2
set_option Elab.async false
set_option linter.all false
set_option maxRecDepth 100000
namespace L2
open PySem PySem.Spec PyProof.Rows
section
variable {C:MC} {k:Nat} {X:Cx}
theorem len_putP {κ:Type} [DecidableEq κ] (kvs:List (κ×PV)) (a:κ) (p:PV):(putP kvs a p).length<=kvs.length+1:=by
 unfold putP
 split
 ·rw [List.length_map]; omega
 ·simp
end
end L2
set_option Elab.async false
set_option linter.all false
set_option maxRecDepth 100000
namespace L2
open PySem PySem.Spec PyProof.Rows
section
variable {C:MC} {k:Nat} {X:Cx}
def dctVals (h:PH) (d:Nat):Option (List PV):=match h[d]? with
 | some (.dK kvs)=>some (kvs.map (·.2))
 | some (.dD kvs)=>some (kvs.map (·.2))
 | _=>none
theorem pairs_vals {prog:Program} {w:World} {K:Type} [DecidableEq K] {knd:KeyKind prog w K} {es:List DictEntry} {kvs:List (K×Value)} (h:Pairs knd es kvs):es.map (·.val)=kvs.map (·.2):=by
 apply List.ext_getElem?
 intro i
 rw [List.getElem?_map,List.getElem?_map]
 have hl:=h.length
 by_cases hi:i < es.length
 ·have e1:es[i]?=some es[i]:=by simp [hi]
  have hi':i < kvs.length:=by omega
  have e2:kvs[i]?=some (kvs[i].1,kvs[i].2):=by simp [hi']
  rw [e1,e2]
  exact congrArg some (h.get? e1 e2).2
 ·rw [List.getElem?_eq_none (by omega),List.getElem?_eq_none (by omega)]
  rfl
def viewVals (h:PH) (n:Nat):Option (List PV):=match h[n]? with
 | some (.vw 1 d)=>dctVals h d
 | _=>none
end
end L2
set_option Elab.async false
set_option linter.all false
set_option maxRecDepth 100000
namespace L2
open PySem PySem.Spec PyProof.Rows
section
variable {C:MC} {k:Nat} {X:Cx}
end
section
variable {h:PH}
theorem tblD_dK {n:Nat} (e:h[n]?=some (.dK [])):tblD h n=some []:=by simp [tblD,e]
theorem tblD_dD {n:Nat} {kvs:List (PV×PV)} (e:h[n]?=some (.dD kvs)):tblD h n=some kvs:=by simp [tblD,e]
end
end L2
set_option Elab.async false
set_option linter.all false
set_option maxRecDepth 100000
namespace L2
open PySem PySem.Spec PyProof.Rows PySem.SeqAt PySem.W
def encS (l:List Nat):List Int:=l.map (fun (c:Nat)=>(c:Int)+2)++[1]
mutual
def enc:PV->List Int
 | .int i=>[i]
 | .str x=>encS x.cps.toList
 | .tup xs=>encs xs
 | _=>[]
def encs:List PV->List Int
 | []=>[0]
 | x :: xs=>1 :: (enc x++encs xs)
end
theorem encS_cons (a:Nat) (l:List Nat):encS (a :: l)=((a:Int)+2) :: encS l:=rfl
theorem encS_lt:∀ (a b:List Nat) (s t:List Int),a≠b->((encS a++s < encS b++t) ↔ a < b)
 | [],[],_,_,h=>(h rfl).elim
 | [],b :: bs,s,t,_=>by
  rw [encS_cons]
  show (1 :: s < ((b:Int)+2) :: (encS bs++t)) ↔ _
  rw [List.cons_lt_cons_iff]
  constructor
  ·intro _; exact List.nil_lt_cons _ _
  ·intro _; left; omega
 | a :: as,[],s,t,_=>by
  rw [encS_cons]
  show (((a:Int)+2) :: (encS as++s) < 1 :: t) ↔ _
  rw [List.cons_lt_cons_iff]
  constructor
  ·rintro (h | ⟨h,_⟩) <;> omega
  ·intro h; exact (List.not_lt_nil _ h).elim
 | a :: as,b :: bs,s,t,h=>by
  rw [encS_cons,encS_cons]
  show (((a:Int)+2) :: (encS as++s) < ((b:Int)+2) :: (encS bs++t)) ↔ _
  rw [List.cons_lt_cons_iff,List.cons_lt_cons_iff]
  by_cases e:a=b
  ·subst e
   have h':as≠bs:=fun z=>h (by rw [z])
   have ih:=encS_lt as bs s t h'
   constructor
   ·rintro (h1 | ⟨_,h1⟩)
    ·omega
    ·exact .inr ⟨rfl,ih.mp h1⟩
   ·rintro (h1 | ⟨_,h1⟩)
    ·omega
    ·exact .inr ⟨rfl,ih.mpr h1⟩
  ·constructor
   ·rintro (h1 | ⟨h1,_⟩) <;> (left; omega)
   ·rintro (h1 | ⟨h1,_⟩)
    ·left; omega
    ·exact (e h1).elim
theorem enc_lt:∀ (n:Nat) (x y:PV) (c:Bool) (s t:List Int),x≠y->ltP n x y=some c->((enc x++s < enc y++t) ↔ c=true):=by
 intro n
 have one:∀ (a b:Int) (c:Bool) (s t:List Int),PV.int a≠.int b->some (decide (a < b))=some c->(([a]++s < [b]++t) ↔ c=true):=fun a b c s t h e=>by
  cases e
  have h':a≠b:=fun z=>h (by rw [z])
  show (a :: s < b :: t) ↔ _
  rw [List.cons_lt_cons_iff,decide_eq_true_eq]
  constructor
  ·rintro (h1 | ⟨h1,_⟩)
   ·exact h1
   ·exact (h' h1).elim
  ·intro h1; exact .inl h1
 have two:∀ (a b:Str) (c:Bool) (s t:List Int),PV.str a≠.str b->some (decide (a.cps.toList < b.cps.toList))=some c->((encS a.cps.toList++s < encS b.cps.toList++t) ↔ c=true):=fun a b c s t h e=>by
  cases e
  rw [encS_lt _ _ s t (fun z=>h (by rw [str_ext z])),decide_eq_true_eq]
 induction n with
 | zero=>
  intro x y c s t h e
  cases x <;> cases y <;> first | exact one _ _ c s t h e | exact two _ _ c s t h e | (simp [ltP] at e)
 | succ n ih=>
  have lists:∀ (xs ys:List PV) (c:Bool) (s t:List Int),xs≠ys->ltL (ltP n) xs ys=some c->((encs xs++s < encs ys++t) ↔ c=true):=by
   intro xs
   induction xs with
   | nil=>
    intro ys c s t h e
    cases ys with
    | nil=>exact (h rfl).elim
    | cons y ys=>
     cases e
     show (0 :: s < 1 :: ((enc y++encs ys)++t)) ↔ _
     rw [List.cons_lt_cons_iff]
     constructor
     ·intro _; rfl
     ·intro _; left; omega
   | cons x xs ihx=>
    intro ys c s t h e
    cases ys with
    | nil=>
     cases e
     show (1 :: ((enc x++encs xs)++s) < 0 :: t) ↔ _
     rw [List.cons_lt_cons_iff]
     constructor
     ·rintro (h1 | ⟨h1,_⟩) <;> omega
     ·intro h1; cases h1
    | cons y ys=>
     show (1 :: ((enc x++encs xs)++s) < 1 :: ((enc y++encs ys)++t)) ↔ _
     have e':(if x=y then ltL (ltP n) xs ys else ltP n x y)=some c:=e
     rw [List.cons_lt_cons_iff,List.append_assoc,List.append_assoc]
     have key:(enc x++(encs xs++s) < enc y++(encs ys++t)) ↔ c=true:=by
      by_cases xy:x=y
      ·rw [if_pos xy] at e'
       subst xy
       have:=ihx ys c s t (fun z=>h (by rw [z])) e'
       rw [<- this]
       have cut:∀ l:List Int,(l++(encs xs++s) < l++(encs ys++t)) ↔ (encs xs++s < encs ys++t):=fun l=>by
        induction l with
        | nil=>exact Iff.rfl
        | cons a l ih=>
         show (a :: (l++_) < a :: (l++_)) ↔ _
         rw [List.cons_lt_cons_iff,ih]
         constructor
         ·rintro (h1 | ⟨_,h1⟩)
          ·omega
          ·exact h1
         ·intro h1; exact .inr ⟨rfl,h1⟩
       exact cut _
      ·rw [if_neg xy] at e'
       exact ih x y c _ _ xy e'
     rw [key]
     constructor
     ·rintro (h1 | ⟨_,h1⟩)
      ·omega
      ·exact h1
     ·intro h1; exact .inr ⟨rfl,h1⟩
  intro x y c s t h e
  cases x <;> cases y <;> first | exact one _ _ c s t h e | exact two _ _ c s t h e | (simp [ltP] at e; done) | exact lists _ _ c s t (fun z=>h (by rw [z])) e
def ltN (x y:PV):Bool:=decide (enc x < enc y)
theorem ltL_self {f:PV->PV->Option Bool}:∀ xs:List PV,ltL f xs xs=some false
 | []=>rfl
 | x :: xs=>by
  show (if x=x then ltL f xs xs else f x x)=some false
  rw [if_pos rfl]
  exact ltL_self xs
theorem ltP_self {n:Nat} {x:PV} {c:Bool} (h:ltP n x x=some c):c=false:=by
 have st:∀ {z:Str} {c:Bool},some (decide (z.cps.toList < z.cps.toList))=some c->c=false:=fun {z c} e=>by
  cases e
  exact decide_eq_false (List.lt_irrefl _)
 have it:∀ {z:Int} {c:Bool},some (decide (z < z))=some c->c=false:=fun {z c} e=>by
  cases e
  exact decide_eq_false (Int.lt_irrefl _)
 cases n with
 | zero=>
  cases x with
  | int i=>exact it h
  | str i=>exact st h
  | _=>simp [ltP] at h
 | succ n=>
  cases x with
  | tup xs=>
   have h':ltL (ltP n) xs xs=some c:=h
   rw [ltL_self] at h'
   cases h'
   rfl
  | int i=>exact it h
  | str i=>exact st h
  | _=>simp [ltP] at h
theorem ltN_irr (x:PV):ltN x x=false:=decide_eq_false (List.lt_irrefl _)
theorem ltN_of {n:Nat} {x y:PV} {c:Bool} (h:ltP n x y=some c):ltN x y=c:=by
 by_cases e:x=y
 ·subst e
  rw [ltP_self h]
  exact ltN_irr x
 ·have:=enc_lt n x y c [] [] e h
  rw [List.append_nil,List.append_nil] at this
  unfold ltN
  cases c with
  | true=>exact decide_eq_true (this.mpr rfl)
  | false=>exact decide_eq_false fun z=>by cases this.mp z
theorem enc_inj {n:Nat} {x y:PV} {c:Bool} (h:ltP n x y=some c) (e:enc x=enc y):x=y:=by
 by_cases xy:x=y
 ·exact xy
 ·have h1:=enc_lt n x y c [0] [1] xy h
  have h2:=enc_lt n x y c [1] [0] xy h
  rw [e] at h1 h2
  have cut:∀ (l s t:List Int),(l++s < l++t) ↔ (s < t):=fun l s t=>by
   induction l with
   | nil=>exact Iff.rfl
   | cons a l ih=>
    show (a :: (l++_) < a :: (l++_)) ↔ _
    rw [List.cons_lt_cons_iff,ih]
    constructor
    ·rintro (h1 | ⟨_,h1⟩)
     ·omega
     ·exact h1
    ·intro h1; exact .inr ⟨rfl,h1⟩
  rw [cut] at h1 h2
  have t1:([0]:List Int) < [1]:=by decide
  have t2:¬ ([1]:List Int) < [0]:=by decide
  exact (t2 (h2.mpr (h1.mp t1))).elim
theorem ltN_tr {a b c:PV} (h1:ltN b a=false) (h2:ltN c b=false):ltN c a=false:=
 decide_eq_false (List.not_lt.mpr (List.le_trans (List.not_lt.mp (of_decide_eq_false h1)) (List.not_lt.mp (of_decide_eq_false h2))))
theorem ltN_as {a b:PV} (h:ltN a b=true):ltN b a=false:=decide_eq_false (List.lt_asymm (of_decide_eq_true h))
theorem ltN_eq {a b:PV} (h1:ltN a b=false) (h2:ltN b a=false):enc a=enc b:=
 List.le_antisymm (List.not_lt.mp (of_decide_eq_false h2)) (List.not_lt.mp (of_decide_eq_false h1))
section
variable {α:Type} (key:α->PV)
def insG (x:α):List α->List α
 | []=>[x]
 | y :: ys=>if ltN (key y) (key x) then y :: insG x ys else x :: y :: ys
def sortG:List α->List α
 | []=>[]
 | x :: xs=>insG key x (sortG xs)
theorem insG_perm (x:α):∀ ys,(insG key x ys).Perm (x :: ys)
 | []=>.refl _
 | y :: ys=>by
  unfold insG
  split
  ·exact ((insG_perm x ys).cons y).trans (.swap x y ys)
  ·exact .refl _
theorem sortG_perm:∀ xs,(sortG key xs).Perm xs
 | []=>.refl _
 | x :: xs=>(insG_perm key x _).trans ((sortG_perm xs).cons x)
theorem insG_sorted (x:α):∀ {ys:List α},ys.Pairwise (fun a b=>ltN (key b) (key a)=false)->(insG key x ys).Pairwise (fun a b=>ltN (key b) (key a)=false)
 | [],_=>List.pairwise_singleton _ _
 | y :: ys,h=>by
  unfold insG
  rw [List.pairwise_cons] at h
  split
  ·rename_i hlt
   rw [List.pairwise_cons]
   refine ⟨fun z hz=>?_,insG_sorted x h.2⟩
   rcases List.mem_cons.mp ((insG_perm key x ys).mem_iff.mp hz) with rfl | hz
   ·exact ltN_as hlt
   ·exact h.1 z hz
  ·rename_i hlt
   have hlt':ltN (key y) (key x)=false:=by simpa using hlt
   rw [List.pairwise_cons]
   refine ⟨fun z hz=>?_,List.pairwise_cons.mpr h⟩
   rcases List.mem_cons.mp hz with rfl | hz
   ·exact hlt'
   ·exact ltN_tr hlt' (h.1 z hz)
theorem sortG_sorted:∀ xs:List α,(sortG key xs).Pairwise (fun a b=>ltN (key b) (key a)=false)
 | []=>.nil
 | x :: xs=>insG_sorted key x (sortG_sorted xs)
theorem sortG_one {xs ys:List α} (inj:∀ a∈xs,∀ b∈xs,enc (key a)=enc (key b)->a=b) (hp:ys.Perm xs) (h:ys.Pairwise (fun a b=>ltN (key b) (key a)=false)):ys=sortG key xs:=by
 refine List.Perm.eq_of_pairwise (le:=fun a b=>ltN (key b) (key a)=false) (fun a b ha hb h1 h2=>?_) h (sortG_sorted key xs) (hp.trans (sortG_perm key xs).symm)
 exact inj a (hp.mem_iff.mp ha) b ((sortG_perm key xs).mem_iff.mp hb) (ltN_eq h2 h1)
end
theorem ds_len:∀ {xs:List PV} {ds:List D},PV.ds xs=some ds->xs.length=ds.length
 | [],ds,h=>by cases h; rfl
 | x :: xs,ds,h=>by
  obtain ⟨d,r,_,h2,rfl⟩:=ds_cons_inv h
  simp [ds_len h2]
theorem ds_at:∀ {xs:List PV} {ds:List D} {j:Nat} {d:D},PV.ds xs=some ds->ds[j]?=some d->∃ x,xs[j]?=some x/\x.d=some d
 | [],ds,j,d,h,e=>by cases h; simp at e
 | x :: xs,ds,j,d,h,e=>by
  obtain ⟨d',r,h1,h2,rfl⟩:=ds_cons_inv h
  cases j with
  | zero=>
   have:d'=d:=by simpa using e
   exact ⟨x,rfl,by rw [h1,this]⟩
  | succ j=>
   obtain ⟨y,a,b⟩:=ds_at (j:=j) h2 (by simpa using e)
   exact ⟨y,by simpa using a,b⟩
theorem ky_pl2:∀ (n:Nat) (p:PV),p.ky n=true->p.pl n=true:=by
 intro n
 induction n with
 | zero=>intro p h; cases p <;> first | rfl | cases h
 | succ n ih=>
  intro p h
  cases p with
  | tup xs=>
   show xs.all (PV.pl n)=true
   rw [List.all_eq_true]
   exact fun y hy=>ih y (List.all_eq_true.mp (show xs.all (PV.ky n)=true from h) y hy)
  | _=>first | rfl | cases h
theorem lt_key:∀ (n:Nat) {A:Around} {s:Shared} {p q:PV} {v u:Value} {b:Bool},p.ky n=true->q.ky n=true->A.units+n < cLine->HR s.heap p v->HR s.heap q u->ltP n p q=some b->LtAt A s v u b:=by
 intro n
 have one:∀ {A:Around} {s:Shared} {i j:Int} {v u:Value} {b:Bool},HR s.heap (.int i) v->HR s.heap (.int j) u->some (decide (i < j))=some b->LtAt A s v u b:=fun {A s i j v u b} r r' e=>by
  obtain ⟨t,rfl⟩:=r
  obtain ⟨t',rfl⟩:=r'
  cases e
  exact fun prog w E Q q=>(PyProof.Rows.lt_int q:wpAny (model prog w) A (compareOp .Lt _ _) Q E s)
 have two:∀ {A:Around} {s:Shared} {i j:Str} {v u:Value} {b:Bool},HR s.heap (.str i) v->HR s.heap (.str j) u->some (decide (i.cps.toList < j.cps.toList))=some b->LtAt A s v u b:=fun {A s i j v u b} r r' e=>by
  obtain ⟨t,rfl⟩:=r
  obtain ⟨t',rfl⟩:=r'
  cases e
  exact fun prog w E Q q=>(PyProof.Rows.lt_str q:wpAny (model prog w) A (compareOp .Lt _ _) Q E s)
 induction n with
 | zero=>
  intro A s p q v u b hp hq hu r r' e
  cases p with
  | int i=>
   cases q with
   | int j=>exact one r r' e
   | _=>simp [ltP] at e
  | str i=>
   cases q with
   | str j=>exact two r r' e
   | _=>simp [ltP] at e
  | _=>cases hp
 | succ n ih=>
  intro A s p q v u b hp hq hu r r' e
  cases p with
  | int i=>
   cases q with
   | int j=>exact one r r' e
   | _=>simp [ltP] at e
  | str i=>
   cases q with
   | str j=>exact two r r' e
   | _=>simp [ltP] at e
  | tup ps=>
   cases q with
   | tup qs=>
    obtain ⟨a,its,rfl,p1,rs⟩:=r
    obtain ⟨a',its',rfl,p2,rs'⟩:=r'
    have kp:∀ z∈ps,z.ky n=true:=List.all_eq_true.mp hp
    have kq:∀ z∈qs,z.ky n=true:=List.all_eq_true.mp hq
    obtain ⟨d,hd,_⟩:=pl_one (n+1) _ (ky_pl2 _ _ hp)
    obtain ⟨d',hd',_⟩:=pl_one (n+1) _ (ky_pl2 _ _ hq)
    have hlt:=ltP_d (n+1) _ _ d d' (ky_pl2 _ _ hp) (ky_pl2 _ _ hq) hd hd'
    rw [e] at hlt
    obtain ⟨ds,g1,rfl⟩:=d_tup_inv hd
    obtain ⟨es,g2,rfl⟩:=d_tup_inv hd'
    have hb':ltDs ds es=some b:=by simpa [ltD] using hlt
    obtain ⟨⟨cls,dd,data,sl⟩,ho,hc,m,hdt⟩:=id p1
    obtain ⟨⟨cls2,dd2,data2,sl2⟩,ho2,hc2,m2,hd2⟩:=id p2
    simp only at hc hdt hc2 hd2
    subst hc hdt hc2 hd2
    intro prog w E Q hq'
    refine richCompare_meets_room (op:=.Lt) ⟨_,ho,rfl⟩ ⟨_,ho2,rfl⟩ PySem.F.slot_tuple_lt PySem.F.entry_tuple_lt (PySem.F.args_tuple_lt_2 _ _) (tuple_lt_gen a a' its.toArray its'.toArray m m2 dd dd2 sl sl2 ds es b hb')
     ⟨ho,ho2,⟨?_,?_,?_⟩,show Value.bool b≠Value.notImplemented/\Q (.bool b) s from ⟨(fun x=>nomatch x),hq'⟩⟩ (by omega)
    ·have l1:=rs.length
     have l2:=ds_len g1
     show its.length=ds.length
     omega
    ·have l1:=rs'.length
     have l2:=ds_len g2
     show its'.length=es.length
     omega
    ·intro j v u d e h1 h2 h3 h4
     obtain ⟨x,hx,ex⟩:=ds_at g1 h3
     obtain ⟨y,hy,ey⟩:=ds_at g2 h4
     obtain ⟨v',hv,rv⟩:=rs.at hx
     obtain ⟨u',hu',ru⟩:=rs'.at hy
     have e1:v=v':=by
      have:its[j]?=some v:=h1
      rw [hv] at this
      exact (Option.some.inj this).symm
     have e2:u=u':=by
      have:its'[j]?=some u:=h2
      rw [hu'] at this
      exact (Option.some.inj this).symm
     subst e1 e2
     have kx:=kp x (List.mem_of_getElem? hx)
     have ky:=kq y (List.mem_of_getElem? hy)
     have hun:A.in1.units+n < cLine:=by show A.units+1+n < cLine; omega
     refine ⟨?_,fun _ b hb=>?_⟩
     ·rw [pl_eq n x y d e (ky_pl2 _ _ kx) (ky_pl2 _ _ ky) ex ey]
      exact eq_key kx ky hun rv ru
     ·rw [ltP_d n x y d e (ky_pl2 _ _ kx) (ky_pl2 _ _ ky) ex ey] at hb
      exact ih kx ky hun rv ru hb
   | _=>simp [ltP] at e
  | _=>cases hp
section
variable {prog:Program} {w:World} {A:Around} {E:Value->Shared->Prop} {s:Shared}
def noTup:List PV->Prop
 | .tup _ :: _=>False
 | _=>True
theorem katLex_hr {b fin:Bool} {n:Nat} {Q:Bool->Shared->Prop} (hu:A.units+n < cLine):∀ (ps qs:List PV) (us ws:List Value) (i:Nat) (c:Bool),(∀ p∈ps,p.ky n=true)->(∀ q∈qs,q.ky n=true)->HRs s.heap ps us->HRs s.heap qs ws->ltL (ltP n) ps qs=some c->((b && i == 0)=true->noTup ps)->fin=decide (ps.length < qs.length)->Q c s->KatLex prog w A b fin Q (us.zip ws) i s
 | [],[],[],[],i,c,_,_,_,_,hc,_,hf,h=>by
  cases hc
  rw [hf]
  exact h
 | [],q :: qs,[],u :: ws,i,c,_,_,_,_,hc,_,hf,h=>by
  cases hc
  rw [hf]
  exact h
 | p :: ps,[],u :: us,[],i,c,_,_,_,_,hc,_,hf,h=>by
  cases hc
  rw [hf]
  exact h
 | p :: ps,q :: qs,u :: us,v :: ws,i,c,kp,kq,rs,rs',hc,hn,hf,h=>by
  rw [List.zip_cons_cons]
  have hc':(if p=q then ltL (ltP n) ps qs else ltP n p q)=some c:=hc
  have k1:=kp p List.mem_cons_self
  have k2:=kq q List.mem_cons_self
  refine kat_cons (eq_key k1 k2 hu rs.1 rs'.1 prog w _ _ ?_)
  by_cases pq:p=q
  ·rw [if_pos pq] at hc'
   rw [decide_eq_true pq]
   refine kat_yes (katLex_hr hu ps qs us ws (i+1) c (fun z hz=>kp z (List.mem_cons_of_mem _ hz)) (fun z hz=>kq z (List.mem_cons_of_mem _ hz)) rs.2 rs'.2 hc' (fun z=>?_) ?_ h)
   ·cases b <;> simp at z
   ·rw [hf]
    simp
  ·rw [if_neg pq] at hc'
   rw [decide_eq_false pq]
   refine kat_no ?_
   have gen:wpAny (model prog w) A (oneLt' false u v) Q (fun _ _=>False) s:=kat_one _ _ (lt_key n k1 k2 hu rs.1 rs'.1 hc' prog w _ (PySem.W.BoolBack Q) h)
   cases hb:(b && i == 0) with
   | false=>exact gen
   | true=>
    have hn':=hn hb
    cases p with
    | tup _=>exact hn'.elim
    | int a=>
     cases q with
     | int d=>
      obtain ⟨t,rfl⟩:=rs.1
      obtain ⟨t',rfl⟩:=rs'.1
      have e:decide (a < d)=c:=by
       cases n <;> exact Option.some.inj hc'
      rw [<- e] at h
      exact oneLt_int h
     | _=>cases n <;> simp [ltP] at hc'
    | str a=>
     cases q with
     | str d=>
      obtain ⟨t,rfl⟩:=rs.1
      obtain ⟨t',rfl⟩:=rs'.1
      have e:decide (a.cps.toList < d.cps.toList)=c:=by
       cases n <;> exact Option.some.inj hc'
      rw [<- e] at h
      exact oneLt_str h
     | _=>cases n <;> simp [ltP] at hc'
    | _=>exact rs.1.elim
 | [],_,_ :: _,_,_,_,_,_,r,_,_,_,_,_=>r.elim
 | _ :: _,_,[],_,_,_,_,_,r,_,_,_,_,_=>r.elim
 | _,[],_,_ :: _,_,_,_,_,_,r,_,_,_,_=>r.elim
 | _,_ :: _,_,[],_,_,_,_,_,r,_,_,_,_=>r.elim
theorem keyLt_hr {b:Bool} {n:Nat} {p q:PV} {v u:Value} {c:Bool} {Q:Bool->Shared->Prop} (hu:A.units+n < cLine) (kp:p.ky (n+1)=true) (kq:q.ky (n+1)=true) (tp:∃ ps,p=.tup ps/\(b=true->noTup ps)) (tq:∃ qs,q=.tup qs) (r:HR s.heap p v) (r':HR s.heap q u) (hc:ltP (n+1) p q=some c) (h:Q c s):
  wpAny (model prog w) A (keyLt' (tuples' b) v u) Q E s:=by
 obtain ⟨ps,rfl,hn⟩:=tp
 obtain ⟨qs,rfl⟩:=tq
 obtain ⟨a,its,rfl,⟨ox,hox,_,m,dx⟩,rs⟩:=r
 obtain ⟨a',its',rfl,⟨oy,hoy,_,m',dy⟩,rs'⟩:=r'
 refine kat_lt hox dx hoy dy ?_
 have l1:=rs.length
 have l2:=rs'.length
 have e1:decide (its.toArray.size < its'.toArray.size)=decide (ps.length < qs.length):=by simp [l1,l2]
 rw [e1]
 exact katLex_hr hu ps qs its its' 0 c (List.all_eq_true.mp kp) (List.all_eq_true.mp kq) rs rs' hc (fun z=>hn (by cases b <;> simp at z; rfl)) rfl h
def fk:PV->Nat
 | .tup (.int _ :: _)=>0
 | .tup (.str _ :: _)=>1
 | .tup (.tup _ :: _)=>2
 | _=>3
def fkT (m:Nat):Value:=.type (if m=0 then "int" else if m=1 then "str" else "tuple")
theorem katTups_hr {m:Nat} (hm:m < 3):∀ {ps:List PV} {vs:List Value},HRs s.heap ps vs->(∀ p∈ps,fk p=m)->∃ fs:List Value,fs.length=vs.length/\KatTups s.heap vs fs/\∀ f∈fs,Looks (model prog w) s.heap (typeOf f) (fkT m)
 | [],[],_,_=>⟨[],rfl,KatTups.nil,fun _ hf=>nomatch hf⟩
 | p :: ps,v :: vs,r,hs=>by
  obtain ⟨fs,hl,ht,hT⟩:=katTups_hr hm r.2 fun x hx=>hs x (List.mem_cons_of_mem _ hx)
  have h0:=hs p List.mem_cons_self
  have r1:=r.1
  cases p with
  | tup xs=>
   obtain ⟨a,its,rfl,⟨o,ho,hc,n,hd⟩,rx⟩:=r1
   cases xs with
   | nil=>simp [fk] at h0; omega
   | cons x xs=>
    cases its with
    | nil=>exact rx.elim
    | cons f its=>
     refine ⟨f :: fs,by simp [hl],KatTups.cons ho hc hd (by simp) ht,fun g hg=>?_⟩
     rcases List.mem_cons.mp hg with rfl | hg
     ·have rf:=rx.1
      cases x with
      | int i=>
       obtain ⟨t,rfl⟩:=rf
       have:m=0:=h0.symm
       subst this
       exact Looks.now
      | str i=>
       obtain ⟨t,rfl⟩:=rf
       have:m=1:=h0.symm
       subst this
       exact Looks.now
      | tup i=>
       obtain ⟨a',its',rfl,⟨o',ho',hc',n',hd'⟩,_⟩:=rf
       have:m=2:=h0.symm
       subst this
       have:Looks (model prog w) s.heap (typeOf (.ref a')) o'.cls:=(Looks.ld ho').andThen .now
       rw [hc'] at this
       exact this
      | _=>exact rf.elim
     ·exact hT g hg
  | _=>simp [fk] at h0; omega
 | [],_ :: _,r,_=>r.elim
 | _ :: _,[],r,_=>r.elim
theorem kind_hr {m:Nat} (hm:m < 3) {ps:List PV} {vs:List Value} {Q:SortKind->Shared->Prop} (r:HRs s.heap ps vs) (hs:∀ p∈ps,fk p=m) (h0:0 < vs.length) (h:Q (tuples' (decide (m≠2))) s):wpAny (model prog w) A (keyKind' vs.toArray) Q E s:=by
 obtain ⟨fs,hl,ht,hT⟩:=katTups_hr (prog:=prog) (w:=w) hm r hs
 refine kat_kind (T:=fkT m) ht (by omega) hT ?_ ?_
 ·match m,hm with
  | 0,_=>rfl
  | 1,_=>rfl
  | 2,_=>rfl
 ·have:((fkT m) != Value.type "tuple")=decide (m≠2):=by
   match m,hm with
   | 0,_=>rfl
   | 1,_=>rfl
   | 2,_=>rfl
  rw [this]
  exact h
end
structure OkN (m:Nat) (xs:List PV):Prop where
 m3:m < 3
 ky:∀ x∈xs,x.ky 20=true
 fk:∀ x∈xs,fk x=m
 lt:∀ x∈xs,∀ y∈xs,(ltP 20 x y).isSome=true
def okN (xs:List PV):Bool:=match xs with
 | []=>true
 | x :: _=>decide (fk x < 3) && xs.all (PV.ky 20) && xs.all (fun y=>fk y == fk x) && xs.all fun y=>xs.all fun z=>(ltP 20 y z).isSome
theorem okN_of {xs:List PV} (h:okN xs=true):∃ m,OkN m xs:=by
 cases xs with
 | nil=>exact ⟨0,by omega,(fun x hx=>nomatch hx),(fun x hx=>nomatch hx),fun x hx=>nomatch hx⟩
 | cons x xs=>
  have h':(decide (fk x < 3) && (x :: xs).all (PV.ky 20) && (x :: xs).all (fun y=>fk y == fk x) && (x :: xs).all fun y=>(x :: xs).all fun z=>(ltP 20 y z).isSome)=true:=h
  rw [Bool.and_eq_true,Bool.and_eq_true,Bool.and_eq_true] at h'
  obtain ⟨⟨⟨h1,h2⟩,h3⟩,h4⟩:=h'
  exact ⟨fk x,of_decide_eq_true h1,List.all_eq_true.mp h2,fun y hy=>by simpa using List.all_eq_true.mp h3 y hy,fun y hy z hz=>List.all_eq_true.mp (List.all_eq_true.mp h4 y hy) z hz⟩
theorem okN_mk {m:Nat} {xs:List PV} (h:OkN m xs):okN xs=true:=by
 cases xs with
 | nil=>rfl
 | cons x xs=>
  show (decide (fk x < 3) && (x :: xs).all (PV.ky 20) && (x :: xs).all (fun y=>fk y == fk x) && (x :: xs).all fun y=>(x :: xs).all fun z=>(ltP 20 y z).isSome)=true
  have hx:=h.fk x List.mem_cons_self
  rw [Bool.and_eq_true,Bool.and_eq_true,Bool.and_eq_true]
  exact ⟨⟨⟨decide_eq_true (by rw [hx]; exact h.m3),List.all_eq_true.mpr h.ky⟩,List.all_eq_true.mpr fun y hy=>by rw [h.fk y hy,hx]; simp⟩,List.all_eq_true.mpr fun y hy=>List.all_eq_true.mpr fun z hz=>h.lt y hy z hz⟩
theorem OkN.inj {m:Nat} {xs:List PV} (h:OkN m xs):∀ a∈xs,∀ b∈xs,enc a=enc b->a=b:=fun a ha b hb e=>by
 obtain ⟨c,hc⟩:=Option.isSome_iff_exists.mp (h.lt a ha b hb)
 exact enc_inj hc e
theorem fk_tup {m:Nat} (hm:m < 3) {p:PV} (h:fk p=m):∃ ps,p=.tup ps/\(decide (m≠2)=true->noTup ps):=by
 cases p with
 | tup xs=>
  refine ⟨xs,rfl,fun hd=>?_⟩
  have hd':m≠2:=of_decide_eq_true hd
  cases xs with
  | nil=>trivial
  | cons x xs=>
   cases x <;> first | trivial | (exact (hd' h.symm).elim)
 | _=>simp [fk] at h; omega
theorem HRs.kept {h h':Heap} (k:∀ b o,h.get? b=some o->h'.get? b=some o) {ps:List PV} {vs:List Value} (r:HRs h ps vs):HRs h' ps vs:=
 HRs.keep (fun a x ⟨o,ho,q⟩=>⟨o,k a o ho,q⟩) r
theorem HRs.getD {h:Heap} {ps:List PV} {vs:List Value} (r:HRs h ps vs) {i:Nat} (hi:i < ps.length):HR h (ps.getD i .non) (vs.getD i Value.none):=by
 have g:ps[i]?=some (ps.getD i .non):=by simp [hi]
 obtain ⟨v,hv,hr⟩:=r.at g
 have e:vs.getD i Value.none=v:=by simp [List.getD_eq_getElem?_getD,hv]
 rw [e]
 exact hr
section
variable {C:MC} {k:Nat} {X:Cx}
theorem RVs.pick' {φ:List Addr} {H:Hp} {xs:List PV} {vs:List V} (r:RVs C φ H xs vs):∀ {p:List Nat},(∀ i∈p,i < xs.length)->RVs C φ H (p.map fun i=>xs.getD i .non) (p.map fun i=>vs.getD i .non)
 | [],_=>trivial
 | i :: p,h=>by
  have hi:=h i List.mem_cons_self
  have g:xs[i]?=some (xs.getD i .non):=by simp [hi]
  obtain ⟨v,hv,hr⟩:=r.at g
  have e:vs.getD i .non=v:=by simp [List.getD_eq_getElem?_getD,hv]
  refine ⟨?_,RVs.pick' r fun j hj=>h j (List.mem_cons_of_mem _ hj)⟩
  show RV C φ H (xs.getD i .non) (vs.getD i .non)
  rw [e]
  exact hr
def rSortN (C:MC):List V->Hp->VK->Prop:=fun xs H Q=>∃ φ p ys vs m,xs=[.ref p]/\SqL C.K H p vs/\RVs C φ H ys vs/\OkN m ys/\ys.length < 64/\∀ l vs',H l=none->RVs C φ H (sortG id ys) vs'->Q (.ref l) (upd H l (.lst vs'))
theorem call_sortedN (c:Cxt C k X):CallR X (.builtin "sorted") (rSortN C):=by
 intro pins s σ H xs us Q I r h
 obtain ⟨φ,p,ys,vs,m,rfl,sa,ra,ok,h64,fin⟩:=h
 obtain ⟨u,rfl,ru⟩:=vals1 r
 cases ru
 have hu:X.A.in1.in1.units+19 < cLine:=by
  have:=c.hu64
  show X.A.units+1+1+19 < cLine
  omega
 have memD:∀ i,i < ys.length->ys.getD i .non∈ys:=fun i hi=>by
  have:ys.getD i .non=ys[i]:=by simp [hi]
  rw [this]
  exact List.getElem_mem hi
 refine sorted_go (κ:=tuples' (decide (m≠2))) (fun its s1=>Inv X pins σ H s1/\Vals vs its) ?col ?fin
 case fin=>
  rintro its s1 ⟨I1,rv⟩
  have l1:=rv.length
  have l2:=ra.length
  have hlen:its.length=ys.length:=by omega
  have hr:HRs s1.heap ys its:=rvs_hrs I1 c.K 20 ok.ky ra rv
  refine ⟨by omega,fun i j=>ltN (ys.getD i .non) (ys.getD j .non),fun i j k _ _ _ h1 h2=>ltN_tr h1 h2,fun i j _ _ h=>ltN_as h,fun A' s' kp h0 Q' E' hq=>?_,fun s' kp i j hi hj Q' hq=>?_,fun q h' e a1 a2 kp he=>?_⟩
  ·exact kind_hr ok.m3 (hr.kept kp) ok.fk h0 hq
  ·have mi:=memD i (by omega)
   have mj:=memD j (by omega)
   obtain ⟨b,hb⟩:=Option.isSome_iff_exists.mp (ok.lt _ mi _ mj)
   have hq:Q' (ltN (ys.getD i .non) (ys.getD j .non)) s':=hq
   rw [ltN_of hb] at hq
   obtain ⟨qs,eq,_⟩:=fk_tup ok.m3 (ok.fk _ mj)
   exact keyLt_hr (n:=19) hu (ok.ky _ mi) (ok.ky _ mj) (fk_tup ok.m3 (ok.fk _ mi)) ⟨qs,eq⟩ ((hr.kept kp).getD (by omega)) ((hr.kept kp).getD (by omega)) hb hq
  ·have hin:∀ i∈q,i < ys.length:=fun i hi=>by
    have:=a1.mem_iff.mp hi
    rw [List.mem_range] at this
    omega
   rw [hlen] at a1
   refine ⟨.ref s1.heap.objs.size,_,I1.laid (t':=s1.toks) (o:=.lst (q.map fun i=>vs.getD i .non)) kp (Nat.le_refl _) ?_,rfl,fin _ _ I1.fresh ?_⟩
   ·refine ⟨?_,q.map (fun i=>its.getD i Value.none),e,vals_getD rv (fun i hi=>by have:=hin i hi; omega),he⟩
    rw [List.length_map,a1.length_eq,List.length_range,sizeLine_eq]
    omega
   ·have e1:q.map (fun i=>ys.getD i .non)=sortG id ys:=by
     refine sortG_one id (fun a ha b hb e=>ok.inj a ha b hb e) (getD_perm a1) ?_
     rw [List.pairwise_map]
     exact a2
    rw [<- e1]
    exact ra.pick' hin
 case col=>
  have sa':SqL X.K H p vs:=by rw [c.K]; exact sa
  obtain ⟨its,rv,pl,hz⟩:=I.list sa'
  refine collect_list pl.isList ?_ (by have:=rv.length; have:=ra.length; rw [sizeLine_eq]; omega)
  exact ⟨I.kept (t':=s.toks) fun b o e=>by
   have hlt:b < s.heap.objs.size:=Heap.lt_size e
   first
    | (rw [Heap.get?_update_ne _ _ _ _ (Nat.ne_of_lt hlt),Heap.get?_push_ne _ _ _ (Nat.ne_of_lt hlt)]; exact e)
    | exact Heap.get?_push_of_some _ e,rv⟩
def vSortedM:List PV->PH->Rs PV:=fun xs h=>match xs with
 | [.ref n]=>match lstAt h n with
  | some ys=>if ys.length < 64/\okN ys=true then .ok (.ref h.length) (h++[.lst (sortG id ys)]) else .bad
  | none=>.bad
 | _=>.bad
theorem b_sortedM:CallS C k X (.builtin "sorted") vSortedM:=fun c=>CallR.imp (call_sortedN c) fun vs H Q h=>by
 obtain ⟨φ,h,ps,rh,rv,po⟩:=h
 unfold vSortedM at po
 split at po
 ·rename_i n
  split at po
  ·rename_i ys e
   obtain ⟨hc,po⟩:=po.ite
   obtain ⟨v,rfl,rx⟩:=rv.one
   obtain ⟨a,rfl,ha⟩:=rx
   obtain ⟨a2,vs,ha2,sa,ra⟩:=lstAt_sq rh e
   rw [ha] at ha2; cases ha2
   obtain ⟨m,ok⟩:=okN_of hc.2
   exact ⟨φ,a,ys,vs,m,rfl,sa,ra,ok,hc.1,fun l vs' hl hr=>po.lnew rh hr hl⟩
  ·exact po.elim
 ·exact po.elim
theorem vSortedM_at {h:PH} {n m:Nat} {ys:List PV} (e:h[n]?=some (.lst ys)) (hl:ys.length < 64) (ok:OkN m ys):vSortedM [.ref n] h=.ok (.ref h.length) (h++[.lst (sortG id ys)]):=by
 have e1:lstAt h n=some ys:=by simp [lstAt,e]
 simp only [vSortedM,e1]
 rw [if_pos ⟨hl,okN_mk ok⟩]
end
end L2
set_option Elab.async false
set_option linter.all false
set_option maxRecDepth 100000
namespace L2
open PySem PySem.Spec PyProof.Rows
abbrev KP:=List Key×PV
def insKP (x:KP):List KP->List KP
 | []=>[x]
 | y :: ys=>if lexK y.1 x.1=true then y :: insKP x ys else x :: y :: ys
def sortKP:List KP->List KP
 | []=>[]
 | x :: xs=>insKP x (sortKP xs)
open Classical in
noncomputable def sortBy (b:Bool) (ks ys:List PV):Option (List PV):=match rowsP ks with
 | some kss=>if kss.length < 64/\kss.length=ys.length/\unif kss=true/\kss.Nodup then some ((PySem.W.katRev b (sortKP (kss.zip ys))).map (·.2)) else none
 | none=>none
noncomputable def keyLoop (f:Fn) (b:Bool) (ys:List PV):List PV->List PV->PH->Rs PV
 | [],ks,h=>match sortBy b ks ys with
  | some zs=>.ok (.ref h.length) (h++[.lst zs])
  | none=>.bad
 | x :: xs,ks,h=>(f [x] h).bind fun k h1=>keyLoop f b ys xs (ks++[k]) h1
def itemsK (x:PV) (h:PH):Option (List PV):=match x with
 | .ref n=>match lstAt h n with
  | some ys=>some ys
  | none=>viewVals h n
 | .fl ys=>some ys
 | _=>none
noncomputable def vSortK (f:Fn) (b:Bool) (x:PV) (h:PH):Rs PV:=match itemsK x h with
 | some ys=>if ys.length < 64 then keyLoop f b ys ys [] h else .bad
 | none=>.bad
noncomputable def mSortK (f:Fn) (b:Bool) (me:Me):Me:=fun δ h=>(me δ h).bind fun x h1=>vSortK f b x h1
section
variable {C:MC} {k:Nat} {X:Cx}
section
variable {x:Str} {st:Stmt} {q:Addr} {fd:FuncData} {pn:List Str} {j:Nat} {f:Fn}
end
section
variable {kf:Str} {st:Stmt} {q:Addr} {fd:FuncData} {pn:List Str} {j jb:Nat} {f:Fn} {e:Expr} {me:Me} {p pos kp kpos rp rpos:Pos}
end
end
end L2
set_option Elab.async false
set_option linter.all false
set_option maxRecDepth 100000
namespace L2
open PySem
section
variable {α:Type} (key:α->List Key)
variable {key}
end
section
variable {δ:Ev} {h:PH} {m:Me}
@[simp] theorem mSortK_eq {f:Fn} {b:Bool}:mSortK f b m δ h=(m δ h).bind fun x h1=>vSortK f b x h1:=(rfl)
theorem tblD_lst {n:Nat} {kvs:List (PV×PV)} (e:tblD h n=some kvs):∃ o,h[n]?=some o/\isDct (.ref n) h=true/\∀ h',h'[n]?=some o->tblD h' n=some kvs:=by
 unfold tblD at e
 split at e
 ·rename_i q; cases e; exact ⟨_,q,by simp [isDct,q],fun h' e=>by simp [tblD,e]⟩
 ·rename_i q; cases e; exact ⟨_,q,by simp [isDct,q],fun h' e=>by simp [tblD,e]⟩
 ·cases e
theorem tblD_ext {h':PH} {n:Nat} {kvs:List (PV×PV)} (x:Ext h h') (e:tblD h n=some kvs):tblD h' n=some kvs:=by
 obtain ⟨o,g,_,k⟩:=tblD_lst e
 exact k h' (x _ _ g)
theorem vPut_t {n:Nat} {kvs:List (PV×PV)} {xs:List PV} {z:PV} (e:tblD h n=some kvs) (hk:(PV.tup xs).ky 6=true) (hl:kvs.length < 16777216):vPut (.ref n) (.tup xs) z h=some (h.set n (.dD (putP kvs (.tup xs) z))):=by
 have k1:(PV.tup xs).isKt=true:=hk
 have hl':kvs.length < sizeLine:=by rw [sizeLine_num]; exact hl
 unfold vPut
 simp only [keyP,k1,if_true,e]
 rw [if_pos hl']
theorem vHasNot_t {n:Nat} {kvs:List (PV×PV)} {xs:List PV} (e:tblD h n=some kvs) (hk:(PV.tup xs).ky 6=true):vHasNot (.tup xs) (.ref n) h=.ok (.bl (!(dLook kvs (.tup xs)).isSome)) h:=by
 have k1:(PV.tup xs).isKt=true:=hk
 have:hasD (.tup xs) (.ref n) h=some (dLook kvs (.tup xs)):=by simp only [hasD,k1,if_true,e,Option.map_some]
 unfold vHasNot
 rw [this]
theorem vHas_t {n:Nat} {kvs:List (PV×PV)} {xs:List PV} (e:tblD h n=some kvs) (hk:(PV.tup xs).ky 6=true):vHas (.tup xs) (.ref n) h=.ok (.bl (dLook kvs (.tup xs)).isSome) h:=by
 have k1:(PV.tup xs).isKt=true:=hk
 have:hasD (.tup xs) (.ref n) h=some (dLook kvs (.tup xs)):=by simp only [hasD,k1,if_true,e,Option.map_some]
 unfold vHas
 rw [this]
@[simp] theorem isNonP_tup {xs:List PV}:isNonP (.tup xs)=false:=(rfl)
@[simp] theorem isNonP_non:isNonP .non=true:=(rfl)
end
section
variable {δ:Ev} {h h1:PH} {js:List (Option Nat)} {tg:Mg} {elt:Me} {g:PH->Bool}
theorem Ext.setN {h hX:PH} {o:MO} {n:Nat} (x:Ext h hX) (hn:h.length<=n):Ext h (hX.set n o):=fun m o' e=>by
 have:=(List.getElem?_eq_some_iff.mp e).1
 rw [List.getElem?_set_ne (by omega)]
 exact x m o' e
theorem vIx_dK {n:Nat} {kvs:List (Key×PV)} {x:Str} (e:h[n]?=some (.dK kvs)):vIx (.ref n) (.str x) h=ofO (dLook kvs (.inr x)) h:=by
 have e1:lstAt h n=none:=by simp [lstAt,e]
 simp [vIx,e1,dGet,e,keyP]
end
end L2
set_option Elab.async false
set_option linter.all false
set_option maxRecDepth 100000
namespace L2
open PySem PySem.Spec PyProof.Rows
def fput (f:Str) (p:PV):List (Str×PV)->List (Str×PV)
 | []=>[(f,p)]
 | (g,x) :: r=>if g=f then (g,p) :: r else (g,x) :: fput f p r
def isIns (x:PV) (h:PH):Option (Nat×Str×List (Str×PV)):=match x with
 | .ref n=>match h[n]? with
  | some (.ins c fs)=>some (n,c,fs)
  | _=>none
 | _=>none
def vFld (f:Str):PV->PH->Rs PV:=fun x h=>match isIns x h with
 | some (_,_,fs)=>match fs.lookup f with
  | some p=>.ok p h
  | none=>.bad
 | none=>.bad
def vSetF (f:Str) (x y:PV) (h:PH):Option PH:=match isIns x h with
 | some (n,c,fs)=>if fs.length < 1000 then some (h.set n (.ins c (fput f y fs))) else none
 | none=>none
section
variable {C:MC} {k:Nat} {X:Cx}
theorem fput_rel {φ:List Addr} {H:Hp} {fs:List (Str×PV)} {ks:List (Str×V)} (r:RKv C φ H fs ks) (f:Str) {p:PV} {v:V} (rv:RV C φ H p v):RKv C φ H (fput f p fs) (putF f v ks):=by
 unfold RKv at r ⊢
 induction r with
 | nil=>exact .cons ⟨rfl,rv⟩ .nil
 | @cons a b as bs h t ih=>
  obtain ⟨a1,a2⟩:=a
  obtain ⟨b1,b2⟩:=b
  have e:a1=b1:=h.1
  subst e
  unfold fput putF
  by_cases z:a1=f
  ·rw [if_pos z,if_pos z]; exact .cons ⟨rfl,rv⟩ t
  ·rw [if_neg z,if_neg z]; exact .cons h ih
theorem lookup_rel {φ:List Addr} {H:Hp} {fs:List (Str×PV)} {ks:List (Str×V)} (r:RKv C φ H fs ks) (f:Str):(fs.lookup f=none/\ks.lookup f=none)\/∃ p v,fs.lookup f=some p/\ks.lookup f=some v/\RV C φ H p v:=by
 unfold RKv at r
 induction r with
 | nil=>exact .inl ⟨rfl,rfl⟩
 | @cons a b as bs h t ih=>
  obtain ⟨a1,a2⟩:=a
  obtain ⟨b1,b2⟩:=b
  have e:a1=b1:=h.1
  subst e
  simp only [List.lookup_cons]
  cases z:(f == a1) with
  | true=>exact .inr ⟨a2,b2,rfl,rfl,h.2⟩
  | false=>exact ih
theorem isIns_of {φ:List Addr} {H:Hp} {h:PH} {x:PV} {v:V} {n:Nat} {c:Str} {fs:List (Str×PV)} (rh:RH C φ H h) (rv:RV C φ H x v) (e:isIns x h=some (n,c,fs)):
  ∃ a ca dx ks,x=.ref n/\v=.ref a/\φ[n]?=some a/\h[n]?=some (.ins c fs)/\C.cl c=some ca/\H a=some (.ins ca dx ks)/\RKv C φ H fs ks:=by
 unfold isIns at e
 cases x with
 | ref m=>
  obtain ⟨a,rfl,ha⟩:=rv
  dsimp only at e
  split at e
  ·rename_i c' fs' q
   cases e
   obtain ⟨ca,dx,ks,h1,h2,h3⟩:=rh.at' _ a _ ha q
   exact ⟨a,ca,dx,ks,rfl,rfl,ha,q,h1,h2,h3⟩
  ·cases e
 | _=>cases e
def FdOk (C:MC) (f:Str):Prop:=∀ c a,C.cl c=some a->Cls C.K a/\NoAttr C.K a f
section
variable {e o value:Expr} {f:Str} {m mo mv:Me} {pos pos' tpos:Pos}
theorem s_fld (hF:FdOk C f) (he:SE C k X e m) (hb:attributeBase e f X.env (eval e X.env)=eval e X.env:=by rfl):SE C k X (.Attribute e f pos) (mUn (vFld f) m):=fun c=>
 (pe_fld (he c) hb).imp fun σ H Q h=>by
  obtain ⟨φ,δ,h,rh,re,p⟩:=h
  refine ⟨φ,δ,h,rh,re,(post.bind p).imp ?_⟩
  rintro v H1 ⟨φ1,x,h1,p1,t1,rh1,rv1,q1⟩
  unfold vFld at q1
  cases ei:isIns x h1 with
  | none=>rw [ei] at q1; exact q1.elim
  | some z=>
   obtain ⟨n,cn,fs⟩:=z
   rw [ei] at q1
   dsimp only at q1
   obtain ⟨a,ca,dx,ks,rfl,rfl,ha,hh,hc,hH,rk⟩:=isIns_of rh1 rv1 ei
   obtain ⟨cl,na⟩:=hF cn ca hc
   rcases lookup_rel rk f with ⟨l1,_⟩ | ⟨y,u,l1,l2,ru⟩
   ·rw [l1] at q1; exact q1.elim
   ·rw [l1] at q1
    exact ⟨a,ca,dx,ks,u,rfl,hH,by rw [c.K]; exact cl,by rw [c.K]; exact na,l2,q1.val rh1 ru⟩
def mSetF (f:Str) (mo mv:Me):Ms:=fun δ h=>(mv δ h).fl fun y h1=>(mo δ h1).fl fun x h2=>match vSetF f x y h2 with
 | some h3=>.nx δ h3
 | none=>.bad
theorem setF_of {φ:List Addr} {H:Hp} {h h3:PH} {x y:PV} {v u:V} {D:Ends} {δ:Ev} {σ:St} (c:Cxt C k X) (hF:FdOk C f) (rh:RH C φ H h) (re:RE C φ H δ σ) (rx:RV C φ H x v) (ry:RV C φ H y u) (es:vSetF f x y h=some h3) (q:postS C φ H (.nx δ h3) D):
  ∃ a ca dx ks,v=.ref a/\H a=some (.ins ca dx ks)/\Cls X.K ca/\NoAttr X.K ca f/\ks.length < 1000/\D.nx σ (upd H a (.ins ca dx (putF f u ks)))/\∃ n cn fs,isIns x h=some (n,cn,fs)/\C.cl cn=some ca:=by
 unfold vSetF at es
 cases ei:isIns x h with
 | none=>rw [ei] at es; cases es
 | some z=>
  obtain ⟨n,cn,fs⟩:=z
  rw [ei] at es
  dsimp only at es
  split at es
  ·rename_i hl
   cases es
   obtain ⟨a,ca,dx,ks,rfl,rfl,ha,hh,hc,hH,rk⟩:=isIns_of rh rx ei
   obtain ⟨cl,na⟩:=hF cn ca hc
   have kp:Kp H (upd H a (.ins ca dx (putF f u ks))):=Kp.upd (by rw [hH]; trivial)
   refine ⟨a,ca,dx,ks,rfl,hH,by rw [c.K]; exact cl,by rw [c.K]; exact na,by rw [<- Paired.length rk]; exact hl,?_⟩
   refine ⟨q φ σ _ List.prefix_rfl kp (rh.write ha (by rw [hH]; trivial) ⟨ca,dx,_,hc,upd_same,?_⟩) (re.mono List.prefix_rfl kp),n,cn,fs,rfl,hc⟩
   exact (fput_rel rk f ry).mono List.prefix_rfl kp
  ·cases es
theorem z_fld (hF:FdOk C f) (hv:SE C k X value mv) (ho:SE C k X o mo) (hs:swapsWith value (some (.Attribute o f pos')) pos.line X.env=pure false:=by rfl):SSt C k X (.Assign [.Attribute o f pos'] value pos) (mSetF f mo mv):=fun c=>
 (ps_fld (ho c) (hv c) hs).imp fun D σ H h=>by
  obtain ⟨φ,δ,h,rh,re,p⟩:=h
  refine ⟨φ,δ,h,rh,re,(post.fl p).imp ?_⟩
  rintro u H1 ⟨φ1,y,h1,p1,t1,rh1,rv1,q1⟩
  refine ⟨φ1,δ,h1,rh1,re.mono p1 t1,(post.fl q1).imp ?_⟩
  rintro v H2 ⟨φ2,x,h2,p2,t2,rh2,rv2,q2⟩
  cases es:vSetF f x y h2 with
  | none=>rw [es] at q2; exact q2.elim
  | some h3=>
   rw [es] at q2
   obtain ⟨a,ca,dx,ks,g1,g2,g3,g4,g5,g6,_⟩:=setF_of c hF rh2 ((re.mono p1 t1).mono p2 t2) rv2 (rv1.mono p2 t2) es q2
   exact ⟨a,ca,dx,ks,g1,g2,g3,g4,g5,g6⟩
end
def MtOk (C:MC) (X:Cx) (k:Nat) (m:Str) (n:Nat) (tb:Str->Option Fn):Prop:=∀ c a f,C.cl c=some a->tb c=some f->
 ∃ g fd ps j,Cls C.K a/\Meth C.K a m g/\j<=k/\FnOk X.prog X.w C.K X.mg X.base CX0 j g fd ps (spM C (n+1) f)/\Binds C.K fd ps []
theorem mt_nil {m:Str} {n:Nat}:MtOk C X k m n (fun _=>none):=fun _ _ _ _ h=>nomatch h
theorem mt_cons {m c:Str} {n j:Nat} {a g:Addr} {fd:FuncData} {ps:List Str} {f:Fn} {tb:Str->Option Fn} (hc:C.cl c=some a) (hC:Cls C.K a) (me:Meth C.K a m g) (hj:j<=k) (G:FnOk X.prog X.w C.K X.mg X.base CX0 j g fd ps (spM C (n+1) f)) (B:Binds C.K fd ps []) (r:MtOk C X k m n tb):
  MtOk C X k m n (fun z=>if z=c then some f else tb z):=fun c' a' f' h1 h2=>by
 have h2':(if c'=c then some f else tb c')=some f':=h2
 by_cases e:c'=c
 ·subst e
  rw [hc] at h1
  cases h1
  rw [if_pos rfl] at h2'
  cases h2'
  exact ⟨g,fd,ps,j,hC,me,hj,G,B⟩
 ·rw [if_neg e] at h2'
  exact r c' a' f' h1 h2'
def mMeth (m:Str) (n:Nat) (tb:Str->Option Fn) (mo:Me) (ms:Ma):Me:=fun δ h=>(mo δ h).bind fun x h1=>match isIns x h1 with
 | some (_,c,fs)=>match tb c,fs.lookup m with
  | some f,none=>(ms δ h1).bind fun ps h2=>if ps.length=n then f (x :: ps) h2 else .bad
  | _,_=>.bad
 | none=>.bad
section
variable {o e:Expr} {es:List Expr} {m:Str} {n:Nat} {tb:Str->Option Fn} {mo:Me} {ms:Ma} {pos apos:Pos} {pl:Sem Bool}
theorem s_meth (hM:MtOk C X k m n tb) (ho:SE C k X o mo) (ha:SA C k X (e :: es) ms) (hst:starEach (e :: es) X.env=(false,eval e X.env) :: starEach es X.env:=by rfl) (hpl:(backTo pos (starEach es X.env)).any (·.1)=false:=by rfl)
  (ht:eval (.Call (.Attribute o m apos) (e :: es) [] pos) X.env=(do
   let ov <- eval o X.env
   standAt apos.atName
   let (f,first) <- holding [ov] (getMethod ov m pl)
   callWith pos f first (backTo pos (starEach (e :: es) X.env)) (backToKw pos (keywordEach [] X.env))):=by rfl):
  SE C k X (.Call (.Attribute o m apos) (e :: es) [] pos) (mMeth m n tb mo ms):=fun c pins s σ H Q I h=>by
 obtain ⟨φ,δ,h,rh,re,p⟩:=h
 refine PySem.W.methodCall_KW (pl:=pl) (thn (ho c pins s σ H _ I ⟨φ,δ,h,rh,re,post.bind p⟩) fun u s1 hh=>?_) ht
 obtain ⟨v,H1,I1,ru,φ1,x,h1,p1,t1,rh1,rv1,q1⟩:=hh
 cases ei:isIns x h1 with
 | none=>rw [ei] at q1; exact q1.elim
 | some z=>
  obtain ⟨n',cn,fs⟩:=z
  rw [ei] at q1
  dsimp only at q1
  obtain ⟨a,ca,dx,ks,rfl,rfl,hφ,hh,hc,hH,rk⟩:=isIns_of rh1 rv1 ei
  cases et:tb cn with
  | none=>rw [et] at q1; exact q1.elim
  | some f=>
   rw [et] at q1
   rcases lookup_rel rk m with ⟨l1,l2⟩ | ⟨y,u',l1,_⟩
   ·rw [l1] at q1
    dsimp only at q1
    obtain ⟨g,fd,ps,j,cl,me,hj,F,bd⟩:=hM cn ca f hc et
    have cl':Cls X.K ca:=by rw [c.K]; exact cl
    have me':Meth X.K ca m g:=by rw [c.K]; exact me
    have F':FnOk X.prog X.w X.K X.mg X.base CX0 j g fd ps (spM C (n+1) f):=by rw [c.K]; exact F
    have bd':Binds X.K fd ps []:=by rw [c.K]; exact bd
    cases ru
    refine getmeth_ok I1 hH cl' me' l2 ?_
    refine PySem.W.callWith_K (first:=[.ref a]) (h₀:=X.base) I.ok.mod.kin me'.kp (thn (ha c pos pins s1 σ H1 _ I1 ⟨φ1,δ,h1,rh1,re.mono p1 t1,postA.bind q1⟩) fun us s2 h2=>?_) hst hpl
    obtain ⟨vs,H2,I2,r2,φ2,zs,h3,p2,t2,rh2,rv2,q2⟩:=h2
    obtain ⟨hl,q2⟩:=q2.ite
    refine ⟨I2.kIn,?_⟩
    exact run_fn (us:=.ref a :: us) (vs:=.ref a :: vs) F' (c.room.mono hj) bd' .nil pass0 I2 (.cons rfl r2) ⟨φ2,h3,.ref n' :: zs,rh2,⟨⟨a,rfl,pre_get p2 hφ⟩,(by show RVs C φ2 H2 zs (vs++[]); rw [List.append_nil]; exact rv2)⟩,by simp [hl],q2⟩
   ·rw [l1] at q1; exact q1.elim
end
def mMake (cn:Str) (n:Nat) (f:Fn) (ms:Ma):Me:=fun δ h=>(ms δ h).bind fun ps h1=>if ps.length=n then (f (.ref h1.length :: ps) (h1++[.ins cn []])).bind fun v h2=>(match v with
 | .non=>.ok (.ref h1.length) h2
 | _=>.bad) else .bad
section
variable {x cn:Str} {ca f:Addr} {fd:FuncData} {ps:List Str} {j n:Nat} {fn:Fn} {e:Expr} {es:List Expr} {ms:Ma} {p pos:Pos}
theorem make_sp {φ:List Addr} {H:Hp} {h:PH} {zs:List PV} {vs:List V} {Q:VK} (hc:C.cl cn=some ca) (rh:RH C φ H h) (rv:RVs C φ H zs vs)
  (q:post C φ H (if zs.length=n then (fn (.ref h.length :: zs) (h++[.ins cn []])).bind fun v h2=>(match v with | .non=>Rs.ok (.ref h.length) h2 | _=>.bad) else .bad) Q):
  ∀ y dx,H y=none->H dx=none->dx≠y->spM C (n+1) fn (.ref y :: (vs++[])) (upd (upd H dx (.own y)) y (.ins ca dx [])) (fun v H2=>v=.non/\Q (.ref y) H2) E0:=fun y dx hy hd ne=>by
 obtain ⟨hl,q⟩:=q.ite
 have hy':(upd H dx (.own y)) y=none:=by rw [upd_ne (Ne.symm ne)]; exact hy
 have k1:Kp H (upd H dx (.own y)):=Kp.new hd
 have k2:Kp (upd H dx (.own y)) (upd (upd H dx (.own y)) y (.ins ca dx [])):=Kp.new hy'
 have rh2:RH C (φ++[y]) (upd (upd H dx (.own y)) y (.ins ca dx [])) (h++[.ins cn []]):=(rh.aside hd).new hy' ⟨ca,dx,[],hc,upd_same,.nil⟩
 have rvy:RV C (φ++[y]) (upd (upd H dx (.own y)) y (.ins ca dx [])) (.ref h.length) (.ref y):=⟨y,rfl,by rw [<- rh.len]; simp⟩
 refine ⟨φ++[y],h++[.ins cn []],.ref h.length :: zs,rh2,⟨rvy,by rw [List.append_nil]; exact rv.mono (List.prefix_append _ _) (k1.trans k2)⟩,by simp [hl],?_⟩
 refine (post.bind (post.weak (List.prefix_append _ [y]) (k1.trans k2) q)).imp ?_
 rintro v H2 ⟨φ2,pv,h2,p2,t2,rh3,rv3,q3⟩
 cases pv with
 | non=>cases rv3; exact ⟨rfl,q3.val rh3 (rvy.mono p2 t2)⟩
 | _=>exact q3.elim
theorem s_make0 (hc:C.cl cn=some ca) (M:Mk C.K ca f) (F:FnOk X.prog X.w C.K X.mg X.base CX0 j f fd ps (spM C (0+1) fn)) (hm:X.mg x=some (.ref ca)) (bd:Binds C.K fd ps []) (hj:j+1<=k:=by decide) (hg:Gl X x:=by rfl)
  (hdb:(x == ("__debug__" : Str))=false:=by decide):SE C k X (.Call (.Name x p) [] [] pos) (mMake cn 0 fn mNil):=fun c=>by
 have M':Mk X.K ca f:=by rw [c.K]; exact M
 have F':FnOk X.prog X.w X.K X.mg X.base CX0 j f fd ps (spM C (0+1) fn):=by rw [c.K]; exact F
 have bd':Binds X.K fd ps []:=by rw [c.K]; exact bd
 refine (pe_make0 M' F' (c.room.mono hj) hg hm bd' .nil pass0 hdb).imp fun σ H Q h=>?_
 obtain ⟨φ,δ,h,rh,re,po⟩:=h
 exact make_sp (zs:=[]) hc rh trivial po
end
end
def vPutL (x y v:PV) (h:PH):Option PH:=match x,y with
 | .ref n,.int i=>match isLst h n with
  | some xs=>match ixN xs.length i with
   | some j=>some (h.set n (.lst (xs.set j v)))
   | none=>none
  | none=>vPut x y v h
 | _,_=>vPut x y v h
def mPutL (mv mo mi:Me):Ms:=fun δ h=>(mv δ h).fl fun v h1=>(mo δ h1).fl fun x h2=>(mi δ h2).fl fun y h3=>match vPutL x y v h3 with
 | some h4=>.nx δ h4
 | none=>.bad
def vInt1:List PV->PH->Rs PV:=fun xs h=>match xs with
 | [.bl b]=>.ok (.int (if b then 1 else 0)) h
 | [.int i]=>.ok (.int i) h
 | _=>.bad
section
variable {C:MC} {k:Nat} {X:Cx}
theorem setL_sound {φ:List Addr} {H:Hp} {h h':PH} {px py pv:PV} {x y v:V} (c:Cxt C k X) (rh:RH C φ H h) (rx:RV C φ H px x) (ry:RV C φ H py y) (rv:RV C φ H pv v) (e:vPutL px py pv h=some h') {pins:List (Addr×Obj)} {σ:St} {s:Shared} {xu yu vu:Value}
  {Q:Unit->Shared->Prop} (I:Inv X pins σ H s) (rxu:RelV x xu) (ryu:RelV y yu) (rvu:RelV v vu) (q:∀ s' H',Inv X pins σ H' s'->Kp H H'->RH C φ H' h'->Q () s'):wpAny (model X.prog X.w) X.A (setItem xu yu vu) Q X.xe s:=by
 unfold vPutL at e
 split at e
 ·rename_i n i
  split at e
  ·rename_i xs el
   split at e
   ·rename_i j ej
    cases e
    obtain ⟨a,rfl,ha⟩:=rx
    cases ry
    obtain ⟨ws,hH,rw'⟩:=rh.at' n a _ ha (isLst_eq el)
    refine thn (set_list pins s σ H (.ref a) (.int i) v xu yu vu (fun H'=>H'=upd H a (.lst (ws.set j v))) I rxu ryu rvu ⟨a,ws,i,j,rfl,rfl,hH,by rw [<- rw'.length]; exact ej,rfl⟩) ?_
    rintro _ s' ⟨H',I',rfl⟩
    refine q s' _ I' (Kp.lst hH) (rh.write ha (by rw [hH]; trivial) ⟨_,upd_same,(RVs.set rv j rw').mono List.prefix_rfl (Kp.lst hH)⟩)
   ·cases e
  ·exact set_sound c rh rx ry rv e I rxu ryu rvu q
 ·exact set_sound c rh rx ry rv e I rxu ryu rvu q
theorem z_putL {o i value:Expr} {pos pos':Pos} {mv mo mi:Me} (hv:SE C k X value mv) (ho:SE C k X o mo) (hi:SE C k X i mi) (hs:swapsWith value (some (.Subscript o i pos')) pos.line X.env=pure false:=by rfl):
  SSt C k X (.Assign [.Subscript o i pos'] value pos) (mPutL mv mo mi):=fun c pins s σ H D I ⟨φ,δ,h,rh,re,p⟩=>by
 refine wpAny_Assign_Subscript (thn (hv c pins s σ H _ I ⟨φ,δ,h,rh,re,post.fl p⟩) ?_) hs
 rintro vu s1 ⟨v,H1,I1,rvu,φ1,pv,h1,p1,t1,rh1,rv1,q1⟩
 refine thn (ho c pins s1 σ H1 _ I1 ⟨φ1,δ,h1,rh1,re.mono p1 t1,post.fl q1⟩) ?_
 rintro xu s2 ⟨x,H2,I2,rxu,φ2,px,h2,p2,t2,rh2,rv2,q2⟩
 refine thn (hi c pins s2 σ H2 _ I2 ⟨φ2,δ,h2,rh2,(re.mono p1 t1).mono p2 t2,post.fl q2⟩) ?_
 rintro yu s3 ⟨y,H3,I3,ryu,φ3,py,h3,p3,t3,rh3,rv3,q3⟩
 cases e:vPutL px py pv h3 with
 | none=>rw [e] at q3; exact q3.elim
 | some h4=>
  rw [e] at q3
  exact setL_sound c rh3 (rv2.mono p3 t3) rv3 ((rv1.mono p2 t2).mono p3 t3) e I3 rxu ryu rvu fun s' H' I' kp rh'=>⟨σ,H',I',q3 φ3 σ H' List.prefix_rfl kp rh' ((((re.mono p1 t1).mono p2 t2).mono p3 t3).mono List.prefix_rfl kp)⟩
end
section
variable {δ:Ev} {h:PH} {m mo mv:Me} {E:FE}
theorem isIns_at {n:Nat} {c:Str} {fs:List (Str×PV)} (e:h[n]?=some (.ins c fs)):isIns (.ref n) h=some (n,c,fs):=by simp [isIns,e]
theorem vFld_at {n:Nat} {c f:Str} {fs:List (Str×PV)} {p:PV} (e:h[n]?=some (.ins c fs)) (l:fs.lookup f=some p):vFld f (.ref n) h=.ok p h:=by simp [vFld,isIns_at e,l]
theorem vSetF_at {n:Nat} {c f:Str} {fs:List (Str×PV)} {p:PV} (e:h[n]?=some (.ins c fs)) (l:fs.length < 1000):vSetF f (.ref n) p h=some (h.set n (.ins c (fput f p fs))):=by simp [vSetF,isIns_at e,l]
@[simp] theorem W_setF {f:Str}:(mSetF f mo mv δ h).W E=(mv δ h).W fun y h1=>(mo δ h1).W fun x h2=>∃ h3,vSetF f x y h2=some h3/\E.nx δ h3:=by
 unfold mSetF
 rw [W_fl]
 congr 1
 funext y h1
 rw [W_fl]
 congr 1
 funext x h2
 cases e:vSetF f x y h2 <;> simp
@[simp] theorem mMake_eq {cn:Str} {n:Nat} {f:Fn} {ms:Ma}:mMake cn n f ms δ h=(ms δ h).bind fun ps h1=>if ps.length=n then (f (.ref h1.length :: ps) (h1++[.ins cn []])).bind fun v h2=>(match v with | .non=>.ok (.ref h1.length) h2 | _=>.bad) else .bad:=(rfl)
theorem mMeth_at {mm:Str} {n k:Nat} {tb:Str->Option Fn} {ms:Ma} {h1:PH} {c:Str} {fs:List (Str×PV)} {f:Fn} (e:mo δ h=.ok (.ref k) h1) (g:h1[k]?=some (.ins c fs)) (t:tb c=some f) (l:fs.lookup mm=none):
  mMeth mm n tb mo ms δ h=(ms δ h1).bind fun ps h2=>if ps.length=n then f (.ref k :: ps) h2 else .bad:=by
 unfold mMeth
 rw [e,Rs.bind_ok,isIns_at g]
 simp only [t,l]
@[simp] theorem W_putL {mi:Me}:(mPutL mv mo mi δ h).W E=(mv δ h).W fun v h1=>(mo δ h1).W fun x h2=>(mi δ h2).W fun y h3=>∃ h4,vPutL x y v h3=some h4/\E.nx δ h4:=by
 unfold mPutL
 rw [W_fl]
 congr 1
 funext v h1
 rw [W_fl]
 congr 1
 funext x h2
 rw [W_fl]
 congr 1
 funext y h3
 cases e:vPutL x y v h3 <;> simp
@[simp] theorem vInt1_bl {b:Bool}:vInt1 [.bl b] h=.ok (.int (if b then 1 else 0)) h:=(rfl)
end
end L2
set_option Elab.async false
set_option linter.all false
set_option maxRecDepth 100000
namespace L2
open PySem PySem.Spec PyProof.Rows
section
variable {C:MC} {k:Nat} {X:Cx} {e:Expr} {me:Me} {p pos p2 pos2:Pos}
end
section
variable {h:PH}
end
end L2
namespace L2
open PySem PySem.Spec PyProof.Rows
section
variable {C:MC} {k:Nat} {X:Cx} {e st:Expr} {me:Me} {pos p2:Pos}
end
end L2
set_option Elab.async false
set_option linter.all false
set_option maxRecDepth 100000
namespace L2
open PySem PySem.Spec PyProof.Rows
def maxI:List Int->Int
 | []=>0
 | [x]=>x
 | x :: y :: r=>max x (maxI (y :: r))
def minI:List Int->Int
 | []=>0
 | [x]=>x
 | x :: y :: r=>min x (minI (y :: r))
def vMaxL:List PV->PH->Rs PV:=fun xs h=>match xs with
 | [.ref n]=>match lstAt h n with
  | some ys=>match intsP ys with
   | some (a :: ns)=>.ok (.int (maxI (a :: ns))) h
   | _=>.bad
  | none=>.bad
 | _=>vMax xs h
def vMinL:List PV->PH->Rs PV:=fun xs h=>match xs with
 | [.ref n]=>match lstAt h n with
  | some ys=>match intsP ys with
   | some (a :: ns)=>.ok (.int (minI (a :: ns))) h
   | _=>.bad
  | none=>.bad
 | _=>vMin xs h
section
variable {prog:Program} {w:World} {A:Around} {E:Value->Shared->Prop} {s:Shared} {d:Addr} {oc:Obj} {es:Array DictEntry} {ep:Nat}
end
section
variable {C:MC} {k:Nat} {X:Cx}
end
section
variable {h:PH}
@[simp] theorem vMaxL_two {i j:Int}:vMaxL [.int i,.int j] h=.ok (.int (if j > i then j else i)) h:=(rfl)
@[simp] theorem vMinL_two {i j:Int}:vMinL [.int i,.int j] h=.ok (.int (if j < i then j else i)) h:=(rfl)
end
end L2
set_option Elab.async false
set_option linter.all false
set_option maxRecDepth 100000
namespace L2
open PySem PySem.Spec PyProof.Rows
section
variable {prog:Program} {w:World} {K:Type} [DecidableEq K] {knd:HeapKind prog w K} {A:Around} {R:Result->Shared->Prop}
end
section
variable {C:MC} {k:Nat} {X:Cx} {φ:List Addr} {H:Hp} {pins:List (Addr×Obj)} {σ:St} {s:Shared}
end
end L2
set_option Elab.async false
set_option linter.all false
set_option maxRecDepth 100000
namespace L2
open PySem PySem.Spec PyProof.Rows PySem.SeqAt
open PySem.AutoSeq1 (wpAny_loadPart')
open PySem.MeetsSeq PySem.MeetsSeq2 PySem.MeetsSeq3
def GeAt (A:Around) (s:Shared) (v u:Value) (b:Bool):Prop:=∀ (prog:Program) (w:World) (E:Value->Shared->Prop) (Q:Value->Shared->Prop),Q (.bool (!b)) s->wpAny (model prog w) A (richCompare .GtE v u) Q E s
def ItGe (A:Around) (s:Shared) (v u:Value) (d e:D):Prop:=EqAt A s v u (eqD d e)/\(eqD d e=false->∀ b,ltD d e=some b->GeAt A s v u b)
abbrev ItsGe (A:Around) (s:Shared):List Value->List Value->List D->List D->Prop:=fun vs us ds es=>vs.length=ds.length/\us.length=es.length/\∀ (j:Nat) v u d e,vs[j]?=some v->us[j]?=some u->ds[j]?=some d->es[j]?=some e->ItGe A s v u d e
theorem ItsGe.tail {A:Around} {s:Shared} {v u:Value} {vs us:List Value} {d e:D} {ds es:List D} (h:ItsGe A s (v :: vs) (u :: us) (d :: ds) (e :: es)):ItGe A s v u d e/\ItsGe A s vs us ds es:=
 ⟨h.2.2 0 v u d e rfl rfl rfl rfl,by have:=h.1; simpa using this,by have:=h.2.1; simpa using this,fun j v u d e h1 h2 h3 h4=>h.2.2 (j+1) v u d e (by simpa using h1) (by simpa using h2) (by simpa using h3) (by simpa using h4)⟩
theorem tuple_ge_gen (l b:Addr) (items items2:Array Value) (n n2:Nat) (dd dd2:Option Addr) (sl sl2:Array (Option Value)) (ds es:List D) (c:Bool) (hc:ltDs ds es=some c):
  Meets (Builtin.«tuple.__ge__» ⟨[.ref l,.ref b],[]⟩)
   (fun A R s=>s.heap.get? l=some { cls:=.type "tuple",dict:=dd,data:=.seq items n,slots:=sl }/\s.heap.get? b=some { cls:=.type "tuple",dict:=dd2,data:=.seq items2 n2,slots:=sl2 }/\
    ItsGe A.in1 s items.toList items2.toList ds es/\R (.ok (.ret (.bool (!c)))) s):=
 .of_wp fun prog w A R s h=>by
  obtain ⟨hp,g,d,tk,os⟩:=s; obtain ⟨hl,hb,hit,h⟩:=h
  have f2:=AutoSeq1.sub_tuple_tuple
  have z1:items.size=ds.length:=by rw [<- hit.1]; simp
  have z2:items2.size=es.length:=by rw [<- hit.2.1]; simp
  wp_walk using wpAny_loadPart' hl,wpAny_loadPart' hb,wpAny_forIn_list _ (fun rest b s'=>b.1=none/\s'=⟨hp,g,d,tk,os⟩/\∃ (vs ws:List Value) (ns' ms':List D),rest=vs.zip ws/\
   ItsGe A.in1 ⟨hp,g,d,tk,os⟩ vs ws ns' ms'/\ns'.length+items2.size=ms'.length+items.size/\ltDs ns' ms'=some c) _
  case turn=>
   rintro ⟨y,x⟩ rest b s' ⟨hb',rfl,vs,ws,ns',ms',hz,hvi,hlen,hR⟩
   cases vs with
   | nil=>rw [List.zip_nil_left] at hz; cases hz
   | cons v vs=>
    cases ws with
    | nil=>rw [List.zip_nil_right] at hz; cases hz
    | cons u ws=>
     rw [List.zip_cons_cons] at hz
     injection hz with hyx hrest
     injection hyx with hy hx
     subst hy hx
     cases ns' with
     | nil=>have:=hvi.1; simp at this
     | cons a ns'=>
      cases ms' with
      | nil=>have:=hvi.2.1; simp at this
      | cons e ms'=>
       obtain ⟨⟨h1,h2⟩,ht⟩:=ItsGe.tail hvi
       simp only [List.length_cons] at hlen
       simp only [ltDs] at hR
       refine wpAny_bind (h1 prog w _ _ ?_)
       cases q:eqD a e with
       | true=>
        rw [q,if_pos rfl] at hR
        wp_walk
        exact ⟨rfl,rfl,_,_,_,_,hrest,ht,by omega,hR⟩
       | false=>
        rw [q,if_neg Bool.false_ne_true] at hR
        have hri:=h2 q c hR prog w
        wp_walk using hri
        exact ⟨_,rfl,by simpa using h⟩
  case fin=>
   rintro ⟨b1,b2⟩ s' ⟨hb',rfl,vs,ws,ns',ms',hz,hvi,hlen,hR⟩
   simp only at hb'
   subst hb'
   have hv:c=decide (items.size < items2.size):=by
    cases ns' with
    | nil=>
     cases ms' with
     | nil=>
      simp only [List.length_nil] at hlen
      simp only [ltDs] at hR
      cases hR
      exact (decide_eq_false (by omega)).symm
     | cons e ms'=>
      simp only [List.length_nil,List.length_cons] at hlen
      simp only [ltDs] at hR
      cases hR
      exact (decide_eq_true (by omega)).symm
    | cons a ns'=>
     cases ms' with
     | nil=>
      simp only [List.length_nil,List.length_cons] at hlen
      simp only [ltDs] at hR
      cases hR
      exact (decide_eq_false (by omega)).symm
     | cons e ms'=>
      exfalso
      cases vs with
      | nil=>have:=hvi.1; simp at this
      | cons v vs=>
       cases ws with
       | nil=>have:=hvi.2.1; simp at this
       | cons u ws=>rw [List.zip_cons_cons] at hz; cases hz
   have e9:(!decide (items.size < items2.size))=decide (items2.size<=items.size):=by rw [Bool.eq_iff_iff]; simp
   rw [hv,e9] at h
   wp_walk
   exact ⟨_,rfl,by simpa [Builtin.Tuple.tupleCompareSizes] using h⟩
  case h=>
   exact ⟨rfl,rfl,items.toList,items2.toList,ds,es,rfl,hit,by omega,hc⟩
section
variable {X:Cx} {pins:List (Addr×Obj)} {σ:St} {H:Hp} {s:Shared}
theorem ge_D (I:Inv X pins σ H s):∀ (n:Nat) (d e:D) (A:Around) (x y:V) (v u:Value) (b:Bool),d.depth<=n->A.units+n < cLine->Rep X.K H d x->Rep X.K H e y->RelV x v->RelV y u->ltD d e=some b->GeAt A s v u b:=by
 intro n
 induction n with
 | zero=>
  intro d e A x y v u b hd hu hx hy rx ry hb
  cases d with
  | tup ds=>exact absurd hd (by show ¬ D.depths ds+1<=0; omega)
  | int i=>
   cases e with
   | int j=>
    cases hx; cases hy
    obtain ⟨t,rfl⟩:=rx
    obtain ⟨t',rfl⟩:=ry
    simp only [ltD] at hb
    cases hb
    exact fun prog w E Q q=>(PyProof.Rows.ge_int (by have e9:(!decide (i < j))=decide (j<=i):=(by rw [Bool.eq_iff_iff]; simp); rw [e9] at q; exact q):wpAny (model prog w) A (compareOp .GtE _ _) Q E s)
   | _=>simp [ltD] at hb
  | str i=>
   cases e with
   | str j=>
    cases hx; cases hy
    obtain ⟨t,rfl⟩:=rx
    obtain ⟨t',rfl⟩:=ry
    simp only [ltD] at hb
    cases hb
    exact fun prog w E Q q=>(PySem.P.ge_str q:wpAny (model prog w) A (compareOp .GtE _ _) Q E s)
   | _=>simp [ltD] at hb
  | _=>cases e <;> simp [ltD] at hb
 | succ n ih=>
  intro d e A x y v u b hd hu hx hy rx ry hb
  by_cases h0:d.depth<=n
  ·exact ih d e A x y v u b h0 (by omega) hx hy rx ry hb
  ·cases d with
   | tup ds=>
    cases e with
    | tup es=>
     have hds:D.depths ds<=n:=by have:D.depths ds+1<=n+1:=hd; omega
     obtain ⟨a,vs,rfl,q,r⟩:=hx
     cases rx
     obtain ⟨its,rv,p,_⟩:=I.tuple q
     obtain ⟨a',vs',rfl,q',r'⟩:=hy
     cases ry
     obtain ⟨its',rv',p',_⟩:=I.tuple q'
     have hb':ltDs ds es=some b:=by simpa [ltD] using hb
     obtain ⟨⟨cls,dd,data,sl⟩,ho,hc,m,hdt⟩:=id p
     obtain ⟨⟨cls2,dd2,data2,sl2⟩,ho2,hc2,m2,hd2⟩:=id p'
     simp only at hc hdt hc2 hd2
     subst hc hdt hc2 hd2
     intro prog w E Q hq
     refine richCompare_meets_room (op:=.GtE) ⟨_,ho,rfl⟩ ⟨_,ho2,rfl⟩ PySem.F.slot_tuple_ge PySem.F.entry_tuple_ge (PySem.F.args_tuple_ge_2 _ _) (tuple_ge_gen a a' its.toArray its'.toArray m m2 dd dd2 sl sl2 ds es b hb')
      ⟨ho,ho2,⟨?_,?_,?_⟩,show Value.bool (!b)≠Value.notImplemented/\Q (.bool (!b)) s from ⟨(fun x=>nomatch x),hq⟩⟩ (by omega)
     ·have l1:=r.length
      have l3:=rv.length
      show its.length=ds.length
      omega
     ·have l1:=r'.length
      have l3:=rv'.length
      show its'.length=es.length
      omega
     ·intro j v u d e h1 h2 h3 h4
      obtain ⟨xv,hxv,hrx⟩:=r.at h3
      obtain ⟨yv,hyv,hry⟩:=r'.at h4
      obtain ⟨xu,hxu,hru⟩:=rv.get hxv
      obtain ⟨yu,hyu,hru'⟩:=rv'.get hyv
      have e1:v=xu:=by
       have:its[j]?=some v:=h1
       rw [hxu] at this
       exact (Option.some.inj this).symm
      have e2:u=yu:=by
       have:its'[j]?=some u:=h2
       rw [hyu] at this
       exact (Option.some.inj this).symm
      subst e1 e2
      have hdj:=D.depths_le h3
      refine ⟨eq_D I (n:=n) (by omega) ?_ hrx hry hru hru',fun _ b hb=>ih d e _ xv yv v u b (by omega) ?_ hrx hry hru hru' hb⟩
      all_goals (show A.units+1+n < cLine; omega)
    | _=>simp [ltD] at hb
   | _=>exact absurd (Nat.zero_le n) h0
end
section
variable {C:MC} {k:Nat} {X:Cx}
def vGeT:PV->PV->PH->Rs PV:=fun x y h=>match x,y with
 | .tup xs,.tup ys=>ofB ((ltV2 (.tup xs) (.tup ys)).map (!·)) h
 | x,y=>vGe x y h
theorem op_geD (hu:X.A.units+64 < cLine) (K:PySem.W.Frag) (hK:X.K=K):OpR X (compareOp .GtE) (fun x y H Q=>∃ d e b,Rep K H d x/\Rep K H e y/\d.depth<=40/\ltD d e=some b/\Q (.bl (!b)) H):=by
 subst hK
 intro pins s σ H x y v u Q I rx ry h
 obtain ⟨d,e,b,hx,hy,hd,hb,q⟩:=h
 exact ge_D I 40 d e X.A x y v u b hd (by omega) hx hy rx ry hb X.prog X.w X.xe _ ⟨.bl _,H,I,rfl,q⟩
theorem o_geT:OpS C k X (compareOp .GtE) vGeT:=fun c=>((op_geD c.hu64 C.K c.K).or (o_ge c)).imp fun x y H Q h=>by
 obtain ⟨φ,h,p,q,rh,rx,ry,po⟩:=h
 unfold vGeT at po
 split at po
 ·obtain ⟨b,e,po⟩:=po.ofB
  obtain ⟨b',e0,rfl⟩:=Option.map_eq_some_iff.mp e
  clear e
  have e:=e0
  clear e0
  unfold ltV2 at e
  split at e
  ·rename_i d e' h1 h2
   split at e
   ·rename_i hd
    exact .inl ⟨d,e',b',rx.rep h1,ry.rep h2,hd,e,po.val rh rfl⟩
   ·cases e
  ·cases e
 ·exact .inr ⟨φ,h,p,q,rh,rx,ry,po⟩
variable {h:PH}
@[simp] theorem vGeT_int {i j:Int}:vGeT (.int i) (.int j) h=.ok (.bl (decide (j<=i))) h:=(rfl)
@[simp] theorem vGeT_str {i j:Str}:vGeT (.str i) (.str j) h=.ok (.bl (!decide (i.cps.toList < j.cps.toList))) h:=(rfl)
theorem vGeT_pl {xs ys:List PV} {b:Bool} (hx:(PV.tup xs).pl 40=true) (hy:(PV.tup ys).pl 40=true) (e:ltL (ltP 39) xs ys=some b):vGeT (.tup xs) (.tup ys) h=.ok (.bl (!b)) h:=by
 obtain ⟨d,h1,h2⟩:=pl_one 40 _ hx
 obtain ⟨d',h3,h4⟩:=pl_one 40 _ hy
 have:=ltP_d 40 _ _ d d' hx hy h1 h3
 have e':ltP 40 (.tup xs) (.tup ys)=some b:=e
 unfold vGeT ltV2
 simp only [h1,h3,h2,if_true,this,e']
 rfl
end
end L2
set_option Elab.async false
set_option linter.all false
set_option maxRecDepth 100000
namespace L2
open PySem PySem.Spec PyProof.Rows
section
variable {prog:Program} {w:World} {A:Around} {E:Value->Shared->Prop} {s:Shared} {v dc it:Addr} {oc:Obj} {es:Array DictEntry} {ep:Nat}
theorem iter_keys {Q:Value->Shared->Prop} (hT:s.TypeIs (.ref dc) "dict") (hd:(dc == sysModules)=false) (h1:s.heap.get? dc=some oc) (h2:oc.data=.dict es ep)
  (q:Q (.ref s.heap.objs.size) { s with heap:=s.heap.push { cls:=.type "dict_keyiterator",data:=.fields #[.ref dc,.int 0 0,.int es.size 0,.int ep 0] } }):wpAny (model prog w) A (pyIter (.ref dc)) Q E s:=by
 refine wpAny_pyIter_slot hT F.slot_dict_iter (wpAny_call_entry F.slot_dict_iter hT F.entry_dict_iter ?_ (F.args_dict_iter_1 _))
 unfold Builtin.«dict.__iter__»
 refine wpAny_bind ?_
 unfold Builtin.Dict.dictSlotNone
 refine wpAny_bind (wpAny_notOrdered_dict hT ?_)
 show wpAny _ _ (pure (Value.ref dc)) _ _ s
 refine wpAny_pure ?_
 show wpAny _ _ (Builtin.Dict.showsAll dc >>= _) _ _ s
 unfold Builtin.Dict.showsAll
 rw [if_neg (by rw [hd]; exact Bool.false_ne_true)]
 refine wpAny_bind (wpAny_pure ?_)
 refine wpAny_bind (wpAny_dictEntries h1 h2 ?_)
 refine wpAny_bind (wpAny_dictEpoch h1 h2 ?_)
 refine wpAny_bind (wpAny_newObj_type (wpAny_pure ⟨_,rfl,"dict_keyiterator",_,⟨_,Heap.get?_push_size _ rfl,rfl⟩,F.slot_dict_keyiterator_next.lookup,?_⟩))
 simpa [rawInt] using q
theorem next_key {i:Nat} {Q:Option Value->Shared->Prop} (hI:s.heap.IsKeyIter it dc i es.size ep) (h1:s.heap.get? dc=some oc) (h2:oc.data=.dict es ep) (hlt:i < es.size)
  (q:∀ h',h'.IsKeyIter it dc (i+1) es.size ep->Heap.SameBut it s.heap h'->Q (some es[i].key) { s with heap:=h' }):wpAny (model prog w) A (pyNext (.ref it)) Q E s:=by
 obtain ⟨oi,g1,g2,g3⟩:=id hI
 unfold pyNext
 refine wpAny_bind (wpAny_attempt (wpAny_callSpecial?_slot (name:=Str.ofString "__next__") hI.typeIs F.slot_dict_keyiterator_next (wpAny_call_entry F.slot_dict_keyiterator_next hI.typeIs F.entry_dict_keyiterator_next ?_ (F.args_dict_keyiterator_next_1 _))))
 refine wpAny_bind (wpAny_pure (wpAny_bind (wpAny_bind ?_)))
 first | refine wpAny_bind (wpAny_typeNameOfWhole_keyiter hI.typeIs (wpAny_pure ?_)) | refine wpAny_bind (wpAny_typeNameOf_keyiter hI.typeIs (wpAny_pure ?_))
 refine wpAny_bind (wpAny_fieldsOf g1 g3 ?_)
 rw [show Builtin.Dict_items.ownsTuple "dict_keyiterator" = false by decide]; simp only [Bool.false_eq_true,if_false]
 show wpAny _ _ (if (Value.ref dc == Value.none)=true then _ else _) _ _ s
 rw [if_neg (show ¬ ((Value.ref dc == Value.none)=true) from Bool.false_ne_true)]
 refine wpAny_bind (wpAny_pure (wpAny_bind (wpAny_dictEntries h1 h2 ?_)))
 rw [if_neg (show ¬ _ by simp)]
 refine wpAny_bind (wpAny_pure (wpAny_bind (wpAny_dictEpoch h1 h2 ?_)))
 rw [if_neg (show ¬ _ by simp)]
 refine wpAny_pure ?_
 simp only [show ¬ ((i:Int) < 0) by omega,if_false,Int.toNat_natCast,Array.getElem?_eq_getElem hlt]
 refine wpAny_bind ?_
 first | refine wpAny_bind (wpAny_typeNameOfWhole_keyiter hI.typeIs (wpAny_pure ?_)) | refine wpAny_bind (wpAny_typeNameOf_keyiter hI.typeIs (wpAny_pure ?_))
 refine wpAny_bind (wpAny_isOneOf_keyiter hI.typeIs (show wpAny _ _ (setField (.ref it) 1 (rawInt ((i:Int)+1)) >>= _) _ _ s from wpAny_bind (wpAny_setField g1 g3 (by simp) ?_)))
 have hI':(s.heap.update it (Obj.mapFields (·.setIfInBounds 1 (rawInt ((i:Int)+1))))).IsKeyIter it dc (i+1) es.size ep:=
  ⟨_,Heap.get?_update_self _ g1 (Obj.isFreed_of_fields (Obj.data_mapFields g3 _)),(Obj.cls_mapFields ..).trans g2,by rw [Obj.data_mapFields g3]; simp [rawInt]⟩
 have ty':({ s with heap:=s.heap.update it (Obj.mapFields (·.setIfInBounds 1 (rawInt ((i:Int)+1)))) }:Shared).TypeIs (.ref it) "dict_keyiterator" := hI'.typeIs
 refine wpAny_bind (wpAny_holding (wpAny_bind (wpAny_isOneOf_keyiter ty' ?_)))
 show wpAny _ _ (pure es[i].key) _ _ _
 exact wpAny_pure (wpAny_pure ⟨_,rfl,wpAny_pure (q _ hI' (Heap.SameBut.update ..))⟩)
theorem end_keys {i:Nat} {Q:Option Value->Shared->Prop} (hh:A.handled=none) (hI:s.heap.IsKeyIter it dc i es.size ep) (h1:s.heap.get? dc=some oc) (h2:oc.data=.dict es ep) (hge:es.size<=i)
  (q:∀ h',Heap.ExtBut it s.heap h'->Q none { s with heap:=h' }):wpAny (model prog w) A (pyNext (.ref it)) Q E s:=by
 obtain ⟨oi,g1,g2,g3⟩:=id hI
 unfold pyNext
 refine wpAny_bind (wpAny_attempt (wpAny_callSpecial?_slot (name:=Str.ofString "__next__") hI.typeIs F.slot_dict_keyiterator_next (wpAny_call_entry F.slot_dict_keyiterator_next hI.typeIs F.entry_dict_keyiterator_next ?_ (F.args_dict_keyiterator_next_1 _))))
 refine wpAny_bind (wpAny_pure (wpAny_bind (wpAny_bind ?_)))
 first | refine wpAny_bind (wpAny_typeNameOfWhole_keyiter hI.typeIs (wpAny_pure ?_)) | refine wpAny_bind (wpAny_typeNameOf_keyiter hI.typeIs (wpAny_pure ?_))
 refine wpAny_bind (wpAny_fieldsOf g1 g3 ?_)
 rw [show Builtin.Dict_items.ownsTuple "dict_keyiterator" = false by decide]; simp only [Bool.false_eq_true,if_false]
 show wpAny _ _ (if (Value.ref dc == Value.none)=true then _ else _) _ _ s
 rw [if_neg (show ¬ ((Value.ref dc == Value.none)=true) from Bool.false_ne_true)]
 refine wpAny_bind (wpAny_pure (wpAny_bind (wpAny_dictEntries h1 h2 ?_)))
 rw [if_neg (show ¬ _ by simp)]
 refine wpAny_bind (wpAny_pure (wpAny_bind (wpAny_dictEpoch h1 h2 ?_)))
 rw [if_neg (show ¬ _ by simp)]
 refine wpAny_pure ?_
 simp only [show ¬ ((i:Int) < 0) by omega,if_false,Int.toNat_natCast,Array.getElem?_eq_none hge]
 refine wpAny_bind ?_
 first | refine wpAny_bind (wpAny_typeNameOfWhole_keyiter hI.typeIs (wpAny_pure ?_)) | refine wpAny_bind (wpAny_typeNameOf_keyiter hI.typeIs (wpAny_pure ?_))
 refine (show wpAny _ _ (setField (.ref it) 0 .none >>= _) _ _ s from wpAny_bind (wpAny_setField g1 g3 (by simp) ?_))
 refine (show wpAny _ _ (newExc (.type "StopIteration") [] >>= _) _ _ _ from wpAny_bind ?_); simp only [newExc,newTuple]
 refine wpAny_bind (wpAny_newObj_type (wpAny_bind (m:=firstArgMember _ _) (wpAny_of_eq (a:=Value.none) (by first | rfl | (simp only [firstArgMember]; rfl)) (wpAny_newObj_type ?_ (by size_fits)))) (by size_fits))
 simp only [raiseNew]
 refine wpAny_bind (wpAny_handled ?_); rw [show A.in1.handled=none from hh]
 refine wpAny_bind (wpAny_pure (wpAny_throw ?_)); refine wpAny_bind (wpAny_isInstance (T:="StopIteration") (b:=true) ⟨_,Heap.get?_push_size _ rfl,rfl⟩ isSubtype_stop ?_)
 exact wpAny_pure (q _ (((Heap.SameBut.update ..).extBut.push _).push _))
theorem walks_keys (hh:A.handled=none) (I dc:Addr) (hne:dc≠I) (oc:Obj) (es:Array DictEntry) (ep:Nat) (h2:oc.data=.dict es ep):
  Walks prog w A I [I,dc] [I] es.size (fun i v=>∃ e,es[i]?=some e/\v=e.key) (fun i h=>h.IsKeyIter I dc i es.size ep/\h.get? dc=some oc) where
 sub:=fun b hb=>by rw [List.mem_singleton.mp hb]; exact List.mem_cons_self
 frame:=fun _ _ _ st hk=>⟨let ⟨o,e,r⟩:=st.1; ⟨o,hk I List.mem_cons_self o e,r⟩,hk dc (List.mem_cons_of_mem _ List.mem_cons_self) _ st.2⟩
 item:=fun i s Q E hi st hQ=>next_key st.1 st.2 h2 hi fun h' hit' hs'=>hQ _ h' s.toks ⟨es[i],by simp [hi],rfl⟩ ⟨hit',(hs'.2 dc hne).trans st.2⟩ fun b o hb e=>(hs'.2 b fun z=>hb (by rw [z]; exact List.mem_cons_self)).trans e
 done:=fun s Q E st hQ=>end_keys hh st.1 st.2 h2 (Nat.le_refl _) fun h' he'=>hQ h' s.toks fun b o hb e=>he' b o (fun z=>hb (by rw [z]; exact List.mem_cons_self)) e
 self:=fun _ _ _ _ st hQ=>wpAny_pyIter_keyiter st.1 hQ
theorem src_keys (hc:oc.cls=.type "dict") (hd:(dc == sysModules)=false) (h2:oc.data=.dict es ep):PySem.W.KdlSrc prog w "dict" dc dc es.size (fun i v=>∃ e,es[i]?=some e/\v=e.key) (fun h=>h.get? dc=some oc) where
 type:=fun _ hm=>⟨oc,hm,hc⟩
 there:=fun _ hm=>⟨Heap.lt_size hm,Heap.lt_size hm⟩
 keep:=fun _ _ hm hk=>hk dc (.inl rfl) _ hm
 notList:=by decide
 notTuple:=by decide
 hint:=fun _ _ _ _ hm hq=>PySem.W.kdl_hint_dict ⟨oc,hm,hc⟩ hq
 iter:=fun _ _ hh hm=>⟨_,_,(fun _ _ hq=>iter_keys ⟨oc,hm,hc⟩ hd hm h2 hq),walks_keys hh _ dc (Nat.ne_of_lt (Heap.lt_size hm)) oc es ep h2,⟨⟨_,Heap.get?_push_size _ rfl,rfl,rfl⟩,Heap.get?_push_of_some _ hm⟩⟩
end
section
variable {C:MC} {k:Nat} {X:Cx}
theorem raw_keys {pins:List (Addr×Obj)} {σ:St} {H:Hp} {s:Shared} {φ:List Addr} {h:PH} {d:Nat} {b:Addr} {kvs:List (PV×PV)} (c:Cxt C k X) (I:Inv X pins σ H s) (rh:RH C φ H h) (hb:φ[d]?=some b) (e:tblD h d=some kvs):
  (b == sysModules)=false/\kvs.length<=sizeLine/\∃ oc es ep,s.heap.get? b=some oc/\oc.cls=.type "dict" /\ oc.data=.dict es ep/\∃ ws,RVs C φ H (kvs.map (·.1)) ws/\Vals ws (es.toList.map (·.key)):=by
 obtain ⟨⟨ks,ys,r,rx',hz,hm,dd⟩,_⟩:=hd_of I c.K c.w rh hb e
 have hlen:kvs.length=ys.length:=(Paired.length r).trans (Paired.length rx')
 refine ⟨hm,by rw [hlen]; exact hz,?_⟩
 obtain ⟨oc,es,ep,g1,g2,g3,g4,g5,g6⟩:=dd
 refine ⟨oc,es,ep,g1,g2.1,g3,ks.map (fun q=>V.ref q.2.1),?_,?_⟩
 ·unfold RKd at r
  clear rx' hlen e
  induction r with
  | nil=>trivial
  | cons q t ih=>exact ⟨q.2.2.1,ih⟩
 ·rw [g4,List.map_map]
  clear r hlen hz g4 g5 g6
  induction rx' with
  | nil=>exact .nil
  | @cons p q ps qs h t ih=>exact .cons (show RelV (.ref p.2.1) (Value.ref q.2.1) by rw [h.2.1]; rfl) ih
theorem items_keys {es:Array DictEntry} {acc:Array Value} (h:ItemsOf (fun i v=>∃ e,es[i]?=some e/\v=e.key) acc es.size):acc.toList=es.toList.map (·.key):=by
 apply List.ext_getElem?
 intro i
 rw [List.getElem?_map,Array.getElem?_toList,Array.getElem?_toList]
 by_cases hi:i < acc.size
 ·have e1:acc[i]?=some acc[i]:=by simp [hi]
  obtain ⟨e,h1,h2⟩:=h.2 i _ e1
  rw [e1,h1,h2]
  rfl
 ·have hi':¬ i < es.size:=by rw [<- h.1]; exact hi
  rw [Array.getElem?_eq_none (by omega),Array.getElem?_eq_none (by omega)]
  rfl
theorem call_listK (c:Cxt C k X):CallR X (.type "list") (fun xs H Q=>∃ (φ:List Addr) (h:PH) (d:Nat) (b:Addr) (kvs:List (PV×PV)),xs=[.ref b]/\RH C φ H h/\φ[d]?=some b/\tblD h d=some kvs/\∀ l ws,H l=none->RVs C φ H (kvs.map (·.1)) ws->Q (.ref l) (upd H l (.lst ws))):=by
 intro pins s σ H xs us Q I r h
 obtain ⟨φ,h,d,b,kvs,rfl,rh,hb,ey,q⟩:=h
 obtain ⟨u,rfl,ru⟩:=vals1 r
 cases ru
 obtain ⟨hm,hz,oc,es,ep,g1,gc,g2,ws,r1,r2⟩:=raw_keys c I rh hb ey
 have hn:es.size<=sizeLine:=by
  have e1:=r1.length
  have e2:ws.length=es.size:=by have:=r2.length; simpa using this
  rw [List.length_map] at e1
  rw [<- e2,<- e1]; exact hz
 refine PySem.W.kdl_call (src_keys gc hm g2) (I.ok.hd c.calm) g1 hn fun h' tk acc' c' hk hS hacc=>?_
 have ea:=items_keys hacc
 refine ⟨.ref s.heap.objs.size,_,I.laid (t':=tk) (o:=.lst ws) hk (Nat.le_refl _) ⟨?_,acc'.toList,c',by rw [ea]; exact r2,by rw [Array.toArray_toList]; exact hS⟩,rfl,q _ ws I.fresh r1⟩
 rw [<- r1.length,List.length_map]; exact hz
end
section
variable {C:MC} {k:Nat} {X:Cx}
def strsP:List PV->Option (List Str)
 | []=>some []
 | .str x :: r=>(strsP r).map (x :: ·)
 | _ :: _=>none
def jnd (sep:Str):List Str->Str
 | [p]=>p
 | l=>Builtin.Str.glued sep l
def jlen (sep:Str) (l:List Str):Nat:=l.toArray.foldl (·+·.length+sep.length) 0
def isSt (x:PV) (_:PH):Bool:=match x with
 | .str _=>true
 | _=>false
def vJoin:PV->List PV->PH->Rs PV:=fun x ps h=>match x,ps with
 | .str sep,[.ref n]=>match isLst h n with
  | some ys=>match strsP ys with
   | some zs=>if jlen sep zs<=sizeLine/\(jnd sep zs).length<=sizeLine then .ok (.str (jnd sep zs)) h else .bad
   | none=>.bad
  | none=>.bad
 | _,_=>.bad
theorem strsP_raw {φ:List Addr} {H:Hp}:∀ {ys:List PV} {zs:List Str} {vs:List V} {us:List Value},strsP ys=some zs->RVs C φ H ys vs->Vals vs us->∃ l:List (Str×Tok),us=strValues l/\l.map (·.1)=zs
 | [],zs,[],us,e,_,ru=>by
  cases ru; cases e
  exact ⟨[],rfl,rfl⟩
 | p :: ys,zs,v :: vs,us,e,r,ru=>by
  cases ru with
  | @cons _ u _ us' h t=>
   cases p with
   | str x=>
    unfold strsP at e
    cases e2:strsP ys with
    | none=>rw [e2] at e; cases e
    | some zs'=>
     rw [e2] at e
     cases e
     obtain ⟨l,rfl,rfl⟩:=strsP_raw e2 r.2 t
     have e1:v=.str x:=r.1
     subst e1
     obtain ⟨tk,rfl⟩:=h
     exact ⟨(x,tk) :: l,rfl,rfl⟩
   | _=>cases e
 | [],_,_ :: _,_,_,r,_=>r.elim
 | _ :: _,_,[],_,_,r,_=>r.elim
theorem m_join1 (c:Cxt C k X):MtR X "str.join" (rM C vJoin):=fun pins s σ H x xs v us Q I rx rs h=>by
 obtain ⟨φ,h,p,ps,rh,rp,rps,po⟩:=h
 unfold vJoin at po
 split at po
 ·rename_i sep n
  split at po
  ·rename_i ys hl
   split at po
   ·rename_i zs hz
    split at po
    ·rename_i hlen
     have e1:x=.str sep:=rp
     subst e1
     obtain ⟨tk,rfl⟩:=rx
     obtain ⟨v1,rfl,rv1⟩:=rps.one
     obtain ⟨a,rfl,ha⟩:=rv1
     obtain ⟨u,rfl,ru⟩:=vals1 rs
     cases ru
     have hk:h[n]?=some (.lst ys):=by
      unfold isLst at hl
      split at hl
      ·rename_i q; cases hl; exact q
      ·cases hl
     obtain ⟨vs,hH,rvs⟩:=rh.at' n a _ ha hk
     obtain ⟨_,its,m,rits,_,hx⟩:=I.lstM hH
     obtain ⟨l,rfl,el⟩:=strsP_raw hz rvs rits
     have hq:Q (.str (jnd sep zs)) H:=po.val rh rfl
     have htl:Builtin.Str.tooLong ((l.map (·.1)).toArray.foldl (·+·.length+sep.length) 0)=false:=by
      rw [el]
      show decide (jlen sep zs > sizeLine)=false
      exact decide_eq_false (by have:=hlen.1; omega)
     have isl:s.heap.IsList a (strValues l).toArray:=⟨_,hx,rfl,m,rfl⟩
     refine call_meets PySem.F.slot_str_join (typeIs_str s sep tk) PySem.F.entry_str_join (PySem.F.args_str_join_2 _ _) (meets_str_join_list sep tk a l htl) ⟨isl,?_⟩
     subst el
     have hl2:=hlen.2
     match l,hq,hl2 with
     | [],hq,hl2=>exact ⟨hl2,.str _,H,I.tok _,⟨_,rfl⟩,hq⟩
     | [p],hq,hl2=>exact ⟨.str _,H,I,⟨_,rfl⟩,hq⟩
     | p :: q :: r,hq,hl2=>exact ⟨hl2,.str _,H,I.tok _,⟨_,rfl⟩,hq⟩
    ·exact po.elim
   ·exact po.elim
  ·exact po.elim
 ·exact po.elim
theorem m_join:MtG C k X "str" isSt "str.join" vJoin:=fun c=>⟨m_join1 c,fun pins s σ H φ h p x v I rh rv r e=>by
 cases p with
 | str z=>
  have e1:x=.str z:=rv
  subst e1
  obtain ⟨t,rfl⟩:=r
  exact ⟨typeIs_str s z t,fun a e=>nomatch e⟩
 | _=>cases e⟩
end
section
variable {C:MC} {k:Nat} {X:Cx} {ke ve:Expr} {mk mv:Me} {pos:Pos}
def putD (x y:PV) (n:Nat) (h:PH):Rs PV:=if x.isKt=true then (match tblD h n with
 | some kvs=>if kvs.length < sizeLine then .ok (.ref n) (h.set n (.dD (putP kvs x y))) else .bad
 | none=>.bad) else .bad
def mDict1 (mk mv:Me):Me:=fun δ h=>(mk δ (h++[.dK []])).bind fun x h2=>(mv δ h2).bind fun y h3=>putD x y h.length h3
theorem s_dict1 (hk:SE C k X ke mk) (hv:SE C k X ve mv):SE C k X (.Dict [some ke] [ve] pos) (mDict1 mk mv):=fun c pins s σ H Q I ⟨φ,δ,h,rh,re,p⟩=>by
 refine wpAny_Dict_any rfl rfl (fun z=>nomatch z) (by show 1<=15; decide) ?_
 have fr:H s.heap.objs.size=none:=I.fresh
 have I1:Inv X pins σ (upd H s.heap.objs.size (.dK [])) { s with heap:=s.heap.push { cls:=.type "dict",data:=.dict #[] } }:=I.laid (a:=s.heap.objs.size) (o:=.dK []) (t':=s.toks) (fun _ _ q=>Heap.get?_push_of_some _ q) (Nat.le_refl _) (dk_empty s.heap I.big)
 have rh1:RH C (φ++[s.heap.objs.size]) (upd H s.heap.objs.size (.dK [])) (h++[.dK []]):=rh.new fr ⟨[],upd_same,.nil⟩
 have re1:=re.mono (List.prefix_append φ [s.heap.objs.size]) (Kp.new (o:=.dK []) fr)
 have ha1:(φ++[s.heap.objs.size])[h.length]?=some s.heap.objs.size:=by rw [<- rh.len]; simp
 have p1:post C (φ++[s.heap.objs.size]) (upd H s.heap.objs.size (.dK [])) (mDict1 mk mv δ h) Q:=post.weak (List.prefix_append _ _) (Kp.new fr) p
 generalize s.heap.objs.size=d at*
 generalize φ++[d]=φ0 at*
 refine evalPairs_cons (thn (hk c pins _ σ _ _ I1 ⟨φ0,δ,_,rh1,re1,post.bind p1⟩) ?_)
 rintro ku s1 ⟨x,H1,I1',rku,φ1,px,h1,pf1,t1,rh2,rx,q1⟩
 refine wpAny_bind (thn (hv c pins s1 σ H1 _ I1' ⟨φ1,δ,h1,rh2,re1.mono pf1 t1,post.bind q1⟩) ?_)
 rintro vu s2 ⟨y,H2,I2,rvu,φ2,py,h2,pf2,t2,rh3,ry,q2⟩
 refine wpAny_bind (wpAny_standAt (wpAny_pure (evalPairs_nil ?_)))
 unfold putD at q2
 split at q2
 ·rename_i hkt
  split at q2
  ·rename_i kvs ht
   split at q2
   ·rename_i hl
    have ha2:φ2[h.length]?=some d:=pre_get pf2 (pre_get pf1 ha1)
    have rx2:=rx.mono pf2 t2
    obtain ⟨b,rfl⟩:=isKt_rv hkt rx2
    cases rku
    obtain ⟨⟨ks,xs,r,rx',hz,hm,dd⟩,mu,nt⟩:=hd_of I2 c.K c.w rh3 ha2 ht
    have rm:(dKind X.prog X.w).room X.A:=by
     have:=c.hu64
     show X.A.units+6 < cLine
     omega
    unfold storeAll
    rw [List.forIn_cons]
    refine wpAny_bind (wpAny_bind (wpAny_dictSet_heap (hsz:=hz) rm (kt_is I2 c.K hkt rx2) dd fun h' dd' hs=>wpAny_pure ?_))
    obtain ⟨ks',r1,r2⟩:=HD.put (a:=d) r rx' (isKt_ky hkt) rx2 ry rvu
    obtain ⟨o,es,ep,hq,g2,g3,g4,_,g5⟩:=dd'
    have hl2:ks'.length<=sizeLine:=by
     have e1:=Paired.length r1
     have e2:=len_putP kvs px py
     omega
    refine wpAny_pure ⟨.ref d,upd H2 d (dDO C.w d ks'),d_write I2 mu hs ⟨o,hq⟩ ⟨⟨hl2,hm,_,r2,o,es,ep,hq,g2,g3,?_,g5⟩,⟨o,hq⟩,?_⟩,rfl,?_⟩
    ·rw [g4,<- c.w]; rfl
    ·rintro g1 g2 ⟨z1,z2,ws,z3,o',es',ep',z4,z5⟩ keep
     exact ⟨z1,z2,ws,z3,o',es',ep',keep _ z4,z5⟩
    ·exact q2 φ2 (.ref d) _ List.prefix_rfl (Kp.upd nt) (rh3.write ha2 nt ⟨ks',upd_same,RKd.mono List.prefix_rfl (Kp.upd nt) r1⟩) ⟨d,rfl,ha2⟩
   ·exact q2.elim
  ·exact q2.elim
 ·exact q2.elim
end
section
variable {C:MC} {k:Nat} {X:Cx} {x:Str} {a:Addr} {o:Obj} {its:Array Value} {n:Nat} {vs:List V} {ps:List PV} {pos:Pos}
def flatP:PV->Option V
 | .non=>some .non
 | .bl b=>some (.bl b)
 | .int i=>some (.int i)
 | .str z=>some (.str z)
 | _=>none
def flatPs:List PV->Option (List V)
 | []=>some []
 | p :: r=>match flatP p,flatPs r with
  | some v,some vs=>some (v :: vs)
  | _,_=>none
theorem flat_rv {φ:List Addr} {H:Hp} {p:PV} {v:V} (e:flatP p=some v):RV C φ H p v:=by
 cases p <;> first | (cases e; rfl) | cases e
theorem flats_rv {φ:List Addr} {H:Hp}:∀ {ps:List PV} {vs:List V},flatPs ps=some vs->RVs C φ H ps vs
 | [],vs,e=>by cases e; trivial
 | p :: ps,vs,e=>by
  unfold flatPs at e
  split at e
  ·rename_i v ws e1 e2
   cases e
   exact ⟨flat_rv e1,flats_rv e2⟩
  ·cases e
def GTup (K:PySem.W.Frag) (a:Addr) (ps:List PV):Prop:=∃ (o:Obj) (its:Array Value) (n:Nat) (vs:List V),K.lookup a=some o/\o.cls=.type "tuple" /\ o.data=.seq its n/\its.size<=sizeLine/\Vals vs its.toList/\o.dict=none/\flatPs ps=some vs
theorem s_gtup (hm:X.mg x=some (.ref a)) (g:GTup C.K a ps) (hg:Gl X x:=by rfl) (hd:(x == ("__debug__" : Str))=false:=by decide):SE C k X (.Name x pos) (mC (.tup ps)):=fun c=>
 (pe_glob (v:=.ref a) hg hm rfl hd).imp fun σ H Q h=>by
  obtain ⟨φ,δ,h,rh,re,p⟩:=h
  obtain ⟨o,its,n,vs,g1,g2,g3,g4,g5,g6,g7⟩:=g
  exact p φ (.ref a) H List.prefix_rfl (Kp.refl _) rh ⟨a,vs,rfl,.inr ⟨o,its,n,g1,g2,g3,g4,g5,g6⟩,flats_rv g7⟩
end
section
theorem vPutL_t {h:PH} {n:Nat} {kvs:List (PV×PV)} {xs:List PV} {z:PV} (e:tblD h n=some kvs) (hk:(PV.tup xs).ky 6=true) (hl:kvs.length < 16777216):vPutL (.ref n) (.tup xs) z h=some (h.set n (.dD (putP kvs (.tup xs) z))):=by
 show vPut (.ref n) (.tup xs) z h=_
 exact vPut_t e hk hl
theorem vPutL_s {h:PH} {n:Nat} {kvs:List (Key×PV)} {x:Str} {z:PV} (e:h[n]?=some (.dK kvs)) (hl:kvs.length < 16777216):vPutL (.ref n) (.str x) z h=some (h.set n (.dK (putP kvs (.inr x) z))):=by
 show vPut (.ref n) (.str x) z h=_
 exact vPut_dK e hl
@[simp] theorem mDict1_eq {mk mv:Me} {δ:Ev} {h:PH}:mDict1 mk mv δ h=(mk δ (h++[.dK []])).bind fun x h2=>(mv δ h2).bind fun y h3=>putD x y h.length h3:=(rfl)
end
end L2
set_option Elab.async false
set_option linter.all false
set_option maxRecDepth 100000
namespace L2
open PySem PySem.Spec PyProof.Rows PySem.SeqAt
section
variable {prog:Program} {w:World} {A:Around} {E:Value->Shared->Prop} {s:Shared}
theorem hash_none {Q:Int->Shared->Prop} (h:∀ n tk,Q n { s with toks:=tk }):wpAny (model prog w) A (pyHash .none) Q E s:=by
 have hT:s.TypeIs .none "NoneType" := typeIs_none s
 unfold pyHash; unfold pyHashByItsType
 have hv:[Value.none].any Value.onHeap=false:=rfl
 refine wpAny_bind ?_
 rw [cRoomFor,if_neg (by rw [hv]; exact Bool.false_ne_true)]; refine wpAny_pure ?_
 refine wpAny_bind (wpAny_specialOf hT F.slot_NoneType_hash.lookup ?_)
 show wpAny _ _ (if ((some (Value.builtin "NoneType.__hash__"):Option Value) == some Value.none)=true then _ else _) Q E s
 rw [if_neg (show ¬ _ from by rw [beq_builtin_none]; decide)]
 refine wpAny_bind (wpAny_specialOf hT F.slot_NoneType_hash.lookup (show wpAny _ _ (callSpecialIfBoundUnlessNone? Value.none "__hash__" _ >>= _) Q E s from ?_))
 refine wpAny_bind (wpAny_callSpecialIfBoundUnlessNone?_slot hT F.slot_NoneType_hash (wpAny_call_entry F.slot_NoneType_hash hT F.entry_NoneType_hash ?_ (F.args_NoneType_hash_1 _)))
 unfold Builtin.«NoneType.__hash__»
 refine wpAny_bind (m:=slotArgs "__hash__" 0 _) (wpAny_of_eq (a:=(Value.none,[])) (by rfl) ?_)
 refine wpAny_ret_mkInt ?_
 show wpAny _ _ (if (decide (-(2:Int) ^ 63<=4238894112) && decide ((4238894112:Int) < 2 ^ 63))=true then _ else _) Q E _
 rw [if_pos (by decide)]
 exact wpAny_pure (h _ _)
variable {K:Type} [DecidableEq K] {knd:HeapKind prog w K}
theorem tell_none {stored:List Value} {Q:Bool->Shared->Prop} (hst:∀ v∈stored,∃ k' b,v=.ref b/\knd.is s.heap k' b) (h:Q false s):wpAny (model prog w) A (tableMayTell .none stored) Q E s:=by
 unfold tableMayTell
 split
 ·exact wpAny_pure h
 ·refine wpAny_bind (wpAny_of_eq (a:=true) (by rfl) ?_)
  simp only [Bool.not_true,Bool.false_eq_true,if_false]
  refine wpAny_bind ?_
  refine wpAny_forIn_list _ (fun rest r s'=>s'=s/\r=(none,())/\∀ v∈rest,∃ k' b,v=.ref b/\knd.is s.heap k' b) _ ?_ ?_ _ _ ⟨rfl,rfl,hst⟩
  ·rintro x rest r s' ⟨rfl,rfl,hr⟩
   obtain ⟨k',b,rfl,hb⟩:=hr x List.mem_cons_self
   refine wpAny_bind (knd.quiet hb ?_)
   simp only [Bool.not_true,Bool.false_eq_true,if_false]
   exact wpAny_pure ⟨rfl,rfl,fun v hv=>hr v (List.mem_cons_of_mem _ hv)⟩
  ·rintro r s' ⟨rfl,rfl,_⟩
   exact wpAny_pure h
theorem find_none {d:Addr} {o:Obj} {es:Array DictEntry} {ep:Nat} {xs:List (K×Addr×Value)} {hN:Int} {Q:Option Nat->Shared->Prop} (ho:s.heap.get? d=some o) (hd:o.data=.dict es ep) (he:es.toList=xs.map (entryOfKey knd)) (his:∀ x∈xs,knd.is s.heap x.1 x.2.1)
  (heq:∀ x∈xs,EqAt A s (.ref x.2.1) .none false) (h:Q none s):wpAny (model prog w) A (dictFind d .none hN) Q E s:=by
 have hmem:∀ e∈es,∃ x∈xs,e=entryOfKey knd x:=by
  intro e hin
  have:e∈xs.map (entryOfKey knd):=he ▸ Array.mem_toList_iff.mpr hin
  obtain ⟨x,hx,rfl⟩:=List.mem_map.mp this
  exact ⟨x,hx,rfl⟩
 have hst:∀ v∈(placesWithHash es.size (fun i=>es[i]?.map (·.hash)) hN).filterMap (fun i=>es[i]?.map (·.key)),∃ k' b,v=.ref b/\knd.is s.heap k' b:=by
  intro v hv
  obtain ⟨i,_,hi⟩:=List.mem_filterMap.mp hv
  cases hei:es[i]? with
  | none=>rw [hei] at hi; cases hi
  | some e=>
   rw [hei] at hi
   obtain rfl:e.key=v:=by simpa using hi
   obtain ⟨x,hx,rfl⟩:=hmem e (Array.mem_of_getElem? hei)
   exact ⟨x.1,x.2.1,rfl,his x hx⟩
 have hpl:∀ i∈placesWithHash es.size (fun i=>es[i]?.map (·.hash)) hN,∃ e,es[i]?=some e/\e.hash=hN:=by
  intro i hi
  unfold placesWithHash at hi
  obtain ⟨_,h2⟩:=List.mem_filter.mp hi
  dsimp only at h2
  cases hei:es[i]? with
  | none=>rw [hei] at h2; simp at h2
  | some e=>rw [hei] at h2; exact ⟨e,rfl,by simpa using h2⟩
 unfold dictFind
 refine wpAny_holding ?_
 refine wpAny_bind (wpAny_dictEntries ho hd ?_)
 dsimp only
 generalize hP:placesWithHash es.size (fun i=>es[i]?.map (·.hash)) hN=P at hst hpl
 cases P with
 | nil=>
  rw [if_pos (by rfl)]
  unfold dictWalkPlain
  exact wpAny_bind (wpAny_pure (wpAny_pure h))
 | cons p0 P0=>
  have hno:¬ ((Value.none :: ((p0 :: P0).filterMap fun i=>es[i]?.map (·.key))).all carriedByValue)=true:=by
   intro z
   obtain ⟨e,e1,e2⟩:=hpl p0 List.mem_cons_self
   have hm:e.key∈(p0 :: P0).filterMap (fun i=>es[i]?.map (·.key)):=List.mem_filterMap.mpr ⟨p0,List.mem_cons_self,by rw [e1]; rfl⟩
   obtain ⟨k',b,hb,_⟩:=hst _ hm
   have:=List.all_eq_true.mp z _ (List.mem_cons_of_mem _ hm)
   rw [hb] at this
   cases this
  rw [if_neg hno]
  by_cases hone:(((p0 :: P0).filterMap fun i=>es[i]?.map (·.key)) == [Value.none])=true <;>
  (first | rw [if_pos hone] | rw [if_neg hone]) <;> (first | refine wpAny_bind (wpAny_pure ?_) | refine wpAny_bind (tell_none hst ?_)) <;> (
   rw [if_neg (by simp)]
   refine wpAny_bind ?_
   refine wpAny_forIn_list _ (fun rest b s'=>s'=s/\b=(none,none)/\∀ i∈rest,∃ e,es[i]?=some e/\e.hash=hN) _ ?_ ?_ _ _ ⟨rfl,rfl,hpl⟩
   ·rintro x rest b s' ⟨rfl,rfl,hr⟩
    obtain ⟨e,e1,e2⟩:=hr x List.mem_cons_self
    obtain ⟨y,hy,rfl⟩:=hmem e (Array.mem_of_getElem? e1)
    rw [e1]; dsimp only
    rw [if_pos (by rw [e2]; simp)]
    refine wpAny_bind (wpAny_dictEpoch ho hd (wpAny_bind (heq y hy _ _ _ _ (wpAny_bind (wpAny_dictEpoch ho hd ?_)))))
    show wpAny _ _ (if (ep != ep)=true then _ else _) _ E _
    rw [if_neg (by simp)]
    simp only [Bool.false_eq_true,if_false]
    refine wpAny_bind (wpAny_rule ?_)
    first | rw [if_neg (by simp)] | skip
    first
     | exact wpAny_pure ⟨rfl,rfl,fun i hi=>hr i (List.mem_cons_of_mem _ hi)⟩
     | exact wpAny_bind (wpAny_pure (wpAny_pure ⟨rfl,rfl,fun i hi=>hr i (List.mem_cons_of_mem _ hi)⟩))
   ·rintro b s' ⟨rfl,rfl,_⟩
    exact wpAny_pure h)
theorem get_none {d:Addr} {xs:List (K×Addr×Value)} {Q:Option Value->Shared->Prop} (hm:s.heap.DictOfH knd d xs) (heq:∀ tk,∀ x∈xs,EqAt A { s with toks:=tk } (.ref x.2.1) .none false) (h:∀ tk,Q none { s with toks:=tk }):
  wpAny (model prog w) A (dictGet d .none) Q E s:=by
 obtain ⟨o,es,ep,ho,hc,hd,he,his,hn⟩:=hm
 unfold dictGet
 refine wpAny_holding ?_
 refine wpAny_bind (hash_none fun n tk=>wpAny_bind (find_none (s:={ s with toks:=tk }) ho hd he his (heq tk) ?_))
 exact wpAny_pure (h tk)
theorem in_none {d:Addr} {xs:List (K×Addr×Value)} {Q:Value->Shared->Prop} (hd:(d == sysModules)=false) (hm:s.heap.DictOfH knd d xs) (heq:∀ tk,∀ x∈xs,EqAt A.in1 { s with toks:=tk } (.ref x.2.1) .none false) (h:∀ tk,Q (.bool false) { s with toks:=tk }):
  wpAny (model prog w) A (compareOp .In .none (.ref d)) Q E s:=by
 show wpAny _ _ (do return .bool (<- contains (.ref d) .none)) Q E s
 refine wpAny_bind ?_
 unfold contains
 try with_reducible refine wpAny_holding ?_
 refine wpAny_bind (wpAny_specialOf hm.typeIs slot_dict_contains.lookup ?_)
 show wpAny _ _ (if (some (Value.builtin "dict.__contains__") == some Value.none)=true then _ else _) _ E s
 rw [if_neg (by rw [beq_builtin_none]; exact Bool.false_ne_true)]
 refine wpAny_bind (wpAny_callSpecialUnlessNone?_slot (name:=Str.ofString "__contains__") hm.typeIs slot_dict_contains
  (wpAny_call_entry slot_dict_contains hm.typeIs entry_dict_contains ?_ (args_dict_contains _ _)))
 show wpAny _ _ (dictGet d .none >>= _) _ _ s
 refine wpAny_bind (get_none hm heq fun tk=>?_)
 show wpAny _ _ (Builtin.Dict.pendingKey? d .none >>= _) _ _ _
 exact wpAny_bind (wpAny_pendingKey_other hd (wpAny_pure ⟨_,rfl,wpAny_truthy_bool (wpAny_pure (h tk))⟩))
theorem notIn_none {d:Addr} {xs:List (K×Addr×Value)} {Q:Value->Shared->Prop} (hd:(d == sysModules)=false) (hm:s.heap.DictOfH knd d xs) (heq:∀ tk,∀ x∈xs,EqAt A.in1 { s with toks:=tk } (.ref x.2.1) .none false) (h:∀ tk,Q (.bool true) { s with toks:=tk }):
  wpAny (model prog w) A (compareOp .NotIn .none (.ref d)) Q E s:=by
 show wpAny _ _ (do return .bool (!(<- contains (.ref d) .none))) Q E s
 refine wpAny_bind ?_
 unfold contains
 try with_reducible refine wpAny_holding ?_
 refine wpAny_bind (wpAny_specialOf hm.typeIs slot_dict_contains.lookup ?_)
 show wpAny _ _ (if (some (Value.builtin "dict.__contains__") == some Value.none)=true then _ else _) _ E s
 rw [if_neg (by rw [beq_builtin_none]; exact Bool.false_ne_true)]
 refine wpAny_bind (wpAny_callSpecialUnlessNone?_slot (name:=Str.ofString "__contains__") hm.typeIs slot_dict_contains
  (wpAny_call_entry slot_dict_contains hm.typeIs entry_dict_contains ?_ (args_dict_contains _ _)))
 show wpAny _ _ (dictGet d .none >>= _) _ _ s
 refine wpAny_bind (get_none hm heq fun tk=>?_)
 show wpAny _ _ (Builtin.Dict.pendingKey? d .none >>= _) _ _ _
 exact wpAny_bind (wpAny_pendingKey_other hd (wpAny_pure ⟨_,rfl,wpAny_truthy_bool (wpAny_pure (h tk))⟩))
end
section
variable {C:MC} {k:Nat} {X:Cx}
theorem ky_pl:∀ (n:Nat) (p:PV),p.ky n=true->p.pl n=true:=by
 intro n
 induction n with
 | zero=>intro p h; cases p <;> first | rfl | cases h
 | succ n ih=>
  intro p h
  cases p with
  | tup xs=>
   show xs.all (PV.pl n)=true
   rw [List.all_eq_true]
   exact fun y hy=>ih y (List.all_eq_true.mp (show xs.all (PV.ky n)=true from h) y hy)
  | _=>first | rfl | cases h
theorem key_none {pins:List (Addr×Obj)} {σ:St} {H:Hp} {s:Shared} {φ:List Addr} {A:Around} (I:Inv X pins σ H s) (hK:X.K=C.K) (hu:A.units+6 < cLine):∀ {kvs:List (PV×PV)} {ks:List (PV×Addr×V)} {xs:List (PV×Addr×Value)},RKd C φ H kvs ks->RawD ks xs->(∀ q∈kvs,q.1.isKt=true)->∀ x∈xs,EqAt A s (.ref x.2.1) .none false
 | [],[],[],_,_,_=>fun x hx=>nomatch hx
 | p :: kvs,q :: ks,y :: xs,r,rx,hk=>by
  cases r with
  | cons h1 t1=>
   cases rx with
   | cons h2 t2=>
    intro x hx
    rcases List.mem_cons.mp hx with rfl | hx
    ·obtain ⟨d,hd1,hd2⟩:=pl_one 6 _ (ky_pl 6 _ h1.2.1)
     have hr:Rep X.K H d (.ref q.2.1):=by rw [hK]; exact h1.2.2.1.rep hd1
     have hdt:∃ ds,d=.tup ds:=by
      have:=hk p List.mem_cons_self
      cases e:p.1 with
      | tup zs=>rw [e] at hd1; obtain ⟨ds,_,rfl⟩:=d_tup_inv hd1; exact ⟨ds,rfl⟩
      | _=>rw [e] at this; cases this
     obtain ⟨ds,rfl⟩:=hdt
     have:=eq_D I (n:=6) (d:=.tup ds) (e:=.non) (A:=A) (x:=.ref q.2.1) (y:=.non) (v:=.ref x.2.1) (u:=.none) hd2 hu hr rfl (by rw [h2.2.1]; rfl) rfl
     simpa [eqD] using this
    ·exact key_none I hK hu t1 t2 (fun z hz=>hk z (List.mem_cons_of_mem _ hz)) x hx
 | [],_ :: _,_,r,_,_=>nomatch r
 | _ :: _,[],_,r,_,_=>nomatch r
 | _,[],_ :: _,_,rx,_=>nomatch rx
 | _,_ :: _,[],_,rx,_=>nomatch rx
def vHasN:PV->PV->PH->Rs PV:=fun x y h=>match x,y with
 | .non,.ref n=>match tblD h n with
  | some kvs=>if kvs.all (fun q=>q.1.isKt) then .ok (.bl false) h else .bad
  | none=>vHas x y h
 | _,_=>vHas x y h
def vHasNotN:PV->PV->PH->Rs PV:=fun x y h=>match x,y with
 | .non,.ref n=>match tblD h n with
  | some kvs=>if kvs.all (fun q=>q.1.isKt) then .ok (.bl true) h else .bad
  | none=>vHasNot x y h
 | _,_=>vHasNot x y h
def rNon (C:MC):V->V->Hp->(Hp->Prop)->Prop:=fun x y H R=>∃ φ h n a kvs,RH C φ H h/\x=.non/\y=.ref a/\φ[n]?=some a/\tblD h n=some kvs/\(∀ q∈kvs,q.1.isKt=true)/\R H
theorem op_inN (c:Cxt C k X):OpR X (compareOp .In) (fun x y H Q=>rNon C x y H fun H=>Q (.bl false) H):=fun pins s σ H x y v u Q I rx ry h=>by
 obtain ⟨φ,h,n,a,kvs,rh,rfl,rfl,ha,ht,hk,q⟩:=h
 cases rx
 cases ry
 obtain ⟨⟨ks,xs,r,rx',hz,hm,dd⟩,_⟩:=hd_of I c.K c.w rh ha ht
 have hu:X.A.in1.units+6 < cLine:=by have:=c.hu64; show X.A.units+1+6 < cLine; omega
 exact in_none hm dd (fun tk=>key_none (I.tok tk) c.K hu r rx' hk) fun tk=>⟨.bl false,H,I.tok _,rfl,q⟩
theorem op_notInN (c:Cxt C k X):OpR X (compareOp .NotIn) (fun x y H Q=>rNon C x y H fun H=>Q (.bl true) H):=fun pins s σ H x y v u Q I rx ry h=>by
 obtain ⟨φ,h,n,a,kvs,rh,rfl,rfl,ha,ht,hk,q⟩:=h
 cases rx
 cases ry
 obtain ⟨⟨ks,xs,r,rx',hz,hm,dd⟩,_⟩:=hd_of I c.K c.w rh ha ht
 have hu:X.A.in1.units+6 < cLine:=by have:=c.hu64; show X.A.units+1+6 < cLine; omega
 exact notIn_none hm dd (fun tk=>key_none (I.tok tk) c.K hu r rx' hk) fun tk=>⟨.bl true,H,I.tok _,rfl,q⟩
theorem o_hasN:OpS C k X (compareOp .In) vHasN:=fun c=>((o_has c).or (op_inN c)).imp fun x y H Q h=>by
 obtain ⟨φ,h,p,q,rh,rx,ry,po⟩:=h
 unfold vHasN at po
 split at po
 ·rename_i n
  split at po
  ·rename_i kvs ht
   split at po
   ·rename_i hk
    obtain ⟨a,rfl,ha⟩:=ry
    exact .inr ⟨φ,h,n,a,kvs,rh,rx,rfl,ha,ht,List.all_eq_true.mp hk,po.val rh rfl⟩
   ·exact po.elim
  ·exact .inl ⟨φ,h,_,_,rh,rx,ry,po⟩
 ·exact .inl ⟨φ,h,_,_,rh,rx,ry,po⟩
theorem o_hasNotN:OpS C k X (compareOp .NotIn) vHasNotN:=fun c=>((o_hasNot c).or (op_notInN c)).imp fun x y H Q h=>by
 obtain ⟨φ,h,p,q,rh,rx,ry,po⟩:=h
 unfold vHasNotN at po
 split at po
 ·rename_i n
  split at po
  ·rename_i kvs ht
   split at po
   ·rename_i hk
    obtain ⟨a,rfl,ha⟩:=ry
    exact .inr ⟨φ,h,n,a,kvs,rh,rx,rfl,ha,ht,List.all_eq_true.mp hk,po.val rh rfl⟩
   ·exact po.elim
  ·exact .inl ⟨φ,h,_,_,rh,rx,ry,po⟩
 ·exact .inl ⟨φ,h,_,_,rh,rx,ry,po⟩
variable {h:PH}
@[simp] theorem vHasN_tup {xs:List PV} {y:PV}:vHasN (.tup xs) y h=vHas (.tup xs) y h:=by unfold vHasN; rfl
@[simp] theorem vHasNotN_tup {xs:List PV} {y:PV}:vHasNotN (.tup xs) y h=vHasNot (.tup xs) y h:=by unfold vHasNotN; rfl
theorem vHasN_non {n:Nat} {kvs:List (PV×PV)} (e:tblD h n=some kvs) (hk:kvs.all (fun q=>q.1.isKt)=true):vHasN .non (.ref n) h=.ok (.bl false) h:=by simp [vHasN,e,hk]
end
end L2
set_option Elab.async false
set_option linter.all false
set_option maxRecDepth 100000
namespace L2
open PySem PySem.Spec PyProof.Rows
def NoFix:HO->Prop
 | .tup _=>False
 | .own _=>False
 | .tbl _=>False
 | _=>True
section
variable {X:Cx} {pins:List (Addr×Obj)} {σ:St} {H:Hp} {s:Shared}
theorem Inv.swap {d:Addr} {u u':HO} (I:Inv X pins σ H s) (hd:H d=some u) (hu:NoFix u) (hz:∀ o z,X.H₀ d≠some (.frz o z)) (new:ObjOk X.prog X.w (upd H d u') s.heap d u'):Inv X pins σ (upd H d u') s:=by
 have nn:∀ b,H b=none->b≠d:=fun b n z=>by rw [z,hd] at n; cases n
 have nt:∀ b xs,H b=some (.tup xs)->b≠d:=fun b xs n z=>by rw [z,hd] at n; cases n; exact hu
 have no:∀ b y,H b=some (.own y)->b≠d:=fun b xs n z=>by rw [z,hd] at n; cases n; exact hu
 have nb:∀ b y,H b=some (.tbl y)->b≠d:=fun b xs n z=>by rw [z,hd] at n; cases n; exact hu
 refine ⟨I.ok,I.os,I.bare,⟨I.base.keep,I.base.slot,fun b o e n hx=>?_,I.base.there,fun b xs e=>?_,fun b o xs e=>?_,fun b ps e=>?_⟩,I.loc,I.cell,?_,fun x c e=>?_,fun p hp=>?_,fun b o e=>?_,I.len⟩
 ·have:=I.base.free b o e n hx
  rw [upd_ne (nn b this)]; exact this
 ·have:=I.base.tups b xs e
  rw [upd_ne (nt b xs this)]; exact this
 ·have:=I.base.frzs b o xs e
  have ne:b≠d:=fun z=>hz o xs (z ▸ e)
  rw [upd_ne ne]; exact this
 ·obtain ⟨m,e1⟩:=I.base.tbls b ps e
  exact ⟨m,by rw [upd_ne (nb b _ e1)]; exact e1⟩
 ·rw [upd_ne (nn _ I.free)]; exact I.free
 ·have:=I.freeC x c e
  rw [upd_ne (nn _ this)]; exact this
 ·obtain ⟨e,n,r⟩:=I.pin p hp
  exact ⟨e,by rw [upd_ne (nn _ n)]; exact n,r⟩
 ·by_cases hb:b=d
  ·subst hb; rw [upd_same] at e; cases e; exact new
  ·rw [upd_ne hb] at e
   exact (I.hok b o e).stay (fun c v _ q=>q) (fun c q=>by rw [upd_ne (no c b q)]; exact q) fun c xs q=>by rw [upd_ne (nt c xs q)]; exact q
theorem Inv.nofrz {d:Addr} (I:Inv X pins σ H s) (hd:∀ o z,H d≠some (.frz o z)):∀ o z,X.H₀ d≠some (.frz o z):=fun o z e=>hd o z (I.base.frzs d o z e)
theorem Inv.freeze {d:Addr} {u:HO} {oc:Obj} (I:Inv X pins σ H s) (hd:H d=some u) (hu:NoFix u) (hf:∀ o z,u≠.frz o z) (ho:s.heap.get? d=some oc):Inv X pins σ (upd H d (.frz oc u)) s:=by
 have nt:∀ b xs,H b=some (.tup xs)->b≠d:=fun b xs n z=>by rw [z,hd] at n; cases n; exact hu
 have no:∀ b y,H b=some (.own y)->b≠d:=fun b xs n z=>by rw [z,hd] at n; cases n; exact hu
 refine I.swap hd hu (I.nofrz fun o z e=>?_) ⟨ho,(I.hok d u hd).stay (fun c v _ q=>q) (fun c q=>by rw [upd_ne (no c d q)]; exact q) fun c xs q=>by rw [upd_ne (nt c xs q)]; exact q⟩
 rw [hd] at e
 exact hf o z (Option.some.inj e)
theorem Inv.thaw {d:Addr} {u:HO} {oc:Obj} (I:Inv X pins σ H s) (hd:H d=some (.frz oc u)) (hz:∀ o z,X.H₀ d≠some (.frz o z)):Inv X pins σ (upd H d u) s:=by
 have nt:∀ b xs,H b=some (.tup xs)->b≠d:=fun b xs n z=>by rw [z,hd] at n; cases n
 have no:∀ b y,H b=some (.own y)->b≠d:=fun b xs n z=>by rw [z,hd] at n; cases n
 obtain ⟨_,q⟩:=I.hok d _ hd
 exact I.swap hd trivial hz (q.stay (fun c v _ q=>q) (fun c q=>by rw [upd_ne (no c d q)]; exact q) fun c xs q=>by rw [upd_ne (nt c xs q)]; exact q)
end
def ItI (dc:Addr) (oc:Obj) (u:HO) (ks:List (V×V)):It:=
 ⟨fun i H=>H dc=some (.frz oc u)/\i < ks.length,fun i H x H'=>∃ t kv,H t=none/\ks[i]?=some kv/\x=.ref t/\H'=upd H t (.tup [kv.1,kv.2]),fun i H=>H dc=some (.frz oc u)/\ks.length<=i⟩
def ItK (dc:Addr) (oc:Obj) (u:HO) (ks:List V):It:=
 ⟨fun i H=>H dc=some (.frz oc u)/\i < ks.length,fun i H x H'=>H'=H/\ks[i]?=some x,fun i H=>H dc=some (.frz oc u)/\ks.length<=i⟩
theorem turn_items {P:Program} {w:World} {K:PySem.W.Frag} {elts:List Expr} {x1:Nat} {pos:Pos} (it dc:Addr) (oc:Obj) (u:HO) (es:Array DictEntry) (ep:Nat) (h2:oc.data=.dict es ep) (ks:List (V×V)) (hl:ks.length=es.size)
  (hk:∀ (i:Nat) (hi:i < es.size),∃ kv,ks[i]?=some kv/\RelV kv.1 es[i].key/\RelV kv.2 es[i].val):Turn P w K (.Tuple elts x1 pos) (ItI dc oc u ks) [it] it (fun i h=>∃ ok ov,IsItemIter h it dc i es.size ep ok ov) where
 mem:=by simp
 obj:=fun i h ⟨ok,ov,st⟩ b hb=>by
  have e:b=it:=by simpa using hb
  subst e
  exact ⟨_,st,fun v z=>by cases z⟩
 keep:=fun i h h' ⟨ok,ov,st⟩ k=>⟨ok,ov,k it (by simp) _ st⟩
 item:=by
  intro X hP hw hK hc i pins s σ H E I hf ⟨ok,ov,st⟩ ⟨hg,hi⟩
  subst hP hw hK
  have hi':i < es.size:=by omega
  obtain ⟨kv,ekv,r1,r2⟩:=hk i hi'
  obtain ⟨f0,f1,f2,f3,f4,f5⟩:=hf it (by simp)
  have hoc:s.heap.get? dc=some oc:=(I.hok dc _ hg).1
  refine next_item st hoc h2 hi' fun h' out gt kp=>⟨_,rfl,?_⟩
  refine wpAny_letOwnedTupleGo_items (s:={ s with heap:=h' }) out fun h'' hI same=>?_
  have fr:H s.heap.objs.size=none:=I.hok.fresh (Nat.le_refl _)
  have ne:s.heap.objs.size≠it:=Nat.ne_of_gt (Heap.lt_size st)
  have gt':h''.get? s.heap.objs.size=some { cls:=.type "tuple",data:=.seq #[es[i].key,es[i].val] }:=(same.2 _ ne).trans gt
  have kp':∀ (b:Addr) (o:Obj),b≠it->s.heap.get? b=some o->h''.get? b=some o:=fun b o hb e=>(same.2 b hb).trans (kp b o hb e)
  have nit:∀ b u,H b=some u->b≠it:=fun b u e z=>by rw [z,f0] at e; cases e
  have nsz:∀ b u,H b=some u->b≠s.heap.objs.size:=fun b u e z=>by rw [z,fr] at e; cases e
  refine ⟨.ref s.heap.objs.size,upd H s.heap.objs.size (.tup [kv.1,kv.2]),?_,rfl,⟨_,kv,fr,ekv,rfl,rfl⟩,⟨_,_,hI⟩,fun b hb=>?_⟩
  ·refine Inv.step (s:=s) (h':=h'') (H:=H) (g':=s.gens) (d':=s.drawn) (t':=s.toks) (ch:=[it]) I (fun b hb=>?_) (fun b o _ _ hc e _=>kp' b o (fun z=>hc (by simp [z])) e) (fun b o _ _ hc e _=>⟨o.slots,kp' b o (fun z=>hc (by simp [z])) e⟩) (fun b o hc e n=>?_)
    (fun b o hc e=>⟨o,kp' b o (fun z=>hc (by simp [z])) e⟩) (fun b xs e=>by rw [upd_ne (nsz _ _ e)]; exact e) (fun b o u e=>by rw [upd_ne (nsz _ _ e)]; exact e) (fun b ps e=>⟨#[],by rw [upd_ne (nsz _ _ e),e]; simp⟩) (fun m hm=>?_) (fun b u e=>?_) I.bare
   ·have e:b=it:=by simpa using hb
    subst e
    exact ⟨f3,f1,f4,f5⟩
   ·rw [upd_ne (Nat.ne_of_lt (Heap.lt_size e))]; exact n
   ·obtain ⟨o,es,ep,ho,r⟩:=hm
    exact ⟨o,es,ep,kp' _ o (Ne.symm f1) ho,r⟩
   ·by_cases hb:b=s.heap.objs.size
    ·subst hb
     rw [upd_same] at e
     cases e
     exact ⟨by show 2<=sizeLine; rw [sizeLine_num]; decide,[es[i].key,es[i].val],.cons r1 (.cons r2 .nil),_,gt',rfl,⟨_,rfl⟩,rfl⟩
    ·rw [upd_ne hb] at e
     refine (I.hok b u e).stay (fun c v hc q=>kp' c v ?_ q) (fun c q=>by rw [upd_ne (nsz _ _ q)]; exact q) fun c xs q=>by rw [upd_ne (nsz _ _ q)]; exact q
     rcases hc with z | z
     ·rw [z]; exact nit b u e
     ·exact nit c _ z
  ·have e:b=it:=by simpa using hb
   subst e
   rw [upd_ne (Ne.symm ne)]; exact f0
 done:=by
  intro X hP hw hK hc i pins s σ H E I hf ⟨ok,ov,st⟩ ⟨hg,hi⟩
  subst hP hw hK
  obtain ⟨f0,f1,f2,f3,f4,f5⟩:=hf it (by simp)
  have hoc:s.heap.get? dc=some oc:=(I.hok dc _ hg).1
  exact end_items (I.ok.hd hc) st hoc h2 (by omega) fun h' eb=>⟨rfl,I.turned (t':=s.toks) (fun b o hb e=>eb b o hb e) f0 f1 f3 f4 f5⟩
 self:=fun _ _ _ _ _ ⟨_,_,st⟩ h=>self_items st h
theorem turn_keys {P:Program} {w:World} {K:PySem.W.Frag} {tg:Expr} (it dc:Addr) (oc:Obj) (u:HO) (es:Array DictEntry) (ep:Nat) (h2:oc.data=.dict es ep) (ks:List V) (hl:ks.length=es.size)
  (hk:∀ (i:Nat) (hi:i < es.size),∃ kv,ks[i]?=some kv/\RelV kv es[i].key):Turn P w K tg (ItK dc oc u ks) [it] it (fun i h=>h.IsKeyIter it dc i es.size ep) where
 mem:=by simp
 obj:=fun i h st b hb=>by
  have e:b=it:=by simpa using hb
  subst e
  obtain ⟨o,e,c,d⟩:=st
  exact ⟨o,e,fun v z=>by rw [d] at z; cases z⟩
 keep:=fun i h h' st k=>st.at fun o e=>k it (by simp) o e
 item:=by
  intro X hP hw hK hc i pins s σ H E I hf st ⟨hg,hi⟩
  subst hP hw hK
  have hi':i < es.size:=by omega
  obtain ⟨kv,ekv,r1⟩:=hk i hi'
  obtain ⟨f0,f1,f2,f3,f4,f5⟩:=hf it (by simp)
  have hoc:s.heap.get? dc=some oc:=(I.hok dc _ hg).1
  refine next_key st hoc h2 hi' fun h' st' sb=>?_
  have I1:Inv X pins σ H { s with heap:=h' }:=I.turned (t':=s.toks) (fun b o hb e=>(sb.2 b hb).trans e) f0 f1 f3 f4 f5
  obtain ⟨o,e,c,d⟩:=id st'
  exact ⟨_,rfl,go_of (s:={ s with heap:=h' }) e c d (by decide) ⟨kv,H,I1,r1,⟨rfl,ekv⟩,st',fun b hb=>(hf b hb).1⟩⟩
 done:=by
  intro X hP hw hK hc i pins s σ H E I hf st ⟨hg,hi⟩
  subst hP hw hK
  obtain ⟨f0,f1,f2,f3,f4,f5⟩:=hf it (by simp)
  have hoc:s.heap.get? dc=some oc:=(I.hok dc _ hg).1
  exact end_keys (I.ok.hd hc) st hoc h2 (by omega) fun h' eb=>⟨rfl,I.turned (t':=s.toks) (fun b o hb e=>eb b o hb e) f0 f1 f3 f4 f5⟩
 self:=fun _ _ _ _ _ st h=>wpAny_pyIter_keyiter st h
def itemsM:MO->Option (List PV)
 | .dK kvs=>some (kvs.map fun kv=>.tup [kP kv.1,kv.2])
 | .dD kvs=>some (kvs.map fun kv=>.tup [kv.1,kv.2])
 | _=>none
def keysM:MO->Option (List PV)
 | .dK kvs=>some (kvs.map fun kv=>kP kv.1)
 | .dD kvs=>some (kvs.map (·.1))
 | _=>none
def isDO:Option MO->Bool
 | some (.dK _)=>true
 | some (.dD _)=>true
 | _=>false
def wkI (b:Bool) (x:PV) (h:PH):Option (Nat×MO×List PV):=match x with
 | .ref n=>match h[n]? with
  | some (.vw 0 d)=>if b then (h[d]?).bind fun o=>(itemsM o).map fun xs=>(d,o,xs) else none
  | some o=>(keysM o).map fun xs=>(n,o,xs)
  | none=>none
 | _=>none
def mWalk (b:Bool) (m:Me):Mi:=fun δ h=>(m δ h).bind fun x h1=>match wkI b x h1 with
 | some (d,o,xs)=>.ok ⟨xs,fun _=>true⟩ (h1.set d (.fz o))
 | none=>.bad
section
variable {C:MC} {k:Nat} {X:Cx} {pins:List (Addr×Obj)} {σ:St} {H:Hp} {s:Shared} {φ:List Addr}
theorem kV_rel {k:Key} {v:Value} (h:keyIs k v=true):RelV (kV k) v:=by
 rcases keyIs_shape h with ⟨i,t,rfl,rfl⟩ | ⟨x,t,rfl,rfl⟩
 ·exact ⟨t,rfl⟩
 ·exact ⟨t,rfl⟩
theorem pair_left {α β:Type} {F:α->β->Prop}:∀ {l:List α} {m:List β},Paired F l m->∀ {i:Nat} {a:α},l[i]?=some a->∃ b,m[i]?=some b/\F a b
 | _,_,.nil,i,a,e=>by simp at e
 | _,_,.cons (a:=x) (b:=y) r t,0,a,e=>by
  have:x=a:=by simpa using e
  subst this
  exact ⟨y,rfl,r⟩
 | _,_,.cons r t,i+1,a,e=>by
  obtain ⟨b,h1,h2⟩:=pair_left t (i:=i) (a:=a) (by simpa using e)
  exact ⟨b,by simpa using h1,h2⟩
theorem pair_right {α β:Type} {F:α->β->Prop}:∀ {l:List α} {m:List β},Paired F l m->∀ {i:Nat} {b:β},m[i]?=some b->∃ a,l[i]?=some a/\F a b
 | _,_,.nil,i,a,e=>by simp at e
 | _,_,.cons (a:=x) (b:=y) r t,0,b,e=>by
  have:y=b:=by simpa using e
  subst this
  exact ⟨x,rfl,r⟩
 | _,_,.cons r t,i+1,b,e=>by
  obtain ⟨a,h1,h2⟩:=pair_right t (i:=i) (b:=b) (by simpa using e)
  exact ⟨a,by simpa using h1,h2⟩
theorem kP_self (a:Key):RV C φ H (kP a) (kV a):=by cases a <;> rfl
theorem keys_rkv {kvs:List (Key×PV)} {ks:List (Key×V)} (rk:RKv C φ H kvs ks):RVs C φ H (kvs.map fun kv=>kP kv.1) ((ks.map fun q=>(kV q.1,q.2)).map (·.1)):=by
 unfold RKv at rk
 induction rk with
 | nil=>trivial
 | @cons p q ps qs e t ih=>exact ⟨by show RV C φ H (kP p.1) (kV q.1); rw [e.1]; exact kP_self q.1,ih⟩
theorem keys_rkd {kvs:List (PV×PV)} {ks:List (PV×Addr×V)} (rk:RKd C φ H kvs ks):RVs C φ H (kvs.map (·.1)) ((ks.map fun q=>(V.ref q.2.1,q.2.2)).map (·.1)):=by
 unfold RKd at rk
 induction rk with
 | nil=>trivial
 | @cons p q ps qs e t ih=>exact ⟨e.2.2.1,ih⟩
structure RawW (C:MC) (φ:List Addr) (H:Hp) (s:Shared) (b:Addr) (o:MO) (ks:List (V×V)) (u:HO) (oc:Obj) (es:Array DictEntry) (ep:Nat):Prop where
 at':H b=some u
 nf:NoFix u
 nz:∀ o z,u≠.frz o z
 nt:NoTup (some u)
 get:s.heap.get? b=some oc
 cls:oc.cls=.type "dict"
 data:oc.data=.dict es ep
 nsys:(b == sysModules)=false
 fz:∀ φ' H',φ<+:φ'->H' b=some (.frz oc u)->Kp H H'->RO C φ' H' b (.fz o)
 len:ks.length=es.size
 ent:∀ (i:Nat) (hi:i < es.size),∃ kv,ks[i]?=some kv/\RelV kv.1 es[i].key/\RelV kv.2 es[i].val
 keys:∀ xs,keysM o=some xs->RVs C φ H xs (ks.map (·.1))
 items:∀ xs,itemsM o=some xs->xs.length=ks.length/\∀ (i:Nat) p,xs[i]?=some p->∃ p1 p2 kv,p=.tup [p1,p2]/\ks[i]?=some kv/\RV C φ H p1 kv.1/\RV C φ H p2 kv.2
theorem raw_w {h:PH} {d:Nat} {b:Addr} {o:MO} (c:Cxt C k X) (I:Inv X pins σ H s) (rh:RH C φ H h) (hb:φ[d]?=some b) (ho:h[d]?=some o) (hd:isDO (some o)=true):∃ ks u oc es ep,RawW C φ H s b o ks u oc es ep:=by
 cases o with
 | dK kvs=>
  obtain ⟨ks,hH,rk⟩:=rh.at' d b _ hb ho
  obtain ⟨z,hm,vs,rel,dd⟩:=dk_of I.hok hH
  obtain ⟨oc,es,ep,g1,g2,g3,g4,g5,g6⟩:=dd
  have l1:ks.length=vs.length:=Paired.length rel
  have l2:es.size=vs.length:=by have:=pairs_vals g5; have:=congrArg List.length this; simpa using this
  refine ⟨ks.map fun q=>(kV q.1,q.2),_,oc,es,ep,hH,trivial,(fun _ _ e=>by cases e),trivial,g1,g2.1,g3,hm,fun φ' H' p e t=>⟨oc,ks,e,rk.mono p t⟩,by rw [List.length_map,l1,l2],fun i hi=>?_,fun xs hx=>?_,fun xs hx=>?_⟩
  ·have hv:vs[i]?=some (vs[i]'(by omega)):=by simp [show i < vs.length by omega]
   have he:es.toList[i]?=some es[i]:=by simp [hi]
   obtain ⟨q1,q2⟩:=g5.get? he hv
   obtain ⟨kv,ekv,rkv⟩:=pair_right rel hv
   refine ⟨(kV kv.1,kv.2),by rw [List.getElem?_map,ekv]; rfl,?_,?_⟩
   ·show RelV (kV kv.1) es[i].key
    rw [rkv.1]
    exact kV_rel q1
   ·show RelV kv.2 es[i].val
    rw [q2]
    exact rkv.2
  ·cases hx
   exact keys_rkv rk
  ·cases hx
   have lk:kvs.length=ks.length:=Paired.length rk
   refine ⟨by rw [List.length_map,List.length_map,lk],fun i p e=>?_⟩
   rw [List.getElem?_map] at e
   obtain ⟨kv,e1,rfl⟩:=Option.map_eq_some_iff.mp e
   obtain ⟨q,e2,r2⟩:=pair_left rk e1
   exact ⟨_,_,(kV q.1,q.2),rfl,by rw [List.getElem?_map,e2]; rfl,by show RV C φ H (kP kv.1) (kV q.1); rw [r2.1]; exact kP_self q.1,r2.2⟩
 | dD kvs=>
  obtain ⟨ks,hH,rk⟩:=rh.at' d b _ hb ho
  have hO:ObjOk X.prog X.w H s.heap b (dDO C.w b ks):=I.hok b _ hH
  obtain ⟨⟨hz,hm,xs,rx,oc,es,ep,g1,g2,g3,g4,g5⟩,_⟩:=hO
  have l1:ks.length=xs.length:=Paired.length rx
  have l2:es.size=xs.length:=by have:=congrArg List.length g4; simpa using this
  refine ⟨ks.map fun q=>(V.ref q.2.1,q.2.2),_,oc,es,ep,hH,trivial,(fun _ _ e=>by cases e),trivial,g1,g2.1,g3,hm,fun φ' H' p e t=>⟨oc,ks,e,rk.mono p t⟩,by rw [List.length_map,l1,l2],fun i hi=>?_,fun xs hx=>?_,fun xs hx=>?_⟩
  ·have hv:xs[i]?=some (xs[i]'(by omega)):=by simp [show i < xs.length by omega]
   have he:es.toList[i]?=some es[i]:=by simp [hi]
   rw [g4,List.getElem?_map,hv] at he
   have he':=Option.some.inj he
   obtain ⟨kv,ekv,rkv⟩:=pair_right rx hv
   refine ⟨(V.ref kv.2.1,kv.2.2),by rw [List.getElem?_map,ekv]; rfl,?_,?_⟩
   ·show RelV (V.ref kv.2.1) es[i].key
    rw [<- he',rkv.2.1]
    rfl
   ·show RelV kv.2.2 es[i].val
    rw [<- he']
    exact rkv.2.2
  ·cases hx
   exact keys_rkd rk
  ·cases hx
   have lk:kvs.length=ks.length:=Paired.length rk
   refine ⟨by rw [List.length_map,List.length_map,lk],fun i p e=>?_⟩
   rw [List.getElem?_map] at e
   obtain ⟨kv,e1,rfl⟩:=Option.map_eq_some_iff.mp e
   obtain ⟨q,e2,r2⟩:=pair_left rk e1
   exact ⟨_,_,(V.ref q.2.1,q.2.2),rfl,by rw [List.getElem?_map,e2]; rfl,r2.2.2.1,r2.2.2.2⟩
 | _=>cases hd
theorem keysM_do {o:MO} {xs:List PV} (h:keysM o=some xs):isDO (some o)=true:=by cases o <;> first | rfl | cases h
theorem itemsM_do {o:MO} {xs:List PV} (h:itemsM o=some xs):isDO (some o)=true:=by cases o <;> first | rfl | cases h
theorem wkI_inv {b:Bool} {x:PV} {h:PH} {d:Nat} {o:MO} {xs:List PV} (e:wkI b x h=some (d,o,xs)):∃ n,x=.ref n/\((h[n]?=some (.vw 0 d)/\b=true/\h[d]?=some o/\itemsM o=some xs)\/(h[n]?=some o/\n=d/\keysM o=some xs)):=by
 unfold wkI at e
 split at e
 ·rename_i n
  refine ⟨n,rfl,?_⟩
  split at e
  ·rename_i d' hv
   split at e
   ·rename_i hb
    cases e1:h[d']? with
    | none=>rw [e1] at e; cases e
    | some o'=>
     rw [e1] at e
     cases e2:itemsM o' with
     | none=>simp [e2] at e
     | some ys=>
      simp [e2] at e
      obtain ⟨rfl,rfl,rfl⟩:=e
      exact .inl ⟨hv,hb,e1,e2⟩
   ·cases e
  ·rename_i o' _ hv
   cases e2:keysM o' with
   | none=>rw [e2] at e; cases e
   | some ys=>
    rw [e2] at e
    simp at e
    obtain ⟨rfl,rfl,rfl⟩:=e
    exact .inr ⟨hv,rfl,e2⟩
  ·cases e
 ·cases e
def walk2 (b:Bool) (x:PV) (h1:PH):Rs Wk:=match wkI b x h1 with
 | some (d,o,xs)=>.ok ⟨xs,fun _=>true⟩ (h1.set d (.fz o))
 | none=>.bad
theorem i_walk {iter tg:Expr} {m:Me} (b:Bool) (hb:b=true->∃ elts x1 pos,tg=.Tuple elts x1 pos) (h:SE C k X iter m):SI C k X tg iter (mWalk b m):=fun c=>by
 intro pins s σ H R I q
 obtain ⟨φ,δ,hh,rh,re,p⟩:=q
 have key:rd C m σ H fun v H1=>∃ φ1 x h1,φ<+:φ1/\Kp H H1/\RH C φ1 H1 h1/\RV C φ1 H1 x v/\postI C φ1 H1 (walk2 b x h1) R:=by
  refine ⟨φ,δ,hh,rh,re,?_⟩
  unfold mWalk at p
  cases e:m δ hh with
  | ok x h1=>
   rw [e] at p
   intro φ' v H' p' t' rh' rv'
   refine ⟨φ',x,h1,p',t',rh',rv',?_⟩
   show postI C φ' H' (walk2 b x h1) R
   have p0:postI C φ H (walk2 b x h1) R:=p
   cases e2:walk2 b x h1 with
   | ok w h2=>rw [e2] at p0; exact fun φ2 H2 J p2 t2=>p0 φ2 H2 J (p'.trans p2) (t'.trans t2)
   | exc z h2=>rw [e2] at p0; exact fun φ2 H2 p2 t2=>p0 φ2 H2 (p'.trans p2) (t'.trans t2)
   | bad=>rw [e2] at p0; exact p0
  | exc x h1=>rw [e] at p; exact p
  | bad=>rw [e] at p; exact p
 refine thn (h c pins s σ H _ I key) fun v s1 hz=>?_
 obtain ⟨x,H1,I1,r1,φ1,x',h1,p1,t1,rh1,rv1,q1⟩:=hz
 unfold walk2 at q1
 cases e:wkI b x' h1 with
 | none=>rw [e] at q1; exact q1.elim
 | some t=>
  obtain ⟨d,o,xs⟩:=t
  rw [e] at q1
  dsimp only at q1
  obtain ⟨n,rfl,hcase⟩:=wkI_inv e
  obtain ⟨a,rfl,ha⟩:=rv1
  cases r1
  -- the frozen heap
  have fin:∀ {bb:Addr} {ks:List (V×V)} {u:HO} {oc:Obj} {es:Array DictEntry} {ep:Nat} (hbb:φ1[d]?=some bb) (W:RawW C φ1 H1 s1 bb o ks u oc es ep) (ob:Obj) (J:It) (tn:Nat->Heap->Prop),(∀ φ2 H2 h2,φ1<+:φ2->Kp (upd H1 bb (.frz oc u)) H2->RH C φ2 H2 h2->∀ i:Nat,
    (i < xs.length->J.go i H2/\∀ x H',J.yld i H2 x H'->(∃ p,xs[i]?=some p/\RV C φ2 H' p x)/\Kp H2 H'/\RH C φ2 H' h2)/\(xs.length<=i->J.stop i H2))->
    Turn X.prog X.w X.K tg J [s1.heap.objs.size] s1.heap.objs.size tn->tn 0 (s1.heap.push ob)->PIE X pins σ tg R (.ref s1.heap.objs.size) { s1 with heap:=s1.heap.push ob }:=fun {bb ks u oc es ep} hbb W ob J tn hJ hT h0=>by
   have I2:=I1.freeze W.at' W.nf W.nz W.get
   have nt:NoTup (H1 bb):=by rw [W.at']; exact W.nt
   refine ⟨s1.heap.objs.size,[s1.heap.objs.size],tn,J,upd H1 bb (.frz oc u),rfl,I2.kept (t':=s1.toks) fun b o e=>Heap.get?_push_of_some _ e,hT,h0,fun b hb=>?_,?_⟩
   ·have e:b=s1.heap.objs.size:=by simpa using hb
    subst e
    exact I2.fpOk (Nat.le_refl _) (I2.hok.fresh (Nat.le_refl _))
   ·exact q1 φ1 _ J List.prefix_rfl (Kp.upd nt) (rh1.write hbb nt (W.fz φ1 _ List.prefix_rfl upd_same (Kp.upd nt))) fun φ2 H2 h2 p2 t2 rh2 _ i=>hJ φ2 H2 h2 p2 t2 rh2 i
  rcases hcase with ⟨hv,hbt,ho,hx⟩ | ⟨ho,rfl,hx⟩
  ·obtain ⟨bb,hbb,hH⟩:=rh1.at' n a _ ha hv
   obtain ⟨ks,u,oc,es,ep,W⟩:=raw_w c I1 rh1 hbb ho (itemsM_do hx)
   obtain ⟨elts,x1,pos,rfl⟩:=hb hbt
   have hview:s1.heap.IsItemsView a bb:=(I1.hok a _ hH).1
   obtain ⟨lx,ex⟩:=W.items xs hx
   refine iter_items hview W.get W.data (fin hbb W _ (ItI bb oc u ks) _ (fun φ2 H2 h2 p2 t2 rh2 i=>⟨fun hi=>⟨⟨t2.2 _ _ _ upd_same,by omega⟩,fun x H' y=>?_⟩,fun hi=>⟨t2.2 _ _ _ upd_same,by omega⟩⟩) (turn_items _ bb oc u es ep W.data ks W.len W.ent) ⟨.none,.none,Heap.get?_push_size _ rfl⟩)
   obtain ⟨t,kv,ht,ekv,rfl,rfl⟩:=y
   obtain ⟨p1,p2',kv',epp,ekv',rp1,rp2⟩:=ex i xs[i] (by simp [hi])
   rw [ekv] at ekv'
   cases ekv'
   have nt:NoTup (H1 bb):=by rw [W.at']; exact W.nt
   have T:Kp H1 (upd H2 t (.tup [kv.1,kv.2])):=(Kp.upd nt).trans (t2.trans (Kp.new ht))
   refine ⟨⟨xs[i],by simp [hi],?_⟩,Kp.new ht,rh2.aside ht⟩
   rw [epp]
   exact ⟨t,[kv.1,kv.2],rfl,.inl (.inl upd_same),rp1.mono p2 T,rp2.mono p2 T,trivial⟩
  ·obtain ⟨ks,u,oc,es,ep,W⟩:=raw_w c I1 rh1 ha ho (keysM_do hx)
   have rk:=W.keys xs hx
   have lx:=rk.length
   rw [List.length_map] at lx
   refine iter_keys ⟨oc,W.get,W.cls⟩ W.nsys W.get W.data (fin ha W _ (ItK a oc u (ks.map (·.1))) _ (fun φ2 H2 h2 p2 t2 rh2 i=>⟨fun hi=>⟨⟨t2.2 _ _ _ upd_same,by rw [List.length_map]; omega⟩,fun x H' y=>?_⟩,fun hi=>⟨t2.2 _ _ _ upd_same,by rw [List.length_map]; omega⟩⟩) (turn_keys _ a oc u es ep W.data (ks.map (·.1)) (by rw [List.length_map]; exact W.len) fun i hi=>?_) ⟨_,Heap.get?_push_size _ rfl,rfl,rfl⟩)
   ·obtain ⟨rfl,ey⟩:=y
    have nt:NoTup (H1 a):=by rw [W.at']; exact W.nt
    obtain ⟨p,ep',rp⟩:=rk.get ey
    exact ⟨⟨p,ep',rp.mono p2 ((Kp.upd nt).trans t2)⟩,Kp.refl _,rh2⟩
   ·obtain ⟨kv,ekv,r1,_⟩:=W.ent i hi
    exact ⟨kv.1,by rw [List.getElem?_map,ekv]; rfl,r1⟩
theorem RH.writeQ {h:PH} {H:Hp} {φ:List Addr} (r:RH C φ H h) {n:Nat} {a:Addr} {u:HO} {o:MO} (e:φ[n]?=some a) (t:Kq H (upd H a u)) (q:RO C φ (upd H a u) a o):RH C φ (upd H a u) (h.set n o):=by
 refine ⟨by rw [List.length_set]; exact r.len,r.nd,fun m b ob h1 h2=>?_⟩
 by_cases hm:n=m
 ·subst hm
  rw [e] at h1; cases h1
  have hl:n < h.length:=by rw [<- r.len]; exact (List.getElem?_eq_some_iff.mp e).1
  rw [List.getElem?_set_self hl] at h2
  cases h2
  exact q
 ·rw [List.getElem?_set_ne hm] at h2
  have hb:b≠a:=fun z=>by
   subst z
   exact hm ((List.getElem?_inj (List.getElem?_eq_some_iff.mp e).1 r.nd).mp (e.trans h1.symm))
  exact (r.at' m b ob h1 h2).stayQ List.prefix_rfl t (upd_ne hb)
def thawN (d:Nat) (h:PH):Option PH:=match h[d]? with
 | some (.fz o)=>some (h.set d o)
 | _=>none
theorem thaw_core {φ φ':List Addr} {H H':Hp} {h h2 h3:PH} {d:Nat} (rh:RH C φ H h) (hd:isDO h[d]?=true) (p:φ<+:φ') (t:Kp H H') (rh2:RH C φ' H' h2) (e:thawN d h2=some h3):
  ∃ a oc u,H' a=some (.frz oc u)/\(∀ o z,H a≠some (.frz o z))/\Kp H (upd H' a u)/\RH C φ' (upd H' a u) h3/\Kq H' (upd H' a u):=by
 unfold thawN at e
 split at e
 ·rename_i o ho
  cases e
  cases e0:h[d]? with
  | none=>rw [e0] at hd; cases hd
  | some o0=>
   rw [e0] at hd
   obtain ⟨a,ha,r0⟩:=rh.get e0
   have nf:∀ o z,H a≠some (.frz o z):=fun o z q=>by
    cases o0 with
    | dK kvs=>obtain ⟨ks,q2,_⟩:=r0; rw [q] at q2; cases q2
    | dD kvs=>obtain ⟨ks,q2,_⟩:=r0; rw [q] at q2; cases q2
    | _=>cases hd
   have ha':=pre_get p ha
   have r1:=rh2.at' d a _ ha' ho
   have gen:∀ oc u,H' a=some (.frz oc u)->(∀ xs,u≠.tup xs)->(∀ xs,u≠.lst xs)->Kp H (upd H' a u)/\Kq H' (upd H' a u):=fun oc u q nt nl=>by
    have kq:Kq H' (upd H' a u):=⟨fun b xs z=>by
     have ne:b≠a:=by
      rintro rfl
      rcases z with z | ⟨ob,z⟩
      ·rw [q] at z; cases z
      ·rw [q] at z; cases z; exact nt _ rfl
     unfold Rd; rw [upd_ne ne]; exact z,fun b ob xs z=>by
     have ne:b≠a:=by
      rintro rfl
      rw [q] at z; cases z; exact nl _ rfl
     rw [upd_ne ne]; exact z⟩
    refine ⟨⟨fun b xs z=>kq.1 b xs (t.1 b xs z),fun b ob z q2=>?_⟩,kq⟩
    have ne:b≠a:=fun z2=>nf ob z (z2 ▸ q2)
    rw [upd_ne ne]; exact t.2 b ob z q2
   cases o with
   | dK kvs=>
    obtain ⟨oc,ks,q,r⟩:=r1
    obtain ⟨k1,k2⟩:=gen oc _ q (fun _ z=>by cases z) (fun _ z=>by cases z)
    exact ⟨a,oc,_,q,nf,k1,rh2.writeQ ha' k2 ⟨ks,upd_same,r.monoQ List.prefix_rfl k2⟩,k2⟩
   | dD kvs=>
    obtain ⟨oc,ks,q,r⟩:=r1
    obtain ⟨k1,k2⟩:=gen oc _ q (fun _ z=>by cases z) (fun _ z=>by cases z)
    exact ⟨a,oc,_,q,nf,k1,rh2.writeQ ha' k2 ⟨ks,upd_same,r.monoQ List.prefix_rfl k2⟩,k2⟩
   | _=>exact r1.elim
 ·cases e
def wkD (b:Bool) (m:Me) (δ:Ev) (h:PH):Option Nat:=match m δ h with
 | .ok x h1=>match wkI b x h1 with
  | some (d,_,_)=>if isDO h[d]?=true then some d else none
  | none=>none
 | _=>none
theorem wkD_do {b:Bool} {m:Me} {δ:Ev} {h:PH} {d:Nat} (e:wkD b m δ h=some d):isDO h[d]?=true:=by
 unfold wkD at e
 split at e
 ·split at e
  ·split at e
   ·rename_i hd
    cases e
    exact hd
   ·cases e
  ·cases e
 ·cases e
theorem RE.monoQ {φ:List Addr} {H H':Hp} {δ:Ev} {σ:St} (t:Kq H H') (h:RE C φ H δ σ):RE C φ H' δ σ:=⟨h.1,fun i x e=>let ⟨v,q,r⟩:=h.2 i x e; ⟨v,q,r.monoQ List.prefix_rfl t⟩⟩
def thawF (d:Nat):Fl->Fl
 | .nx δ h=>match thawN d h with
  | some h3=>.nx δ h3
  | none=>.bad
 | .rt p h=>match thawN d h with
  | some h3=>.rt p h3
  | none=>.bad
 | .bk δ h=>match thawN d h with
  | some h3=>.bk δ h3
  | none=>.bad
 | .ct δ h=>match thawN d h with
  | some h3=>.ct δ h3
  | none=>.bad
 | .exc x h=>.exc x h
 | .bad=>.bad
def mThawS (b:Bool) (m:Me) (ms:Ms):Ms:=fun δ h=>match wkD b m δ h with
 | some d=>thawF d (ms δ h)
 | none=>.bad
def thawD (H:Hp) (P:Hp->Prop) (H2:Hp):Prop:=∃ a oc u,H2 a=some (.frz oc u)/\(∀ o z,H a≠some (.frz o z))/\P (upd H2 a u)
theorem z_thaw {st:Stmt} {ms:Ms} (b:Bool) (m:Me) (he:SSt C k X st ms):SSt C k X st (mThawS b m ms):=fun c=>by
 intro pins s σ H D I q
 obtain ⟨φ,δ,h,rh,re,p⟩:=q
 unfold mThawS at p
 cases ed:wkD b m δ h with
 | none=>rw [ed] at p; exact p.elim
 | some d=>
  rw [ed] at p
  dsimp only at p
  have hd:=wkD_do ed
  refine thn (he c pins s σ H { nx:=fun σ=>thawD H (D.nx σ),rt:=fun v=>thawD H (D.rt v),bk:=fun σ=>thawD H (D.bk σ),ct:=fun σ=>thawD H (D.ct σ) } I ⟨φ,δ,h,rh,re,?_⟩) ?_
  ·cases em:ms δ h with
   | bad=>rw [em] at p; exact p.elim
   | exc x h2=>rw [em] at p; exact p
   | nx δ2 h2=>
    rw [em] at p
    intro φ' v H' pp tt rh' rv'
    cases et:thawN d h2 with
    | none=>simp only [thawF,et] at p; exact p.elim
    | some h3=>
     simp only [thawF,et] at p
     obtain ⟨a,oc,u,q,nf,k1,rh3,k2⟩:=thaw_core rh hd pp tt rh' et
     exact ⟨a,oc,u,q,nf,p φ' v _ pp k1 rh3 (RE.monoQ k2 rv')⟩
   | rt x h2=>
    rw [em] at p
    intro φ' v H' pp tt rh' rv'
    cases et:thawN d h2 with
    | none=>simp only [thawF,et] at p; exact p.elim
    | some h3=>
     simp only [thawF,et] at p
     obtain ⟨a,oc,u,q,nf,k1,rh3,k2⟩:=thaw_core rh hd pp tt rh' et
     exact ⟨a,oc,u,q,nf,p φ' v _ pp k1 rh3 (rv'.monoQ List.prefix_rfl k2)⟩
   | bk δ2 h2=>
    rw [em] at p
    intro φ' v H' pp tt rh' rv'
    cases et:thawN d h2 with
    | none=>simp only [thawF,et] at p; exact p.elim
    | some h3=>
     simp only [thawF,et] at p
     obtain ⟨a,oc,u,q,nf,k1,rh3,k2⟩:=thaw_core rh hd pp tt rh' et
     exact ⟨a,oc,u,q,nf,p φ' v _ pp k1 rh3 (RE.monoQ k2 rv')⟩
   | ct δ2 h2=>
    rw [em] at p
    intro φ' v H' pp tt rh' rv'
    cases et:thawN d h2 with
    | none=>simp only [thawF,et] at p; exact p.elim
    | some h3=>
     simp only [thawF,et] at p
     obtain ⟨a,oc,u,q,nf,k1,rh3,k2⟩:=thaw_core rh hd pp tt rh' et
     exact ⟨a,oc,u,q,nf,p φ' v _ pp k1 rh3 (RE.monoQ k2 rv')⟩
  ·intro f s1 hf
   cases f with
   | next=>
    obtain ⟨σ',H2,I2,a,oc,u,q,nf,hq⟩:=hf
    exact ⟨σ',_,I2.thaw q (I.nofrz nf),hq⟩
   | brk=>
    obtain ⟨σ',H2,I2,a,oc,u,q,nf,hq⟩:=hf
    exact ⟨σ',_,I2.thaw q (I.nofrz nf),hq⟩
   | cont=>
    obtain ⟨σ',H2,I2,a,oc,u,q,nf,hq⟩:=hf
    exact ⟨σ',_,I2.thaw q (I.nofrz nf),hq⟩
   | ret w=>
    obtain ⟨v,σ',H2,I2,r,a,oc,u,q,nf,hq⟩:=hf
    exact ⟨v,σ',_,I2.thaw q (I.nofrz nf),r,hq⟩
def vItemsA:PV->List PV->PH->Rs PV:=fun x ps h=>match x,ps with
 | .ref n,[]=>if isDO h[n]?=true then .ok (.ref h.length) (h++[.vw 0 n]) else .bad
 | _,_=>.bad
theorem m_itemsA:MtG C k X "dict" isDct "dict.items" vItemsA:=fun c=>⟨fun pins s σ H x xs v us Q I rx rs h=>by
 obtain ⟨φ,h,p,ps,rh,rp,rps,po⟩:=h
 unfold vItemsA at po
 split at po
 ·rename_i n
  split at po
  ·rename_i hd
   obtain ⟨a,rfl,ha⟩:=rp
   have:xs=[]:=by cases xs <;> first | rfl | exact rps.elim
   subst this
   cases rx
   cases rs
   cases ho:h[n]? with
   | none=>rw [ho] at hd; cases hd
   | some o=>
    rw [ho] at hd
    obtain ⟨ks,u,oc,es,ep,W⟩:=raw_w c I rh ha ho hd
    have hT:s.TypeIs (.ref a) "dict" := ⟨oc,W.get,W.cls⟩
    refine call_meetsIn PySem.F.slot_dict_items hT PySem.F.entry_dict_items (PySem.F.args_dict_items_1 _) (meets_items a W.nsys) ⟨hT,?_⟩
    have fr:H s.heap.objs.size=none:=I.fresh
    refine ⟨.ref s.heap.objs.size,_,I.laid (t':=s.toks) (o:=viewO 0 s.heap.objs.size a) (fun b u e=>Heap.get?_push_of_some _ e) (Nat.le_refl _) ?_,rfl,?_⟩
    ·exact ⟨⟨_,Heap.get?_push_size _ rfl,rfl,rfl⟩,⟨_,Heap.get?_push_size _ rfl⟩,fun h1 h2 ⟨o,e,p⟩ k=>⟨o,k o e,p⟩⟩
    ·exact po (φ++[s.heap.objs.size]) (.ref _) _ (List.prefix_append _ _) (Kp.new fr) (rh.new fr ⟨a,pre_get (List.prefix_append _ _) ha,upd_same⟩) ⟨_,rfl,by rw [<- rh.len]; simp⟩
  ·exact po.elim
 ·exact po.elim,isDct_ty c⟩
end
section
variable {h h1:PH} {δ:Ev}
theorem vItemsA_at {n:Nat} {o:MO} (e:h[n]?=some o) (hd:isDO (some o)=true):vItemsA (.ref n) [] h=.ok (.ref h.length) (h++[.vw 0 n]):=by
 simp only [vItemsA,e,hd,if_true]
theorem wkI_view {n d:Nat} {o:MO} {xs:List PV} (e:h[n]?=some (.vw 0 d)) (e2:h[d]?=some o) (hx:itemsM o=some xs):wkI true (.ref n) h=some (d,o,xs):=by
 simp [wkI,e,e2,hx]
theorem wkI_dict {n:Nat} {b:Bool} {o:MO} {xs:List PV} (e:h[n]?=some o) (hx:keysM o=some xs):wkI b (.ref n) h=some (n,o,xs):=by
 cases o with
 | dK kvs=>simp only [wkI,e,hx,Option.map_some]
 | dD kvs=>simp only [wkI,e,hx,Option.map_some]
 | _=>cases hx
theorem wkD_at {b:Bool} {m:Me} {x:PV} {d:Nat} {o:MO} {xs:List PV} (e:m δ h=.ok x h1) (ew:wkI b x h1=some (d,o,xs)) (hd:isDO h[d]?=true):wkD b m δ h=some d:=by
 simp [wkD,e,ew,hd]
theorem mWalk_at {b:Bool} {m:Me} {x:PV} {d:Nat} {o:MO} {xs:List PV} (e:m δ h=.ok x h1) (ew:wkI b x h1=some (d,o,xs)):mWalk b m δ h=.ok ⟨xs,fun _=>true⟩ (h1.set d (.fz o)):=by
 simp [mWalk,e,ew]
theorem thaw_set {d:Nat} {o:MO} {l:List MO} (e:h1[d]?=some o):thawN d (h1.set d (.fz o)++l)=some (h1++l):=by
 have hl:d < h1.length:=(List.getElem?_eq_some_iff.mp e).1
 have e1:(h1.set d (.fz o)++l)[d]?=some (.fz o):=by rw [List.getElem?_append_left (by rw [List.length_set]; exact hl),List.getElem?_set_self hl]
 unfold thawN
 rw [e1]
 dsimp only
 congr 1
 rw [List.set_append_left _ _ (by rw [List.length_set]; exact hl),List.set_set]
 congr 1
 apply List.ext_getElem?
 intro i
 by_cases hi:d=i
 ·subst hi; rw [List.getElem?_set_self hl,e]
 ·rw [List.getElem?_set_ne hi]
theorem setcomp_walk {α:Type} {b:Bool} {m:Me} {x:PV} {d i:Nat} {o:MO} {js:List (Option Nat)} {tg:Mg} {tst:Ev->PH->Rs Bool} {elt:Me} {ys:List α} {emb:α->PV} (f:α->Option PV) (e:m δ h=.ok x h1) (ew:wkI b x h1=some (d,o,ys.map emb)) (hd:isDO h[d]?=true) (ho:h1[d]?=some o) (hz:ys.length<=16777216)
  (step:∀ y∈ys,∃ δ1,tg (emb y) (capE js δ)=some δ1/\∀ h,match f y with
   | none=>tst δ1 h=.ok false h
   | some p=>tst δ1 h=.ok true h/\elt δ1 h=.ok p h):mThawS b m (mSet i (mComp js (mWalk b m) tg tst elt)) δ h=.nx (δ.set i (some (.ref h1.length))) (h1++[.lst (ys.filterMap f)]):=by
 have hc:=comp_pure (js:=js) (tg:=tg) (tst:=tst) (elt:=elt) (δ:=δ) (h:=h) (g:=fun _=>true) f (mWalk_at e ew) (fun _ _=>rfl) hz fun y hy=>let ⟨δ1,a,b⟩:=step y hy; ⟨δ1,a,fun h _=>b h⟩
 unfold mThawS
 rw [wkD_at e ew hd]
 dsimp only
 have hs:mSet i (mComp js (mWalk b m) tg tst elt) δ h=.nx (δ.set i (some (.ref h1.length))) (h1.set d (.fz o)++[.lst (ys.filterMap f)]):=by
  unfold mSet
  rw [hc,List.length_set]
  rfl
 rw [hs]
 simp only [thawF,thaw_set ho]
end
end L2
set_option Elab.async false
set_option linter.all false
set_option maxRecDepth 100000
namespace L2
open PySem PySem.Spec PyProof.Rows
section
variable {C:MC} {k:Nat} {X:Cx}
end
section
variable {h:PH}
end
end L2
set_option Elab.async false
set_option linter.all false
set_option maxRecDepth 100000
namespace L2
open PySem PySem.Spec PyProof.Rows PySem.SeqAt
section
variable {X:Cx} {pins:List (Addr×Obj)} {σ:St} {H:Hp} {s:Shared}
end
section
variable {C:MC} {k:Nat} {X:Cx} {pins:List (Addr×Obj)} {σ:St} {H:Hp} {s:Shared} {φ:List Addr} {h:PH}
end
end L2
set_option Elab.async false
set_option linter.all false
set_option maxRecDepth 100000
namespace L2
open PySem PySem.Spec PyProof.Rows PySem.SeqAt PySem.W
section
variable {X:Cx} {pins:List (Addr×Obj)} {σ:St} {H:Hp} {s:Shared} {A:Around} {E:Value->Shared->Prop}
end
def hdk:PV->Option Nat
 | .tup (.int _ :: _)=>some 0
 | .tup (.str _ :: _)=>some 1
 | .tup (.tup _ :: _)=>some 2
 | _=>none
def ltV (x y:PV):Bool:=match x.d,y.d with
 | some d,some e=>ltD d e == some true
 | _,_=>false
structure OkV (b:Bool) (ks:List PV):Prop where
 dat:∀ x∈ks,∃ xs ds,x=.tup xs/\PV.ds xs=some ds/\D.depths ds<=40
 hd:∃ t,((t == 2)=!b)/\t<=2/\∀ x∈ks,hdk x=some t
 can:∀ x∈ks,∀ y∈ks,∃ d e c,x.d=some d/\y.d=some e/\ltD d e=some c
 tr:∀ x∈ks,∀ y∈ks,∀ z∈ks,ltV y x=false->ltV z y=false->ltV z x=false
 as:∀ x∈ks,∀ y∈ks,ltV x y=true->ltV y x=false
 tot:∀ x∈ks,∀ y∈ks,ltV x y=false->ltV y x=false->x=y
section
variable {C:MC} {k:Nat} {X:Cx} {pins:List (Addr×Obj)} {σ:St} {H:Hp} {s:Shared} {φ:List Addr} {A:Around} {E:Value->Shared->Prop}
end
section
variable {C:MC} {k:Nat} {X:Cx}
section
variable {x:Str} {st:Stmt} {q:Addr} {fd:FuncData} {pn:List Str} {j:Nat} {f:Fn}
end
section
variable {kf:Str} {st:Stmt} {q:Addr} {fd:FuncData} {pn:List Str} {j jb:Nat} {f:Fn} {e:Expr} {me:Me} {p pos kp kpos rp rpos:Pos}
end
end
section
variable {prog:Program} {w:World} {A:Around} {E:Value->Shared->Prop} {s:Shared}
end
section
variable {C:MC} {k:Nat} {X:Cx}
end
section
variable {h:PH}
end
end L2
set_option Elab.async false
set_option linter.all false
set_option maxRecDepth 100000
namespace L2
open PySem PySem.Spec PyProof.Rows
section
variable {prog:Program} {w:World} {A:Around} {E:Value->Shared->Prop} {s:Shared} {a:Addr}
end
section
variable {C:MC} {k:Nat} {X:Cx}
end
end L2
set_option Elab.async false
set_option linter.all false
set_option maxRecDepth 100000
namespace L2
open PySem PySem.Spec PyProof.Rows
section
variable {C:MC} {k:Nat} {X:Cx}
end
section
variable {δ:Ev} {h:PH} {E:FE}
end
end L2
set_option Elab.async false
set_option linter.all false
set_option maxRecDepth 100000
namespace L2
open PySem PySem.Spec PyProof.Rows
section
variable {C:MC} {k:Nat} {X:Cx}
end
end L2
set_option Elab.async false
set_option linter.all false
set_option maxRecDepth 100000
namespace L2
open PySem PySem.Spec PyProof.Rows PySem.SeqAt
structure Mk0 (K:PySem.W.Frag) (C:Addr):Prop where
 makes:PySem.W.makesIn K C=true
 init:PySem.W.findIn K (.ref C) "__init__" = some (some (.builtin "object.__init__"))
 kp:PySem.W.keepIn K (.ref C)=true
section
variable {X:Cx} {C:Addr}
end
def mMakeN (cn:Str):Me:=fun δ h=>.ok (.ref h.length) (h++[.ins cn []])
section
variable {C:MC} {k:Nat} {X:Cx} {x cn:Str} {ca:Addr} {p pos:Pos}
end
section
@[simp] theorem mMakeN_eq {cn:Str} {δ:Ev} {h:PH}:mMakeN cn δ h=.ok (.ref h.length) (h++[.ins cn []]):=(rfl)
end
end L2
set_option Elab.async false
set_option linter.all false
set_option maxRecDepth 100000
namespace L2
open PySem PySem.Spec PyProof.Rows
section
variable {X:Cx} {pins:List (Addr×Obj)} {σ:St} {H:Hp} {s:Shared} {C:MC} {φ:List Addr}
theorem hd_ofF {h:PH} {n:Nat} {a:Addr} {kvs:List (PV×PV)} (I:Inv X pins σ H s) (hK:X.K=C.K) (hw:X.w=C.w) (rh:RH C φ H h) (ha:φ[n]?=some a) (hk:h[n]?=some (.fz (.dD kvs))):HD C φ H X s a kvs:=by
 obtain ⟨ob,ks,hH,r⟩:=rh.at' n a _ ha hk
 have hO:ObjOk X.prog X.w H s.heap a (.frz ob (dDO C.w a ks)):=I.hok a _ hH
 obtain ⟨_,hO⟩:=hO
 obtain ⟨⟨hz,hm,xs,rx,o,es,ep,h1,h2,h3,h4,h5⟩,_⟩:=hO
 refine ⟨ks,xs,r,rx,by rw [<- Paired.length rx]; exact hz,hm,o,es,ep,h1,h2,h3,?_,?_,h5⟩
 ·rw [h4,<- hw]; rfl
 ·have all:∀ {l:List (PV×PV)} {m:List (PV×Addr×V)} {z:List (PV×Addr×Value)},RKd C φ H l m->RawD m z->∀ x∈z,(dKind X.prog X.w).is s.heap x.1 x.2.1:=by
   intro l m z q
   unfold RKd at q
   induction q generalizing z with
   | nil=>intro rz x hx; cases rz; cases hx
   | cons hq t ih=>
    intro rz x hx
    cases rz with
    | cons hz' tz=>
     rcases List.mem_cons.mp hx with e | hx
     ·subst e
      refine ⟨?_,?_⟩
      ·rw [<- hz'.1,<- hq.1]; exact hq.2.1
      ·rw [<- hz'.1,<- hq.1,<- hz'.2.1]; exact rv_hr I hK 6 hq.2.1 hq.2.2.1 rfl
     ·exact ih tz x hx
  exact all r rx
end
section
variable {C:MC} {k:Nat} {X:Cx}
def rFz (C:MC):V->V->Hp->VK->Prop:=fun x y H Q=>∃ (φ:List Addr) (h:PH) (p:PV) (n:Nat) (a:Addr) (kvs:List (PV×PV)) (p':PV),RH C φ H h/\RV C φ H p y/\x=.ref a/\φ[n]?=some a/\h[n]?=some (.fz (.dD kvs))/\p.isKt=true/\dLook kvs p=some p'/\∀ v:V,RV C φ H p' v->Q v H
theorem ix_F (c:Cxt C k X):IxR X (rFz C):=by
 intro value slice pins s σ H x y v u Q I rx ry h hs
 obtain ⟨φ,h,p,n,a,kvs,p',rh,rp,rfl,ha,ht,hk,ep,q⟩:=h
 cases rx
 obtain ⟨b,rfl⟩:=isKt_rv hk rp
 cases ry
 obtain ⟨ks,xs,r,rx',hz,hm,dd⟩:=hd_ofF I c.K c.w rh ha ht
 have hT:=dd.typeIs
 have hv:=HD.val (a:=a) r rx' p
 rw [ep] at hv
 cases e2:atKey xs p with
 | none=>rw [e2] at hv; exact hv.elim
 | some z=>
  rw [e2] at hv
  obtain ⟨v',rv1,rv2⟩:=hv
  unfold subscriptTail
  refine wpAny_bind ?_
  rw [getitemInPython_of_ne hT.not_modules]
  refine wpAny_bind (wpAny_specialOf hT PySem.F.slot_dict_getitem.lookup ?_)
  have fin:wpAny (model X.prog X.w) X.A (subscripted slice false (.ref a) (.ref b)) (fun r s₃=>wpAny (model X.prog X.w) X.A (letTemporaryGo value (.ref a) r >>= fun _=>pure r) (EP X pins σ Q) X.xe s₃) X.xe s:=by
   rw [hs]
   exact wpAny_operating (wpAny_getItem_heap c.room6 (kt_is I c.K hk rp) dd e2 (wpAny_bind (wpAny_letTemporaryGo (wpAny_pure ⟨v',H,I.tok _,rv1,q v' rv2⟩))))
  first
   | exact wpAny_pure (wpAny_bind fin)
   | exact wpAny_bind (wpAny_pure (wpAny_bind fin))
   | exact wpAny_bind fin
def fzD (x y:PV) (h:PH):Option PV:=match x with
 | .ref n=>match h[n]? with
  | some (.fz (.dD kvs))=>if y.isKt=true then dLook kvs y else none
  | _=>none
 | _=>none
def vAtF:PV->PV->PH->Rs PV:=fun x y h=>match fzD x y h with
 | some p=>.ok p h
 | none=>vAt x y h
theorem s_atF {a b:Expr} {ma mb:Me} {pos:Pos} (ha:SE C k X a ma) (hb:SE C k X b mb) (hs:PlainIx b:=by intro _ _; rfl):SE C k X (.Subscript a b pos) (mBin vAtF ma mb):=fun c=>
 (pe_ix (((ixC c.hu C.K c.K).or (ix_D c)).or (ix_F c)) (ha c) (hb c) hs).imp fun σ H Q h=>by
  obtain ⟨φ,δ,h,rh,re,p⟩:=rd_op h
  refine ⟨φ,δ,h,rh,re,p.imp ?_⟩
  rintro v H1 ⟨φ,δ,h,rh,re,p⟩
  refine ⟨φ,δ,h,rh,re,p.imp ?_⟩
  rintro u H2 ⟨φ,h,p,q,rh,rx,ry,po⟩
  unfold vAtF at po
  cases e0:fzD p q h with
  | some r=>
   rw [e0] at po
   unfold fzD at e0
   split at e0
   ·rename_i n
    split at e0
    ·rename_i kvs hk
     split at e0
     ·rename_i hq
      obtain ⟨a,rfl,hφ⟩:=rx
      exact .inr ⟨φ,h,q,n,a,kvs,r,rh,ry,rfl,hφ,hk,hq,e0,fun v' rv=>po.val rh rv⟩
     ·cases e0
    ·cases e0
   ·cases e0
  | none=>
   rw [e0] at po
   refine .inl ?_
   unfold vAt at po
   cases e:hasD q p h with
   | none=>rw [e] at po; exact .inl (ix_of ⟨φ,h,p,q,rh,rx,ry,po⟩)
   | some o=>
    rw [e] at po
    cases o with
    | none=>exact po.elim
    | some r=>exact .inr (hasD_sound rh ry rx e ⟨r,rfl,fun v' rv=>po.val rh rv⟩)
def vListKP:List PV->PH->Rs PV:=fun xs h=>match xs with
 | [.ref n]=>match tblD h n with
  | some kvs=>.ok (.ref h.length) (h++[.lst (kvs.map (·.1))])
  | none=>vList xs h
 | _=>vList xs h
theorem b_listKP:CallS C k X (.type "list") vListKP:=fun c=>CallR.imp (CallR.or (b_list c) (call_listK c)) fun vs H Q h=>by
 obtain ⟨φ,h,ps,rh,rv,po⟩:=h
 unfold vListKP at po
 split at po
 ·rename_i n
  split at po
  ·rename_i kvs e
   obtain ⟨v,rfl,rx⟩:=rv.one
   obtain ⟨a,rfl,ha⟩:=rx
   exact .inr ⟨φ,h,n,a,kvs,rfl,rh,ha,e,fun l ws hl rw'=>po.lnew rh rw' hl⟩
  ·exact .inl ⟨φ,h,_,rh,rv,po⟩
 ·exact .inl ⟨φ,h,_,rh,rv,po⟩
theorem vListKP_t {h:PH} {n:Nat} {kvs:List (PV×PV)} (e:tblD h n=some kvs):vListKP [.ref n] h=.ok (.ref h.length) (h++[.lst (kvs.map (·.1))]):=by simp [vListKP,e]
theorem vListKP_lst {n:Nat} {h:PH} {xs:List PV} (e:h[n]?=some (.lst xs)):vListKP [.ref n] h=.ok (.ref h.length) (h++[.lst xs]):=by
 have e0:tblD h n=none:=by simp [tblD,e]
 simp [vListKP,e0,vList,lstAt,e]
theorem vAtF_at {h:PH} {n:Nat} {kvs:List (PV×PV)} {xs:List PV} {p:PV} (e:h[n]?=some (.fz (.dD kvs))) (hk:(PV.tup xs).ky 6=true) (hl:dLook kvs (.tup xs)=some p):vAtF (.ref n) (.tup xs) h=.ok p h:=by
 have hk':(PV.tup xs).isKt=true:=hk
 have e1:fzD (.ref n) (.tup xs) h=some p:=by
  unfold fzD
  simp only [e,hk',if_true]
  exact hl
 simp only [vAtF,e1]
end
end L2
set_option Elab.async false
set_option linter.all false
set_option maxRecDepth 100000
set_option maxHeartbeats 4000000
namespace K56
open PySem L2
noncomputable section
def b_cell_at:Ms:=
 (mSeq (mIfS (mTru (mBin vLess (mV 1) (mCB vLen (mCons (mV 0) mNil))))
  (mRet (mBin vAt (mV 0) (mV 1)))
  mNop)
 (mRet (mC (.int 0))))
def m_cell_at:Fn:=mFn 2 b_cell_at
def w_stream_0:Ms:=
 (mSeq (mSet 3 (mBin vMod (mBin vPlus (mBin vPlus (mBin vMul (mV 3) (mV 3)) (mBin vMul (mC (.int 48271)) (mV 3))) (mV 4)) (mC (.int 2147483647))))
  (mExp (mMt isL (onL fAppend) (mV 2) (mCons (mV 3) mNil))))
def b_stream:Ms:=
 (mSeq (mSet 2 (mLst mNil))
 (mSeq (mSet 3 (mBin vPlus (mBin vMod (mV 0) (mC (.int 2147483647))) (mC (.int 48271))))
 (mSeq (mFor (mRng1 (mCons (mBin vPlus (mV 1) (mC (.int 1))) mNil)) (gN 4) w_stream_0)
 (mRet (mSl (mV 2) (mP (mC (.int 1))) mNoP)))))
def m_stream:Fn:=mFn 5 b_stream
def b_hands:Ms:=
 (mSeq (mSet 2 (mC (.str "abcdefghijklmnopqrstuvwxyz")))
 (mSeq (mSet 3 (mCall 2 m_stream (mCons (mV 0) (mCons (mC (.int 10)) mNil))))
 (mSeq (mSet 4 (mMt isSt vJoin (mC (.str "")) (mCons (mComp [none,some 2] (mSeqI (mSl (mV 3) mNoP (mP (mC (.int 8))))) (gN 0) mYes (mBin vAt (mV 1) (mBin vMod (mV 0) (mC (.int 26))))) mNil)))
 (mSeq (mIfS (mTru (mBin vEq (mBin vMod (mV 0) (mC (.int 3))) (mC (.int 0))))
  (mRet (mComp [none,some 4,some 3] (mRng1 (mCons (mV 1) mNil)) (gN 0) mYes (mSl (mV 1) mNoP (mP (mBin vPlus (mC (.int 1)) (mBin vMod (mBin vPlus (mV 0) (mBin vAt (mV 2) (mC (.int 8)))) (mC (.int 8))))))))
  mNop)
 (mSeq (mSet 4 (mSl (mV 4) mNoP (mP (mBin vPlus (mC (.int 1)) (mBin vMod (mBin vAt (mV 3) (mC (.int 8))) (mC (.int 8)))))))
 (mSeq (mSet 5 (mBin vMod (mBin vAt (mV 3) (mC (.int 9))) (mCB vLen (mCons (mV 4) mNil))))
 (mRet (mComp [none,some 4,some 2,some 5,some 3] (mRng1 (mCons (mV 1) mNil)) (gN 0) mYes (mBin vPlus (mBin vPlus (mSl (mV 1) mNoP (mP (mV 3))) (mBin vAt (mV 2) (mBin vMod (mBin vPlus (mBin vDiv (mBin vAt (mV 4) (mC (.int 9))) (mC (.int 8))) (mBin vMul (mC (.int 5)) (mV 0))) (mC (.int 26))))) (mSl (mV 1) (mP (mBin vPlus (mV 3) (mC (.int 1)))) mNoP))))))))))
def m_hands:Fn:=mFn 6 b_hands
def b_Tree___init__:Ms:=
 (mSeq (mSetF "made" (mV 0) mDict0)
 (mSetF "failed" (mV 0) (mLst mNil)))
def m_Tree___init__:Fn:=mFn 1 b_Tree___init__
def b_spot:Ms:=
 (mSeq (mIfS (mTru (mBin vEq (mV 1) (mC (.str "map"))))
  (mRet (mBin vAt (mLst (mCons (mC (.str "note")) (mCons (mC (.str "no")) (mCons (mC (.str "b")) (mCons (mC (.str "notes")) (mCons (mC (.str "a")) (mCons (mC (.str "nob")) mNil))))))) (mBin vMod (mV 0) (mC (.int 6)))))
  mNop)
 (mSeq (mIfS (mOrT (mTru (mBin vEq (mV 2) (mLst mNil))) (mTru (mBin vEq (mBin vMod (mV 0) (mC (.int 4))) (mC (.int 0)))))
  (mRet (mTup (mCons (mTup mNil) (mCons (mC (.int 1)) mNil))))
  mNop)
 (mRet (mTup (mCons (mBin vAt (mV 2) (mBin vMod (mBin vDiv (mV 0) (mC (.int 8))) (mCB vLen (mCons (mV 2) mNil)))) (mCons (mBin vSub (mBin vMul (mBin vMod (mBin vDiv (mV 0) (mC (.int 4))) (mC (.int 2))) (mC (.int 2))) (mC (.int 1))) mNil))))))
def m_spot:Fn:=mFn 3 b_spot
def b_Tree_held:Ms:=
 (mRet (mIf (mTru (mBin vHasN (mV 1) (mUn (vFld "made") (mV 0)))) (mSl (mBin vAt (mUn (vFld "made") (mV 0)) (mV 1)) (mP (mC (.int 1))) mNoP) (mC .non)))
def m_Tree_held:Fn:=mFn 2 b_Tree_held
def tb_deed_0:Str->Option Fn:=fun (z:Str)=>if z=("Tree" : Str) then some m_Tree_held else (fun _=>none) z
def tb_deed_1:Str->Option Fn:=fun (z:Str)=>if z=("Tree" : Str) then some m_Tree_held else (fun _=>none) z
def b_deed:Ms:=
 (mSeq (mSet 4 (mCall 2 m_stream (mCons (mV 0) (mCons (mC (.int 6)) mNil))))
 (mSeq (mSet 5 (mCB vListKP (mCons (mV 2) mNil)))
 (mSeq (mSet 6 (mBin vAt (mV 5) (mBin vMod (mBin vAt (mV 4) (mC (.int 0))) (mCB vLen (mCons (mV 5) mNil)))))
 (mSeq (mSet 7 (mComp [none,some 2] (mSeqI (mV 5)) (gN 0) (mTru (mBin vNe (mBin vAt (mV 1) (mV 0)) (mC (.str "count")))) (mV 0)))
 (mSeq (mIfS (mTru (mBin vEq (mBin vMod (mBin vAt (mV 4) (mC (.int 5))) (mC (.int 2))) (mC (.int 0))))
  (mSet 7 (mSl (mV 7) mNoP (mP (mC (.int 3)))))
  mNop)
 (mSeq (mSet 8 (mBin vAt (mV 7) (mBin vMod (mBin vAt (mV 4) (mC (.int 1))) (mCB vLen (mCons (mV 7) mNil)))))
 (mSeq (mSet 9 (mComp [none,some 3,some 8] (mSeqI (mSl (mV 5) (mP (mC (.int 1))) mNoP)) (gN 0) (mTru (mBin vEq (mBin vAt (mMeth "held" 1 tb_deed_1 (mV 1) (mCons (mV 0) mNil)) (mC (.int 0))) (mV 2))) (mBin vAt (mMeth "held" 1 tb_deed_0 (mV 1) (mCons (mV 0) mNil)) (mC (.int 1)))))
 (mSeq (mSet 10 (mCall 3 m_spot (mCons (mBin vAt (mV 4) (mC (.int 2))) (mCons (mBin vAt (mV 2) (mV 8)) (mCons (mV 9) mNil)))))
 (mSeq (mSet 11 (mTup (mCons (mC (.str "move")) (mCons (mV 6) (mCons (mV 8) (mCons (mV 10) mNil))))))
 (mSeq (mIfS (mTru (mBin vLess (mBin vMod (mBin vAt (mV 4) (mC (.int 3))) (mC (.int 8))) (mC (.int 4))))
  (mSet 11 (mTup (mCons (mC (.str "make")) (mCons (mBin vAt (mLst (mCons (mC (.str "map")) (mCons (mC (.str "row")) (mCons (mC (.str "row")) (mCons (mC (.str "count")) mNil))))) (mBin vMod (mBin vAt (mV 4) (mC (.int 4))) (mC (.int 4)))) (mCons (mV 8) (mCons (mV 10) mNil))))))
  mNop)
 (mSeq (mIfS (mTru (mBin vEq (mBin vMod (mBin vAt (mV 4) (mC (.int 3))) (mC (.int 8))) (mC (.int 7))))
  (mSet 11 (mTup (mCons (mC (.str "drop")) (mCons (mV 6) mNil))))
  mNop)
 (mSeq (mSet 12 (mTup mNil))
 (mSeq (mIfS (mTru (mBin vGt (mBin vAt (mV 1) (mC (.int 1))) (mC (.int 1))))
  (mSet 12 (mTup (mCons (mTup (mCons (mBin vAt (mV 1) (mC (.int 0))) (mCons (mBin vSub (mBin vAt (mV 1) (mC (.int 1))) (mC (.int 1))) mNil))) mNil)))
  mNop)
 (mRet (mTup (mCons (mV 1) (mCons (mV 12) (mCons (mV 11) mNil))))))))))))))))))
def m_deed:Fn:=mFn 13 b_deed
def w_Tree_ring_0:Ms:=
 (mSeq (mExp (mMt isL (onL fAppend) (mV 3) (mCons (mV 4) mNil)))
  (mSeq (mIfS (mTru (mBin vEq (mV 4) (mV 1)))
   (mRet (mV 3))
   mNop)
  (mSet 4 (mBin vAt (mBin vAt (mUn (vFld "made") (mV 0)) (mV 4)) (mC (.int 1))))))
def b_Tree_ring:Ms:=
 (mSeq (mSet 3 (mLst mNil))
 (mSeq (mSet 4 (mV 2))
 (mSeq (mWhile 1000000 (mTru (mBin vHasN (mV 4) (mUn (vFld "made") (mV 0)))) w_Tree_ring_0)
 (mRet (mLst mNil)))))
def m_Tree_ring:Fn:=mFn 5 b_Tree_ring
def b_Tree_put:Ms:=
 (mPutL (mTup (mCons (mBin vAt (mBin vAt (mUn (vFld "made") (mV 0)) (mV 1)) (mC (.int 0))) (mCons (mV 2) (mCons (mV 3) mNil)))) (mUn (vFld "made") (mV 0)) (mV 1))
def m_Tree_put:Fn:=mFn 4 b_Tree_put
def b_Tree_kind_of:Ms:=
 (mSeq (mIfS (mTru (mBin vEq (mV 1) (mC (.tup [.str "",.int (0)]))))
  (mRet (mC (.str "map")))
  mNop)
 (mRet (mIf (mTru (mBin vHasN (mV 1) (mUn (vFld "made") (mV 0)))) (mBin vAt (mBin vAt (mUn (vFld "made") (mV 0)) (mV 1)) (mC (.int 0))) (mC .non))))
def m_Tree_kind_of:Fn:=mFn 2 b_Tree_kind_of
def tb_Tree_takes_0:Str->Option Fn:=fun (z:Str)=>if z=("Tree" : Str) then some m_Tree_kind_of else (fun _=>none) z
def b_Tree_takes:Ms:=
 (mRet (mBin vEq (mMeth "kind_of" 1 tb_Tree_takes_0 (mV 0) (mCons (mV 1) mNil)) (mIf (mTru (mCB vIsI (mCons (mV 2) (mCons (mC (.ty "str")) mNil)))) (mC (.str "map")) (mC (.str "row")))))
def m_Tree_takes:Fn:=mFn 3 b_Tree_takes
def b_place_of:Ms:=
 (mSeq (mAsg (mV 0) (gTp 2 (gCn (gN 2) (gCn (gN 3) gNl))))
 (mSeq (mAsg (mV 1) (gTp 2 (gCn (gN 4) (gCn (gN 5) gNl))))
 (mRet (mBin vPlus (mV 2) (mTup (mCons (mTup (mCons (mV 3) (mCons (mV 4) (mCons (mV 5) (mCons (mC (.int 0)) mNil))))) mNil))))))
def m_place_of:Fn:=mFn 6 b_place_of
def b_stand_of:Ms:=
 (mRet (mIf (mTru (mCB vIsI (mCons (mV 0) (mCons (mC (.ty "str")) mNil)))) (mV 0) (mCall 2 m_place_of (mCons (mV 0) (mCons (mV 1) mNil)))))
def m_stand_of:Fn:=mFn 2 b_stand_of
def tb_Tree_hear_move_0:Str->Option Fn:=fun (z:Str)=>if z=("Tree" : Str) then some m_Tree_takes else (fun _=>none) z
def tb_Tree_hear_move_1:Str->Option Fn:=fun (z:Str)=>if z=("Tree" : Str) then some m_Tree_ring else (fun _=>none) z
def tb_Tree_hear_move_2:Str->Option Fn:=fun (z:Str)=>if z=("Tree" : Str) then some m_Tree_put else (fun _=>none) z
def b_Tree_hear_move:Ms:=
 (mSeq (mAsg (mV 2) (gTp 4 (gCn (gN 3) (gCn (gN 4) (gCn (gN 5) (gCn (gN 6) gNl))))))
 (mSeq (mIfS (mNotT (mTru (mMeth "takes" 2 tb_Tree_hear_move_0 (mV 0) (mCons (mV 5) (mCons (mV 6) mNil)))))
  (mRet (mC (.str "idle")))
  mNop)
 (mSeq (mIfS (mTru (mMeth "ring" 2 tb_Tree_hear_move_1 (mV 0) (mCons (mV 4) (mCons (mV 5) mNil))))
  (mSeq (mExp (mMt isL (onL fAppend) (mUn (vFld "failed") (mV 0)) (mCons (mV 1) mNil)))
  (mRet (mC (.str "lost"))))
  mNop)
 (mSeq (mExp (mMeth "put" 3 tb_Tree_hear_move_2 (mV 0) (mCons (mV 4) (mCons (mV 5) (mCons (mCall 2 m_stand_of (mCons (mV 6) (mCons (mV 1) mNil))) mNil)))))
 (mRet (mC (.str "done")))))))
def m_Tree_hear_move:Fn:=mFn 7 b_Tree_hear_move
def tb_Tree_hear_make_0:Str->Option Fn:=fun (z:Str)=>if z=("Tree" : Str) then some m_Tree_takes else (fun _=>none) z
def b_Tree_hear_make:Ms:=
 (mSeq (mAsg (mV 2) (gTp 4 (gCn (gN 3) (gCn (gN 4) (gCn (gN 5) (gCn (gN 6) gNl))))))
 (mSeq (mIfS (mNotT (mTru (mMeth "takes" 2 tb_Tree_hear_make_0 (mV 0) (mCons (mV 5) (mCons (mV 6) mNil)))))
  (mRet (mC (.str "idle")))
  mNop)
 (mSeq (mPutL (mTup (mCons (mV 4) (mCons (mV 5) (mCons (mCall 2 m_stand_of (mCons (mV 6) (mCons (mV 1) mNil))) mNil)))) (mUn (vFld "made") (mV 0)) (mV 1))
 (mRet (mC (.str "done"))))))
def m_Tree_hear_make:Fn:=mFn 7 b_Tree_hear_make
def tb_Tree_hear_0:Str->Option Fn:=fun (z:Str)=>if z=("Tree" : Str) then some m_Tree_hear_make else (fun _=>none) z
def tb_Tree_hear_1:Str->Option Fn:=fun (z:Str)=>if z=("Tree" : Str) then some m_Tree_put else (fun _=>none) z
def tb_Tree_hear_2:Str->Option Fn:=fun (z:Str)=>if z=("Tree" : Str) then some m_Tree_hear_move else (fun _=>none) z
def b_Tree_hear:Ms:=
 (mSeq (mAsg (mV 1) (gTp 3 (gCn (gN 2) (gCn (gN 3) (gCn (gN 4) gNl)))))
 (mSeq (mIfS (mTru (mBin vEq (mBin vAt (mV 4) (mC (.int 0))) (mC (.str "make"))))
  (mRet (mMeth "hear_make" 2 tb_Tree_hear_0 (mV 0) (mCons (mV 2) (mCons (mV 4) mNil))))
  mNop)
 (mSeq (mIfS (mTru (mBin vHasNotN (mBin vAt (mV 4) (mC (.int 1))) (mUn (vFld "made") (mV 0))))
  (mRet (mC (.str "idle")))
  mNop)
 (mSeq (mIfS (mTru (mBin vEq (mBin vAt (mV 4) (mC (.int 0))) (mC (.str "drop"))))
  (mSeq (mExp (mMeth "put" 3 tb_Tree_hear_1 (mV 0) (mCons (mBin vAt (mV 4) (mC (.int 1))) (mCons (mC .non) (mCons (mC .non) mNil)))))
  (mRet (mC (.str "done"))))
  mNop)
 (mRet (mMeth "hear_move" 2 tb_Tree_hear_2 (mV 0) (mCons (mV 2) (mCons (mV 4) mNil))))))))
def m_Tree_hear:Fn:=mFn 5 b_Tree_hear
def b_rank_of:Ms:=
 (mRet (mBin vPlus (mV 0) (mTup (mCons (mTup (mCons (mC (.int 0)) mNil)) mNil))))
def m_rank_of:Fn:=mFn 1 b_rank_of
def tb_Tree_within_0:Str->Option Fn:=fun (z:Str)=>if z=("Tree" : Str) then some m_Tree_kind_of else (fun _=>none) z
def b_Tree_within:Ms:=
 (mSeq (mThawS true (mMt0 isDct vItemsA (mUn (vFld "made") (mV 0))) (mSet 2 (mComp [none,none,some 1] (mWalk true (mMt0 isDct vItemsA (mUn (vFld "made") (mV 0)))) (gTp 2 (gCn (gN 0) (gCn (gN 1) gNl))) (mTru (mBin vEq (mBin vAt (mV 1) (mC (.int 1))) (mV 2))) (mTup (mCons (mBin vAt (mV 1) (mC (.int 2))) (mCons (mV 0) mNil))))))
 (mSeq (mIfS (mTru (mBin vEq (mMeth "kind_of" 1 tb_Tree_within_0 (mV 0) (mCons (mV 1) mNil)) (mC (.str "row"))))
  (mSet 2 (mComp [none,none] (mSeqI (mV 2)) (gTp 2 (gCn (gN 0) (gCn (gN 1) gNl))) mYes (mTup (mCons (mCall 1 m_rank_of (mCons (mV 0) mNil)) (mCons (mV 1) mNil)))))
  mNop)
 (mRet (mComp [none,none] (mSeqI (mCB vSortedM (mCons (mV 2) mNil))) (gTp 2 (gCn (gN 0) (gCn (gN 1) gNl))) mYes (mV 1)))))
def m_Tree_within:Fn:=mFn 3 b_Tree_within
def w_behind_0:Ms:=
 (mSet 2 (mBin vPlus (mV 2) (mC (.int 1))))
def b_behind:Ms:=
 (mSeq (mSet 2 (mC (.int 0)))
 (mSeq (mWhile 1000000 (mAndT (mTru (mBin vLess (mV 2) (mCB vLen (mCons (mV 0) mNil)))) (mAndT (mTru (mBin vLess (mV 2) (mCB vLen (mCons (mV 1) mNil)))) (mTru (mBin vEq (mBin vAt (mV 0) (mV 2)) (mBin vAt (mV 1) (mV 2)))))) w_behind_0)
 (mSeq (mIfS (mAndT (mTru (mBin vLess (mV 2) (mCB vLen (mCons (mV 0) mNil)))) (mTru (mBin vLess (mV 2) (mCB vLen (mCons (mV 1) mNil)))))
  (mRet (mBin vLess (mBin vAt (mV 0) (mV 2)) (mBin vAt (mV 1) (mV 2))))
  mNop)
 (mSeq (mIfS (mTru (mBin vLess (mV 2) (mCB vLen (mCons (mV 1) mNil))))
  (mRet (mBin vEq (mBin vAt (mBin vAt (mV 1) (mV 2)) (mC (.int 0))) (mC (.int 1))))
  mNop)
 (mRet (mAndV (mBin vLess (mV 2) (mCB vLen (mCons (mV 0) mNil))) (mBin vEq (mBin vAt (mBin vAt (mV 0) (mV 2)) (mC (.int 0))) (mUn vNeg (mC (.int 1))))))))))
def m_behind:Fn:=mFn 3 b_behind
def tb_in_order_0:Str->Option Fn:=fun (z:Str)=>if z=("Tree" : Str) then some m_Tree_held else (fun _=>none) z
def w_in_order_0:Ms:=
 (mSeq (mIfS (mAndT (mTru (mBin vEq (mV 2) (mC (.str "map")))) (mTru (mBin vGeT (mTup (mCons (mBin vAt (mV 3) (mBin vSub (mV 4) (mC (.int 1)))) (mCons (mBin vAt (mV 1) (mBin vSub (mV 4) (mC (.int 1)))) mNil))) (mTup (mCons (mBin vAt (mV 3) (mV 4)) (mCons (mBin vAt (mV 1) (mV 4)) mNil))))))
   (mRet (mC (.bl false)))
   mNop)
  (mIfS (mAndT (mTru (mBin vEq (mV 2) (mC (.str "row")))) (mNotT (mTru (mCall 2 m_behind (mCons (mBin vAt (mV 3) (mBin vSub (mV 4) (mC (.int 1)))) (mCons (mBin vAt (mV 3) (mV 4)) mNil))))))
   (mRet (mC (.bl false)))
   mNop))
def b_in_order:Ms:=
 (mSeq (mSet 3 (mComp [none,some 0] (mSeqI (mV 1)) (gN 0) mYes (mBin vAt (mMeth "held" 1 tb_in_order_0 (mV 1) (mCons (mV 0) mNil)) (mC (.int 1)))))
 (mSeq (mFor (mRng2 (mCons (mC (.int 1)) (mCons (mCB vLen (mCons (mV 1) mNil)) mNil))) (gN 4) w_in_order_0)
 (mRet (mC (.bl true)))))
def m_in_order:Fn:=mFn 5 b_in_order
def tb_law_0:Str->Option Fn:=fun (z:Str)=>if z=("Tree" : Str) then some m_Tree_hear else (fun _=>none) z
def tb_law_1:Str->Option Fn:=fun (z:Str)=>if z=("Tree" : Str) then some m_Tree_within else (fun _=>none) z
def tb_law_2:Str->Option Fn:=fun (z:Str)=>if z=("Tree" : Str) then some m_Tree_held else (fun _=>none) z
def tb_law_3:Str->Option Fn:=fun (z:Str)=>if z=("Tree" : Str) then some m_Tree_within else (fun _=>none) z
def tb_law_4:Str->Option Fn:=fun (z:Str)=>if z=("Tree" : Str) then some m_Tree_within else (fun _=>none) z
def w_law_0:Ms:=
 (mSeq (mSet 7 (mBin vAt (mV 2) (mBin vMod (mV 6) (mCB vLen (mCons (mV 2) mNil)))))
  (mSeq (mPutL (mBin vPlus (mMt isDct vGet (mV 5) (mCons (mV 7) (mCons (mC (.int 0)) mNil))) (mC (.int 1))) (mV 5) (mV 7))
  (mSeq (mSet 8 (mCall 4 m_deed (mCons (mBin vDiv (mV 6) (mC (.int 3))) (mCons (mTup (mCons (mV 7) (mCons (mBin vAt (mV 5) (mV 7)) mNil))) (mCons (mV 4) (mCons (mV 3) mNil))))))
  (mSeq (mExp (mMeth "hear" 1 tb_law_0 (mV 3) (mCons (mV 8) mNil)))
  (mIfS (mTru (mBin vEq (mBin vAt (mBin vAt (mV 8) (mC (.int 2))) (mC (.int 0))) (mC (.str "make"))))
   (mPutL (mBin vAt (mBin vAt (mV 8) (mC (.int 2))) (mC (.int 1))) (mV 4) (mBin vAt (mV 8) (mC (.int 0))))
   mNop)))))
def w_law_1:Ms:=
 (mSeq (mSet 11 (mMeth "within" 1 tb_law_1 (mV 3) (mCons (mV 10) mNil)))
  (mSeq (mIfS (mOrT (mNotT (mTru (mCB vIsI (mCons (mV 11) (mCons (mC (.ty "list")) mNil))))) (mNotT (mTru (mCall 3 m_in_order (mCons (mV 3) (mCons (mV 11) (mCons (mBin vAtF (mV 4) (mV 10)) mNil)))))))
   (mRet (mC (.bl false)))
   mNop)
  (mSeq (mIfS (mTru (mBin vNe (mCB vSortedM (mCons (mV 11) mNil)) (mCB vSortedM (mCons (mComp [none,some 10,some 3] (mSeqI (mV 9)) (gN 0) (mTru (mBin vEq (mBin vAt (mMeth "held" 1 tb_law_2 (mV 2) (mCons (mV 0) mNil)) (mC (.int 0))) (mV 1))) (mV 0)) mNil))))
   (mRet (mC (.bl false)))
   mNop)
  (mSeq (mSet 12 (mCB vListKP (mCons (mV 11) mNil)))
  (mSeq (mExp (mMt isL (onL fAppend) (mV 11) (mCons (mV 10) mNil)))
  (mIfS (mTru (mBin vNe (mMeth "within" 1 tb_law_3 (mV 3) (mCons (mV 10) mNil)) (mV 12)))
   (mRet (mC (.bl false)))
   mNop))))))
def b_law:Ms:=
 (mSeq (mSet 1 (mCall 2 m_cell_at (mCons (mV 0) (mCons (mC (.int 0)) mNil))))
 (mSeq (mSet 2 (mCall 2 m_hands (mCons (mV 1) (mCons (mBin vPlus (mC (.int 1)) (mBin vMod (mBin vDiv (mV 1) (mC (.int 24))) (mC (.int 3)))) mNil))))
 (mSeq (mSet 3 (mMake "Tree" 0 m_Tree___init__ mNil))
 (mSeq (mSet 4 (mDict1 (mTup (mCons (mC (.str "")) (mCons (mC (.int 0)) mNil))) (mC (.str "map"))))
 (mSeq (mSet 5 mDict0)
 (mSeq (mFor (mSeqI (mSl (mV 0) (mP (mC (.int 1))) (mP (mC (.int 41))))) (gN 6) w_law_0)
 (mSeq (mSet 9 (mSl (mCB vListKP (mCons (mV 4) mNil)) (mP (mC (.int 1))) mNoP))
 (mSeq (mThawS false (mV 4) (mFor (mWalk false (mV 4)) (gN 10) w_law_1))
 (mRet (mBin vEq (mMeth "within" 1 tb_law_4 (mV 3) (mCons (mTup (mCons (mBin vAt (mV 2) (mC (.int 0))) (mCons (mBin vPow (mC (.int 10)) (mC (.int 9))) mNil))) mNil)) (mLst mNil)))))))))))
def m_law:Fn:=mFn 13 b_law
end
end K56
set_option Elab.async false
set_option linter.all false
set_option maxRecDepth 100000
set_option maxHeartbeats 1000000
namespace K56
open PySem L2
abbrev Seen:=List (Str×Int)
def look:Seen->Str->Option Int
 | [],_=>none
 | p :: r,h=>if p.1=h then some p.2 else look r h
theorem look_cons (p:Str×Int) (r:Seen) (h:Str):look (p :: r) h=if p.1=h then some p.2 else look r h:=(rfl)
def dput (kvs:Seen) (h:Str) (n:Int):Seen:=if (look kvs h).isSome then kvs.map (fun p=>if p.1=h then (p.1,n) else p) else kvs++[(h,n)]
def emb (kvs:Seen):List (Key×PV):=kvs.map fun p=>(.inr p.1,.int p.2)
def row (p:Str×Int):List Key:=[.inr p.1,.inl p.2]
theorem look_emb (h:Str):∀ kvs:Seen,dLook (emb kvs) (.inr h)=(look kvs h).map PV.int
 | []=>rfl
 | p :: r=>by
  show dLook ((Sum.inr p.1,PV.int p.2) :: emb r) (.inr h)=_
  unfold dLook look
  by_cases e:p.1=h
  ·rw [if_pos e,if_pos (by rw [e])]; rfl
  ·rw [if_neg e,if_neg (by simpa using e)]; exact look_emb h r
theorem put_emb (kvs:Seen) (h:Str) (n:Int):putP (emb kvs) (.inr h) (.int n)=emb (dput kvs h n):=by
 unfold putP dput
 rw [look_emb]
 cases look kvs h with
 | none=>simp [emb]
 | some m=>
  simp only [Option.map_some,Option.isSome_some,if_true]
  unfold emb
  rw [List.map_map,List.map_map]
  apply List.map_congr_left
  intro p _
  by_cases e:p.1=h
  ·simp [e]
  ·simp [e]
theorem len_put {S:Seen} {h:Str} {n:Int}:(dput S h n).length<=S.length+1:=by
 unfold dput
 split <;> simp
abbrev lett:Str:="abcdefghijklmnopqrstuvwxyz"
theorem lett_len:lett.cps.toList.length=26:=by decide +kernel
theorem lett_len':lett.length=26:=by decide +kernel
theorem lett_all:∀ i:Fin 26,lett.cps.toList[i.val]?=some (97+i.val):=by decide +kernel
theorem snoc_len {x:Str} {c:Nat}:(x++(⟨#[c]⟩:Str)).length=x.length+1:=by
 rw [Str.length_append]; rfl
theorem at_lett {i:Int} (h0:0<=i) (h1:i < 26):atI lett.cps.toList i=some (97+i.toNat):=by
 rw [atI_pos h0 (by rw [lett_len]; exact h1)]
 exact lett_all ⟨i.toNat,by omega⟩
theorem slice_to {z:Str} {j:Int} (h0:0<=j) (h1:j<=z.length):(Txt.slice z none (some j)).cps.toList=z.cps.toList.take j.toNat:=by
 have h1':j<=z.cps.toList.length:=by simpa [Str.length] using h1
 have e:Txt.slice z none (some j)=⟨((z.cps.toList.drop 0).take (j - 0).toNat).toArray⟩:=StrLaws.sliceText_to ⟨h0,h1'⟩
 rw [e]
 simp
theorem slice_from {z:Str} {j:Int} (h0:0<=j) (h1:j<=z.length):(Txt.slice z (some j) none).cps.toList=z.cps.toList.drop j.toNat:=by
 have h1':j<=z.cps.toList.length:=by simpa [Str.length] using h1
 have e:=StrLaws.sliceText_from (x:=z) ⟨h0,h1'⟩
 have e':Txt.slice z (some j) none=_:=e
 rw [e']
 show List.take _ _=_
 rw [List.take_of_length_le]
 rw [List.length_drop]
 omega
theorem len_list (z:Str):z.cps.toList.length=z.length:=by simp [Str.length]
def pv (p:Str×Int):PV:=.tup [.str p.1,.int p.2]
theorem ext_set {h hX:PH} {o:MO} (x:Ext h hX):Ext h (hX.set h.length o):=fun n o' e=>by
 have hn:=(List.getElem?_eq_some_iff.mp e).1
 rw [List.getElem?_set_ne (by omega)]
 exact x n o' e
def cell (ns:List Int) (i:Nat):Int:=ns.getD i 0
theorem cell_ok (ns:List Int) (i:Nat) (h:PH):m_cell_at [.fl (ns.map PV.int),.int i] h=.ok (.int (cell ns i)) h:=by
 have w:(m_cell_at [.fl (ns.map PV.int),.int i] h).W fun p h'=>p=.int (cell ns i)/\h'=h:=by
  refine W_fn ?_
  simp [b_cell_at,W_seq]
  split
  ·rename_i z
   have z':i < ns.length:=by omega
   have e:atI (ns.map PV.int) (i:Int)=some (.int (cell ns i)):=atI_of (by simp [cell,z'])
   simp [e]
  ·rename_i z
   refine now ?_
   have:ns.length<=i:=by omega
   simp [cell,this]
 obtain ⟨p,h',e,rfl,rfl⟩:=W_ex w
 exact e
unseal Fl.W Rs.W in
theorem W_while {t:Ev->PH->Rs Bool} {body:Ms} {E:FE} (I:Nat->Ev->PH->Prop)
  (step:∀ m δ h,I m δ h->(t δ h).W fun b h1=>if b=true then (body δ h1).W { nx:=fun δ h=>∃ m',m' < m/\I m' δ h,ct:=fun δ h=>∃ m',m' < m/\I m' δ h,rt:=E.rt,bk:=E.nx } else E.nx δ h1):
  ∀ (n m:Nat),m < n->∀ δ h,I m δ h->(mWhile n t body δ h).W E:=by
 intro n
 induction n with
 | zero=>intro m hm; exact absurd hm (Nat.not_lt_zero _)
 | succ n ih=>
  intro m hm δ h hi
  have hs:=step m δ h hi
  unfold mWhile loopW
  rw [W_fl]
  refine W_mono hs fun b h1 hb=>?_
  cases b with
  | false=>simpa using hb
  | true=>
   rw [if_pos rfl] at hb
   dsimp only
   cases e:body δ h1 with
   | nx δ2 h2=>rw [e] at hb; obtain ⟨m',h3,h4⟩:=hb; exact ih m' (by omega) δ2 h2 h4
   | ct δ2 h2=>rw [e] at hb; obtain ⟨m',h3,h4⟩:=hb; exact ih m' (by omega) δ2 h2 h4
   | bk δ2 h2=>rw [e] at hb; exact hb
   | rt p h2=>rw [e] at hb; exact hb
   | exc p h2=>rw [e] at hb; exact hb
   | bad=>rw [e] at hb; exact hb
abbrev Nm:=Str×Int
structure Rc where
 kd:Str
 hd:Option Nm
 st:PV
def obN:Option Nm->PV
 | none=>.non
 | some p=>pv p
def recP (r:Rc):PV:=.tup [.str r.kd,obN r.hd,r.st]
abbrev Md:=List (Nm×Rc)
def fnd:Md->Nm->Option Rc
 | [],_=>none
 | x :: M,p=>if x.1=p then some x.2 else fnd M p
theorem fnd_cons (x:Nm×Rc) (M:Md) (p:Nm):fnd (x :: M) p=if x.1=p then some x.2 else fnd M p:=rfl
def entM (x:Nm×Rc):PV×PV:=(pv x.1,recP x.2)
def mput (M:Md) (p:Nm) (r:Rc):Md:=if (fnd M p).isSome then M.map (fun x=>if x.1=p then (x.1,r) else x) else M++[(p,r)]
theorem pv0 {p:Nm} {h:PH}:vIx (pv p) (.int 0) h=.ok (.str p.1) h:=by unfold pv; simp
theorem pv1 {p:Nm} {h:PH}:vIx (pv p) (.int 1) h=.ok (.int p.2) h:=by unfold pv; simp
theorem pv_inj {p q:Nm} (e:pv p=pv q):p=q:=by
 unfold pv at e
 have e':=PV.tup.inj e
 simp at e'
 exact Prod.ext e'.1 e'.2
theorem pv_pl {p:Nm} {n:Nat}:(pv p).pl (n+1)=true:=by cases n <;> rfl
theorem rc0 {r:Rc} {h:PH}:vIx (recP r) (.int 0) h=.ok (.str r.kd) h:=by unfold recP; simp
theorem rc1 {r:Rc} {h:PH}:vIx (recP r) (.int 1) h=.ok (obN r.hd) h:=by unfold recP; simp
theorem rc2 {r:Rc} {h:PH}:vIx (recP r) (.int 2) h=.ok r.st h:=by unfold recP; simp
theorem look_m (p:Nm):∀ M:Md,dLook (M.map entM) (pv p)=(fnd M p).map recP
 | []=>rfl
 | x :: M=>by
  rw [List.map_cons]
  show dLook ((pv x.1,recP x.2) :: M.map entM) (pv p)=_
  unfold dLook fnd
  by_cases e:x.1=p
  ·rw [if_pos (by rw [e]),if_pos e]; rfl
  ·rw [if_neg (fun z=>e (pv_inj z)),if_neg e,look_m p M]
theorem put_m (M:Md) (p:Nm) (r:Rc):putP (M.map entM) (pv p) (recP r)=(mput M p r).map entM:=by
 unfold putP mput
 rw [look_m]
 cases e:fnd M p with
 | none=>simp [entM]
 | some z=>
  simp only [Option.map_some,Option.isSome_some,if_true,List.map_map]
  apply List.map_congr_left
  intro x _
  show (if pv x.1=pv p then (pv x.1,recP r) else entM x)=entM (if x.1=p then (x.1,r) else x)
  by_cases e:x.1=p
  ·rw [if_pos (show pv x.1=pv p by rw [e]),if_pos e]; rfl
  ·rw [if_neg (show ¬ pv x.1=pv p from fun z=>e (pv_inj z)),if_neg e]
theorem fnd_map (M:Md) (p:Nm) (r:Rc) (q:Nm):fnd (M.map fun x=>if x.1=p then (x.1,r) else x) q=if q=p then (fnd M p).map (fun _=>r) else fnd M q:=by
 induction M with
 | nil=>simp [fnd]
 | cons x M ih=>
  rw [List.map_cons]
  unfold fnd
  rw [ih]
  by_cases h1:x.1=p
  ·rw [if_pos h1]
   by_cases h2:q=p
   ·rw [if_pos (show x.1=q by rw [h1,h2]),if_pos h2,if_pos h1]; rfl
   ·have h3:¬ x.1=q:=fun z=>h2 (z ▸ h1)
    rw [if_neg (show ¬ x.1=q from h3),if_neg h2,if_neg h2,if_neg h3]
  ·rw [if_neg h1]
   by_cases h2:q=p
   ·have h3:¬ x.1=q:=fun z=>h1 (z.trans h2)
    rw [if_neg h3,if_pos h2,if_pos h2,if_neg h1]
   ·rw [if_neg h2,if_neg h2]
theorem fnd_app (M N:Md) (q:Nm):fnd (M++N) q=(fnd M q).or (fnd N q):=by
 induction M with
 | nil=>simp [fnd]
 | cons x M ih=>
  rw [List.cons_append,fnd_cons,fnd_cons]
  by_cases h:x.1=q
  ·rw [if_pos h,if_pos h]; rfl
  ·rw [if_neg h,if_neg h,ih]
theorem fnd_mput (M:Md) (p:Nm) (r:Rc) (q:Nm):fnd (mput M p r) q=if q=p then some r else fnd M q:=by
 unfold mput
 cases e:fnd M p with
 | some z=>simp only [Option.isSome_some,if_true]; rw [fnd_map,e]; rfl
 | none=>
  simp only [Option.isSome_none,Bool.false_eq_true,if_false]
  rw [fnd_app]
  by_cases h:q=p
  ·rw [if_pos h,h,e]; simp [fnd]
  ·rw [if_neg h]
   have:fnd [(p,r)] q=none:=by unfold fnd; rw [if_neg (fun z=>h z.symm)]; rfl
   rw [this]
   cases fnd M q <;> rfl
theorem fnd_key {M:Md} {p:Nm}:(fnd M p).isSome=true ↔ p∈M.map (·.1):=by
 induction M with
 | nil=>simp [fnd]
 | cons x M ih=>
  unfold fnd
  by_cases e:x.1=p
  ·rw [if_pos e]; simp [e]
  ·rw [if_neg e,ih,List.map_cons,List.mem_cons]
   exact ⟨.inr,fun z=>z.resolve_left fun q=>e q.symm⟩
theorem keys_mput (M:Md) (p:Nm) (r:Rc):(mput M p r).map (·.1)=if p∈M.map (·.1) then M.map (·.1) else M.map (·.1)++[p]:=by
 unfold mput
 by_cases e:(fnd M p).isSome=true
 ·rw [if_pos e,if_pos (fnd_key.mp e),List.map_map]
  apply List.map_congr_left
  intro x _
  show (if x.1=p then (x.1,r) else x).1=x.1
  split <;> rfl
 ·rw [if_neg e,if_neg (fun z=>e (fnd_key.mpr z)),List.map_append]; rfl
theorem len_mput (M:Md) (p:Nm) (r:Rc):(mput M p r).length<=M.length+1:=by
 unfold mput
 split
 ·rw [List.length_map]; omega
 ·simp
def Up (M:Md) (f:Nm->Nat):Prop:=∀ p r q,fnd M p=some r->r.hd=some q->(fnd M q).isSome=true->f q < f p
def NoRing (M:Md):Prop:=∃ f,Up M f
def ringW (M:Md) (p:Nm):Nat->Option Nm->List Nm->List Nm
 | 0,_,_=>[]
 | _+1,none,_=>[]
 | n+1,some q,way=>match fnd M q with
  | none=>[]
  | some r=>if q=p then way++[q] else ringW M p n r.hd (way++[q])
def OnWay (M:Md) (p:Nm):Nat->Option Nm->Prop
 | 0,_=>False
 | _+1,none=>False
 | n+1,some q=>match fnd M q with
  | none=>False
  | some r=>q=p\/OnWay M p n r.hd
theorem onway_some {M:Md} {p q:Nm} {n:Nat}:OnWay M p (n+1) (some q)=(match fnd M q with | none=>False | some r=>q=p\/OnWay M p n r.hd):=rfl
theorem ring_nil {M:Md} {p:Nm}:∀ {n:Nat} {u:Option Nm} {way:List Nm},ringW M p n u way=[] ↔ ¬ OnWay M p n u
 | 0,u,way=>by simp [ringW,OnWay]
 | n+1,none,way=>by simp [ringW,OnWay]
 | n+1,some q,way=>by
  unfold ringW OnWay
  cases e:fnd M q with
  | none=>simp
  | some r=>
   dsimp only
   by_cases h:q=p
   ·rw [if_pos h]; simp [h]
   ·rw [if_neg h,ring_nil]; simp [h]
def On (M:Md) (p:Nm) (u:Option Nm):Prop:=∃ n,OnWay M p n u
theorem on_step {M:Md} {p q:Nm} {r:Rc} (e:fnd M q=some r):On M p (some q) ↔ q=p\/On M p r.hd:=by
 constructor
 ·rintro ⟨n,hn⟩
  cases n with
  | zero=>exact hn.elim
  | succ n=>
   rw [onway_some,e] at hn
   exact hn.imp id fun z=>⟨n,z⟩
 ·rintro (z | ⟨n,hn⟩)
  ·exact ⟨1,by rw [onway_some,e]; exact .inl z⟩
  ·exact ⟨n+1,by rw [onway_some,e]; exact .inr hn⟩
theorem on_out {M:Md} {p q:Nm} (e:fnd M q=none):¬ On M p (some q):=fun ⟨n,hn⟩=>by
 cases n with
 | zero=>exact hn
 | succ n=>rw [onway_some,e] at hn; exact hn
theorem on_none {M:Md} {p:Nm}:¬ On M p none:=fun ⟨n,hn⟩=>by cases n <;> exact hn
def vr (M:Md) (f:Nm->Nat):Option Nm->Nat
 | none=>0
 | some q=>if (fnd M q).isSome=true then f q+1 else 0
theorem vr_some {M:Md} {f:Nm->Nat} {q:Nm}:vr M f (some q)=if (fnd M q).isSome=true then f q+1 else 0:=rfl
theorem vr_up {M:Md} {f:Nm->Nat} (hf:Up M f) {q:Nm} {r:Rc} (e:fnd M q=some r):vr M f r.hd < vr M f (some q):=by
 have h1:vr M f (some q)=f q+1:=by rw [vr_some,e]; rfl
 rw [h1]
 cases e2:r.hd with
 | none=>exact Nat.succ_pos _
 | some z=>
  rw [vr_some]
  by_cases e3:(fnd M z).isSome=true
  ·rw [if_pos e3]; have:=hf q r z e e2 e3; omega
  ·rw [if_neg e3]; exact Nat.succ_pos _
theorem on_enough {M:Md} {p:Nm} {f:Nm->Nat} (hf:Up M f):∀ {n:Nat} {u:Option Nm},vr M f u < n->(On M p u ↔ OnWay M p n u)
 | 0,u,h=>absurd h (Nat.not_lt_zero _)
 | n+1,none,_=>iff_of_false on_none id
 | n+1,some q,h=>by
  cases e:fnd M q with
  | none=>exact iff_of_false (on_out e) (by rw [onway_some,e]; exact id)
  | some r=>
   rw [on_step e,onway_some,e]
   exact or_congr Iff.rfl (on_enough hf (by have:=vr_up hf e; omega))
theorem ring_fuel {M:Md} {p:Nm} {f:Nm->Nat} (hf:Up M f):∀ {n m:Nat} {u:Option Nm} {way:List Nm},vr M f u < n->vr M f u < m->ringW M p n u way=ringW M p m u way
 | 0,m,u,_,h,_=>absurd h (Nat.not_lt_zero _)
 | _,0,u,_,_,h=>absurd h (Nat.not_lt_zero _)
 | n+1,m+1,none,_,_,_=>rfl
 | n+1,m+1,some q,way,h1,h2=>by
  unfold ringW
  cases e:fnd M q with
  | none=>rfl
  | some r=>
   dsimp only
   have:=vr_up hf e
   split
   ·rfl
   ·exact ring_fuel hf (by omega) (by omega)
def wy (M:Md):Nat->Option Nm->List Nm
 | 0,_=>[]
 | _+1,none=>[]
 | n+1,some q=>match fnd M q with
  | none=>[]
  | some r=>q :: wy M n r.hd
theorem wy_facts {M:Md} {f:Nm->Nat} (hf:Up M f):∀ {n:Nat} {u:Option Nm},vr M f u < n->(wy M n u).Nodup/\(∀ x∈wy M n u,x∈M.map (·.1)/\vr M f (some x)<=vr M f u)
 | 0,u,h=>absurd h (Nat.not_lt_zero _)
 | n+1,none,_=>⟨List.nodup_nil,fun x hx=>nomatch hx⟩
 | n+1,some q,h=>by
  unfold wy
  cases e:fnd M q with
  | none=>exact ⟨List.nodup_nil,fun x hx=>nomatch hx⟩
  | some r=>
   dsimp only
   have lt:=vr_up hf e
   obtain ⟨h1,h2⟩:=wy_facts hf (n:=n) (u:=r.hd) (by omega)
   refine ⟨List.nodup_cons.mpr ⟨fun z=>?_,h1⟩,fun x hx=>?_⟩
   ·have:=(h2 q z).2; omega
   ·rcases List.mem_cons.mp hx with rfl | hx
    ·exact ⟨fnd_key.mp (by rw [e]; rfl),Nat.le_refl _⟩
    ·exact ⟨(h2 x hx).1,by have:=(h2 x hx).2; omega⟩
theorem wy_fuel {M:Md} {f:Nm->Nat} (hf:Up M f):∀ {n m:Nat} {u:Option Nm},vr M f u < n->vr M f u < m->wy M n u=wy M m u
 | 0,m,u,h,_=>absurd h (Nat.not_lt_zero _)
 | _,0,u,_,h=>absurd h (Nat.not_lt_zero _)
 | n+1,m+1,none,_,_=>rfl
 | n+1,m+1,some q,h1,h2=>by
  unfold wy
  cases e:fnd M q with
  | none=>rfl
  | some r=>
   dsimp only
   have:=vr_up hf e
   rw [wy_fuel hf (n:=n) (m:=m) (by omega) (by omega)]
theorem small {M:Md} (hM:NoRing M):∃ g,Up M g/\∀ q,g q<=M.length:=by
 obtain ⟨f,hf⟩:=hM
 refine ⟨fun q=>(wy M (vr M f (some q)+1) (some q)).length,fun p r q h1 h2 h3=>?_,fun q=>?_⟩
 ·have e1:wy M (vr M f (some p)+1) (some p)=p :: wy M (vr M f (some p)) r.hd:=by
   show (match fnd M p with | none=>[] | some r=>p :: wy M (vr M f (some p)) r.hd)=_
   rw [h1]
  have lt:=vr_up hf h1
  show (wy M (vr M f (some q)+1) (some q)).length < (wy M (vr M f (some p)+1) (some p)).length
  rw [e1,h2,List.length_cons,wy_fuel hf (u:=some q) (n:=vr M f (some p)) (m:=vr M f (some q)+1) (by rw [<- h2]; exact lt) (by omega)]
  omega
 ·obtain ⟨h1,h2⟩:=wy_facts hf (n:=vr M f (some q)+1) (u:=some q) (by omega)
  have:=List.Nodup.length_le_of_subset h1 (l₂:=M.map (·.1)) fun x hx=>(h2 x hx).1
  simpa using this
theorem noring_move {M:Md} {p q:Nm} {r r':Rc} {f:Nm->Nat} (hf:Up M f) (hr:fnd M p=some r) (hq:r'.hd=some q) (hno:¬ On M p (some q)):NoRing (mput M p r'):=by
 classical
 refine ⟨fun x=>if On M p (some x) then f x+f q+1 else f x,?_⟩
 intro x rx z h1 h2 h3
 rw [fnd_mput] at h1 h3
 by_cases ex:x=p
 ·rw [if_pos ex] at h1
  cases h1
  rw [hq] at h2
  cases h2
  subst ex
  have on:On M x (some x):=(on_step hr).mpr (.inl rfl)
  show (if On M x (some q) then f q+f q+1 else f q) < if On M x (some x) then f x+f q+1 else f x
  rw [if_neg hno,if_pos on]
  omega
 ·rw [if_neg ex] at h1
  have hz:(fnd M z).isSome=true:=by
   by_cases ez:z=p
   ·rw [ez,hr]; rfl
   ·rw [if_neg ez] at h3; exact h3
  have lt:=hf x rx z h1 h2 hz
  have st:=on_step (p:=p) h1
  rw [h2] at st
  show (if On M p (some z) then f z+f q+1 else f z) < if On M p (some x) then f x+f q+1 else f x
  by_cases oz:On M p (some z)
  ·rw [if_pos oz,if_pos (st.mpr (.inr oz))]; omega
  ·have ox:¬ On M p (some x):=fun w=>(st.mp w).elim ex oz
   rw [if_neg oz,if_neg ox]; exact lt
theorem noring_none {M:Md} {p:Nm} {r r':Rc} {f:Nm->Nat} (hf:Up M f) (hr:fnd M p=some r) (hq:r'.hd=none):Up (mput M p r') f:=by
 intro x rx z h1 h2 h3
 rw [fnd_mput] at h1 h3
 by_cases ex:x=p
 ·rw [if_pos ex] at h1
  cases h1
  rw [hq] at h2
  cases h2
 ·rw [if_neg ex] at h1
  refine hf x rx z h1 h2 ?_
  by_cases ez:z=p
  ·rw [ez,hr]; rfl
  ·rw [if_neg ez] at h3; exact h3
theorem noring_make {M:Md} {p:Nm} {r:Rc} {f:Nm->Nat} (hf:Up M f) (hr:fnd M p=none) (hq:r.hd≠some p) (hno:∀ x rx,fnd M x=some rx->rx.hd≠some p):NoRing (mput M p r):=by
 refine ⟨fun x=>if x=p then (match r.hd with | some q=>f q+1 | none=>0) else f x,?_⟩
 intro x rx z h1 h2 h3
 rw [fnd_mput] at h1 h3
 by_cases ex:x=p
 ·rw [if_pos ex] at h1
  cases h1
  have ez:z≠p:=fun w=>hq (w ▸ h2)
  show (if z=p then _ else f z) < if x=p then _ else f x
  rw [if_neg ez,if_pos ex,h2]
  exact Nat.lt_succ_self _
 ·rw [if_neg ex] at h1
  have ez:z≠p:=fun w=>hno x rx h1 (w ▸ h2)
  rw [if_neg ez] at h3
  show (if z=p then _ else f z) < if x=p then _ else f x
  rw [if_neg ez,if_neg ex]
  exact hf x rx z h1 h2 h3
structure TreeAt (h:PH) (lt lm lf:Nat) (M:Md) (L:List Nm):Prop where
 ins:h[lt]?=some (.ins "Tree" [("made",.ref lm),("failed",.ref lf)])
 made:tblD h lm=some (M.map entM)
 fail:h[lf]?=some (.lst (L.map pv))
theorem TreeAt.ext {h h':PH} {lt lm lf:Nat} {M:Md} {L:List Nm} (t:TreeAt h lt lm lf M L) (x:Ext h h'):TreeAt h' lt lm lf M L:=⟨x _ _ t.ins,tblD_ext x t.made,x _ _ t.fail⟩
theorem TreeAt.fm {h:PH} {lt lm lf:Nat} {M:Md} {L:List Nm} (t:TreeAt h lt lm lf M L):vFld "made" (.ref lt) h=.ok (.ref lm) h:=vFld_at t.ins rfl
theorem TreeAt.ff {h:PH} {lt lm lf:Nat} {M:Md} {L:List Nm} (t:TreeAt h lt lm lf M L):vFld "failed" (.ref lt) h=.ok (.ref lf) h:=vFld_at t.ins rfl
theorem TreeAt.dict {h:PH} {lt lm lf:Nat} {M:Md} {L:List Nm} (t:TreeAt h lt lm lf M L):isDct (.ref lm) h=true:=let ⟨_,_,hdc,_⟩:=tblD_lst t.made; hdc
theorem TreeAt.has {h:PH} {lt lm lf:Nat} {M:Md} {L:List Nm} (t:TreeAt h lt lm lf M L) (p:Nm):vHas (pv p) (.ref lm) h=.ok (.bl (fnd M p).isSome) h:=by
 have:vHas (pv p) (.ref lm) h=.ok (.bl (dLook (M.map entM) (pv p)).isSome) h:=vHas_t t.made rfl
 rw [this,look_m,Option.isSome_map]
theorem TreeAt.hasNot {h:PH} {lt lm lf:Nat} {M:Md} {L:List Nm} (t:TreeAt h lt lm lf M L) (p:Nm):vHasNot (pv p) (.ref lm) h=.ok (.bl (!(fnd M p).isSome)) h:=by
 have:vHasNot (pv p) (.ref lm) h=.ok (.bl (!(dLook (M.map entM) (pv p)).isSome)) h:=vHasNot_t t.made rfl
 rw [this,look_m,Option.isSome_map]
theorem vAt_t {n:Nat} {h:PH} {kvs:List (PV×PV)} {xs:List PV} {p:PV} (e:tblD h n=some kvs) (hk:(PV.tup xs).ky 6=true) (hl:dLook kvs (.tup xs)=some p):vAt (.ref n) (.tup xs) h=.ok p h:=by
 have k1:(PV.tup xs).isKt=true:=hk
 have:hasD (.tup xs) (.ref n) h=some (dLook kvs (.tup xs)):=by simp only [hasD,k1,if_true,e,Option.map_some]
 unfold vAt
 rw [this,hl]
theorem TreeAt.at' {h:PH} {lt lm lf:Nat} {M:Md} {L:List Nm} (t:TreeAt h lt lm lf M L) {p:Nm} {r:Rc} (e:fnd M p=some r):vAt (.ref lm) (pv p) h=.ok (recP r) h:=vAt_t t.made rfl (by show dLook _ (pv p)=_; rw [look_m,e]; rfl)
theorem keys_kt (M:Md):(M.map entM).all (fun q=>q.1.isKt)=true:=by
 rw [List.all_eq_true]
 intro q hq
 obtain ⟨x,_,rfl⟩:=List.mem_map.mp hq
 rfl
theorem TreeAt.hasN {h:PH} {lt lm lf:Nat} {M:Md} {L:List Nm} (t:TreeAt h lt lm lf M L) (u:Option Nm):vHasN (obN u) (.ref lm) h=.ok (.bl (u.bind (fnd M)).isSome) h:=by
 cases u with
 | none=>exact vHasN_non t.made (keys_kt M)
 | some p=>show vHasN (pv p) _ _=_; unfold pv; rw [vHasN_tup]; exact t.has p
abbrev root:Nm:=("",0)
def kindV (M:Md) (p:Nm):PV:=if p=root then .str "map" else match fnd M p with
 | some r=>.str r.kd
 | none=>.non
theorem pv_root {p:Nm} {h:PH}:vEq (pv p) (.tup [.str "",.int 0]) h=.ok (.bl (decide (p=root))) h:=by
 rw [vEq_pl (pv_pl (n:=39)) rfl]
 congr 2
 rw [decide_eq_decide]
 exact ⟨fun e=>pv_inj (q:=root) e,fun e=>by rw [e]; rfl⟩
theorem kind_ok {h:PH} {lt lm lf:Nat} {M:Md} {L:List Nm} (t:TreeAt h lt lm lf M L) (p:Nm):m_Tree_kind_of [.ref lt,pv p] h=.ok (kindV M p) h:=by
 have w:(m_Tree_kind_of [.ref lt,pv p] h).W fun q h'=>q=kindV M p/\h'=h:=by
  refine W_fn ?_
  unfold b_Tree_kind_of kindV
  rw [W_seq]
  simp [pv_root]
  by_cases e:p=root
  ·simp [e]
  ·simp [e]
   refine now ?_
   have hh:vHasN (pv p) (.ref lm) h=.ok (.bl (fnd M p).isSome) h:=t.hasN (some p)
   cases e2:fnd M p with
   | none=>rw [e2] at hh; simp [t.fm,hh]
   | some r=>rw [e2] at hh; simp [t.fm,hh,t.at' e2,rc0]
 obtain ⟨q,h',e,rfl,rfl⟩:=W_ex w
 exact e
def heldV (M:Md) (p:Nm):PV:=match fnd M p with
 | some r=>.tup [obN r.hd,r.st]
 | none=>.non
theorem held_ok {h:PH} {lt lm lf:Nat} {M:Md} {L:List Nm} (t:TreeAt h lt lm lf M L) (p:Nm):m_Tree_held [.ref lt,pv p] h=.ok (heldV M p) h:=by
 have w:(m_Tree_held [.ref lt,pv p] h).W fun q h'=>q=heldV M p/\h'=h:=by
  refine W_fn ?_
  unfold b_Tree_held heldV
  have hh:vHasN (pv p) (.ref lm) h=.ok (.bl (fnd M p).isSome) h:=t.hasN (some p)
  cases e2:fnd M p with
  | none=>rw [e2] at hh; simp [t.fm,hh]
  | some r=>
   rw [e2] at hh
   have hs:vSl (recP r) (some 1) none h=.ok (.tup [obN r.hd,r.st]) h:=by unfold recP; simp [cutP,HT.sIx]
   simp [t.fm,hh,t.at' e2,hs]
 obtain ⟨q,h',e,rfl,rfl⟩:=W_ex w
 exact e
inductive Spot where
 | key (z:Str)
 | place (u:List PV) (side:Int)
def spP:Spot->PV
 | .key z=>.str z
 | .place u s=>.tup [.tup u,.int s]
def standV (sp:Spot) (p:Nm):PV:=match sp with
 | .key z=>.str z
 | .place u s=>.tup (u++[.tup [.int s,.str p.1,.int p.2,.int 0]])
def isKey:Spot->Bool
 | .key _=>true
 | _=>false
def fitsB (M:Md) (p:Nm) (sp:Spot):Bool:=decide (kindV M p=if isKey sp then .str "map" else .str "row")
theorem kindV_pl (M:Md) (p:Nm):(kindV M p).pl 40=true:=by
 unfold kindV
 split
 ·rfl
 ·split <;> rfl
theorem takes_ok {h:PH} {lt lm lf:Nat} {M:Md} {L:List Nm} (t:TreeAt h lt lm lf M L) (p:Nm) (sp:Spot):m_Tree_takes [.ref lt,pv p,spP sp] h=.ok (.bl (fitsB M p sp)) h:=by
 have w:(m_Tree_takes [.ref lt,pv p,spP sp] h).W fun q h'=>q=.bl (fitsB M p sp)/\h'=h:=by
  refine W_fn ?_
  unfold b_Tree_takes fitsB
  have m1:=fun y=>mMeth_at (mm:="kind_of") (n:=1) (tb:=tb_Tree_takes_0) (ms:=mCons (mV 1) mNil) (δ:=[some (.ref lt),some (pv p),some y]) (h:=h) (h1:=h) (mo:=mV 0) (k:=lt) (f:=m_Tree_kind_of) (by simp) t.ins (by simp [tb_Tree_takes_0]) rfl
  cases sp with
  | key z=>
   simp [m1,kind_ok t,spP,known,isSub,isKey]
   rw [vEq_pl (kindV_pl M p) rfl]
   simp
  | place u s=>
   simp [m1,kind_ok t,spP,known,isSub,isKey]
   rw [vEq_pl (kindV_pl M p) rfl]
   simp
 obtain ⟨q,h',e,rfl,rfl⟩:=W_ex w
 exact e
theorem place_ok (u:List PV) (hu:u.length<=1000) (s:Int) (p:Nm) (h:PH):m_place_of [.tup [.tup u,.int s],pv p] h=.ok (.tup (u++[.tup [.int s,.str p.1,.int p.2,.int 0]])) h:=by
 have w:(m_place_of [.tup [.tup u,.int s],pv p] h).W fun q h'=>q=.tup (u++[.tup [.int s,.str p.1,.int p.2,.int 0]])/\h'=h:=by
  refine W_fn ?_
  unfold b_place_of
  rw [W_seq]
  simp
  refine now ?_
  rw [W_seq]
  simp
  refine ⟨[some (.tup [.tup u,.int s]),some (pv p),some (.tup u),some (.int s),some (.str p.1),some (.int p.2)],by simp [pv],?_⟩
  refine now ?_
  simp
  rw [vPlus_tup (by simp; omega)]
  simp
 obtain ⟨q,h',e,rfl,rfl⟩:=W_ex w
 exact e
def SpOk:Spot->Prop
 | .key _=>True
 | .place u _=>u.length<=1000
theorem stand_ok (sp:Spot) (hs:SpOk sp) (p:Nm) (h:PH):m_stand_of [spP sp,pv p] h=.ok (standV sp p) h:=by
 have w:(m_stand_of [spP sp,pv p] h).W fun q h'=>q=standV sp p/\h'=h:=by
  refine W_fn ?_
  unfold b_stand_of
  cases sp with
  | key z=>simp [spP,known,isSub,standV]
  | place u s=>simp [spP,known,isSub,standV,place_ok u hs s p]
 obtain ⟨q,h',e,rfl,rfl⟩:=W_ex w
 exact e
theorem TreeAt.dm {h:PH} {lt lm lf:Nat} {M:Md} {L:List Nm} (t:TreeAt h lt lm lf M L):lt≠lm/\lf≠lm/\lt≠lf:=by
 have h1:=t.ins
 have h2:=t.made
 have h3:=t.fail
 refine ⟨fun e=>?_,fun e=>?_,fun e=>?_⟩
 ·subst e; simp [tblD,h1] at h2
 ·subst e; simp [tblD,h3] at h2
 ·subst e; rw [h1] at h3; cases h3
theorem TreeAt.put {h:PH} {lt lm lf:Nat} {M M':Md} {L:List Nm} (t:TreeAt h lt lm lf M L):TreeAt (h.set lm (.dD (M'.map entM))) lt lm lf M' L:=by
 obtain ⟨d1,d2,d3⟩:=t.dm
 obtain ⟨o,ho,_,_⟩:=tblD_lst t.made
 exact ⟨set_ne t.ins (fun z=>d1 z.symm),tblD_dD (set_at ho),set_ne t.fail (fun z=>d2 z.symm)⟩
theorem TreeAt.lose {h:PH} {lt lm lf:Nat} {M:Md} {L L':List Nm} (t:TreeAt h lt lm lf M L):TreeAt (h.set lf (.lst (L'.map pv))) lt lm lf M L':=by
 obtain ⟨d1,d2,d3⟩:=t.dm
 obtain ⟨o,ho,_,hh⟩:=tblD_lst t.made
 exact ⟨set_ne t.ins (fun z=>d3 z.symm),hh _ (set_ne ho d2),set_at t.fail⟩
def Kept (lm lf:Nat) (h h':PH):Prop:=∀ (n:Nat) o,n≠lm->n≠lf->h[n]?=some o->h'[n]?=some o
theorem Kept.of {lm lf:Nat} {h h':PH} (x:Ext h h'):Kept lm lf h h':=fun n o _ _ e=>x n o e
theorem Kept.trans {lm lf:Nat} {h h' h2:PH} (a:Kept lm lf h h') (b:Kept lm lf h' h2):Kept lm lf h h2:=fun n o p q e=>b n o p q (a n o p q e)
theorem kept_m {lm lf:Nat} {h:PH} {o:MO}:Kept lm lf h (h.set lm o):=fun n _ p _ e=>set_ne e (fun z=>p z.symm)
theorem kept_f {lm lf:Nat} {h:PH} {o:MO}:Kept lm lf h (h.set lf o):=fun n _ _ q e=>set_ne e (fun z=>q z.symm)
def WR (M:Md) (g:Nm->Nat) (L:List Nm) (lt lm lf:Nat) (h:PH) (p q:Nm) (m:Nat) (δ:Ev) (h':PH):Prop:=∃ u way,m=vr M g u/\Ext h h'/\TreeAt h' lt lm lf M L/\h'[h.length]?=some (.lst (way.map pv))/\way.length+m<=M.length+1/\
 ringW M p (m+1) u way=ringW M p (vr M g (some q)+1) (some q) []/\δ=[some (.ref lt),some (pv p),some (pv q),some (.ref h.length),some (obN u)]
theorem vr_le {M:Md} {g:Nm->Nat} (hb:∀ q,g q<=M.length) (u:Option Nm):vr M g u<=M.length+1:=by
 cases u with
 | none=>exact Nat.zero_le _
 | some q=>rw [vr_some]; split <;> have:=hb q <;> omega
theorem ring_ok {h:PH} {lt lm lf:Nat} {M:Md} {L:List Nm} (t:TreeAt h lt lm lf M L) {g:Nm->Nat} (hg:Up M g) (hb:∀ q,g q<=M.length) (hl:M.length<=1000) (p q:Nm) (Q:PV->PH->Prop)
  (k:∀ l h',Ext h h'->h.length<=l->h'[l]?=some (.lst ((ringW M p (vr M g (some q)+1) (some q) []).map pv))->Q (.ref l) h'):(m_Tree_ring [.ref lt,pv p,pv q] h).W Q:=by
 refine W_fn ?_
 unfold b_Tree_ring
 rw [W_seq]
 simp
 have x0:Ext h (h++[MO.lst []]):=Ext.app _ _
 have g0:(h++[MO.lst []])[h.length]?=some (.lst (([]:List Nm).map pv)):=snoc_at
 generalize h++[MO.lst []]=hA at x0 g0
 refine now ?_
 rw [W_seq]
 simp
 refine now ?_
 rw [W_seq]
 have hv:=vr_le hb (some q)
 refine W_while (WR M g L lt lm lf h p q) ?_ 1000000 (vr M g (some q)) (by omega) _ _ ⟨some q,[],rfl,x0,t.ext x0,g0,by simp; omega,rfl,rfl⟩
 rintro m δ h' ⟨u,way,rfl,x,t',gw,lw,er,rfl⟩
 cases hu:u.bind (fnd M) with
 | none=>
  have hn:=t'.hasN u
  rw [hu] at hn
  simp [t'.fm,hn]
  refine now ?_
  simp
  have e0:ringW M p (vr M g (some q)+1) (some q) []=[]:=by
   rw [<- er]
   cases u with
   | none=>rfl
   | some z=>
    have hz:fnd M z=none:=hu
    unfold ringW
    rw [hz]
  have:=k h'.length (h'++[MO.lst []]) (x.trans (Ext.app _ _)) x.len (by rw [e0]; exact snoc_at)
  exact this
 | some r=>
  have hn:=t'.hasN u
  rw [hu] at hn
  simp [t'.fm,hn]
  cases u with
  | none=>cases hu
  | some z=>
   have hz:fnd M z=some r:=hu
   have vz:=vr_up hg hz
   unfold w_Tree_ring_0
   rw [W_seq]
   have ap:=append_ref (p:=pv z) gw (by rw [List.length_map]; omega)
   rw [show way.map pv++[pv z]=(way++[z]).map pv by simp] at ap
   have ap':onL fAppend (.ref h.length) [obN (some z)] h'=.ok .non (h'.set h.length (.lst ((way++[z]).map pv))):=ap
   obtain ⟨d1,d2,d3⟩:=t'.dm
   have hlen:lt < h.length/\lm < h.length/\lf < h.length:=by
    obtain ⟨o,ho,_,_⟩:=tblD_lst t.made
    exact ⟨(List.getElem?_eq_some_iff.mp t.ins).1,(List.getElem?_eq_some_iff.mp ho).1,(List.getElem?_eq_some_iff.mp t.fail).1⟩
   have x1:Ext h (h'.set h.length (.lst ((way++[z]).map pv))):=ext_set x
   have t1:TreeAt (h'.set h.length (.lst ((way++[z]).map pv))) lt lm lf M L:=by
    obtain ⟨o,ho,_,hh⟩:=tblD_lst t'.made
    exact ⟨set_ne t'.ins (by omega),hh _ (set_ne ho (by omega)),set_ne t'.fail (by omega)⟩
   have g1:=set_at (o':=MO.lst ((way++[z]).map pv)) gw
   generalize h'.set h.length (.lst ((way++[z]).map pv))=h2 at x1 t1 g1 ap'
   simp [isL_ref gw,ap']
   have er':(if z=p then way++[z] else ringW M p (vr M g (some z)) r.hd (way++[z]))=ringW M p (vr M g (some q)+1) (some q) []:=by
    rw [<- er]
    show _=(match fnd M z with | none=>[] | some r=>if z=p then way++[z] else ringW M p (vr M g (some z)) r.hd (way++[z]))
    rw [hz]
   refine now ?_
   rw [W_seq]
   have ev:vEq (obN (some z)) (pv p) h2=.ok (.bl (decide (z=p))) h2:=by
    show vEq (pv z) (pv p) h2=_
    rw [vEq_pl (pv_pl (n:=39)) (pv_pl (n:=39))]
    congr 2
    rw [decide_eq_decide]
    exact ⟨pv_inj,fun e=>by rw [e]⟩
   simp [ev]
   by_cases ez:z=p
   ·rw [if_pos ez]
    rw [if_pos ez] at er'
    exact k h.length h2 x1 (Nat.le_refl _) (by rw [<- er']; exact g1)
   ·rw [if_neg ez]
    rw [if_neg ez] at er'
    refine now ?_
    have ea:vAt (.ref lm) (obN (some z)) h2=.ok (recP r) h2:=t1.at' hz
    simp [t1.fm,ea,rc1]
    refine ⟨vr M g r.hd,vz,r.hd,way++[z],rfl,x1,t1,g1,by simp; omega,?_,rfl⟩
    rw [<- er']
    exact ring_fuel hg (by omega) vz
theorem put_ok {h:PH} {lt lm lf:Nat} {M:Md} {L:List Nm} (t:TreeAt h lt lm lf M L) (hl:M.length<=1000) {p:Nm} {r:Rc} (e:fnd M p=some r) (u:Option Nm) (st:PV):
  m_Tree_put [.ref lt,pv p,obN u,st] h=.ok .non (h.set lm (.dD ((mput M p ⟨r.kd,u,st⟩).map entM))):=by
 have w:(m_Tree_put [.ref lt,pv p,obN u,st] h).W fun q h'=>q=.non/\h'=h.set lm (.dD ((mput M p ⟨r.kd,u,st⟩).map entM)):=by
  refine W_fn ?_
  unfold b_Tree_put
  have hp:vPutL (.ref lm) (pv p) (recP ⟨r.kd,u,st⟩) h=some (h.set lm (.dD (putP (M.map entM) (pv p) (recP ⟨r.kd,u,st⟩)))):=vPutL_t t.made rfl (by rw [List.length_map]; omega)
  rw [put_m] at hp
  have hp':vPutL (.ref lm) (pv p) (.tup [.str r.kd,obN u,st]) h=_:=hp
  simp [t.fm,t.at' e,rc0,hp']
 obtain ⟨q,h',e,rfl,rfl⟩:=W_ex w
 exact e
inductive Act where
 | make (kd:Str) (ho:Nm) (sp:Spot)
 | move (th ho:Nm) (sp:Spot)
 | drop (th:Nm)
def actP:Act->List PV
 | .make kd ho sp=>[.str "make",.str kd,pv ho,spP sp]
 | .move th ho sp=>[.str "move",pv th,pv ho,spP sp]
 | .drop th=>[.str "drop",pv th]
def ActOk:Act->Prop
 | .make _ _ sp=>SpOk sp
 | .move _ _ sp=>SpOk sp
 | .drop _=>True
open Classical in
noncomputable def heard (M:Md) (L:List Nm) (nm:Nm):Act->Md×List Nm×Str
 | .make kd ho sp=>if fitsB M ho sp=true then (mput M nm ⟨kd,some ho,standV sp nm⟩,L,"done") else (M,L,"idle")
 | .move th ho sp=>match fnd M th with
  | none=>(M,L,"idle")
  | some r=>if fitsB M ho sp=true then (if On M th (some ho) then (M,L++[nm],"lost") else (mput M th ⟨r.kd,some ho,standV sp nm⟩,L,"done")) else (M,L,"idle")
 | .drop th=>match fnd M th with
  | none=>(M,L,"idle")
  | some r=>(mput M th ⟨r.kd,none,.non⟩,L,"done")
theorem heard_mk {M:Md} {L:List Nm} {nm:Nm} {kd:Str} {ho:Nm} {sp:Spot}:heard M L nm (.make kd ho sp)=if fitsB M ho sp=true then (mput M nm ⟨kd,some ho,standV sp nm⟩,L,("done" : Str)) else (M,L,("idle" : Str)):=rfl
open Classical in
theorem heard_mv {M:Md} {L:List Nm} {nm th ho:Nm} {sp:Spot} {r:Rc} (e:fnd M th=some r):heard M L nm (.move th ho sp)=if fitsB M ho sp=true then (if On M th (some ho) then (M,L++[nm],("lost" : Str)) else (mput M th ⟨r.kd,some ho,standV sp nm⟩,L,("done" : Str))) else (M,L,("idle" : Str)):=by
 simp only [heard,e]
theorem heard_mv0 {M:Md} {L:List Nm} {nm th ho:Nm} {sp:Spot} (e:fnd M th=none):heard M L nm (.move th ho sp)=(M,L,("idle" : Str)):=by
 simp only [heard,e]
theorem heard_dr {M:Md} {L:List Nm} {nm th:Nm} {r:Rc} (e:fnd M th=some r):heard M L nm (.drop th)=(mput M th ⟨r.kd,none,.non⟩,L,("done" : Str)):=by
 simp only [heard,e]
theorem heard_dr0 {M:Md} {L:List Nm} {nm th:Nm} (e:fnd M th=none):heard M L nm (.drop th)=(M,L,("idle" : Str)):=by
 simp only [heard,e]
theorem make_ok {h:PH} {lt lm lf:Nat} {M:Md} {L:List Nm} (t:TreeAt h lt lm lf M L) (hl:M.length<=1000) (nm:Nm) (kd:Str) (ho:Nm) (sp:Spot) (hs:SpOk sp) (Q:PV->PH->Prop)
  (k:∀ h',TreeAt h' lt lm lf (heard M L nm (.make kd ho sp)).1 (heard M L nm (.make kd ho sp)).2.1->Kept lm lf h h'->Q (.str (heard M L nm (.make kd ho sp)).2.2) h'):(m_Tree_hear_make [.ref lt,pv nm,.tup (actP (.make kd ho sp))] h).W Q:=by
 refine W_fn ?_
 unfold b_Tree_hear_make
 rw [heard_mk] at k
 rw [W_seq]
 simp only [actP]
 simp
 refine now ?_
 rw [W_seq]
 have m1:=mMeth_at (mm:="takes") (n:=2) (tb:=tb_Tree_hear_make_0) (ms:=mCons (mV 5) (mCons (mV 6) mNil)) (δ:=[some (.ref lt),some (pv nm),some (.tup [.str "make",.str kd,pv ho,spP sp]),some (.str "make"),some (.str kd),some (pv ho),some (spP sp)]) (h:=h) (h1:=h) (mo:=mV 0) (k:=lt) (f:=m_Tree_takes) (by simp) t.ins (by simp [tb_Tree_hear_make_0]) rfl
 cases ef:fitsB M ho sp with
 | false=>
  simp [m1,takes_ok t,ef]
  rw [ef,if_neg Bool.false_ne_true] at k
  exact k h t (Kept.of (Ext.refl _))
 | true=>
  simp [m1,takes_ok t,ef]
  rw [ef,if_pos rfl] at k
  refine now ?_
  rw [W_seq]
  have hp:vPutL (.ref lm) (pv nm) (recP ⟨kd,some ho,standV sp nm⟩) h=some (h.set lm (.dD (putP (M.map entM) (pv nm) (recP ⟨kd,some ho,standV sp nm⟩)))):=vPutL_t t.made rfl (by rw [List.length_map]; omega)
  rw [put_m] at hp
  have hp':vPutL (.ref lm) (pv nm) (.tup [.str kd,pv ho,standV sp nm]) h=_:=hp
  simp [stand_ok sp hs nm,t.fm,hp']
  refine now ?_
  simp
  exact k _ t.put kept_m
theorem move_ok {h:PH} {lt lm lf:Nat} {M:Md} {L:List Nm} (t:TreeAt h lt lm lf M L) (hM:NoRing M) (hl:M.length<=1000) (hL:L.length<=1000) (nm:Nm) (th ho:Nm) (sp:Spot) (hs:SpOk sp) {r:Rc} (hr:fnd M th=some r) (Q:PV->PH->Prop)
  (k:∀ h',TreeAt h' lt lm lf (heard M L nm (.move th ho sp)).1 (heard M L nm (.move th ho sp)).2.1->Kept lm lf h h'->Q (.str (heard M L nm (.move th ho sp)).2.2) h'):(m_Tree_hear_move [.ref lt,pv nm,.tup (actP (.move th ho sp))] h).W Q:=by
 refine W_fn ?_
 unfold b_Tree_hear_move
 rw [heard_mv hr] at k
 rw [W_seq]
 simp only [actP]
 simp
 refine now ?_
 rw [W_seq]
 have dl:([some (.ref lt),some (pv nm),some (.tup [.str "move",pv th,pv ho,spP sp]),some (.str "move"),some (pv th),some (pv ho),some (spP sp)]:Ev)=[some (.ref lt),some (pv nm),some (.tup [.str "move",pv th,pv ho,spP sp]),some (.str "move"),some (pv th),some (pv ho),some (spP sp)]:=rfl
 have m1:=mMeth_at (mm:="takes") (n:=2) (tb:=tb_Tree_hear_move_0) (ms:=mCons (mV 5) (mCons (mV 6) mNil)) (δ:=[some (.ref lt),some (pv nm),some (.tup [.str "move",pv th,pv ho,spP sp]),some (.str "move"),some (pv th),some (pv ho),some (spP sp)]) (h:=h) (h1:=h) (mo:=mV 0) (k:=lt) (f:=m_Tree_takes) (by simp) t.ins (by simp [tb_Tree_hear_move_0]) rfl
 cases ef:fitsB M ho sp with
 | false=>
  simp [m1,takes_ok t,ef]
  rw [ef,if_neg Bool.false_ne_true] at k
  exact k h t (Kept.of (Ext.refl _))
 | true=>
  simp [m1,takes_ok t,ef]
  rw [ef,if_pos rfl] at k
  obtain ⟨g,hg,hb⟩:=small hM
  refine now ?_
  rw [W_seq]
  have m2:=mMeth_at (mm:="ring") (n:=2) (tb:=tb_Tree_hear_move_1) (ms:=mCons (mV 4) (mCons (mV 5) mNil)) (δ:=[some (.ref lt),some (pv nm),some (.tup [.str "move",pv th,pv ho,spP sp]),some (.str "move"),some (pv th),some (pv ho),some (spP sp)]) (h:=h) (h1:=h) (mo:=mV 0) (k:=lt) (f:=m_Tree_ring) (by simp) t.ins (by simp [tb_Tree_hear_move_1]) rfl
  obtain ⟨pr,h2,e2,l,rfl,x2,fr,g2⟩:=W_ex (ring_ok t hg hb hl th ho (fun pr h2=>∃ l,pr=.ref l/\Ext h h2/\h.length<=l/\h2[l]?=some (.lst ((ringW M th (vr M g (some ho)+1) (some ho) []).map pv))) fun l h2 a b c=>⟨l,rfl,a,b,c⟩)
  have t2:=t.ext x2
  have hon:ringW M th (vr M g (some ho)+1) (some ho) []=[] ↔ ¬ On M th (some ho):=by rw [ring_nil,on_enough hg (n:=vr M g (some ho)+1) (by omega)]
  generalize ringW M th (vr M g (some ho)+1) (some ho) []=R at g2 hon
  by_cases on:On M th (some ho)
  ·rw [if_pos on] at k
   have hR:R≠[]:=fun z=>(hon.mp z) on
   have tr:tru (.ref l) h2=.ok true h2:=by simp [tru,lstAt,isLst,g2,hR]
   have ap:=append_ref (p:=pv nm) t2.fail (by rw [List.length_map]; omega)
   rw [show L.map pv++[pv nm]=(L++[nm]).map pv by simp] at ap
   have t3:=t2.lose (L':=L++[nm])
   have k3:Kept lm lf h2 (h2.set lf (.lst ((L++[nm]).map pv))):=kept_f
   generalize h2.set lf (.lst ((L++[nm]).map pv))=h3 at ap t3 k3
   simp [m2,e2,tr,W_seq,t2.ff,isL_ref t2.fail,ap]
   refine now ?_
   simp
   exact k _ t3 ((Kept.of x2).trans k3)
  ·rw [if_neg on] at k
   have hR:R=[]:=hon.mpr on
   have tr:tru (.ref l) h2=.ok false h2:=by simp [tru,lstAt,isLst,g2,hR]
   simp [m2,e2,tr]
   refine now ?_
   rw [W_seq]
   have m3:=mMeth_at (mm:="put") (n:=3) (tb:=tb_Tree_hear_move_2) (ms:=mCons (mV 4) (mCons (mV 5) (mCons (mCall 2 m_stand_of (mCons (mV 6) (mCons (mV 1) mNil))) mNil))) (δ:=[some (.ref lt),some (pv nm),some (.tup [.str "move",pv th,pv ho,spP sp]),some (.str "move"),some (pv th),some (pv ho),some (spP sp)]) (h:=h2) (h1:=h2) (mo:=mV 0) (k:=lt) (f:=m_Tree_put) (by simp) t2.ins (by simp [tb_Tree_hear_move_2]) rfl
   have hp:=put_ok t2 hl hr (some ho) (standV sp nm)
   have hp':m_Tree_put [.ref lt,pv th,pv ho,standV sp nm] h2=_:=hp
   simp [m3,stand_ok sp hs nm,hp']
   refine now ?_
   simp
   exact k _ t2.put ((Kept.of x2).trans kept_m)
theorem hear_ok {h:PH} {lt lm lf:Nat} {M:Md} {L:List Nm} (t:TreeAt h lt lm lf M L) (hM:NoRing M) (hl:M.length<=1000) (hL:L.length<=1000) (nm:Nm) (sn:PV) (a:Act) (ha:ActOk a) (Q:PV->PH->Prop)
  (k:∀ h',TreeAt h' lt lm lf (heard M L nm a).1 (heard M L nm a).2.1->Kept lm lf h h'->Q (.str (heard M L nm a).2.2) h'):(m_Tree_hear [.ref lt,.tup [pv nm,sn,.tup (actP a)]] h).W Q:=by
 refine W_fn ?_
 unfold b_Tree_hear
 rw [W_seq]
 simp
 refine now ?_
 rw [W_seq]
 cases a with
 | make kd ho sp=>
  have m1:=mMeth_at (mm:="hear_make") (n:=2) (tb:=tb_Tree_hear_0) (ms:=mCons (mV 2) (mCons (mV 4) mNil)) (δ:=[some (.ref lt),some (.tup [pv nm,sn,.tup (actP (.make kd ho sp))]),some (pv nm),some sn,some (.tup (actP (.make kd ho sp)))]) (h:=h) (h1:=h) (mo:=mV 0) (k:=lt) (f:=m_Tree_hear_make) (by simp) t.ins (by simp [tb_Tree_hear_0]) rfl
  have e0:∀ h,vIx (.tup (actP (.make kd ho sp))) (.int 0) h=.ok (.str "make") h:=fun h=>by simp [actP]
  generalize hA:actP (.make kd ho sp)=A at m1 e0
  simp [e0,m1]
  rw [<- hA]
  exact make_ok t hl nm kd ho sp ha _ k
 | move th ho sp=>
  have e0:∀ h,vIx (.tup (actP (.move th ho sp))) (.int 0) h=.ok (.str "move") h:=fun h=>by simp [actP]
  have e1:∀ h,vIx (.tup (actP (.move th ho sp))) (.int 1) h=.ok (pv th) h:=fun h=>by simp [actP]
  have m1:=mMeth_at (mm:="hear_move") (n:=2) (tb:=tb_Tree_hear_2) (ms:=mCons (mV 2) (mCons (mV 4) mNil)) (δ:=[some (.ref lt),some (.tup [pv nm,sn,.tup (actP (.move th ho sp))]),some (pv nm),some sn,some (.tup (actP (.move th ho sp)))]) (h:=h) (h1:=h) (mo:=mV 0) (k:=lt) (f:=m_Tree_hear_move) (by simp) t.ins (by simp [tb_Tree_hear_2]) rfl
  generalize hA:actP (.move th ho sp)=A at m1 e0 e1
  simp [e0]
  refine now ?_
  rw [W_seq]
  have hn:vHasNotN (pv th) (.ref lm) h=.ok (.bl (!(fnd M th).isSome)) h:=by unfold pv; rw [vHasNotN_tup]; exact t.hasNot th
  cases hr:fnd M th with
  | none=>
   rw [hr] at hn
   simp [e1,t.fm,hn]
   rw [heard_mv0 hr] at k
   exact k h t (Kept.of (Ext.refl _))
  | some r=>
   rw [hr] at hn
   simp [e1,t.fm,hn]
   refine now ?_
   rw [W_seq]
   simp [e0]
   refine now ?_
   simp [m1]
   rw [<- hA]
   exact move_ok t hM hl hL nm th ho sp ha hr _ k
 | drop th=>
  have e0:∀ h,vIx (.tup (actP (.drop th))) (.int 0) h=.ok (.str "drop") h:=fun h=>by simp [actP]
  have e1:∀ h,vIx (.tup (actP (.drop th))) (.int 1) h=.ok (pv th) h:=fun h=>by simp [actP]
  have m1:=mMeth_at (mm:="put") (n:=3) (tb:=tb_Tree_hear_1) (ms:=mCons (mBin vAt (mV 4) (mC (.int 1))) (mCons (mC .non) (mCons (mC .non) mNil))) (δ:=[some (.ref lt),some (.tup [pv nm,sn,.tup (actP (.drop th))]),some (pv nm),some sn,some (.tup (actP (.drop th)))]) (h:=h) (h1:=h) (mo:=mV 0) (k:=lt) (f:=m_Tree_put) (by simp) t.ins (by simp [tb_Tree_hear_1]) rfl
  generalize hA:actP (.drop th)=A at m1 e0 e1
  simp [e0]
  refine now ?_
  rw [W_seq]
  have hn:vHasNotN (pv th) (.ref lm) h=.ok (.bl (!(fnd M th).isSome)) h:=by unfold pv; rw [vHasNotN_tup]; exact t.hasNot th
  cases hr:fnd M th with
  | none=>
   rw [hr] at hn
   simp [e1,t.fm,hn]
   rw [heard_dr0 hr] at k
   exact k h t (Kept.of (Ext.refl _))
  | some r=>
   rw [hr] at hn
   simp [e1,t.fm,hn]
   refine now ?_
   rw [W_seq]
   have hp:=put_ok t hl hr none .non
   have hp':m_Tree_put [.ref lt,pv th,.non,.non] h=_:=hp
   simp [e0,W_seq,m1,e1,hp']
   refine now ?_
   simp
   rw [heard_dr hr] at k
   exact k _ t.put kept_m
structure TInv (M:Md):Prop where
 nr:NoRing M
 ho:∀ p r q,fnd M p=some r->r.hd=some q->q=root\/(fnd M q).isSome=true
 rt:fnd M root=none
theorem fits_in {M:Md} {ho:Nm} {sp:Spot} (h:fitsB M ho sp=true):ho=root\/(fnd M ho).isSome=true:=by
 unfold fitsB at h
 have h:=of_decide_eq_true h
 unfold kindV at h
 by_cases e:ho=root
 ·exact .inl e
 ·rw [if_neg e] at h
  cases e2:fnd M ho with
  | some r=>exact .inr rfl
  | none=>rw [e2] at h; dsimp only at h; split at h <;> cases h
theorem isSome_mput {M:Md} {p q:Nm} {r:Rc} (h:(fnd M q).isSome=true):(fnd (mput M p r) q).isSome=true:=by
 rw [fnd_mput]
 split
 ·rfl
 ·exact h
theorem TInv.put {M:Md} {p:Nm} {r:Rc} (t:TInv M) (hn:NoRing (mput M p r)) (hp:p≠root) (hr:∀ q,r.hd=some q->q=root\/(fnd M q).isSome=true):TInv (mput M p r):=by
 refine ⟨hn,fun x rx q h1 h2=>?_,by rw [fnd_mput,if_neg (fun z=>hp z.symm)]; exact t.rt⟩
 rw [fnd_mput] at h1
 have:q=root\/(fnd M q).isSome=true:=by
  split at h1
  ·cases h1; exact hr q h2
  ·exact t.ho x rx q h1 h2
 exact this.imp id isSome_mput
theorem TInv.heard {M:Md} {L:List Nm} {nm:Nm} {a:Act} (t:TInv M) (hm:∀ kd ho sp,a=.make kd ho sp->fnd M nm=none/\nm≠root):TInv (heard M L nm a).1:=by
 obtain ⟨f,hf⟩:=t.nr
 have nrt:∀ {p:Nm} {r:Rc},fnd M p=some r->p≠root:=fun e z=>by rw [z,t.rt] at e; cases e
 cases a with
 | make kd ho sp=>
  rw [heard_mk]
  split
  ·rename_i hfit
   obtain ⟨h1,h2⟩:=hm kd ho sp rfl
   have hin:=fits_in hfit
   refine t.put (noring_make hf h1 (fun z=>?_) fun x rx hx z=>?_) h2 fun q hq=>?_
   ·have e:ho=nm:=Option.some.inj z
    rcases hin with e2 | e2
    ·exact h2 (e ▸ e2)
    ·rw [e,h1] at e2; cases e2
   ·rcases t.ho x rx nm hx z with e2 | e2
    ·exact h2 e2
    ·rw [h1] at e2; cases e2
   ·cases hq; exact hin
  ·exact t
 | move th ho sp=>
  cases e:fnd M th with
  | none=>rw [heard_mv0 e]; exact t
  | some r=>
   rw [heard_mv e]
   split
   ·rename_i hfit
    split
    ·exact t
    ·rename_i hon
     exact t.put (noring_move hf e rfl hon) (nrt e) fun q hq=>by cases hq; exact fits_in hfit
   ·exact t
 | drop th=>
  cases e:fnd M th with
  | none=>rw [heard_dr0 e]; exact t
  | some r=>
   rw [heard_dr e]
   exact t.put ⟨f,noring_none hf e rfl⟩ (nrt e) fun q hq=>by cases hq
theorem TInv.nil:TInv []:=⟨⟨fun _=>0,fun p r q h=>by cases h⟩,(fun p r q h=>by cases h),rfl⟩
theorem len_heard {M:Md} {L:List Nm} {nm:Nm} {a:Act}:(heard M L nm a).1.length<=M.length+1/\(heard M L nm a).2.1.length<=L.length+1:=by
 cases a with
 | make kd ho sp=>
  rw [heard_mk]
  split
  ·exact ⟨len_mput _ _ _,by dsimp only; omega⟩
  ·exact ⟨by dsimp only; omega,by dsimp only; omega⟩
 | move th ho sp=>
  cases e:fnd M th with
  | none=>rw [heard_mv0 e]; exact ⟨by dsimp only; omega,by dsimp only; omega⟩
  | some r=>
   rw [heard_mv e]
   split
   ·split
    ·exact ⟨by dsimp only; omega,by simp⟩
    ·exact ⟨len_mput _ _ _,by dsimp only; omega⟩
   ·exact ⟨by dsimp only; omega,by dsimp only; omega⟩
 | drop th=>
  cases e:fnd M th with
  | none=>rw [heard_dr0 e]; exact ⟨by dsimp only; omega,by dsimp only; omega⟩
  | some r=>rw [heard_dr e]; exact ⟨len_mput _ _ _,by dsimp only; omega⟩
theorem init_ok (δ:Ev) (h:PH):∃ h',mMake "Tree" 0 m_Tree___init__ mNil δ h=.ok (.ref h.length) h'/\TreeAt h' h.length (h.length+1) (h.length+2) [] []/\Ext h h':=by
 have w:(m_Tree___init__ [.ref h.length] (h++[.ins "Tree" []])).W fun q h'=>q=.non/\TreeAt h' h.length (h.length+1) (h.length+2) [] []/\Ext h h':=by
  refine W_fn ?_
  change (b_Tree___init__ [some (.ref h.length)] _).W _
  unfold b_Tree___init__
  rw [W_seq]
  have g0:(h++[MO.ins "Tree" []]++[MO.dK []])[h.length]?=some (.ins "Tree" []):=by simp
  have gd:(h++[MO.ins "Tree" []]++[MO.dK []])[h.length+1]?=some (.dK []):=by simp
  have x0:Ext h (h++[MO.ins "Tree" []]++[MO.dK []]):=(Ext.app _ _).trans (Ext.app _ _)
  have ln:(h++[MO.ins "Tree" []]++[MO.dK []]).length=h.length+2:=by simp
  simp only [W_setF,mDict0_eq,W_ok,mV_eq,evAt_zero]
  rw [show (h++[MO.ins "Tree" []]).length=h.length+1 by simp]
  generalize h++[MO.ins "Tree" []]++[MO.dK []]=hA at g0 gd x0 ln
  have e1:=vSetF_at (f:="made") (p:=.ref (h.length+1)) g0 (by simp)
  refine ⟨_,e1,now ?_⟩
  have g1:=set_at (o':=MO.ins "Tree" (fput "made" (.ref (h.length+1)) [])) g0
  have gd1:=set_ne (o':=MO.ins "Tree" (fput "made" (.ref (h.length+1)) [])) gd (n:=h.length) (by omega)
  have x1:Ext h (hA.set h.length (MO.ins "Tree" (fput "made" (.ref (h.length+1)) []))):=ext_set x0
  have ln1:(hA.set h.length (MO.ins "Tree" (fput "made" (.ref (h.length+1)) []))).length=h.length+2:=by rw [List.length_set]; exact ln
  generalize hA.set h.length (MO.ins "Tree" (fput "made" (.ref (h.length+1)) []))=hB at g1 gd1 x1 ln1
  simp only [W_setF,mLst_eq,mNil_eq,Rs.bind_ok,W_ite,List.length_nil,W_ok,mV_eq,evAt_zero]
  rw [if_pos (by decide)]
  have g2:(hB++[MO.lst []])[h.length]?=some (MO.ins "Tree" (fput "made" (.ref (h.length+1)) [])):=Ext.app _ _ _ _ g1
  have gd2:(hB++[MO.lst []])[h.length+1]?=some (.dK []):=Ext.app _ _ _ _ gd1
  have gf2:(hB++[MO.lst []])[h.length+2]?=some (.lst []):=by rw [<- ln1]; exact snoc_at
  have x2:Ext h (hB++[MO.lst []]):=x1.trans (Ext.app _ _)
  rw [ln1]
  generalize hB++[MO.lst []]=hC at g2 gd2 gf2 x2
  have e2:=vSetF_at (f:="failed") (p:=.ref (h.length+2)) g2 (show 1 < 1000 by omega)
  refine ⟨_,e2,trivial,⟨?_,?_,?_⟩,ext_set x2⟩
  ·have:=set_at (o':=MO.ins "Tree" (fput "failed" (.ref (h.length+2)) (fput "made" (.ref (h.length+1)) []))) g2
   rw [this]
   rfl
  ·exact tblD_dK (set_ne gd2 (by omega))
  ·exact set_ne gf2 (by omega)
 obtain ⟨q,h',e,rfl,a,b⟩:=W_ex w
 refine ⟨h',?_,a,b⟩
 rw [mMake_eq,mNil_eq]
 simp only [Rs.bind_ok,List.length_nil,if_true]
 rw [e]
 rfl
theorem cut1 {α:Type} {xs:List α}:cutP xs (some 1) none=xs.tail:=by
 unfold cutP HT.sIx
 cases xs with
 | nil=>rfl
 | cons a r=>simp
def XI (c many:Int) (h:PH) (q:Nat) (δ:Ev) (h':PH):Prop:=∃ (xs:List Int) (n:Int),Ext h h'/\h'[h.length]?=some (.lst (xs.map PV.int))/\xs.length=q/\(∀ x∈xs,0<=x/\x < 2147483647)/\0<=n/\n < 2147531918/\∃ x4,δ=[some (.int c),some (.int many),some (.ref h.length),some (.int n),x4]
theorem stream_ok (c:Int) (many:Nat) (hm:many<=100) (h:PH) (Q:PV->PH->Prop) (k:∀ (xs:List Int) l h',Ext h h'->h'[l]?=some (.lst (xs.map PV.int))->xs.length=many->(∀ x∈xs,0<=x/\x < 2147483647)->Q (.ref l) h'):(m_stream [.int c,.int many] h).W Q:=by
 refine W_fn ?_
 unfold b_stream
 rw [W_seq]
 simp
 have x0:Ext h (h++[MO.lst []]):=Ext.app _ _
 have g0:(h++[MO.lst []])[h.length]?=some (.lst (([]:List Int).map PV.int)):=snoc_at
 generalize h++[MO.lst []]=hA at x0 g0
 refine now ?_
 rw [W_seq]
 simp (disch:=omega)
 have hn:0<=c % 2147483647+48271/\c % 2147483647+48271 < 2147531918:=by omega
 generalize c % 2147483647+48271=n0 at hn
 refine now ?_
 rw [W_seq]
 refine W_for1 (j:=(many:Int)+1) (XI c many h) ?_ (by omega) ⟨[],n0,x0,g0,rfl,(fun x hx=>by cases hx),hn.1,hn.2,_,rfl⟩ ?_ ?_
 ·simp
 ·rintro i δ h' hi ⟨xs,n,x,g,lx,bx,n1,n2,x4,rfl⟩
  unfold w_stream_0
  rw [W_seq]
  simp (disch:=omega)
  have hb:0<=(n*n+48271*n+(i:Int)) % 2147483647/\(n*n+48271*n+(i:Int)) % 2147483647 < 2147483647:=⟨Int.emod_nonneg _ (by omega),Int.emod_lt_of_pos _ (by omega)⟩
  generalize (n*n+48271*n+(i:Int)) % 2147483647=n' at hb
  refine now ?_
  have ap:=append_ref (p:=.int n') g (by rw [List.length_map]; omega)
  rw [show xs.map PV.int++[.int n']=(xs++[n']).map PV.int by simp] at ap
  simp [isL_ref g]
  rw [ap,W_ok]
  refine ⟨xs++[n'],n',ext_set x,set_at g,by simp [lx],fun z hz=>?_,hb.1,by omega,_,rfl⟩
  rcases List.mem_append.mp hz with hz | hz
  ·exact bx z hz
  ·rw [List.mem_singleton.mp hz]; exact hb
 ·rintro δ h' ⟨xs,n,x,g,lx,bx,n1,n2,x4,rfl⟩
  refine now ?_
  simp only [W_ret,mSl_eq,mV_eq,evAt_succ,evAt_zero,Rs.bind_ok,mP_eq,mC_eq,mNoP_eq,toPart_int,vSl_ref g,cut1,W_ok]
  rw [<- List.map_tail]
  exact k xs.tail _ _ (x.trans (Ext.app _ _)) snoc_at (by rw [List.length_tail,lx]; omega) fun z hz=>bx z (List.mem_of_mem_tail hz)
theorem glue_len (zs:List Str):(Builtin.Str.glued "" zs).length=(zs.map Str.length).sum:=by
 have e0:(Str.ofString "").cps=#[]:=rfl
 have key:∀ (zs:List Str) (acc:Array Nat),((zs.foldl (fun acc p=>acc++(Str.ofString "").cps++p.cps) acc).size)=acc.size+(zs.map Str.length).sum:=by
  intro zs
  induction zs with
  | nil=>intro acc; simp
  | cons z zs ih=>
   intro acc
   rw [List.foldl_cons,ih,List.map_cons,List.sum_cons,e0]
   simp [Str.length]
   omega
 unfold Builtin.Str.glued
 show ((zs.drop 1).foldl (fun acc p=>acc++(Str.ofString "").cps++p.cps) (zs.headD Str.empty).cps).size=_
 rw [key]
 cases zs with
 | nil=>rfl
 | cons z zs=>simp [Str.length]
theorem jlen_sum (zs:List Str):jlen "" zs=(zs.map Str.length).sum:=by
 unfold jlen
 have key:∀ (zs:List Str) (n:Nat),zs.foldl (fun a p=>a+p.length+("" : Str).length) n=n+(zs.map Str.length).sum:=by
  intro zs
  induction zs with
  | nil=>intro n; simp
  | cons z zs ih=>
   intro n
   rw [List.foldl_cons,ih,List.map_cons,List.sum_cons]
   have:("" : Str).length=0:=rfl
   omega
 rw [List.foldl_toArray]
 rw [key]
 omega
theorem strs_ok:∀ zs:List Str,strsP (zs.map PV.str)=some zs
 | []=>rfl
 | z :: zs=>by rw [List.map_cons]; unfold strsP; rw [strs_ok zs]; rfl
theorem join_ok {n:Nat} {h:PH} {zs:List Str} (g:h[n]?=some (.lst (zs.map PV.str))) (h1:∀ z∈zs,z.length=1) (h2:2<=zs.length) (h3:zs.length<=1000):∃ w:Str,vJoin (.str "") [.ref n] h=.ok (.str w) h/\w.length=zs.length:=by
 have hs:(zs.map Str.length).sum=zs.length:=by
  clear g h2 h3
  induction zs with
  | nil=>rfl
  | cons z zs ih=>
   rw [List.map_cons,List.sum_cons,h1 z List.mem_cons_self,ih fun y hy=>h1 y (List.mem_cons_of_mem _ hy),List.length_cons]
   omega
 have ej:jnd "" zs=Builtin.Str.glued "" zs:=by
  match zs,h2 with
  | _ :: _ :: _,_=>rfl
 have hw:(jnd "" zs).length=zs.length:=by rw [ej,glue_len,hs]
 refine ⟨jnd "" zs,?_,hw⟩
 have el:isLst h n=some (zs.map PV.str):=by simp [isLst,g]
 have hz:(zs.length<=sizeLine):=by rw [sizeLine_num]; omega
 unfold vJoin
 simp only [el,strs_ok]
 rw [if_pos ⟨by rw [jlen_sum,hs]; exact hz,by rw [hw]; exact hz⟩]
theorem cut8 {α:Type} {xs:List α}:cutP xs none (some 8)=xs.take 8:=by
 unfold cutP HT.sIx
 simp
 try omega
theorem slice_len {z:Str} {j:Int} (h0:0<=j) (h1:j<=z.length):(Txt.slice z none (some j)).length=j.toNat:=by
 rw [<- len_list,slice_to h0 h1,List.length_take,len_list]; exact Nat.min_eq_left (Int.toNat_le.mpr h1)
theorem at_int {xs:List Int} {i:Nat} (h:i < xs.length):atI (xs.map PV.int) (i:Int)=some (.int xs[i]):=atI_of (by simp [h])
theorem hands_ok (c:Int) (m:Nat) (h3:m<=6) (h:PH) (Q:PV->PH->Prop) (k:∀ (hs:List Str) (l:Nat) (h':PH),h'[l]?=some (.lst (hs.map PV.str))->hs.length=m->Q (.ref l) h'):(m_hands [.int c,.int m] h).W Q:=by
 refine W_fn ?_
 unfold b_hands
 rw [W_seq]
 simp
 refine now ?_
 rw [W_seq]
 simp
 refine stream_ok c 10 (by omega) h _ fun xs lx hA xA gA len bx=>?_
 try simp
 refine now ?_
 rw [W_seq]
 -- the stem
 have hsl:=vSl_ref (lo:=none) (hi:=some 8) gA
 rw [cut8,<- List.map_take] at hsl
 have gB:(hA++[MO.lst ((xs.take 8).map PV.int)])[hA.length]?=some (.lst ((xs.take 8).map PV.int)):=snoc_at
 have xB:Ext hA (hA++[MO.lst ((xs.take 8).map PV.int)]):=Ext.app _ _
 generalize hA.length=lb at hsl gB
 generalize hA++[MO.lst ((xs.take 8).map PV.int)]=hB at hsl gB xB
 have hc:=comp_lst (js:=[none,some 2]) (tg:=gN 0) (tst:=mYes) (elt:=mBin vAt (mV 1) (mBin vMod (mV 0) (mC (.int 26)))) (m:=mSl (mV 3) mNoP (mP (mC (.int 8)))) (δ:=[some (.int c),some (.int m),some (.str lett),some (.ref lx),none,none]) (h:=hA) (h1:=hB) (n:=lb) (ys:=xs.take 8) (emb:=PV.int)
  (fun x=>some (.str ⟨#[97+(x % 26).toNat]⟩)) (by simp [hsl]) gB (by rw [List.length_take]; omega) (fun x hx=>⟨_,rfl,fun h3 _=>⟨rfl,by
   have hl:=at_lett (i:=x % 26) (by omega) (by omega)
   have hv:vIx (.str lett) (.int (x % 26)) h3=.ok (.str ⟨#[97+(x % 26).toNat]⟩) h3:=by rw [vIx_str (by rw [lett_len']; omega),hl]; rfl
   simp (disch:=omega) [capE,hv]⟩⟩)
 have e1:(xs.take 8).filterMap (fun x=>some (PV.str ⟨#[97+(x % 26).toNat]⟩))=((xs.take 8).map fun x=>(⟨#[97+(x % 26).toNat]⟩:Str)).map PV.str:=by rw [filterMap_some,List.map_map]; rfl
 rw [e1] at hc
 have hz1:∀ z∈(xs.take 8).map (fun x=>(⟨#[97+(x % 26).toNat]⟩:Str)),z.length=1:=fun z hz=>by
  obtain ⟨x,_,rfl⟩:=List.mem_map.mp hz
  rfl
 have hz2:((xs.take 8).map fun x=>(⟨#[97+(x % 26).toNat]⟩:Str)).length=8:=by rw [List.length_map,List.length_take]; omega
 generalize (xs.take 8).map (fun x=>(⟨#[97+(x % 26).toNat]⟩:Str))=zs at hc hz1 hz2
 have gC:(hB++[MO.lst (zs.map PV.str)])[hB.length]?=some (.lst (zs.map PV.str)):=snoc_at
 have xC:Ext hB (hB++[MO.lst (zs.map PV.str)]):=Ext.app _ _
 generalize hB.length=lc at hc gC
 generalize hB++[MO.lst (zs.map PV.str)]=hC at hc gC xC
 obtain ⟨w,ew,lw⟩:=join_ok gC hz1 (by omega) (by omega)
 have ist:isSt (.str ("" : Str)) hA=true:=rfl
 simp [ist,hc,ew]
 have gX:hC[lx]?=some (.lst (xs.map PV.int)):=xC _ _ (xB _ _ gA)
 have a8:atI (xs.map PV.int) 8=some (.int xs[8]):=at_int (i:=8) (by omega)
 have a9:atI (xs.map PV.int) 9=some (.int xs[9]):=at_int (i:=9) (by omega)
 have b8:=bx xs[8] (List.getElem_mem _)
 have b9:=bx xs[9] (List.getElem_mem _)
 generalize xs[8]=x8 at a8 b8
 generalize xs[9]=x9 at a9 b9
 refine now ?_
 rw [W_seq]
 simp (disch:=omega)
 split
 ·have hcc:=comp_rng (js:=[none,some 4,some 3]) (tg:=gN 0) (tst:=mYes) (elt:=mSl (mV 1) mNoP (mP (mBin vPlus (mC (.int 1)) (mBin vMod (mBin vPlus (mV 0) (mBin vAt (mV 2) (mC (.int 8)))) (mC (.int 8)))))) (ms:=mCons (mV 1) mNil)
   (δ:=[some (.int c),some (.int m),some (.str lett),some (.ref lx),some (.str w),none]) (h:=hC) (h1:=hC) (j:=m) (fun i=>some (.str (Txt.slice w none (some (1+((i:Int)+x8) % 8))))) (by simp) (by omega)
   (fun i hi=>⟨_,rfl,fun h3 hx=>⟨rfl,by simp (disch:=omega) [capE,vIx_ref (hx _ _ gX),a8]⟩⟩)
  simp [hcc]
  have:=k ((List.range m).map fun (i:Nat)=>Txt.slice w none (some (1+((i:Int)+x8) % 8))) hC.length (hC++[.lst (((List.range m).map fun (i:Nat)=>Txt.slice w none (some (1+((i:Int)+x8) % 8))).map PV.str)]) snoc_at (by simp)
  rw [List.map_map] at this
  exact this
 ·refine now ?_
  rw [W_seq]
  simp (disch:=omega) [vIx_ref gX,a8]
  have l1:=slice_len (z:=w) (j:=1+x8 % 8) (by omega) (by omega)
  generalize Txt.slice w none (some (1+x8 % 8))=z at l1
  refine now ?_
  rw [W_seq]
  simp (disch:=omega) [vIx_ref gX,a9]
  have hat:0<=x9 % (z.length:Int)/\x9 % (z.length:Int) < z.length:=⟨Int.emod_nonneg _ (by omega),Int.emod_lt_of_pos _ (by omega)⟩
  generalize x9 % (z.length:Int)=at' at hat
  have q1:=slice_len (z:=z) hat.1 (by omega)
  have s2:=slice_from (z:=z) (j:=at'+1) (by omega) (by omega)
  have q2:(Txt.slice z (some (at'+1)) none).length=z.length - (at'+1).toNat:=by rw [<- len_list,s2,List.length_drop,len_list]
  have hll:=lett_len'
  have hcc:=comp_rng (js:=[none,some 4,some 2,some 5,some 3]) (tg:=gN 0) (tst:=mYes) (elt:=mBin vPlus (mBin vPlus (mSl (mV 1) mNoP (mP (mV 3))) (mBin vAt (mV 2) (mBin vMod (mBin vPlus (mBin vDiv (mBin vAt (mV 4) (mC (PV.int 9))) (mC (PV.int 8))) (mBin vMul (mC (PV.int 5)) (mV 0))) (mC (PV.int 26))))) (mSl (mV 1) (mP (mBin vPlus (mV 3) (mC (PV.int 1)))) mNoP)) (ms:=mCons (mV 1) mNil)
   (δ:=[some (.int c),some (.int m),some (.str lett),some (.ref lx),some (.str z),some (.int at')]) (h:=hC) (h1:=hC) (j:=m) (fun i=>some (.str (Txt.slice z none (some at')++(⟨#[97+((x9 / 8+5*(i:Int)) % 26).toNat]⟩:Str)++Txt.slice z (some (at'+1)) none))) (by simp) (by omega)
   (fun i hi=>⟨_,rfl,fun h3 hx=>⟨rfl,by
    have hcc:=at_lett (i:=(x9 / 8+5*(i:Int)) % 26) (by omega) (by omega)
    have q3:(⟨#[97+((x9 / 8+5*(i:Int)) % 26).toNat]⟩:Str).length=1:=rfl
    have q4:(Txt.slice z none (some at')++(⟨#[97+((x9 / 8+5*(i:Int)) % 26).toNat]⟩:Str)).length=at'.toNat+1:=by rw [snoc_len,q1]
    simp (disch:=omega) [capE,hcc,vIx_ref (hx _ _ gX),a9]⟩⟩)
  refine now ?_
  simp [hcc]
  have:=k ((List.range m).map fun (i:Nat)=>Txt.slice z none (some at')++(⟨#[97+((x9 / 8+5*(i:Int)) % 26).toNat]⟩:Str)++Txt.slice z (some (at'+1)) none) hC.length (hC++[.lst (((List.range m).map fun (i:Nat)=>Txt.slice z none (some at')++(⟨#[97+((x9 / 8+5*(i:Int)) % 26).toNat]⟩:Str)++Txt.slice z (some (at'+1)) none).map PV.str)]) snoc_at (by simp)
  rw [List.map_map] at this
  exact this
structure St where
 s:Int
 h:Str
 n:Int
 k:Int
 deriving DecidableEq
def stp (x:St):PV:=.tup [.int x.s,.str x.h,.int x.n,.int x.k]
theorem stp_inj {x y:St} (h:stp x=stp y):x=y:=by
 obtain ⟨a,b,c,d⟩:=x
 obtain ⟨a',b',c',d'⟩:=y
 simp [stp] at h
 simp [h]
def pl (xs:List St):PV:=.tup (xs.map stp)
theorem pl_inj {xs ys:List St} (h:pl xs=pl ys):xs=ys:=by
 have h:xs.map stp=ys.map stp:=by simpa [pl] using h
 induction xs generalizing ys with
 | nil=>cases ys <;> simp at h ⊢
 | cons x xs ih=>
  cases ys with
  | nil=>simp at h
  | cons y ys=>
   simp at h
   rw [stp_inj h.1,ih (by simp [pl,h.2]) h.2]
abbrev endP:PV:=.tup [.int 0]
def lexS (x y:St):Bool:=if x.s=y.s then (if x.h=y.h then (if x.n=y.n then decide (x.k < y.k) else decide (x.n < y.n)) else decide (x.h.cps.toList < y.h.cps.toList)) else decide (x.s < y.s)
def bef:List St->List St->Bool
 | [],[]=>false
 | [],y :: _=>decide (0<=y.s)
 | x :: _,[]=>decide (x.s < 0)
 | x :: xs,y :: ys=>if x=y then bef xs ys else lexS x y
theorem lt_stp (n:Nat) (x y:St) (hne:x≠y):ltP (n+1) (stp x) (stp y)=some (lexS x y):=by
 obtain ⟨a,b,c,d⟩:=x
 obtain ⟨a',b',c',d'⟩:=y
 by_cases h1:a=a'
 ·by_cases h2:b=b'
  ·by_cases h3:c=c'
   ·by_cases h4:d=d'
    ·exact absurd (by simp [h1,h2,h3,h4]) hne
    ·simp [ltP,ltL,stp,lexS,h1,h2,h3,h4]
   ·simp [ltP,ltL,stp,lexS,h1,h2,h3]
  ·simp [ltP,ltL,stp,lexS,h1,h2]
 ·simp [ltP,ltL,stp,lexS,h1]
theorem bef_lt (n:Nat):∀ xs ys:List St,ltL (ltP (n+2)) (xs.map stp++[endP]) (ys.map stp++[endP])=some (bef xs ys)
 | [],[]=>by simp [ltL,bef]
 | [],y :: ys=>by
  have hne:endP≠stp y:=by simp [stp,endP]
  simp only [List.map_nil,List.nil_append,List.map_cons,List.cons_append,ltL,if_neg hne,bef]
  simp only [ltP,stp,ltL]
  by_cases h:(0:Int)=y.s
  ·simp [<- h]
  ·have:decide ((0:Int) < y.s)=decide (0<=y.s):=by
    rw [Bool.eq_iff_iff]; simp; omega
   simp [h,this]
 | x :: xs,[]=>by
  have hne:stp x≠endP:=by simp [stp,endP]
  simp only [List.map_nil,List.nil_append,List.map_cons,List.cons_append,ltL,if_neg hne,bef]
  simp only [ltP,stp,ltL]
  by_cases h:x.s=0
  ·simp [h]
  ·simp [h]
 | x :: xs,y :: ys=>by
  simp only [List.map_cons,List.cons_append,ltL,bef]
  by_cases h:x=y
  ·subst h
   simp only [if_true]
   exact bef_lt n xs ys
  ·rw [if_neg fun z=>h (stp_inj z),if_neg h]
   exact lt_stp (n+1) x y h
theorem rank_eq (xs:List St) (h:PH) (hx:xs.length<=1000):m_rank_of [pl xs] h=.ok (.tup (xs.map stp++[endP])) h:=by
 have w:(m_rank_of [pl xs] h).W fun p h'=>p=.tup (xs.map stp++[endP])/\h'=h:=by
  refine W_fn ?_
  simp (disch:=first | omega | (simp; omega)) [b_rank_of,pl]
 obtain ⟨p,h',e,rfl,rfl⟩:=W_ex w
 exact e
def sg (x:St):Prop:=x.s=1\/x.s=-1
abbrev Kn:=List (Nm×Str)
def kT (K:Kn):List (PV×PV):=K.map fun x=>(pv x.1,.str x.2)
theorem kT_keys (K:Kn):(kT K).map (·.1)=(K.map (·.1)).map pv:=by unfold kT; rw [List.map_map,List.map_map]; rfl
def Kof (M:Md):Kn:=(root,"map") :: M.map fun x=>(x.1,x.2.kd)
theorem Kof_keys (M:Md):(Kof M).map (·.1)=root :: M.map (·.1):=by
 unfold Kof
 rw [List.map_cons,List.map_map]
 rfl
theorem kT_look (M:Md) (p:Nm):dLook (kT (Kof M)) (pv p)=if p=root then some (.str "map") else (fnd M p).map fun r=>.str r.kd:=by
 have rest:∀ M:Md,dLook (kT (M.map fun x=>(x.1,x.2.kd))) (pv p)=(fnd M p).map fun r=>PV.str r.kd:=by
  intro M
  induction M with
  | nil=>rfl
  | cons x M ih=>
   rw [fnd_cons]
   show dLook ((pv x.1,PV.str x.2.kd) :: kT (M.map fun x=>(x.1,x.2.kd))) (pv p)=_
   unfold dLook
   by_cases e:x.1=p
   ·rw [if_pos e,if_pos (by rw [e])]; rfl
   ·rw [if_neg e,if_neg (fun z=>e (pv_inj z))]; exact ih
 show dLook ((pv root,PV.str "map") :: kT (M.map fun x=>(x.1,x.2.kd))) (pv p)=_
 unfold dLook
 by_cases e:p=root
 ·rw [if_pos e,if_pos (by rw [e])]
 ·rw [if_neg e,if_neg (fun z=>e (pv_inj z).symm)]; exact rest M
theorem kT_kind (M:Md) {p:Nm} (h:p=root\/(fnd M p).isSome=true):∃ kd:Str,dLook (kT (Kof M)) (pv p)=some (.str kd)/\kindV M p=.str kd:=by
 rw [kT_look]
 unfold kindV
 by_cases e:p=root
 ·exact ⟨"map",by rw [if_pos e],by rw [if_pos e]⟩
 ·rcases h with h | h
  ·exact (e h).elim
  ·obtain ⟨r,hr⟩:=Option.isSome_iff_exists.mp h
   exact ⟨r.kd,by rw [if_neg e,hr]; rfl,by rw [if_neg e,hr]⟩
theorem Kof_same {M:Md} {p:Nm} {r r':Rc} (h:fnd M p=some r) (hk:r'.kd=r.kd) (nd:(M.map (·.1)).Nodup):Kof (mput M p r')=Kof M:=by
 unfold Kof mput
 rw [h]
 simp only [Option.isSome_some,if_true]
 congr 1
 rw [List.map_map]
 apply List.map_congr_left
 intro x hx
 simp only [Function.comp]
 by_cases e:x.1=p
 ·rw [if_pos e]
  have:fnd M p=some x.2:=by
   clear hk
   induction M with
   | nil=>cases hx
   | cons y M ih=>
    rw [List.map_cons,List.nodup_cons] at nd
    rw [fnd_cons]
    rcases List.mem_cons.mp hx with rfl | hx'
    ·rw [if_pos e]
    ·have:y.1≠p:=fun z=>nd.1 (by rw [z,<- e]; exact List.mem_map.mpr ⟨x,hx',rfl⟩)
     rw [if_neg this]
     rw [fnd_cons,if_neg this] at h
     exact ih h nd.2 hx'
  rw [h] at this
  cases this
  simp [hk]
 ·rw [if_neg e]
theorem Kof_new {M:Md} {p:Nm} {r:Rc} (h:fnd M p=none):mput M p r=M++[(p,r)]/\Kof (mput M p r)=Kof M++[(p,r.kd)]:=by
 have e:mput M p r=M++[(p,r)]:=by
  unfold mput
  rw [h]
  rfl
 refine ⟨e,?_⟩
 rw [e]
 unfold Kof
 simp
structure SInv (M:Md) (b:Nat) (U:Nm->Prop):Prop where
 t:TInv M
 nd:(M.map (·.1)).Nodup
 us:∀ p,(fnd M p).isSome=true->U p
 no:∀ p r,fnd M p=some r->r.hd=none->r.st=.non
 st:∀ p r q,fnd M p=some r->r.hd=some q->(kindV M q=.str "map" /\ ∃ z,r.st=.str z)\/(kindV M q=.str "row" /\ ∃ xs x,r.st=pl (xs++[x])/\(∀ y∈xs++[x],sg y)/\xs.length < b/\U (x.h,x.n))
 one:∀ p r p' r' xs x xs' x',fnd M p=some r->fnd M p'=some r'->r.st=pl (xs++[x])->r'.st=pl (xs'++[x'])->x.h=x'.h->x.n=x'.n->p=p'
theorem SInv.mono {M:Md} {b b':Nat} {U U':Nm->Prop} (i:SInv M b U) (hb:b<=b') (hU:∀ p,U p->U' p):SInv M b' U':=
 ⟨i.t,i.nd,fun p h=>hU p (i.us p h),i.no,fun p r q h1 h2=>(i.st p r q h1 h2).imp id fun ⟨a,xs,x,h3,h4,h5,h6⟩=>⟨a,xs,x,h3,h4,by omega,hU _ h6⟩,i.one⟩
def SpW (M:Md) (ho:Nm) (sp:Spot) (b:Nat):Prop:=match sp with
 | .key _=>kindV M ho=.str "map"
 | .place u s=>kindV M ho=.str "row" /\ ∃ xs:List St,u=xs.map stp/\(∀ y∈xs,sg y)/\xs.length<=b/\(s=1\/s=-1)
def ActW (M:Md) (a:Act) (b:Nat):Prop:=match a with
 | .make _ ho sp=>SpW M ho sp b
 | .move _ ho sp=>SpW M ho sp b
 | .drop _=>True
theorem SpW.fits {M:Md} {ho:Nm} {sp:Spot} {b:Nat} (w:SpW M ho sp b):fitsB M ho sp=true:=by
 unfold fitsB
 cases sp with
 | key z=>exact decide_eq_true w
 | place u s=>exact decide_eq_true w.1
theorem SpW.ok {M:Md} {ho:Nm} {sp:Spot} {b:Nat} (w:SpW M ho sp b) (hb:b<=1000):SpOk sp:=by
 cases sp with
 | key z=>trivial
 | place u s=>
  obtain ⟨_,xs,rfl,_,h,_⟩:=w
  show (xs.map stp).length<=1000
  rw [List.length_map]
  omega
theorem ActW.ok {M:Md} {a:Act} {b:Nat} (w:ActW M a b) (hb:b<=1000):ActOk a:=by
 cases a with
 | make kd ho sp=>exact SpW.ok w hb
 | move th ho sp=>exact SpW.ok w hb
 | drop th=>trivial
theorem pl_non {xs:List St}:PV.non≠pl xs:=fun z=>by cases z
theorem pl_str {xs:List St} {z:Str}:PV.str z≠pl xs:=fun z=>by cases z
theorem snoc_inj {α:Type} {xs ys:List α} {x y:α} (h:xs++[x]=ys++[y]):xs=ys/\x=y:=by
 have:=List.append_inj' h rfl
 exact ⟨this.1,by simpa using this.2⟩
def NewOk (M:Md) (b:Nat) (nm:Nm) (r:Rc):Prop:=(r.hd=none/\r.st=.non)\/∃ q,r.hd=some q/\(q=root\/(fnd M q).isSome=true)/\((kindV M q=.str "map" /\ ∃ z,r.st=.str z)\/(kindV M q=.str "row" /\ ∃ xs x,r.st=pl (xs++[x])/\(∀ y∈xs++[x],sg y)/\xs.length < b+1/\(x.h,x.n)=nm))
theorem SpW.new {M:Md} {ho nm:Nm} {sp:Spot} {b:Nat} {kd:Str} (w:SpW M ho sp b):NewOk M b nm ⟨kd,some ho,standV sp nm⟩:=by
 refine .inr ⟨ho,rfl,fits_in w.fits,?_⟩
 cases sp with
 | key z=>exact .inl ⟨w,z,rfl⟩
 | place u s=>
  obtain ⟨h1,xs,rfl,h2,h3,h4⟩:=w
  refine .inr ⟨h1,xs,⟨s,nm.1,nm.2,0⟩,?_,fun y hy=>?_,by omega,rfl⟩
  ·show PV.tup (xs.map stp++[.tup [.int s,.str nm.1,.int nm.2,.int 0]])=_
   unfold pl
   rw [List.map_append]
   rfl
  ·rcases List.mem_append.mp hy with hy | hy
   ·exact h2 y hy
   ·rw [List.mem_singleton.mp hy]; exact h4
theorem kind_mput {M:Md} {p q:Nm} {r:Rc} (hk:∀ r0,fnd M p=some r0->r.kd=r0.kd) (hq:q=root\/(fnd M q).isSome=true):kindV (mput M p r) q=kindV M q:=by
 unfold kindV
 by_cases e:q=root
 ·rw [if_pos e,if_pos e]
 ·rw [if_neg e,if_neg e,fnd_mput]
  by_cases e2:q=p
  ·rw [if_pos e2]
   rcases hq with z | z
   ·exact (e z).elim
   ·obtain ⟨r0,h0⟩:=Option.isSome_iff_exists.mp z
    rw [h0]
    rw [e2] at h0
    dsimp only
    rw [hk r0 h0]
  ·rw [if_neg e2]
theorem SInv.put {M:Md} {b:Nat} {U:Nm->Prop} {p nm:Nm} {r:Rc} (i:SInv M b U) (hn:¬ U nm) (hU:U p\/p=nm) (hk:∀ r0,fnd M p=some r0->r.kd=r0.kd) (hT:TInv (mput M p r)) (w:NewOk M b nm r):SInv (mput M p r) (b+1) (fun z=>U z\/z=nm):=by
 have newU:∀ xs x,r.st=pl (xs++[x])->(x.h,x.n)=nm:=fun xs x e=>by
  rcases w with ⟨_,h⟩ | ⟨q,_,_,⟨_,z,h⟩ | ⟨_,xs',x',h,_,_,h6⟩⟩
  ·rw [h] at e; exact (pl_non e).elim
  ·rw [h] at e; exact (pl_str e).elim
  ·rw [h] at e
   have:=(snoc_inj (pl_inj e)).2
   rw [<- this]; exact h6
 have oldU:∀ p' r' xs x,fnd M p'=some r'->r'.st=pl (xs++[x])->U (x.h,x.n):=fun p' r' xs x h e=>by
  cases hd:r'.hd with
  | none=>
   rw [i.no p' r' h hd] at e
   exact (pl_non e).elim
  | some q=>
   rcases i.st p' r' q h hd with ⟨_,z,h'⟩ | ⟨_,xs',x',h',_,_,h6⟩
   ·rw [h'] at e; exact (pl_str e).elim
   ·rw [h'] at e
    have:=(snoc_inj (pl_inj e)).2
    rw [<- this]; exact h6
 refine ⟨hT,?_,fun z h=>?_,fun z rz h1 h2=>?_,fun z rz q h1 h2=>?_,fun z rz z' rz' xs x xs' x' h1 h2 h3 h4 h5 h6=>?_⟩
 ·rw [keys_mput]
  split
  ·exact i.nd
  ·rename_i hp
   rw [List.nodup_append]
   refine ⟨i.nd,by simp,fun a ha c hc=>?_⟩
   simp at hc
   subst hc
   intro e
   subst e
   exact hp ha
 ·rw [fnd_mput] at h
  by_cases e:z=p
  ·rw [e]; exact hU
  ·rw [if_neg e] at h; exact .inl (i.us z h)
 ·rw [fnd_mput] at h1
  by_cases e:z=p
  ·rw [if_pos e] at h1
   cases h1
   rcases w with ⟨_,h⟩ | ⟨q,h,_⟩
   ·exact h
   ·rw [h2] at h; cases h
  ·rw [if_neg e] at h1; exact i.no z rz h1 h2
 ·rw [fnd_mput] at h1
  by_cases e:z=p
  ·rw [if_pos e] at h1
   cases h1
   rcases w with ⟨h,_⟩ | ⟨q',h,hq,hw⟩
   ·rw [h2] at h; cases h
   ·rw [h2] at h
    cases h
    rw [kind_mput hk hq]
    exact hw.imp id fun ⟨a,xs,x,h3,h4,h5,h6⟩=>⟨a,xs,x,h3,h4,h5,.inr h6⟩
  ·rw [if_neg e] at h1
   rw [kind_mput hk (i.t.ho z rz q h1 h2)]
   exact (i.st z rz q h1 h2).imp id fun ⟨a,xs,x,h3,h4,h5,h6⟩=>⟨a,xs,x,h3,h4,by omega,.inl h6⟩
 ·rw [fnd_mput] at h1 h2
  have both:(x.h,x.n)=(x'.h,x'.n):=by rw [h5,h6]
  by_cases e:z=p
  ·by_cases e':z'=p
   ·rw [e,e']
   ·rw [if_pos e] at h1
    rw [if_neg e'] at h2
    cases h1
    have a:=newU xs x h3
    have c:=oldU z' rz' xs' x' h2 h4
    rw [<- both,a] at c
    exact (hn c).elim
  ·by_cases e':z'=p
   ·rw [if_neg e] at h1
    rw [if_pos e'] at h2
    cases h2
    have a:=newU xs' x' h4
    have c:=oldU z rz xs x h1 h3
    rw [both,a] at c
    exact (hn c).elim
   ·rw [if_neg e] at h1
    rw [if_neg e'] at h2
    exact i.one z rz z' rz' xs x xs' x' h1 h2 h3 h4 h5 h6
theorem SInv.heard {M:Md} {L:List Nm} {b:Nat} {U:Nm->Prop} {nm:Nm} {a:Act} (i:SInv M b U) (w:ActW M a b) (hn:¬ U nm) (hr:nm≠root):SInv (heard M L nm a).1 (b+1) (fun z=>U z\/z=nm):=by
 have fr:fnd M nm=none:=by
  cases e:fnd M nm with
  | none=>rfl
  | some r=>exact (hn (i.us nm (by rw [e]; rfl))).elim
 have hT:=i.t.heard (L:=L) (nm:=nm) (a:=a) fun _ _ _ _=>⟨fr,hr⟩
 have same:SInv M (b+1) (fun z=>U z\/z=nm):=i.mono (by omega) fun _ h=>.inl h
 cases a with
 | make kd ho sp=>
  have hf:fitsB M ho sp=true:=SpW.fits w
  rw [heard_mk,if_pos hf] at hT ⊢
  exact i.put hn (.inr rfl) (fun r0 h=>by rw [fr] at h; cases h) hT (SpW.new w)
 | move th ho sp=>
  cases e:fnd M th with
  | none=>rw [heard_mv0 e]; exact same
  | some r=>
   have hf:fitsB M ho sp=true:=SpW.fits w
   rw [heard_mv e,if_pos hf] at hT ⊢
   split at hT
   ·rename_i hon; rw [if_pos hon]; exact same
   ·rename_i hon
    rw [if_neg hon]
    exact i.put hn (.inl (i.us th (by rw [e]; rfl))) (fun r0 h=>by rw [e] at h; cases h; rfl) hT (SpW.new w)
 | drop th=>
  cases e:fnd M th with
  | none=>rw [heard_dr0 e]; exact same
  | some r=>
   rw [heard_dr e] at hT ⊢
   exact i.put hn (.inl (i.us th (by rw [e]; rfl))) (fun r0 h=>by rw [e] at h; cases h; rfl) hT (.inl ⟨rfl,rfl⟩)
theorem Kof_heard {M:Md} {L:List Nm} {b:Nat} {U:Nm->Prop} {nm:Nm} {a:Act} (i:SInv M b U) (w:ActW M a b) (hn:¬ U nm):Kof (heard M L nm a).1=match a with | .make kd _ _=>Kof M++[(nm,kd)] | _=>Kof M:=by
 have fr:fnd M nm=none:=by
  cases e:fnd M nm with
  | none=>rfl
  | some r=>exact (hn (i.us nm (by rw [e]; rfl))).elim
 cases a with
 | make kd ho sp=>
  have hf:fitsB M ho sp=true:=SpW.fits w
  rw [heard_mk,if_pos hf]
  exact (Kof_new fr).2
 | move th ho sp=>
  cases e:fnd M th with
  | none=>rw [heard_mv0 e]
  | some r=>
   rw [heard_mv e]
   split
   ·split
    ·rfl
    ·exact Kof_same e rfl i.nd
   ·rfl
 | drop th=>
  cases e:fnd M th with
  | none=>rw [heard_dr0 e]
  | some r=>rw [heard_dr e]; exact Kof_same e rfl i.nd
def lexN (p q:Nm):Bool:=if p.1=q.1 then decide (p.2 < q.2) else decide (p.1.cps.toList < q.1.cps.toList)
theorem lt_pv (n:Nat) (p q:Nm) (h:p≠q):ltP (n+1) (pv p) (pv q)=some (lexN p q):=by
 obtain ⟨a,i⟩:=p
 obtain ⟨b,j⟩:=q
 have e:ltP (n+1) (pv (a,i)) (pv (b,j))=if PV.str a=.str b then (if PV.int i=.int j then some false else some (decide (i < j))) else some (decide (a.cps.toList < b.cps.toList)):=by
  cases n <;> rfl
 rw [e]
 unfold lexN
 by_cases h1:a=b
 ·have h2:i≠j:=fun z=>h (by rw [h1,z])
  simp [h1,h2]
 ·simp [h1]
theorem lt_two (n:Nat) {s s':PV} {p q:Nm} {c:Bool} (h:s≠s'->ltP (n+1) s s'=some c):ltL (ltP (n+1)) [s,pv p] [s',pv q]=some (if s=s' then (if p=q then false else lexN p q) else c):=by
 show (if s=s' then (if pv p=pv q then some false else ltP (n+1) (pv p) (pv q)) else ltP (n+1) s s')=_
 by_cases e:s=s'
 ·rw [if_pos e,if_pos e]
  by_cases e2:p=q
  ·rw [if_pos (by rw [e2]),if_pos e2]
  ·rw [if_neg (fun z=>e2 (pv_inj z)),if_neg e2]
   exact lt_pv n p q e2
 ·rw [if_neg e,if_neg e]
  exact h e
def Wm (M:Md) (p:Nm):List (Nm×Rc):=M.filter fun x=>decide (x.2.hd=some p)
def rkV:PV->PV
 | .tup l=>.tup (l++[endP])
 | v=>v
def keyS (x:Nm×Rc):PV:=.tup [x.2.st,pv x.1]
def keyR (x:Nm×Rc):PV:=.tup [rkV x.2.st,pv x.1]
theorem fnd_of {M:Md} (nd:(M.map (·.1)).Nodup) {x:Nm×Rc} (h:x∈M):fnd M x.1=some x.2:=by
 induction M with
 | nil=>cases h
 | cons y M ih=>
  rw [List.map_cons,List.nodup_cons] at nd
  rw [fnd_cons]
  rcases List.mem_cons.mp h with rfl | h'
  ·rw [if_pos rfl]
  ·have:y.1≠x.1:=fun z=>nd.1 (by rw [z]; exact List.mem_map.mpr ⟨x,h',rfl⟩)
   rw [if_neg this]
   exact ih nd.2 h'
theorem mem_W {M:Md} {p:Nm} {x:Nm×Rc} (nd:(M.map (·.1)).Nodup) (h:x∈Wm M p):fnd M x.1=some x.2/\x.2.hd=some p:=by
 obtain ⟨h1,h2⟩:=List.mem_filter.mp h
 exact ⟨fnd_of nd h1,of_decide_eq_true h2⟩
theorem nd_W {M:Md} {p:Nm} (nd:(M.map (·.1)).Nodup):((Wm M p).map (·.1)).Nodup:=nd.sublist (List.filter_sublist.map _)
theorem mapW {M:Md} {b:Nat} {U:Nm->Prop} {p:Nm} (i:SInv M b U) (hk:kindV M p=.str "map") {x:Nm×Rc} (h:x∈Wm M p):∃ z,x.2.st=.str z:=by
 obtain ⟨h1,h2⟩:=mem_W i.nd h
 rcases i.st _ _ _ h1 h2 with ⟨_,h⟩ | ⟨h,_⟩
 ·exact h
 ·rw [hk] at h; exact absurd h (by decide)
theorem rowW {M:Md} {b:Nat} {U:Nm->Prop} {p:Nm} (i:SInv M b U) (hk:kindV M p=.str "row") {x:Nm×Rc} (h:x∈Wm M p):∃ xs y,x.2.st=pl (xs++[y])/\(∀ z∈xs++[y],sg z)/\xs.length < b:=by
 obtain ⟨h1,h2⟩:=mem_W i.nd h
 rcases i.st _ _ _ h1 h2 with ⟨h,_⟩ | ⟨_,xs,y,h3,h4,h5,_⟩
 ·rw [hk] at h; exact absurd h (by decide)
 ·exact ⟨xs,y,h3,h4,h5⟩
theorem rkV_pl (xs:List St):rkV (pl xs)=.tup (xs.map stp++[endP]):=rfl
theorem rk_inj {xs ys:List St} (h:rkV (pl xs)=rkV (pl ys)):xs=ys:=by
 rw [rkV_pl,rkV_pl] at h
 have h:xs.map stp++[endP]=ys.map stp++[endP]:=by simpa using h
 have:=(snoc_inj h).1
 exact pl_inj (by unfold pl; rw [this])
theorem ltSp (n:Nat) (x y:Nm×Rc) {z z':Str} (hx:x.2.st=.str z) (hy:y.2.st=.str z'):ltL (ltP (n+1)) [x.2.st,pv x.1] [y.2.st,pv y.1]=some (if z=z' then (if x.1=y.1 then false else lexN x.1 y.1) else decide (z.cps.toList < z'.cps.toList)):=by
 rw [hx,hy,lt_two n (c:=decide (z.cps.toList < z'.cps.toList)) (fun _=>rfl)]
 simp
theorem ltRp (n:Nat) (x y:Nm×Rc) {xs ys:List St} (hx:x.2.st=pl xs) (hy:y.2.st=pl ys):ltL (ltP (n+3)) [rkV x.2.st,pv x.1] [rkV y.2.st,pv y.1]=some (if xs=ys then (if x.1=y.1 then false else lexN x.1 y.1) else bef xs ys):=by
 rw [hx,hy,lt_two (n+2) (c:=bef xs ys) (fun _=>by
  show ltL (ltP (n+2)) (xs.map stp++[endP]) (ys.map stp++[endP])=_
  exact bef_lt n xs ys)]
 by_cases e:xs=ys
 ·simp [e]
 ·have:¬ rkV (pl xs)=rkV (pl ys):=fun z=>e (rk_inj z)
  simp [e,this]
theorem ky_pv (n:Nat) (p:Nm):(pv p).ky (n+1)=true:=by cases n <;> rfl
theorem okMap {M:Md} {b:Nat} {U:Nm->Prop} {p:Nm} (i:SInv M b U) (hk:kindV M p=.str "map"):OkN 1 ((Wm M p).map keyS):=by
 have all:∀ v∈(Wm M p).map keyS,∃ x z,x.2.st=.str z/\v=keyS x:=fun v hv=>by
  obtain ⟨x,hx,rfl⟩:=List.mem_map.mp hv
  obtain ⟨z,hz⟩:=mapW i hk hx
  exact ⟨x,z,hz,rfl⟩
 refine ⟨by omega,fun v hv=>?_,fun v hv=>?_,fun v hv u hu=>?_⟩
 ·obtain ⟨x,z,hz,rfl⟩:=all v hv
  unfold keyS
  rw [hz]
  rfl
 ·obtain ⟨x,z,hz,rfl⟩:=all v hv
  unfold keyS
  rw [hz]
  rfl
 ·obtain ⟨x,z,hz,rfl⟩:=all v hv
  obtain ⟨y,z',hz',rfl⟩:=all u hu
  show (ltL (ltP (18+1)) [x.2.st,pv x.1] [y.2.st,pv y.1]).isSome=true
  rw [ltSp 18 x y hz hz']
  rfl
theorem okRow {M:Md} {b:Nat} {U:Nm->Prop} {p:Nm} (i:SInv M b U) (hk:kindV M p=.str "row"):OkN 2 ((Wm M p).map keyR):=by
 have all:∀ v∈(Wm M p).map keyR,∃ x xs,x.2.st=pl xs/\v=keyR x:=fun v hv=>by
  obtain ⟨x,hx,rfl⟩:=List.mem_map.mp hv
  obtain ⟨xs,y,hz,_⟩:=rowW i hk hx
  exact ⟨x,xs++[y],hz,rfl⟩
 refine ⟨by omega,fun v hv=>?_,fun v hv=>?_,fun v hv u hu=>?_⟩
 ·obtain ⟨x,xs,hz,rfl⟩:=all v hv
  unfold keyR
  rw [hz,rkV_pl]
  show [PV.tup (xs.map stp++[endP]),pv x.1].all (PV.ky 19)=true
  rw [List.all_cons,Bool.and_eq_true]
  refine ⟨?_,by simp [ky_pv 18]⟩
  show (xs.map stp++[endP]).all (PV.ky 18)=true
  rw [List.all_append,Bool.and_eq_true,List.all_map]
  exact ⟨List.all_eq_true.mpr fun y _=>rfl,rfl⟩
 ·obtain ⟨x,xs,hz,rfl⟩:=all v hv
  unfold keyR
  rw [hz,rkV_pl]
  cases xs <;> rfl
 ·obtain ⟨x,xs,hz,rfl⟩:=all v hv
  obtain ⟨y,ys,hz',rfl⟩:=all u hu
  show (ltL (ltP (16+3)) [rkV x.2.st,pv x.1] [rkV y.2.st,pv y.1]).isSome=true
  rw [ltRp 16 x y hz hz']
  rfl
theorem insG_cons {α:Type} (key:α->PV) (x y:α) (ys:List α):insG key x (y :: ys)=if ltN (key y) (key x)=true then y :: insG key x ys else x :: y :: ys:=rfl
theorem insG_map {α:Type} (f:α->PV) (x:α):∀ ys:List α,insG id (f x) (ys.map f)=(insG f x ys).map f
 | []=>rfl
 | y :: ys=>by
  rw [List.map_cons,insG_cons,insG_cons]
  show (if ltN (f y) (f x)=true then f y :: insG id (f x) (ys.map f) else f x :: f y :: ys.map f)=_
  split
  ·rw [List.map_cons,insG_map f x ys]
  ·rfl
theorem sortG_map {α:Type} (f:α->PV):∀ xs:List α,sortG id (xs.map f)=(sortG f xs).map f
 | []=>rfl
 | x :: xs=>by
  show insG id (f x) (sortG id (xs.map f))=_
  rw [sortG_map f xs,insG_map]
  rfl
theorem strict {f:Nm×Rc->PV} {W:List (Nm×Rc)} {m:Nat} (ok:OkN m (W.map f)) (nd:(W.map (·.1)).Nodup) (hf:∀ x∈W,∀ y∈W,f x=f y->x.1=y.1):(sortG f W).Pairwise (fun a b=>ltN (f a) (f b)=true):=by
 have hp:=sortG_perm f W
 have nd':((sortG f W).map (·.1)).Nodup:=(hp.map (·.1)).nodup_iff.mpr nd
 have nd2:(sortG f W).Pairwise (fun a b=>a.1≠b.1):=by
  have:=nd'
  unfold List.Nodup at this
  rw [List.pairwise_map] at this
  exact this
 refine ((sortG_sorted f W).and nd2).imp_of_mem fun {a b} ha hb h=>?_
 have ha':=hp.mem_iff.mp ha
 have hb':=hp.mem_iff.mp hb
 cases e:ltN (f a) (f b) with
 | true=>rfl
 | false=>
  have:=ok.inj _ (List.mem_map.mpr ⟨a,ha',rfl⟩) _ (List.mem_map.mpr ⟨b,hb',rfl⟩) (ltN_eq e h.1)
  exact (h.2 (hf a ha' b hb' this)).elim
theorem keyS_inj {x y:Nm×Rc} (h:keyS x=keyS y):x.1=y.1:=by
 unfold keyS at h
 have:pv x.1=pv y.1:=by simp at h; exact h.2
 exact pv_inj this
theorem keyR_inj {x y:Nm×Rc} (h:keyR x=keyR y):x.1=y.1:=by
 unfold keyR at h
 have:pv x.1=pv y.1:=by simp at h; exact h.2
 exact pv_inj this
def isRow (M:Md) (p:Nm):Bool:=decide (kindV M p=.str "row")
def wiM (M:Md) (p:Nm):List (Nm×Rc):=if isRow M p then sortG keyR (Wm M p) else sortG keyS (Wm M p)
theorem wiM_perm (M:Md) (p:Nm):(wiM M p).Perm (Wm M p):=by
 unfold wiM
 split
 ·exact sortG_perm _ _
 ·exact sortG_perm _ _
theorem map_next {M:Md} {b:Nat} {U:Nm->Prop} {p:Nm} (i:SInv M b U) (hk:kindV M p=.str "map") {k:Nat} {x y:Nm×Rc} (hx:(wiM M p)[k]?=some x) (hy:(wiM M p)[k+1]?=some y):ltL (ltP 39) [x.2.st,pv x.1] [y.2.st,pv y.1]=some true:=by
 have hr:isRow M p=false:=by unfold isRow; rw [hk]; decide
 have hw:wiM M p=sortG keyS (Wm M p):=by unfold wiM; rw [hr]; rfl
 rw [hw] at hx hy
 have st:=strict (okMap i hk) (nd_W i.nd) (fun x _ y _ h=>keyS_inj h)
 obtain ⟨h1,e1⟩:=List.getElem?_eq_some_iff.mp hx
 obtain ⟨h2,e2⟩:=List.getElem?_eq_some_iff.mp hy
 have lt:=List.pairwise_iff_getElem.mp st k (k+1) h1 h2 (by omega)
 rw [e1,e2] at lt
 have mx:=(sortG_perm keyS (Wm M p)).mem_iff.mp (List.mem_of_getElem? hx)
 have my:=(sortG_perm keyS (Wm M p)).mem_iff.mp (List.mem_of_getElem? hy)
 obtain ⟨z,hz⟩:=mapW i hk mx
 obtain ⟨z',hz'⟩:=mapW i hk my
 have h20:ltP 20 (keyS x) (keyS y)=some (if z=z' then (if x.1=y.1 then false else lexN x.1 y.1) else decide (z.cps.toList < z'.cps.toList)):=ltSp 18 x y hz hz'
 rw [ltN_of h20] at lt
 rw [ltSp 38 x y hz hz',lt]
theorem row_next {M:Md} {b:Nat} {U:Nm->Prop} {p:Nm} (i:SInv M b U) (hk:kindV M p=.str "row") {k:Nat} {x y:Nm×Rc} (hx:(wiM M p)[k]?=some x) (hy:(wiM M p)[k+1]?=some y):∃ xs ys,x.2.st=pl xs/\y.2.st=pl ys/\(∀ z∈xs,sg z)/\(∀ z∈ys,sg z)/\xs.length<=b/\ys.length<=b/\bef xs ys=true:=by
 have hr:isRow M p=true:=by unfold isRow; exact decide_eq_true hk
 have hw:wiM M p=sortG keyR (Wm M p):=by unfold wiM; rw [hr]; rfl
 rw [hw] at hx hy
 have st:=strict (okRow i hk) (nd_W i.nd) (fun x _ y _ h=>keyR_inj h)
 obtain ⟨h1,e1⟩:=List.getElem?_eq_some_iff.mp hx
 obtain ⟨h2,e2⟩:=List.getElem?_eq_some_iff.mp hy
 have lt:=List.pairwise_iff_getElem.mp st k (k+1) h1 h2 (by omega)
 rw [e1,e2] at lt
 have mx:=(sortG_perm keyR (Wm M p)).mem_iff.mp (List.mem_of_getElem? hx)
 have my:=(sortG_perm keyR (Wm M p)).mem_iff.mp (List.mem_of_getElem? hy)
 obtain ⟨xs,a,hz,sx,lx⟩:=rowW i hk mx
 obtain ⟨ys,c,hz',sy,ly⟩:=rowW i hk my
 have h20:ltP 20 (keyR x) (keyR y)=some (if xs++[a]=ys++[c] then (if x.1=y.1 then false else lexN x.1 y.1) else bef (xs++[a]) (ys++[c])):=ltRp 16 x y hz hz'
 rw [ltN_of h20] at lt
 have ne:xs++[a]≠ys++[c]:=fun z=>by
  have e:=snoc_inj z
  have:=i.one x.1 x.2 y.1 y.2 xs a ys c (mem_W i.nd mx).1 (mem_W i.nd my).1 hz hz' (by rw [e.2]) (by rw [e.2])
  rw [if_pos z,if_pos this] at lt
  cases lt
 rw [if_neg ne] at lt
 exact ⟨xs++[a],ys++[c],hz,hz',sx,sy,by simp; omega,by simp; omega,lt⟩
theorem fm_filter {α:Type} {p:α->Bool} {g:α->PV}:∀ R:List α,R.filterMap (fun r=>if p r=true then some (g r) else none)=(R.filter p).map g
 | []=>rfl
 | r :: R=>by
  rw [List.filterMap_cons,fm_filter R]
  cases h:p r with
  | true=>simp [h]
  | false=>simp [h]
theorem at_in {α:Type} {xs:List α} {f:α->PV} {i:Int} (h:xs≠[]):∃ x∈xs,atI (xs.map f) (i % (xs.length:Int))=some (f x):=by
 obtain ⟨p,e,m⟩:=atI_mod (xs:=xs.map f) (i:=i) (by intro z; exact h (List.map_eq_nil_iff.mp z))
 obtain ⟨x,hx,rfl⟩:=List.mem_map.mp m
 rw [List.length_map] at e
 exact ⟨x,hx,e⟩
def SpK (kd:Str) (sp:Spot) (b:Nat):Prop:=match sp with
 | .key _=>kd="map"
 | .place u s=>kd="row" /\ ∃ xs:List St,u=xs.map stp/\(∀ y∈xs,sg y)/\xs.length<=b/\(s=1\/s=-1)
theorem pl_pl39 (xs:List St):(pl xs).pl 39=true:=by
 show (xs.map stp).all (PV.pl 38)=true
 rw [List.all_map]
 exact List.all_eq_true.mpr fun _ _=>rfl
theorem row_map:(("row" : Str)="map")=False:=eq_false (by decide)
theorem map_row:(("map" : Str)="row")=False:=eq_false (by decide)
theorem spot_ok (x:Int) (kd:Str) {ps:List PV} {lp b:Nat} {h:PH} (gp:h[lp]?=some (.lst ps)) (hp:kd="map" \/ (kd="row" /\ ∀ p∈ps,∃ xs,p=pl xs/\(∀ y∈xs,sg y)/\xs.length<=b)) (Q:PV->PH->Prop) (k:∀ sp h',Ext h h'->SpK kd sp b->Q (spP sp) h'):(m_spot [.int x,.str kd,.ref lp] h).W Q:=by
 refine W_fn ?_
 unfold b_spot
 rw [W_seq]
 rcases hp with rfl | ⟨rfl,hp⟩
 ·simp
  generalize ex:[PV.str "note",PV.str "no",PV.str "b",PV.str "notes",PV.str "a",PV.str "nob"]=ws
  have g8:(h++[MO.lst ws])[h.length]?=some (.lst ws):=snoc_at
  have x8:Ext h (h++[MO.lst ws]):=Ext.app _ _
  generalize h.length=l8 at g8
  generalize h++[MO.lst ws]=hE at g8 x8
  obtain ⟨z,ez⟩:∃ z:Str,atI ws (x % 6)=some (.str z):=by
   obtain ⟨p,e,m⟩:=atI_mod (xs:=ws) (i:=x) (by rw [<- ex]; exact fun z=>nomatch z)
   have e':atI ws (x % 6)=some p:=by rw [<- ex] at e ⊢; exact e
   rw [<- ex] at m
   simp at m
   rcases m with rfl | rfl | rfl | rfl | rfl | rfl <;> exact ⟨_,e'⟩
  simp (disch:=omega) [vIx_ref g8,ez]
  exact k (.key z) hE x8 rfl
 ·simp [row_map]
  refine now ?_
  have nil:SpK "row" (.place [] 1) b:=⟨rfl,[],rfl,(fun y hy=>nomatch hy),Nat.zero_le _,.inl rfl⟩
  have all:ps.all (PV.pl 39)=true:=List.all_eq_true.mpr fun p hpp=>by
   obtain ⟨xs,rfl,_⟩:=hp p hpp
   exact pl_pl39 xs
  have g1:(h++[MO.lst []])[h.length]?=some (.lst []):=snoc_at
  have x1:Ext h (h++[MO.lst []]):=Ext.app _ _
  have eq1:=vEq_lst (x1 _ _ gp) g1 all rfl
  have gpA:=x1 _ _ gp
  rw [W_seq]
  by_cases e0:ps=[]
  ·rw [decide_eq_true e0] at eq1
   simp [eq1]
   exact k (.place [] 1) _ x1 nil
  ·rw [decide_eq_false e0] at eq1
   by_cases e4:x % 4=0
   ·simp (disch:=omega) [eq1,e4]
    exact k (.place [] 1) _ x1 nil
   ·simp (disch:=omega) [eq1,e4]
    generalize h++[MO.lst []]=hA at x1 gpA
    refine now ?_
    have hpos:(0:Int) < ps.length:=by
     cases ps with
     | nil=>exact (e0 rfl).elim
     | cons _ _=>simp; try omega
    obtain ⟨p,ep,mp⟩:=atI_mod (xs:=ps) (i:=x / 8) e0
    obtain ⟨xs,rfl,sx,lx⟩:=hp p mp
    simp (disch:=omega) [vLen_ref gpA,vIx_ref gpA,ep]
    exact k (.place (xs.map stp) (x / 4 % 2*2 - 1)) hA x1 ⟨rfl,xs,rfl,sx,lx,by omega⟩
def KdOk (M:Md):Prop:=∀ p r,fnd M p=some r->r.kd="map" \/ r.kd="row" \/ r.kd="count"
def ActK:Act->Prop
 | .make kd _ _=>kd="map" \/ kd="row" \/ kd="count"
 | _=>True
theorem KdOk.heard {M:Md} {L:List Nm} {nm:Nm} {a:Act} (i:KdOk M) (w:ActK a):KdOk (heard M L nm a).1:=by
 have put:∀ {p:Nm} {r:Rc},(r.kd="map" \/ r.kd="row" \/ r.kd="count")->KdOk (mput M p r):=fun {p r} h1 x rx hx=>by
  rw [fnd_mput] at hx
  split at hx
  ·cases hx; exact h1
  ·exact i x rx hx
 cases a with
 | make kd ho sp=>
  rw [heard_mk]
  split
  ·exact put w
  ·exact i
 | move th ho sp=>
  cases e:fnd M th with
  | none=>rw [heard_mv0 e]; exact i
  | some r=>
   rw [heard_mv e]
   split
   ·split
    ·exact i
    ·exact put (i th r e)
   ·exact i
 | drop th=>
  cases e:fnd M th with
  | none=>rw [heard_dr0 e]; exact i
  | some r=>rw [heard_dr e]; exact put (i th r e)
theorem obN_eq (u:Option Nm) (p:Nm) (h:PH):vEq (obN u) (pv p) h=.ok (.bl (decide (u=some p))) h:=by
 cases u with
 | none=>
  rw [vEq_pl (x:=obN none) rfl (pv_pl (n:=39))]
  congr 2
 | some q=>
  rw [vEq_pl (x:=obN (some q)) (pv_pl (n:=39)) (pv_pl (n:=39))]
  congr 2
  rw [decide_eq_decide]
  exact ⟨fun e=>by rw [pv_inj (p:=q) (q:=p) e],fun e=>by cases e; rfl⟩
theorem heldM {tb:Str->Option Fn} (ht:tb "Tree" = some m_Tree_held) {h:PH} {lt lm lf:Nat} {M:Md} {L:List Nm} (t:TreeAt h lt lm lf M L) {q:Nm} {r:Rc} (e:fnd M q=some r) {mo:Me} {ms:Ma} {δ:Ev} (hm:mo δ h=.ok (.ref lt) h) (hms:ms δ h=.ok [pv q] h):mMeth "held" 1 tb mo ms δ h=.ok (.tup [obN r.hd,r.st]) h:=by
 have m1:=mMeth_at (mm:="held") (n:=1) (tb:=tb) (ms:=ms) (δ:=δ) (h:=h) (h1:=h) (mo:=mo) (k:=lt) (f:=m_Tree_held) hm t.ins ht rfl
 have e2:=held_ok t q
 unfold heldV at e2
 rw [e] at e2
 rw [m1]
 simp [hms,e2]
theorem key_in {M:Md} {q:Nm} (h:q∈M.map (·.1)):∃ r,fnd M q=some r:=Option.isSome_iff_exists.mp (fnd_key.mpr h)
def stOf (M:Md) (ho:Nm) (q:Nm):Option PV:=match fnd M q with
 | some r=>if r.hd=some ho then some r.st else none
 | none=>none
theorem deed_ok (c:Int) (nm:Nm) {M:Md} {L:List Nm} {b:Nat} {U:Nm->Prop} (i:SInv M b U) (ik:KdOk M) {lt lm lf lk:Nat} {h:PH} (t:TreeAt h lt lm lf M L) (gk:tblD h lk=some (kT (Kof M))) (lM:M.length<=63) (Q:PV->PH->Prop) (k:∀ sn a h',Ext h h'->ActW M a b->ActK a->Q (.tup [pv nm,sn,.tup (actP a)]) h'):(m_deed [.int c,pv nm,.ref lk,.ref lt] h).W Q:=by
 refine W_fn ?_
 unfold b_deed
 rw [W_seq]; simp
 refine stream_ok c 6 (by omega) h _ fun xs lx hA xA gx len _=>?_
 obtain ⟨x0,a0⟩:∃ x:Int,atI (xs.map PV.int) 0=some (.int x):=⟨_,at_int (i:=0) (by omega)⟩
 obtain ⟨x1,a1⟩:∃ x:Int,atI (xs.map PV.int) 1=some (.int x):=⟨_,at_int (i:=1) (by omega)⟩
 obtain ⟨x2,a2⟩:∃ x:Int,atI (xs.map PV.int) 2=some (.int x):=⟨_,at_int (i:=2) (by omega)⟩
 obtain ⟨x3,a3⟩:∃ x:Int,atI (xs.map PV.int) 3=some (.int x):=⟨_,at_int (i:=3) (by omega)⟩
 obtain ⟨x4,a4⟩:∃ x:Int,atI (xs.map PV.int) 4=some (.int x):=⟨_,at_int (i:=4) (by omega)⟩
 obtain ⟨x5,a5⟩:∃ x:Int,atI (xs.map PV.int) 5=some (.int x):=⟨_,at_int (i:=5) (by omega)⟩
 refine now ?_
 rw [W_seq]
 have e0:=vListKP_t (tblD_ext xA gk)
 rw [kT_keys,Kof_keys] at e0
 have gNm:(hA++[MO.lst ((root :: M.map (·.1)).map pv)])[hA.length]?=some (.lst ((root :: M.map (·.1)).map pv)):=snoc_at
 have xN:Ext hA (hA++[MO.lst ((root :: M.map (·.1)).map pv)]):=Ext.app _ _
 generalize hA.length=ln at e0 gNm
 generalize hA++[MO.lst ((root :: M.map (·.1)).map pv)]=hB at e0 gNm xN
 simp [e0]
 have xB:=xA.trans xN
 have gxB:=xN _ _ gx
 have ll:=vLen_ref gNm
 rw [List.length_map] at ll
 have kN:∀ p∈root :: M.map (·.1),∃ kd:Str,dLook (kT (Kof M)) (pv p)=some (.str kd)/\kindV M p=.str kd:=fun p hp=>kT_kind M ((List.mem_cons.mp hp).imp id fun z=>fnd_key.mpr z)
 obtain ⟨th,hth,eth⟩:=at_in (f:=pv) (i:=x0) (xs:=root :: M.map (·.1)) (by simp)
 have hpos:(0:Int) < ((root :: M.map (·.1)).length:Int):=by simp; try omega
 generalize hN:root :: M.map (·.1)=N at*
 refine now ?_
 rw [W_seq]
 simp (disch:=omega) [vIx_ref gxB,a0,ll,vIx_ref gNm,eth]
 refine now ?_
 rw [W_seq]
 have hc:=comp_lst (m:=mV 5) (js:=[none,some 2]) (tg:=gN 0) (tst:=mTru (mBin vNe (mBin vAt (mV 1) (mV 0)) (mC (.str "count")))) (elt:=mV 0) (δ:=[some (.int c),some (pv nm),some (.ref lk),some (.ref lt),some (.ref lx),some (.ref ln),some (pv th),none,none,none,none,none,none]) (h:=hB) (h1:=hB) (n:=ln) (ys:=N) (emb:=pv)
  (fun p=>if (!decide (kindV M p=.str "count"))=true then some (pv p) else none) (by simp) gNm (by have:=congrArg List.length hN; simp at this; omega) (fun p hp=>⟨[some (pv p),some (.ref lk)],by simp [capE],fun h hx=>by
   obtain ⟨kd,h1,h2⟩:=kN p hp
   have ek:vAt (.ref lk) (pv p) h=.ok (.str kd) h:=vAt_t (tblD_ext (xB.trans hx) gk) rfl h1
   by_cases e:kd="count"
   ·simp [ek,h2,e]
   ·simp [ek,h2,e]⟩)
 rw [fm_filter] at hc
 have rootH:root∈N.filter (fun p=>!decide (kindV M p=.str "count")):=by
  rw [List.mem_filter]
  refine ⟨by rw [<- hN]; exact List.mem_cons_self,?_⟩
  have:kindV M root=.str "map" := by unfold kindV; rw [if_pos rfl]
  rw [this]
  decide
 have subH:∀ p∈N.filter (fun p=>!decide (kindV M p=.str "count")),p∈N/\kindV M p≠.str "count" := fun p hp=>by
  obtain ⟨h1,h2⟩:=List.mem_filter.mp hp
  exact ⟨h1,by simpa using h2⟩
 generalize N.filter (fun p=>!decide (kindV M p=.str "count"))=Hs at hc rootH subH
 have gH:(hB++[MO.lst (Hs.map pv)])[hB.length]?=some (.lst (Hs.map pv)):=snoc_at
 have xH:Ext hB (hB++[MO.lst (Hs.map pv)]):=Ext.app _ _
 generalize hB.length=lh at hc gH
 generalize hB++[MO.lst (Hs.map pv)]=hC at hc gH xH
 simp [hc]
 clear hc e0
 refine now ?_
 have xC:=xB.trans xH
 have gxC:=xH _ _ gxB
 have gNC:=xH _ _ gNm
 have rest:∀ (H':List Nm) (l7:Nat) (hX:PH),Ext hC hX->hX[l7]?=some (.lst (H'.map pv))->H'≠[]->(∀ p∈H',p∈N/\kindV M p≠.str "count")->Lt (mSeq (mSet 8 (mBin vAt (mV 7) (mBin vMod (mBin vAt (mV 4) (mC (.int 1))) (mCB vLen (mCons (mV 7) mNil)))))
 (mSeq (mSet 9 (mComp [none,some 3,some 8] (mSeqI (mSl (mV 5) (mP (mC (.int 1))) mNoP)) (gN 0) (mTru (mBin vEq (mBin vAt (mMeth "held" 1 tb_deed_1 (mV 1) (mCons (mV 0) mNil)) (mC (.int 0))) (mV 2))) (mBin vAt (mMeth "held" 1 tb_deed_0 (mV 1) (mCons (mV 0) mNil)) (mC (.int 1)))))
 (mSeq (mSet 10 (mCall 3 m_spot (mCons (mBin vAt (mV 4) (mC (.int 2))) (mCons (mBin vAt (mV 2) (mV 8)) (mCons (mV 9) mNil)))))
 (mSeq (mSet 11 (mTup (mCons (mC (.str "move")) (mCons (mV 6) (mCons (mV 8) (mCons (mV 10) mNil))))))
 (mSeq (mIfS (mTru (mBin vLess (mBin vMod (mBin vAt (mV 4) (mC (.int 3))) (mC (.int 8))) (mC (.int 4))))
  (mSet 11 (mTup (mCons (mC (.str "make")) (mCons (mBin vAt (mLst (mCons (mC (.str "map")) (mCons (mC (.str "row")) (mCons (mC (.str "row")) (mCons (mC (.str "count")) mNil))))) (mBin vMod (mBin vAt (mV 4) (mC (.int 4))) (mC (.int 4)))) (mCons (mV 8) (mCons (mV 10) mNil))))))
  mNop)
 (mSeq (mIfS (mTru (mBin vEq (mBin vMod (mBin vAt (mV 4) (mC (.int 3))) (mC (.int 8))) (mC (.int 7))))
  (mSet 11 (mTup (mCons (mC (.str "drop")) (mCons (mV 6) mNil))))
  mNop)
 (mSeq (mSet 12 (mTup mNil))
 (mSeq (mIfS (mTru (mBin vGt (mBin vAt (mV 1) (mC (.int 1))) (mC (.int 1))))
  (mSet 12 (mTup (mCons (mTup (mCons (mBin vAt (mV 1) (mC (.int 0))) (mCons (mBin vSub (mBin vAt (mV 1) (mC (.int 1))) (mC (.int 1))) mNil))) mNil)))
  mNop)
 (mRet (mTup (mCons (mV 1) (mCons (mV 12) (mCons (mV 11) mNil))))))))))))) { nx:=fun _ h=>Q .non h,rt:=Q } [some (.int c),some (pv nm),some (.ref lk),some (.ref lt),some (.ref lx),some (.ref ln),some (pv th),some (.ref l7),none,none,none,none,none] hX:=by
  intro H' l7 hX xX g7 ne sub
  have xhX:=xC.trans xX
  have gxX:=xX _ _ gxC
  have tX:=t.ext xhX
  have hpos':(0:Int) < (H'.length:Int):=by
   cases H' with
   | nil=>exact (ne rfl).elim
   | cons _ _=>simp; try omega
  obtain ⟨ho,hho,eho⟩:=at_in (f:=pv) (i:=x1) ne
  obtain ⟨hoN,hoc⟩:=sub ho hho
  obtain ⟨kd,kd1,kd2⟩:=kN ho hoN
  refine now ?_
  rw [W_seq]
  have l7l:=vLen_ref g7
  rw [List.length_map] at l7l
  simp (disch:=omega) [vIx_ref gxX,a1,l7l,vIx_ref g7,eho]
  refine now ?_
  rw [W_seq]
  have esl:=vSl_ref (lo:=some 1) (hi:=none) (xX _ _ gNC)
  rw [<- hN,cut1] at esl
  have etl:((root :: M.map (·.1)).map pv).tail=(M.map (·.1)).map pv:=rfl
  rw [etl] at esl
  have gsl:(hX++[MO.lst ((M.map (·.1)).map pv)])[hX.length]?=some (.lst ((M.map (·.1)).map pv)):=snoc_at
  have xsl:Ext hX (hX++[MO.lst ((M.map (·.1)).map pv)]):=Ext.app _ _
  generalize hX.length=lsl at esl gsl
  generalize hX++[MO.lst ((M.map (·.1)).map pv)]=hY at esl gsl xsl
  have hc:=comp_lst (m:=mSl (mV 5) (mP (mC (.int 1))) mNoP) (js:=[none,some 3,some 8]) (tg:=gN 0) (tst:=mTru (mBin vEq (mBin vAt (mMeth "held" 1 tb_deed_1 (mV 1) (mCons (mV 0) mNil)) (mC (.int 0))) (mV 2))) (elt:=mBin vAt (mMeth "held" 1 tb_deed_0 (mV 1) (mCons (mV 0) mNil)) (mC (.int 1))) (δ:=[some (.int c),some (pv nm),some (.ref lk),some (.ref lt),some (.ref lx),some (.ref ln),some (pv th),some (.ref l7),some (pv ho),none,none,none,none]) (h:=hX) (h1:=hY) (n:=lsl) (ys:=M.map (·.1)) (emb:=pv)
   (stOf M ho) (by simp [esl]) gsl (by rw [List.length_map]; omega) (fun q hq=>⟨[some (pv q),some (.ref lt),some (pv ho)],by simp [capE],fun h hx=>by
    obtain ⟨r,hr⟩:=key_in hq
    have tq:=(tX.ext xsl).ext hx
    have m1:=heldM (tb:=tb_deed_1) (by simp [tb_deed_1]) tq hr (mo:=mV 1) (ms:=mCons (mV 0) mNil) (δ:=[some (pv q),some (.ref lt),some (pv ho)]) (by simp) (by simp)
    have m2:=heldM (tb:=tb_deed_0) (by simp [tb_deed_0]) tq hr (mo:=mV 1) (ms:=mCons (mV 0) mNil) (δ:=[some (pv q),some (.ref lt),some (pv ho)]) (by simp) (by simp)
    unfold stOf
    rw [hr]
    dsimp only
    by_cases e:r.hd=some ho
    ·rw [if_pos e]
     simp [m1,m2,obN_eq,e]
    ·rw [if_neg e]
     simp [m1,obN_eq,e]⟩)
  have hps:∀ p∈(M.map (·.1)).filterMap (stOf M ho),∃ q r,fnd M q=some r/\r.hd=some ho/\p=r.st:=fun p hp=>by
   obtain ⟨q,hq,e⟩:=List.mem_filterMap.mp hp
   obtain ⟨r,hr⟩:=key_in hq
   unfold stOf at e
   rw [hr] at e
   dsimp only at e
   split at e
   ·rename_i hd
    cases e
    exact ⟨q,r,hr,hd,rfl⟩
   ·cases e
  generalize (M.map (·.1)).filterMap (stOf M ho)=ps at hc hps
  have gp:(hY++[MO.lst ps])[hY.length]?=some (.lst ps):=snoc_at
  have xp:Ext hY (hY++[MO.lst ps]):=Ext.app _ _
  generalize hY.length=lp at hc gp
  generalize hY++[MO.lst ps]=hZ at hc gp xp
  simp [hc,-mSl_eq]
  clear hc esl
  have xhZ:=xhX.trans (xsl.trans xp)
  have gxZ:=xp _ _ (xsl _ _ gxX)
  refine now ?_
  rw [W_seq]
  have ek:vAt (.ref lk) (pv ho) hZ=.ok (.str kd) hZ:=vAt_t (tblD_ext xhZ gk) rfl kd1
  simp (disch:=omega) [vIx_ref gxZ,a2,ek]
  have kds:kd="map" \/ kd="row" := by
   unfold kindV at kd2 hoc
   by_cases er:ho=root
   ·rw [if_pos er] at kd2; left; cases kd2; rfl
   ·rw [if_neg er] at kd2 hoc
    cases ef:fnd M ho with
    | none=>rw [ef] at kd2; cases kd2
    | some r=>
     rw [ef] at kd2 hoc
     dsimp only at kd2 hoc
     have e1:r.kd=kd:=by cases kd2; rfl
     rcases ik ho r ef with e2 | e2 | e2
     ·left; rw [<- e1]; exact e2
     ·right; rw [<- e1]; exact e2
     ·exact (hoc (by rw [e2])).elim
  refine spot_ok x2 kd (b:=b) gp (kds.imp id fun e=>⟨e,fun p hp=>?_⟩) _ fun sp h5 x5' spk=>?_
  ·obtain ⟨q,r,h1,h2,rfl⟩:=hps p hp
   rcases i.st q r ho h1 h2 with ⟨h3,_⟩ | ⟨_,ys,y,h3,h4,h5,_⟩
   ·rw [kd2,e] at h3; exact absurd h3 (by decide)
   ·exact ⟨ys++[y],h3,h4,by simp; omega⟩
  have spw:SpW M ho sp b:=by
   cases sp with
   | key z=>
    have e:kd="map" := spk
    show kindV M ho=_
    rw [kd2,e]
   | place u s=>
    obtain ⟨e,r⟩:=spk
    exact ⟨by rw [kd2,e],r⟩
  have xh5:=xhZ.trans x5'
  have gx5:=x5' _ _ gxZ
  refine now ?_
  rw [W_seq]; simp
  have last:∀ (a:Act) (h9:PH),Ext h h9->ActW M a b->ActK a->Lt (mSeq (mSet 12 (mTup mNil))
 (mSeq (mIfS (mTru (mBin vGt (mBin vAt (mV 1) (mC (.int 1))) (mC (.int 1))))
  (mSet 12 (mTup (mCons (mTup (mCons (mBin vAt (mV 1) (mC (.int 0))) (mCons (mBin vSub (mBin vAt (mV 1) (mC (.int 1))) (mC (.int 1))) mNil))) mNil)))
  mNop)
 (mRet (mTup (mCons (mV 1) (mCons (mV 12) (mCons (mV 11) mNil))))))) { nx:=fun _ h=>Q .non h,rt:=Q } [some (.int c),some (pv nm),some (.ref lk),some (.ref lt),some (.ref lx),some (.ref ln),some (pv th),some (.ref l7),some (pv ho),some (.ref lp),some (spP sp),some (.tup (actP a)),none] h9:=by
   intro a h9 x9 aw ak
   refine now ?_
   rw [W_seq]; simp
   refine now ?_
   rw [W_seq,W_ifS]
   simp [pv0,pv1]
   by_cases e1:1 < nm.2
   ·simp [e1]
    refine now ?_
    simp
    exact k _ a h9 x9 aw ak
   ·simp [e1]
    refine now ?_
    simp
    exact k _ a h9 x9 aw ak
  have mid:∀ (a:Act) (h9:PH),Ext h h9->h9[lx]?=some (.lst (xs.map PV.int))->ActW M a b->ActK a->Lt (mSeq (mIfS (mTru (mBin vEq (mBin vMod (mBin vAt (mV 4) (mC (.int 3))) (mC (.int 8))) (mC (.int 7))))
  (mSet 11 (mTup (mCons (mC (.str "drop")) (mCons (mV 6) mNil))))
  mNop)
 (mSeq (mSet 12 (mTup mNil))
 (mSeq (mIfS (mTru (mBin vGt (mBin vAt (mV 1) (mC (.int 1))) (mC (.int 1))))
  (mSet 12 (mTup (mCons (mTup (mCons (mBin vAt (mV 1) (mC (.int 0))) (mCons (mBin vSub (mBin vAt (mV 1) (mC (.int 1))) (mC (.int 1))) mNil))) mNil)))
  mNop)
 (mRet (mTup (mCons (mV 1) (mCons (mV 12) (mCons (mV 11) mNil)))))))) { nx:=fun _ h=>Q .non h,rt:=Q } [some (.int c),some (pv nm),some (.ref lk),some (.ref lt),some (.ref lx),some (.ref ln),some (pv th),some (.ref l7),some (pv ho),some (.ref lp),some (spP sp),some (.tup (actP a)),none] h9:=by
   intro a h9 x9 g9 aw ak
   refine now ?_
   rw [W_seq,W_ifS]
   by_cases e7:x3 % 8=7
   ·simp (disch:=omega) [vIx_ref g9,a3,e7]
    exact last (.drop th) h9 x9 trivial trivial
   ·simp (disch:=omega) [vIx_ref g9,a3,e7]
    exact last a h9 x9 aw ak
  refine now ?_
  rw [W_seq,W_ifS]
  by_cases e4:x3 % 8 < 4
  ·simp (disch:=omega) [vIx_ref gx5,a3,e4]
   generalize ex:[PV.str "map",PV.str "row",PV.str "row",PV.str "count"]=ws
   have g8:(h5++[MO.lst ws])[h5.length]?=some (.lst ws):=snoc_at
   have x8:Ext h5 (h5++[MO.lst ws]):=Ext.app _ _
   generalize h5.length=l8 at g8
   generalize h5++[MO.lst ws]=h8 at g8 x8
   obtain ⟨kd',ez,hkd⟩:∃ z:Str,atI ws (x4 % 4)=some (.str z)/\(z="map" \/ z="row" \/ z="count"):=by
    obtain ⟨p,e,m⟩:=atI_mod (xs:=ws) (i:=x4) (by rw [<- ex]; exact fun z=>nomatch z)
    have e':atI ws (x4 % 4)=some p:=by rw [<- ex] at e ⊢; exact e
    rw [<- ex] at m
    simp at m
    rcases m with rfl | rfl | rfl
    ·exact ⟨_,e',.inl rfl⟩
    ·exact ⟨_,e',.inr (.inl rfl)⟩
    ·exact ⟨_,e',.inr (.inr rfl)⟩
   simp (disch:=omega) [vIx_ref (x8 _ _ gx5),a4,vIx_ref g8,ez]
   exact mid (.make kd' ho sp) h8 (xh5.trans x8) (x8 _ _ gx5) spw hkd
  ·simp (disch:=omega) [vIx_ref gx5,a3,e4]
   exact mid (.move th ho sp) h5 xh5 gx5 spw trivial
 rw [W_seq,W_ifS]
 by_cases e5:x5 % 2=0
 ·simp (disch:=omega) [vIx_ref gxC,a5,e5]
  have esl:=vSl_ref (lo:=none) (hi:=some 3) gH
  rw [cut_map,cut_to (by omega)] at esl
  simp [esl]
  refine rest (Hs.take 3) _ _ (Ext.app _ _) ?_ ?_ ?_
  ·have:=snoc_at (h:=hC) (o:=MO.lst ((Hs.take 3).map pv))
   simpa using this
  ·cases Hs with
   | nil=>cases rootH
   | cons a r=>simp
  ·exact fun p hp=>subH p (List.mem_of_mem_take hp)
 ·simp (disch:=omega) [vIx_ref gxC,a5,e5]
  exact rest Hs lh hC (Ext.refl _) gH (fun z=>by rw [z] at rootH; cases rootH) subH
theorem tblD_items {h:PH} {n:Nat} {kvs:List (PV×PV)} (e:tblD h n=some kvs):∃ o,h[n]?=some o/\isDO (some o)=true/\itemsM o=some (kvs.map fun kv=>.tup [kv.1,kv.2])/\keysM o=some (kvs.map (·.1)):=by
 unfold tblD at e
 split at e
 ·rename_i k hk; cases e; exact ⟨_,hk,rfl,rfl,rfl⟩
 ·rename_i hk; cases e; exact ⟨_,hk,rfl,rfl,rfl⟩
 ·cases e
theorem stp_eq (x y:St) (h:PH):vEq (stp x) (stp y) h=.ok (.bl (decide (x=y))) h:=by
 rw [vEq_pl (x:=stp x) (y:=stp y) rfl rfl]
 congr 2
 rw [decide_eq_decide]
 exact ⟨stp_inj,fun e=>by rw [e]⟩
theorem behind_ok (xs ys:List St) (sx:∀ x∈xs,sg x) (sy:∀ y∈ys,sg y) (lx:xs.length<=1000) (ly:ys.length<=1000) (h:PH) (Q:PV->PH->Prop) (k:Q (.bl (bef xs ys)) h):(m_behind [pl xs,pl ys] h).W Q:=by
 refine W_fn ?_
 unfold b_behind
 have e1:∀ q:Nat,∀ x,xs[q]?=some x->atI (xs.map stp) (q:Int)=some (stp x):=fun q x hx=>atI_of (by rw [List.getElem?_map,hx]; rfl)
 have e2:∀ q:Nat,∀ x,ys[q]?=some x->atI (ys.map stp) (q:Int)=some (stp x):=fun q x hx=>atI_of (by rw [List.getElem?_map,hx]; rfl)
 have d1:∀ q:Nat,∀ x,xs[q]?=some x->xs.drop q=x :: xs.drop (q+1):=fun q x hx=>drop_cons hx
 have d2:∀ q:Nat,∀ x,ys[q]?=some x->ys.drop q=x :: ys.drop (q+1):=fun q x hx=>drop_cons hx
 have rest:∀ (q:Nat),q<=xs.length->q<=ys.length->bef (xs.drop q) (ys.drop q)=bef xs ys->(∀ x y,xs[q]?=some x->ys[q]?=some y->x≠y)->Lt (mSeq (mIfS (mAndT (mTru (mBin vLess (mV 2) (mCB vLen (mCons (mV 0) mNil)))) (mTru (mBin vLess (mV 2) (mCB vLen (mCons (mV 1) mNil)))))
  (mRet (mBin vLess (mBin vAt (mV 0) (mV 2)) (mBin vAt (mV 1) (mV 2))))
  mNop)
 (mSeq (mIfS (mTru (mBin vLess (mV 2) (mCB vLen (mCons (mV 1) mNil))))
  (mRet (mBin vEq (mBin vAt (mBin vAt (mV 1) (mV 2)) (mC (.int 0))) (mC (.int 1))))
  mNop)
 (mRet (mAndV (mBin vLess (mV 2) (mCB vLen (mCons (mV 0) mNil))) (mBin vEq (mBin vAt (mBin vAt (mV 0) (mV 2)) (mC (.int 0))) (mUn vNeg (mC (.int 1)))))))) { nx:=fun _ h=>Q .non h,rt:=Q } [some (pl xs),some (pl ys),some (.int (q:Int))] h:=by
  intro q hx hy hb hne
  refine now ?_
  rw [W_seq,W_ifS]
  by_cases qx:q < xs.length
  ·obtain ⟨x,ex⟩:∃ x,xs[q]?=some x:=⟨_,List.getElem?_eq_getElem qx⟩
   have sgx:=sx x (List.mem_of_getElem? ex)
   rw [d1 q x ex] at hb
   by_cases qy:q < ys.length
   ·obtain ⟨y,ey⟩:∃ y,ys[q]?=some y:=⟨_,List.getElem?_eq_getElem qy⟩
    rw [d2 q y ey] at hb
    have ne:=hne x y ex ey
    have hb':lexS x y=bef xs ys:=by
     rw [<- hb]
     show _=if x=y then bef _ _ else lexS x y
     rw [if_neg ne]
    have lt:vLess (stp x) (stp y) h=.ok (.bl (lexS x y)) h:=vLess_pl (xs:=[.int x.s,.str x.h,.int x.n,.int x.k]) (ys:=[.int y.s,.str y.h,.int y.n,.int y.k]) rfl rfl (lt_stp 39 x y ne)
    simp [pl,qx,qy,e1 q x ex,e2 q y ey,lt]
    rw [hb']
    exact k
   ·have hz:ys.drop q=[]:=List.drop_eq_nil_of_le (Nat.le_of_not_lt qy)
    rw [hz] at hb
    have hb':decide (x.s < 0)=bef xs ys:=hb
    simp [pl,qx,qy]
    refine now ?_
    rw [W_seq]
    simp [qy]
    refine now ?_
    have i0:vIx (stp x) (.int 0) h=.ok (.int x.s) h:=by unfold stp; simp
    have e3:decide (x.s=-1)=decide (x.s < 0):=by
     rw [decide_eq_decide]
     rcases sgx with e | e <;> rw [e] <;> decide
    simp [qx,e1 q x ex,i0,e3,hb']
    exact k
  ·have hz:xs.drop q=[]:=List.drop_eq_nil_of_le (Nat.le_of_not_lt qx)
   rw [hz] at hb
   simp [pl,qx]
   refine now ?_
   rw [W_seq]
   by_cases qy:q < ys.length
   ·obtain ⟨y,ey⟩:∃ y,ys[q]?=some y:=⟨_,List.getElem?_eq_getElem qy⟩
    have sgy:=sy y (List.mem_of_getElem? ey)
    rw [d2 q y ey] at hb
    have hb':decide (0<=y.s)=bef xs ys:=hb
    have i0:vIx (stp y) (.int 0) h=.ok (.int y.s) h:=by unfold stp; simp
    have e3:decide (y.s=1)=decide (0<=y.s):=by
     rw [decide_eq_decide]
     rcases sgy with e | e <;> rw [e] <;> decide
    simp [qy,e2 q y ey,i0,e3,hb']
    exact k
   ·have hz2:ys.drop q=[]:=List.drop_eq_nil_of_le (Nat.le_of_not_lt qy)
    rw [hz2] at hb
    have hb':false=bef xs ys:=hb
    simp [qy]
    refine now ?_
    simp [qx]
    rw [hb']
    exact k
 rw [W_seq]; simp
 refine now ?_
 rw [W_seq]
 refine W_while (fun m δ h'=>h'=h/\∃ q:Nat,m=xs.length - q/\q<=xs.length/\q<=ys.length/\bef (xs.drop q) (ys.drop q)=bef xs ys/\δ=[some (pl xs),some (pl ys),some (.int (q:Int))]) ?_ 1000000 xs.length (by omega) _ _ ⟨rfl,0,rfl,Nat.zero_le _,Nat.zero_le _,rfl,rfl⟩
 rintro m δ h' ⟨rfl,q,rfl,hx,hy,hb,rfl⟩
 by_cases qx:q < xs.length
 ·obtain ⟨x,ex⟩:∃ x,xs[q]?=some x:=⟨_,List.getElem?_eq_getElem qx⟩
  by_cases qy:q < ys.length
  ·obtain ⟨y,ey⟩:∃ y,ys[q]?=some y:=⟨_,List.getElem?_eq_getElem qy⟩
   by_cases e:x=y
   ·have a1:=e1 q x ex
    have a2:=e2 q y ey
    rw [d1 q x ex,d2 q y ey] at hb
    have hb':bef (xs.drop (q+1)) (ys.drop (q+1))=bef xs ys:=by
     rw [<- hb]
     show _=if x=y then bef _ _ else lexS x y
     rw [if_pos e]
    simp [pl,qx,qy,a1,a2,stp_eq,e,w_behind_0]
    exact ⟨xs.length - (q+1),Nat.sub_succ_lt_self _ _ qx,q+1,rfl,qx,qy,hb',by omega⟩
   ·have a1:=e1 q x ex
    have a2:=e2 q y ey
    simp [pl,qx,qy,a1,a2,stp_eq,e]
    exact rest q hx hy hb fun x' y' h1 h2=>by rw [ex] at h1; rw [ey] at h2; cases h1; cases h2; exact e
  ·simp [pl,qx,qy]
   exact rest q hx hy hb fun x' y' h1 h2=>absurd (List.getElem?_eq_some_iff.mp h2).1 qy
 ·simp [pl,qx]
  exact rest q hx hy hb fun x' y' h1 h2=>absurd (List.getElem?_eq_some_iff.mp h1).1 qx
def nmV (x:Nm×Rc):PV:=pv x.1
theorem within_ok {M:Md} {L:List Nm} {b:Nat} {U:Nm->Prop} (i:SInv M b U) (hb:b<=900) {lt lm lf:Nat} {h:PH} (t:TreeAt h lt lm lf M L) (lM:M.length < 64) (p:Nm) (hk:kindV M p=.str "map" \/ kindV M p=.str "row" \/ (Wm M p=[]/\kindV M p≠.str "row")) (Q:PV->PH->Prop) (k:∀ l h',Ext h h'->h'[l]?=some (.lst ((wiM M p).map nmV))->h.length<=l->Q (.ref l) h'):(m_Tree_within [.ref lt,pv p] h).W Q:=by
 refine W_fn ?_
 unfold b_Tree_within
 rw [W_seq]
 obtain ⟨o,ho,hd,hi,_⟩:=tblD_items t.made
 have hi':itemsM o=some (M.map fun y=>.tup [pv y.1,recP y.2]):=by rw [hi,List.map_map]; rfl
 have e0:mMt0 isDct vItemsA (mUn (vFld "made") (mV 0)) [some (.ref lt),some (pv p),none] h=.ok (.ref h.length) (h++[.vw 0 lm]):=by
  simp [t.fm,t.dict,vItemsA_at ho hd]
 have ho1:(h++[MO.vw 0 lm])[lm]?=some o:=Ext.app _ _ _ _ ho
 have hc:=setcomp_walk (i:=2) (js:=[none,none,some 1]) (tg:=gTp 2 (gCn (gN 0) (gCn (gN 1) gNl))) (tst:=mTru (mBin vEq (mBin vAt (mV 1) (mC (.int 1))) (mV 2))) (elt:=mTup (mCons (mBin vAt (mV 1) (mC (.int 2))) (mCons (mV 0) mNil))) (δ:=[some (.ref lt),some (pv p),none]) (h:=h) (ys:=M) (emb:=fun y=>.tup [pv y.1,recP y.2]) (fun y=>if decide (y.2.hd=some p)=true then some (keyS y) else none) e0 (wkI_view snoc_at ho1 hi') (by rw [ho]; exact hd) ho1 (by omega)
  (fun y hy=>⟨[some (pv y.1),some (recP y.2),some (pv p)],by simp [capE],fun h=>by
   by_cases e:y.2.hd=some p
   ·simp [rc1,rc2,obN_eq,e,keyS]
   ·simp [rc1,obN_eq,e]⟩)
 rw [fm_filter] at hc
 have x1:Ext h (h++[MO.vw 0 lm]++[MO.lst ((Wm M p).map keyS)]):=(Ext.app _ _).trans (Ext.app _ _)
 have g1:(h++[MO.vw 0 lm]++[MO.lst ((Wm M p).map keyS)])[(h++[MO.vw 0 lm]).length]?=some (.lst ((Wm M p).map keyS)):=snoc_at
 have hc':mThawS true (mMt0 isDct vItemsA (mUn (vFld "made") (mV 0))) (mSet 2 (mComp [none,none,some 1] (mWalk true (mMt0 isDct vItemsA (mUn (vFld "made") (mV 0)))) (gTp 2 (gCn (gN 0) (gCn (gN 1) gNl))) (mTru (mBin vEq (mBin vAt (mV 1) (mC (.int 1))) (mV 2))) (mTup (mCons (mBin vAt (mV 1) (mC (.int 2))) (mCons (mV 0) mNil))))) [some (.ref lt),some (pv p),none] h=.nx [some (.ref lt),some (pv p),some (.ref (h++[MO.vw 0 lm]).length)] (h++[MO.vw 0 lm]++[MO.lst ((Wm M p).map keyS)]):=hc
 clear hc
 generalize (h++[MO.vw 0 lm]).length=l1 at hc' g1
 generalize h++[MO.vw 0 lm]++[MO.lst ((Wm M p).map keyS)]=hA at hc' g1 x1
 have hc2:(mThawS true (mMt0 isDct vItemsA (mUn (vFld "made") (mV 0))) (mSet 2 (mComp [none,none,some 1] (mWalk true (mMt0 isDct vItemsA (mUn (vFld "made") (mV 0)))) (gTp 2 (gCn (gN 0) (gCn (gN 1) gNl))) (mTru (mBin vEq (mBin vAt (mV 1) (mC (.int 1))) (mV 2))) (mTup (mCons (mBin vAt (mV 1) (mC (.int 2))) (mCons (mV 0) mNil))))) ([PV.ref lt,pv p].map some++List.replicate (3 - [PV.ref lt,pv p].length) none) h)=.nx [some (.ref lt),some (pv p),some (.ref l1)] hA:=hc'
 rw [hc2,W_nx]
 clear hc2 hc'
 refine now ?_
 have lW:(Wm M p).length < 64:=Nat.lt_of_le_of_lt (List.length_filter_le _ _) lM
 have tA:=t.ext x1
 have fin:∀ (key:Nm×Rc->PV) (m:Nat) (l2:Nat) (hB:PH),(∀ x,∃ v,key x=.tup [v,pv x.1])->OkN m ((Wm M p).map key)->wiM M p=sortG key (Wm M p)->Ext h hB->hB[l2]?=some (.lst ((Wm M p).map key))->Lt (mRet (mComp [none,none] (mSeqI (mCB vSortedM (mCons (mV 2) mNil))) (gTp 2 (gCn (gN 0) (gCn (gN 1) gNl))) mYes (mV 1))) { nx:=fun _ h=>Q .non h,rt:=Q } [some (.ref lt),some (pv p),some (.ref l2)] hB:=by
  intro key m l2 hB hkey ok hw xB gB
  refine now ?_
  have es:=vSortedM_at gB (by rw [List.length_map]; exact lW) ok
  rw [sortG_map] at es
  have gs:(hB++[MO.lst ((sortG key (Wm M p)).map key)])[hB.length]?=some (.lst ((sortG key (Wm M p)).map key)):=snoc_at
  have xs:Ext hB (hB++[MO.lst ((sortG key (Wm M p)).map key)]):=Ext.app _ _
  generalize hB.length=ls at es gs
  generalize hB++[MO.lst ((sortG key (Wm M p)).map key)]=hC at es gs xs
  have lS:(sortG key (Wm M p)).length<=16777216:=by rw [(sortG_perm key (Wm M p)).length_eq]; omega
  have hc:=comp_lst (m:=mCB vSortedM (mCons (mV 2) mNil)) (js:=[none,none]) (tg:=gTp 2 (gCn (gN 0) (gCn (gN 1) gNl))) (tst:=mYes) (elt:=mV 1) (δ:=[some (.ref lt),some (pv p),some (.ref l2)]) (h:=hB) (h1:=hC) (n:=ls) (ys:=sortG key (Wm M p)) (emb:=key)
   (fun x=>some (nmV x)) (by simp [es]) gs lS (fun x hx=>by
    obtain ⟨v,hv⟩:=hkey x
    exact ⟨[some v,some (pv x.1)],by simp [capE,hv],fun h _=>⟨rfl,by simp [nmV]⟩⟩)
  rw [filterMap_some,<- hw] at hc
  have gF:(hC++[MO.lst ((wiM M p).map nmV)])[hC.length]?=some (.lst ((wiM M p).map nmV)):=snoc_at
  have xF:Ext hC (hC++[MO.lst ((wiM M p).map nmV)]):=Ext.app _ _
  have ll:=(xB.trans xs).len
  rw [W_ret,hc,W_ok]
  exact k _ _ (xB.trans (xs.trans xF)) gF ll
 have m1:=mMeth_at (mm:="kind_of") (n:=1) (tb:=tb_Tree_within_0) (ms:=mCons (mV 1) mNil) (δ:=[some (.ref lt),some (pv p),some (.ref l1)]) (h:=hA) (h1:=hA) (mo:=mV 0) (k:=lt) (f:=m_Tree_kind_of) (by simp) tA.ins (by simp [tb_Tree_within_0]) rfl
 have eK:vEq (kindV M p) (.str "row") hA=.ok (.bl (isRow M p)) hA:=by rw [vEq_pl (kindV_pl M p) rfl]; rfl
 rw [W_seq,W_ifS]
 by_cases er:kindV M p=.str "row"
 ·have hr:isRow M p=true:=decide_eq_true er
  rw [hr] at eK
  simp [m1,kind_ok tA,eK]
  have hc:=comp_lst (m:=mV 2) (js:=[none,none]) (tg:=gTp 2 (gCn (gN 0) (gCn (gN 1) gNl))) (tst:=mYes) (elt:=mTup (mCons (mCall 1 m_rank_of (mCons (mV 0) mNil)) (mCons (mV 1) mNil))) (δ:=[some (.ref lt),some (pv p),some (.ref l1)]) (h:=hA) (h1:=hA) (n:=l1) (ys:=Wm M p) (emb:=keyS)
   (fun x=>some (keyR x)) (by simp) g1 (by omega) (fun x hx=>by
    obtain ⟨xs,y,h1,h2,h3⟩:=rowW i er hx
    refine ⟨[some x.2.st,some (pv x.1)],by simp [capE,keyS],fun h _=>⟨rfl,?_⟩⟩
    have:=rank_eq (xs++[y]) h (by simp; omega)
    rw [<- h1] at this
    have e9:keyR x=.tup [.tup ((xs++[y]).map stp++[endP]),pv x.1]:=by unfold keyR; rw [h1,rkV_pl]
    rw [e9]
    simp [this])
  rw [filterMap_some] at hc
  have gF:(hA++[MO.lst ((Wm M p).map keyR)])[hA.length]?=some (.lst ((Wm M p).map keyR)):=snoc_at
  have xF:Ext hA (hA++[MO.lst ((Wm M p).map keyR)]):=Ext.app _ _
  generalize hA.length=l2 at hc gF
  generalize hA++[MO.lst ((Wm M p).map keyR)]=hB at hc gF xF
  simp [hc]
  exact fin keyR 2 l2 hB (fun x=>⟨_,rfl⟩) (okRow i er) (by unfold wiM; rw [hr]; rfl) (x1.trans xF) gF
 ·have hr:isRow M p=false:=decide_eq_false er
  rw [hr] at eK
  simp [m1,kind_ok tA,eK]
  have hw:wiM M p=sortG keyS (Wm M p):=by unfold wiM; rw [hr]; rfl
  rcases hk with hk | hk | ⟨hk,_⟩
  ·exact fin keyS 1 l1 hA (fun x=>⟨_,rfl⟩) (okMap i hk) hw x1 g1
  ·exact (er hk).elim
  ·exact fin keyS 0 l1 hA (fun x=>⟨_,rfl⟩) (by rw [hk]; exact ⟨by omega,(fun x hx=>nomatch hx),(fun x hx=>nomatch hx),fun x hx=>nomatch hx⟩) hw x1 g1
theorem in_order_ok {M:Md} {L:List Nm} {b:Nat} {U:Nm->Prop} (i:SInv M b U) (hb:b<=900) {lt lm lf:Nat} {h:PH} (t:TreeAt h lt lm lf M L) (lM:M.length < 64) (p:Nm) (kd:Str) (hk:kindV M p=.str kd) (hkd:kd="map" \/ kd="row" \/ (Wm M p=[]/\kd≠"map" /\ kd≠"row")) {lw:Nat} (gw:h[lw]?=some (.lst ((wiM M p).map nmV))) (Q:PV->PH->Prop) (k:∀ h',Ext h h'->Q (.bl true) h'):(m_in_order [.ref lt,.ref lw,.str kd] h).W Q:=by
 refine W_fn ?_
 unfold b_in_order
 rw [W_seq]
 have lW:(wiM M p).length < 64:=by
  rw [(wiM_perm M p).length_eq]
  exact Nat.lt_of_le_of_lt (List.length_filter_le _ _) lM
 have hc:=comp_lst (m:=mV 1) (js:=[none,some 0]) (tg:=gN 0) (tst:=mYes) (elt:=mBin vAt (mMeth "held" 1 tb_in_order_0 (mV 1) (mCons (mV 0) mNil)) (mC (.int 1))) (δ:=[some (.ref lt),some (.ref lw),some (.str kd),none,none]) (h:=h) (h1:=h) (n:=lw) (ys:=wiM M p) (emb:=nmV)
  (fun x=>some x.2.st) (by simp) gw (by omega) (fun x hx=>⟨[some (pv x.1),some (.ref lt)],by simp [capE,nmV],fun h' hx'=>⟨rfl,by
   have hr:=(mem_W i.nd ((wiM_perm M p).mem_iff.mp hx)).1
   have m1:=heldM (tb:=tb_in_order_0) (by simp [tb_in_order_0]) (t.ext hx') hr (mo:=mV 1) (ms:=mCons (mV 0) mNil) (δ:=[some (pv x.1),some (.ref lt)]) (by simp) (by simp)
   simp [m1]⟩⟩)
 rw [filterMap_some] at hc
 have gs:(h++[MO.lst ((wiM M p).map fun x=>x.2.st)])[h.length]?=some (.lst ((wiM M p).map fun x=>x.2.st)):=snoc_at
 have xs:Ext h (h++[MO.lst ((wiM M p).map fun x=>x.2.st)]):=Ext.app _ _
 generalize h.length=ls at hc gs
 generalize h++[MO.lst ((wiM M p).map fun x=>x.2.st)]=hA at hc gs xs
 have gwA:=xs _ _ gw
 simp [hc]
 refine now ?_
 rw [W_seq]
 refine W_for2 (lo:=1) (j:=((wiM M p).length:Int)) (fun q δ h'=>h'=hA/\∃ x4,δ=[some (.ref lt),some (.ref lw),some (.str kd),some (.ref ls),x4]) (by simp [vLen_ref gwA]) (by omega) ⟨rfl,_,rfl⟩ ?_ ?_
 ·rintro q δ h1 hq ⟨rfl,x4,rfl⟩
  obtain ⟨x,hx⟩:∃ x,(wiM M p)[q]?=some x:=⟨_,List.getElem?_eq_getElem (by omega)⟩
  obtain ⟨y,hy⟩:∃ y,(wiM M p)[q+1]?=some y:=⟨_,List.getElem?_eq_getElem (by omega)⟩
  have k0:(1:Int)+(q:Int) - 1=((q:Nat):Int):=by omega
  have k1:(1:Int)+(q:Int)=((q+1:Nat):Int):=by omega
  have s0:vIx (.ref ls) (.int ((q:Nat):Int)) h1=.ok x.2.st h1:=by rw [vIx_ref gs,atI_of (by rw [List.getElem?_map,hx]; rfl)]; rfl
  have s1:vIx (.ref ls) (.int ((q+1:Nat):Int)) h1=.ok y.2.st h1:=by rw [vIx_ref gs,atI_of (by rw [List.getElem?_map,hy]; rfl)]; rfl
  have f0:vIx (.ref lw) (.int ((q:Nat):Int)) h1=.ok (pv x.1) h1:=by rw [vIx_ref gwA,atI_of (by rw [List.getElem?_map,hx]; rfl)]; rfl
  have f1:vIx (.ref lw) (.int ((q+1:Nat):Int)) h1=.ok (pv y.1) h1:=by rw [vIx_ref gwA,atI_of (by rw [List.getElem?_map,hy]; rfl)]; rfl
  rw [k1] at*
  have k2:(((q+1:Nat):Int)) - 1=((q:Nat):Int):=by omega
  generalize ((q+1:Nat):Int)=i1 at*
  generalize ((q:Nat):Int)=i0 at*
  unfold w_in_order_0
  rcases hkd with rfl | rfl | ⟨hW,_,_⟩
  ·have lt:=map_next i hk hx hy
   have mx:=(wiM_perm M p).mem_iff.mp (List.mem_of_getElem? hx)
   have my:=(wiM_perm M p).mem_iff.mp (List.mem_of_getElem? hy)
   obtain ⟨z,hz⟩:=mapW i hk mx
   obtain ⟨z',hz'⟩:=mapW i hk my
   have ge:vGeT (.tup [x.2.st,pv x.1]) (.tup [y.2.st,pv y.1]) h1=.ok (.bl (!true)) h1:=vGeT_pl (by rw [hz]; rfl) (by rw [hz']; rfl) lt
   rw [W_seq]; simp [k2,s0,s1,f0,f1,ge]
   refine now ?_
   simp [map_row]
  ·obtain ⟨us,vs,h1',h2',a1,a2,a3,a4,bf⟩:=row_next i hk hx hy
   rw [h1'] at s0
   rw [h2'] at s1
   rw [W_seq]; simp [row_map]
   refine now ?_
   rw [W_ifS]
   simp [k2,s0,s1]
   refine behind_ok us vs a1 a2 (by omega) (by omega) h1 _ ?_
   rw [bf]
   simp
  ·have:=(wiM_perm M p).length_eq
   rw [hW] at this
   simp at this
   rw [this] at hx
   simp at hx
 ·rintro δ h1 ⟨rfl,x4,rfl⟩
  refine now ?_
  simp
  exact k _ xs
theorem look_put (D:Seen) (w:Str) (n:Int) (z:Str):look (dput D w n) z=if z=w then some n else look D z:=by
 unfold dput
 split
 ·rename_i hs
  induction D with
  | nil=>simp [look] at hs
  | cons p D ih=>
   simp only [List.map_cons,look_cons]
   rw [look_cons] at hs
   by_cases e:p.1=w
   ·simp only [e,if_true]
    by_cases ez:w=z
    ·simp [ez]
    ·have ez':¬ z=w:=fun y=>ez y.symm
     simp only [ez,ez',if_false]
     by_cases hs2:(look D w).isSome=true
     ·rw [ih hs2,if_neg ez']
     ·have:D.map (fun p=>if p.1=w then (p.1,n) else p)=D:=by
       conv=>rhs; rw [<- List.map_id D]
       apply List.map_congr_left
       intro q hq
       have:q.1≠w:=by
        intro y
        apply hs2
        clear ih hs
        induction D with
        | nil=>cases hq
        | cons r D ih2=>
         rw [look_cons]
         split
         ·rfl
         ·rename_i nr
          rcases List.mem_cons.mp hq with rfl | hq
          ·exact (nr y).elim
          ·exact ih2 (fun z=>hs2 (by rw [look_cons,if_neg nr]; exact z)) hq
       simp [this]
      rw [this]
   ·simp only [e,if_false] at hs ⊢
    by_cases ez:p.1=z
    ·have:¬ z=w:=fun y=>e (ez.trans y)
     simp [ez,this]
    ·simp only [ez,if_false]
     exact ih hs
 ·rename_i hs
  have hn:look D w=none:=by simpa using hs
  have app:∀ D:Seen,look (D++[(w,n)]) z=match look D z with | some m=>some m | none=>if w=z then some n else none:=by
   intro D
   induction D with
   | nil=>simp [look]
   | cons p D ih=>
    rw [List.cons_append,look_cons,look_cons]
    split
    ·rfl
    ·exact ih
  rw [app]
  by_cases ez:z=w
  ·subst ez
   simp [hn]
  ·have ez':¬ w=z:=fun y=>ez y.symm
   simp only [ez,ez',if_false]
   cases look D z <;> rfl
def UD (D:Seen) (n:Nm):Prop:=1<=n.2/\n.2<=(look D n.1).getD 0
structure MS (hs:List Str) (lh lt lk:Nat) (q:Nat) (M:Md) (L:List Nm) (D:Seen) (h:PH):Prop where
 i:SInv M q (UD D)
 ik:KdOk M
 tr:TreeAt h lt (lt+1) (lt+2) M L
 gk:tblD h lk=some (kT (Kof M))
 gn:h[lk+1]?=some (.dK (emb D))
 gh:h[lh]?=some (.lst (hs.map PV.str))
 lM:M.length<=q
 lL:L.length<=q
 lD:D.length<=q
 h0:∀ w,0<=(look D w).getD 0/\(look D w).getD 0<=q
theorem kT_putN {M:Md} {nm:Nm} {kd:Str} (h:dLook (kT (Kof M)) (pv nm)=none):putP (kT (Kof M)) (pv nm) (.str kd)=kT (Kof M++[(nm,kd)]):=by
 unfold putP
 rw [h]
 unfold kT
 simp
theorem tblD_ne {h:PH} {n:Nat} {a:PV×PV} {l:List (PV×PV)} (e:tblD h n=some (a :: l)):h[n]?=some (.dD (a :: l)):=by
 unfold tblD at e
 split at e
 ·rename_i q; cases e; exact q
 ·cases e
 ·cases e
theorem okNms (ps:List Nm):OkN 1 (ps.map pv):=
 ⟨by omega,fun x hx=>by obtain ⟨p,_,rfl⟩:=List.mem_map.mp hx; rfl,fun x hx=>by obtain ⟨p,_,rfl⟩:=List.mem_map.mp hx; rfl,fun x hx y hy=>by
  obtain ⟨p,_,rfl⟩:=List.mem_map.mp hx
  obtain ⟨q,_,rfl⟩:=List.mem_map.mp hy
  by_cases e:p=q
  ·subst e
   show (ltL (ltP 19) [.str p.1,.int p.2] [.str p.1,.int p.2]).isSome=true
   rw [ltL_self]
   rfl
  ·rw [lt_pv 19 p q e]
   rfl⟩
theorem vSorted_nms {h:PH} {n:Nat} {ps:List Nm} (e:h[n]?=some (.lst (ps.map pv))) (hl:ps.length < 64):vSortedM [.ref n] h=.ok (.ref h.length) (h++[.lst (sortG id (ps.map pv))]):=
 vSortedM_at e (by rw [List.length_map]; exact hl) (okNms ps)
theorem sort_nms {ps qs:List Nm} (p:ps.Perm qs):sortG id (ps.map pv)=sortG id (qs.map pv):=
 sortG_one id (okNms qs).inj ((sortG_perm id _).trans (p.map pv)) (sortG_sorted id _)
theorem all_nms (ps:List Nm):(ps.map pv).all (PV.pl 39)=true:=by
 rw [List.all_map]
 exact List.all_eq_true.mpr fun p _=>pv_pl (n:=38)
theorem all_sort (ps:List Nm):(sortG id (ps.map pv)).all (PV.pl 39)=true:=by
 rw [List.all_eq_true]
 intro x hx
 exact List.all_eq_true.mp (all_nms ps) x ((sortG_perm id _).mem_iff.mp hx)
theorem nmV_map (l:List (Nm×Rc)):l.map nmV=(l.map (·.1)).map pv:=by rw [List.map_map]; rfl
theorem W_nil {M:Md} {b:Nat} {U:Nm->Prop} {p:Nm} (i:SInv M b U) (h1:kindV M p≠.str "map") (h2:kindV M p≠.str "row"):Wm M p=[]:=by
 cases e:Wm M p with
 | nil=>rfl
 | cons x r=>
  have hx:x∈Wm M p:=by rw [e]; exact List.mem_cons_self
  obtain ⟨a,c⟩:=mem_W i.nd hx
  rcases i.st _ _ _ a c with ⟨z,_⟩ | ⟨z,_⟩
  ·exact (h1 z).elim
  ·exact (h2 z).elim
theorem turn_ok {M:Md} {L:List Nm} {b:Nat} {U:Nm->Prop} (i:SInv M b U) (ik:KdOk M) (hb:b<=900) (lM:M.length < 63) {lt lk l9:Nat} {h:PH} (t:TreeAt h lt (lt+1) (lt+2) M L) (gk:h[lk]?=some (.fz (.dD (kT (Kof M))))) (g9:h[l9]?=some (.lst (M.map nmV))) (p:Nm) (hp:p=root\/(fnd M p).isSome=true) (s0 s1 s2 s5 s6 s7 s8 x11 x12:Option PV) {E:FE}
  (fin:∀ x11 x12 h',Ext h h'->E.nx [s0,s1,s2,some (.ref lt),some (.ref lk),s5,s6,s7,s8,some (.ref l9),some (pv p),x11,x12] h'):
  (w_law_1 [s0,s1,s2,some (.ref lt),some (.ref lk),s5,s6,s7,s8,some (.ref l9),some (pv p),x11,x12] h).W E:=by
 obtain ⟨kd,kd1,kd2⟩:=kT_kind M hp
 have kds:kd="map" \/ kd="row" \/ kd="count" := by
  unfold kindV at kd2
  by_cases er:p=root
  ·rw [if_pos er] at kd2; left; cases kd2; rfl
  ·rw [if_neg er] at kd2
   cases ef:fnd M p with
   | none=>rw [ef] at kd2; cases kd2
   | some r=>
    rw [ef] at kd2
    dsimp only at kd2
    have e1:r.kd=kd:=by cases kd2; rfl
    rw [<- e1]
    exact ik p r ef
 have nW:kd="count" -> Wm M p=[]:=fun e=>W_nil i (by rw [kd2,e]; decide) (by rw [kd2,e]; decide)
 have hkW:kindV M p=.str "map" \/ kindV M p=.str "row" \/ (Wm M p=[]/\kindV M p≠.str "row"):=by
  rcases kds with e | e | e
  ·left; rw [kd2,e]
  ·right; left; rw [kd2,e]
  ·right; right; exact ⟨nW e,by rw [kd2,e]; decide⟩
 have hkd:kd="map" \/ kd="row" \/ (Wm M p=[]/\kd≠"map" /\ kd≠"row"):=by
  rcases kds with e | e | e
  ·exact .inl e
  ·exact .inr (.inl e)
  ·exact .inr (.inr ⟨nW e,by rw [e]; decide,by rw [e]; decide⟩)
 have lW:(wiM M p).length < 63:=by
  rw [(wiM_perm M p).length_eq]
  exact Nat.lt_of_le_of_lt (List.length_filter_le _ _) lM
 unfold w_law_1
 rw [W_seq]
 have m1:=mMeth_at (mm:="within") (n:=1) (tb:=tb_law_1) (ms:=mCons (mV 10) mNil) (δ:=[s0,s1,s2,some (.ref lt),some (.ref lk),s5,s6,s7,s8,some (.ref l9),some (pv p),x11,x12]) (h:=h) (h1:=h) (mo:=mV 3) (k:=lt) (f:=m_Tree_within) (by simp) t.ins (by simp [tb_law_1]) rfl
 simp [m1]
 refine within_ok i hb t (by omega) p hkW _ fun lw hA xA gw nw=>?_
 have tA:=t.ext xA
 have gkA:=xA _ _ gk
 refine now ?_
 have hi:vIsI [.ref lw,.ty "list"] hA=.ok (.bl true) hA:=by simp [vIsI,tyN,gw,known,isSub]
 have ek:vAtF (.ref lk) (pv p) hA=.ok (.str kd) hA:=vAtF_at gkA rfl kd1
 rw [W_seq,W_ifS]
 simp [hi,ek]
 refine in_order_ok i hb tA (by omega) p kd kd2 hkd gw _ fun hB xB=>?_
 simp
 have tB:=tA.ext xB
 have gwB:=xB _ _ gw
 rw [nmV_map] at gwB
 have g9B:=xB _ _ (xA _ _ g9)
 refine now ?_
 have s1':=vSorted_nms gwB (by rw [List.length_map]; omega)
 have gs1:(hB++[MO.lst (sortG id (((wiM M p).map (·.1)).map pv))])[hB.length]?=some (.lst (sortG id (((wiM M p).map (·.1)).map pv))):=snoc_at
 have xs1:Ext hB (hB++[MO.lst (sortG id (((wiM M p).map (·.1)).map pv))]):=Ext.app _ _
 generalize hB.length=ls1 at s1' gs1
 generalize hB++[MO.lst (sortG id (((wiM M p).map (·.1)).map pv))]=hC at s1' gs1 xs1
 have tC:=tB.ext xs1
 have hc:=comp_lst (m:=mV 9) (js:=[none,some 10,some 3]) (tg:=gN 0) (tst:=mTru (mBin vEq (mBin vAt (mMeth "held" 1 tb_law_2 (mV 2) (mCons (mV 0) mNil)) (mC (.int 0))) (mV 1))) (elt:=mV 0) (δ:=[s0,s1,s2,some (.ref lt),some (.ref lk),s5,s6,s7,s8,some (.ref l9),some (pv p),some (.ref lw),x12]) (h:=hC) (h1:=hC) (n:=l9) (ys:=M) (emb:=nmV)
  (fun x=>if decide (x.2.hd=some p)=true then some (nmV x) else none) (by simp) (xs1 _ _ g9B) (by omega) (fun x hx=>⟨[some (pv x.1),some (pv p),some (.ref lt)],by simp [capE,nmV],fun h' hx'=>by
   have hr:=fnd_of i.nd hx
   have m1:=heldM (tb:=tb_law_2) (by simp [tb_law_2]) (tC.ext hx') hr (mo:=mV 2) (ms:=mCons (mV 0) mNil) (δ:=[some (pv x.1),some (pv p),some (.ref lt)]) (by simp) (by simp)
   by_cases e:x.2.hd=some p
   ·simp [m1,obN_eq,e,nmV]
   ·simp [m1,obN_eq,e]⟩)
 rw [fm_filter] at hc
 have hWm:(M.filter fun x=>decide (x.2.hd=some p))=Wm M p:=rfl
 rw [hWm,nmV_map] at hc
 have gc:(hC++[MO.lst (((Wm M p).map (·.1)).map pv)])[hC.length]?=some (.lst (((Wm M p).map (·.1)).map pv)):=snoc_at
 have xc:Ext hC (hC++[MO.lst (((Wm M p).map (·.1)).map pv)]):=Ext.app _ _
 generalize hC.length=lc at hc gc
 generalize hC++[MO.lst (((Wm M p).map (·.1)).map pv)]=hD at hc gc xc
 have s2':=vSorted_nms gc (by rw [List.length_map]; have:=(wiM_perm M p).length_eq; omega)
 have gs2:(hD++[MO.lst (sortG id (((Wm M p).map (·.1)).map pv))])[hD.length]?=some (.lst (sortG id (((Wm M p).map (·.1)).map pv))):=snoc_at
 have xs2:Ext hD (hD++[MO.lst (sortG id (((Wm M p).map (·.1)).map pv))]):=Ext.app _ _
 generalize hD.length=ls2 at s2' gs2
 generalize hD++[MO.lst (sortG id (((Wm M p).map (·.1)).map pv))]=hE at s2' gs2 xs2
 have ne:=vNe_lst (xs2 _ _ (xc _ _ gs1)) gs2 (all_sort _) (all_sort _)
 rw [sort_nms ((wiM_perm M p).map (·.1)),decide_eq_true rfl] at ne
 rw [W_seq,W_ifS]
 simp [s1',hc,s2',ne]
 clear s1' hc s2' ne
 have xE:=xs1.trans (xc.trans xs2)
 have xhE:=xA.trans (xB.trans xE)
 have gwE:=xE _ _ gwB
 have tE:=tB.ext xE
 refine now ?_
 rw [W_seq]
 have ev:=vListKP_lst gwE
 have gv:(hE++[MO.lst (((wiM M p).map (·.1)).map pv)])[hE.length]?=some (.lst (((wiM M p).map (·.1)).map pv)):=snoc_at
 have xv:Ext hE (hE++[MO.lst (((wiM M p).map (·.1)).map pv)]):=Ext.app _ _
 have nv:lw < hE.length:=(List.getElem?_eq_some_iff.mp gwE).1
 generalize hE.length=lv at ev gv nv
 generalize hE++[MO.lst (((wiM M p).map (·.1)).map pv)]=hF at ev gv xv
 simp [ev]
 clear ev
 refine now ?_
 rw [W_seq]
 have gwF:=xv _ _ gwE
 have ap:=append_ref (p:=pv p) gwF (by rw [List.length_map,List.length_map]; omega)
 have xG:=Ext.setN (o:=MO.lst (((wiM M p).map (·.1)).map pv++[pv p])) (xhE.trans xv) nw
 have gvG:=set_ne (o':=MO.lst (((wiM M p).map (·.1)).map pv++[pv p])) (n:=lw) gv (by omega)
 have il:=isL_ref gwF
 simp [il,ap]
 have tG:=t.ext xG
 have e9:List.map pv (List.map (fun x=>x.fst) (wiM M p))=((wiM M p).map (·.1)).map pv:=rfl
 first | rw [<- List.map_map] | skip
 generalize hF.set lw (.lst (((wiM M p).map (·.1)).map pv++[pv p]))=hG at*
 refine now ?_
 rw [W_ifS]
 have m2:=mMeth_at (mm:="within") (n:=1) (tb:=tb_law_3) (ms:=mCons (mV 10) mNil) (δ:=[s0,s1,s2,some (.ref lt),some (.ref lk),s5,s6,s7,s8,some (.ref l9),some (pv p),some (.ref lw),some (.ref lv)]) (h:=hG) (h1:=hG) (mo:=mV 3) (k:=lt) (f:=m_Tree_within) (by simp) tG.ins (by simp [tb_law_3]) rfl
 simp [m2]
 refine within_ok i hb tG (by omega) p hkW _ fun lz hH xH gz nz=>?_
 rw [nmV_map] at gz
 have ne:=vNe_lst gz (xH _ _ gvG) (all_nms _) (all_nms _)
 rw [decide_eq_true rfl] at ne
 simp [ne]
 exact fin _ _ _ (xG.trans xH)
unseal Fl.W in
theorem W_forW {δ:Ev} {h h1:PH} {E:FE} {b:Bool} {m:Me} {x:PV} {d:Nat} {o:MO} {tg:Mg} {body:Ms} {xs:List PV} (I:Nat->Ev->PH->Prop) (e:m δ h=.ok x h1) (ew:wkI b x h1=some (d,o,xs)) (hd:isDO h[d]?=true)
  (h0:I 0 δ (h1.set d (.fz o))) (keep:∀ q δ h,I q δ h->h[d]?=some (.fz o))
  (step:∀ (q:Nat) y δ h,xs[q]?=some y->I q δ h->∃ δ1,tg y δ=some δ1/\(body δ1 h).W { nx:=I (q+1),ct:=I (q+1),rt:=fun _ _=>False,bk:=fun _ _=>False })
  (fin:∀ δ h,I xs.length δ h->E.nx δ (h.set d o)):(mThawS b m (mFor (mWalk b m) tg body) δ h).W E:=by
 have go:(loopF (fun _=>true) tg body xs δ (h1.set d (.fz o))).W { nx:=fun δ h=>I xs.length δ h,rt:=fun _ _=>False,bk:=fun _ _=>False,ct:=fun _ _=>False }:=W_loop I _ 0 δ _ h0 (fun q y δ h _ hx hi=>⟨rfl,by
  obtain ⟨δ1,t1,w1⟩:=step q y δ h (by simpa using hx) hi
  refine ⟨δ1,t1,?_⟩
  cases eb:body δ1 h with
  | nx δ2 h2=>rw [eb] at w1; exact w1
  | ct δ2 h2=>rw [eb] at w1; exact w1
  | bk δ2 h2=>rw [eb] at w1; exact w1.elim
  | rt p h2=>rw [eb] at w1; exact w1
  | exc=>rw [eb] at w1; exact w1
  | bad=>rw [eb] at w1; exact w1⟩) (fun δ h hi=>⟨rfl,by simpa using hi⟩)
 unfold mThawS
 rw [wkD_at e ew hd]
 dsimp only
 unfold mFor
 rw [mWalk_at e ew,Rs.fl_ok]
 cases el:loopF (fun _=>true) tg body xs δ (h1.set d (.fz o)) with
 | nx δ2 h2=>
  rw [el] at go
  have g:I xs.length δ2 h2:=go
  have g2:=keep _ _ _ g
  simp only [thawF,thawN,g2]
  exact fin δ2 h2 g
 | ct δ2 h2=>rw [el] at go; exact go.elim
 | bk δ2 h2=>rw [el] at go; exact go.elim
 | rt p h2=>rw [el] at go; exact go.elim
 | exc=>rw [el] at go; exact go.elim
 | bad=>rw [el] at go; exact go.elim
def LI (ns:List Int) (c:Int) (hs:List Str) (lh lt lk ld:Nat) (cs:List Int) (q:Nat) (δ:Ev) (h:PH):Prop:=∃ M L D,MS hs lh lt lk q M L D h/\h[ld]?=some (.lst (cs.map PV.int))/\∃ x6 x7 x8,δ=[some (.fl (ns.map PV.int)),some (.int c),some (.ref lh),some (.ref lt),some (.ref lk),some (.ref (lk+1)),x6,x7,x8,none,none,none,none]
theorem main (ns:List Int) (hl:ns.length<=63):∃ h,m_law [.fl (ns.map PV.int)] []=.ok (.bl true) h:=by
 have w:(m_law [.fl (ns.map PV.int)] []).W fun p _=>p=.bl true:=by
  refine W_fn ?_
  unfold b_law
  rw [W_seq]
  have c0:=cell_ok ns 0
  simp only [Int.cast_ofNat_Int] at c0
  simp (disch:=omega) [c0]
  generalize cell ns 0=c at c0
  refine now ?_
  rw [W_seq]
  simp (disch:=omega)
  have hm:1<=1+c / 24 % 3/\1+c / 24 % 3<=3:=by omega
  obtain ⟨m,em⟩:∃ m:Nat,1+c / 24 % 3=(m:Int):=⟨(1+c / 24 % 3).toNat,by omega⟩
  rw [em] at hm ⊢
  refine hands_ok c m (by omega) _ _ fun hs lh hA gh lhs=>?_
  try simp
  refine now ?_
  rw [W_seq]
  obtain ⟨hB,eB,tB,xB⟩:=init_ok [some (.fl (ns.map PV.int)),some (.int c),some (.ref lh),none,none,none,none,none,none,none,none,none,none] hA
  simp only [W_set,eB,W_ok,List.set_cons_succ,List.set_cons_zero]
  have ghB:=xB _ _ gh
  have lhA:lh < hA.length:=(List.getElem?_eq_some_iff.mp gh).1
  generalize hlt:hA.length=lt at tB lhA
  have lBn:lt+2 < hB.length:=(List.getElem?_eq_some_iff.mp tB.fail).1
  clear eB xB gh
  refine now ?_
  rw [W_seq]
  have hset:(hB++[MO.dK []]).set hB.length (MO.dD (kT (Kof [])))=hB++[MO.dD (kT (Kof []))]:=by simp
  have hd1:putD (.tup [.str "",.int 0]) (.str "map") hB.length (hB++[MO.dK []])=.ok (.ref hB.length) (hB++[MO.dD (kT (Kof []))]):=by
   have ht:tblD (hB++[MO.dK []]) hB.length=some []:=tblD_dK snoc_at
   rw [<- hset]
   unfold putD
   rw [if_pos (by rfl),ht]
   dsimp only
   rw [if_pos (by rw [sizeLine_num]; decide)]
   rfl
  have xC:Ext hB (hB++[MO.dD (kT (Kof []))]):=Ext.app _ _
  have gk:tblD (hB++[MO.dD (kT (Kof []))]) hB.length=some (kT (Kof [])):=tblD_dD snoc_at
  have lC:(hB++[MO.dD (kT (Kof []))]).length=hB.length+1:=by simp
  simp [hd1]
  generalize hB++[MO.dD (kT (Kof []))]=hC at xC gk lC
  generalize hlk:hB.length=lk at gk lC lBn
  refine now ?_
  rw [W_seq]
  simp
  have xD:Ext hC (hC++[MO.dK []]):=Ext.app _ _
  have gn:(hC++[MO.dK []])[hC.length]?=some (.dK (emb [])):=by simp [emb]
  have lD':(hC++[MO.dK []]).length=lk+2:=by simp [lC]
  rw [lC] at gn ⊢
  generalize hC++[MO.dK []]=hD at xD gn lD'
  have tD:=(tB.ext xC).ext xD
  have gkD:=tblD_ext xD gk
  have ghD:=xD _ _ (xC _ _ ghB)
  clear tB gk ghB xC xD
  refine now ?_
  rw [W_seq]
  have hcl:(cutP ns (some 1) (some 41)).length<=40:=by
      unfold cutP
      rw [List.length_take]
      exact Nat.le_trans (Nat.min_le_left _ _) (show min 41 ns.length - min 1 ns.length ≤ 40 by omega)
  have hsl:vSl (.fl (ns.map PV.int)) (some 1) (some 41) hD=.ok (.ref hD.length) (hD++[MO.lst ((cutP ns (some 1) (some 41)).map PV.int)]):=by simp [cut_map]
  have gc:(hD++[MO.lst ((cutP ns (some 1) (some 41)).map PV.int)])[hD.length]?=some (.lst ((cutP ns (some 1) (some 41)).map PV.int)):=snoc_at
  have xE:Ext hD (hD++[MO.lst ((cutP ns (some 1) (some 41)).map PV.int)]):=Ext.app _ _
  rw [lD'] at hsl gc
  generalize hD++[MO.lst ((cutP ns (some 1) (some 41)).map PV.int)]=hE at hsl gc xE
  generalize cutP ns (some 1) (some 41)=cs at hsl gc hcl
  refine W_forL (n:=lk+2) (xs:=cs.map PV.int) (h1:=hE) (LI ns c hs lh lt lk (lk+2) cs) (by simp [hsl]) gc
   ⟨[],[],[],⟨⟨TInv.nil,by simp,(fun p h=>by cases h),(fun p r h=>by cases h),(fun p r q h=>by cases h),(fun p r p' r' xs x xs' x' h=>by cases h)⟩,(fun p r h=>by cases h),tD.ext xE,tblD_ext xE gkD,xE _ _ gn,xE _ _ ghD,by simp,by simp,by simp,(fun w=>⟨Int.le_refl _,Int.le_refl _⟩)⟩,gc,_,_,_,rfl⟩ ?_ ?_ ?_
  ·rintro q δ h' hq ⟨M,L,D,_,g,_⟩
   exact g
  ·rintro q y δ h' hy ⟨M,L,D,s,gc',x6,x7,x8,rfl⟩
   rw [List.getElem?_map] at hy
   obtain ⟨cc,hcc,rfl⟩:=Option.map_eq_some_iff.mp hy
   have hq':q < cs.length:=(List.getElem?_eq_some_iff.mp hcc).1
   refine ⟨_,rfl,?_⟩
   unfold w_law_0
   rw [W_seq]
   have hne:hs≠[]:=by intro z; rw [z] at lhs; simp at lhs; omega
   obtain ⟨w,hw,ew⟩:=at_in (f:=PV.str) (i:=cc) hne
   have ll:=vLen_ref s.gh
   rw [List.length_map] at ll
   have hpos:(0:Int) < hs.length:=by omega
   simp (disch:=omega) [ll,vIx_ref s.gh,ew]
   refine now ?_
   rw [W_seq]
   have hgt:=vGet_dK (x:=w) (z:=.int 0) s.gn
   rw [look_emb] at hgt
   have ev:((look D w).map PV.int).getD (.int 0)=.int ((look D w).getD 0):=by cases look D w <;> rfl
   rw [ev] at hgt
   have hput:vPutL (.ref (lk+1)) (.str w) (.int ((look D w).getD 0+1)) h'=some (h'.set (lk+1) (MO.dK (emb (dput D w ((look D w).getD 0+1))))):=by
    rw [vPutL_s s.gn (by unfold emb; rw [List.length_map]; have:=s.lD; omega),put_emb]
   have D0:=s.h0 w
   have notU:¬ UD D (w,(look D w).getD 0+1):=fun z=>by
    have:=z.2
    simp at this
    omega
   have nroot:(w,(look D w).getD 0+1)≠root:=fun e=>by
    have:=congrArg Prod.snd e
    simp at this
    omega
   generalize hN:(look D w).getD 0+1=N at hgt hput notU nroot
   have e0:((look D w).getD 0:Int)=N - 1:=by omega
   simp [isDct_dK s.gn,hgt]
   rw [hN]
   refine ⟨_,hput,now ?_⟩
   have lD2:=len_put (S:=D) (h:=w) (n:=N)
   have lkD:look (dput D w N) w=some N:=by rw [look_put,if_pos rfl]
   have t1:TreeAt (h'.set (lk+1) (MO.dK (emb (dput D w N)))) lt (lt+1) (lt+2) M L:=by
    obtain ⟨o,ho,_,hh⟩:=tblD_lst s.tr.made
    exact ⟨set_ne s.tr.ins (by omega),hh _ (set_ne ho (by omega)),set_ne s.tr.fail (by omega)⟩
   have gk1:tblD (h'.set (lk+1) (MO.dK (emb (dput D w N)))) lk=some (kT (Kof M)):=by
    obtain ⟨o,ho,_,hh⟩:=tblD_lst s.gk
    exact hh _ (set_ne ho (by omega))
   have gn1:=set_at (o':=MO.dK (emb (dput D w N))) s.gn
   have gh1:=set_ne (o':=MO.dK (emb (dput D w N))) s.gh (n:=lk+1) (by omega)
   have gc1:=set_ne (o':=MO.dK (emb (dput D w N))) gc' (n:=lk+1) (by omega)
   generalize h'.set (lk+1) (MO.dK (emb (dput D w N)))=h1 at t1 gk1 gn1 gh1 gc1
   rw [W_seq]
   have ei:vIx (.ref (lk+1)) (.str w) h1=.ok (.int N) h1:=by rw [vIx_dK gn1,look_emb,lkD]; rfl
   simp (disch:=omega) [ei]
   have hlM:=s.lM
   have hlL:=s.lL
   have hlD:=s.lD
   refine deed_ok (cc / 3) (w,N) s.i s.ik t1 gk1 (by omega) _ fun sn a h2 x2 aw ak=>?_
   refine now ?_
   rw [W_seq]
   have t2:=t1.ext x2
   have m1:=mMeth_at (mm:="hear") (n:=1) (tb:=tb_law_0) (ms:=mCons (mV 8) mNil) (δ:=[some (.fl (ns.map PV.int)),some (.int c),some (.ref lh),some (.ref lt),some (.ref lk),some (.ref (lk+1)),some (.int cc),some (.str w),some (.tup [pv (w,N),sn,.tup (actP a)]),none,none,none,none]) (h:=h2) (h1:=h2) (mo:=mV 3) (k:=lt) (f:=m_Tree_hear) (by simp) t2.ins (by simp [tb_law_0]) rfl
   simp [m1]
   refine hear_ok t2 s.i.t.nr (by omega) (by omega) (w,N) sn a (aw.ok (by omega)) _ fun h3 t3 k3=>?_
   refine now ?_
   have i3:=(s.i.heard (L:=L) aw notU nroot).mono (Nat.le_refl _) (U':=UD (dput D w N)) fun z hz=>by
    rcases hz with hz | rfl
    ·refine ⟨hz.1,?_⟩
     rw [look_put]
     split
     ·rename_i e
      have h2:=hz.2
      rw [e] at h2
      show z.2<=N
      omega
     ·exact hz.2
    ·exact ⟨by show 1<=N; omega,by rw [lkD]; exact Int.le_refl _⟩
   have ik3:=s.ik.heard (L:=L) (nm:=(w,N)) ak
   have kt3:=Kof_heard (L:=L) s.i aw notU
   obtain ⟨lM3,lL3⟩:=len_heard (M:=M) (L:=L) (nm:=(w,N)) (a:=a)
   have gn3:h3[lk+1]?=some (MO.dK (emb (dput D w N))):=k3 _ _ (by omega) (by omega) (x2 _ _ gn1)
   have gh3:h3[lh]?=some (.lst (hs.map PV.str)):=k3 _ _ (by omega) (by omega) (x2 _ _ gh1)
   have gc3:h3[lk+2]?=some (.lst (cs.map PV.int)):=k3 _ _ (by omega) (by omega) (x2 _ _ gc1)
   have gk3:tblD h3 lk=some (kT (Kof M)):=by
    obtain ⟨o,ho,_,hh⟩:=tblD_lst (tblD_ext x2 gk1)
    exact hh _ (k3 _ _ (by omega) (by omega) ho)
   have h03:∀ z,0<=(look (dput D w N) z).getD 0/\(look (dput D w N) z).getD 0<=((q+1:Nat):Int):=fun z=>by
    rw [look_put]
    split
    ·show 0<=N/\N<=_
     omega
    ·have:=s.h0 z
     omega
   have done:∀ (h4:PH),TreeAt h4 lt (lt+1) (lt+2) (heard M L (w,N) a).1 (heard M L (w,N) a).2.1->tblD h4 lk=some (kT (Kof (heard M L (w,N) a).1))->h4[lk+1]?=some (MO.dK (emb (dput D w N)))->h4[lh]?=some (.lst (hs.map PV.str))->h4[lk+2]?=some (.lst (cs.map PV.int))->LI ns c hs lh lt lk (lk+2) cs (q+1) [some (.fl (ns.map PV.int)),some (.int c),some (.ref lh),some (.ref lt),some (.ref lk),some (.ref (lk+1)),some (.int cc),some (.str w),some (.tup [pv (w,N),sn,.tup (actP a)]),none,none,none,none] h4:=fun h4 t4 g4 n4 hh4 c4=>⟨_,_,_,⟨i3,ik3,t4,g4,n4,hh4,by omega,by omega,by omega,h03⟩,c4,_,_,_,rfl⟩
   rw [W_ifS]
   cases a with
   | make kd ho sp=>
    have a0:atI (actP (.make kd ho sp)) 0=some (.str "make"):=rfl
    have a1:atI (actP (.make kd ho sp)) 1=some (.str kd):=rfl
    generalize hA':actP (.make kd ho sp)=A at a0 a1 done
    have nk:dLook (kT (Kof M)) (pv (w,N))=none:=by
     rw [kT_look,if_neg nroot]
     cases e:fnd M (w,N) with
     | none=>rfl
     | some r=>exact (notU (s.i.us _ (by rw [e]; rfl))).elim
    have hp:=vPutL_t (z:=.str kd) (xs:=[.str w,.int N]) gk3 rfl (by unfold kT; rw [List.length_map]; have:=congrArg List.length (Kof_keys M); simp at this; omega)
    have epp:putP (kT (Kof M)) (PV.tup [.str w,.int N]) (.str kd)=kT (Kof M++[((w,N),kd)]):=kT_putN nk
    have kt4:Kof (heard M L (w,N) (.make kd ho sp)).1=Kof M++[((w,N),kd)]:=kt3
    rw [epp,<- kt4] at hp
    simp [a0,a1,pv0]
    have dm:=t3.dm
    have d1:TreeAt (h3.set lk (.dD (kT (Kof (heard M L (w,N) (.make kd ho sp)).1)))) lt (lt+1) (lt+2) (heard M L (w,N) (.make kd ho sp)).1 (heard M L (w,N) (.make kd ho sp)).2.1:=by
     obtain ⟨o,ho',_,hh⟩:=tblD_lst t3.made
     exact ⟨set_ne t3.ins (by omega),hh _ (set_ne ho' (by omega)),set_ne t3.fail (by omega)⟩
    obtain ⟨o',ho'',_,_⟩:=tblD_lst gk3
    refine ⟨_,hp,?_⟩
    exact done _ d1 (tblD_dD (set_at ho'')) (set_ne gn3 (by omega)) (set_ne gh3 (by omega)) (set_ne gc3 (by omega))
   | move th ho sp=>
    have a0:atI (actP (.move th ho sp)) 0=some (.str "move"):=rfl
    generalize hA':actP (.move th ho sp)=A at a0 done
    have mm:(("move" : Str)="make")=False:=eq_false (by decide)
    simp [a0,mm]
    exact done _ t3 (by rw [kt3]; exact gk3) gn3 gh3 gc3
   | drop th=>
    have a0:atI (actP (.drop th)) 0=some (.str "drop"):=rfl
    generalize hA':actP (.drop th)=A at a0 done
    have mm:(("drop" : Str)="make")=False:=eq_false (by decide)
    simp [a0,mm]
    exact done _ t3 (by rw [kt3]; exact gk3) gn3 gh3 gc3
  ·rintro δ h' ⟨M,L,D,s,gc',x6,x7,x8,rfl⟩
   rw [List.length_map] at s
   refine now ?_
   rw [W_seq]
   have hlM:=s.lM
   have e0:=vListKP_t s.gk
   rw [kT_keys,Kof_keys] at e0
   have gN1:(h'++[MO.lst ((root :: M.map (·.1)).map pv)])[h'.length]?=some (.lst ((root :: M.map (·.1)).map pv)):=snoc_at
   have xN:Ext h' (h'++[MO.lst ((root :: M.map (·.1)).map pv)]):=Ext.app _ _
   generalize h'.length=ln at e0 gN1
   generalize h'++[MO.lst ((root :: M.map (·.1)).map pv)]=hF at e0 gN1 xN
   have esl:=vSl_ref (lo:=some 1) (hi:=none) gN1
   rw [cut1] at esl
   have etl:((root :: M.map (·.1)).map pv).tail=M.map nmV:=by rw [nmV_map]; rfl
   rw [etl] at esl
   simp [e0,esl]
   clear e0 esl etl
   have g9:(hF++[MO.lst (M.map nmV)])[hF.length]?=some (.lst (M.map nmV)):=snoc_at
   have x9:Ext hF (hF++[MO.lst (M.map nmV)]):=Ext.app _ _
   have l9:(h'.length:Int)=h'.length:=rfl
   have lkF:lk+1 < hF.length:=(List.getElem?_eq_some_iff.mp (xN _ _ s.gn)).1
   generalize hl9:hF.length=l9' at g9 lkF
   generalize hF++[MO.lst (M.map nmV)]=hG at g9 x9
   have xG:=xN.trans x9
   have tG:=s.tr.ext xG
   have gkG:=tblD_ne (a:=(pv root,.str "map")) (tblD_ext xG s.gk)
   have ghG:=xG _ _ s.gh
   refine now ?_
   rw [W_seq]
   have ekm:keysM (.dD (kT (Kof M)))=some ((root :: M.map (·.1)).map pv):=by
    show some ((kT (Kof M)).map (·.1))=_
    rw [kT_keys,Kof_keys]
   have gkG':hG[lk]?=some (.dD (kT (Kof M))):=gkG
   refine W_forW (o:=.dD (kT (Kof M))) (d:=lk) (xs:=(root :: M.map (·.1)).map pv) (fun q δ h1=>h1[lk]?=some (.fz (.dD (kT (Kof M))))/\TreeAt h1 lt (lt+1) (lt+2) M L/\h1[l9']?=some (.lst (M.map nmV))/\h1[lh]?=some (.lst (hs.map PV.str))/\∃ x10 x11 x12,δ=[some (.fl (ns.map PV.int)),some (.int c),some (.ref lh),some (.ref lt),some (.ref lk),some (.ref (lk+1)),x6,x7,x8,some (.ref l9'),x10,x11,x12]) (x:=.ref lk) (h1:=hG) (by simp) (wkI_dict gkG' ekm) (by rw [gkG']; rfl) ⟨set_at gkG',?_,set_ne g9 (by omega),set_ne ghG (by omega),_,_,_,rfl⟩ (fun q δ h1 i=>i.1) ?_ ?_
   ·obtain ⟨o,ho,_,hh⟩:=tblD_lst tG.made
    exact ⟨set_ne tG.ins (by omega),hh _ (set_ne ho (by omega)),set_ne tG.fail (by omega)⟩
   ·rintro q y δ h1 hy ⟨k1,t1,k9,kh,x10,x11,x12,rfl⟩
    rw [List.getElem?_map] at hy
    obtain ⟨p,hp,rfl⟩:=Option.map_eq_some_iff.mp hy
    have hpm:=List.mem_of_getElem? hp
    refine ⟨_,rfl,?_⟩
    exact turn_ok s.i s.ik (by omega) (by omega) t1 k1 k9 p ((List.mem_cons.mp hpm).imp id fun z=>fnd_key.mpr z) _ _ _ _ _ _ _ _ _ fun x11 x12 h2 x2=>⟨x2 _ _ k1,t1.ext x2,x2 _ _ k9,x2 _ _ kh,_,_,_,rfl⟩
   ·rintro δ h1 ⟨k1,t1,k9,kh,x10,x11,x12,rfl⟩
    refine now ?_
    have t2:TreeAt (h1.set lk (.dD (kT (Kof M)))) lt (lt+1) (lt+2) M L:=by
     obtain ⟨o,ho,_,hh⟩:=tblD_lst t1.made
     exact ⟨set_ne t1.ins (by omega),hh _ (set_ne ho (by omega)),set_ne t1.fail (by omega)⟩
    have kh2:=set_ne (o':=MO.dD (kT (Kof M))) (n:=lk) kh (by omega)
    generalize h1.set lk (.dD (kT (Kof M)))=h2 at t2 kh2
    have e00:∃ z0,atI (hs.map PV.str) 0=some (.str z0):=by
     cases hs with
     | nil=>simp at lhs; omega
     | cons z0 r=>exact ⟨z0,by simp⟩
    obtain ⟨z0,ez0⟩:=e00
    have fn:fnd M (z0,1000000000)=none:=by
     cases e:fnd M (z0,1000000000) with
     | none=>rfl
     | some r=>
      have h1:=(s.i.us _ (by rw [e]; rfl)).2
      have h2:=(s.h0 z0).2
      simp at h1
      omega
    have nr:((z0,1000000000):Nm)≠root:=fun e=>by
     have:=congrArg Prod.snd e
     simp at this
    have kn:kindV M (z0,1000000000)=.non:=by unfold kindV; rw [if_neg nr,fn]
    have wn:Wm M (z0,1000000000)=[]:=W_nil s.i (by rw [kn]; decide) (by rw [kn]; decide)
    have m1:=mMeth_at (mm:="within") (n:=1) (tb:=tb_law_4) (ms:=mCons (mTup (mCons (mBin vAt (mV 2) (mC (.int 0))) (mCons (mBin vPow (mC (.int 10)) (mC (.int 9))) mNil))) mNil) (δ:=[some (.fl (ns.map PV.int)),some (.int c),some (.ref lh),some (.ref lt),some (.ref lk),some (.ref (lk+1)),x6,x7,x8,some (.ref l9'),x10,x11,x12]) (h:=h2) (h1:=h2) (mo:=mV 3) (k:=lt) (f:=m_Tree_within) (by simp) t2.ins (by simp [tb_law_4]) rfl
    have ix0:=vIx_ref (i:=0) kh2
    rw [ez0] at ix0
    simp (disch:=omega) [m1,ix0]
    refine within_ok s.i (by omega) t2 (by omega) (z0,1000000000) (.inr (.inr ⟨wn,by rw [kn]; decide⟩)) _ fun lw h3 x3 gw nw=>?_
    have ew:wiM M (z0,1000000000)=[]:=by
     have:=(wiM_perm M (z0,1000000000)).length_eq
     rw [wn] at this
     exact List.length_eq_zero_iff.mp this
    rw [ew] at gw
    have gw:h3[lw]?=some (.lst []):=gw
    have g3:(h3++[MO.lst []])[h3.length]?=some (.lst []):=snoc_at
    have x4:Ext h3 (h3++[MO.lst []]):=Ext.app _ _
    have q1:=vEq_lst (x4 _ _ gw) g3 rfl rfl
    rw [decide_eq_true rfl] at q1
    simp [q1]
 obtain ⟨p,h,e,rfl⟩:=W_ex w
 exact ⟨h,e⟩
end K56
set_option Elab.async false
set_option linter.all false
set_option maxRecDepth 100000
set_option maxHeartbeats 4000000
namespace K56
open PySem L2
def top (i:Nat):Stmt:=PySem.Challenge.pw_copymeet_k56_what_a_thing_holds.main.body.getD i (.Pass ⟨0,0,0,0⟩)
abbrev bsL:List Str:=["len","range","list","str","isinstance","sorted"]
abbrev cC (w:World) (K:PySem.W.Frag) (cl:Str->Option Addr):MC:=⟨K,cl,bsL,fun _ _ _=>False,w⟩
abbrev s_cell_at:Stmt:=top 9
theorem sc_cell_at:FnScope ["_law_script","_law_k"] ["_law_script","_law_k"] (defScope s_cell_at):=⟨rfl,rfl,rfl,by decide +kernel,rfl,by decide +kernel,by decide +kernel⟩
abbrev s_stream:Stmt:=top 10
theorem sc_stream:FnScope ["_law_cell","_law_many","_law_found","_law_number","_law_k"] ["_law_cell","_law_many"] (defScope s_stream):=⟨rfl,rfl,rfl,by decide +kernel,rfl,by decide +kernel,by decide +kernel⟩
abbrev s_hands:Stmt:=top 11
theorem sc_hands:FnScope ["_law_cell","_law_many","_law_letters","_law_xs","_law_stem","_law_at"] ["_law_cell","_law_many"] (defScope s_hands):=⟨rfl,rfl,rfl,by decide +kernel,rfl,by decide +kernel,by decide +kernel⟩
abbrev N_hands_c0:List Str:=["_law_x","_law_letters"]
theorem nd_hands_c0:(N_hands_c0).Nodup:=by decide +kernel
abbrev N_hands_c1:List Str:=["_law_k","_law_stem","_law_xs"]
theorem nd_hands_c1:(N_hands_c1).Nodup:=by decide +kernel
abbrev N_hands_c2:List Str:=["_law_k","_law_stem","_law_letters","_law_at","_law_xs"]
theorem nd_hands_c2:(N_hands_c2).Nodup:=by decide +kernel
abbrev s_Tree___init__:Stmt:=inClass (top 6) 0
theorem sc_Tree___init__:FnScope ["self"] ["self"] (defScope s_Tree___init__):=⟨rfl,rfl,rfl,by decide +kernel,rfl,by decide +kernel,by decide +kernel⟩
abbrev s_spot:Stmt:=top 12
theorem sc_spot:FnScope ["_law_x","_law_kind","_law_places"] ["_law_x","_law_kind","_law_places"] (defScope s_spot):=⟨rfl,rfl,rfl,by decide +kernel,rfl,by decide +kernel,by decide +kernel⟩
abbrev s_Tree_held:Stmt:=inClass (top 6) 7
theorem sc_Tree_held:FnScope ["self","thing"] ["self","thing"] (defScope s_Tree_held):=⟨rfl,rfl,rfl,by decide +kernel,rfl,by decide +kernel,by decide +kernel⟩
abbrev s_deed:Stmt:=top 14
theorem sc_deed:FnScope ["_law_cell","_law_name","_law_kinds","_law_tree","_law_xs","_law_names","_law_thing","_law_holders","_law_holder","_law_places","_law_spot_here","_law_act","_law_seen"] ["_law_cell","_law_name","_law_kinds","_law_tree"] (defScope s_deed):=⟨rfl,rfl,rfl,by decide +kernel,rfl,by decide +kernel,by decide +kernel⟩
abbrev N_deed_c0:List Str:=["_law_one","_law_kinds"]
theorem nd_deed_c0:(N_deed_c0).Nodup:=by decide +kernel
abbrev N_deed_c1:List Str:=["_law_one","_law_tree","_law_holder"]
theorem nd_deed_c1:(N_deed_c1).Nodup:=by decide +kernel
abbrev s_Tree_ring:Stmt:=inClass (top 6) 8
theorem sc_Tree_ring:FnScope ["self","thing","holder","way","upper"] ["self","thing","holder"] (defScope s_Tree_ring):=⟨rfl,rfl,rfl,by decide +kernel,rfl,by decide +kernel,by decide +kernel⟩
abbrev s_Tree_put:Stmt:=inClass (top 6) 5
theorem sc_Tree_put:FnScope ["self","thing","holder","spot"] ["self","thing","holder","spot"] (defScope s_Tree_put):=⟨rfl,rfl,rfl,by decide +kernel,rfl,by decide +kernel,by decide +kernel⟩
abbrev s_Tree_kind_of:Stmt:=inClass (top 6) 6
theorem sc_Tree_kind_of:FnScope ["self","thing"] ["self","thing"] (defScope s_Tree_kind_of):=⟨rfl,rfl,rfl,by decide +kernel,rfl,by decide +kernel,by decide +kernel⟩
abbrev s_Tree_takes:Stmt:=inClass (top 6) 4
theorem sc_Tree_takes:FnScope ["self","holder","spot"] ["self","holder","spot"] (defScope s_Tree_takes):=⟨rfl,rfl,rfl,by decide +kernel,rfl,by decide +kernel,by decide +kernel⟩
abbrev s_place_of:Stmt:=top 4
theorem sc_place_of:FnScope ["spot","name","under","side","hand","n"] ["spot","name"] (defScope s_place_of):=⟨rfl,rfl,rfl,by decide +kernel,rfl,by decide +kernel,by decide +kernel⟩
abbrev s_stand_of:Stmt:=top 7
theorem sc_stand_of:FnScope ["spot","name"] ["spot","name"] (defScope s_stand_of):=⟨rfl,rfl,rfl,by decide +kernel,rfl,by decide +kernel,by decide +kernel⟩
abbrev s_Tree_hear_move:Stmt:=inClass (top 6) 3
theorem sc_Tree_hear_move:FnScope ["self","name","act","word","thing","holder","spot"] ["self","name","act"] (defScope s_Tree_hear_move):=⟨rfl,rfl,rfl,by decide +kernel,rfl,by decide +kernel,by decide +kernel⟩
abbrev s_Tree_hear_make:Stmt:=inClass (top 6) 2
theorem sc_Tree_hear_make:FnScope ["self","name","act","word","kind","holder","spot"] ["self","name","act"] (defScope s_Tree_hear_make):=⟨rfl,rfl,rfl,by decide +kernel,rfl,by decide +kernel,by decide +kernel⟩
abbrev s_Tree_hear:Stmt:=inClass (top 6) 1
theorem sc_Tree_hear:FnScope ["self","deed","name","seen","act"] ["self","deed"] (defScope s_Tree_hear):=⟨rfl,rfl,rfl,by decide +kernel,rfl,by decide +kernel,by decide +kernel⟩
abbrev s_rank_of:Stmt:=top 3
theorem sc_rank_of:FnScope ["place"] ["place"] (defScope s_rank_of):=⟨rfl,rfl,rfl,by decide +kernel,rfl,by decide +kernel,by decide +kernel⟩
abbrev s_Tree_within:Stmt:=inClass (top 6) 9
theorem sc_Tree_within:FnScope ["self","thing","spots"] ["self","thing"] (defScope s_Tree_within):=⟨rfl,rfl,rfl,by decide +kernel,rfl,by decide +kernel,by decide +kernel⟩
abbrev N_Tree_within_c0:List Str:=["inner","row","thing"]
theorem nd_Tree_within_c0:(N_Tree_within_c0).Nodup:=by decide +kernel
abbrev N_Tree_within_c1:List Str:=["place","inner"]
theorem nd_Tree_within_c1:(N_Tree_within_c1).Nodup:=by decide +kernel
abbrev N_Tree_within_c2:List Str:=["spot","inner"]
theorem nd_Tree_within_c2:(N_Tree_within_c2).Nodup:=by decide +kernel
abbrev s_behind:Stmt:=top 13
theorem sc_behind:FnScope ["_law_one","_law_other","_law_k"] ["_law_one","_law_other"] (defScope s_behind):=⟨rfl,rfl,rfl,by decide +kernel,rfl,by decide +kernel,by decide +kernel⟩
abbrev s_in_order:Stmt:=top 15
theorem sc_in_order:FnScope ["_law_tree","_law_found","_law_kind","_law_spots","_law_k"] ["_law_tree","_law_found","_law_kind"] (defScope s_in_order):=⟨rfl,rfl,rfl,by decide +kernel,rfl,by decide +kernel,by decide +kernel⟩
abbrev N_in_order_c0:List Str:=["_law_one","_law_tree"]
theorem nd_in_order_c0:(N_in_order_c0).Nodup:=by decide +kernel
abbrev s_law:Stmt:=top 16
theorem sc_law:FnScope ["_law_script","_law_first","_law_hands_here","_law_tree","_law_kinds","_law_many","_law_cell","_law_hand","_law_deed_here","_law_things","_law_holder","_law_found","_law_kept"] ["_law_script"] (defScope s_law):=⟨rfl,rfl,rfl,by decide +kernel,rfl,by decide +kernel,by decide +kernel⟩
abbrev N_law_c0:List Str:=["_law_one","_law_holder","_law_tree"]
theorem nd_law_c0:(N_law_c0).Nodup:=by decide +kernel
section
variable {P:Program} {w:World} {K:PySem.W.Frag} {mg:Str->Option Value} {base:Heap} {cl:Str->Option Addr}
theorem ok_cell_at {f:Addr} {fd:FuncData} (hbn:∀ x∈bsL,mg x=none) (F:Fun K "_law_cell_at" "_law_cell_at" s_cell_at f fd):FnOk P w K mg base CX0 1 f fd ["_law_script","_law_k"] (spM (cC w K cl) 2 m_cell_at):=
 fn_ok (C:=cC w K cl) (k:=0) (N:=["_law_script","_law_k"]) (body:=b_cell_at) (fun _ _ _ h=>h) hbn F sc_cell_at fun cdv A outer s H E=>
 (zz_cons (z_if (t_cmp o_less (s_var 1) (s_callB b_len PyProof.Rows.Boot.«len» (a_cons (s_var 0) a_nil) (hb:=(.head _))))
  (zz_one (z_ret (s_at (s_var 0) (s_var 1))))
  zz_nil)
 (zz_one (z_ret s_int)))
theorem ok_stream {f:Addr} {fd:FuncData} (hbn:∀ x∈bsL,mg x=none) (F:Fun K "_law_stream" "_law_stream" s_stream f fd):FnOk P w K mg base CX0 1 f fd ["_law_cell","_law_many"] (spM (cC w K cl) 2 m_stream):=
 fn_ok (C:=cC w K cl) (k:=0) (N:=["_law_cell","_law_many","_law_found","_law_number","_law_k"]) (body:=b_stream) (fun _ _ _ h=>h) hbn F sc_stream fun cdv A outer s H E=>
 (zz_cons (z_set (i:=2) sc_stream.nd (s_lst a_nil))
 (zz_cons (z_set (i:=3) sc_stream.nd (s_bin o_plus (s_bin o_mod (s_var 0) s_int) s_int))
 (zz_cons (z_for (i_rng1 (a_cons (s_bin o_plus (s_var 1) s_int) a_nil) (hb:=(.tail _ (.head _)))) (g_name sc_stream.nd)
  (zz_cons (z_set (i:=3) sc_stream.nd (s_bin o_mod (s_bin o_plus (s_bin o_plus (s_bin o_mul (s_var 3) (s_var 3)) (s_bin o_mul s_int (s_var 3))) (s_var 4)) s_int))
  (zz_one (z_exp (s_mt PySem.F.plainAttrs_list PySem.F.slot_list_append PySem.F.type_list_append m_append (s_var 2) (a_cons (s_var 3) a_nil))))))
 (zz_one (z_ret (s_sl (s_var 2) (o_some s_int) o_none))))))
theorem ok_hands {f:Addr} {fd:FuncData} (hbn:∀ x∈bsL,mg x=none) (F:Fun K "_law_hands" "_law_hands" s_hands f fd) {a_stream:Addr} {fd_stream:FuncData} (D_stream:Def K mg "_law_stream" s_stream a_stream fd_stream ["_law_cell","_law_many"]) (G_stream:FnOk P w K mg base CX0 1 a_stream fd_stream ["_law_cell","_law_many"] (spM (cC w K cl) 2 m_stream)):FnOk P w K mg base CX0 2 f fd ["_law_cell","_law_many"] (spM (cC w K cl) 2 m_hands):=
 fn_ok (C:=cC w K cl) (k:=1) (N:=["_law_cell","_law_many","_law_letters","_law_xs","_law_stem","_law_at"]) (body:=b_hands) (fun _ _ _ h=>h) hbn F sc_hands fun cdv A outer s H E=>
 (zz_cons (z_set (i:=2) sc_hands.nd s_str)
 (zz_cons (z_set (i:=3) sc_hands.nd (s_call D_stream G_stream (a_cons (s_var 0) (a_cons s_int a_nil))))
 (zz_cons (z_set (i:=4) sc_hands.nd (s_mg PySem.F.plainAttrs_str PySem.F.slot_str_join PySem.F.type_str_join m_join s_str (a_cons (s_comp (js:=[none,some 2]) (N:=N_hands_c0) rfl rfl (by rfl) (i_seq (s_sl (s_var 3) o_none (o_some s_int))) (fun _ _ _ _=>(g_name nd_hands_c0)) (fun _ _ _ _=>ts_nil) (fun _ _ _ _=>(s_at (s_var 1) (s_bin o_mod (s_var 0) s_int)))) a_nil)))
 (zz_cons (z_if (t_cmp o_eq (s_bin o_mod (s_var 0) s_int) s_int)
  (zz_one (z_ret (s_comp (js:=[none,some 4,some 3]) (N:=N_hands_c1) rfl rfl (by rfl) (i_rng1 (a_cons (s_var 1) a_nil) (hb:=(.tail _ (.head _)))) (fun _ _ _ _=>(g_name nd_hands_c1)) (fun _ _ _ _=>ts_nil) (fun _ _ _ _=>(s_sl (s_var 1) o_none (o_some (s_bin o_plus s_int (s_bin o_mod (s_bin o_plus (s_var 0) (s_at (s_var 2) s_int)) s_int))))))))
  zz_nil)
 (zz_cons (z_set (i:=4) sc_hands.nd (s_sl (s_var 4) o_none (o_some (s_bin o_plus s_int (s_bin o_mod (s_at (s_var 3) s_int) s_int)))))
 (zz_cons (z_set (i:=5) sc_hands.nd (s_bin o_mod (s_at (s_var 3) s_int) (s_callB b_len PyProof.Rows.Boot.«len» (a_cons (s_var 4) a_nil) (hb:=(.head _)))))
 (zz_one (z_ret (s_comp (js:=[none,some 4,some 2,some 5,some 3]) (N:=N_hands_c2) rfl rfl (by rfl) (i_rng1 (a_cons (s_var 1) a_nil) (hb:=(.tail _ (.head _)))) (fun _ _ _ _=>(g_name nd_hands_c2)) (fun _ _ _ _=>ts_nil) (fun _ _ _ _=>(s_bin o_plus (s_bin o_plus (s_sl (s_var 1) o_none (o_some (s_var 3))) (s_at (s_var 2) (s_bin o_mod (s_bin o_plus (s_bin o_div (s_at (s_var 4) s_int) s_int) (s_bin o_mul s_int (s_var 0))) s_int))) (s_sl (s_var 1) (o_some (s_bin o_plus (s_var 3) s_int)) o_none))))))))))))
theorem ok_Tree___init__ {f:Addr} {fd:FuncData} (hbn:∀ x∈bsL,mg x=none) (F:Fun K "__init__" "Tree.__init__" s_Tree___init__ f fd) (FF_failed:FdOk (cC w K cl) "failed") (FF_made:FdOk (cC w K cl) "made"):FnOk P w K mg base CX0 1 f fd ["self"] (spM (cC w K cl) 1 m_Tree___init__):=
 fn_ok (C:=cC w K cl) (k:=0) (N:=["self"]) (body:=b_Tree___init__) (fun _ _ _ h=>h) hbn F sc_Tree___init__ fun cdv A outer s H E=>
 (zz_cons (z_fld FF_made s_dict0 (s_var 0))
 (zz_one (z_fld FF_failed (s_lst a_nil) (s_var 0))))
theorem ok_spot {f:Addr} {fd:FuncData} (hbn:∀ x∈bsL,mg x=none) (F:Fun K "_law_spot" "_law_spot" s_spot f fd):FnOk P w K mg base CX0 1 f fd ["_law_x","_law_kind","_law_places"] (spM (cC w K cl) 3 m_spot):=
 fn_ok (C:=cC w K cl) (k:=0) (N:=["_law_x","_law_kind","_law_places"]) (body:=b_spot) (fun _ _ _ h=>h) hbn F sc_spot fun cdv A outer s H E=>
 (zz_cons (z_if (t_cmp o_eq (s_var 1) s_str)
  (zz_one (z_ret (s_at (s_lst (a_cons s_str (a_cons s_str (a_cons s_str (a_cons s_str (a_cons s_str (a_cons s_str a_nil))))))) (s_bin o_mod (s_var 0) s_int))))
  zz_nil)
 (zz_cons (z_if (SW.t (w_or (t_cmp o_eq (s_var 2) (s_lst a_nil)) (w_or1 (t_cmp o_eq (s_bin o_mod (s_var 0) s_int) s_int))))
  (zz_one (z_ret (s_tup (a_cons (s_tup a_nil) (a_cons s_int a_nil)))))
  zz_nil)
 (zz_one (z_ret (s_tup (a_cons (s_at (s_var 2) (s_bin o_mod (s_bin o_div (s_var 0) s_int) (s_callB b_len PyProof.Rows.Boot.«len» (a_cons (s_var 2) a_nil) (hb:=(.head _))))) (a_cons (s_bin o_sub (s_bin o_mul (s_bin o_mod (s_bin o_div (s_var 0) s_int) s_int) s_int) s_int) a_nil)))))))
theorem ok_Tree_held {f:Addr} {fd:FuncData} (hbn:∀ x∈bsL,mg x=none) (F:Fun K "held" "Tree.held" s_Tree_held f fd) (FF_made:FdOk (cC w K cl) "made"):FnOk P w K mg base CX0 1 f fd ["self","thing"] (spM (cC w K cl) 2 m_Tree_held):=
 fn_ok (C:=cC w K cl) (k:=0) (N:=["self","thing"]) (body:=b_Tree_held) (fun _ _ _ h=>h) hbn F sc_Tree_held fun cdv A outer s H E=>
 (zz_one (z_ret (s_ifExp (t_cmp o_hasN (s_var 1) (s_fld FF_made (s_var 0))) (s_sl (s_at (s_fld FF_made (s_var 0)) (s_var 1)) (o_some s_int) o_none) s_non)))
theorem ok_deed {f:Addr} {fd:FuncData} (hbn:∀ x∈bsL,mg x=none) (F:Fun K "_law_deed" "_law_deed" s_deed f fd) {a_stream:Addr} {fd_stream:FuncData} (D_stream:Def K mg "_law_stream" s_stream a_stream fd_stream ["_law_cell","_law_many"]) (G_stream:FnOk P w K mg base CX0 1 a_stream fd_stream ["_law_cell","_law_many"] (spM (cC w K cl) 2 m_stream)) {a_spot:Addr} {fd_spot:FuncData} (D_spot:Def K mg "_law_spot" s_spot a_spot fd_spot ["_law_x","_law_kind","_law_places"]) (G_spot:FnOk P w K mg base CX0 1 a_spot fd_spot ["_law_x","_law_kind","_law_places"] (spM (cC w K cl) 3 m_spot)) {a_Tree:Addr} (CL_Tree:cl "Tree" = some a_Tree) (HC_Tree:Cls K a_Tree) {g_Tree_held:Addr} {fd_Tree_held:FuncData} (ME_Tree_held:Meth K a_Tree "held" g_Tree_held) (G_Tree_held:FnOk P w K mg base CX0 1 g_Tree_held fd_Tree_held ["self","thing"] (spM (cC w K cl) 2 m_Tree_held)) (B_Tree_held:Binds K fd_Tree_held ["self","thing"] []):FnOk P w K mg base CX0 2 f fd ["_law_cell","_law_name","_law_kinds","_law_tree"] (spM (cC w K cl) 4 m_deed):=
 fn_ok (C:=cC w K cl) (k:=1) (N:=["_law_cell","_law_name","_law_kinds","_law_tree","_law_xs","_law_names","_law_thing","_law_holders","_law_holder","_law_places","_law_spot_here","_law_act","_law_seen"]) (body:=b_deed) (fun _ _ _ h=>h) hbn F sc_deed fun cdv A outer s H E=>
 (zz_cons (z_set (i:=4) sc_deed.nd (s_call D_stream G_stream (a_cons (s_var 0) (a_cons s_int a_nil))))
 (zz_cons (z_set (i:=5) sc_deed.nd (s_callTy b_listKP PyProof.Rows.Boot.«list» (a_cons (s_var 2) a_nil) (hb:=(.tail _ (.tail _ (.head _))))))
 (zz_cons (z_set (i:=6) sc_deed.nd (s_at (s_var 5) (s_bin o_mod (s_at (s_var 4) s_int) (s_callB b_len PyProof.Rows.Boot.«len» (a_cons (s_var 5) a_nil) (hb:=(.head _))))))
 (zz_cons (z_setcomp (i:=7) sc_deed.nd rfl rfl (js:=[none,some 2]) (N:=N_deed_c0) rfl rfl (by rfl) (i_seq (s_var 5)) (fun _ _ _ _=>(g_name nd_deed_c0)) (fun _ _ _ _=>(ts_one (t_cmp o_ne (s_at (s_var 1) (s_var 0)) s_str))) (fun _ _ _ _=>(s_var 0)))
 (zz_cons (z_if (t_cmp o_eq (s_bin o_mod (s_at (s_var 4) s_int) s_int) s_int)
  (zz_one (z_set (i:=7) sc_deed.nd (s_sl (s_var 7) o_none (o_some s_int))))
  zz_nil)
 (zz_cons (z_set (i:=8) sc_deed.nd (s_at (s_var 7) (s_bin o_mod (s_at (s_var 4) s_int) (s_callB b_len PyProof.Rows.Boot.«len» (a_cons (s_var 7) a_nil) (hb:=(.head _))))))
 (zz_cons (z_setcomp (i:=9) sc_deed.nd rfl rfl (js:=[none,some 3,some 8]) (N:=N_deed_c1) rfl rfl (by rfl) (i_seq (s_sl (s_var 5) (o_some s_int) o_none)) (fun _ _ _ _=>(g_name nd_deed_c1)) (fun _ _ _ _=>(ts_one (t_cmp o_eq (s_at (s_meth (tb:=tb_deed_1) (mt_cons CL_Tree HC_Tree ME_Tree_held (by decide) G_Tree_held B_Tree_held mt_nil) (s_var 1) (a_cons (s_var 0) a_nil)) s_int) (s_var 2)))) (fun _ _ _ _=>(s_at (s_meth (tb:=tb_deed_0) (mt_cons CL_Tree HC_Tree ME_Tree_held (by decide) G_Tree_held B_Tree_held mt_nil) (s_var 1) (a_cons (s_var 0) a_nil)) s_int)))
 (zz_cons (z_set (i:=10) sc_deed.nd (s_call D_spot G_spot (a_cons (s_at (s_var 4) s_int) (a_cons (s_at (s_var 2) (s_var 8)) (a_cons (s_var 9) a_nil)))))
 (zz_cons (z_set (i:=11) sc_deed.nd (s_tup (a_cons s_str (a_cons (s_var 6) (a_cons (s_var 8) (a_cons (s_var 10) a_nil))))))
 (zz_cons (z_if (t_cmp o_less (s_bin o_mod (s_at (s_var 4) s_int) s_int) s_int)
  (zz_one (z_set (i:=11) sc_deed.nd (s_tup (a_cons s_str (a_cons (s_at (s_lst (a_cons s_str (a_cons s_str (a_cons s_str (a_cons s_str a_nil))))) (s_bin o_mod (s_at (s_var 4) s_int) s_int)) (a_cons (s_var 8) (a_cons (s_var 10) a_nil)))))))
  zz_nil)
 (zz_cons (z_if (t_cmp o_eq (s_bin o_mod (s_at (s_var 4) s_int) s_int) s_int)
  (zz_one (z_set (i:=11) sc_deed.nd (s_tup (a_cons s_str (a_cons (s_var 6) a_nil)))))
  zz_nil)
 (zz_cons (z_set (i:=12) sc_deed.nd (s_tup a_nil))
 (zz_cons (z_if (t_cmp o_gt (s_at (s_var 1) s_int) s_int)
  (zz_one (z_set (i:=12) sc_deed.nd (s_tup (a_cons (s_tup (a_cons (s_at (s_var 1) s_int) (a_cons (s_bin o_sub (s_at (s_var 1) s_int) s_int) a_nil))) a_nil))))
  zz_nil)
 (zz_one (z_ret (s_tup (a_cons (s_var 1) (a_cons (s_var 12) (a_cons (s_var 11) a_nil)))))))))))))))))))
theorem ok_Tree_ring {f:Addr} {fd:FuncData} (hbn:∀ x∈bsL,mg x=none) (F:Fun K "ring" "Tree.ring" s_Tree_ring f fd) (FF_made:FdOk (cC w K cl) "made"):FnOk P w K mg base CX0 1 f fd ["self","thing","holder"] (spM (cC w K cl) 3 m_Tree_ring):=
 fn_ok (C:=cC w K cl) (k:=0) (N:=["self","thing","holder","way","upper"]) (body:=b_Tree_ring) (fun _ _ _ h=>h) hbn F sc_Tree_ring fun cdv A outer s H E=>
 (zz_cons (z_set (i:=3) sc_Tree_ring.nd (s_lst a_nil))
 (zz_cons (z_set (i:=4) sc_Tree_ring.nd (s_var 2))
 (zz_cons (z_while (t_cmp o_hasN (s_var 4) (s_fld FF_made (s_var 0)))
  (zz_cons (z_exp (s_mt PySem.F.plainAttrs_list PySem.F.slot_list_append PySem.F.type_list_append m_append (s_var 3) (a_cons (s_var 4) a_nil)))
  (zz_cons (z_if (t_cmp o_eq (s_var 4) (s_var 1))
   (zz_one (z_ret (s_var 3)))
   zz_nil)
  (zz_one (z_set (i:=4) sc_Tree_ring.nd (s_at (s_at (s_fld FF_made (s_var 0)) (s_var 4)) s_int))))))
 (zz_one (z_ret (s_lst a_nil))))))
theorem ok_Tree_put {f:Addr} {fd:FuncData} (hbn:∀ x∈bsL,mg x=none) (F:Fun K "put" "Tree.put" s_Tree_put f fd) (FF_made:FdOk (cC w K cl) "made"):FnOk P w K mg base CX0 1 f fd ["self","thing","holder","spot"] (spM (cC w K cl) 4 m_Tree_put):=
 fn_ok (C:=cC w K cl) (k:=0) (N:=["self","thing","holder","spot"]) (body:=b_Tree_put) (fun _ _ _ h=>h) hbn F sc_Tree_put fun cdv A outer s H E=>
 (zz_one (z_putL (s_tup (a_cons (s_at (s_at (s_fld FF_made (s_var 0)) (s_var 1)) s_int) (a_cons (s_var 2) (a_cons (s_var 3) a_nil)))) (s_fld FF_made (s_var 0)) (s_var 1)))
theorem ok_Tree_kind_of {f:Addr} {fd:FuncData} (hbn:∀ x∈bsL,mg x=none) (F:Fun K "kind_of" "Tree.kind_of" s_Tree_kind_of f fd) {a_ROOT:Addr} (MG_ROOT:mg "ROOT" = some (.ref a_ROOT)) (GT_ROOT:GTup K a_ROOT [.str "",.int (0)]) (FF_made:FdOk (cC w K cl) "made"):FnOk P w K mg base CX0 1 f fd ["self","thing"] (spM (cC w K cl) 2 m_Tree_kind_of):=
 fn_ok (C:=cC w K cl) (k:=0) (N:=["self","thing"]) (body:=b_Tree_kind_of) (fun _ _ _ h=>h) hbn F sc_Tree_kind_of fun cdv A outer s H E=>
 (zz_cons (z_if (t_cmp o_eq (s_var 1) (s_gtup MG_ROOT GT_ROOT))
  (zz_one (z_ret s_str))
  zz_nil)
 (zz_one (z_ret (s_ifExp (t_cmp o_hasN (s_var 1) (s_fld FF_made (s_var 0))) (s_at (s_at (s_fld FF_made (s_var 0)) (s_var 1)) s_int) s_non))))
theorem ok_Tree_takes {f:Addr} {fd:FuncData} (hbn:∀ x∈bsL,mg x=none) (F:Fun K "takes" "Tree.takes" s_Tree_takes f fd) {a_Tree:Addr} (CL_Tree:cl "Tree" = some a_Tree) (HC_Tree:Cls K a_Tree) {g_Tree_kind_of:Addr} {fd_Tree_kind_of:FuncData} (ME_Tree_kind_of:Meth K a_Tree "kind_of" g_Tree_kind_of) (G_Tree_kind_of:FnOk P w K mg base CX0 1 g_Tree_kind_of fd_Tree_kind_of ["self","thing"] (spM (cC w K cl) 2 m_Tree_kind_of)) (B_Tree_kind_of:Binds K fd_Tree_kind_of ["self","thing"] []):FnOk P w K mg base CX0 2 f fd ["self","holder","spot"] (spM (cC w K cl) 3 m_Tree_takes):=
 fn_ok (C:=cC w K cl) (k:=1) (N:=["self","holder","spot"]) (body:=b_Tree_takes) (fun _ _ _ h=>h) hbn F sc_Tree_takes fun cdv A outer s H E=>
 (zz_one (z_ret (s_cmp o_eq (s_meth (tb:=tb_Tree_takes_0) (mt_cons CL_Tree HC_Tree ME_Tree_kind_of (by decide) G_Tree_kind_of B_Tree_kind_of mt_nil) (s_var 0) (a_cons (s_var 1) a_nil)) (s_ifExp (t_val (s_callB b_isinstance PyProof.Rows.Boot.«isinstance» (a_cons (s_var 2) (a_cons (s_bltn (n:="str") PyProof.Rows.Boot.«str» (hb:=(.tail _ (.tail _ (.tail _ (.head _)))))) a_nil)) (hb:=(.tail _ (.tail _ (.tail _ (.tail _ (.head _)))))))) s_str s_str))))
theorem ok_place_of {f:Addr} {fd:FuncData} (hbn:∀ x∈bsL,mg x=none) (F:Fun K "place_of" "place_of" s_place_of f fd):FnOk P w K mg base CX0 1 f fd ["spot","name"] (spM (cC w K cl) 2 m_place_of):=
 fn_ok (C:=cC w K cl) (k:=0) (N:=["spot","name","under","side","hand","n"]) (body:=b_place_of) (fun _ _ _ h=>h) hbn F sc_place_of fun cdv A outer s H E=>
 (zz_cons (z_asg (s_var 0) (g_tup (g_cons (g_name sc_place_of.nd) (g_cons (g_name sc_place_of.nd) g_nil))))
 (zz_cons (z_asg (s_var 1) (g_tup (g_cons (g_name sc_place_of.nd) (g_cons (g_name sc_place_of.nd) g_nil))))
 (zz_one (z_ret (s_bin o_plus (s_var 2) (s_tup (a_cons (s_tup (a_cons (s_var 3) (a_cons (s_var 4) (a_cons (s_var 5) (a_cons s_int a_nil))))) a_nil)))))))
theorem ok_stand_of {f:Addr} {fd:FuncData} (hbn:∀ x∈bsL,mg x=none) (F:Fun K "stand_of" "stand_of" s_stand_of f fd) {a_place_of:Addr} {fd_place_of:FuncData} (D_place_of:Def K mg "place_of" s_place_of a_place_of fd_place_of ["spot","name"]) (G_place_of:FnOk P w K mg base CX0 1 a_place_of fd_place_of ["spot","name"] (spM (cC w K cl) 2 m_place_of)):FnOk P w K mg base CX0 2 f fd ["spot","name"] (spM (cC w K cl) 2 m_stand_of):=
 fn_ok (C:=cC w K cl) (k:=1) (N:=["spot","name"]) (body:=b_stand_of) (fun _ _ _ h=>h) hbn F sc_stand_of fun cdv A outer s H E=>
 (zz_one (z_ret (s_ifExp (t_val (s_callB b_isinstance PyProof.Rows.Boot.«isinstance» (a_cons (s_var 0) (a_cons (s_bltn (n:="str") PyProof.Rows.Boot.«str» (hb:=(.tail _ (.tail _ (.tail _ (.head _)))))) a_nil)) (hb:=(.tail _ (.tail _ (.tail _ (.tail _ (.head _)))))))) (s_var 0) (s_call D_place_of G_place_of (a_cons (s_var 0) (a_cons (s_var 1) a_nil))))))
theorem ok_Tree_hear_move {f:Addr} {fd:FuncData} (hbn:∀ x∈bsL,mg x=none) (F:Fun K "hear_move" "Tree.hear_move" s_Tree_hear_move f fd) {a_stand_of:Addr} {fd_stand_of:FuncData} (D_stand_of:Def K mg "stand_of" s_stand_of a_stand_of fd_stand_of ["spot","name"]) (G_stand_of:FnOk P w K mg base CX0 2 a_stand_of fd_stand_of ["spot","name"] (spM (cC w K cl) 2 m_stand_of)) {a_Tree:Addr} (CL_Tree:cl "Tree" = some a_Tree) (HC_Tree:Cls K a_Tree) {g_Tree_put:Addr} {fd_Tree_put:FuncData} (ME_Tree_put:Meth K a_Tree "put" g_Tree_put) (G_Tree_put:FnOk P w K mg base CX0 1 g_Tree_put fd_Tree_put ["self","thing","holder","spot"] (spM (cC w K cl) 4 m_Tree_put)) (B_Tree_put:Binds K fd_Tree_put ["self","thing","holder","spot"] []) {g_Tree_ring:Addr} {fd_Tree_ring:FuncData} (ME_Tree_ring:Meth K a_Tree "ring" g_Tree_ring) (G_Tree_ring:FnOk P w K mg base CX0 1 g_Tree_ring fd_Tree_ring ["self","thing","holder"] (spM (cC w K cl) 3 m_Tree_ring)) (B_Tree_ring:Binds K fd_Tree_ring ["self","thing","holder"] []) {g_Tree_takes:Addr} {fd_Tree_takes:FuncData} (ME_Tree_takes:Meth K a_Tree "takes" g_Tree_takes) (G_Tree_takes:FnOk P w K mg base CX0 2 g_Tree_takes fd_Tree_takes ["self","holder","spot"] (spM (cC w K cl) 3 m_Tree_takes)) (B_Tree_takes:Binds K fd_Tree_takes ["self","holder","spot"] []) (FF_failed:FdOk (cC w K cl) "failed"):FnOk P w K mg base CX0 3 f fd ["self","name","act"] (spM (cC w K cl) 3 m_Tree_hear_move):=
 fn_ok (C:=cC w K cl) (k:=2) (N:=["self","name","act","word","thing","holder","spot"]) (body:=b_Tree_hear_move) (fun _ _ _ h=>h) hbn F sc_Tree_hear_move fun cdv A outer s H E=>
 (zz_cons (z_asg (s_var 2) (g_tup (g_cons (g_name sc_Tree_hear_move.nd) (g_cons (g_name sc_Tree_hear_move.nd) (g_cons (g_name sc_Tree_hear_move.nd) (g_cons (g_name sc_Tree_hear_move.nd) g_nil))))))
 (zz_cons (z_if (t_not (t_val (s_meth (tb:=tb_Tree_hear_move_0) (mt_cons CL_Tree HC_Tree ME_Tree_takes (by decide) G_Tree_takes B_Tree_takes mt_nil) (s_var 0) (a_cons (s_var 5) (a_cons (s_var 6) a_nil)))))
  (zz_one (z_ret s_str))
  zz_nil)
 (zz_cons (z_if (t_val (s_meth (tb:=tb_Tree_hear_move_1) (mt_cons CL_Tree HC_Tree ME_Tree_ring (by decide) G_Tree_ring B_Tree_ring mt_nil) (s_var 0) (a_cons (s_var 4) (a_cons (s_var 5) a_nil))))
  (zz_cons (z_exp (s_mt PySem.F.plainAttrs_list PySem.F.slot_list_append PySem.F.type_list_append m_append (s_fld FF_failed (s_var 0)) (a_cons (s_var 1) a_nil)))
  (zz_one (z_ret s_str)))
  zz_nil)
 (zz_cons (z_exp (s_meth (tb:=tb_Tree_hear_move_2) (mt_cons CL_Tree HC_Tree ME_Tree_put (by decide) G_Tree_put B_Tree_put mt_nil) (s_var 0) (a_cons (s_var 4) (a_cons (s_var 5) (a_cons (s_call D_stand_of G_stand_of (a_cons (s_var 6) (a_cons (s_var 1) a_nil))) a_nil)))))
 (zz_one (z_ret s_str))))))
theorem ok_Tree_hear_make {f:Addr} {fd:FuncData} (hbn:∀ x∈bsL,mg x=none) (F:Fun K "hear_make" "Tree.hear_make" s_Tree_hear_make f fd) {a_stand_of:Addr} {fd_stand_of:FuncData} (D_stand_of:Def K mg "stand_of" s_stand_of a_stand_of fd_stand_of ["spot","name"]) (G_stand_of:FnOk P w K mg base CX0 2 a_stand_of fd_stand_of ["spot","name"] (spM (cC w K cl) 2 m_stand_of)) {a_Tree:Addr} (CL_Tree:cl "Tree" = some a_Tree) (HC_Tree:Cls K a_Tree) {g_Tree_takes:Addr} {fd_Tree_takes:FuncData} (ME_Tree_takes:Meth K a_Tree "takes" g_Tree_takes) (G_Tree_takes:FnOk P w K mg base CX0 2 g_Tree_takes fd_Tree_takes ["self","holder","spot"] (spM (cC w K cl) 3 m_Tree_takes)) (B_Tree_takes:Binds K fd_Tree_takes ["self","holder","spot"] []) (FF_made:FdOk (cC w K cl) "made"):FnOk P w K mg base CX0 3 f fd ["self","name","act"] (spM (cC w K cl) 3 m_Tree_hear_make):=
 fn_ok (C:=cC w K cl) (k:=2) (N:=["self","name","act","word","kind","holder","spot"]) (body:=b_Tree_hear_make) (fun _ _ _ h=>h) hbn F sc_Tree_hear_make fun cdv A outer s H E=>
 (zz_cons (z_asg (s_var 2) (g_tup (g_cons (g_name sc_Tree_hear_make.nd) (g_cons (g_name sc_Tree_hear_make.nd) (g_cons (g_name sc_Tree_hear_make.nd) (g_cons (g_name sc_Tree_hear_make.nd) g_nil))))))
 (zz_cons (z_if (t_not (t_val (s_meth (tb:=tb_Tree_hear_make_0) (mt_cons CL_Tree HC_Tree ME_Tree_takes (by decide) G_Tree_takes B_Tree_takes mt_nil) (s_var 0) (a_cons (s_var 5) (a_cons (s_var 6) a_nil)))))
  (zz_one (z_ret s_str))
  zz_nil)
 (zz_cons (z_putL (s_tup (a_cons (s_var 4) (a_cons (s_var 5) (a_cons (s_call D_stand_of G_stand_of (a_cons (s_var 6) (a_cons (s_var 1) a_nil))) a_nil)))) (s_fld FF_made (s_var 0)) (s_var 1))
 (zz_one (z_ret s_str)))))
theorem ok_Tree_hear {f:Addr} {fd:FuncData} (hbn:∀ x∈bsL,mg x=none) (F:Fun K "hear" "Tree.hear" s_Tree_hear f fd) {a_Tree:Addr} (CL_Tree:cl "Tree" = some a_Tree) (HC_Tree:Cls K a_Tree) {g_Tree_hear_make:Addr} {fd_Tree_hear_make:FuncData} (ME_Tree_hear_make:Meth K a_Tree "hear_make" g_Tree_hear_make) (G_Tree_hear_make:FnOk P w K mg base CX0 3 g_Tree_hear_make fd_Tree_hear_make ["self","name","act"] (spM (cC w K cl) 3 m_Tree_hear_make)) (B_Tree_hear_make:Binds K fd_Tree_hear_make ["self","name","act"] []) {g_Tree_hear_move:Addr} {fd_Tree_hear_move:FuncData} (ME_Tree_hear_move:Meth K a_Tree "hear_move" g_Tree_hear_move) (G_Tree_hear_move:FnOk P w K mg base CX0 3 g_Tree_hear_move fd_Tree_hear_move ["self","name","act"] (spM (cC w K cl) 3 m_Tree_hear_move)) (B_Tree_hear_move:Binds K fd_Tree_hear_move ["self","name","act"] []) {g_Tree_put:Addr} {fd_Tree_put:FuncData} (ME_Tree_put:Meth K a_Tree "put" g_Tree_put) (G_Tree_put:FnOk P w K mg base CX0 1 g_Tree_put fd_Tree_put ["self","thing","holder","spot"] (spM (cC w K cl) 4 m_Tree_put)) (B_Tree_put:Binds K fd_Tree_put ["self","thing","holder","spot"] []) (FF_made:FdOk (cC w K cl) "made"):FnOk P w K mg base CX0 4 f fd ["self","deed"] (spM (cC w K cl) 2 m_Tree_hear):=
 fn_ok (C:=cC w K cl) (k:=3) (N:=["self","deed","name","seen","act"]) (body:=b_Tree_hear) (fun _ _ _ h=>h) hbn F sc_Tree_hear fun cdv A outer s H E=>
 (zz_cons (z_asg (s_var 1) (g_tup (g_cons (g_name sc_Tree_hear.nd) (g_cons (g_name sc_Tree_hear.nd) (g_cons (g_name sc_Tree_hear.nd) g_nil)))))
 (zz_cons (z_if (t_cmp o_eq (s_at (s_var 4) s_int) s_str)
  (zz_one (z_ret (s_meth (tb:=tb_Tree_hear_0) (mt_cons CL_Tree HC_Tree ME_Tree_hear_make (by decide) G_Tree_hear_make B_Tree_hear_make mt_nil) (s_var 0) (a_cons (s_var 2) (a_cons (s_var 4) a_nil)))))
  zz_nil)
 (zz_cons (z_if (t_cmp o_hasNotN (s_at (s_var 4) s_int) (s_fld FF_made (s_var 0)))
  (zz_one (z_ret s_str))
  zz_nil)
 (zz_cons (z_if (t_cmp o_eq (s_at (s_var 4) s_int) s_str)
  (zz_cons (z_exp (s_meth (tb:=tb_Tree_hear_1) (mt_cons CL_Tree HC_Tree ME_Tree_put (by decide) G_Tree_put B_Tree_put mt_nil) (s_var 0) (a_cons (s_at (s_var 4) s_int) (a_cons s_non (a_cons s_non a_nil)))))
  (zz_one (z_ret s_str)))
  zz_nil)
 (zz_one (z_ret (s_meth (tb:=tb_Tree_hear_2) (mt_cons CL_Tree HC_Tree ME_Tree_hear_move (by decide) G_Tree_hear_move B_Tree_hear_move mt_nil) (s_var 0) (a_cons (s_var 2) (a_cons (s_var 4) a_nil)))))))))
theorem ok_rank_of {f:Addr} {fd:FuncData} (hbn:∀ x∈bsL,mg x=none) (F:Fun K "rank_of" "rank_of" s_rank_of f fd):FnOk P w K mg base CX0 1 f fd ["place"] (spM (cC w K cl) 1 m_rank_of):=
 fn_ok (C:=cC w K cl) (k:=0) (N:=["place"]) (body:=b_rank_of) (fun _ _ _ h=>h) hbn F sc_rank_of fun cdv A outer s H E=>
 (zz_one (z_ret (s_bin o_plus (s_var 0) (s_tup (a_cons (s_tup (a_cons s_int a_nil)) a_nil)))))
theorem ok_Tree_within {f:Addr} {fd:FuncData} (hbn:∀ x∈bsL,mg x=none) (F:Fun K "within" "Tree.within" s_Tree_within f fd) {a_rank_of:Addr} {fd_rank_of:FuncData} (D_rank_of:Def K mg "rank_of" s_rank_of a_rank_of fd_rank_of ["place"]) (G_rank_of:FnOk P w K mg base CX0 1 a_rank_of fd_rank_of ["place"] (spM (cC w K cl) 1 m_rank_of)) {a_Tree:Addr} (CL_Tree:cl "Tree" = some a_Tree) (HC_Tree:Cls K a_Tree) {g_Tree_kind_of:Addr} {fd_Tree_kind_of:FuncData} (ME_Tree_kind_of:Meth K a_Tree "kind_of" g_Tree_kind_of) (G_Tree_kind_of:FnOk P w K mg base CX0 1 g_Tree_kind_of fd_Tree_kind_of ["self","thing"] (spM (cC w K cl) 2 m_Tree_kind_of)) (B_Tree_kind_of:Binds K fd_Tree_kind_of ["self","thing"] []) (FF_made:FdOk (cC w K cl) "made"):FnOk P w K mg base CX0 2 f fd ["self","thing"] (spM (cC w K cl) 2 m_Tree_within):=
 fn_ok (C:=cC w K cl) (k:=1) (N:=["self","thing","spots"]) (body:=b_Tree_within) (fun _ _ _ h=>h) hbn F sc_Tree_within fun cdv A outer s H E=>
 (zz_cons (z_thaw true (mMt0 isDct vItemsA (mUn (vFld "made") (mV 0))) (z_setcomp (i:=2) sc_Tree_within.nd rfl rfl (js:=[none,none,some 1]) (N:=N_Tree_within_c0) rfl rfl (by rfl) (i_walk true (fun _=>⟨_,_,_,rfl⟩) (s_mg0 PySem.F.plainAttrs_dict PySem.F.slot_dict_items PySem.F.type_dict_items m_itemsA (s_fld FF_made (s_var 0)))) (fun _ _ _ _=>(g_tup (g_cons (g_name nd_Tree_within_c0) (g_cons (g_name nd_Tree_within_c0) g_nil)))) (fun _ _ _ _=>(ts_one (t_cmp o_eq (s_at (s_var 1) s_int) (s_var 2)))) (fun _ _ _ _=>(s_tup (a_cons (s_at (s_var 1) s_int) (a_cons (s_var 0) a_nil))))))
 (zz_cons (z_if (t_cmp o_eq (s_meth (tb:=tb_Tree_within_0) (mt_cons CL_Tree HC_Tree ME_Tree_kind_of (by decide) G_Tree_kind_of B_Tree_kind_of mt_nil) (s_var 0) (a_cons (s_var 1) a_nil)) s_str)
  (zz_one (z_setcomp (i:=2) sc_Tree_within.nd rfl rfl (js:=[none,none]) (N:=N_Tree_within_c1) rfl rfl (by rfl) (i_seq (s_var 2)) (fun _ _ _ _=>(g_tup (g_cons (g_name nd_Tree_within_c1) (g_cons (g_name nd_Tree_within_c1) g_nil)))) (fun _ _ _ _=>ts_nil) (fun _ _ _ _=>(s_tup (a_cons (s_call D_rank_of G_rank_of (a_cons (s_var 0) a_nil)) (a_cons (s_var 1) a_nil))))))
  zz_nil)
 (zz_one (z_ret (s_comp (js:=[none,none]) (N:=N_Tree_within_c2) rfl rfl (by rfl) (i_seq (s_callB b_sortedM PyProof.Rows.Boot.«sorted» (a_cons (s_var 2) a_nil) (hb:=(.tail _ (.tail _ (.tail _ (.tail _ (.tail _ (.head _))))))))) (fun _ _ _ _=>(g_tup (g_cons (g_name nd_Tree_within_c2) (g_cons (g_name nd_Tree_within_c2) g_nil)))) (fun _ _ _ _=>ts_nil) (fun _ _ _ _=>(s_var 1)))))))
theorem ok_behind {f:Addr} {fd:FuncData} (hbn:∀ x∈bsL,mg x=none) (F:Fun K "_law_behind" "_law_behind" s_behind f fd):FnOk P w K mg base CX0 1 f fd ["_law_one","_law_other"] (spM (cC w K cl) 2 m_behind):=
 fn_ok (C:=cC w K cl) (k:=0) (N:=["_law_one","_law_other","_law_k"]) (body:=b_behind) (fun _ _ _ h=>h) hbn F sc_behind fun cdv A outer s H E=>
 (zz_cons (z_set (i:=2) sc_behind.nd s_int)
 (zz_cons (z_while (SW.t (w_and (t_cmp o_less (s_var 2) (s_callB b_len PyProof.Rows.Boot.«len» (a_cons (s_var 0) a_nil) (hb:=(.head _)))) (w_and (t_cmp o_less (s_var 2) (s_callB b_len PyProof.Rows.Boot.«len» (a_cons (s_var 1) a_nil) (hb:=(.head _)))) (w_and1 (t_cmp o_eq (s_at (s_var 0) (s_var 2)) (s_at (s_var 1) (s_var 2)))))))
  (zz_one (z_set (i:=2) sc_behind.nd (s_bin o_plus (s_var 2) s_int))))
 (zz_cons (z_if (SW.t (w_and (t_cmp o_less (s_var 2) (s_callB b_len PyProof.Rows.Boot.«len» (a_cons (s_var 0) a_nil) (hb:=(.head _)))) (w_and1 (t_cmp o_less (s_var 2) (s_callB b_len PyProof.Rows.Boot.«len» (a_cons (s_var 1) a_nil) (hb:=(.head _)))))))
  (zz_one (z_ret (s_cmp o_less (s_at (s_var 0) (s_var 2)) (s_at (s_var 1) (s_var 2)))))
  zz_nil)
 (zz_cons (z_if (t_cmp o_less (s_var 2) (s_callB b_len PyProof.Rows.Boot.«len» (a_cons (s_var 1) a_nil) (hb:=(.head _))))
  (zz_one (z_ret (s_cmp o_eq (s_at (s_at (s_var 1) (s_var 2)) s_int) s_int)))
  zz_nil)
 (zz_one (z_ret (s_and (s_cmp o_less (s_var 2) (s_callB b_len PyProof.Rows.Boot.«len» (a_cons (s_var 0) a_nil) (hb:=(.head _)))) (s_one (s_cmp o_eq (s_at (s_at (s_var 0) (s_var 2)) s_int) (s_un o_neg s_int))))))))))
theorem ok_in_order {f:Addr} {fd:FuncData} (hbn:∀ x∈bsL,mg x=none) (F:Fun K "_law_in_order" "_law_in_order" s_in_order f fd) {a_behind:Addr} {fd_behind:FuncData} (D_behind:Def K mg "_law_behind" s_behind a_behind fd_behind ["_law_one","_law_other"]) (G_behind:FnOk P w K mg base CX0 1 a_behind fd_behind ["_law_one","_law_other"] (spM (cC w K cl) 2 m_behind)) {a_Tree:Addr} (CL_Tree:cl "Tree" = some a_Tree) (HC_Tree:Cls K a_Tree) {g_Tree_held:Addr} {fd_Tree_held:FuncData} (ME_Tree_held:Meth K a_Tree "held" g_Tree_held) (G_Tree_held:FnOk P w K mg base CX0 1 g_Tree_held fd_Tree_held ["self","thing"] (spM (cC w K cl) 2 m_Tree_held)) (B_Tree_held:Binds K fd_Tree_held ["self","thing"] []):FnOk P w K mg base CX0 2 f fd ["_law_tree","_law_found","_law_kind"] (spM (cC w K cl) 3 m_in_order):=
 fn_ok (C:=cC w K cl) (k:=1) (N:=["_law_tree","_law_found","_law_kind","_law_spots","_law_k"]) (body:=b_in_order) (fun _ _ _ h=>h) hbn F sc_in_order fun cdv A outer s H E=>
 (zz_cons (z_setcomp (i:=3) sc_in_order.nd rfl rfl (js:=[none,some 0]) (N:=N_in_order_c0) rfl rfl (by rfl) (i_seq (s_var 1)) (fun _ _ _ _=>(g_name nd_in_order_c0)) (fun _ _ _ _=>ts_nil) (fun _ _ _ _=>(s_at (s_meth (tb:=tb_in_order_0) (mt_cons CL_Tree HC_Tree ME_Tree_held (by decide) G_Tree_held B_Tree_held mt_nil) (s_var 1) (a_cons (s_var 0) a_nil)) s_int)))
 (zz_cons (z_for (i_rng2 (a_cons s_int (a_cons (s_callB b_len PyProof.Rows.Boot.«len» (a_cons (s_var 1) a_nil) (hb:=(.head _))) a_nil)) (hb:=(.tail _ (.head _)))) (g_name sc_in_order.nd)
  (zz_cons (z_if (SW.t (w_and (t_cmp o_eq (s_var 2) s_str) (w_and1 (t_cmp o_geT (s_tup (a_cons (s_at (s_var 3) (s_bin o_sub (s_var 4) s_int)) (a_cons (s_at (s_var 1) (s_bin o_sub (s_var 4) s_int)) a_nil))) (s_tup (a_cons (s_at (s_var 3) (s_var 4)) (a_cons (s_at (s_var 1) (s_var 4)) a_nil)))))))
   (zz_one (z_ret s_bl))
   zz_nil)
  (zz_one (z_if (SW.t (w_and (t_cmp o_eq (s_var 2) s_str) (w_and1 (t_not (t_val (s_call D_behind G_behind (a_cons (s_at (s_var 3) (s_bin o_sub (s_var 4) s_int)) (a_cons (s_at (s_var 3) (s_var 4)) a_nil))))))))
   (zz_one (z_ret s_bl))
   zz_nil))))
 (zz_one (z_ret s_bl))))
theorem ok_law {f:Addr} {fd:FuncData} (hbn:∀ x∈bsL,mg x=none) (F:Fun K "law" "law" s_law f fd) {a_cell_at:Addr} {fd_cell_at:FuncData} (D_cell_at:Def K mg "_law_cell_at" s_cell_at a_cell_at fd_cell_at ["_law_script","_law_k"]) (G_cell_at:FnOk P w K mg base CX0 1 a_cell_at fd_cell_at ["_law_script","_law_k"] (spM (cC w K cl) 2 m_cell_at)) {a_hands:Addr} {fd_hands:FuncData} (D_hands:Def K mg "_law_hands" s_hands a_hands fd_hands ["_law_cell","_law_many"]) (G_hands:FnOk P w K mg base CX0 2 a_hands fd_hands ["_law_cell","_law_many"] (spM (cC w K cl) 2 m_hands)) {a_deed:Addr} {fd_deed:FuncData} (D_deed:Def K mg "_law_deed" s_deed a_deed fd_deed ["_law_cell","_law_name","_law_kinds","_law_tree"]) (G_deed:FnOk P w K mg base CX0 2 a_deed fd_deed ["_law_cell","_law_name","_law_kinds","_law_tree"] (spM (cC w K cl) 4 m_deed)) {a_in_order:Addr} {fd_in_order:FuncData} (D_in_order:Def K mg "_law_in_order" s_in_order a_in_order fd_in_order ["_law_tree","_law_found","_law_kind"]) (G_in_order:FnOk P w K mg base CX0 2 a_in_order fd_in_order ["_law_tree","_law_found","_law_kind"] (spM (cC w K cl) 3 m_in_order)) {a_Tree:Addr} (CL_Tree:cl "Tree" = some a_Tree) (HC_Tree:Cls K a_Tree) {g_Tree___init__:Addr} {fd_Tree___init__:FuncData} (ME_Tree___init__:Meth K a_Tree "__init__" g_Tree___init__) (G_Tree___init__:FnOk P w K mg base CX0 1 g_Tree___init__ fd_Tree___init__ ["self"] (spM (cC w K cl) 1 m_Tree___init__)) (B_Tree___init__:Binds K fd_Tree___init__ ["self"] []) {g_Tree_hear:Addr} {fd_Tree_hear:FuncData} (ME_Tree_hear:Meth K a_Tree "hear" g_Tree_hear) (G_Tree_hear:FnOk P w K mg base CX0 4 g_Tree_hear fd_Tree_hear ["self","deed"] (spM (cC w K cl) 2 m_Tree_hear)) (B_Tree_hear:Binds K fd_Tree_hear ["self","deed"] []) {g_Tree_held:Addr} {fd_Tree_held:FuncData} (ME_Tree_held:Meth K a_Tree "held" g_Tree_held) (G_Tree_held:FnOk P w K mg base CX0 1 g_Tree_held fd_Tree_held ["self","thing"] (spM (cC w K cl) 2 m_Tree_held)) (B_Tree_held:Binds K fd_Tree_held ["self","thing"] []) {g_Tree_within:Addr} {fd_Tree_within:FuncData} (ME_Tree_within:Meth K a_Tree "within" g_Tree_within) (G_Tree_within:FnOk P w K mg base CX0 2 g_Tree_within fd_Tree_within ["self","thing"] (spM (cC w K cl) 2 m_Tree_within)) (B_Tree_within:Binds K fd_Tree_within ["self","thing"] []) (MK_Tree:Mk K a_Tree g_Tree___init__) (MG_Tree:mg "Tree" = some (.ref a_Tree)):FnOk P w K mg base CX0 5 f fd ["_law_script"] (spM (cC w K cl) 1 m_law):=
 fn_ok (C:=cC w K cl) (k:=4) (N:=["_law_script","_law_first","_law_hands_here","_law_tree","_law_kinds","_law_many","_law_cell","_law_hand","_law_deed_here","_law_things","_law_holder","_law_found","_law_kept"]) (body:=b_law) (fun _ _ _ h=>h) hbn F sc_law fun cdv A outer s H E=>
 (zz_cons (z_set (i:=1) sc_law.nd (s_call D_cell_at G_cell_at (a_cons (s_var 0) (a_cons s_int a_nil))))
 (zz_cons (z_set (i:=2) sc_law.nd (s_call D_hands G_hands (a_cons (s_var 1) (a_cons (s_bin o_plus s_int (s_bin o_mod (s_bin o_div (s_var 1) s_int) s_int)) a_nil))))
 (zz_cons (z_set (i:=3) sc_law.nd (s_make0 CL_Tree MK_Tree G_Tree___init__ MG_Tree B_Tree___init__))
 (zz_cons (z_set (i:=4) sc_law.nd (s_dict1 (s_tup (a_cons s_str (a_cons s_int a_nil))) s_str))
 (zz_cons (z_set (i:=5) sc_law.nd s_dict0)
 (zz_cons (z_for (i_seq (s_sl (s_var 0) (o_some s_int) (o_some s_int))) (g_name sc_law.nd)
  (zz_cons (z_set (i:=7) sc_law.nd (s_at (s_var 2) (s_bin o_mod (s_var 6) (s_callB b_len PyProof.Rows.Boot.«len» (a_cons (s_var 2) a_nil) (hb:=(.head _))))))
  (zz_cons (z_putL (s_bin o_plus (s_mg PySem.F.plainAttrs_dict PySem.F.slot_dict_get PySem.F.type_dict_get m_get (s_var 5) (a_cons (s_var 7) (a_cons s_int a_nil))) s_int) (s_var 5) (s_var 7))
  (zz_cons (z_set (i:=8) sc_law.nd (s_call D_deed G_deed (a_cons (s_bin o_div (s_var 6) s_int) (a_cons (s_tup (a_cons (s_var 7) (a_cons (s_at (s_var 5) (s_var 7)) a_nil))) (a_cons (s_var 4) (a_cons (s_var 3) a_nil))))))
  (zz_cons (z_exp (s_meth (tb:=tb_law_0) (mt_cons CL_Tree HC_Tree ME_Tree_hear (by decide) G_Tree_hear B_Tree_hear mt_nil) (s_var 3) (a_cons (s_var 8) a_nil)))
  (zz_one (z_if (t_cmp o_eq (s_at (s_at (s_var 8) s_int) s_int) s_str)
   (zz_one (z_putL (s_at (s_at (s_var 8) s_int) s_int) (s_var 4) (s_at (s_var 8) s_int)))
   zz_nil)))))))
 (zz_cons (z_set (i:=9) sc_law.nd (s_sl (s_callTy b_listKP PyProof.Rows.Boot.«list» (a_cons (s_var 4) a_nil) (hb:=(.tail _ (.tail _ (.head _))))) (o_some s_int) o_none))
 (zz_cons (z_thaw false (mV 4) (z_for (i_walk false (fun h=>nomatch h) (s_var 4)) (g_name sc_law.nd)
  (zz_cons (z_set (i:=11) sc_law.nd (s_meth (tb:=tb_law_1) (mt_cons CL_Tree HC_Tree ME_Tree_within (by decide) G_Tree_within B_Tree_within mt_nil) (s_var 3) (a_cons (s_var 10) a_nil)))
  (zz_cons (z_if (SW.t (w_or (t_not (t_val (s_callB b_isinstance PyProof.Rows.Boot.«isinstance» (a_cons (s_var 11) (a_cons (s_bltn (n:="list") PyProof.Rows.Boot.«list» (hb:=(.tail _ (.tail _ (.head _))))) a_nil)) (hb:=(.tail _ (.tail _ (.tail _ (.tail _ (.head _))))))))) (w_or1 (t_not (t_val (s_call D_in_order G_in_order (a_cons (s_var 3) (a_cons (s_var 11) (a_cons (s_atF (s_var 4) (s_var 10)) a_nil)))))))))
   (zz_one (z_ret s_bl))
   zz_nil)
  (zz_cons (z_if (t_cmp o_ne (s_callB b_sortedM PyProof.Rows.Boot.«sorted» (a_cons (s_var 11) a_nil) (hb:=(.tail _ (.tail _ (.tail _ (.tail _ (.tail _ (.head _)))))))) (s_callB b_sortedM PyProof.Rows.Boot.«sorted» (a_cons (s_comp (js:=[none,some 10,some 3]) (N:=N_law_c0) rfl rfl (by rfl) (i_seq (s_var 9)) (fun _ _ _ _=>(g_name nd_law_c0)) (fun _ _ _ _=>(ts_one (t_cmp o_eq (s_at (s_meth (tb:=tb_law_2) (mt_cons CL_Tree HC_Tree ME_Tree_held (by decide) G_Tree_held B_Tree_held mt_nil) (s_var 2) (a_cons (s_var 0) a_nil)) s_int) (s_var 1)))) (fun _ _ _ _=>(s_var 0))) a_nil) (hb:=(.tail _ (.tail _ (.tail _ (.tail _ (.tail _ (.head _)))))))))
   (zz_one (z_ret s_bl))
   zz_nil)
  (zz_cons (z_set (i:=12) sc_law.nd (s_callTy b_listKP PyProof.Rows.Boot.«list» (a_cons (s_var 11) a_nil) (hb:=(.tail _ (.tail _ (.head _))))))
  (zz_cons (z_exp (s_mt PySem.F.plainAttrs_list PySem.F.slot_list_append PySem.F.type_list_append m_append (s_var 11) (a_cons (s_var 10) a_nil)))
  (zz_one (z_if (t_cmp o_ne (s_meth (tb:=tb_law_3) (mt_cons CL_Tree HC_Tree ME_Tree_within (by decide) G_Tree_within B_Tree_within mt_nil) (s_var 3) (a_cons (s_var 10) a_nil)) (s_var 12))
   (zz_one (z_ret s_bl))
   zz_nil)))))))))
 (zz_one (z_ret (s_cmp o_eq (s_meth (tb:=tb_law_4) (mt_cons CL_Tree HC_Tree ME_Tree_within (by decide) G_Tree_within B_Tree_within mt_nil) (s_var 3) (a_cons (s_tup (a_cons (s_at (s_var 2) s_int) (a_cons (s_bin o_pow s_int s_int) a_nil))) a_nil)) (s_lst a_nil))))))))))))
end
def spL (K:PySem.W.Frag):Sp:=fun vs H Q _=>∃ (a:Addr) (ns:List Int),vs=[.ref a]/\Only H/\SqL K H a (ns.map V.int)/\ns.length<=63/\∀ H',Q (.bl true) H'
@[elab_as_elim] theorem len1 {P:List Value->Prop} (us:List Value) (hl:us.length=1) (h:∀ a0,P [a0]):P us:=by
 cases us with
 | nil=>cases hl
 | cons a0 us=>
  cases us with
  | nil=>exact h a0
  | cons b us=>
   simp only [List.length_cons] at hl
   omega
@[elab_as_elim] theorem len2 {P:List Value->Prop} (us:List Value) (hl:us.length=2) (h:∀ a0 a1,P [a0,a1]):P us:=by
 cases us with
 | nil=>cases hl
 | cons a0 us=>
  cases us with
  | nil=>cases hl
  | cons a1 us=>
   cases us with
   | nil=>exact h a0 a1
   | cons b us=>
    simp only [List.length_cons] at hl
    omega
@[elab_as_elim] theorem len3 {P:List Value->Prop} (us:List Value) (hl:us.length=3) (h:∀ a0 a1 a2,P [a0,a1,a2]):P us:=by
 cases us with
 | nil=>cases hl
 | cons a0 us=>
  cases us with
  | nil=>cases hl
  | cons a1 us=>
   cases us with
   | nil=>cases hl
   | cons a2 us=>
    cases us with
    | nil=>exact h a0 a1 a2
    | cons b us=>
     simp only [List.length_cons] at hl
     omega
@[elab_as_elim] theorem len4 {P:List Value->Prop} (us:List Value) (hl:us.length=4) (h:∀ a0 a1 a2 a3,P [a0,a1,a2,a3]):P us:=by
 cases us with
 | nil=>cases hl
 | cons a0 us=>
  cases us with
  | nil=>cases hl
  | cons a1 us=>
   cases us with
   | nil=>cases hl
   | cons a2 us=>
    cases us with
    | nil=>cases hl
    | cons a3 us=>
     cases us with
     | nil=>exact h a0 a1 a2 a3
     | cons b us=>
      simp only [List.length_cons] at hl
      omega
theorem all_mk {l:PySem.W.OpenLaw} {w:World} {K:PySem.W.Frag} {h:Heap} {mg:Str->Option Value} {fa A_Tree f_Tree___init__ f_Tree_hear f_Tree_hear_make f_Tree_hear_move f_Tree_held f_Tree_kind_of f_Tree_put f_Tree_ring f_Tree_takes f_Tree_within f_cell_at f_stream f_hands f_spot f_deed f_place_of f_stand_of f_rank_of f_behind f_in_order f_law A_ROOT:Addr} (X:K.In h) (G:h.Ns mainGlobals mg) (hfa:mg "law" = some (.ref fa)) (hbn:∀ x∈bsL,mg x=none)
  (n_Tree:PySem.W.nsIn K mainGlobals "Tree" = some (some (.ref A_Tree)))
  (pg_Tree:PySem.W.plainGet K A_Tree Str.empty=true)
  (hd_Tree:PySem.W.hasDictIn K A_Tree=true)
  (po_Tree:PySem.W.plainOver K A_Tree=true)
  (sa_Tree:PySem.W.findIn K (.ref A_Tree) "__setattr__" = some (some (.builtin "object.__setattr__")))
  (mk_Tree:PySem.W.makesIn K A_Tree=true)
  (kc_Tree:PySem.W.keepIn K (.ref A_Tree)=true)
  (nf_Tree_failed:PySem.W.findIn K (.ref A_Tree) "failed" = some none)
  (nf_Tree_made:PySem.W.findIn K (.ref A_Tree) "made" = some none)
  (a_Tree___init__:PySem.W.findIn K (.ref A_Tree) "__init__" = some (some (.ref f_Tree___init__)))
  (i_Tree___init__:PySem.W.isFn K (.ref f_Tree___init__)=true)
  {oc_Tree___init__ kV_Tree___init__ doc_Tree___init__ pm_Tree___init__ cdv_Tree___init__ ct_Tree___init__:Value} {od_Tree___init__ an_Tree___init__:Option Addr} {osl_Tree___init__:Array (Option Value)}
  (l_Tree___init__:K.lookup f_Tree___init__=some ⟨oc_Tree___init__,od_Tree___init__,.func (PySem.W.fnOf "__init__" "Tree.__init__" (defArgs s_Tree___init__) (defBody s_Tree___init__) (defScope s_Tree___init__) .none kV_Tree___init__ doc_Tree___init__ pm_Tree___init__ an_Tree___init__ cdv_Tree___init__ ct_Tree___init__),osl_Tree___init__⟩)
  (c_Tree___init__:PySem.W.codeIn K cdv_Tree___init__ "Tree.__init__" = true)
  (k_Tree___init__:PySem.W.keepIn K (.ref f_Tree___init__)=true)
  (a_Tree_hear:PySem.W.findIn K (.ref A_Tree) "hear" = some (some (.ref f_Tree_hear)))
  (i_Tree_hear:PySem.W.isFn K (.ref f_Tree_hear)=true)
  {oc_Tree_hear kV_Tree_hear doc_Tree_hear pm_Tree_hear cdv_Tree_hear ct_Tree_hear:Value} {od_Tree_hear an_Tree_hear:Option Addr} {osl_Tree_hear:Array (Option Value)}
  (l_Tree_hear:K.lookup f_Tree_hear=some ⟨oc_Tree_hear,od_Tree_hear,.func (PySem.W.fnOf "hear" "Tree.hear" (defArgs s_Tree_hear) (defBody s_Tree_hear) (defScope s_Tree_hear) .none kV_Tree_hear doc_Tree_hear pm_Tree_hear an_Tree_hear cdv_Tree_hear ct_Tree_hear),osl_Tree_hear⟩)
  (c_Tree_hear:PySem.W.codeIn K cdv_Tree_hear "Tree.hear" = true)
  (k_Tree_hear:PySem.W.keepIn K (.ref f_Tree_hear)=true)
  (a_Tree_hear_make:PySem.W.findIn K (.ref A_Tree) "hear_make" = some (some (.ref f_Tree_hear_make)))
  (i_Tree_hear_make:PySem.W.isFn K (.ref f_Tree_hear_make)=true)
  {oc_Tree_hear_make kV_Tree_hear_make doc_Tree_hear_make pm_Tree_hear_make cdv_Tree_hear_make ct_Tree_hear_make:Value} {od_Tree_hear_make an_Tree_hear_make:Option Addr} {osl_Tree_hear_make:Array (Option Value)}
  (l_Tree_hear_make:K.lookup f_Tree_hear_make=some ⟨oc_Tree_hear_make,od_Tree_hear_make,.func (PySem.W.fnOf "hear_make" "Tree.hear_make" (defArgs s_Tree_hear_make) (defBody s_Tree_hear_make) (defScope s_Tree_hear_make) .none kV_Tree_hear_make doc_Tree_hear_make pm_Tree_hear_make an_Tree_hear_make cdv_Tree_hear_make ct_Tree_hear_make),osl_Tree_hear_make⟩)
  (c_Tree_hear_make:PySem.W.codeIn K cdv_Tree_hear_make "Tree.hear_make" = true)
  (k_Tree_hear_make:PySem.W.keepIn K (.ref f_Tree_hear_make)=true)
  (a_Tree_hear_move:PySem.W.findIn K (.ref A_Tree) "hear_move" = some (some (.ref f_Tree_hear_move)))
  (i_Tree_hear_move:PySem.W.isFn K (.ref f_Tree_hear_move)=true)
  {oc_Tree_hear_move kV_Tree_hear_move doc_Tree_hear_move pm_Tree_hear_move cdv_Tree_hear_move ct_Tree_hear_move:Value} {od_Tree_hear_move an_Tree_hear_move:Option Addr} {osl_Tree_hear_move:Array (Option Value)}
  (l_Tree_hear_move:K.lookup f_Tree_hear_move=some ⟨oc_Tree_hear_move,od_Tree_hear_move,.func (PySem.W.fnOf "hear_move" "Tree.hear_move" (defArgs s_Tree_hear_move) (defBody s_Tree_hear_move) (defScope s_Tree_hear_move) .none kV_Tree_hear_move doc_Tree_hear_move pm_Tree_hear_move an_Tree_hear_move cdv_Tree_hear_move ct_Tree_hear_move),osl_Tree_hear_move⟩)
  (c_Tree_hear_move:PySem.W.codeIn K cdv_Tree_hear_move "Tree.hear_move" = true)
  (k_Tree_hear_move:PySem.W.keepIn K (.ref f_Tree_hear_move)=true)
  (a_Tree_held:PySem.W.findIn K (.ref A_Tree) "held" = some (some (.ref f_Tree_held)))
  (i_Tree_held:PySem.W.isFn K (.ref f_Tree_held)=true)
  {oc_Tree_held kV_Tree_held doc_Tree_held pm_Tree_held cdv_Tree_held ct_Tree_held:Value} {od_Tree_held an_Tree_held:Option Addr} {osl_Tree_held:Array (Option Value)}
  (l_Tree_held:K.lookup f_Tree_held=some ⟨oc_Tree_held,od_Tree_held,.func (PySem.W.fnOf "held" "Tree.held" (defArgs s_Tree_held) (defBody s_Tree_held) (defScope s_Tree_held) .none kV_Tree_held doc_Tree_held pm_Tree_held an_Tree_held cdv_Tree_held ct_Tree_held),osl_Tree_held⟩)
  (c_Tree_held:PySem.W.codeIn K cdv_Tree_held "Tree.held" = true)
  (k_Tree_held:PySem.W.keepIn K (.ref f_Tree_held)=true)
  (a_Tree_kind_of:PySem.W.findIn K (.ref A_Tree) "kind_of" = some (some (.ref f_Tree_kind_of)))
  (i_Tree_kind_of:PySem.W.isFn K (.ref f_Tree_kind_of)=true)
  {oc_Tree_kind_of kV_Tree_kind_of doc_Tree_kind_of pm_Tree_kind_of cdv_Tree_kind_of ct_Tree_kind_of:Value} {od_Tree_kind_of an_Tree_kind_of:Option Addr} {osl_Tree_kind_of:Array (Option Value)}
  (l_Tree_kind_of:K.lookup f_Tree_kind_of=some ⟨oc_Tree_kind_of,od_Tree_kind_of,.func (PySem.W.fnOf "kind_of" "Tree.kind_of" (defArgs s_Tree_kind_of) (defBody s_Tree_kind_of) (defScope s_Tree_kind_of) .none kV_Tree_kind_of doc_Tree_kind_of pm_Tree_kind_of an_Tree_kind_of cdv_Tree_kind_of ct_Tree_kind_of),osl_Tree_kind_of⟩)
  (c_Tree_kind_of:PySem.W.codeIn K cdv_Tree_kind_of "Tree.kind_of" = true)
  (k_Tree_kind_of:PySem.W.keepIn K (.ref f_Tree_kind_of)=true)
  (a_Tree_put:PySem.W.findIn K (.ref A_Tree) "put" = some (some (.ref f_Tree_put)))
  (i_Tree_put:PySem.W.isFn K (.ref f_Tree_put)=true)
  {oc_Tree_put kV_Tree_put doc_Tree_put pm_Tree_put cdv_Tree_put ct_Tree_put:Value} {od_Tree_put an_Tree_put:Option Addr} {osl_Tree_put:Array (Option Value)}
  (l_Tree_put:K.lookup f_Tree_put=some ⟨oc_Tree_put,od_Tree_put,.func (PySem.W.fnOf "put" "Tree.put" (defArgs s_Tree_put) (defBody s_Tree_put) (defScope s_Tree_put) .none kV_Tree_put doc_Tree_put pm_Tree_put an_Tree_put cdv_Tree_put ct_Tree_put),osl_Tree_put⟩)
  (c_Tree_put:PySem.W.codeIn K cdv_Tree_put "Tree.put" = true)
  (k_Tree_put:PySem.W.keepIn K (.ref f_Tree_put)=true)
  (a_Tree_ring:PySem.W.findIn K (.ref A_Tree) "ring" = some (some (.ref f_Tree_ring)))
  (i_Tree_ring:PySem.W.isFn K (.ref f_Tree_ring)=true)
  {oc_Tree_ring kV_Tree_ring doc_Tree_ring pm_Tree_ring cdv_Tree_ring ct_Tree_ring:Value} {od_Tree_ring an_Tree_ring:Option Addr} {osl_Tree_ring:Array (Option Value)}
  (l_Tree_ring:K.lookup f_Tree_ring=some ⟨oc_Tree_ring,od_Tree_ring,.func (PySem.W.fnOf "ring" "Tree.ring" (defArgs s_Tree_ring) (defBody s_Tree_ring) (defScope s_Tree_ring) .none kV_Tree_ring doc_Tree_ring pm_Tree_ring an_Tree_ring cdv_Tree_ring ct_Tree_ring),osl_Tree_ring⟩)
  (c_Tree_ring:PySem.W.codeIn K cdv_Tree_ring "Tree.ring" = true)
  (k_Tree_ring:PySem.W.keepIn K (.ref f_Tree_ring)=true)
  (a_Tree_takes:PySem.W.findIn K (.ref A_Tree) "takes" = some (some (.ref f_Tree_takes)))
  (i_Tree_takes:PySem.W.isFn K (.ref f_Tree_takes)=true)
  {oc_Tree_takes kV_Tree_takes doc_Tree_takes pm_Tree_takes cdv_Tree_takes ct_Tree_takes:Value} {od_Tree_takes an_Tree_takes:Option Addr} {osl_Tree_takes:Array (Option Value)}
  (l_Tree_takes:K.lookup f_Tree_takes=some ⟨oc_Tree_takes,od_Tree_takes,.func (PySem.W.fnOf "takes" "Tree.takes" (defArgs s_Tree_takes) (defBody s_Tree_takes) (defScope s_Tree_takes) .none kV_Tree_takes doc_Tree_takes pm_Tree_takes an_Tree_takes cdv_Tree_takes ct_Tree_takes),osl_Tree_takes⟩)
  (c_Tree_takes:PySem.W.codeIn K cdv_Tree_takes "Tree.takes" = true)
  (k_Tree_takes:PySem.W.keepIn K (.ref f_Tree_takes)=true)
  (a_Tree_within:PySem.W.findIn K (.ref A_Tree) "within" = some (some (.ref f_Tree_within)))
  (i_Tree_within:PySem.W.isFn K (.ref f_Tree_within)=true)
  {oc_Tree_within kV_Tree_within doc_Tree_within pm_Tree_within cdv_Tree_within ct_Tree_within:Value} {od_Tree_within an_Tree_within:Option Addr} {osl_Tree_within:Array (Option Value)}
  (l_Tree_within:K.lookup f_Tree_within=some ⟨oc_Tree_within,od_Tree_within,.func (PySem.W.fnOf "within" "Tree.within" (defArgs s_Tree_within) (defBody s_Tree_within) (defScope s_Tree_within) .none kV_Tree_within doc_Tree_within pm_Tree_within an_Tree_within cdv_Tree_within ct_Tree_within),osl_Tree_within⟩)
  (c_Tree_within:PySem.W.codeIn K cdv_Tree_within "Tree.within" = true)
  (k_Tree_within:PySem.W.keepIn K (.ref f_Tree_within)=true)
  (a_cell_at:PySem.W.nsIn K mainGlobals "_law_cell_at" = some (some (.ref f_cell_at)))
  {oc_cell_at kV_cell_at doc_cell_at pm_cell_at cdv_cell_at ct_cell_at:Value} {od_cell_at an_cell_at:Option Addr} {osl_cell_at:Array (Option Value)}
  (l_cell_at:K.lookup f_cell_at=some ⟨oc_cell_at,od_cell_at,.func (PySem.W.fnOf "_law_cell_at" "_law_cell_at" (defArgs s_cell_at) (defBody s_cell_at) (defScope s_cell_at) .none kV_cell_at doc_cell_at pm_cell_at an_cell_at cdv_cell_at ct_cell_at),osl_cell_at⟩)
  (c_cell_at:PySem.W.codeIn K cdv_cell_at "_law_cell_at" = true)
  (k_cell_at:PySem.W.keepIn K (.ref f_cell_at)=true)
  (a_stream:PySem.W.nsIn K mainGlobals "_law_stream" = some (some (.ref f_stream)))
  {oc_stream kV_stream doc_stream pm_stream cdv_stream ct_stream:Value} {od_stream an_stream:Option Addr} {osl_stream:Array (Option Value)}
  (l_stream:K.lookup f_stream=some ⟨oc_stream,od_stream,.func (PySem.W.fnOf "_law_stream" "_law_stream" (defArgs s_stream) (defBody s_stream) (defScope s_stream) .none kV_stream doc_stream pm_stream an_stream cdv_stream ct_stream),osl_stream⟩)
  (c_stream:PySem.W.codeIn K cdv_stream "_law_stream" = true)
  (k_stream:PySem.W.keepIn K (.ref f_stream)=true)
  (a_hands:PySem.W.nsIn K mainGlobals "_law_hands" = some (some (.ref f_hands)))
  {oc_hands kV_hands doc_hands pm_hands cdv_hands ct_hands:Value} {od_hands an_hands:Option Addr} {osl_hands:Array (Option Value)}
  (l_hands:K.lookup f_hands=some ⟨oc_hands,od_hands,.func (PySem.W.fnOf "_law_hands" "_law_hands" (defArgs s_hands) (defBody s_hands) (defScope s_hands) .none kV_hands doc_hands pm_hands an_hands cdv_hands ct_hands),osl_hands⟩)
  (c_hands:PySem.W.codeIn K cdv_hands "_law_hands" = true)
  (k_hands:PySem.W.keepIn K (.ref f_hands)=true)
  (a_spot:PySem.W.nsIn K mainGlobals "_law_spot" = some (some (.ref f_spot)))
  {oc_spot kV_spot doc_spot pm_spot cdv_spot ct_spot:Value} {od_spot an_spot:Option Addr} {osl_spot:Array (Option Value)}
  (l_spot:K.lookup f_spot=some ⟨oc_spot,od_spot,.func (PySem.W.fnOf "_law_spot" "_law_spot" (defArgs s_spot) (defBody s_spot) (defScope s_spot) .none kV_spot doc_spot pm_spot an_spot cdv_spot ct_spot),osl_spot⟩)
  (c_spot:PySem.W.codeIn K cdv_spot "_law_spot" = true)
  (k_spot:PySem.W.keepIn K (.ref f_spot)=true)
  (a_deed:PySem.W.nsIn K mainGlobals "_law_deed" = some (some (.ref f_deed)))
  {oc_deed kV_deed doc_deed pm_deed cdv_deed ct_deed:Value} {od_deed an_deed:Option Addr} {osl_deed:Array (Option Value)}
  (l_deed:K.lookup f_deed=some ⟨oc_deed,od_deed,.func (PySem.W.fnOf "_law_deed" "_law_deed" (defArgs s_deed) (defBody s_deed) (defScope s_deed) .none kV_deed doc_deed pm_deed an_deed cdv_deed ct_deed),osl_deed⟩)
  (c_deed:PySem.W.codeIn K cdv_deed "_law_deed" = true)
  (k_deed:PySem.W.keepIn K (.ref f_deed)=true)
  (a_place_of:PySem.W.nsIn K mainGlobals "place_of" = some (some (.ref f_place_of)))
  {oc_place_of kV_place_of doc_place_of pm_place_of cdv_place_of ct_place_of:Value} {od_place_of an_place_of:Option Addr} {osl_place_of:Array (Option Value)}
  (l_place_of:K.lookup f_place_of=some ⟨oc_place_of,od_place_of,.func (PySem.W.fnOf "place_of" "place_of" (defArgs s_place_of) (defBody s_place_of) (defScope s_place_of) .none kV_place_of doc_place_of pm_place_of an_place_of cdv_place_of ct_place_of),osl_place_of⟩)
  (c_place_of:PySem.W.codeIn K cdv_place_of "place_of" = true)
  (k_place_of:PySem.W.keepIn K (.ref f_place_of)=true)
  (a_stand_of:PySem.W.nsIn K mainGlobals "stand_of" = some (some (.ref f_stand_of)))
  {oc_stand_of kV_stand_of doc_stand_of pm_stand_of cdv_stand_of ct_stand_of:Value} {od_stand_of an_stand_of:Option Addr} {osl_stand_of:Array (Option Value)}
  (l_stand_of:K.lookup f_stand_of=some ⟨oc_stand_of,od_stand_of,.func (PySem.W.fnOf "stand_of" "stand_of" (defArgs s_stand_of) (defBody s_stand_of) (defScope s_stand_of) .none kV_stand_of doc_stand_of pm_stand_of an_stand_of cdv_stand_of ct_stand_of),osl_stand_of⟩)
  (c_stand_of:PySem.W.codeIn K cdv_stand_of "stand_of" = true)
  (k_stand_of:PySem.W.keepIn K (.ref f_stand_of)=true)
  (a_rank_of:PySem.W.nsIn K mainGlobals "rank_of" = some (some (.ref f_rank_of)))
  {oc_rank_of kV_rank_of doc_rank_of pm_rank_of cdv_rank_of ct_rank_of:Value} {od_rank_of an_rank_of:Option Addr} {osl_rank_of:Array (Option Value)}
  (l_rank_of:K.lookup f_rank_of=some ⟨oc_rank_of,od_rank_of,.func (PySem.W.fnOf "rank_of" "rank_of" (defArgs s_rank_of) (defBody s_rank_of) (defScope s_rank_of) .none kV_rank_of doc_rank_of pm_rank_of an_rank_of cdv_rank_of ct_rank_of),osl_rank_of⟩)
  (c_rank_of:PySem.W.codeIn K cdv_rank_of "rank_of" = true)
  (k_rank_of:PySem.W.keepIn K (.ref f_rank_of)=true)
  (a_behind:PySem.W.nsIn K mainGlobals "_law_behind" = some (some (.ref f_behind)))
  {oc_behind kV_behind doc_behind pm_behind cdv_behind ct_behind:Value} {od_behind an_behind:Option Addr} {osl_behind:Array (Option Value)}
  (l_behind:K.lookup f_behind=some ⟨oc_behind,od_behind,.func (PySem.W.fnOf "_law_behind" "_law_behind" (defArgs s_behind) (defBody s_behind) (defScope s_behind) .none kV_behind doc_behind pm_behind an_behind cdv_behind ct_behind),osl_behind⟩)
  (c_behind:PySem.W.codeIn K cdv_behind "_law_behind" = true)
  (k_behind:PySem.W.keepIn K (.ref f_behind)=true)
  (a_in_order:PySem.W.nsIn K mainGlobals "_law_in_order" = some (some (.ref f_in_order)))
  {oc_in_order kV_in_order doc_in_order pm_in_order cdv_in_order ct_in_order:Value} {od_in_order an_in_order:Option Addr} {osl_in_order:Array (Option Value)}
  (l_in_order:K.lookup f_in_order=some ⟨oc_in_order,od_in_order,.func (PySem.W.fnOf "_law_in_order" "_law_in_order" (defArgs s_in_order) (defBody s_in_order) (defScope s_in_order) .none kV_in_order doc_in_order pm_in_order an_in_order cdv_in_order ct_in_order),osl_in_order⟩)
  (c_in_order:PySem.W.codeIn K cdv_in_order "_law_in_order" = true)
  (k_in_order:PySem.W.keepIn K (.ref f_in_order)=true)
  (a_law:PySem.W.nsIn K mainGlobals "law" = some (some (.ref f_law)))
  {oc_law kV_law doc_law pm_law cdv_law ct_law:Value} {od_law an_law:Option Addr} {osl_law:Array (Option Value)}
  (l_law:K.lookup f_law=some ⟨oc_law,od_law,.func (PySem.W.fnOf "law" "law" (defArgs s_law) (defBody s_law) (defScope s_law) .none kV_law doc_law pm_law an_law cdv_law ct_law),osl_law⟩)
  (c_law:PySem.W.codeIn K cdv_law "law" = true)
  (k_law:PySem.W.keepIn K (.ref f_law)=true)
  {its_ROOT:Array Value} {nn_ROOT:Nat} {sl_ROOT:Array (Option Value)}
  (n_ROOT:PySem.W.nsIn K mainGlobals "ROOT" = some (some (.ref A_ROOT)))
  (l_ROOT:K.lookup A_ROOT=some ⟨.type "tuple",none,.seq its_ROOT nn_ROOT,sl_ROOT⟩)
  (v_ROOT:Vals [.str "",.int (0)] its_ROOT.toList)
  (z_ROOT:its_ROOT.size<=sizeLine)
  : ∃ fd:FuncData,(∀ (s:Shared) (v:Value),BindsTo s fd ⟨[v],[]⟩ [("_law_script",v)])/\∀ base:Heap,K.In base->base.Ns mainGlobals mg->FnOk l.prog w K mg base CX0 5 fa fd ["_law_script"] (spL K):=by
 have e:=hfa.symm.trans (PySem.W.mg_of X G a_law)
 cases e
 have CL_Tree:(fun z=>if z=("Tree" : Str) then some A_Tree else none) "Tree" = some A_Tree:=(if_pos rfl)
 have HC_Tree:Cls K A_Tree:=⟨pg_Tree,hd_Tree,po_Tree,sa_Tree⟩
 have MG_Tree:mg "Tree" = some (.ref A_Tree):=PySem.W.mg_of X G n_Tree
 have MG_ROOT:mg "ROOT" = some (.ref A_ROOT):=PySem.W.mg_of X G n_ROOT
 have GT_ROOT:GTup K A_ROOT [.str "",.int (0)]:=⟨_,its_ROOT,nn_ROOT,[.str "",.int (0)],l_ROOT,rfl,rfl,z_ROOT,v_ROOT,rfl,rfl⟩
 have FF_failed:FdOk (cC w K (fun z=>if z=("Tree" : Str) then some A_Tree else none)) "failed" := fun c a hc=>by
  have hc':(fun z=>if z=("Tree" : Str) then some A_Tree else none) c=some a:=hc
  dsimp only at hc'
  by_cases e_Tree:c="Tree"
  ·rw [if_pos e_Tree] at hc'
   cases hc'
   exact ⟨HC_Tree,nf_Tree_failed⟩
  rw [if_neg e_Tree] at hc'
  cases hc'
 have FF_made:FdOk (cC w K (fun z=>if z=("Tree" : Str) then some A_Tree else none)) "made" := fun c a hc=>by
  have hc':(fun z=>if z=("Tree" : Str) then some A_Tree else none) c=some a:=hc
  dsimp only at hc'
  by_cases e_Tree:c="Tree"
  ·rw [if_pos e_Tree] at hc'
   cases hc'
   exact ⟨HC_Tree,nf_Tree_made⟩
  rw [if_neg e_Tree] at hc'
  cases hc'
 have ME_Tree___init__:Meth K A_Tree "__init__" f_Tree___init__:=⟨a_Tree___init__,i_Tree___init__,k_Tree___init__⟩
 have F_Tree___init__:=fun_mk (st:=s_Tree___init__) l_Tree___init__ c_Tree___init__ k_Tree___init__
 have B_Tree___init__:=F_Tree___init__.binds (ps:=["self"]) fun _ _ _ _ _ _ us hl=>len1 us hl fun _=>rfl
 have MK_Tree:Mk K A_Tree f_Tree___init__:=⟨mk_Tree,a_Tree___init__,i_Tree___init__,kc_Tree⟩
 have ME_Tree_hear:Meth K A_Tree "hear" f_Tree_hear:=⟨a_Tree_hear,i_Tree_hear,k_Tree_hear⟩
 have F_Tree_hear:=fun_mk (st:=s_Tree_hear) l_Tree_hear c_Tree_hear k_Tree_hear
 have B_Tree_hear:=F_Tree_hear.binds (ps:=["self","deed"]) fun _ _ _ _ _ _ us hl=>len2 us hl fun _ _=>rfl
 have ME_Tree_hear_make:Meth K A_Tree "hear_make" f_Tree_hear_make:=⟨a_Tree_hear_make,i_Tree_hear_make,k_Tree_hear_make⟩
 have F_Tree_hear_make:=fun_mk (st:=s_Tree_hear_make) l_Tree_hear_make c_Tree_hear_make k_Tree_hear_make
 have B_Tree_hear_make:=F_Tree_hear_make.binds (ps:=["self","name","act"]) fun _ _ _ _ _ _ us hl=>len3 us hl fun _ _ _=>rfl
 have ME_Tree_hear_move:Meth K A_Tree "hear_move" f_Tree_hear_move:=⟨a_Tree_hear_move,i_Tree_hear_move,k_Tree_hear_move⟩
 have F_Tree_hear_move:=fun_mk (st:=s_Tree_hear_move) l_Tree_hear_move c_Tree_hear_move k_Tree_hear_move
 have B_Tree_hear_move:=F_Tree_hear_move.binds (ps:=["self","name","act"]) fun _ _ _ _ _ _ us hl=>len3 us hl fun _ _ _=>rfl
 have ME_Tree_held:Meth K A_Tree "held" f_Tree_held:=⟨a_Tree_held,i_Tree_held,k_Tree_held⟩
 have F_Tree_held:=fun_mk (st:=s_Tree_held) l_Tree_held c_Tree_held k_Tree_held
 have B_Tree_held:=F_Tree_held.binds (ps:=["self","thing"]) fun _ _ _ _ _ _ us hl=>len2 us hl fun _ _=>rfl
 have ME_Tree_kind_of:Meth K A_Tree "kind_of" f_Tree_kind_of:=⟨a_Tree_kind_of,i_Tree_kind_of,k_Tree_kind_of⟩
 have F_Tree_kind_of:=fun_mk (st:=s_Tree_kind_of) l_Tree_kind_of c_Tree_kind_of k_Tree_kind_of
 have B_Tree_kind_of:=F_Tree_kind_of.binds (ps:=["self","thing"]) fun _ _ _ _ _ _ us hl=>len2 us hl fun _ _=>rfl
 have ME_Tree_put:Meth K A_Tree "put" f_Tree_put:=⟨a_Tree_put,i_Tree_put,k_Tree_put⟩
 have F_Tree_put:=fun_mk (st:=s_Tree_put) l_Tree_put c_Tree_put k_Tree_put
 have B_Tree_put:=F_Tree_put.binds (ps:=["self","thing","holder","spot"]) fun _ _ _ _ _ _ us hl=>len4 us hl fun _ _ _ _=>rfl
 have ME_Tree_ring:Meth K A_Tree "ring" f_Tree_ring:=⟨a_Tree_ring,i_Tree_ring,k_Tree_ring⟩
 have F_Tree_ring:=fun_mk (st:=s_Tree_ring) l_Tree_ring c_Tree_ring k_Tree_ring
 have B_Tree_ring:=F_Tree_ring.binds (ps:=["self","thing","holder"]) fun _ _ _ _ _ _ us hl=>len3 us hl fun _ _ _=>rfl
 have ME_Tree_takes:Meth K A_Tree "takes" f_Tree_takes:=⟨a_Tree_takes,i_Tree_takes,k_Tree_takes⟩
 have F_Tree_takes:=fun_mk (st:=s_Tree_takes) l_Tree_takes c_Tree_takes k_Tree_takes
 have B_Tree_takes:=F_Tree_takes.binds (ps:=["self","holder","spot"]) fun _ _ _ _ _ _ us hl=>len3 us hl fun _ _ _=>rfl
 have ME_Tree_within:Meth K A_Tree "within" f_Tree_within:=⟨a_Tree_within,i_Tree_within,k_Tree_within⟩
 have F_Tree_within:=fun_mk (st:=s_Tree_within) l_Tree_within c_Tree_within k_Tree_within
 have B_Tree_within:=F_Tree_within.binds (ps:=["self","thing"]) fun _ _ _ _ _ _ us hl=>len2 us hl fun _ _=>rfl
 have D_cell_at:Def K mg "_law_cell_at" s_cell_at f_cell_at _ ["_law_script","_law_k"]:=Def.mk' X G a_cell_at l_cell_at c_cell_at k_cell_at (fun _ _ _ _ _ _ us hl=>len2 us hl fun _ _=>rfl)
 have D_stream:Def K mg "_law_stream" s_stream f_stream _ ["_law_cell","_law_many"]:=Def.mk' X G a_stream l_stream c_stream k_stream (fun _ _ _ _ _ _ us hl=>len2 us hl fun _ _=>rfl)
 have D_hands:Def K mg "_law_hands" s_hands f_hands _ ["_law_cell","_law_many"]:=Def.mk' X G a_hands l_hands c_hands k_hands (fun _ _ _ _ _ _ us hl=>len2 us hl fun _ _=>rfl)
 have D_spot:Def K mg "_law_spot" s_spot f_spot _ ["_law_x","_law_kind","_law_places"]:=Def.mk' X G a_spot l_spot c_spot k_spot (fun _ _ _ _ _ _ us hl=>len3 us hl fun _ _ _=>rfl)
 have D_deed:Def K mg "_law_deed" s_deed f_deed _ ["_law_cell","_law_name","_law_kinds","_law_tree"]:=Def.mk' X G a_deed l_deed c_deed k_deed (fun _ _ _ _ _ _ us hl=>len4 us hl fun _ _ _ _=>rfl)
 have D_place_of:Def K mg "place_of" s_place_of f_place_of _ ["spot","name"]:=Def.mk' X G a_place_of l_place_of c_place_of k_place_of (fun _ _ _ _ _ _ us hl=>len2 us hl fun _ _=>rfl)
 have D_stand_of:Def K mg "stand_of" s_stand_of f_stand_of _ ["spot","name"]:=Def.mk' X G a_stand_of l_stand_of c_stand_of k_stand_of (fun _ _ _ _ _ _ us hl=>len2 us hl fun _ _=>rfl)
 have D_rank_of:Def K mg "rank_of" s_rank_of f_rank_of _ ["place"]:=Def.mk' X G a_rank_of l_rank_of c_rank_of k_rank_of (fun _ _ _ _ _ _ us hl=>len1 us hl fun _=>rfl)
 have D_behind:Def K mg "_law_behind" s_behind f_behind _ ["_law_one","_law_other"]:=Def.mk' X G a_behind l_behind c_behind k_behind (fun _ _ _ _ _ _ us hl=>len2 us hl fun _ _=>rfl)
 have D_in_order:Def K mg "_law_in_order" s_in_order f_in_order _ ["_law_tree","_law_found","_law_kind"]:=Def.mk' X G a_in_order l_in_order c_in_order k_in_order (fun _ _ _ _ _ _ us hl=>len3 us hl fun _ _ _=>rfl)
 refine ⟨PySem.W.fnOf "law" "law" (defArgs s_law) (defBody s_law) (defScope s_law) .none kV_law doc_law pm_law an_law cdv_law ct_law,fun s v=>.of_eq rfl,fun base _ _=>?_⟩
 have G_cell_at:FnOk l.prog w K mg base CX0 1 f_cell_at _ ["_law_script","_law_k"] (spM (cC w K (fun z=>if z=("Tree" : Str) then some A_Tree else none)) 2 m_cell_at):=ok_cell_at (cl:=fun z=>if z=("Tree" : Str) then some A_Tree else none) hbn D_cell_at.fn
 have G_stream:FnOk l.prog w K mg base CX0 1 f_stream _ ["_law_cell","_law_many"] (spM (cC w K (fun z=>if z=("Tree" : Str) then some A_Tree else none)) 2 m_stream):=ok_stream (cl:=fun z=>if z=("Tree" : Str) then some A_Tree else none) hbn D_stream.fn
 have G_hands:FnOk l.prog w K mg base CX0 2 f_hands _ ["_law_cell","_law_many"] (spM (cC w K (fun z=>if z=("Tree" : Str) then some A_Tree else none)) 2 m_hands):=ok_hands (cl:=fun z=>if z=("Tree" : Str) then some A_Tree else none) hbn D_hands.fn D_stream G_stream
 have G_Tree___init__:FnOk l.prog w K mg base CX0 1 f_Tree___init__ _ ["self"] (spM (cC w K (fun z=>if z=("Tree" : Str) then some A_Tree else none)) 1 m_Tree___init__):=ok_Tree___init__ (cl:=fun z=>if z=("Tree" : Str) then some A_Tree else none) hbn F_Tree___init__ FF_failed FF_made
 have G_spot:FnOk l.prog w K mg base CX0 1 f_spot _ ["_law_x","_law_kind","_law_places"] (spM (cC w K (fun z=>if z=("Tree" : Str) then some A_Tree else none)) 3 m_spot):=ok_spot (cl:=fun z=>if z=("Tree" : Str) then some A_Tree else none) hbn D_spot.fn
 have G_Tree_held:FnOk l.prog w K mg base CX0 1 f_Tree_held _ ["self","thing"] (spM (cC w K (fun z=>if z=("Tree" : Str) then some A_Tree else none)) 2 m_Tree_held):=ok_Tree_held (cl:=fun z=>if z=("Tree" : Str) then some A_Tree else none) hbn F_Tree_held FF_made
 have G_deed:FnOk l.prog w K mg base CX0 2 f_deed _ ["_law_cell","_law_name","_law_kinds","_law_tree"] (spM (cC w K (fun z=>if z=("Tree" : Str) then some A_Tree else none)) 4 m_deed):=ok_deed (cl:=fun z=>if z=("Tree" : Str) then some A_Tree else none) hbn D_deed.fn D_stream G_stream D_spot G_spot CL_Tree HC_Tree ME_Tree_held G_Tree_held B_Tree_held
 have G_Tree_ring:FnOk l.prog w K mg base CX0 1 f_Tree_ring _ ["self","thing","holder"] (spM (cC w K (fun z=>if z=("Tree" : Str) then some A_Tree else none)) 3 m_Tree_ring):=ok_Tree_ring (cl:=fun z=>if z=("Tree" : Str) then some A_Tree else none) hbn F_Tree_ring FF_made
 have G_Tree_put:FnOk l.prog w K mg base CX0 1 f_Tree_put _ ["self","thing","holder","spot"] (spM (cC w K (fun z=>if z=("Tree" : Str) then some A_Tree else none)) 4 m_Tree_put):=ok_Tree_put (cl:=fun z=>if z=("Tree" : Str) then some A_Tree else none) hbn F_Tree_put FF_made
 have G_Tree_kind_of:FnOk l.prog w K mg base CX0 1 f_Tree_kind_of _ ["self","thing"] (spM (cC w K (fun z=>if z=("Tree" : Str) then some A_Tree else none)) 2 m_Tree_kind_of):=ok_Tree_kind_of (cl:=fun z=>if z=("Tree" : Str) then some A_Tree else none) hbn F_Tree_kind_of MG_ROOT GT_ROOT FF_made
 have G_Tree_takes:FnOk l.prog w K mg base CX0 2 f_Tree_takes _ ["self","holder","spot"] (spM (cC w K (fun z=>if z=("Tree" : Str) then some A_Tree else none)) 3 m_Tree_takes):=ok_Tree_takes (cl:=fun z=>if z=("Tree" : Str) then some A_Tree else none) hbn F_Tree_takes CL_Tree HC_Tree ME_Tree_kind_of G_Tree_kind_of B_Tree_kind_of
 have G_place_of:FnOk l.prog w K mg base CX0 1 f_place_of _ ["spot","name"] (spM (cC w K (fun z=>if z=("Tree" : Str) then some A_Tree else none)) 2 m_place_of):=ok_place_of (cl:=fun z=>if z=("Tree" : Str) then some A_Tree else none) hbn D_place_of.fn
 have G_stand_of:FnOk l.prog w K mg base CX0 2 f_stand_of _ ["spot","name"] (spM (cC w K (fun z=>if z=("Tree" : Str) then some A_Tree else none)) 2 m_stand_of):=ok_stand_of (cl:=fun z=>if z=("Tree" : Str) then some A_Tree else none) hbn D_stand_of.fn D_place_of G_place_of
 have G_Tree_hear_move:FnOk l.prog w K mg base CX0 3 f_Tree_hear_move _ ["self","name","act"] (spM (cC w K (fun z=>if z=("Tree" : Str) then some A_Tree else none)) 3 m_Tree_hear_move):=ok_Tree_hear_move (cl:=fun z=>if z=("Tree" : Str) then some A_Tree else none) hbn F_Tree_hear_move D_stand_of G_stand_of CL_Tree HC_Tree ME_Tree_put G_Tree_put B_Tree_put ME_Tree_ring G_Tree_ring B_Tree_ring ME_Tree_takes G_Tree_takes B_Tree_takes FF_failed
 have G_Tree_hear_make:FnOk l.prog w K mg base CX0 3 f_Tree_hear_make _ ["self","name","act"] (spM (cC w K (fun z=>if z=("Tree" : Str) then some A_Tree else none)) 3 m_Tree_hear_make):=ok_Tree_hear_make (cl:=fun z=>if z=("Tree" : Str) then some A_Tree else none) hbn F_Tree_hear_make D_stand_of G_stand_of CL_Tree HC_Tree ME_Tree_takes G_Tree_takes B_Tree_takes FF_made
 have G_Tree_hear:FnOk l.prog w K mg base CX0 4 f_Tree_hear _ ["self","deed"] (spM (cC w K (fun z=>if z=("Tree" : Str) then some A_Tree else none)) 2 m_Tree_hear):=ok_Tree_hear (cl:=fun z=>if z=("Tree" : Str) then some A_Tree else none) hbn F_Tree_hear CL_Tree HC_Tree ME_Tree_hear_make G_Tree_hear_make B_Tree_hear_make ME_Tree_hear_move G_Tree_hear_move B_Tree_hear_move ME_Tree_put G_Tree_put B_Tree_put FF_made
 have G_rank_of:FnOk l.prog w K mg base CX0 1 f_rank_of _ ["place"] (spM (cC w K (fun z=>if z=("Tree" : Str) then some A_Tree else none)) 1 m_rank_of):=ok_rank_of (cl:=fun z=>if z=("Tree" : Str) then some A_Tree else none) hbn D_rank_of.fn
 have G_Tree_within:FnOk l.prog w K mg base CX0 2 f_Tree_within _ ["self","thing"] (spM (cC w K (fun z=>if z=("Tree" : Str) then some A_Tree else none)) 2 m_Tree_within):=ok_Tree_within (cl:=fun z=>if z=("Tree" : Str) then some A_Tree else none) hbn F_Tree_within D_rank_of G_rank_of CL_Tree HC_Tree ME_Tree_kind_of G_Tree_kind_of B_Tree_kind_of FF_made
 have G_behind:FnOk l.prog w K mg base CX0 1 f_behind _ ["_law_one","_law_other"] (spM (cC w K (fun z=>if z=("Tree" : Str) then some A_Tree else none)) 2 m_behind):=ok_behind (cl:=fun z=>if z=("Tree" : Str) then some A_Tree else none) hbn D_behind.fn
 have G_in_order:FnOk l.prog w K mg base CX0 2 f_in_order _ ["_law_tree","_law_found","_law_kind"] (spM (cC w K (fun z=>if z=("Tree" : Str) then some A_Tree else none)) 3 m_in_order):=ok_in_order (cl:=fun z=>if z=("Tree" : Str) then some A_Tree else none) hbn D_in_order.fn D_behind G_behind CL_Tree HC_Tree ME_Tree_held G_Tree_held B_Tree_held
 refine (ok_law (cl:=fun z=>if z=("Tree" : Str) then some A_Tree else none) hbn (fun_mk (st:=s_law) l_law c_law k_law) D_cell_at G_cell_at D_hands G_hands D_deed G_deed D_in_order G_in_order CL_Tree HC_Tree ME_Tree___init__ G_Tree___init__ B_Tree___init__ ME_Tree_hear G_Tree_hear B_Tree_hear ME_Tree_held G_Tree_held B_Tree_held ME_Tree_within G_Tree_within B_Tree_within MK_Tree MG_Tree).imp fun vs H Q E hh=>?_
 obtain ⟨a,ns,rfl,hO,hS,hl,hq⟩:=hh
 exact law_sp (C:=cC w K (fun z=>if z=("Tree" : Str) then some A_Tree else none)) hO hS (main ns hl) hq
theorem walk {l:PySem.W.OpenLaw} {q:Program} {loose:List Str} {XP:(Str->Option Value)->Heap->Prop} {YP:World->Heap->Prop} {d:DefRec} {K:Params->PySem.W.Frag} (hn:l.most=some 63) (hdf:d.params.defaults=[])
  (hY:∀ (w:World) (h:Heap),YP w h->(K w.params).In h)
  (F:∀ (w:World) (mg:Str->Option Value) (fa:Addr) (h:Heap),(K w.params).In h->h.Ns mainGlobals mg->mg d.name=some (.ref fa)->
   ∃ fd:FuncData,(∀ (s:Shared) (u:Value),BindsTo s fd ⟨[u],[]⟩ [("_law_script",u)])/\∀ base:Heap,(K w.params).In base->base.Ns mainGlobals mg->FnOk l.prog w (K w.params) mg base CX0 5 fa fd ["_law_script"] (spL (K w.params))):
  PySem.W.WalkO q loose XP YP l.row.toRowW d [] (fun f vs=>PySem.call f vs):=
 L2.walk_of (n:=63) (k:=5) (x:="_law_script") (CX:=fun _=>CX0) (sp:=fun w=>spL (K w.params)) hn (by decide) hdf ⟨rfl,by decide,by decide⟩ hY F (fun w H a ns hl hO hS=>⟨a,ns,rfl,hO,hS,hl,fun _=>rfl⟩) fun _ _ _ _ _ z=>z
end K56
open PySem PySem.W PyProof.Rows
set_option maxRecDepth 100000 in
set_option maxHeartbeats 0 in
theorem PySem.Challenge.cw_copymeet_k56_what_a_thing_holds_holds : PySem.Challenge.rw_copymeet_k56_what_a_thing_holds.Holds := by
 w_on; o_law; k_head; (case hw=>w_witness2)
 k_fill
 refine K56.walk (l:=PySem.Challenge.rw_copymeet_k56_what_a_thing_holds) rfl rfl (fun w h Y=>PySem.W.kIn_of Y) ?F
 case F=>
  intro w mg fa h KX G hmg
  have hbn:∀ x∈K56.bsL,mg x=none:=fun x hx=>by
   rcases List.mem_cons.mp hx with rfl | hx
   ·exact PySem.W.mg_none_of KX G (by k_is)
   rcases List.mem_cons.mp hx with rfl | hx
   ·exact PySem.W.mg_none_of KX G (by k_is)
   rcases List.mem_cons.mp hx with rfl | hx
   ·exact PySem.W.mg_none_of KX G (by k_is)
   rcases List.mem_cons.mp hx with rfl | hx
   ·exact PySem.W.mg_none_of KX G (by k_is)
   rcases List.mem_cons.mp hx with rfl | hx
   ·exact PySem.W.mg_none_of KX G (by k_is)
   rcases List.mem_cons.mp hx with rfl | hx
   ·exact PySem.W.mg_none_of KX G (by k_is)
   cases hx
  refine' K56.all_mk KX G hmg hbn ?n_Tree ?pg_Tree ?hd_Tree ?po_Tree ?sa_Tree ?mk_Tree ?kc_Tree ?nf_Tree_failed ?nf_Tree_made ?a_Tree___init__ ?i_Tree___init__ ?l_Tree___init__ ?c_Tree___init__ ?k_Tree___init__ ?a_Tree_hear ?i_Tree_hear ?l_Tree_hear ?c_Tree_hear ?k_Tree_hear ?a_Tree_hear_make ?i_Tree_hear_make ?l_Tree_hear_make ?c_Tree_hear_make ?k_Tree_hear_make ?a_Tree_hear_move ?i_Tree_hear_move ?l_Tree_hear_move ?c_Tree_hear_move ?k_Tree_hear_move ?a_Tree_held ?i_Tree_held ?l_Tree_held ?c_Tree_held ?k_Tree_held ?a_Tree_kind_of ?i_Tree_kind_of ?l_Tree_kind_of ?c_Tree_kind_of ?k_Tree_kind_of ?a_Tree_put ?i_Tree_put ?l_Tree_put ?c_Tree_put ?k_Tree_put ?a_Tree_ring ?i_Tree_ring ?l_Tree_ring ?c_Tree_ring ?k_Tree_ring ?a_Tree_takes ?i_Tree_takes ?l_Tree_takes ?c_Tree_takes ?k_Tree_takes ?a_Tree_within ?i_Tree_within ?l_Tree_within ?c_Tree_within ?k_Tree_within ?a_cell_at ?l_cell_at ?c_cell_at ?k_cell_at ?a_stream ?l_stream ?c_stream ?k_stream ?a_hands ?l_hands ?c_hands ?k_hands ?a_spot ?l_spot ?c_spot ?k_spot ?a_deed ?l_deed ?c_deed ?k_deed ?a_place_of ?l_place_of ?c_place_of ?k_place_of ?a_stand_of ?l_stand_of ?c_stand_of ?k_stand_of ?a_rank_of ?l_rank_of ?c_rank_of ?k_rank_of ?a_behind ?l_behind ?c_behind ?k_behind ?a_in_order ?l_in_order ?c_in_order ?k_in_order ?a_law ?l_law ?c_law ?k_law ?n_ROOT ?l_ROOT ?v_ROOT ?z_ROOT
  (case n_Tree=>k_is)
  (case pg_Tree=>k_is)
  (case hd_Tree=>k_is)
  (case po_Tree=>k_is)
  (case sa_Tree=>k_is)
  (case mk_Tree=>k_is)
  (case kc_Tree=>k_is)
  (case nf_Tree_failed=>k_is)
  (case nf_Tree_made=>k_is)
  (case a_Tree___init__=>k_is)
  (case i_Tree___init__=>k_is)
  (case l_Tree___init__=>k_is)
  (case c_Tree___init__=>k_is)
  (case k_Tree___init__=>k_is)
  (case a_Tree_hear=>k_is)
  (case i_Tree_hear=>k_is)
  (case l_Tree_hear=>k_is)
  (case c_Tree_hear=>k_is)
  (case k_Tree_hear=>k_is)
  (case a_Tree_hear_make=>k_is)
  (case i_Tree_hear_make=>k_is)
  (case l_Tree_hear_make=>k_is)
  (case c_Tree_hear_make=>k_is)
  (case k_Tree_hear_make=>k_is)
  (case a_Tree_hear_move=>k_is)
  (case i_Tree_hear_move=>k_is)
  (case l_Tree_hear_move=>k_is)
  (case c_Tree_hear_move=>k_is)
  (case k_Tree_hear_move=>k_is)
  (case a_Tree_held=>k_is)
  (case i_Tree_held=>k_is)
  (case l_Tree_held=>k_is)
  (case c_Tree_held=>k_is)
  (case k_Tree_held=>k_is)
  (case a_Tree_kind_of=>k_is)
  (case i_Tree_kind_of=>k_is)
  (case l_Tree_kind_of=>k_is)
  (case c_Tree_kind_of=>k_is)
  (case k_Tree_kind_of=>k_is)
  (case a_Tree_put=>k_is)
  (case i_Tree_put=>k_is)
  (case l_Tree_put=>k_is)
  (case c_Tree_put=>k_is)
  (case k_Tree_put=>k_is)
  (case a_Tree_ring=>k_is)
  (case i_Tree_ring=>k_is)
  (case l_Tree_ring=>k_is)
  (case c_Tree_ring=>k_is)
  (case k_Tree_ring=>k_is)
  (case a_Tree_takes=>k_is)
  (case i_Tree_takes=>k_is)
  (case l_Tree_takes=>k_is)
  (case c_Tree_takes=>k_is)
  (case k_Tree_takes=>k_is)
  (case a_Tree_within=>k_is)
  (case i_Tree_within=>k_is)
  (case l_Tree_within=>k_is)
  (case c_Tree_within=>k_is)
  (case k_Tree_within=>k_is)
  (case a_cell_at=>k_is)
  (case l_cell_at=>k_is)
  (case c_cell_at=>k_is)
  (case k_cell_at=>k_is)
  (case a_stream=>k_is)
  (case l_stream=>k_is)
  (case c_stream=>k_is)
  (case k_stream=>k_is)
  (case a_hands=>k_is)
  (case l_hands=>k_is)
  (case c_hands=>k_is)
  (case k_hands=>k_is)
  (case a_spot=>k_is)
  (case l_spot=>k_is)
  (case c_spot=>k_is)
  (case k_spot=>k_is)
  (case a_deed=>k_is)
  (case l_deed=>k_is)
  (case c_deed=>k_is)
  (case k_deed=>k_is)
  (case a_place_of=>k_is)
  (case l_place_of=>k_is)
  (case c_place_of=>k_is)
  (case k_place_of=>k_is)
  (case a_stand_of=>k_is)
  (case l_stand_of=>k_is)
  (case c_stand_of=>k_is)
  (case k_stand_of=>k_is)
  (case a_rank_of=>k_is)
  (case l_rank_of=>k_is)
  (case c_rank_of=>k_is)
  (case k_rank_of=>k_is)
  (case a_behind=>k_is)
  (case l_behind=>k_is)
  (case c_behind=>k_is)
  (case k_behind=>k_is)
  (case a_in_order=>k_is)
  (case l_in_order=>k_is)
  (case c_in_order=>k_is)
  (case k_in_order=>k_is)
  (case a_law=>k_is)
  (case l_law=>k_is)
  (case c_law=>k_is)
  (case k_law=>k_is)
  (case n_ROOT=>k_is)
  (case l_ROOT=>k_is)
  (case v_ROOT=>exact (.cons ⟨_,rfl⟩ (.cons ⟨_,rfl⟩ .nil)))
  (case z_ROOT=>decide +kernel)
