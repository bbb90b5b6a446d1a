import PyProof.Rows.All
import Wide.All
import OpenK.AllK
import Wide.FinOn
import Lean
import PyProof.EqAt
import PyProof.EqKinds
import PyProof.TupleCall
import PyProof.NeKinds
import KE.KDictOf
import PyProof.AttrMissHeap
import PyProof.WalksMore
import PyProof.MeetsDict
import KE.KDictList
import KE.KRevIter
import PyProof.DictItemsLoops
import PyProof.DictWalks
import KE.KSortTup
import KE.KDictSum
import PyProof.SumAny
import PyProof.Conv_int_bool
import PyProof.Conv_int
import KE.KRevSl
import PyProof.MeetsStr
import PyProof.StrCalls3
import PyProof.Rows.TupDisplay
import PySem.Challenge.RW_copymeet_k76_known_and_bound
set_option Elab.async false
set_option linter.all false
set_option maxRecDepth 100000
namespace L2
open PySem PySem.Spec PyProof.Rows
abbrev Key:=Sum Int Str
def pU:Key->Value->Bool
 | .inl k,v=>Value.isInt k v
 | .inr x,v=>Value.isStrOf x v
def JI (w:World):Key->Int
 | .inl k=>hashInt k
 | .inr x=>hashStr w x
theorem bG:∀ {k:Key} {v:Value},pU k v=true->(∃ i t,k=Sum.inl i/\v=Value.int i t)\/(∃ x t,k=Sum.inr x/\v=Value.str x t)
 | .inl i,v,h=>by
  obtain ⟨t,e⟩:=Value.isInt_shape (k:=i) (v:=v) h
  exact .inl ⟨i,t,rfl,e⟩
 | .inr x,v,h=>by
  obtain ⟨t,e⟩:=Value.isStrOf_shape (x:=x) (v:=v) h
  exact .inr ⟨x,t,rfl,e⟩
theorem CC (i:Int) (t:Tok):pU (.inl i) (.int i t)=true:=by simp [pU,Value.isInt]
theorem CD (x:Str) (t:Tok):pU (.inr x) (.str x t)=true:=by simp [pU,Value.isStrOf]
theorem JJ (a b:Int):decide ((Sum.inl a:Key)=Sum.inl b)=(a == b):=by
 by_cases e:a=b
 ·subst e; simp
 ·have h:¬ (Sum.inl a:Key)=Sum.inl b:=fun q=>e (Sum.inl.inj q)
  rw [decide_eq_false h]
  exact (beq_eq_false_iff_ne.mpr e).symm
theorem JK (a b:Str):decide ((Sum.inr a:Key)=Sum.inr b)=decide (a=b):=by
 by_cases e:a=b
 ·subst e; simp
 ·have h:¬ (Sum.inr a:Key)=Sum.inr b:=fun q=>e (Sum.inr.inj q)
  rw [decide_eq_false h,decide_eq_false e]
theorem JL (a:Int) (b:Str):decide ((Sum.inl a:Key)=Sum.inr b)=false:=decide_eq_false (fun q=>nomatch q)
theorem JM (a:Str) (b:Int):decide ((Sum.inr a:Key)=Sum.inl b)=false:=decide_eq_false (fun q=>nomatch q)
def aZ (prog:Program) (w:World):PySem.KeyKind prog w Key where
 is:=pU
 hash:=JI w
 inj:=fun v a b ha hb=>by
  rcases bG ha with ⟨i,t,rfl,rfl⟩ | ⟨x,t,rfl,rfl⟩
  ·rcases bG hb with ⟨j,u,rfl,e⟩ | ⟨y,u,rfl,e⟩
   ·injection e with e1 _; rw [e1]
   ·exact nomatch e
  ·rcases bG hb with ⟨j,u,rfl,e⟩ | ⟨y,u,rfl,e⟩
   ·exact nomatch e
   ·injection e with e1 _; rw [e1]
 byValue:=fun k v h=>by
  rcases bG h with ⟨i,t,rfl,rfl⟩ | ⟨x,t,rfl,rfl⟩ <;> rfl
 pyHash:=fun hv h=>by
  rcases bG hv with ⟨i,t,rfl,rfl⟩ | ⟨x,t,rfl,rfl⟩
  ·exact wpAny_pyHash_int h
  ·exact wpAny_pyHash_str h
 eqBool:=fun hu hv h=>by
  rcases bG hu with ⟨i,t,rfl,rfl⟩ | ⟨x,t,rfl,rfl⟩
  ·rcases bG hv with ⟨j,u,rfl,rfl⟩ | ⟨y,u,rfl,rfl⟩
   ·rw [JJ] at h; exact wpAny_eqBool_int h
   ·rw [JL] at h; exact SeqAt.EqAt.int_str i t y u _ _ _ _ h
  ·rcases bG hv with ⟨j,u,rfl,rfl⟩ | ⟨y,u,rfl,rfl⟩
   ·rw [JM] at h; exact SeqAt.EqAt.str_int x t j u _ _ _ _ h
   ·rw [JK] at h; exact wpAny_eqBool_str h
 «strs»:=fun k x t v h=>by
  rcases bG h with ⟨i,u,rfl,e⟩ | ⟨y,u,rfl,e⟩
  ·exact nomatch e
  ·injection e with e1 _
   subst e1
   cases v <;> rfl
theorem yJ (prog:Program) (w:World) (i:Int) (t:Tok):(aZ prog w).is (.inl i) (.int i t)=true:=CC i t
theorem yK (prog:Program) (w:World) (x:Str) (t:Tok):(aZ prog w).is (.inr x) (.str x t)=true:=CD x t
end L2
namespace L2
open PySem PySem.Spec PyProof.Rows
inductive V where
 | non | bl (b:Bool) | int (i:Int) | str (x:Str) | byt (b:Array UInt8) | flt (b:UInt64) | ref (a:Addr) | ty (n:String)
 deriving DecidableEq
def RelV:V->Value->Prop
 | .non,u=>u=Value.none
 | .bl b,u=>u=Value.bool b
 | .int i,u=>∃ t,u=Value.int i t
 | .str x,u=>∃ t,u=Value.str x t
 | .byt b,u=>∃ t,u=Value.bytes b t
 | .flt b,u=>∃ t,u=Value.float b t
 | .ref a,u=>u=Value.ref a
 | .ty n,u=>u=Value.type n
abbrev aK:List V->List Value->Prop:=Paired RelV
theorem aK.length {xs:List V} {us:List Value} (r:aK xs us):xs.length=us.length:=Paired.length r
theorem aK.get:∀ {xs:List V} {us:List Value} {i:Nat} {x:V},aK xs us->xs[i]?=some x->∃ u,us[i]?=some u/\RelV x u
 | _,_,_,_,.nil,e=>by simp at e
 | _,_,0,_,.cons r _,e=>by simp at e; subst e; exact ⟨_,rfl,r⟩
 | _,_,i+1,x,.cons _ t,e=>by
  obtain ⟨u,h1,h2⟩:=aK.get (i:=i) (x:=x) t (by simpa using e)
  exact ⟨u,by simpa using h1,h2⟩
theorem aK.set {x:V} {u:Value} (r:RelV x u):∀ {xs:List V} {us:List Value} (i:Nat),aK xs us->aK (xs.set i x) (us.set i u)
 | _,_,_,.nil=>.nil
 | _,_,0,.cons _ t=>.cons r t
 | _,_,i+1,.cons q t=>.cons q (aK.set r i t)
theorem aK.append:∀ {xs ys:List V} {us ws:List Value},aK xs us->aK ys ws->aK (xs++ys) (us++ws)
 | _,_,_,_,.nil,s=>s
 | _,_,_,_,.cons r t,s=>.cons r (aK.append t s)
theorem aK.take:∀ {xs:List V} {us:List Value} (n:Nat),aK xs us->aK (xs.take n) (us.take n)
 | _,_,0,_=>.nil
 | _,_,_+1,.nil=>.nil
 | _,_,n+1,.cons r t=>.cons r (aK.take n t)
theorem aK.drop:∀ {xs:List V} {us:List Value} (n:Nat),aK xs us->aK (xs.drop n) (us.drop n)
 | _,_,0,r=>r
 | _,_,_+1,.nil=>.nil
 | _,_,n+1,.cons _ t=>aK.drop n t
def mU:Option V->Option Value->Prop
 | some v,some u=>RelV v u
 | none,none=>True
 | _,_=>False
def KV {κ:Type}:List (κ×V)->List (κ×Value)->Prop:=Paired fun (p:κ×V) (q:κ×Value)=>p.1=q.1/\RelV p.2 q.2
def kV:Key->V
 | .inl i=>.int i
 | .inr x=>.str x
inductive HO where
 /-- a list -/
 | lst (xs:List V)
 /-- a tuple (never changes) -/
 | tup (xs:List V)
 /-- a dict whose keys are ints and texts; one whose keys are tuples of ints and texts (the empty one is both) -/
 | dK (kvs:List (Key×V)) | dT (kvs:List (List Key×V))
 /-- a set of ints: its members,its size -/
 | set (S:Int->Bool) (n:Nat)
 /-- an instance of the class at C,its dict at dx,its attributes -/
 | ins (C dx:Addr) (fs:List (Str×V))
 /-- the dict of the instance at x -/
 | own (x:Addr)
 /-- the dict of an exception -/
 | xd (fs:List (Str×V))
 /-- a bound method,f of x -/
 | met (f x:Addr)
 /-- a range object lo,lo+1,.. below hi -/
 | rng (lo hi:Int)
 /-- a thing that is known to the object (the script; a dict while a loop walks it): read,never written while it is so -/
 | frz (o:Obj) (u:HO)
 /-- a code object's table -/
 | tbl (ps:Array Value)
 /-- any other thing,by what is true of its one object (a def of one's own: SetO a S n:=HO.ext fun h=>..) -/
 | ext (φ:Heap->Prop)
abbrev Hp:=Addr->Option HO
def upd (H:Hp) (a:Addr) (o:HO):Hp:=fun b=>if b=a then some o else H b
theorem bO {H:Hp} {a:Addr} {o:HO}:upd H a o a=some o:=by unfold upd; rw [if_pos rfl]
theorem bK {H:Hp} {a b:Addr} {o:HO} (h:b≠a):upd H a o b=H b:=by unfold upd; rw [if_neg h]
theorem LM {H:Hp} {a b:Addr} {o u:HO} (h:H a=some o) (h':H b=some u) (d:o≠u):a≠b:=by
 intro e; subst e; rw [h] at h'; exact d (Option.some.inj h')
theorem bZ {H:Hp} {a b:Addr} {o:HO} (h:H a=some o) (h':H b=none):a≠b:=by
 intro e; subst e; rw [h] at h'; cases h'
def kO (h:Heap) (a:Addr) (items:Array Value):Prop:=∃ o,h.get? a=some o/\o.cls=.type "tuple" /\ (∃ n,o.data=.seq items n)/\o.dict=none
theorem kO.is {h:Heap} {a:Addr} {items:Array Value} (x:kO h a items):PyProof.Rows.IsTup h a items:=let ⟨o,h1,h2,h3,_⟩:=x; ⟨o,h1,h2,h3⟩
theorem kO.lt {h:Heap} {a:Addr} {items:Array Value} (x:kO h a items):a < h.objs.size:=let ⟨_,h1,_⟩:=x; Heap.lt_size h1
theorem kO.new (h:Heap) (items:Array Value):kO (h.push { cls:=.type "tuple",data:=.seq items 0 }) h.objs.size items:=⟨_,Heap.get?_push_size _ rfl,rfl,⟨_,rfl⟩,rfl⟩
section
variable (P:Program) (w:World)
def bU (H:Hp) (h:Heap) (a:Addr):HO->Prop
 | .lst xs=>xs.length<=sizeLine/\∃ (its:List Value) (n:Nat),aK xs its/\h.get? a=some { cls:=.type "list",data:=.seq its.toArray n }
 | .tup xs=>xs.length<=sizeLine/\∃ its:List Value,aK xs its/\kO h a its.toArray
 | .dK kvs=>kvs.length<=sizeLine/\(a == sysModules)=false/\∃ vs,KV kvs vs/\h.DictOf (aZ P w) a vs
 | .dT kvs=>kvs.length<=sizeLine/\(a == sysModules)=false/\∃ xs:List (List Key×Addr×Value),
   Paired (fun (p:List Key×V) (q:List Key×Addr×Value)=>p.1=q.1/\H q.2.1=some (.tup (p.1.map kV))/\RelV p.2 q.2.2) kvs xs/\
   ∃ o es ep,h.get? a=some o/\o.ExactDict/\o.data=.dict es ep/\es.toList=xs.map (entryOfKey (tupleKind (aZ P w)))/\(xs.map (·.1)).Nodup
 | .set S n=>h.SetOf (intKind P w) a S n
 | .ins C dx fs=>H dx=some (.own a)/\fs.length<=1000/\dx≠a/\h.get? a=some (PySem.W.instObj C dx)/\
   ∃ mA,h.Ns1 dx mA/\(∀ f,mU (fs.lookup f) (mA f))/\PySem.Within mA (fs.map (·.1))
 | .own _=>∃ o,h.get? a=some o
 | .xd fs=>∃ mA,h.Ns1 a mA/\∀ f,mU (fs.lookup f) (mA f)
 | .rng lo hi=>∃ t u v,h.get? a=some { cls:=.type "range",data:=.fields #[.int lo t,.int hi u,.int 1 v] }
 | .frz o u=>h.get? a=some o/\bU H h a u
 | .tbl ps=>h.get? a=some { cls:=.none,data:=.fields ps }
 | .met f x=>h.get? a=some (PySem.W.methodObj (.ref f) (.ref x))
 | .ext φ=>φ h/\(∃ o,h.get? a=some o)/\∀ h1 h2:Heap,φ h1->(∀ o,h1.get? a=some o->h2.get? a=some o)->φ h2
def HOk (H:Hp) (h:Heap):Prop:=∀ a o,H a=some o->bU P w H h a o
end
section
variable {P:Program} {w:World} {H H':Hp} {h h':Heap} {a:Addr} {o:HO}
theorem bU.lt (x:bU P w H h a o):a < h.objs.size:=by
 cases o with
 | lst xs=>obtain ⟨_,_,_,_,e⟩:=x; exact Heap.lt_size e
 | tup xs=>obtain ⟨_,_,_,p⟩:=x; exact kO.lt p
 | dK kvs=>obtain ⟨_,_,_,_,o,_,_,e,_⟩:=x; exact Heap.lt_size e
 | dT kvs=>obtain ⟨_,_,_,_,o,_,_,e,_⟩:=x; exact Heap.lt_size e
 | set S n=>obtain ⟨o,_,_,_,e,_⟩:=x; exact Heap.lt_size e
 | ins C dx fs=>obtain ⟨_,_,_,e,_⟩:=x; exact Heap.lt_size e
 | own y=>obtain ⟨_,e⟩:=x; exact Heap.lt_size e
 | xd fs=>obtain ⟨_,⟨_,_,_,e,_⟩,_⟩:=x; exact Heap.lt_size e
 | rng lo hi=>obtain ⟨_,_,_,e⟩:=x; exact Heap.lt_size e
 | frz ob u=>obtain ⟨e,_⟩:=x; exact Heap.lt_size e
 | tbl ps=>exact Heap.lt_size (show h.get? a=some _ from x)
 | met f y=>exact Heap.lt_size (show h.get? a=some _ from x)
 | ext φ=>obtain ⟨_,⟨_,e⟩,_⟩:=x; exact Heap.lt_size e
theorem Paired.mapP {α β:Type} {F G:α->β->Prop}:∀ {l₁:List α} {l₂:List β},Paired F l₁ l₂->(∀ a b,F a b->G a b)->Paired G l₁ l₂
 | _,_,.nil,_=>.nil
 | _,_,.cons r t,f=>.cons (f _ _ r) (Paired.mapP t f)
theorem bU.stay (x:bU P w H h a o) (k:∀ b u,(b=a\/H b=some (.own a))->h.get? b=some u->h'.get? b=some u)
  (ho:∀ b,H b=some (.own a)->H' b=some (.own a)) (ht:∀ b xs,H b=some (.tup xs)->H' b=some (.tup xs)):bU P w H' h' a o:=by
 induction o with
 | lst xs=>obtain ⟨z,its,n,r,e⟩:=x; exact ⟨z,its,n,r,k _ _ (.inl rfl) e⟩
 | tup xs=>obtain ⟨z,its,r,ob,e,c⟩:=x; exact ⟨z,its,r,ob,k _ _ (.inl rfl) e,c⟩
 | dK kvs=>obtain ⟨z,y,vs,r,ob,es,ep,e,c⟩:=x; exact ⟨z,y,vs,r,ob,es,ep,k _ _ (.inl rfl) e,c⟩
 | dT kvs=>
  obtain ⟨z,y,xs,r,ob,es,ep,e,c⟩:=x
  exact ⟨z,y,xs,Paired.mapP r fun p q z=>⟨z.1,ht _ _ z.2.1,z.2.2⟩,ob,es,ep,k _ _ (.inl rfl) e,c⟩
 | set S n=>obtain ⟨ob,es,ep,t,e,c⟩:=x; exact ⟨ob,es,ep,t,k _ _ (.inl rfl) e,c⟩
 | ins C dx fs=>
  obtain ⟨d,z,ne,e,mA,⟨od,es,ep,e2,c⟩,r⟩:=x
  exact ⟨ho _ d,z,ne,k _ _ (.inl rfl) e,mA,⟨od,es,ep,k _ _ (.inr d) e2,c⟩,r⟩
 | own y=>obtain ⟨ob,e⟩:=x; exact ⟨ob,k _ _ (.inl rfl) e⟩
 | xd fs=>obtain ⟨mA,⟨od,es,ep,e,c⟩,r⟩:=x; exact ⟨mA,⟨od,es,ep,k _ _ (.inl rfl) e,c⟩,r⟩
 | rng lo hi=>obtain ⟨t,u,v,e⟩:=x; exact ⟨t,u,v,k _ _ (.inl rfl) e⟩
 | frz ob u ih=>obtain ⟨e,q⟩:=x; exact ⟨k _ _ (.inl rfl) e,ih q⟩
 | tbl ps=>
  have e:h.get? a=some { cls:=.none,data:=.fields ps }:=x
  show h'.get? a=some { cls:=.none,data:=.fields ps }
  exact k a _ (.inl rfl) e
 | met f y=>
  have e:h.get? a=some (PySem.W.methodObj (.ref f) (.ref y)):=x
  show h'.get? a=some (PySem.W.methodObj (.ref f) (.ref y))
  exact k a _ (.inl rfl) e
 | ext φ=>obtain ⟨p,⟨o,e⟩,st⟩:=x; exact ⟨st _ _ p fun o q=>k _ _ (.inl rfl) q,⟨o,k _ _ (.inl rfl) e⟩,st⟩
theorem HOk.lt (x:HOk P w H h) (e:H a=some o):a < h.objs.size:=(x a o e).lt
theorem HOk.fresh (x:HOk P w H h) (e:h.objs.size<=a):H a=none:=by
 cases q:H a with
 | none=>rfl
 | some u=>exact absurd (Nat.lt_of_lt_of_le (x.lt q) e) (Nat.lt_irrefl _)
theorem HOk.kept (x:HOk P w H h) (k:∀ b u,h.get? b=some u->h'.get? b=some u):HOk P w H h':=fun a o e=>
 (x a o e).stay (fun b u _ q=>k b u q) (fun _ q=>q) fun _ _ q=>q
theorem HOk.laid (x:HOk P w H h) (k:∀ b u,h.get? b=some u->h'.get? b=some u) (hp:h.objs.size<=a) (new:bU P w (upd H a o) h' a o):HOk P w (upd H a o) h':=fun b u e=>by
 have hn:=x.fresh hp
 by_cases hb:b=a
 ·subst hb; rw [bO] at e; cases e; exact new
 ·rw [bK hb] at e
  exact (x b u e).stay (fun c v _ q=>k c v q) (fun c q=>by rw [bK (bZ q hn)]; exact q) fun c xs q=>by rw [bK (bZ q hn)]; exact q
end
def Rd (H:Hp) (a:Addr) (u:HO):Prop:=H a=some u\/∃ o,H a=some (.frz o u)
theorem Rd.ok {P:Program} {w:World} {H:Hp} {h:Heap} {a:Addr} {u:HO} (r:Rd H a u) (x:HOk P w H h):bU P w H h a u:=by
 rcases r with r | ⟨o,r⟩
 ·exact x a u r
 ·obtain ⟨_,q⟩:=x a _ r
  exact q
def Mut:Option HO->Prop
 | some (.lst _)=>True
 | some (.dK _)=>True
 | some (.dT _)=>True
 | some (.set _ _)=>True
 | some (.ins _ _ _)=>True
 | some (.ext _)=>True
 | _=>False
section
variable {P:Program} {w:World} {H:Hp} {h h':Heap} {x e:Addr} {o':HO}
theorem HOk.write (ok:HOk P w H h) (mu:Mut (H x)) (he:e=x\/H e=some (.own x)) (k:∀ b u,b≠e->h.get? b=some u->h'.get? b=some u) (heo:∃ u,h'.get? e=some u)
  (new:bU P w (upd H x o') h' x o'):HOk P w (upd H x o') h':=fun b u q=>by
 have nown:∀ c y,H c=some (.own y)->c≠x:=fun c y r z=>by subst z; rw [r] at mu; exact mu
 have ntup:∀ c xs,H c=some (.tup xs)->c≠x:=fun c xs r z=>by subst z; rw [r] at mu; exact mu
 by_cases hb:b=x
 ·subst hb; rw [bO] at q; cases q; exact new
 ·rw [bK hb] at q
  by_cases hbe:b=e
  ·have q':H b=some (.own x):=by
    rcases he with z | z
    ·exact absurd (hbe.trans z) hb
    ·rw [hbe]; exact z
   rw [q] at q'; cases q'
   obtain ⟨v,hv⟩:=heo
   exact ⟨v,by rw [hbe]; exact hv⟩
  ·refine (ok b u q).stay (fun c v hc r=>k c v ?_ r) (fun c r=>by rw [bK (nown c b r)]; exact r) fun c xs r=>by rw [bK (ntup c xs r)]; exact r
   rcases hc with rfl | hc
   ·exact hbe
   ·rintro rfl
    rcases he with z | z
    ·exact nown c b hc z
    ·rw [hc] at z; cases z; exact hb rfl
end
structure Un (fs ex:List Addr) (H H':Hp) (h h':Heap):Prop where
 keep:∀ b o,h.get? b=some o->H b=none->b∉fs->b∉ex->h'.get? b=some o
 slot:∀ b o,h.get? b=some o->H b=none->b∈fs->b∉ex->∃ sl,h'.get? b=some { o with slots:=sl }
 free:∀ b o,h.get? b=some o->H b=none->b∉ex->H' b=none
 there:∀ b o,h.get? b=some o->b∉ex->∃ o',h'.get? b=some o'
 tups:∀ b xs,H b=some (.tup xs)->H' b=some (.tup xs)
 frzs:∀ b o u,H b=some (.frz o u)->H' b=some (.frz o u)
 tbls:∀ b ps,H b=some (.tbl ps)->∃ more,H' b=some (.tbl (ps++more))
section
variable {fs fs' ex ex':List Addr} {H H1 H2:Hp} {h h1 h2 h':Heap} {a x e:Addr} {o:HO}
theorem Un.any (u:Un fs ex H H1 h h1) {b:Addr} {ob:Obj} (q:h.get? b=some ob) (n:H b=none) (hx:b∉ex):∃ sl,h1.get? b=some { ob with slots:=sl }:=by
 by_cases hb:b∈fs
 ·exact u.slot b ob q n hb hx
 ·exact ⟨ob.slots,u.keep b ob q n hb hx⟩
theorem Un.kept (k:∀ b u,h.get? b=some u->h'.get? b=some u):Un fs ex H H h h':=
 ⟨fun b ob q _ _ _=>k b ob q,fun b ob q _ _ _=>⟨ob.slots,k b ob q⟩,fun _ _ _ n _=>n,fun b ob q _=>⟨ob,k b ob q⟩,fun _ _ q=>q,fun _ _ _ q=>q,fun _ ps q=>⟨#[],by rw [q]; simp⟩⟩
theorem Un.refl:Un fs ex H H h h:=Un.kept fun _ _ q=>q
theorem Un.laid (k:∀ b u,h.get? b=some u->h'.get? b=some u) (hp:h.objs.size<=a) (hn:H a=none):Un fs ex H (upd H a o) h h' where
 keep:=fun b u q _ _ _=>k b u q
 slot:=fun b u q _ _ _=>⟨u.slots,k b u q⟩
 free:=fun b u q n _=>by rw [bK (Nat.ne_of_lt (Nat.lt_of_lt_of_le (Heap.lt_size q) hp))]; exact n
 there:=fun b u q _=>⟨u,k b u q⟩
 tups:=fun b xs q=>by rw [bK (bZ q hn)]; exact q
 frzs:=fun b u xs q=>by rw [bK (bZ q hn)]; exact q
 tbls:=fun b ps q=>⟨#[],by rw [bK (bZ q hn),q]; simp⟩
theorem Un.write (mu:Mut (H x)) (he:e=x\/H e=some (.own x)) (k:∀ b u,b≠e->h.get? b=some u->h'.get? b=some u) (heo:∃ u,h'.get? e=some u):Un fs ex H (upd H x o) h h':=by
 have hx:∀ b,H b=none->b≠x:=fun b n z=>by subst z; rw [n] at mu; exact mu
 have hb:∀ b,H b=none->b≠e:=fun b n z=>by
  subst z
  rcases he with r | r
  ·exact hx b n r
  ·rw [n] at r; cases r
 have hm:∀ b u,H b=some u->¬ Mut (some u)->b≠x:=fun b u q nm z=>by subst z; rw [q] at mu; exact nm mu
 refine ⟨fun b u q n _ _=>k b u (hb b n) q,fun b u q n _ _=>⟨u.slots,k b u (hb b n) q⟩,fun b u q n _=>by rw [bK (hx b n)]; exact n,fun b u q _=>?_,
  fun b xs q=>by rw [bK (hm b _ q fun z=>z)]; exact q,fun b u xs q=>by rw [bK (hm b _ q fun z=>z)]; exact q,fun b ps q=>⟨#[],by rw [bK (hm b _ q fun z=>z),q]; simp⟩⟩
 by_cases hbe:b=e
 ·subst hbe; exact heo
 ·exact ⟨u,k b u hbe q⟩
end
def trk (h:Heap) (H:Hp):List Addr:=(List.range h.objs.size).filter fun a=>(H a).isSome
def vP (h:Heap) (H:Hp):Heap:=PySem.W.hideAll h (trk h H)
theorem CF (h:Heap) (H:Hp):(vP h H).objs.size=h.objs.size:=PySem.W.hideAll_size _ _
theorem Ej {h:Heap} {H:Hp} {b:Addr} {o:Obj} (e:h.get? b=some o) (n:H b=none):(vP h H).get? b=some o:=
 PySem.W.hideAll_get _ e fun hm=>by
  have q:(H b).isSome=true:=(List.mem_filter.mp hm).2
  rw [n] at q; simp at q
theorem Hf {h:Heap} {H:Hp} {b:Addr} {o:Obj} (e:(vP h H).get? b=some o):h.get? b=some o/\H b=none:=by
 have e':h.get? b=some o:=PySem.W.of_hideAll (trk h H) e
 refine ⟨e',?_⟩
 cases q:H b with
 | none=>rfl
 | some x=>
  have hm:b∈trk h H:=List.mem_filter.mpr ⟨List.mem_range.mpr (Heap.lt_size e'),by simp [q]⟩
  have z:(vP h H).get? b=none:=PySem.W.hideAll_none (trk h H) hm
  rw [z] at e; cases e
def Hg (g h:Heap) (L:Addr):List (Addr×Obj):=(List.range h.objs.size).filterMap fun a=>if a=L\/(g.get? a).isSome=true then none else (h.get? a).map fun o=>(a,o)
def rest (g h:Heap) (L d:Addr):List (Addr×Obj):=(Hg g h L).filter fun p=>decide (p.1≠d)
end L2
namespace L2
open PySem PySem.Spec PyProof.Rows
structure Mod (K:PySem.W.Frag) (mg:Str->Option Value) (base:Heap):Prop where
 kin:K.In base
 glob:base.Ns mainGlobals mg
 blt:∃ mb,base.Ns builtinsNs mb/\∀ x:Str,x≠"__name__" -> mb x=bootBuiltins x
 nolimit:base.NoLimit
structure Cx where
 prog:Program
 w:World
 K:PySem.W.Frag
 mg:Str->Option Value
 base:Heap
 A:Around
 N:List Str
 s₀:Shared
 H₀:Hp
 env:Env
 outer:List Env
 stack:List Env
 ex:List Addr
 fn:Str->Bool
 calm:Bool
 pn:List (Addr×Obj)
 xe:Value->Shared->Prop
def frs (l:List Env):List Addr:=l.filterMap (·.frame)
abbrev Cx.fs (X:Cx):List Addr:=frs X.outer
def Vis (sc:Scope) (x:Str):Prop:=sc.names.lookup x=some .local\/sc.names.lookup x=some .cell\/sc.names.lookup x=some .free
def Loc (sc:Scope) (x:Str):Prop:=sc.names.lookup x=some .local\/sc.names.lookup x=some .cell
def Look (env:Env) (h:Heap) (m:Str->Option Value) (x:Str) (u:Value):Prop:=
 (env.kindOf x=some .local/\m x=some u)\/((env.kindOf x=some .cell\/env.kindOf x=some .free)/\∃ c,env.cells.lookup x=some c/\h.IsCell c (some u))
structure Cx.Ok (X:Cx):Prop where
 mod:Mod X.K X.mg X.base
 kind:X.env.scope.kind=.function
 glob:X.env.globals=mainGlobals
 blt:X.env.builtins=builtinsNs
 above:X.s₀.heap.objs.size<=X.env.locals
 inj:∀ x y c,X.env.cells.lookup x=some c->X.env.cells.lookup y=some c->x=y
 has:∀ x,(X.env.kindOf x=some .cell\/X.env.kindOf x=some .free)->∃ c,X.env.cells.lookup x=some c
 cab:∀ x c,X.fn x=true->X.env.cells.lookup x=some c->X.s₀.heap.objs.size<=c
 hd:X.calm=true->X.A.handled=none
 frames:X.A.frames=some X.stack
 stk:X.stack=X.outer\/(X.stack=X.env :: X.outer/\X.env.frame=some X.env.locals)
 exf:∀ b∈X.ex,b≠X.env.locals/\∀ x c,X.env.cells.lookup x=some c->c≠b
 bs:∀ b o,X.base.get? b=some o->X.s₀.heap.get? b=some o/\X.H₀ b=none
 bsz:X.base.objs.size<=X.s₀.heap.objs.size
 noex:∀ b o,X.base.get? b=some o->b∉X.ex
 exfs:∀ b∈X.ex,b∉X.fs
 funs:X.s₀.heap.FunFrames X.base X.outer
 frf:∀ b∈X.fs,X.H₀ b=none
structure Inv (X:Cx) (pins:List (Addr×Obj)) (σ:List (Option V)) (H:Hp) (s:Shared):Prop where
 ok:X.Ok
 os:s.os=X.s₀.os
 bare:AllBare s.gens
 base:Un X.fs X.ex X.H₀ H X.s₀.heap s.heap
 loc:∃ m,s.heap.Ns X.env.locals m/\∀ (i:Nat) (x:Str) (v:V),X.N[i]?=some x->σ[i]?=some (some v)->Vis X.env.scope x->∃ u,RelV v u/\Look X.env s.heap m x u
 cell:∀ x c,X.env.cells.lookup x=some c->∃ v,s.heap.IsCell c v
 free:H X.env.locals=none
 freeC:∀ x c,X.env.cells.lookup x=some c->H c=none
 pin:∀ p∈X.pn++pins,s.heap.get? p.1=some p.2/\H p.1=none/\p.1≠X.env.locals/\p.1∉X.fs/\∀ v,p.2.data≠.cell v
 hok:HOk X.prog X.w H s.heap
 len:σ.length=X.N.length
section
variable {X:Cx} {pins:List (Addr×Obj)} {σ:List (Option V)} {H H':Hp} {s:Shared} {h':Heap}
theorem Cx.Ok.nofr (ok:X.Ok) {b:Addr} {o:Obj} (e:X.base.get? b=some o):b∉X.fs:=fun hb=>by
 have:=(ok.funs.mem hb).1
 rw [e] at this; cases this
theorem Inv.bs (I:Inv X pins σ H s):∀ b o,X.base.get? b=some o->s.heap.get? b=some o/\H b=none:=fun b o e=>
 ⟨I.base.keep b o (I.ok.bs b o e).1 (I.ok.bs b o e).2 (I.ok.nofr e) (I.ok.noex b o e),I.base.free b o (I.ok.bs b o e).1 (I.ok.bs b o e).2 (I.ok.noex b o e)⟩
theorem Inv.bk (I:Inv X pins σ H s):∀ b o,X.base.get? b=some o->s.heap.get? b=some o:=fun b o e=>(I.bs b o e).1
theorem Inv.mod (I:Inv X pins σ H s):Mod X.K X.mg X.base:=I.ok.mod
theorem Inv.kIn (I:Inv X pins σ H s):X.K.In s.heap:=I.ok.mod.kin.keeps I.bk
theorem Inv.lt (I:Inv X pins σ H s):X.env.locals < s.heap.objs.size:=let ⟨_,hn,_⟩:=I.loc; hn.lt
theorem Inv.sz (I:Inv X pins σ H s):X.s₀.heap.objs.size<=s.heap.objs.size:=Nat.le_trans I.ok.above (Nat.le_of_lt I.lt)
theorem Inv.nofs (I:Inv X pins σ H s) {a:Addr} (h:s.heap.objs.size<=a):a∉X.fs:=fun hb=>by
 obtain ⟨_,o,ho,_⟩:=I.ok.funs.mem hb
 exact absurd (Nat.lt_of_lt_of_le (Heap.lt_size ho) (Nat.le_trans I.sz h)) (Nat.lt_irrefl _)
theorem Inv.cne (I:Inv X pins σ H s):∀ x c,X.env.cells.lookup x=some c->c≠X.env.locals:=fun x c e z=>by
 obtain ⟨v,o,ho,hd⟩:=I.cell x c e
 obtain ⟨m,⟨o',es,ep,ho',hd',_⟩,_⟩:=I.loc
 rw [z,ho'] at ho; cases ho; rw [hd'] at hd; cases hd
theorem Inv.funs (I:Inv X pins σ H s):s.heap.FunFrames X.base X.outer:=by
 have all:∀ (l:List Env),(∀ b∈frs l,b∈X.fs)->X.s₀.heap.FunFrames X.base l->s.heap.FunFrames X.base l:=by
  intro l
  induction l with
  | nil=>intro _ _; trivial
  | cons env r ih=>
   intro hs hl
   obtain ⟨hk,⟨L,o,hf,hn,ho,hd⟩,hr⟩:=hl
   have hL:L∈X.fs:=hs L (by unfold frs; rw [List.filterMap_cons,hf]; exact List.mem_cons_self)
   obtain ⟨sl,e⟩:=I.base.slot L o ho (I.ok.frf L hL) hL fun z=>I.ok.exfs L z hL
   exact ⟨hk,⟨L,_,hf,hn,e,hd⟩,ih (fun b hb=>hs b (by unfold frs; rw [List.filterMap_cons,hf]; exact List.mem_cons_of_mem _ hb)) hr⟩
 exact all X.outer (fun _ hb=>hb) I.ok.funs
theorem Inv.stack (I:Inv X pins σ H s):s.heap.FunFrames X.base X.stack:=by
 rcases I.ok.stk with e | ⟨e,hf⟩
 ·rw [e]; exact I.funs
 ·rw [e]
  obtain ⟨m,hn,_⟩:=I.loc
  refine .cons (by rw [I.ok.kind]; decide) hf hn ?_ I.funs
  exact Heap.get?_none_of_le (Nat.le_trans I.ok.bsz I.ok.above)
theorem Inv.stkSub (I:Inv X pins σ H s):∀ b∈frs X.stack,b∈X.env.locals :: X.fs:=fun b hb=>by
 rcases I.ok.stk with e | ⟨e,hf⟩
 ·rw [e] at hb; exact List.mem_cons_of_mem _ hb
 ·rw [e] at hb
  unfold frs at hb
  rw [List.filterMap_cons,hf] at hb
  exact hb
theorem Inv.stkFree (I:Inv X pins σ H s):∀ b∈frs X.stack,H b=none:=fun b hb=>by
 rcases List.mem_cons.mp (I.stkSub b hb) with e | hb
 ·rw [e]; exact I.free
 ·obtain ⟨_,o,ho,_⟩:=I.ok.funs.mem hb
  exact I.base.free b o ho (I.ok.frf b hb) fun z=>I.ok.exfs b z hb
theorem Inv.step {g':Array GenState} {t':Nat} {d':Drawn} {ch:List Addr} (I:Inv X pins σ H s)
  (hch:∀ b∈ch,(b∈X.ex\/X.s₀.heap.objs.size<=b)/\b≠X.env.locals/\(∀ x c,X.env.cells.lookup x=some c->c≠b)/\∀ p∈X.pn++pins,p.1≠b)
  (keep:∀ b o,b≠X.env.locals->b∉X.fs->b∉ch->s.heap.get? b=some o->H b=none->h'.get? b=some o)
  (slot:∀ b o,b≠X.env.locals->b∈X.fs->b∉ch->s.heap.get? b=some o->H b=none->∃ sl,h'.get? b=some { o with slots:=sl }) (free:∀ b o,b∉ch->s.heap.get? b=some o->H b=none->H' b=none)
  (there:∀ b o,b∉ch->s.heap.get? b=some o->∃ o',h'.get? b=some o')
  (tups:∀ b xs,H b=some (.tup xs)->H' b=some (.tup xs)) (frzs:∀ b o u,H b=some (.frz o u)->H' b=some (.frz o u)) (tbls:∀ b ps,H b=some (.tbl ps)->∃ more,H' b=some (.tbl (ps++more)))
  (ns:∀ m,s.heap.Ns X.env.locals m->h'.Ns X.env.locals m) (hok:HOk X.prog X.w H' h') (hg:AllBare g'):
  Inv X pins σ H' { s with heap:=h',gens:=g',drawn:=d',toks:=t' }:=by
 have neL:∀ b o,X.s₀.heap.get? b=some o->b≠X.env.locals:=fun b o e=>Nat.ne_of_lt (Nat.lt_of_lt_of_le (Heap.lt_size e) I.ok.above)
 have neC:∀ b o,X.s₀.heap.get? b=some o->b∉X.ex->b∉ch:=fun b o e hx hb=>by
  rcases (hch b hb).1 with z | z
  ·exact hx z
  ·exact absurd (Nat.lt_of_lt_of_le (Heap.lt_size e) z) (Nat.lt_irrefl _)
 have cellK:∀ x c,X.env.cells.lookup x=some c->∀ v,s.heap.IsCell c v->h'.IsCell c v:=fun x c e v ⟨o,ho,hd⟩=>by
  have nch:c∉ch:=fun z=>(hch c z).2.2.1 x c e rfl
  by_cases hc:c∈X.fs
  ·obtain ⟨sl,q⟩:=slot c o (I.cne x c e) hc nch ho (I.freeC x c e)
   exact ⟨_,q,hd⟩
  ·exact ⟨o,keep c o (I.cne x c e) hc nch ho (I.freeC x c e),hd⟩
 refine ⟨I.ok,I.os,hg,⟨fun b o e n hb hx=>?_,fun b o e n hb hx=>?_,fun b o e n hx=>?_,fun b o e hx=>?_,fun b xs e=>tups b xs (I.base.tups b xs e),fun b o xs e=>frzs b o xs (I.base.frzs b o xs e),fun b ps e=>?_⟩,?_,fun x c e=>?_,?_,fun x c e=>?_,fun p hp=>?_,hok,I.len⟩
 ·exact keep b o (neL b o e) hb (neC b o e hx) (I.base.keep b o e n hb hx) (I.base.free b o e n hx)
 ·obtain ⟨sl,e1⟩:=I.base.slot b o e n hb hx
  obtain ⟨sl',e2⟩:=slot b _ (neL b o e) hb (neC b o e hx) e1 (I.base.free b o e n hx)
  exact ⟨sl',e2⟩
 ·obtain ⟨o',e1⟩:=I.base.there b o e hx
  exact free b o' (neC b o e hx) e1 (I.base.free b o e n hx)
 ·obtain ⟨o',e1⟩:=I.base.there b o e hx
  exact there b o' (neC b o e hx) e1
 ·obtain ⟨m1,e1⟩:=I.base.tbls b ps e
  obtain ⟨m2,e2⟩:=tbls b _ e1
  exact ⟨m1++m2,by rw [e2,Array.append_assoc]⟩
 ·obtain ⟨m,hn,hl⟩:=I.loc
  refine ⟨m,ns m hn,fun i x v e1 e2 e3=>?_⟩
  obtain ⟨u,r,l⟩:=hl i x v e1 e2 e3
  refine ⟨u,r,?_⟩
  rcases l with l | ⟨k,c,e,z⟩
  ·exact .inl l
  ·exact .inr ⟨k,c,e,cellK x c e _ z⟩
 ·obtain ⟨v,z⟩:=I.cell x c e
  exact ⟨v,cellK x c e v z⟩
 ·obtain ⟨m,⟨o,_,_,ho,_⟩,_⟩:=I.loc
  exact free _ o (fun z=>(hch _ z).2.1 rfl) ho I.free
 ·obtain ⟨v,o,ho,hd⟩:=I.cell x c e
  exact free c o (fun z=>(hch c z).2.2.1 x c e rfl) ho (I.freeC x c e)
 ·obtain ⟨e,n,ne,nf,d⟩:=I.pin p hp
  have nch:p.1∉ch:=fun z=>(hch p.1 z).2.2.2 p hp rfl
  exact ⟨keep p.1 p.2 ne nf nch e n,free p.1 p.2 nch e n,ne,nf,d⟩
theorem Inv.un {t':Nat} (I:Inv X pins σ H s) (u:Un X.fs [] H H' s.heap h') (hok:HOk X.prog X.w H' h'):Inv X pins σ H' { s with heap:=h',toks:=t' }:=by
 obtain ⟨m,⟨o,es,ep,ho,r⟩,_⟩:=id I.loc
 obtain ⟨sl,hL⟩:=u.any ho I.free (by simp)
 exact I.step (g':=s.gens) (d':=s.drawn) (ch:=[]) (fun _ z=>nomatch z) (fun b o _ hb _ e n=>u.keep b o e n hb (by simp)) (fun b o _ hb _ e n=>u.slot b o e n hb (by simp)) (fun b o _ e n=>u.free b o e n (by simp)) (fun b o _ e=>u.there b o e (by simp)) u.tups u.frzs u.tbls (fun m' hm=>by
  obtain ⟨o',es',ep',ho',r'⟩:=hm
  rw [ho] at ho'; cases ho'
  exact ⟨_,es',ep',hL,r'⟩) hok I.bare
theorem Inv.call {g':Array GenState} {t':Nat} {d':Drawn} {ch:List Addr} (I:Inv X pins σ H s) (u:Un (frs X.stack) ch H H' s.heap h') (hok:HOk X.prog X.w H' h') (hg:AllBare g')
  (hch:∀ b∈ch,(b∈X.ex\/X.s₀.heap.objs.size<=b)/\b≠X.env.locals/\(∀ x c,X.env.cells.lookup x=some c->c≠b)/\∀ p∈X.pn++pins,p.1≠b):
  Inv X pins σ H' { s with heap:=h',gens:=g',drawn:=d',toks:=t' }:=by
 obtain ⟨m,⟨o,es,ep,ho,r⟩,_⟩:=id I.loc
 obtain ⟨sl,hL⟩:=u.any ho I.free fun z=>(hch _ z).2.1 rfl
 exact I.step (ch:=ch) hch (fun b o hL hb hc e n=>u.keep b o e n (fun z=>(List.mem_cons.mp (I.stkSub b z)).elim hL hb) hc) (fun b o _ _ hc e n=>u.any e n hc) (fun b o hc e n=>u.free b o e n hc) (fun b o hc e=>u.there b o e hc) u.tups u.frzs u.tbls (fun m' hm=>by
  obtain ⟨o',es',ep',ho',r'⟩:=hm
  rw [ho] at ho'; cases ho'
  exact ⟨_,es',ep',hL,r'⟩) hok hg
theorem Inv.turned {t':Nat} {it:Addr} (I:Inv X pins σ H s) (k:∀ b o,b≠it->s.heap.get? b=some o->h'.get? b=some o) (hn:H it=none) (hL:it≠X.env.locals)
  (h1:it∈X.ex\/X.s₀.heap.objs.size<=it) (h2:∀ x c,X.env.cells.lookup x=some c->c≠it) (h3:∀ p∈X.pn++pins,p.1≠it):Inv X pins σ H { s with heap:=h',toks:=t' }:=by
 have nit:∀ b u,H b=some u->b≠it:=fun b u e z=>by rw [z,hn] at e; cases e
 refine I.step (g':=s.gens) (d':=s.drawn) (ch:=[it]) (fun b hb=>?_) (fun b o _ _ hc e _=>k b o (fun z=>hc (by simp [z])) e) (fun b o _ _ hc e _=>⟨o.slots,k b o (fun z=>hc (by simp [z])) e⟩) (fun _ _ _ _ n=>n)
  (fun b o hc e=>⟨o,k b o (fun z=>hc (by simp [z])) e⟩) (fun _ _ e=>e) (fun _ _ _ e=>e) (fun b ps e=>⟨#[],by rw [e]; simp⟩) (fun m hm=>?_) (fun b u e=>?_) I.bare
 ·have e:b=it:=by simpa using hb
  subst e
  exact ⟨h1,hL,h2,h3⟩
 ·obtain ⟨o,es,ep,ho,r⟩:=hm
  exact ⟨o,es,ep,k _ o (Ne.symm hL) ho,r⟩
 ·refine (I.hok b u e).stay (fun c v hc q=>k c v ?_ q) (fun _ q=>q) fun _ _ q=>q
  rcases hc with z | z
  ·rw [z]; exact nit b u e
  ·exact nit c _ z
theorem Inv.tok (I:Inv X pins σ H s) (t:Nat):Inv X pins σ H { s with toks:=t }:=I.un (h':=s.heap) (t':=t) Un.refl I.hok
theorem Inv.kept {t':Nat} (I:Inv X pins σ H s) (k:∀ b u,s.heap.get? b=some u->h'.get? b=some u):Inv X pins σ H { s with heap:=h',toks:=t' }:=I.un (Un.kept k) (I.hok.kept k)
theorem Inv.laid {a:Addr} {o:HO} {t':Nat} (I:Inv X pins σ H s) (k:∀ b u,s.heap.get? b=some u->h'.get? b=some u) (hp:s.heap.objs.size<=a) (new:bU X.prog X.w (upd H a o) h' a o):
  Inv X pins σ (upd H a o) { s with heap:=h',toks:=t' }:=I.un (Un.laid k hp (I.hok.fresh hp)) (I.hok.laid k hp new)
theorem Inv.write {x e:Addr} {o:HO} {t':Nat} (I:Inv X pins σ H s) (mu:Mut (H x)) (he:e=x\/H e=some (.own x)) (k:∀ b u,b≠e->s.heap.get? b=some u->h'.get? b=some u) (heo:∃ u,h'.get? e=some u)
  (new:bU X.prog X.w (upd H x o) h' x o):Inv X pins σ (upd H x o) { s with heap:=h',toks:=t' }:=I.un (Un.write mu he k heo) (I.hok.write mu he k heo new)
theorem Inv.pins_of {pins':List (Addr×Obj)} (I:Inv X pins σ H s) (h:∀ p∈pins',s.heap.get? p.1=some p.2/\H p.1=none/\p.1≠X.env.locals/\p.1∉X.fs/\∀ v,p.2.data≠.cell v):Inv X pins' σ H s:=
 ⟨I.ok,I.os,I.bare,I.base,I.loc,I.cell,I.free,I.freeC,fun p hp=>(List.mem_append.mp hp).elim (fun z=>I.pin p (List.mem_append_left _ z)) (h p),I.hok,I.len⟩
theorem yL {N:List Str} (hN:N.Nodup) {i j:Nat} {x:Str} (a:N[i]?=some x) (b:N[j]?=some x):i=j:=by
 obtain ⟨h1,e1⟩:=List.getElem?_eq_some_iff.mp a
 obtain ⟨h2,e2⟩:=List.getElem?_eq_some_iff.mp b
 exact (List.getElem_inj hN).mp (e1.trans e2.symm)
theorem sZ {M:Model} {A:Around} {E:Value->Shared->Prop} {i:Nat} {x:Str} {v:V} {u:Value} {Q:Unit->Shared->Prop} (I:Inv X pins σ H s) (hN:X.N.Nodup) (hi:X.N[i]?=some x) (hx:Loc X.env.scope x) (r:RelV v u)
  (h:∀ s',Inv X pins (σ.set i (some v)) H s'->(∃ a,Heap.SameBut a s.heap s'.heap/\(a=X.env.locals\/X.env.cells.lookup x=some a))->Q () s') (hf:X.fn x=true\/X.env.scope.names.lookup x=some .local:=by first | exact .inl rfl | exact .inr rfl | assumption):wpAny M A (storeName X.env x u) Q E s:=by
 obtain ⟨m,hn,hl⟩:=id I.loc
 have hcls:(X.env.scope.kind == .class || (X.env.scope.kind == .module && X.env.locals != X.env.globals))=false:=by rw [I.ok.kind]; rfl
 have hiσ:i < σ.length:=by rw [I.len]; exact (List.getElem?_eq_some_iff.mp hi).1
 have cne:=I.cne
 have tracked:∀ {a:Addr} {h':Heap},(∃ o,s.heap.get? a=some o/\H a=none)->Heap.SameBut a s.heap h'->HOk X.prog X.w H h':=fun {a h'} ha hs b ob e=>by
  obtain ⟨_,_,hfree⟩:=ha
  refine (I.hok b ob e).stay (fun c w' hc q=>(hs.2 c ?_).trans q) (fun _ q=>q) fun _ _ q=>q
  rintro rfl
  rcases hc with rfl | hc
  ·rw [hfree] at e; cases e
  ·rw [hfree] at hc; cases hc
 rcases hx with hk | hk
 ·refine wpAny_storeName_local hk hn (fun h' hn' hs=>?_) hcls
  obtain ⟨oL,_,_,hoL,_⟩:=id hn
  refine h _ ⟨I.ok,I.os,I.bare,⟨fun b o e n hb hx=>?_,fun b o e n hb hx=>?_,I.base.free,fun b o e hx=>?_,I.base.tups,I.base.frzs,I.base.tbls⟩,⟨_,hn',fun j y v' e1 e2 e3=>?_⟩,fun y c e=>?_,I.free,I.freeC,fun p hp=>?_,tracked ⟨oL,hoL,I.free⟩ hs,by simpa using I.len⟩ ⟨_,hs,.inl rfl⟩
  ·exact (hs.2 b (Nat.ne_of_lt (Nat.lt_of_lt_of_le (Heap.lt_size e) I.ok.above))).trans (I.base.keep b o e n hb hx)
  ·obtain ⟨sl,e1⟩:=I.base.slot b o e n hb hx
   exact ⟨sl,(hs.2 b (Nat.ne_of_lt (Nat.lt_of_lt_of_le (Heap.lt_size e) I.ok.above))).trans e1⟩
  ·obtain ⟨o',e1⟩:=I.base.there b o e hx
   exact ⟨o',(hs.2 b (Nat.ne_of_lt (Nat.lt_of_lt_of_le (Heap.lt_size e) I.ok.above))).trans e1⟩
  ·by_cases hj:j=i
   ·subst hj
    rw [hi] at e1; cases e1
    rw [List.getElem?_set_self hiσ] at e2
    cases e2
    exact ⟨u,r,.inl ⟨hk,by simp⟩⟩
   ·rw [List.getElem?_set_ne (Ne.symm hj)] at e2
    obtain ⟨u',r',q⟩:=hl j y v' e1 e2 e3
    refine ⟨u',r',?_⟩
    rcases q with ⟨k,e⟩ | ⟨k,c,e,z⟩
    ·refine .inl ⟨k,?_⟩
     have:y≠x:=fun e=>hj (yL hN e1 (e ▸ hi))
     simp [this,e]
    ·exact .inr ⟨k,c,e,z.sameBut hs (cne y c e)⟩
  ·obtain ⟨w',z⟩:=I.cell y c e
   exact ⟨w',z.sameBut hs (cne y c e)⟩
  ·obtain ⟨e,n,ne,nf,d⟩:=I.pin p hp
   exact ⟨(hs.2 p.1 ne).trans e,n,ne,nf,d⟩
 ·have hfn:X.fn x=true:=by
   rcases hf with z | z
   ·exact z
   ·rw [z] at hk; cases hk
  obtain ⟨c,hc⟩:=I.ok.has x (.inl hk)
  obtain ⟨w',z⟩:=I.cell x c hc
  refine wpAny_storeName_cell I.ok.kind hk hc z (fun h' hc' hs=>?_)
  obtain ⟨oc,hoc,hocd⟩:=id z
  refine h { s with heap:=h' } ⟨I.ok,I.os,I.bare,⟨fun b o e n hb hx=>?_,fun b o e n hb hx=>?_,I.base.free,fun b o e hx=>?_,I.base.tups,I.base.frzs,I.base.tbls⟩,⟨m,hn.sameBut hs (Ne.symm (cne x c hc)),fun j y v' e1 e2 e3=>?_⟩,fun y c' e=>?_,I.free,I.freeC,fun p hp=>?_,tracked ⟨oc,hoc,I.freeC x c hc⟩ hs,by simpa using I.len⟩ ⟨c,hs,.inr hc⟩
  ·exact (hs.2 b (Nat.ne_of_lt (Nat.lt_of_lt_of_le (Heap.lt_size e) (I.ok.cab x c hfn hc)))).trans (I.base.keep b o e n hb hx)
  ·obtain ⟨sl,e1⟩:=I.base.slot b o e n hb hx
   exact ⟨sl,(hs.2 b (Nat.ne_of_lt (Nat.lt_of_lt_of_le (Heap.lt_size e) (I.ok.cab x c hfn hc)))).trans e1⟩
  ·obtain ⟨o',e1⟩:=I.base.there b o e hx
   exact ⟨o',(hs.2 b (Nat.ne_of_lt (Nat.lt_of_lt_of_le (Heap.lt_size e) (I.ok.cab x c hfn hc)))).trans e1⟩
  ·by_cases hj:j=i
   ·subst hj
    rw [hi] at e1; cases e1
    rw [List.getElem?_set_self hiσ] at e2
    cases e2
    exact ⟨u,r,.inr ⟨.inl hk,c,hc,hc'⟩⟩
   ·rw [List.getElem?_set_ne (Ne.symm hj)] at e2
    obtain ⟨u',r',q⟩:=hl j y v' e1 e2 e3
    refine ⟨u',r',?_⟩
    rcases q with q | ⟨k,c',e,z'⟩
    ·exact .inl q
    ·refine .inr ⟨k,c',e,z'.sameBut hs ?_⟩
     rintro rfl
     exact hj (yL hN e1 (I.ok.inj _ _ _ e hc ▸ hi))
  ·by_cases hcc:c'=c
   ·subst hcc; exact ⟨_,hc'⟩
   ·obtain ⟨w2,z2⟩:=I.cell y c' e
    exact ⟨w2,z2.sameBut hs hcc⟩
  ·obtain ⟨e,n,ne,nf,d⟩:=I.pin p hp
   refine ⟨(hs.2 p.1 ?_).trans e,n,ne,nf,d⟩
   intro q
   rw [q,hoc] at e
   have q':oc=p.2:=Option.some.inj e
   exact d w' (by rw [<- q']; exact hocd)
theorem yM {M:Model} {A:Around} {E:Value->Shared->Prop} {i:Nat} {x:Str} {v:V} {u:Value} {Q:Unit->Shared->Prop} (I:Inv X pins σ H s) (hN:X.N.Nodup) (hi:X.N[i]?=some x) (hx:Loc X.env.scope x) (r:RelV v u)
  (h:∀ s',Inv X pins (σ.set i (some v)) H s'->Q () s') (hf:X.fn x=true\/X.env.scope.names.lookup x=some .local:=by first | exact .inl rfl | exact .inr rfl | assumption):wpAny M A (storeName X.env x u) Q E s:=
 sZ I hN hi hx r (fun s' I' _=>h s' I') hf
theorem Inv.call' {s':Shared} {ch:List Addr} (I:Inv X pins σ H s) (ho:s'.os=s.os) (u:Un (frs X.stack) ch H H' s.heap s'.heap) (hok:HOk X.prog X.w H' s'.heap) (hg:AllBare s'.gens)
  (hch:∀ b∈ch,(b∈X.ex\/X.s₀.heap.objs.size<=b)/\b≠X.env.locals/\(∀ x c,X.env.cells.lookup x=some c->c≠b)/\∀ p∈X.pn++pins,p.1≠b):Inv X pins σ H' s':=by
 obtain ⟨h',g',d',t',o'⟩:=s'
 have e:o'=s.os:=ho
 subst e
 exact I.call (g':=g') (t':=t') (d':=d') u hok hg hch
end
abbrev XK:=Value->Option Addr->Hp->Prop
abbrev St:=List (Option V)
abbrev VK:=V->Hp->Prop
abbrev TE:=St->Hp->VK->Prop
abbrev TT:=St->Hp->(Bool->Hp->Prop)->Prop
abbrev TA:=St->Hp->(List V->Hp->Prop)->Prop
structure Ends where
 nx:St->Hp->Prop
 rt:VK
 bk:St->Hp->Prop:=fun _ _=>False
 ct:St->Hp->Prop:=fun _ _=>False
abbrev TS:=Ends->St->Hp->Prop
def EP (X:Cx) (pins:List (Addr×Obj)) (σ:St) (Q:VK) (u:Value) (s':Shared):Prop:=∃ v H',Inv X pins σ H' s'/\RelV v u/\Q v H'
def TP (X:Cx) (pins:List (Addr×Obj)) (σ:St) (Q:Bool->Hp->Prop) (b:Bool) (s':Shared):Prop:=∃ H',Inv X pins σ H' s'/\Q b H'
def AP (X:Cx) (pins:List (Addr×Obj)) (σ:St) (Q:List V->Hp->Prop) (us:List Value) (s':Shared):Prop:=∃ vs H',Inv X pins σ H' s'/\aK vs us/\Q vs H'
def SP (X:Cx) (pins:List (Addr×Obj)) (D:Ends) (f:Flow) (s':Shared):Prop:=
 match f with
 | .next=>∃ σ' H',Inv X pins σ' H' s'/\D.nx σ' H'
 | .brk=>∃ σ' H',Inv X pins σ' H' s'/\D.bk σ' H'
 | .cont=>∃ σ' H',Inv X pins σ' H' s'/\D.ct σ' H'
 | .ret u=>∃ v σ' H',Inv X pins σ' H' s'/\RelV v u/\D.rt v H'
def PE (X:Cx) (e:Expr) (t:TE):Prop:=
 ∀ (pins:List (Addr×Obj)) (s:Shared) (σ:St) (H:Hp) (Q:VK),Inv X pins σ H s->t σ H Q->wpAny (model X.prog X.w) X.A (eval e X.env) (EP X pins σ Q) X.xe s
def PT (X:Cx) (e:Expr) (t:TT):Prop:=
 ∀ (pins:List (Addr×Obj)) (s:Shared) (σ:St) (H:Hp) (Q:Bool->Hp->Prop),Inv X pins σ H s->t σ H Q->wpAny (model X.prog X.w) X.A (isTrue e X.env (eval e X.env)) (TP X pins σ Q) X.xe s
def PW (X:Cx) (e:Expr) (t:TT):Prop:=
 ∀ (whole:Sem Value) (pins:List (Addr×Obj)) (s:Shared) (σ:St) (H:Hp) (Q:Bool->Hp->Prop),Inv X pins σ H s->t σ H Q->wpAny (model X.prog X.w) X.A (isTrue e X.env whole) (TP X pins σ Q) X.xe s
theorem PW.pt {X:Cx} {e:Expr} {t:TT} (h:PW X e t):PT X e t:=h _
def PA (X:Cx) (es:List Expr) (t:TA):Prop:=
 ∀ (pos:Pos) (pins:List (Addr×Obj)) (s:Shared) (σ:St) (H:Hp) (Q:List V->Hp->Prop),Inv X pins σ H s->t σ H Q->wpAny (model X.prog X.w) X.A (spliced (backTo pos (starEach es X.env))) (AP X pins σ Q) X.xe s
def PS (X:Cx) (st:Stmt) (t:TS):Prop:=
 ∀ (pins:List (Addr×Obj)) (s:Shared) (σ:St) (H:Hp) (D:Ends),Inv X pins σ H s->t D σ H->wpAny (model X.prog X.w) X.A (exec st X.env) (SP X pins D) X.xe s
def PSs (X:Cx) (st:List Stmt) (t:TS):Prop:=
 ∀ (pins:List (Addr×Obj)) (s:Shared) (σ:St) (H:Hp) (D:Ends),Inv X pins σ H s->t D σ H->wpAny (model X.prog X.w) X.A (execs st X.env) (SP X pins D) X.xe s
theorem thn {α:Type} {t:Sem α} {Q Q':α->Shared->Prop} {M:Model} {A:Around} {E:Value->Shared->Prop} {s:Shared} (h:wpAny M A t Q E s) (hQ:∀ a s,Q a s->Q' a s):wpAny M A t Q' E s:=wpAny_mono h hQ fun _ _ x=>x
end L2
namespace L2
open PySem PySem.Spec PyProof.Rows
section
variable {X:Cx}
def LN (i:Nat):TE:=fun σ H Q=>∃ v,σ[i]?=some (some v)/\Q v H
def tC (v:V):TE:=fun _ H Q=>Q v H
theorem AB {i:Nat} {x:Str} {pos:Pos} (hN:X.N[i]?=some x) (hv:Vis X.env.scope x) (hd:(x == ("__debug__" : Str))=false:=by decide) (hcd:(x == ("__classdict__" : Str))=false:=by decide):PE X (.Name x pos) (LN i):=by
 intro pins s σ H Q I h
 obtain ⟨v,e,h⟩:=h
 obtain ⟨m,hn,hl⟩:=I.loc
 obtain ⟨u,r,l⟩:=hl i x v hN e hv
 have fin:EP X pins σ Q u s:=⟨v,H,I,r,h⟩
 rcases l with ⟨hk,hm⟩ | ⟨hk,c,hc,hcell⟩
 ·exact wpAny_Name (wpAny_loadName_local I.ok.kind hk hn hm fin) hd
 ·rcases hk with hk | hk
  ·exact wpAny_Name (wpAny_loadName_cell I.ok.kind hk hc hcell fin) hd
  ·exact wpAny_Name (wpAny_loadName_free I.ok.kind hk hc hcell fin hcd) hd
theorem JN {i j pos}:PE X (.Constant (.int i) j pos) (tC (.int i)):=fun _ _ _ H _ I h=>wpAny_Constant_int ⟨.int i,H,I.tok _,⟨_,rfl⟩,h⟩
theorem LO {b j pos}:PE X (.Constant (.bool b) j pos) (tC (.bl b)):=fun _ _ _ H _ I h=>Constant_bool ⟨.bl b,H,I,rfl,h⟩
theorem JO {j pos}:PE X (.Constant .none j pos) (tC .non):=fun _ _ _ H _ I h=>Constant_none ⟨.non,H,I,rfl,h⟩
theorem JP {x j pos}:PE X (.Constant (.str x) j pos) (tC (.str x)):=fun _ _ _ H _ I h=>Calls.Constant_str ⟨.str x,H,I.tok _,⟨_,rfl⟩,h⟩
def Gl (X:Cx) (x:Str):Prop:=X.env.kindOf x=some .globalImplicit
theorem BR {E:Value->Shared->Prop} {pins:List (Addr×Obj)} {s:Shared} {σ:St} {H:Hp} {x:Str} {u:Value} {pos:Pos} {Q:Value->Shared->Prop} (I:Inv X pins σ H s) (hg:Gl X x) (hm:X.mg x=some u) (h:Q u s)
  (hd:(x == ("__debug__" : Str))=false:=by decide):wpAny (model X.prog X.w) X.A (eval (.Name x pos) X.env) Q E s:=
 Calls.Name_function_global I.ok.kind hg (Calls.loadGlobal_global (by rw [I.ok.glob]; exact I.mod.glob.keeps I.bk) hm h) hd
theorem pV {E:Value->Shared->Prop} {pins:List (Addr×Obj)} {s:Shared} {σ:St} {H:Hp} {x:Str} {u:Value} {pos:Pos} {Q:Value->Shared->Prop} (I:Inv X pins σ H s) (hg:Gl X x) (hm:X.mg x=none) (hv:bootBuiltins x=some u) (h:Q u s)
  (hn:x≠"__name__" := by decide) (hd:(x == ("__debug__" : Str))=false:=by decide):wpAny (model X.prog X.w) X.A (eval (.Name x pos) X.env) Q E s:=by
 obtain ⟨mb,h1,h2⟩:=I.mod.blt
 exact Calls.Name_function_global I.ok.kind hg (Calls.loadGlobal_builtin (by rw [I.ok.glob]; exact I.mod.glob.keeps I.bk) hm (by rw [I.ok.blt]; exact h1.keeps I.bk) ((h2 x hn).trans hv) h) hd
theorem Hh {x:Str} {v:V} {u:Value} {pos:Pos} (hg:Gl X x) (hm:X.mg x=none) (hv:bootBuiltins x=some u) (r:RelV v u) (hn:x≠"__name__" := by decide) (hd:(x == ("__debug__" : Str))=false:=by decide):PE X (.Name x pos) (tC v):=
 fun _ _ _ H _ I h=>pV I hg hm hv ⟨v,H,I,r,h⟩ hn hd
variable {a b:Expr} {ta tb:TE} {pos:Pos}
variable {tA tB':TT} {rest:List Expr}
def O4 (t u:TT):TT:=fun σ H Q=>t σ H fun c H1=>if c=true then u σ H1 Q else Q false H1
def tOr (t u:TT):TT:=fun σ H Q=>t σ H fun c H1=>if c=true then Q true H1 else u σ H1 Q
def O5 (t:TT):TT:=fun σ H Q=>t σ H fun c H1=>Q (!c) H1
theorem Hi (ha:PT X a tA):PW X (.BoolOp .And [a] pos) tA:=by
 intro wh pins s σ H Q I h
 refine isTrue_and (thn (ha pins s σ H Q I h) fun c s1 e=>?_)
 cases c with
 | true=>exact isTrue_and_nil e
 | false=>exact e
theorem JQ (ha:PT X a tA):PW X (.BoolOp .Or [a] pos) tA:=by
 intro wh pins s σ H Q I h
 refine isTrue_or (thn (ha pins s σ H Q I h) fun c s1 e=>?_)
 cases c with
 | false=>exact isTrue_or_nil e
 | true=>exact e
theorem JR (ha:PT X a tA) (hb:PW X (.BoolOp .And (b :: rest) pos) tB'):PW X (.BoolOp .And (a :: b :: rest) pos) (O4 tA tB'):=by
 intro wh pins s σ H Q I h
 refine isTrue_and (thn (ha pins s σ H _ I h) fun c s1 ⟨H1,I1,q1⟩=>?_)
 cases c with
 | true=>exact hb wh pins s1 σ H1 Q I1 q1
 | false=>exact ⟨H1,I1,q1⟩
theorem LP (ha:PT X a tA) (hb:PW X (.BoolOp .Or (b :: rest) pos) tB'):PW X (.BoolOp .Or (a :: b :: rest) pos) (tOr tA tB'):=by
 intro wh pins s σ H Q I h
 refine isTrue_or (thn (ha pins s σ H _ I h) fun c s1 ⟨H1,I1,q1⟩=>?_)
 cases c with
 | true=>exact ⟨H1,I1,q1⟩
 | false=>exact hb wh pins s1 σ H1 Q I1 q1
theorem JS (ha:PT X a tA):PT X (.UnaryOp .Not a pos) (O5 tA):=by
 intro pins s σ H Q I h
 exact isTrue_not (ha pins s σ H (fun c H1=>Q (!c) H1) I h)
theorem JT {op} {t:TE} (h:PE X a t):PE X (.BoolOp op [a] pos) t:=fun pins s σ H Q I hw=>BoolOp_one (h pins s σ H Q I hw)
def tIf (t:TT) (ta tb:TE):TE:=fun σ H Q=>t σ H fun c H1=>if c=true then ta σ H1 Q else tb σ H1 Q
theorem Ek {c:Expr} (hc:PT X c tA) (ha:PE X a ta) (hb:PE X b tb):PE X (.IfExp c a b pos) (tIf tA ta tb):=by
 intro pins s σ H Q I h
 refine wpAny_IfExp (thn (hc pins s σ H _ I h) fun d s1 ⟨H1,I1,q1⟩=>?_)
 cases d with
 | true=>exact ha pins s1 σ H1 Q I1 q1
 | false=>exact hb pins s1 σ H1 Q I1 q1
end
end L2
namespace L2
open PySem PySem.Spec PyProof.Rows
def SqL (K:PySem.W.Frag) (H:Hp) (a:Addr) (xs:List V):Prop:=
 Rd H a (.lst xs)\/
  ∃ (o:Obj) (its:Array Value) (n:Nat),K.lookup a=some o/\o.cls=.type "list" /\ o.dict=none/\o.data=.seq its n/\its.size<=sizeLine/\aK xs its.toList
def SqT (K:PySem.W.Frag) (H:Hp) (a:Addr) (xs:List V):Prop:=
 Rd H a (.tup xs)\/
  ∃ (o:Obj) (its:Array Value) (n:Nat),K.lookup a=some o/\o.cls=.type "tuple" /\ o.data=.seq its n/\its.size<=sizeLine/\aK xs its.toList/\o.dict=none
def O6:Value->Option V
 | .none=>some .non
 | .bool b=>some (.bl b)
 | .int i _=>some (.int i)
 | .str x _=>some (.str x)
 | .bytes b _=>some (.byt b)
 | .float b _=>some (.flt b)
 | .ref a=>some (.ref a)
 | .type n=>some (.ty n)
 | _=>none
theorem RelV.abs {x:V} {u:Value} (r:RelV x u):O6 u=some x:=by
 cases x with
 | non=>cases r; rfl
 | bl _=>cases r; rfl
 | int _=>obtain ⟨t,rfl⟩:=r; rfl
 | str _=>obtain ⟨t,rfl⟩:=r; rfl
 | byt _=>obtain ⟨t,rfl⟩:=r; rfl
 | flt _=>obtain ⟨t,rfl⟩:=r; rfl
 | ref _=>cases r; rfl
 | ty _=>cases r; rfl
theorem RelV.inj {x y:V} {u:Value} (r:RelV x u) (q:RelV y u):x=y:=Option.some.inj (r.abs.symm.trans q.abs)
theorem aK.inj:∀ {xs ys:List V} {us:List Value},aK xs us->aK ys us->xs=ys
 | _,_,_,.nil,.nil=>rfl
 | _,_,_,.cons r t,.cons r' t'=>by rw [r.inj r',aK.inj t t']
section
variable {X:Cx} {pins:List (Addr×Obj)} {σ:St} {H:Hp} {s:Shared} {a:Addr} {xs ys:List V}
theorem SqL.of {K:PySem.W.Frag} (h:H a=some (.lst xs)):SqL K H a xs:=.inl (.inl h)
theorem SqT.of {K:PySem.W.Frag} (h:H a=some (.tup xs)):SqT K H a xs:=.inl (.inl h)
theorem Inv.list (I:Inv X pins σ H s) (h:SqL X.K H a xs):∃ its:List Value,aK xs its/\PlainL s.heap a its.toArray/\xs.length<=sizeLine:=by
 rcases h with h | ⟨o,its,n,hk,hc,hd,hs,hz,r⟩
 ·obtain ⟨z,its,n,r,e⟩:=h.ok I.hok
  exact ⟨its,r,⟨_,n,e,rfl,rfl,rfl⟩,z⟩
 ·refine ⟨its.toList,r,⟨o,n,I.kIn a o hk,hc,hd,by simpa using hs⟩,?_⟩
  have e:=r.length
  simp only [Array.length_toList] at e
  omega
theorem Inv.tuple (I:Inv X pins σ H s) (h:SqT X.K H a xs):∃ its:List Value,aK xs its/\IsTup s.heap a its.toArray/\xs.length<=sizeLine:=by
 rcases h with h | ⟨o,its,n,hk,hc,hs,hz,r,_⟩
 ·obtain ⟨z,its,r,p⟩:=h.ok I.hok
  exact ⟨its,r,p.is,z⟩
 ·refine ⟨its.toList,r,⟨o,I.kIn a o hk,hc,n,by simpa using hs⟩,?_⟩
  have e:=r.length
  simp only [Array.length_toList] at e
  omega
theorem Inv.list_inj (I:Inv X pins σ H s) (h:SqL X.K H a xs) (h':SqL X.K H a ys):xs=ys:=by
 obtain ⟨its,r,⟨o,n,e,_,_,d⟩,_⟩:=I.list h
 obtain ⟨its',r',⟨o',n',e',_,_,d'⟩,_⟩:=I.list h'
 rw [e] at e'; cases e'
 rw [d] at d'
 injection d' with d1 _
 have:its=its':=by simpa using congrArg Array.toList d1
 subst this
 exact r.inj r'
theorem Inv.tuple_inj (I:Inv X pins σ H s) (h:SqT X.K H a xs) (h':SqT X.K H a ys):xs=ys:=by
 obtain ⟨its,r,⟨o,e,_,n,d⟩,_⟩:=I.tuple h
 obtain ⟨its',r',⟨o',e',_,n',d'⟩,_⟩:=I.tuple h'
 rw [e] at e'; cases e'
 rw [d] at d'
 injection d' with d1 _
 have:its=its':=by simpa using congrArg Array.toList d1
 subst this
 exact r.inj r'
end
abbrev Cx.wish (X:Cx) (E:Value->Shared->Prop):Cx:={ X with xe:=E }
abbrev Cx.nox (X:Cx):Cx:=X.wish fun _ _=>False
theorem Cx.Ok.wish {X:Cx} (ok:X.Ok) (E:Value->Shared->Prop):(X.wish E).Ok:=
 ⟨ok.mod,ok.kind,ok.glob,ok.blt,ok.above,ok.inj,ok.has,ok.cab,ok.hd,ok.frames,ok.stk,ok.exf,ok.bs,ok.bsz,ok.noex,ok.exfs,ok.funs,ok.frf⟩
theorem Cx.Ok.unwish {X:Cx} {E:Value->Shared->Prop} (ok:(X.wish E).Ok):X.Ok:=
 ⟨ok.mod,ok.kind,ok.glob,ok.blt,ok.above,ok.inj,ok.has,ok.cab,ok.hd,ok.frames,ok.stk,ok.exf,ok.bs,ok.bsz,ok.noex,ok.exfs,ok.funs,ok.frf⟩
section
variable {X:Cx} {pins:List (Addr×Obj)} {σ:St} {H:Hp} {s:Shared} {E:Value->Shared->Prop}
theorem Inv.wish (I:Inv X pins σ H s) (E:Value->Shared->Prop):Inv (X.wish E) pins σ H s:=⟨I.ok.wish E,I.os,I.bare,I.base,I.loc,I.cell,I.free,I.freeC,I.pin,I.hok,I.len⟩
theorem Inv.unwish (I:Inv (X.wish E) pins σ H s):Inv X pins σ H s:=⟨I.ok.unwish,I.os,I.bare,I.base,I.loc,I.cell,I.free,I.freeC,I.pin,I.hok,I.len⟩
theorem SP.unwish {D:Ends} {f:Flow} {s':Shared} (h:SP (X.wish E) pins D f s'):SP X pins D f s':=by
 cases f with
 | next=>obtain ⟨σ',H',I,q⟩:=h; exact ⟨σ',H',I.unwish,q⟩
 | brk=>obtain ⟨σ',H',I,q⟩:=h; exact ⟨σ',H',I.unwish,q⟩
 | cont=>obtain ⟨σ',H',I,q⟩:=h; exact ⟨σ',H',I.unwish,q⟩
 | ret u=>obtain ⟨v,σ',H',I,r,q⟩:=h; exact ⟨v,σ',H',I.unwish,r,q⟩
theorem PSs.nox {st:List Stmt} {t:TS} (h:PSs X.nox st t):PSs X st t:=fun pins s σ H D I hw=>
 wpAny_mono (h pins s σ H D (I.wish _) hw) (fun _ _ q=>q.unwish) fun _ _ z=>False.elim z
end
section
variable {X:Cx} {st:Stmt} {rest:List Stmt} {t u:TS} {e:Expr} {te:TE} {pos:Pos}
def LQ:TS:=fun D σ H=>D.nx σ H
def O7 (t u:TS):TS:=fun D σ H=>t { D with nx:=u D } σ H
theorem Hj:PSs X [] LQ:=fun _ _ σ H _ I h=>wpAny_execs_nil ⟨σ,H,I,h⟩
theorem El (h1:PS X st t) (h2:PSs X rest u):PSs X (st :: rest) (O7 t u):=by
 intro pins s σ H D I h
 refine wpAny_execs_cons (thn (h1 pins s σ H { D with nx:=u D } I h) fun f s1 q=>?_)
 cases f with
 | next=>
  obtain ⟨σ',H',I',q⟩:=q
  exact h2 pins s1 σ' H' D I' q
 | ret v=>exact q
 | brk=>exact q
 | cont=>exact q
theorem Hk (h1:PS X st t):PSs X [st] t:=by
 intro pins s σ H D I h
 refine wpAny_execs_cons (thn (h1 pins s σ H D I h) fun f s1 q=>?_)
 cases f with
 | next=>exact wpAny_execs_nil q
 | ret v=>exact q
 | brk=>exact q
 | cont=>exact q
theorem Inv.quiet {pins:List (Addr×Obj)} {σ:St} {H:Hp} {s:Shared} (I:Inv X pins σ H s):interactive X.env=false:=by simp [interactive,I.ok.kind]
def LR (te:TE):TS:=fun D σ H=>te σ H fun _ H1=>D.nx σ H1
theorem Hl (he:PE X e te) (hs:swapsWith e none pos.line X.env=pure false:=by rfl):PS X (.Expr e pos) (LR te):=by
 intro pins s σ H D I h
 exact wpAny_Expr_any (thn (he pins s σ H _ I h) fun v s1 ⟨x,H1,I1,r1,q1⟩=>⟨σ,H1,I1,q1⟩) I.quiet hs
def O8 (te:TE):TS:=fun D σ H=>te σ H D.rt
theorem JU (he:PE X e te):PS X (.Return (some e) pos) (O8 te):=by
 intro pins s σ H D I h
 exact wpAny_Return_some (thn (he pins s σ H _ I h) fun v s1 ⟨x,H1,I1,r1,q1⟩=>⟨x,σ,H1,I1,r1,q1⟩)
def O9 (c:TT) (t u:TS):TS:=fun D σ H=>c σ H fun b H1=>if b=true then t D σ H1 else u D σ H1
theorem LS {c:Expr} {a b:List Stmt} {tc:TT} (hc:PT X c tc) (ha:PSs X a t) (hb:PSs X b u):PS X (.If c a b pos) (O9 tc t u):=by
 intro pins s σ H D I h
 refine wpAny_If (thn (hc pins s σ H _ I h) fun d s1 ⟨H1,I1,q1⟩=>?_)
 cases d with
 | true=>exact ha pins s1 σ H1 D I1 q1
 | false=>exact hb pins s1 σ H1 D I1 q1
end
abbrev TG:=V->St->Hp->(St->Hp->Prop)->Prop
abbrev TGs:=List V->St->Hp->(St->Hp->Prop)->Prop
def PG (X:Cx) (target:Expr) (t:TG):Prop:=
 ∀ (pins:List (Addr×Obj)) (s:Shared) (σ:St) (H:Hp) (v:V) (u:Value) (Q:St->Hp->Prop),Inv X pins σ H s->RelV v u->t v σ H Q->
  wpAny (model X.prog X.w) X.A (assign target X.env u) (fun _ s'=>∃ σ' H',Inv X pins σ' H' s'/\Q σ' H') X.xe s
def PGs (X:Cx) (ts:List Expr) (t:TGs):Prop:=
 ∀ (pins:List (Addr×Obj)) (s:Shared) (σ:St) (H:Hp) (vs:List V) (us:List Value) (Q:St->Hp->Prop),Inv X pins σ H s->aK vs us->t vs σ H Q->
  wpAny (model X.prog X.w) X.A (assignInOrder ((assignEach ts X.env).map (·.2)) us) (fun _ s'=>∃ σ' H',Inv X pins σ' H' s'/\Q σ' H') X.xe s
abbrev O':=V->V->V->Hp->(Hp->Prop)->Prop
def Oa (X:Cx) (t:O'):Prop:=
 ∀ (pins:List (Addr×Obj)) (s:Shared) (σ:St) (H:Hp) (o i v:V) (ov iv u:Value) (Q:Hp->Prop),Inv X pins σ H s->RelV o ov->RelV i iv->RelV v u->t o i v H Q->
  wpAny (model X.prog X.w) X.A (setItem ov iv u) (fun _ s'=>∃ H',Inv X pins σ H' s'/\Q H') X.xe s
section
variable {X:Cx} {pos:Pos}
def Em (i:Nat):TG:=fun v σ H Q=>Q (σ.set i (some v)) H
theorem Hm {i:Nat} {x:Str} (hN:X.N.Nodup) (hi:X.N[i]?=some x) (hx:Loc X.env.scope x) (hf:X.fn x=true\/X.env.scope.names.lookup x=some .local:=by first | exact .inl rfl | exact .inr rfl | assumption):PG X (.Name x pos) (Em i):=by
 intro pins s σ H v u Q I r h
 exact wpAny_assign_Name (yM I hN hi hx r (fun s' I'=>⟨_,H,I',h⟩) hf)
def Ob:TGs:=fun vs σ H Q=>vs=[]/\Q σ H
def LU (t:TG) (u:TGs):TGs:=fun vs σ H Q=>∃ v r,vs=v :: r/\t v σ H fun σ' H'=>u r σ' H' Q
theorem Hn:PGs X [] Ob:=by
 intro pins s σ H vs us Q I r h
 obtain ⟨e,h⟩:=h
 subst e
 cases r
 exact assignInOrder_nil ⟨σ,H,I,h⟩
theorem En {e:Expr} {es:List Expr} {t:TG} {u:TGs} (h1:PG X e t) (h2:PGs X es u)
  (hs:(assignEach (e :: es) X.env).map (·.2)=assign e X.env :: (assignEach es X.env).map (·.2):=by rfl):PGs X (e :: es) (LU t u):=by
 intro pins s σ H vs us Q I r h
 obtain ⟨v,vr,e1,h⟩:=h
 subst e1
 cases r with
 | cons r rr=>
  rw [hs]
  refine assignInOrder_cons (thn (h1 pins s σ H _ _ _ I r h) fun _ s1 ⟨σ1,H1,I1,q1⟩=>?_)
  exact h2 pins s1 σ1 H1 _ _ Q I1 rr q1
def LV (K:PySem.W.Frag) (n:Nat) (t:TGs):TG:=fun v σ H Q=>∃ a xs,v=.ref a/\SqT K H a xs/\xs.length=n/\t xs σ H Q
theorem JV {es:List Expr} {k:Nat} {t:TGs} {n:Nat} (hc:X.calm=true) (h:PGs X es t)
  (hn:(assignEach es X.env).length=n:=by rfl) (hst:(assignEach es X.env).findIdx? (·.1)=none:=by rfl):PG X (.Tuple es k pos) (LV X.K n t):=by
 intro pins s σ H v u Q I r hw
 obtain ⟨a,xs,e1,hq,hl,hw⟩:=hw
 subst e1
 cases r
 obtain ⟨its,rv,ht,hz⟩:=I.tuple hq
 refine assign_Tuple_tuple (I.ok.hd hc) ht (by simp [hn,<- hl,rv.length]) hst fun h' hx=>?_
 have I1:Inv X pins σ H { s with heap:=h' }:=I.kept (t':=s.toks) fun b o e=>hx b o (Nat.ne_of_lt (Heap.lt_size e)) e
 exact h pins _ σ H xs _ Q I1 (by simpa using rv) hw
def JW (te:TE) (g:TG):TS:=fun D σ H=>te σ H fun x H1=>g x σ H1 D.nx
theorem JX {tg e:Expr} {te:TE} {g:TG} (he:PE X e te) (hg:PG X tg g) (hs:swapsWithSole [tg] e pos.line X.env=pure false:=by rfl) (hw:swappedStores [tg] e X.env=pure none:=by rfl)
  (h1:(assignEach [tg] X.env).map (·.2)=[assign tg X.env]:=by rfl):PS X (.Assign [tg] e pos) (JW te g):=by
 intro pins s σ H D I h
 refine wpAny_Assign_stores (thn (he pins s σ H _ I h) fun v s1 hz=>?_) hs hw
 obtain ⟨x,H1,I1,r1,q1⟩:=hz
 rw [h1]
 exact thn (hg pins s1 σ H1 x v _ I1 r1 q1) fun _ s2 q=>q
theorem JY {i:Nat} {x:Str} {e:Expr} {te:TE} {pos':Pos} (hN:X.N.Nodup) (hi:X.N[i]?=some x) (hx:Loc X.env.scope x) (he:PE X e te) (hs:swapsWith e (some (.Name x pos')) pos.line X.env=pure false:=by rfl) (hf:X.fn x=true\/X.env.scope.names.lookup x=some .local:=by first | exact .inl rfl | exact .inr rfl | assumption):
  PS X (.Assign [.Name x pos'] e pos) (JW te (Em i)):=by
 intro pins s σ H D I h
 refine wpAny_Assign_Name (thn (he pins s σ H _ I h) fun v s1 hz=>?_) hs
 obtain ⟨y,H1,I1,r1,q1⟩:=hz
 exact yM I1 hN hi hx r1 (fun s2 I2=>⟨_,H1,I2,q1⟩) hf
end
section
variable {X:Cx} {pos:Pos}
end
structure It where
 go:Nat->Hp->Prop
 yld:Nat->Hp->V->Hp->Prop
 stop:Nat->Hp->Prop
def yN (X:Cx) (pins:List (Addr×Obj)) (H:Hp) (b:Addr):Prop:=
 H b=none/\b≠X.env.locals/\b∉X.fs/\(b∈X.ex\/X.s₀.heap.objs.size<=b)/\(∀ x c,X.env.cells.lookup x=some c->c≠b)/\∀ p∈X.pn++pins,p.1≠b
theorem Inv.fpOk {X:Cx} {pins:List (Addr×Obj)} {σ:St} {H H':Hp} {s:Shared} {b:Addr} (I:Inv X pins σ H s) (hb:s.heap.objs.size<=b) (hn:H' b=none):yN X pins H' b:=by
 refine ⟨hn,Nat.ne_of_gt (Nat.lt_of_lt_of_le I.lt hb),I.nofs hb,.inr (Nat.le_trans I.sz hb),fun x c e z=>?_,fun p hp z=>?_⟩
 ·obtain ⟨v,q⟩:=I.cell x c e
  exact absurd (Nat.lt_of_lt_of_le q.lt (by rw [z]; exact hb)) (Nat.lt_irrefl _)
 ·exact absurd (Nat.lt_of_lt_of_le (Heap.lt_size (I.pin p hp).1) (by rw [z]; exact hb)) (Nat.lt_irrefl _)
structure Turn (P:Program) (w:World) (K:PySem.W.Frag) (tg:Expr) (J:It) (fp:List Addr) (it:Addr) (tn:Nat->Heap->Prop):Prop where
 mem:it∈fp
 obj:∀ i h,tn i h->∀ b∈fp,∃ o,h.get? b=some o/\∀ v,o.data≠.cell v
 keep:∀ i h h',tn i h->(∀ b∈fp,∀ o,h.get? b=some o->h'.get? b=some o)->tn i h'
 item:∀ (X:Cx),X.prog=P->X.w=w->X.K=K->X.calm=true->∀ (i:Nat) (pins:List (Addr×Obj)) (s:Shared) (σ:St) (H:Hp) (E:Value->Shared->Prop),Inv X pins σ H s->(∀ b∈fp,yN X pins H b)->tn i s.heap->J.go i H->
  wpAny (model P w) X.A (pyNext (.ref it)) (fun r s1=>∃ u,r=some u/\
   wpAny (model P w) X.A (letOwnedTupleGo tg (.ref it) u) (fun _ s2=>∃ x H',Inv X pins σ H' s2/\RelV x u/\J.yld i H x H'/\tn (i+1) s2.heap/\∀ b∈fp,H' b=none) E s1) E s
 done:∀ (X:Cx),X.prog=P->X.w=w->X.K=K->X.calm=true->∀ (i:Nat) (pins:List (Addr×Obj)) (s:Shared) (σ:St) (H:Hp) (E:Value->Shared->Prop),Inv X pins σ H s->(∀ b∈fp,yN X pins H b)->tn i s.heap->J.stop i H->
  wpAny (model P w) X.A (pyNext (.ref it)) (fun r s1=>r=none/\Inv X pins σ H s1) E s
 self:∀ (A:Around) (i:Nat) (s:Shared) (Q:Value->Shared->Prop) (E:Value->Shared->Prop),tn i s.heap->Q (.ref it) s->wpAny (model P w) A (pyIter (.ref it)) Q E s
abbrev TI:=St->Hp->(It->Hp->Prop)->Prop
def PIE (X:Cx) (pins:List (Addr×Obj)) (σ:St) (tg:Expr) (R:It->Hp->Prop) (itv:Value) (s2:Shared):Prop:=
 ∃ (it:Addr) (fp:List Addr) (tn:Nat->Heap->Prop) (J:It) (H':Hp),itv=.ref it/\Inv X pins σ H' s2/\Turn X.prog X.w X.K tg J fp it tn/\tn 0 s2.heap/\(∀ b∈fp,yN X pins H' b)/\R J H'
def PI (X:Cx) (tg iter:Expr) (wi:TI):Prop:=
 ∀ (pins:List (Addr×Obj)) (s:Shared) (σ:St) (H:Hp) (R:It->Hp->Prop),Inv X pins σ H s->wi σ H R->
  wpAny (model X.prog X.w) X.A (eval iter X.env) (fun v s1=>wpAny (model X.prog X.w) X.A (pyIter v) (PIE X pins σ tg R) X.xe s1) X.xe s
theorem Eo {M:Model} {A:Around} {E:Value->Shared->Prop} {s:Shared} {tg:Expr} {it:Addr} {u:Value} {o:Obj} {n:String} {vs:Array Value} {Q:Unit->Shared->Prop} (ho:s.heap.get? it=some o) (hc:o.cls=.type n) (hd:o.data=.fields vs)
  (hn:["enumerate","zip","dict_itemiterator","dict_reverseitemiterator","odict_iterator","itertools.zip_longest","itertools.pairwise"].contains n=false) (hQ:Q () s):wpAny M A (letOwnedTupleGo tg (.ref it) u) Q E s:=by
 unfold letOwnedTupleGo
 cases tg <;> first
  | exact wpAny_pure hQ
  | (cases u <;> first
    | exact wpAny_pure hQ
    | (refine wpAny_bind (wpAny_load ho ?_)
       rw [hc,hd]
       show wpAny M A (if (["enumerate","zip","dict_itemiterator","dict_reverseitemiterator","odict_iterator","itertools.zip_longest","itertools.pairwise"].contains n && vs[0]? == some (rawInt _))=true then _ else _) Q E s
       rw [if_neg (by intro h; rw [hn,Bool.false_and] at h; cases h)]
       exact wpAny_pure hQ))
def Itl (K:PySem.W.Frag) (a:Addr):It:=
 ⟨fun i H=>∃ xs x,SqL K H a xs/\xs[i]?=some x,fun i H x H'=>H'=H/\∀ xs,SqL K H a xs->xs[i]?=some x,fun i H=>∃ xs,SqL K H a xs/\xs.length<=i⟩
def Itt (K:PySem.W.Frag) (a:Addr):It:=
 ⟨fun i H=>∃ xs x,SqT K H a xs/\xs[i]?=some x,fun i H x H'=>H'=H/\∀ xs,SqT K H a xs->xs[i]?=some x,fun i H=>∃ xs,SqT K H a xs/\xs.length<=i⟩
def Itr (lo:Int) (n:Nat):It:=⟨fun i _=>i < n,fun i H x H'=>H'=H/\x=.int (lo+i),fun i _=>n<=i⟩
theorem tB {P:Program} {w:World} {K:PySem.W.Frag} {tg:Expr} (a it:Addr):Turn P w K tg (Itl K a) [it] it (fun i h=>h.IsListIter it a i) where
 mem:=by simp
 obj:=fun i h st b hb=>by
  have e:b=it:=by simpa using hb
  subst e
  obtain ⟨o,e,c,d⟩:=st
  exact ⟨o,e,fun v z=>by rw [d] at z; cases z⟩
 keep:=fun i h h' st k=>st.at fun o e=>k it (by simp) o e
 item:=by
  intro X hP hw hK hc i pins s σ H E I hf st hg
  subst hP hw hK
  obtain ⟨xs,x,hq,hx⟩:=hg
  obtain ⟨its,rv,p,hz⟩:=I.list hq
  obtain ⟨u,hu,ru⟩:=rv.get hx
  obtain ⟨f0,f1,f2,f3,f4,f5⟩:=hf it (by simp)
  refine wpAny_pyNext_list_item st p.isList (x:=u) (by simpa using hu) fun h' st' sb=>?_
  have I1:Inv X pins σ H { s with heap:=h' }:=I.turned (t':=s.toks) (fun b o hb e=>(sb.2 b hb).trans e) f0 f1 f3 f4 f5
  obtain ⟨o,e,c,d⟩:=id st'
  exact ⟨u,rfl,Eo (s:={ s with heap:=h' }) e c d (by decide) ⟨x,H,I1,ru,⟨rfl,fun ys hy=>by rw [I.list_inj hy hq]; exact hx⟩,st',fun b hb=>(hf b hb).1⟩⟩
 done:=by
  intro X hP hw hK hc i pins s σ H E I hf st hg
  subst hP hw hK
  obtain ⟨xs,hq,hx⟩:=hg
  obtain ⟨its,rv,p,hz⟩:=I.list hq
  obtain ⟨f0,f1,f2,f3,f4,f5⟩:=hf it (by simp)
  have hl:=rv.length
  exact wpAny_pyNext_list_end (I.ok.hd hc) st p.isList (by simp; omega) fun h' eb=>⟨rfl,I.turned (t':=s.toks) (fun b o hb e=>eb b o hb e) f0 f1 f3 f4 f5⟩
 self:=fun _ _ _ _ _ st h=>wpAny_pyIter_listiter st h
theorem AC {P:Program} {w:World} {K:PySem.W.Frag} {tg:Expr} (a it:Addr):Turn P w K tg (Itt K a) [it] it (fun i h=>h.IsTupleIter it a i) where
 mem:=by simp
 obj:=fun i h st b hb=>by
  have e:b=it:=by simpa using hb
  subst e
  obtain ⟨o,e,c,d⟩:=st
  exact ⟨o,e,fun v z=>by rw [d] at z; cases z⟩
 keep:=fun i h h' st k=>st.at fun o e=>k it (by simp) o e
 item:=by
  intro X hP hw hK hc i pins s σ H E I hf st hg
  subst hP hw hK
  obtain ⟨xs,x,hq,hx⟩:=hg
  obtain ⟨its,rv,p,hz⟩:=I.tuple hq
  obtain ⟨u,hu,ru⟩:=rv.get hx
  obtain ⟨f0,f1,f2,f3,f4,f5⟩:=hf it (by simp)
  refine wpAny_pyNext_tuple_item st (show s.heap.IsTuple a its.toArray from p) (x:=u) (by simpa using hu) fun h' st' sb=>?_
  have I1:Inv X pins σ H { s with heap:=h' }:=I.turned (t':=s.toks) (fun b o hb e=>(sb.2 b hb).trans e) f0 f1 f3 f4 f5
  obtain ⟨o,e,c,d⟩:=id st'
  exact ⟨u,rfl,Eo (s:={ s with heap:=h' }) e c d (by decide) ⟨x,H,I1,ru,⟨rfl,fun ys hy=>by rw [I.tuple_inj hy hq]; exact hx⟩,st',fun b hb=>(hf b hb).1⟩⟩
 done:=by
  intro X hP hw hK hc i pins s σ H E I hf st hg
  subst hP hw hK
  obtain ⟨xs,hq,hx⟩:=hg
  obtain ⟨its,rv,p,hz⟩:=I.tuple hq
  obtain ⟨f0,f1,f2,f3,f4,f5⟩:=hf it (by simp)
  have hl:=rv.length
  exact wpAny_pyNext_tuple_end (I.ok.hd hc) st (show s.heap.IsTuple a its.toArray from p) (by simp; omega) fun h' eb=>⟨rfl,I.turned (t':=s.toks) (fun b o hb e=>eb b o hb e) f0 f1 f3 f4 f5⟩
 self:=fun _ _ _ _ _ st h=>wpAny_pyIter_tupleiter st h
theorem AD {P:Program} {w:World} {K:PySem.W.Frag} {tg:Expr} (it:Addr) (lo:Int) (n:Nat):Turn P w K tg (Itr lo n) [it] it (fun i h=>IsRangeIter h it (lo+(i:Nat)*1) ((n:Int) - (i:Nat)) 1) where
 mem:=by simp
 obj:=fun i h st b hb=>by
  have e:b=it:=by simpa using hb
  subst e
  exact ⟨_,st,fun v z=>by
   have z':Data.fields _=Data.cell v:=z
   cases z'⟩
 keep:=fun i h h' st k=>k it (by simp) _ st
 item:=by
  intro X hP hw hK hc i pins s σ H E I hf st hg
  subst hP hw hK
  obtain ⟨f0,f1,f2,f3,f4,f5⟩:=hf it (by simp)
  have W:=Walks.range (prog:=X.prog) (w:=X.w) (I.ok.hd hc) it lo 1 n
  refine W.item i s _ _ hg st fun v h' tk hv st' kk=>?_
  obtain ⟨t,rfl⟩:=hv
  have I1:Inv X pins σ H { s with heap:=h',toks:=tk }:=I.turned (fun b o hb e=>kk b o (by simpa using hb) e) f0 f1 f3 f4 f5
  refine ⟨_,rfl,Eo (s:={ s with heap:=h',toks:=tk }) (n:="range_iterator") st' rfl rfl (by decide) ⟨.int (lo+i),H,I1,⟨t,?_⟩,⟨rfl,rfl⟩,st',fun b hb=>(hf b hb).1⟩⟩
  rw [Int.mul_one]
 done:=by
  intro X hP hw hK hc i pins s σ H E I hf st hg
  subst hP hw hK
  obtain ⟨f0,f1,f2,f3,f4,f5⟩:=hf it (by simp)
  exact wpAny_pyNext_range_end (I.ok.hd hc) st (by have:n<=i:=hg; omega) fun h' eb=>⟨rfl,I.turned (t':=s.toks) (fun b o hb e=>eb b o hb e) f0 f1 f3 f4 f5⟩
 self:=fun _ _ _ _ _ st h=>wpAny_pyIter_rangeiter st h
end L2
namespace L2
open PySem PySem.Spec PyProof.Rows
section
variable {X:Cx} {tg:Expr}
theorem Ep {pins:List (Addr×Obj)} {σ:St} {H:Hp} {s:Shared} {R:It->Hp->Prop} {E:Value->Shared->Prop} {lo hi:Int} {t u v:Tok} {tk:Nat} (I:Inv X pins σ H s) (h1:-(2 ^ 62)<=lo) (h2:lo < 2 ^ 62) (h3:-(2 ^ 62)<=hi) (h4:hi < 2 ^ 62)
  (q:R (Itr lo (hi - lo).toNat) H):wpAny (model X.prog X.w) X.A (pyIter (.ref s.heap.objs.size)) (PIE X pins σ tg R) E { s with heap:=s.heap.push { cls:=.type "range",data:=.fields #[.int lo t,.int hi u,.int 1 v] },toks:=tk }:=by
 refine wpAny_pyIter_range (IsRange.new ..) (small_one h1 h2 h3 h4) ?_
 have I1:Inv X pins σ H { s with heap:=s.heap.push { cls:=.type "range",data:=.fields #[.int lo t,.int hi u,.int 1 v] },toks:=tk }:=I.kept fun b o e=>Heap.get?_push_of_some _ e
 refine ⟨(s.heap.push { cls:=.type "range",data:=.fields #[.int lo t,.int hi u,.int 1 v] }).objs.size,[(s.heap.push { cls:=.type "range",data:=.fields #[.int lo t,.int hi u,.int 1 v] }).objs.size],_,_,H,rfl,
  I1.kept (t':=tk) fun b o e=>Heap.get?_push_of_some _ e,AD _ lo (hi - lo).toNat,?_,fun b hb=>?_,q⟩
 ·have e1:lo+((0:Nat):Int)*1=lo:=by simp
  have e2:(((hi - lo).toNat:Nat):Int) - ((0:Nat):Int)=Builtin.Range.rangeSize lo hi 1:=by rw [rangeSize_one]; split <;> omega
  show IsRangeIter _ _ (lo+((0:Nat):Int)*1) ((((hi - lo).toNat:Nat):Int) - ((0:Nat):Int)) 1
  rw [e1,e2]
  exact Heap.get?_push_size _ rfl
 ·have e:b=(s.heap.push { cls:=.type "range",data:=.fields #[.int lo t,.int hi u,.int 1 v] }).objs.size:=by simpa using hb
  subst e
  exact I1.fpOk (Nat.le_refl _) (I1.hok.fresh (Nat.le_refl _))
def Oc (wi:TI) (g:TG) (tb:TS):TS:=fun D σ H=>wi σ H fun J H1=>∃ W:Nat->Nat->St->Hp->Prop,(∃ m,W 0 m σ H1)/\∀ i m σ H,W i m σ H->
 (J.stop i H/\D.nx σ H)\/(J.go i H/\∃ N:St->Hp->Prop,(∀ σ' H',N σ' H'->∃ m',m' < m/\W (i+1) m' σ' H')/\∀ x H',J.yld i H x H'->g x σ H' fun σ2 H2=>tb { D with nx:=N,ct:=N,bk:=D.nx } σ2 H2)
def pW (fp:List Addr) (h:Heap):List (Addr×Obj):=fp.filterMap fun b=>(h.get? b).map fun o=>(b,o)
theorem fV {fp:List Addr} {h:Heap} {b:Addr} {o:Obj} (hb:b∈fp) (e:h.get? b=some o):(b,o)∈pW fp h:=List.mem_filterMap.mpr ⟨b,hb,by rw [e]; rfl⟩
theorem CG {fp:List Addr} {h:Heap} {p:Addr×Obj} (hp:p∈pW fp h):p.1∈fp/\h.get? p.1=some p.2:=by
 obtain ⟨b,hb,e⟩:=List.mem_filterMap.mp hp
 cases q:h.get? b with
 | none=>rw [q] at e; cases e
 | some o=>
  rw [q] at e
  have e':(b,o)=p:=Option.some.inj e
  subst e'
  exact ⟨hb,q⟩
theorem Inv.pinned {pins:List (Addr×Obj)} {σ:St} {H:Hp} {s:Shared} {fp:List Addr} (I:Inv X pins σ H s) (hf:∀ b∈fp,yN X pins H b) (ho:∀ b∈fp,∃ o,s.heap.get? b=some o/\∀ v,o.data≠.cell v):Inv X (pins++pW fp s.heap) σ H s:=
 I.pins_of fun p hp=>(List.mem_append.mp hp).elim (fun z=>I.pin p (List.mem_append_right _ z)) fun z=>by
  obtain ⟨hb,e⟩:=CG z
  obtain ⟨f0,f1,f2,_⟩:=hf p.1 hb
  obtain ⟨o,e',d⟩:=ho p.1 hb
  rw [e] at e'; cases e'
  exact ⟨e,f0,f1,f2,d⟩
theorem Inv.unpinned {pins pl:List (Addr×Obj)} {σ:St} {H:Hp} {s:Shared} (I:Inv X (pins++pl) σ H s):Inv X pins σ H s:=I.pins_of fun p hp=>I.pin p (List.mem_append_right _ (List.mem_append_left _ hp))
theorem JZ {iter:Expr} {body:List Stmt} {wi:TI} {g:TG} {tb:TS} {pos:Pos} (hp:PassesOwn (model X.prog X.w) X.A X.env X.xe) (hc:X.calm=true) (hi:PI X tg iter wi) (hg:PG X tg g) (hb:PSs X body tb)
  (hs:∀ x,foldedSetIterable iter X.env x=pure x:=by intro _; rfl):PS X (.For tg iter body [] pos) (Oc wi g tb):=by
 intro pins s σ H D I h
 refine wpAny_For (thn (hi pins s σ H _ I h) fun v s1 h1=>thn h1 fun itv s2 h2=>?_) hs
 obtain ⟨it,fp,tn,J,H2,e,I2,T,st2,f2,W,⟨m0,w0⟩,turn⟩:=h2
 subst e
 -- what stays true of the iterator's objects through the loop
 have stat:∀ {H':Hp},(∀ b∈fp,H' b=none)->∀ b∈fp,yN X pins H' b:=fun hn b hb=>⟨hn b hb,(f2 b hb).2⟩
 refine codeAny_forLoop_any (fun n s'=>∃ i σ' H',Inv X pins σ' H' s'/\tn i s'.heap/\(∀ b∈fp,H' b=none)/\W i n σ' H') ?_ m0 ⟨0,σ,H2,I2,st2,fun b hb=>(f2 b hb).1,w0⟩
 rintro n s3 ⟨i,σ3,H3,I3,st3,fr3,w3⟩
 rcases turn i n σ3 H3 w3 with ⟨stop,qn⟩ | ⟨go,N,hN,step⟩
 ·refine wpAny_passesOwn hp (thn (T.done X rfl rfl rfl hc i pins s3 σ3 H3 X.xe I3 (stat fr3) st3 stop) fun r s4 ⟨hr,I4⟩=>?_)
  subst hr
  exact wpAny_execs_nil ⟨σ3,H3,I4,qn⟩
 ·refine wpAny_passesOwn hp (thn (T.item X rfl rfl rfl hc i pins s3 σ3 H3 X.xe I3 (stat fr3) st3 go) fun r s4 ⟨u,hr,h4⟩=>?_)
  subst hr
  refine wpAny_passesOwn hp (thn h4 fun _ s5 hz=>?_)
  obtain ⟨x,H5,I5,r5,y5,st5,fr5⟩:=hz
  have I5':=I5.pinned (stat fr5) (T.obj _ _ st5)
  refine wpAny_passesOwn hp (thn (hg _ s5 σ3 H5 x u _ I5' r5 (step x H5 y5)) fun _ s6 ⟨σ6,H6,I6,q6⟩=>?_)
  refine wpAny_passesOwn hp (thn (hb _ s6 σ6 H6 _ I6 q6) fun f s7 q7=>?_)
  have again:∀ {σ7:St} {H7:Hp},Inv X (pins++pW fp s5.heap) σ7 H7 s7->N σ7 H7->∃ m,m < n/\∃ i σ' H',Inv X pins σ' H' s7/\tn i s7.heap/\(∀ b∈fp,H' b=none)/\W i m σ' H':=fun {σ7 H7} I7 n7=>by
   obtain ⟨m',hm,w7⟩:=hN σ7 H7 n7
   refine ⟨m',hm,i+1,σ7,H7,I7.unpinned,T.keep _ _ _ st5 fun b hb o e=>(I7.pin (b,o) (List.mem_append_right _ (List.mem_append_right _ (fV hb e)))).1,fun b hb=>?_,w7⟩
   obtain ⟨o,e,d⟩:=T.obj _ _ st5 b hb
   exact (I7.pin (b,o) (List.mem_append_right _ (List.mem_append_right _ (fV hb e)))).2.1
  cases f with
  | next=>obtain ⟨σ7,H7,I7,n7⟩:=q7; exact again I7 n7
  | cont=>obtain ⟨σ7,H7,I7,n7⟩:=q7; exact again I7 n7
  | brk=>obtain ⟨σ7,H7,I7,q7⟩:=q7; exact ⟨σ7,H7,I7.unpinned,q7⟩
  | ret v=>obtain ⟨x7,σ7,H7,I7,r7,q7⟩:=q7; exact ⟨x7,σ7,H7,I7.unpinned,r7,q7⟩
end
end L2
namespace L2
open PySem PySem.Spec PyProof.Rows
abbrev R2:=V->V->Hp->VK->Prop
def OpR (X:Cx) (f:Value->Value->Sem Value) (r:R2):Prop:=
 ∀ (pins:List (Addr×Obj)) (s:Shared) (σ:St) (H:Hp) (x y:V) (v u:Value) (Q:VK),Inv X pins σ H s->RelV x v->RelV y u->r x y H Q->
  wpAny (model X.prog X.w) X.A (f v u) (EP X pins σ Q) X.xe s
def UnR (X:Cx) (f:Value->Sem Value) (r:V->Hp->VK->Prop):Prop:=
 ∀ (pins:List (Addr×Obj)) (s:Shared) (σ:St) (H:Hp) (x:V) (v:Value) (Q:VK),Inv X pins σ H s->RelV x v->r x H Q->
  wpAny (model X.prog X.w) X.A (f v) (EP X pins σ Q) X.xe s
def bE (X:Cx) (f:Value) (r:List V->Hp->VK->Prop):Prop:=
 ∀ (pins:List (Addr×Obj)) (s:Shared) (σ:St) (H:Hp) (xs:List V) (us:List Value) (Q:VK),Inv X pins σ H s->aK xs us->r xs H Q->
  wpAny (model X.prog X.w) X.A (call f us) (EP X pins σ Q) X.xe s
def Od (X:Cx) (r:V->Hp->(Bool->Hp->Prop)->Prop):Prop:=
 ∀ (pins:List (Addr×Obj)) (s:Shared) (σ:St) (H:Hp) (x:V) (v:Value) (Q:Bool->Hp->Prop),Inv X pins σ H s->RelV x v->r x H Q->
  wpAny (model X.prog X.w) X.A (truthy v) (TP X pins σ Q) X.xe s
def tOp (r:R2) (ta tb:TE):TE:=fun σ H Q=>ta σ H fun x H1=>tb σ H1 fun y H2=>r x y H2 Q
def tUn (r:V->Hp->VK->Prop) (ta:TE):TE:=fun σ H Q=>ta σ H fun x H1=>r x H1 Q
def rI (C:Int->Int->Prop) (g:Int->Int->V):R2:=fun x y H Q=>∃ i j,x=.int i/\y=.int j/\C i j/\Q (g i j) H
def rI0 (g:Int->Int->V):R2:=fun x y H Q=>∃ i j,x=.int i/\y=.int j/\Q (g i j) H
def rU (g:Int->V):V->Hp->VK->Prop:=fun x H Q=>∃ i,x=.int i/\Q (g i) H
section
variable {X:Cx} {a b c:Expr} {ta tb tc:TE} {pos:Pos}
theorem K0 (ha:PE X a ta) (hb:PE X b tb) {pins:List (Addr×Obj)} {s:Shared} {σ:St} {H:Hp} {R:V->V->Hp->Prop} (I:Inv X pins σ H s)
  (h:ta σ H fun x H1=>tb σ H1 fun y H2=>R x y H2) {Q:Value->Shared->Prop} {f:Value->Value->Sem Value}
  (hf:∀ v u s2 x y H2,Inv X pins σ H2 s2->RelV x v->RelV y u->R x y H2->wpAny (model X.prog X.w) X.A (f v u) Q X.xe s2):
  wpAny (model X.prog X.w) X.A (eval a X.env) (fun v s₁=>wpAny (model X.prog X.w) X.A (eval b X.env) (fun u s₂=>wpAny (model X.prog X.w) X.A (f v u) Q X.xe s₂) X.xe s₁) X.xe s:=by
 refine thn (ha pins s σ H _ I h) fun v s1 hz=>?_
 obtain ⟨x,H1,I1,r1,q1⟩:=hz
 refine thn (hb pins s1 σ H1 _ I1 q1) fun u s2 hz=>?_
 obtain ⟨y,H2,I2,r2,q2⟩:=hz
 exact hf v u s2 x y H2 I2 r1 r2 q2
theorem LW {op:Operator} {r:R2} (ho:OpR X (binaryOp op) r) (ha:PE X a ta) (hb:PE X b tb):PE X (.BinOp a op b pos) (tOp r ta tb):=by
 intro pins s σ H Q I h
 exact wpAny_BinOp (K0 ha hb I h fun v u s2 x y H2 I2 rx ry q=>ho pins s2 σ H2 x y v u Q I2 rx ry q)
theorem LX {op:UnaryOp} {r:V->Hp->VK->Prop} (ho:UnR X (unaryOp op) r) (ha:PE X a ta):PE X (.UnaryOp op a pos) (tUn r ta):=by
 intro pins s σ H Q I h
 exact UnaryOp_ (thn (ha pins s σ H _ I h) fun v s1 ⟨x,H1,I1,r1,q1⟩=>ho pins s1 σ H1 x v Q I1 r1 q1)
theorem opI {f:Value->Value->Sem Value} {C:Int->Int->Prop} {g:Int->Int->Int}
  (rule:∀ (i j:Int) (t u:Tok) (s:Shared) (Q:Value->Shared->Prop) (E:Value->Shared->Prop),C i j->Q (.int (g i j) s.toks) { s with toks:=s.toks+1 }->wpAny (model X.prog X.w) X.A (f (.int i t) (.int j u)) Q E s):
  OpR X f (rI C fun i j=>.int (g i j)):=by
 intro pins s σ H x y v u Q I rx ry h
 obtain ⟨i,j,rfl,rfl,hc,q⟩:=h
 obtain ⟨t,rfl⟩:=rx
 obtain ⟨t',rfl⟩:=ry
 exact rule i j t t' s _ _ hc ⟨.int (g i j),H,I.tok _,⟨_,rfl⟩,q⟩
theorem LY {f:Value->Value->Sem Value} {g:Int->Int->Int}
  (rule:∀ (i j:Int) (t u:Tok) (s:Shared) (Q:Value->Shared->Prop) (E:Value->Shared->Prop),Q (.int (g i j) s.toks) { s with toks:=s.toks+1 }->wpAny (model X.prog X.w) X.A (f (.int i t) (.int j u)) Q E s):
  OpR X f (rI0 fun i j=>.int (g i j)):=by
 intro pins s σ H x y v u Q I rx ry h
 obtain ⟨i,j,rfl,rfl,q⟩:=h
 obtain ⟨t,rfl⟩:=rx
 obtain ⟨t',rfl⟩:=ry
 exact rule i j t t' s _ _ ⟨.int (g i j),H,I.tok _,⟨_,rfl⟩,q⟩
theorem K1 {f:Value->Value->Sem Value} {g:Int->Int->Bool}
  (rule:∀ (i j:Int) (t u:Tok) (s:Shared) (Q:Value->Shared->Prop) (E:Value->Shared->Prop),Q (.bool (g i j)) s->wpAny (model X.prog X.w) X.A (f (.int i t) (.int j u)) Q E s):
  OpR X f (rI0 fun i j=>.bl (g i j)):=by
 intro pins s σ H x y v u Q I rx ry h
 obtain ⟨i,j,rfl,rfl,q⟩:=h
 obtain ⟨t,rfl⟩:=rx
 obtain ⟨t',rfl⟩:=ry
 exact rule i j t t' s _ _ ⟨.bl (g i j),H,I,rfl,q⟩
def Er (i j:Int):Prop:=0 < j/\j < 1073741824
def CH (i j:Int):Prop:=0<=j/\j<=1000000/\i.natAbs < 2 ^ 64
def yO (i j:Int):Prop:=(-(2 ^ 64) < i/\i < 2 ^ 64)\/(-(2 ^ 64) < j/\j < 2 ^ 64)
theorem yO.ok {i j:Int} (h:yO i j):IntMulOk i j:=by
 rcases h with ⟨h1,h2⟩ | ⟨h1,h2⟩
 ·exact .of_left (intBits_le_64 h1 h2)
 ·exact .of_right (intBits_le_64 h1 h2)
theorem K2:OpR X (binaryOp .Add) (rI0 fun i j=>.int (i+j)):=LY fun _ _ _ _ _ _ _ q=>add_int q
theorem K3:OpR X (binaryOp .Sub) (rI0 fun i j=>.int (i - j)):=LY fun _ _ _ _ _ _ _ q=>sub_int q
theorem K4:OpR X (binaryOp .Mult) (rI yO fun i j=>.int (i*j)):=opI fun _ _ _ _ _ _ _ hc q=>mul_int q hc.ok
theorem Ho:OpR X (binaryOp .FloorDiv) (rI Er fun i j=>.int (i / j)):=opI fun i j _ _ _ _ _ hc q=>by
 have h1:(0:Int) < j:=hc.1
 have h2:j < 1073741824:=hc.2
 exact floordiv_int (by omega) (by rw [Int.fdiv_eq_ediv_of_nonneg i (by omega)]; exact q) (.inl (PyProof.noPylong_small (by omega)))
theorem K5:OpR X (binaryOp .Mod) (rI (fun _ j=>0 < j) fun i j=>.int (i % j)):=opI fun i j _ _ _ _ _ hc q=>by
 have h1:(0:Int) < j:=hc
 exact mod_int' (by omega) (by rw [Int.fmod_eq_emod_of_nonneg i (by omega)]; exact q)
theorem K6:OpR X (binaryOp .Pow) (rI CH fun i j=>.int (i ^ j.toNat)):=opI fun _ _ _ _ _ _ _ hc q=>pow_int_small hc.1 hc.2.1 hc.2.2 q
theorem unI {f:Value->Sem Value} {g:Int->Int}
  (rule:∀ (i:Int) (t:Tok) (s:Shared) (Q:Value->Shared->Prop) (E:Value->Shared->Prop),Q (.int (g i) s.toks) { s with toks:=s.toks+1 }->wpAny (model X.prog X.w) X.A (f (.int i t)) Q E s):
  UnR X f (rU fun i=>.int (g i)):=by
 intro pins s σ H x v Q I rx h
 obtain ⟨i,rfl,q⟩:=h
 obtain ⟨t,rfl⟩:=rx
 exact rule i t s _ _ ⟨.int (g i),H,I.tok _,⟨_,rfl⟩,q⟩
theorem K7:UnR X (unaryOp .USub) (rU fun i=>.int (-i)):=unI fun _ _ _ _ _ q=>neg_int q
end
section
variable {X:Cx} {a b c:Expr} {ta tb tc:TE} {pos:Pos}
theorem vQ {pins:List (Addr×Obj)} {σ:St} {H:Hp} {s:Shared} {Q:VK} {k k':Bool} (I:Inv X pins σ H s) (q:Q (.bl k) H) (e:k=k'):EP X pins σ Q (.bool k') s:=by
 subst e
 exact ⟨.bl k,H,I,rfl,q⟩
theorem LZ:OpR X (compareOp .Lt) (rI0 fun i j=>.bl (decide (i < j))):=K1 fun _ _ _ _ _ _ _ q=>lt_int q
theorem M0:OpR X (compareOp .LtE) (rI0 fun i j=>.bl (decide (i<=j))):=K1 fun _ _ _ _ _ _ _ q=>le_int q
theorem M3:OpR X (compareOp .Gt) (rI0 fun i j=>.bl (decide (j < i))):=K1 fun _ _ _ _ _ _ _ q=>gt_int q
theorem CI:OpR X (compareOp .Lt) (fun x y H Q=>∃ i j,x=.str i/\y=.str j/\Q (.bl (decide (i.cps.toList < j.cps.toList))) H):=by
 intro pins s σ H x y v u Q I rx ry h
 obtain ⟨i,j,rfl,rfl,q⟩:=h
 obtain ⟨t,rfl⟩:=rx
 obtain ⟨t',rfl⟩:=ry
 exact lt_str (vQ I q rfl)
theorem K8:OpR X (compareOp .Is) (fun x y H Q=>y=.non/\Q (.bl (decide (x=.non))) H):=by
 intro pins s σ H x y v u Q I rx ry h
 obtain ⟨rfl,q⟩:=h
 cases ry
 refine is_none_gen (vQ I q ?_)
 cases x <;> first
  | (cases rx; rfl)
  | (obtain ⟨t,rfl⟩:=rx; rfl)
theorem OpR.or {f:Value->Value->Sem Value} {r r':R2} (h:OpR X f r) (h':OpR X f r'):OpR X f (fun x y H Q=>r x y H Q\/r' x y H Q):=by
 intro pins s σ H x y v u Q I rx ry q
 rcases q with q | q
 ·exact h pins s σ H x y v u Q I rx ry q
 ·exact h' pins s σ H x y v u Q I rx ry q
theorem Es (b:Expr) {op:CmpOp} (h:op≠.In:=by decide) (h2:op≠.NotIn:=by decide):behindInMarks op b=false:=by
 have e1:(op == CmpOp.In)=false:=by cases op <;> first | rfl | exact absurd rfl h
 have e2:(op == CmpOp.NotIn)=false:=by cases op <;> first | rfl | exact absurd rfl h2
 cases b <;> simp [behindInMarks,e1,e2]
theorem Hq {op:CmpOp} {r:R2} (ho:OpR X (compareOp op) r) (ha:PE X a ta) (hb:PE X b tb) (hm:behindInMarks op b=false):PE X (.Compare a [op] [b] pos) (tOp r ta tb):=by
 intro pins s σ H Q I h
 exact wpAny_Compare1 (K0 ha hb I h fun v u s2 x y H2 I2 rx ry q=>ho pins s2 σ H2 x y v u Q I2 rx ry q) hm
def Hr (K:PySem.W.Frag) (x:V) (H:Hp) (k:Bool):Prop:=
 match x with
 | .non=>k=false
 | .bl b=>k=b
 | .int i=>k=(i != 0)
 | .str y=>y.length<=sizeLine/\k=((y.length:Int) != 0)
 | .byt y=>y.size<=sizeLine/\k=((y.size:Int) != 0)
 | .ref p=>(∃ xs,SqL K H p xs/\k=!xs.isEmpty)\/(∃ xs,SqT K H p xs/\k=!xs.isEmpty)\/∃ kvs,H p=some (.dK kvs)/\k=!kvs.isEmpty
 | _=>False
theorem AE {κ:Type} {kvs:List (κ×V)} {vs:List (κ×Value)} (r:KV kvs vs):(!vs.isEmpty)=!kvs.isEmpty:=by
 cases r <;> rfl
theorem pX {xs:List V} {its:List Value} (r:aK xs its):(!its.toArray.isEmpty)=!xs.isEmpty:=by
 cases r <;> simp
theorem kA:(sizeLine:Nat) < 2 ^ 63:=by rw [sizeLine_eq]; decide
theorem Et:Od X (fun x H Q=>∃ k,Hr X.K x H k/\Q k H):=by
 intro pins s σ H x v Q I rx h
 obtain ⟨k,e,q⟩:=h
 have hl:=kA
 have hs:sizeLine=16777216:=sizeLine_eq
 cases x with
 | non=>
  cases rx
  have e':k=false:=e
  subst e'
  exact truthy_none ⟨H,I,q⟩
 | bl b=>
  cases rx
  have e':k=b:=e
  subst e'
  exact wpAny_truthy_bool ⟨H,I,q⟩
 | int i=>
  obtain ⟨t,rfl⟩:=rx
  have e':k=(i != 0):=e
  subst e'
  exact PySem.P.truthy_int ⟨H,I,q⟩
 | str y=>
  obtain ⟨t,rfl⟩:=rx
  obtain ⟨hy,e'⟩:y.length<=sizeLine/\k=((y.length:Int) != 0):=e
  subst e'
  exact PySem.P.truthy_str (by omega) ⟨H,I.tok _,q⟩
 | byt y=>
  obtain ⟨t,rfl⟩:=rx
  obtain ⟨hy,e'⟩:y.size<=sizeLine/\k=((y.size:Int) != 0):=e
  subst e'
  exact PySem.W.truthy_bytes (by omega) ⟨H,I.tok _,q⟩
 | ref p=>
  cases rx
  have e':(∃ xs,SqL X.K H p xs/\k=!xs.isEmpty)\/(∃ xs,SqT X.K H p xs/\k=!xs.isEmpty)\/∃ kvs,H p=some (.dK kvs)/\k=!kvs.isEmpty:=e
  rcases e' with ⟨xs,hx,e'⟩ | ⟨xs,hx,e'⟩ | ⟨kvs,hx,e'⟩
  ·subst e'
   obtain ⟨its,r,pl,hz⟩:=I.list hx
   have hlen:=r.length
   exact wpAny_truthy_list pl.isList (by simp only [List.size_toArray]; omega) ⟨H,I.tok _,by rw [pX r]; exact q⟩
  ·subst e'
   obtain ⟨its,r,pl,hz⟩:=I.tuple hx
   have hlen:=r.length
   exact truthy_tuple pl (by simp only [List.size_toArray]; omega) ⟨H,I.tok _,by rw [pX r]; exact q⟩
  ·subst e'
   obtain ⟨hz,hS,vs,r,m⟩:kvs.length<=sizeLine/\(p == sysModules)=false/\∃ vs,KV kvs vs/\s.heap.DictOf (aZ X.prog X.w) p vs:=I.hok p _ hx
   have hlen:kvs.length=vs.length:=Paired.length r
   exact wpAny_truthy_dict hS m (by omega) ⟨H,I.tok _,by rw [AE r]; exact q⟩
 | _=>exact (show False from e).elim
theorem Eu (ha:PE X a ta) (he:∀ whole,isTrue a X.env whole=(do let v <- whole; standAt a.pos; holding [v] (truthy v))):
  PT X a (fun σ H Q=>ta σ H fun x H'=>∃ k,Hr X.K x H' k/\Q k H'):=by
 intro pins s σ H Q I h
 exact isTrue_plain (thn (ha pins s σ H _ I h) fun v s1 ⟨x,H1,I1,r1,q1⟩=>Et pins s1 σ H1 x v Q I1 r1 q1) (he _)
theorem AF:OpR X (binaryOp .Add) (fun x y H Q=>∃ i j,x=.str i/\y=.str j/\i.length+j.length<=sizeLine/\Q (.str (i++j)) H):=by
 intro pins s σ H x y v u Q I rx ry h
 obtain ⟨i,j,rfl,rfl,hz,q⟩:=h
 obtain ⟨t,rfl⟩:=rx
 obtain ⟨t',rfl⟩:=ry
 exact add_str (fun t' tk=>⟨.str (i++j),H,I.tok _,⟨_,rfl⟩,q⟩) hz
theorem vals1 {x:V} {us:List Value} (r:aK [x] us):∃ u,us=[u]/\RelV x u:=by
 cases r with
 | cons r1 r2=>cases r2; exact ⟨_,rfl,r1⟩
theorem vals2 {x y:V} {us:List Value} (r:aK [x,y] us):∃ u w',us=[u,w']/\RelV x u/\RelV y w':=by
 cases r with
 | cons r1 r2=>
  cases r2 with
  | cons r3 r4=>cases r4; exact ⟨_,_,rfl,r1,r3⟩
theorem CJ (hc:X.calm=true):bE X (.builtin "max") (fun xs H Q=>∃ i j,xs=[.int i,.int j]/\Q (.int (if j > i then j else i)) H):=by
 intro pins s σ H xs us Q I r h
 obtain ⟨i,j,rfl,q⟩:=h
 obtain ⟨u,w',rfl,⟨t,rfl⟩,⟨t',rfl⟩⟩:=vals2 r
 refine max_two_ints (I.ok.hd hc) fun h' tk k=>⟨_,H,I.kept k,?_,q⟩
 by_cases hj:j > i
 ·rw [if_pos hj,if_pos hj]; exact ⟨_,rfl⟩
 ·rw [if_neg hj,if_neg hj]; exact ⟨_,rfl⟩
theorem CK (hc:X.calm=true):bE X (.builtin "min") (fun xs H Q=>∃ i j,xs=[.int i,.int j]/\Q (.int (if j < i then j else i)) H):=by
 intro pins s σ H xs us Q I r h
 obtain ⟨i,j,rfl,q⟩:=h
 obtain ⟨u,w',rfl,⟨t,rfl⟩,⟨t',rfl⟩⟩:=vals2 r
 refine min_two_ints (I.ok.hd hc) fun h' tk k=>⟨_,H,I.kept k,?_,q⟩
 by_cases hj:j < i
 ·rw [if_pos hj,if_pos hj]; exact ⟨_,rfl⟩
 ·rw [if_neg hj,if_neg hj]; exact ⟨_,rfl⟩
def Oe (K:PySem.W.Frag) (x:V) (H:Hp) (n:Nat):Prop:=
 match x with
 | .str y=>y.length<=sizeLine/\n=y.length
 | .byt y=>y.size<=sizeLine/\n=y.size
 | .ref p=>(∃ xs,SqL K H p xs/\n=xs.length)\/∃ xs,SqT K H p xs/\n=xs.length
 | _=>False
theorem Ew:bE X (.builtin "len") (fun xs H Q=>∃ x n,xs=[x]/\Oe X.K x H n/\Q (.int n) H):=by
 intro pins s σ H xs us Q I r h
 obtain ⟨x,n,rfl,e,q⟩:=h
 obtain ⟨u,rfl,rx⟩:=vals1 r
 have hl:=kA
 have hs:sizeLine=16777216:=sizeLine_eq
 cases x with
 | str y=>
  obtain ⟨t,rfl⟩:=rx
  obtain ⟨hy,e'⟩:y.length<=sizeLine/\n=y.length:=e
  subst e'
  exact len_str (by omega) ⟨.int _,H,I.tok _,⟨_,rfl⟩,q⟩
 | byt y=>
  obtain ⟨t,rfl⟩:=rx
  obtain ⟨hy,e'⟩:y.size<=sizeLine/\n=y.size:=e
  subst e'
  exact PySem.W.len_bytes (by omega) ⟨.int _,H,I.tok _,⟨_,rfl⟩,q⟩
 | ref p=>
  cases rx
  have e':(∃ xs,SqL X.K H p xs/\n=xs.length)\/∃ xs,SqT X.K H p xs/\n=xs.length:=e
  rcases e' with ⟨xs,hx,e'⟩ | ⟨xs,hx,e'⟩
  ·subst e'
   obtain ⟨its,r',pl,hz⟩:=I.list hx
   have hlen:=r'.length
   exact Calls.call_len_list pl.isList (by simp only [List.size_toArray]; omega) ⟨.int xs.length,H,I.tok _,⟨_,by simp only [List.size_toArray]; rw [hlen]⟩,q⟩
  ·subst e'
   obtain ⟨its,r',pl,hz⟩:=I.tuple hx
   have hlen:=r'.length
   exact len_tuple pl (by simp only [List.size_toArray]; omega) ⟨.int xs.length,H,I.tok _,⟨_,by simp only [List.size_toArray]; rw [hlen]⟩,q⟩
 | _=>exact (show False from e).elim
end
end L2
namespace L2
open PySem PySem.Spec PyProof.Rows
structure K9 (h:Heap) (x dx C:Addr) (mA:Str->Option Value):Prop where
 obj:h.get? x=some (PySem.W.instObj C dx)
 ns:h.Ns1 dx mA
 ne:dx≠x
theorem CL {h:Heap} {dx:Addr} {mA:Str->Option Value} (n:h.Ns1 dx mA):∃ od,h.get? dx=some od/\∀ name,PySem.W.lookIn name od=some (mA name):=by
 obtain ⟨o,es,ep,ho,hd,hk,_,hm⟩:=n
 refine ⟨o,ho,fun name=>?_⟩
 have e:=hm name
 unfold nsFind findBy at e
 rw [<- Array.find?_toList] at e
 unfold PySem.W.lookIn
 rw [hd]
 dsimp only
 split
 ·rename_i y q
  rw [q] at e
  exact congrArg some e
 ·rename_i q
  rw [q] at e
  have a:es.toList.any (·.refKey)=false:=by
   rw [List.any_eq_false]
   intro y hy
   obtain ⟨z,t,hkey⟩:=hk y (Array.mem_toList_iff.mp hy)
   simp [DictEntry.refKey,hkey]
  have a':¬ es.toList.any (·.refKey)=true:=by rw [a]; exact Bool.false_ne_true
  rw [if_neg a']
  exact congrArg some e
theorem K9.look {h:Heap} {x dx C:Addr} {mA:Str->Option Value} (I:K9 h x dx C mA):∃ od,PySem.W.InstAt h x (PySem.W.instObj C dx) C (some od)/\∀ name,PySem.W.lookIn name od=some (mA name):=
 let ⟨od,ho,hl⟩:=CL I.ns
 ⟨od,⟨I.obj,rfl,rfl,ho⟩,hl⟩
section
variable {prog:Program} {w:World} {A:Around} {E:Value->Shared->Prop} {s:Shared} {K:PySem.W.Frag} {x dx C f:Addr} {mA:Str->Option Value} {name:Str} {v:Value}
end
theorem mU.some_of {v:V} {o:Option Value} (r:mU (some v) o):∃ u,o=some u/\RelV v u:=by
 cases o with
 | none=>exact (show False from r).elim
 | some u=>exact ⟨u,rfl,r⟩
section
variable {P:Program} {w:World} {H H':Hp} {h h':Heap} {a C dx:Addr} {fs fs':List (Str×V)}
theorem Hs (hok:HOk P w H h) (e:H a=some (.ins C dx fs)):∃ mA,K9 h a dx C mA/\(∀ f,mU (fs.lookup f) (mA f))/\PySem.Within mA (fs.map (·.1))/\fs.length<=1000/\H dx=some (.own a):=by
 obtain ⟨d,z,ne,ob,mA,n,r,q⟩:=(show bU P w H h a (.ins C dx fs) from hok a _ e)
 exact ⟨mA,⟨ob,n,ne⟩,r,q,z,d⟩
end
structure Cls (K:PySem.W.Frag) (C:Addr):Prop where
 pg:PySem.W.plainGet K C Str.empty=true
 hd:PySem.W.hasDictIn K C=true
 po:PySem.W.plainOver K C=true
 sa:PySem.W.findIn K (.ref C) "__setattr__" = some (some (.builtin "object.__setattr__"))
theorem Cls.get {K:PySem.W.Frag} {C:Addr} (c:Cls K C) (f:Str):PySem.W.plainGet K C f=true:=c.pg
structure Con (K:PySem.W.Frag) (C:Addr) (f:Str) (v:V) (u:Value):Prop where
 at_:PySem.W.findIn K (.ref C) f=some (some u)
 rel:RelV v u
 get:PySem.W.specialIn K u "__get__" = some none
 cp:PySem.W.copiedNames.contains f=false
structure P3 (K:PySem.W.Frag) (C:Addr) (m:Str) (f:Addr):Prop where
 at_:PySem.W.findIn K (.ref C) m=some (some (.ref f))
 fn:PySem.W.isFn K (.ref f)=true
 kp:PySem.W.keepIn K (.ref f)=true
section
variable {X:Cx} {pins:List (Addr×Obj)} {σ:St} {H:Hp} {s:Shared} {a C dx:Addr} {fs:List (Str×V)} {f:Str} {v:V} {A:Around} {E:Value->Shared->Prop}
end
section
variable {X:Cx} {o e value:Expr} {f:Str} {pos pos' tpos:Pos} {ta tv:TE}
end
section
variable {X:Cx} {pins:List (Addr×Obj)} {σ:St} {H:Hp} {s:Shared} {A:Around} {E:Value->Shared->Prop} {Q:Value->Shared->Prop} {c:Value} {b:Bool}
inductive mW (K:PySem.W.Frag) (H:Hp):V->Value->Prop where
 | non:mW K H .non (.type "NoneType")
 | bl (x:Bool):mW K H (.bl x) (.type "bool")
 | int (i:Int):mW K H (.int i) (.type "int")
 | str (x:Str):mW K H (.str x) (.type "str")
 | flt (x:UInt64):mW K H (.flt x) (.type "float")
 | lst {a:Addr} {xs:List V} (e:H a=some (.lst xs)):mW K H (.ref a) (.type "list")
 | frz {a:Addr} {o:Obj} {xs:List V} (e:H a=some (.frz o (.lst xs))):mW K H (.ref a) (.type "list")
 | tup {a:Addr} {xs:List V} (e:H a=some (.tup xs)):mW K H (.ref a) (.type "tuple")
 | dK {a:Addr} {kvs:List (Key×V)} (e:H a=some (.dK kvs)):mW K H (.ref a) (.type "dict")
 | dT {a:Addr} {kvs:List (List Key×V)} (e:H a=some (.dT kvs)):mW K H (.ref a) (.type "dict")
 | ins {a C dx:Addr} {fs:List (Str×V)} (e:H a=some (.ins C dx fs)) (cl:Cls K C) (ha:PySem.W.findIn K (.ref C) "__class__" = some (some (.builtin "object.__class__")))
   (hn:PySem.W.specialIn K (.builtin "object.__class__") "__get__" = some (some (.builtin "getset_descriptor.__get__"))) (htk:PySem.W.takesIn K (.builtin "object.__class__")=some true)
   (hm:PySem.W.mroIn K C (.type "object")=some true):mW K H (.ref a) (.ref C)
theorem CM {x:V} {u t:Value} (I:Inv X pins σ H s) (rx:RelV x u) (ty:mW X.K H x t) (e:PySem.W.kitOne X.K t c=some b) (h:∀ tk,Q (.bool b) { s with toks:=tk }):
  wpAny (model X.prog X.w) A (call (.builtin "isinstance") [u,c]) Q E s:=by
 cases ty with
 | non=>cases (show u=Value.none from rx); exact PySem.W.kia_one PySem.W.kitx_none I.kIn True.intro e (fun z=>nomatch z) h
 | bl y=>cases (show u=Value.bool y from rx); exact PySem.W.kia_one PySem.W.kitx_bool I.kIn True.intro e (fun z=>nomatch z) h
 | int i=>obtain ⟨t,q⟩:=(show ∃ t,u=Value.int i t from rx); cases q; exact PySem.W.kia_one PySem.W.kitx_int I.kIn True.intro e (fun z=>nomatch z) h
 | str y=>obtain ⟨t,q⟩:=(show ∃ t,u=Value.str y t from rx); cases q; exact PySem.W.kia_one PySem.W.kitx_str I.kIn True.intro e (fun z=>nomatch z) h
 | flt y=>obtain ⟨t,q⟩:=(show ∃ t,u=Value.float y t from rx); cases q; exact PySem.W.kia_one PySem.W.kitx_float I.kIn True.intro e (fun z=>nomatch z) h
 | @lst a xs ea=>
  cases (show u=Value.ref a from rx)
  obtain ⟨_,_,n,_,h1⟩:=(show bU X.prog X.w H s.heap a (.lst xs) from I.hok a _ ea)
  exact PySem.W.kia_one PySem.W.kitx_list I.kIn ⟨_,h1,rfl⟩ e (fun z=>nomatch z) h
 | @frz a ob xs ea=>
  cases (show u=Value.ref a from rx)
  obtain ⟨_,_,_,n,_,h1⟩:=(show bU X.prog X.w H s.heap a (.frz ob (.lst xs)) from I.hok a _ ea)
  exact PySem.W.kia_one PySem.W.kitx_list I.kIn ⟨_,h1,rfl⟩ e (fun z=>nomatch z) h
 | @tup a xs ea=>
  cases (show u=Value.ref a from rx)
  obtain ⟨_,_,_,p⟩:=(show bU X.prog X.w H s.heap a (.tup xs) from I.hok a _ ea)
  obtain ⟨o,h1,h2,_⟩:=p
  exact PySem.W.kia_one PySem.W.kitx_tuple I.kIn ⟨o,h1,h2⟩ e (fun z=>nomatch z) h
 | @dK a kvs ea=>
  cases (show u=Value.ref a from rx)
  obtain ⟨_,_,vs,_,p⟩:=(show bU X.prog X.w H s.heap a (.dK kvs) from I.hok a _ ea)
  obtain ⟨o,es,ep,h1,h2,_⟩:=p
  exact PySem.W.kia_one PySem.W.kitx_dict I.kIn ⟨o,h1,h2.1⟩ e (fun z=>nomatch z) h
 | @dT a kvs ea=>
  cases (show u=Value.ref a from rx)
  obtain ⟨_,_,xs,_,o,es,ep,h1,h2,_⟩:=(show bU X.prog X.w H s.heap a (.dT kvs) from I.hok a _ ea)
  exact PySem.W.kia_one PySem.W.kitx_dict I.kIn ⟨o,h1,h2.1⟩ e (fun z=>nomatch z) h
 | @ins a C dx fs ea cl ha hn htk hm=>
  cases (show u=Value.ref a from rx)
  obtain ⟨mA,O,_⟩:=Hs I.hok ea
  obtain ⟨od,J,_⟩:=O.look
  exact PySem.W.kia_one (PySem.W.kitx_own (cl.get _) cl.hd ha hn htk hm) I.kIn J e (fun z=>nomatch z) h
end
end L2
namespace L2
open PySem PySem.Spec PyProof.Rows
structure eD (k:Nat) (A:Around):Prop where
 hd:A.handled=none
 dp:A.depth+3*k+5 < recursionLimit
 un:A.units+16*k+200 < cLine
theorem eD.mono {j k:Nat} {A:Around} (r:eD k A) (h:j<=k):eD j A:=⟨r.hd,by have:=r.dp; omega,by have:=r.un; omega⟩
theorem eD.deeper {k:Nat} {A:Around} (r:eD (k+1) A) (env:Env):eD k (A.deeper env):=
 ⟨r.hd,by have:=r.dp; show A.depth+1+3*k+5 < _; omega,by have:=r.un; show A.units+3+16*k+200 < _; omega⟩
theorem eD.in1 {k:Nat} {A:Around} (r:eD (k+1) A):eD k A.in1:=
 ⟨r.hd,by have:=r.dp; show A.depth+3*k+5 < _; omega,by have:=r.un; show A.units+1+16*k+200 < _; omega⟩
theorem eD.depth {k:Nat} {A:Around} (r:eD k A):A.depth < recursionLimit:=by have:=r.dp; omega
theorem eD.units {k:Nat} {A:Around} (r:eD k A):A.units+64 < cLine:=by have:=r.un; omega
def M4:TA:=fun _ H Q=>Q [] H
def Jq (ta:TE) (tr:TA):TA:=fun σ H Q=>ta σ H fun x H1=>tr σ H1 fun xs H2=>Q (x :: xs) H2
section
variable {X:Cx} {e:Expr} {es:List Expr} {te:TE} {t:TA} {pos:Pos}
theorem Ex:PA X [] M4:=fun _ _ _ _ H Q I h=>Calls.spliced_nil ⟨[],H,I,.nil,h⟩
theorem BS (ha:PE X e te) (hr:PA X es t) (hs:starEach (e :: es) X.env=(false,eval e X.env) :: starEach es X.env:=by rfl):PA X (e :: es) (Jq te t):=by
 intro pos pins s σ H Q I h
 rw [hs]
 show wpAny _ _ (spliced ((false,eval e X.env) :: backTo pos (starEach es X.env))) _ _ s
 refine Calls.spliced_cons (thn (ha pins s σ H _ I h) fun u s1 hz=>?_)
 obtain ⟨x,H1,I1,r1,q1⟩:=hz
 exact thn (hr pos pins s1 σ H1 _ I1 q1) fun us s2 ⟨xs,H2,I2,r2,q2⟩=>⟨x :: xs,H2,I2,.cons r1 r2,q2⟩
def Of (t:TA):TE:=fun σ H Q=>t σ H fun xs H1=>xs.length<=sizeLine/\∀ p,H1 p=none->Q (.ref p) (upd H1 p (.tup xs))
def Og (t:TA):TE:=fun σ H Q=>t σ H fun xs H1=>xs.length<=sizeLine/\∀ p,H1 p=none->Q (.ref p) (upd H1 p (.lst xs))
theorem K' {x1} (h:PA X es t):PE X (.Tuple es x1 pos) (Of t):=by
 intro pins s σ H Q I hq
 refine wpAny_Tuple_spliced (thn (h pos pins s σ H _ I hq) fun us s1 ⟨xs,H1,I1,r,z,q⟩=>⟨by rw [<- r.length]; exact z,?_⟩)
 have hf:H1 s1.heap.objs.size=none:=I1.hok.fresh (Nat.le_refl _)
 refine ⟨.ref s1.heap.objs.size,upd H1 s1.heap.objs.size (.tup xs),I1.laid (t':=s1.toks) (fun b u e=>Heap.get?_push_of_some _ e) (Nat.le_refl _) ?_,rfl,q _ hf⟩
 exact ⟨z,us,r,⟨_,Heap.get?_push_size _ rfl,rfl,⟨_,rfl⟩,rfl⟩⟩
theorem Ka (h:PA X es t):PE X (.List es pos) (Og t):=by
 intro pins s σ H Q I hq
 refine wpAny_List_spliced (thn (h pos pins s σ H _ I hq) fun us s1 ⟨xs,H1,I1,r,z,q⟩=>⟨by rw [<- r.length]; exact z,?_⟩)
 have hf:H1 s1.heap.objs.size=none:=I1.hok.fresh (Nat.le_refl _)
 refine ⟨.ref s1.heap.objs.size,upd H1 s1.heap.objs.size (.lst xs),I1.laid (t':=s1.toks) (fun b u e=>Heap.get?_push_of_some _ e) (Nat.le_refl _) ?_,rfl,q _ hf⟩
 exact ⟨z,us,0,r,Heap.get?_push_size _ rfl⟩
end
abbrev Sp:=List V->Hp->VK->XK->Prop
abbrev CXT:=List Env->Hp->Shared->XK->Value->Shared->Prop
structure AG (P:Program) (w:World) (K:PySem.W.Frag) (mg:Str->Option Value) (base:Heap) (A:Around) (outer:List Env) (s:Shared) (H:Hp):Prop where
 frames:A.frames=some outer
 mod:Mod K mg base
 bs:∀ b o,base.get? b=some o->s.heap.get? b=some o/\H b=none
 bsz:base.objs.size<=s.heap.objs.size
 funs:s.heap.FunFrames base outer
 frf:∀ b∈frs outer,H b=none
 hok:HOk P w H s.heap
 bare:AllBare s.gens
def CE (outer:List Env) (P:Program) (w:World) (H:Hp) (s:Shared) (Q:VK) (u:Value) (s':Shared):Prop:=
 ∃ v H',s'.os=s.os/\AllBare s'.gens/\Un (frs outer) [] H H' s.heap s'.heap/\HOk P w H' s'.heap/\RelV v u/\Q v H'
def CR (CX:CXT) (outer:List Env) (P:Program) (w:World) (H:Hp) (s:Shared) (Q:VK) (E:XK) (r:Result) (s':Shared):Prop:=
 match r with
 | .ok (.ret u)=>CE outer P w H s Q u s'
 | .ok _=>False
 | .error e=>CX outer H s E e s'
structure aQ (P:Program) (w:World) (K:PySem.W.Frag) (mg:Str->Option Value) (base:Heap) (CX:CXT) (k:Nat) (f:Addr) (fd:FuncData) (ps:List Str) (sp:Sp):Prop where
 len:∀ vs H Q E,sp vs H Q E->vs.length=ps.length
 run:∀ (A:Around) (outer:List Env) (s:Shared) (H:Hp) (args:Args) (us:List Value) (vs:List V) (Q:VK) (E:XK),eD k A->AG P w K mg base A outer s H->BindsTo s fd args (ps.zip us)->aK vs us->sp vs H Q E->
  codeAny (model P w) A (.call (.ref f) args) (CR CX outer P w H s Q E) s
theorem aQ.imp {P:Program} {w:World} {K:PySem.W.Frag} {mg:Str->Option Value} {base:Heap} {CX:CXT} {k:Nat} {f:Addr} {fd:FuncData} {ps:List Str} {sp sp':Sp} (F:aQ P w K mg base CX k f fd ps sp)
  (h:∀ vs H Q E,sp' vs H Q E->sp vs H Q E):aQ P w K mg base CX k f fd ps sp':=
 ⟨fun vs H Q E q=>F.len vs H Q E (h _ _ _ _ q),fun A outer s H args us vs Q E hr he hb hv hs=>F.run A outer s H args us vs Q E hr he hb hv (h _ _ _ _ hs)⟩
theorem AG.in1 {P:Program} {w:World} {K:PySem.W.Frag} {mg:Str->Option Value} {base:Heap} {A:Around} {outer:List Env} {s:Shared} {H:Hp} (e:AG P w K mg base A outer s H):
  AG P w K mg base A.in1 outer s H:=⟨e.frames,e.mod,e.bs,e.bsz,e.funs,e.frf,e.hok,e.bare⟩
section
variable {X:Cx} {pins:List (Addr×Obj)} {σ:St} {H:Hp} {s s':Shared}
theorem Inv.env0 (I:Inv X pins σ H s):AG X.prog X.w X.K X.mg X.base X.A X.stack s H:=
 ⟨I.ok.frames,I.ok.mod,I.bs,Nat.le_trans I.ok.bsz I.sz,I.stack,I.stkFree,I.hok,I.bare⟩
theorem Inv.after {Q:VK} {u:Value} (I:Inv X pins σ H s) (h:CE X.stack X.prog X.w H s Q u s'):EP X pins σ Q u s':=by
 obtain ⟨v,H',os,bare,un,hok,r,q⟩:=h
 obtain ⟨hh,g,d,t,os'⟩:=s'
 obtain rfl:os'=s.os:=os
 exact ⟨v,H',I.call (h':=hh) (g':=g) (d':=d) (t':=t) (ch:=[]) un hok bare (fun b z=>absurd z (by simp)),r,q⟩
end
def Jr (sp:Sp) (dvs:List V) (E:XK) (t:TA):TE:=fun σ H Q=>t σ H fun vs H1=>sp (vs++dvs) H1 Q E
def Binds (K:PySem.W.Frag) (fd:FuncData) (ps:List Str) (ds:List Value):Prop:=
 ∀ (s:Shared) (us:List Value),K.In s.heap->(us++ds).length=ps.length->BindsTo s fd ⟨us,[]⟩ (ps.zip (us++ds))
theorem Binds.all {K:PySem.W.Frag} {fd:FuncData} {ps:List Str} (h:∀ us:List Value,us.length=ps.length->bindArgs fd ⟨us,[]⟩=pure (ps.zip us)):Binds K fd ps []:=fun s us _ hl=>by
 rw [List.append_nil] at hl ⊢
 exact .of_eq (h us hl)
def AH (CX:CXT) (X:Cx) (E:XK):Prop:=∀ (pins:List (Addr×Obj)) (σ:St) (H:Hp) (s:Shared) (e:Value) (s':Shared),Inv X pins σ H s->CX X.stack H s E e s'->X.xe e s'
section
variable {X:Cx} {CX:CXT} {k:Nat} {f C:Addr} {fd:FuncData} {ps:List Str} {sp:Sp} {dvs:List V} {ds:List Value} {E:XK} {x m:Str} {p pos apos:Pos} {e o:Expr} {es:List Expr} {ta:TE} {t:TA}
theorem Kb {pins:List (Addr×Obj)} {σ:St} {H:Hp} {s:Shared} {Q:VK} {us:List Value} {vs:List V} (F:aQ X.prog X.w X.K X.mg X.base CX k f fd ps sp) (hr:eD k X.A) (hb:Binds X.K fd ps ds) (hd:aK dvs ds) (hx:AH CX X E)
  (I:Inv X pins σ H s) (r:aK vs us) (h:sp (vs++dvs) H Q E):wpAny (model X.prog X.w) X.A (call (.ref f) us) (EP X pins σ Q) X.xe s:=by
 have r2:aK (vs++dvs) (us++ds):=r.append hd
 have hl:(us++ds).length=ps.length:=by rw [<- r2.length]; exact F.len _ _ _ _ h
 refine wpAny_call (codeAny_mono (F.run X.A X.stack s H ⟨us,[]⟩ (us++ds) (vs++dvs) Q E hr I.env0 (hb s us I.kIn hl) r2 h) fun r s' hq=>?_)
 cases r with
 | error e=>exact hx pins σ H s e s' I hq
 | ok fl=>
  cases fl with
  | ret u=>exact I.after hq
  | next=>exact False.elim hq
  | brk=>exact False.elim hq
  | cont=>exact False.elim hq
theorem Ht (F:aQ X.prog X.w X.K X.mg X.base CX k f fd ps sp) (hr:eD k X.A) (hg:Gl X x) (hm:X.mg x=some (.ref f)) (hk:PySem.W.keepIn X.K (.ref f)=true) (hb:Binds X.K fd ps ds) (hd:aK dvs ds) (hx:AH CX X E)
  (ha:PA X (e :: es) t) (hdb:(x == ("__debug__" : Str))=false:=by decide) (he:starEach (e :: es) X.env=(false,eval e X.env) :: starEach es X.env:=by rfl) (hpl:(backTo pos (starEach es X.env)).any (·.1)=false:=by rfl):
  PE X (.Call (.Name x p) (e :: es) [] pos) (Jr sp dvs E t):=by
 intro pins s σ H Q I h
 refine wpAny_Call_Name_kw (BR I hg hm ?_ hdb)
 refine PySem.W.callWith_K (h₀:=X.base) I.ok.mod.kin hk (thn (ha pos pins s σ H _ I h) fun us s1 ⟨vs,H1,I1,r,q⟩=>⟨I1.kIn,?_⟩) he hpl
 exact Kb F hr hb hd hx I1 r q
structure Mk (K:PySem.W.Frag) (C f:Addr):Prop where
 makes:PySem.W.makesIn K C=true
 init:PySem.W.findIn K (.ref C) "__init__" = some (some (.ref f))
 fn:PySem.W.isFn K (.ref f)=true
 kp:PySem.W.keepIn K (.ref C)=true
end
section
variable {X:Cx} {CX:CXT} {k:Nat} {f C:Addr} {fd:FuncData} {ps ks:List Str} {sp:Sp} {E:XK} {x m:Str} {p pos apos kpos:Pos} {e o:Expr} {es:List Expr} {kws:List Keyword} {te ta:TE} {t tk:TA} {nm:Option Str}
structure Oh (K:PySem.W.Frag) (fd:FuncData) (ps ks:List Str) (g:List Value->List Value->List Value) (gV:List V->List V->List V):Prop where
 to:∀ (s:Shared) (us ws:List Value),K.In s.heap->(g us ws).length=ps.length->BindsTo s fd ⟨us,ks.zip ws⟩ (ps.zip (g us ws))
 rel:∀ {vs:List V} {us:List Value} {zs:List V} {ws:List Value},aK vs us->aK zs ws->aK (gV vs zs) (g us ws)
variable {g:List Value->List Value->List Value} {gV:List V->List V->List V}
end
structure bB (N P:List Str) (sc:Scope):Prop where
 kind:sc.kind=.function
 co:sc.isCoroutine=false
 gen:sc.isGenerator=false
 nd:N.Nodup
 pre:N.take P.length=P
 par:∀ x∈P,sc.names.lookup x=some .local\/sc.names.lookup x=some .cell
 nofree:∀ y∈sc.names,y.2≠.free
theorem tE {kindOf:Str->Option NameKind} {x:Str}:∀ {binds:List (Str×Value)} {m:Str->Option Value},(∀ v,(x,v)∉binds)->bindL kindOf binds m x=m x
 | [],_,_=>rfl
 | (n,v) :: r,m,h=>by
  unfold bindL
  rw [tE fun w hw=>h w (List.mem_cons_of_mem _ hw)]
  split
  ·have:x≠n:=by rintro rfl; exact h v List.mem_cons_self
   simp [this]
  ·rfl
theorem tF {kindOf:Str->Option NameKind} {x:Str}:∀ {binds:List (Str×Value)} {m:Str->Option Value},(∀ v,(x,v)∉binds)->bindC kindOf binds m x=m x
 | [],_,_=>rfl
 | (n,v) :: r,m,h=>by
  unfold bindC
  rw [tF fun w hw=>h w (List.mem_cons_of_mem _ hw)]
  split
  ·rfl
  ·have:x≠n:=by rintro rfl; exact h v List.mem_cons_self
   simp [this]
theorem tG {kindOf:Str->Option NameKind} {x:Str} {v:Value}:∀ {P:List Str} {vs:List Value} {i:Nat} {m:Str->Option Value},P.Nodup->P[i]?=some x->vs[i]?=some v->kindOf x=some .local->
  bindL kindOf (P.zip vs) m x=some v
 | [],_,_,_,_,h,_,_=>by simp at h
 | _ :: _,[],_,_,_,_,h,_=>by simp at h
 | p :: P,w :: vs,0,m,nd,h1,h2,hk=>by
  simp at h1 h2; subst h1; subst h2
  show bindL kindOf ((p,w) :: P.zip vs) m p=_
  unfold bindL
  rw [tE fun v hv=>(List.nodup_cons.mp nd).1 (List.of_mem_zip hv).1,if_pos hk]
  simp
 | p :: P,w :: vs,i+1,m,nd,h1,h2,hk=>by
  show bindL kindOf ((p,w) :: P.zip vs) m x=_
  unfold bindL
  exact tG (i:=i) (List.nodup_cons.mp nd).2 (by simpa using h1) (by simpa using h2) hk
theorem tH {kindOf:Str->Option NameKind} {x:Str} {v:Value}:∀ {P:List Str} {vs:List Value} {i:Nat} {m:Str->Option Value},P.Nodup->P[i]?=some x->vs[i]?=some v->kindOf x≠some .local->
  bindC kindOf (P.zip vs) m x=some v
 | [],_,_,_,_,h,_,_=>by simp at h
 | _ :: _,[],_,_,_,_,h,_=>by simp at h
 | p :: P,w :: vs,0,m,nd,h1,h2,hk=>by
  simp at h1 h2; subst h1; subst h2
  show bindC kindOf ((p,w) :: P.zip vs) m p=_
  unfold bindC
  rw [tF fun v hv=>(List.nodup_cons.mp nd).1 (List.of_mem_zip hv).1,if_neg hk]
  simp
 | p :: P,w :: vs,i+1,m,nd,h1,h2,hk=>by
  show bindC kindOf ((p,w) :: P.zip vs) m x=_
  unfold bindC
  exact tH (i:=i) (List.nodup_cons.mp nd).2 (by simpa using h1) (by simpa using h2) hk
def start (N:List Str) (vs:List V):St:=vs.map some++List.replicate (N.length - vs.length) none
def AI (CX:CXT) (P:Program) (w:World) (K:PySem.W.Frag) (mg:Str->Option Value) (base:Heap) (N:List Str) (qual:Str) (scope:Scope) (f:Addr) (cd:Value) (A:Around) (outer:List Env) (s:Shared) (H:Hp) (E:XK):Cx where
 prog:=P
 w:=w
 K:=K
 mg:=mg
 base:=base
 A:=A.deeper (envOfC qual scope s.heap.objs.size f cd)
 N:=N
 s₀:=s
 H₀:=H
 env:=envOfC qual scope s.heap.objs.size f cd
 outer:=outer
 stack:=envOfC qual scope s.heap.objs.size f cd :: outer
 ex:=[]
 calm:=true
 fn:=fun _=>true
 pn:=[]
 xe:=fun e s'=>wpAny (model P w) (A.deeper (envOfC qual scope s.heap.objs.size f cd)) (leaving (envOfC qual scope s.heap.objs.size f cd) e) (fun _ s''=>CX outer H s E e s'') (fun e' s''=>CX outer H s E e' s'') s'
theorem yP {sc:Scope} {n:Nat} {x:Str} (h:sc.names.lookup x=some .cell):∃ c,(cellsFrom n sc.names []).lookup x=some c:=by
 have q:=PySem.W.cellsFrom_some sc.names n [] (.inl h)
 exact Option.isSome_iff_exists.mp q
theorem CN {CX:CXT} {P:Program} {w:World} {K:PySem.W.Frag} {mg:Str->Option Value} {base:Heap} {N ps:List Str} {qual:Str} {scope:Scope} {f:Addr} {cd:Value} {A:Around} {outer:List Env} {s s1:Shared} {H:Hp} {E:XK} {us:List Value} {vs:List V}
  (S:bB N ps scope) (hd:A.handled=none) (e0:AG P w K mg base A outer s H) (hl:vs.length=ps.length) (r:aK vs us)
  (x:InCallC s s.heap.objs.size (bindL (envOfC qual scope s.heap.objs.size f cd).kindOf (ps.zip us) fun _=>none) (cellsFrom (s.heap.objs.size+1) scope.names []) (bindC (envOfC qual scope s.heap.objs.size f cd).kindOf (ps.zip us) fun _=>none) s1):
  Inv (AI CX P w K mg base N qual scope f cd A outer s H E) [] (start N vs) H s1:=by
 have hpl:ps.length<=N.length:=by have:=congrArg List.length S.pre; rw [List.length_take] at this; omega
 obtain ⟨h1,tk,rfl,hk⟩:=x.done
 have noA:∀ b:Addr,b∉(AI CX P w K mg base N qual scope f cd A outer s H E).ex:=fun b z=>absurd (show b∈([]:List Addr) from z) (by simp)
 refine ⟨⟨e0.mod,S.kind,rfl,rfl,Nat.le_refl _,fun y z c h1 h2=>?_,fun y hy=>?_,fun y c _ h=>?_,fun _=>hd,Around.frames_deeper e0.frames,.inr ⟨rfl,rfl⟩,fun b z=>absurd z (noA b),e0.bs,e0.bsz,fun b _ _=>noA b,fun b z=>absurd z (noA b),e0.funs,e0.frf⟩,
  rfl,e0.bare,Un.kept hk,⟨_,x.toInCall.ns,fun i y v h1 h2 h3=>?_⟩,fun y c h=>⟨_,x.cell y c h⟩,e0.hok.fresh (Nat.le_refl _),fun y c h=>?_,fun p hp=>absurd (show p∈([]:List (Addr×Obj)) from hp) (by simp),e0.hok.kept hk,?_⟩
 ·exact name_of_addr x.apart (PySem.mem_of_lookup h1) (PySem.mem_of_lookup h2)
 ·have hy:scope.names.lookup y=some .cell\/scope.names.lookup y=some .free:=hy
  rcases hy with hy | hy
  ·exact yP hy
  ·exact absurd rfl (S.nofree _ (PySem.mem_of_lookup hy))
 ·exact Nat.le_of_lt (x.above y c (PySem.mem_of_lookup h))
 ·have hi:i < vs.length:=by
   unfold start at h2
   by_cases hi:i < vs.length
   ·exact hi
   ·rw [List.getElem?_append_right (by simpa using hi)] at h2
    rw [List.getElem?_replicate] at h2
    split at h2 <;> cases h2
  have ha:vs[i]?=some v:=by
   unfold start at h2
   rw [List.getElem?_append_left (by simpa using hi),List.getElem?_map] at h2
   cases e:vs[i]? with
   | none=>rw [e] at h2; cases h2
   | some a=>rw [e] at h2; cases h2; rfl
  obtain ⟨u,hu,rv⟩:=r.get ha
  have hp:ps[i]?=some y:=by
   rw [<- S.pre,List.getElem?_take_of_lt (by omega)]; exact h1
  have ndP:ps.Nodup:=by rw [<- S.pre]; exact S.nd.sublist (List.take_sublist _ _)
  refine ⟨u,rv,?_⟩
  rcases S.par y (List.mem_of_getElem? hp) with k | k
  ·exact .inl ⟨k,tG ndP hp hu k⟩
  ·obtain ⟨c,e⟩:=yP (n:=s.heap.objs.size+1) k
   refine .inr ⟨.inl k,c,e,?_⟩
   have q:=x.cell y c e
   rw [tH ndP hp hu (by show scope.names.lookup y≠_; rw [k]; decide)] at q
   exact q
 ·exact e0.hok.fresh (Nat.le_of_lt (x.above y c (PySem.mem_of_lookup h)))
 ·unfold start
  show _=N.length
  rw [List.length_append,List.length_map,List.length_replicate]
  omega
theorem M5 {CX:CXT} {P:Program} {w:World} {K:PySem.W.Frag} {mg:Str->Option Value} {base:Heap} {k:Nat} {f:Addr} {name qual:Str} {params:Arguments} {body:List Stmt} {scope:Scope} {dV kV doc pm cdv ct oc:Value} {an od:Option Addr}
  {osl:Array (Option Value)} {N ps:List Str} {sp:Sp} (lk:K.lookup f=some ⟨oc,od,.func (PySem.W.fnOf name qual params body scope dV kV doc pm an cdv ct),osl⟩) (hcd:PySem.W.codeIn K cdv qual=true) (S:bB N ps scope)
  (len:∀ vs H Q E,sp vs H Q E->vs.length=ps.length)
  (hbody:∀ (A:Around) (outer:List Env) (s:Shared) (H:Hp) (vs:List V) (Q:VK) (E:XK),eD k (A.deeper (envOfC qual scope s.heap.objs.size f cdv))->sp vs H Q E->
   ∃ t,PSs (AI CX P w K mg base N qual scope f cdv A outer s H E) body t/\t { nx:=fun _ H'=>Q .non H',rt:=Q } (start N vs) H):
  aQ P w K mg base CX (k+1) f (PySem.W.fnOf name qual params body scope dV kV doc pm an cdv ct) ps sp:=by
 refine ⟨len,fun A outer s H args us vs Q E hr e0 hb r hsp=>?_⟩
 have hl:=len _ _ _ _ hsp
 have KX:K.In s.heap:=e0.mod.kin.keeps fun b o e=>(e0.bs b o e).1
 have lim:s.heap.NoLimit:=e0.mod.nolimit.keeps fun b o e=>(e0.bs b o e).1
 have hkind:∀ y∈ps.zip us,scope.names.lookup y.1=some .local\/(scope.names.lookup y.1=some .cell/\((cellsFrom (s.heap.objs.size+1) scope.names []).lookup y.1).isSome=true):=fun ⟨n,v⟩ hy=>by
  rcases S.par n (List.of_mem_zip hy).1 with q | q
  ·exact .inl q
  ·exact .inr ⟨q,PySem.W.cellsFrom_some _ _ _ (.inl q)⟩
 refine codeAny_call_function hr.depth (KX _ _ lk) rfl S.co S.gen rfl (PySem.W.codeRec_of KX hcd) (hb _ _ _ _ ?_)
 refine wpAny_newFunctionEnv_cells S.kind hkind fun env he s1 x=>?_
 subst he
 refine ⟨lim.keeps x.toInCall.keep,codeAny_func ?_⟩
 obtain ⟨t,ht,hq⟩:=hbody A outer s H vs Q E (hr.deeper _) hsp
 have I:Inv (AI CX P w K mg base N qual scope f cdv A outer s H E) [] (start N vs) H s1:=CN S hr.hd e0 hl r x
 refine wpAny_mono (ht [] s1 (start N vs) H _ I hq) (fun fl s' hs=>?_) fun e s' hs=>hs
 have fin:∀ {σ':St} {H':Hp} {v:V} {u:Value},Inv (AI CX P w K mg base N qual scope f cdv A outer s H E) [] σ' H' s'->RelV v u->Q v H'->CE outer P w H s Q u s':=
  fun {σ' H' v u} J rv q=>⟨v,H',J.os,J.bare,J.base,J.hok,rv,q⟩
 cases fl with
 | ret u=>
  obtain ⟨v,σ',H',J,rv,q⟩:=hs
  exact fin J rv q
 | next=>
  obtain ⟨σ',H',J,q⟩:=hs
  exact fin (v:=V.non) (u:=Value.none) J rfl q
 | brk=>
  obtain ⟨_,_,_,q⟩:=hs
  exact False.elim q
 | cont=>
  obtain ⟨_,_,_,q⟩:=hs
  exact False.elim q
end L2
namespace L2
open PySem PySem.Spec PyProof.Rows
section
variable {X:Cx} {x:Str} {p pos:Pos} {e:Expr} {es:List Expr} {t:TA} {id T:String} {r:List V->Hp->VK->Prop}
def tCB (r:List V->Hp->VK->Prop) (t:TA):TE:=fun σ H Q=>t σ H fun vs H1=>r vs H1 Q
theorem Ey (hc:bE X (.builtin id) r) (hg:Gl X x) (hm:X.mg x=none) (hv:bootBuiltins x=some (.builtin id)) (ha:PA X (e :: es) t) (hn:x≠"__name__" := by decide) (hdb:(x == ("__debug__" : Str))=false:=by decide)
  (he:starEach (e :: es) X.env=(false,eval e X.env) :: starEach es X.env:=by rfl) (hpl:(backTo pos (starEach es X.env)).any (·.1)=false:=by rfl):PE X (.Call (.Name x p) (e :: es) [] pos) (tCB r t):=by
 intro pins s σ H Q I h
 refine wpAny_Call_Name_kw (pV I hg hm hv ?_ hn hdb)
 exact PyProof.Rows.callWith_builtin1 (thn (ha pos pins s σ H _ I h) fun us s1 ⟨vs,H1,I1,r1,q1⟩=>hc pins s1 σ H1 vs us Q I1 r1 q1) he hpl
theorem CO (hc:bE X (.type T) r) (hg:Gl X x) (hm:X.mg x=none) (hv:bootBuiltins x=some (.type T)) (ha:PA X (e :: es) t) (hn:x≠"__name__" := by decide) (hdb:(x == ("__debug__" : Str))=false:=by decide)
  (he:starEach (e :: es) X.env=(false,eval e X.env) :: starEach es X.env:=by rfl) (hpl:(backTo pos (starEach es X.env)).any (·.1)=false:=by rfl):PE X (.Call (.Name x p) (e :: es) [] pos) (tCB r t):=by
 intro pins s σ H Q I h
 refine wpAny_Call_Name_kw (pV I hg hm hv ?_ hn hdb)
 exact PyProof.Rows.callWith_type1 (thn (ha pos pins s σ H _ I h) fun us s1 ⟨vs,H1,I1,r1,q1⟩=>hc pins s1 σ H1 vs us Q I1 r1 q1) he hpl
end
end L2
namespace HT
open PySem PyProof.Rows
section
open PySem.SeqAt
open PySem.AutoSeq1 (wpAny_loadPart')
open PySem.MeetsSeq PySem.MeetsSeq2 PySem.MeetsSeq3
end
section
variable {prog:Program} {w:World} {A:Around} {E:Value->Shared->Prop} {s:Shared}
theorem cat_tup {t b:Addr} {vs ws:List Value} {Q:Value->Shared->Prop} (ht:IsTup s.heap t vs.toArray) (hb:IsTup s.heap b ws.toArray) (hv:vs≠[])
  (h1:ws=[]->Q (.ref t) s) (h2:ws≠[]->Q (.ref s.heap.objs.size) { s with heap:=s.heap.push { cls:=.type "tuple",data:=.seq (vs++ws).toArray } })
  (hsz:vs.length+ws.length<=sizeLine):wpAny (model prog w) A (binaryOp .Add (.ref t) (.ref b)) Q E s:=by
 obtain ⟨⟨cls,dd,data,sl⟩,ho,hc,n,hd⟩:=id ht
 obtain ⟨⟨cls2,dd2,data2,sl2⟩,ho2,hc2,n2,hd2⟩:=id hb
 simp only at hc hd hc2 hd2
 subst hc hd hc2 hd2
 have e:vs.toArray++ws.toArray=(vs++ws).toArray:=by simp
 by_cases hw:ws=[]
 ·exact concat_meets ⟨_,ho,rfl⟩ ⟨_,ho2,rfl⟩ noFill_tuple_add seq_tuple_add PySem.F.slot_tuple_add PySem.F.entry_tuple_add (PySem.F.args_tuple_add_2 _ _)
   (tuple_addW1 t b vs.toArray ws.toArray n n2 dd dd2 sl sl2 (by simpa using hv) (by simp [hw])) ⟨ho,ho2,h1 hw⟩
 ·refine concat_meets ⟨_,ho,rfl⟩ ⟨_,ho2,rfl⟩ noFill_tuple_add seq_tuple_add PySem.F.slot_tuple_add PySem.F.entry_tuple_add (PySem.F.args_tuple_add_2 _ _)
   (tuple_addW2 t b vs.toArray ws.toArray n n2 dd dd2 sl sl2 (by simpa using hv) (by simpa using hw) (by rw [List.size_toArray,List.size_toArray]; exact hsz)) ⟨ho,ho2,?_⟩
  rw [e]
  exact h2 hw
def sIx (n d:Nat):Option Int->Nat
 | none=>d
 | some v=>if v < 0 then (v+(n:Int)).toNat else min v.toNat n
theorem vR (n d k:Nat):sIx n d (some (k:Int))=min k n:=by
 show (if (k:Int) < 0 then ((k:Int)+(n:Int)).toNat else min (k:Int).toNat n)=min k n
 rw [if_neg (by omega),Int.toNat_natCast]
theorem Kc (n d:Nat) (hd:d<=n) (o:Option Int):sIx n d o<=n:=by
 cases o with
 | none=>exact hd
 | some v=>
  show (if v < 0 then (v+(n:Int)).toNat else min v.toNat n)<=n
  by_cases hv:v < 0
  ·rw [if_pos hv]; omega
  ·rw [if_neg hv]; exact Nat.min_le_right _ _
theorem BU (v:Int) (n d:Nat):(if v < 0 then max (v+(n:Int)) 0 else min v (n:Int))=((sIx n d (some v):Nat):Int):=by
 show (if v < 0 then max (v+(n:Int)) 0 else min v (n:Int))=(((if v < 0 then (v+(n:Int)).toNat else min v.toNat n):Nat):Int)
 by_cases hv:v < 0
 ·simp only [if_pos hv]; omega
 ·simp only [if_neg hv]; omega
theorem AJ (lo hi:Option Int) (n:Nat):Builtin.Slice.sliceAdjust lo hi 1 (n:Int)=(((sIx n 0 lo:Nat):Int),((sIx n n hi:Nat):Int)):=by
 have h1:¬ ((1:Int) < 0):=by omega
 unfold Builtin.Slice.sliceAdjust
 simp only [h1,if_false]
 refine Prod.ext ?_ ?_
 ·cases lo with
  | none=>rfl
  | some v=>exact BU v n 0
 ·cases hi with
  | none=>rfl
  | some v=>exact BU v n n
theorem AK (i j:Nat):Builtin.Slice.slicePlaces (i:Int) (j:Int) 1=j - i:=by
 unfold Builtin.Slice.slicePlaces
 have h1:(1:Int) > 0:=by omega
 simp only [h1,if_true,Int.ediv_one]
 split <;> omega
theorem pY {v:Value} {o:Option Int} {Q:Option Int->Shared->Prop} (p:IsPart v o) (h:Q o s):wpAny (model prog w) A (Builtin.Slice.slicePartIndex v) Q E s:=by
 cases p with
 | none=>exact slicePart_none h
 | int i t=>exact slicePart_int h
theorem sliceApplied_gen {sl:Addr} {vl vu:Value} {lo hi:Option Int} {n:Nat} {Q:Int×Int×Nat->Shared->Prop} (hs:s.heap.IsSliceOf sl vl vu .none) (pl:IsPart vl lo) (pu:IsPart vu hi)
  (h:Q (((sIx n 0 lo:Nat):Int),1,sIx n n hi - sIx n 0 lo) s):wpAny (model prog w) A (Builtin.Slice.sliceApplied (.ref sl) (pure (n:Int))) Q E s:=by
 obtain ⟨os,hos,hcs,hds⟩:=id hs
 unfold Builtin.Slice.sliceApplied Builtin.Slice.sliceFields
 refine wpAny_bind (wpAny_bind (wpAny_field hos hds (x:=vl) rfl (wpAny_bind (wpAny_field hos hds (x:=vu) rfl (wpAny_bind (wpAny_field hos hds (x:=.none) rfl (wpAny_pure ?_)))))))
 refine wpAny_bind (slicePart_none ?_)
 show wpAny _ _ (if ((1:Int) == 0)=true then _ else _) _ _ s
 rw [if_neg (by decide)]
 refine wpAny_bind (pY pl (wpAny_bind (pY pu (wpAny_bind (wpAny_pure ?_)))))
 show wpAny _ _ (match Builtin.Slice.sliceAdjust lo hi 1 (n:Int) with | (lo,hi)=>pure (lo,(1:Int),Builtin.Slice.slicePlaces lo hi 1)) _ _ s
 rw [AJ lo hi n]
 show wpAny _ _ (pure (((sIx n 0 lo:Nat):Int),(1:Int),Builtin.Slice.slicePlaces ((sIx n 0 lo:Nat):Int) ((sIx n n hi:Nat):Int) 1)) _ _ s
 rw [AK]
 exact wpAny_pure h
theorem Ez (xs:Array Value) (i k:Nat):((List.range k).filterMap fun (m:Nat)=>xs[((i:Int)+(m:Int)*1).toNat]?).toArray=((xs.toList.drop i).take k).toArray:=by
 have e:(fun (m:Nat)=>xs[((i:Int)+(m:Int)*1).toNat]?)=fun m=>xs[i+m]?:=by
  funext m
  have:((i:Int)+(m:Int)*1).toNat=i+m:=by omega
  rw [this]
 rw [e]
 have:=pick_run xs i k
 rw [List.filterMap_map] at this
 have e2:((fun x=>xs[x]?) ∘ fun x=>i+x)=fun m=>xs[i+m]?:=rfl
 rw [e2] at this
 rw [this]
theorem getItem_tuple_cut {t sl:Addr} {items:Array Value} {vl vu:Value} {lo hi:Option Int} {Q:Value->Shared->Prop} (ht:IsTup s.heap t items) (hs:s.heap.IsSliceOf sl vl vu .none) (pl:IsPart vl lo) (pu:IsPart vu hi)
  (hw:¬ (sIx items.size 0 lo=0/\sIx items.size items.size hi=items.size))
  (h:Q (.ref s.heap.objs.size) { s with heap:=s.heap.push { cls:=.type "tuple",data:=.seq ((items.toList.drop (sIx items.size 0 lo)).take (sIx items.size items.size hi - sIx items.size 0 lo)).toArray } })
  (hsz:items.size<=sizeLine):wpAny (model prog w) A (getItem (.ref t) (.ref sl)) Q E s:=by
 have htake:sizeOk (.seq ((items.toList.drop (sIx items.size 0 lo)).take (sIx items.size items.size hi - sIx items.size 0 lo)).toArray):=by
  show ((items.toList.drop (sIx items.size 0 lo)).take (sIx items.size items.size hi - sIx items.size 0 lo)).toArray.size<=sizeLine
  rw [List.size_toArray,List.length_take,List.length_drop,Array.length_toList]
  omega
 have hj:sIx items.size items.size hi<=items.size:=Kc _ _ (Nat.le_refl _) hi
 obtain ⟨os,hos,hcs,hds⟩:=id hs
 have hTs:s.TypeIs (.ref sl) "slice" := ⟨os,hos,hcs⟩
 unfold getItem
 try with_reducible refine wpAny_holding ?_
 first | refine wpAny_bind (wpAny_pure ?_) | skip
 refine wpAny_bind (wpAny_sequenceKey ht.typeIs (by decide) ?_)
 refine wpAny_bind (wpAny_callSpecial?_slot (name:=Str.ofString "__getitem__") ht.typeIs PyProof.Rows.slot_tuple_getitem
  (wpAny_call_entry PyProof.Rows.slot_tuple_getitem ht.typeIs entry_tuple_getitem ?_ (args_tuple_getitem _ _)))
 show wpAny _ _ (Builtin.Tuple.tupleItemsOf (.ref t) >>= _) _ _ s
 refine wpAny_bind (tupleItemsOf_ ht ?_)
 refine wpAny_bind (wpAny_typeOf hTs ?_)
 rw [if_pos (by decide)]
 refine wpAny_bind (sliceApplied_gen hs pl pu ?_)
 have hno:¬ ((((sIx items.size 0 lo:Nat):Int) == 0 && (1:Int) == 1 && (sIx items.size items.size hi - sIx items.size 0 lo) == items.size)=true):=by
  intro q
  rw [Bool.and_eq_true,Bool.and_eq_true] at q
  have q1:((sIx items.size 0 lo:Nat):Int)=0:=eq_of_beq q.1.1
  have q2:sIx items.size items.size hi - sIx items.size 0 lo=items.size:=eq_of_beq q.2
  exact hw ⟨by omega,by omega⟩
 show wpAny _ _ (if (((sIx items.size 0 lo:Nat):Int) == 0 && (1:Int) == 1 && (sIx items.size items.size hi - sIx items.size 0 lo) == items.size)=true then _ else _) _ _ s
 rw [if_neg hno,Ez]
 first
  | exact wpAny_bind (m:=Builtin.Tuple.tupleExact _) (wpAny_newObj_type (wpAny_pure ⟨_,rfl,wpAny_pure h⟩) htake)
  | exact wpAny_bind (m:=Builtin.Tuple.tupleExact _) (wpAny_newObj_type (wpAny_bind (wpAny_pure (wpAny_pure ⟨_,rfl,wpAny_pure h⟩))) htake)
  | exact wpAny_bind (wpAny_bind (m:=Builtin.Tuple.tupleExact _) (wpAny_newObj_type (wpAny_pure (wpAny_pure ⟨_,rfl,wpAny_pure h⟩)) htake))
  | exact wpAny_bind (wpAny_bind (m:=Builtin.Tuple.tupleExact _) (wpAny_newObj_type (wpAny_pure ⟨_,rfl,wpAny_pure h⟩) htake))
end
end HT
namespace L2
open PySem PySem.Spec PyProof.Rows
abbrev TO:=St->Hp->(Option Int->Hp->Prop)->Prop
def PO (X:Cx) (e:Option Expr) (t:TO):Prop:=
 ∀ (pins:List (Addr×Obj)) (s:Shared) (σ:St) (H:Hp) (Q:Option Int->Hp->Prop),Inv X pins σ H s->t σ H Q->
  wpAny (model X.prog X.w) X.A (evalPart e X.env) (fun u s'=>∃ o H',Inv X pins σ H' s'/\IsPart u o/\Q o H') X.xe s
def Hu:TO:=fun _ H Q=>Q none H
theorem intsAre_of {ns:List Int}:∀ {us:List Value},aK (ns.map V.int) us->IntsAre us ns:=by
 induction ns with
 | nil=>intro us r; rw [List.map_nil] at r; cases r; exact .nil
 | cons n ns ih=>
  intro us r
  rw [List.map_cons] at r
  cases r with
  | cons r1 r2=>
   obtain ⟨t,e⟩:=r1
   subst e
   exact .cons n t (ih r2)
section
variable {X:Cx} {e:Expr} {te:TE} {lo hi:Option Expr} {tl th:TO} {pos p2:Pos}
theorem Hv:PO X none Hu:=by
 intro pins s σ H Q I h
 rw [evalPart_none]
 exact wpAny_pure ⟨none,H,I,.none,h⟩
def SlR (X:Cx) (r:V->Option Int->Option Int->Hp->VK->Prop):Prop:=
 ∀ (pins:List (Addr×Obj)) (s:Shared) (σ:St) (H:Hp) (x:V) (v vl vu:Value) (lo hi:Option Int) (sl:Addr) (Q:VK),Inv X pins σ H s->RelV x v->s.heap.IsSliceOf sl vl vu .none->IsPart vl lo->IsPart vu hi->r x lo hi H Q->
  ∃ T id,typeLookup (.type T) "__getitem__" = pure (some (.builtin id))/\s.TypeIs v T/\wpAny (model X.prog X.w) X.A (getItem v (.ref sl)) (EP X pins σ Q) X.xe s
theorem SlR.or {r r':V->Option Int->Option Int->Hp->VK->Prop} (h:SlR X r) (h':SlR X r'):SlR X (fun x lo hi H Q=>r x lo hi H Q\/r' x lo hi H Q):=by
 intro pins s σ H x v vl vu lo hi sl Q I rx hs pl pu q
 rcases q with q | q
 ·exact h pins s σ H x v vl vu lo hi sl Q I rx hs pl pu q
 ·exact h' pins s σ H x v vl vu lo hi sl Q I rx hs pl pu q
def tSl (r:V->Option Int->Option Int->Hp->VK->Prop) (te:TE) (tl th:TO):TE:=fun σ H Q=>te σ H fun x H1=>tl σ H1 fun l H2=>th σ H2 fun u H3=>r x l u H3 Q
theorem EA {r:V->Option Int->Option Int->Hp->VK->Prop} (hr:SlR X r) (he:PE X e te) (hl:PO X lo tl) (hu:PO X hi th):PE X (.Subscript e (.Slice lo hi none p2) pos) (tSl r te tl th):=by
 intro pins s σ H Q I h
 refine Subscript_ (thn (he pins s σ H _ I h) fun v s1 hz=>?_)
 obtain ⟨x,H1,I1,r1,q1⟩:=hz
 refine wpAny_Slice (thn (hl pins s1 σ H1 _ I1 q1) fun vl s2 ⟨l,H2,I2,pl,q2⟩=>thn (hu pins s2 σ H2 _ I2 q2) fun vu s3 hz=>?_)
 obtain ⟨u,H3,I3,pu,q3⟩:=hz
 rw [evalPart_none]
 refine wpAny_pure ?_
 have I4:Inv X pins σ H3 { s3 with heap:=s3.heap.push { cls:=.type "slice",data:=.fields #[vl,vu,.none] } }:=I3.kept (t':=s3.toks) fun b ob q=>Heap.get?_push_of_some _ q
 obtain ⟨T,id,hT,ht,hg⟩:=hr pins { s3 with heap:=s3.heap.push { cls:=.type "slice",data:=.fields #[vl,vu,.none] } } σ H3 x v vl vu l u s3.heap.objs.size Q I4 r1 (Heap.IsSliceOf.new ..) pl pu q3
 show wpAny (model X.prog X.w) X.A (subscriptTail e (.Slice lo hi none p2) v (.ref s3.heap.objs.size)) (EP X pins σ Q) X.xe { s3 with heap:=s3.heap.push { cls:=.type "slice",data:=.fields #[vl,vu,.none] } }
 exact tail_any (ops:=[.ref s3.heap.objs.size,v]) ht hT hg (by with_unfolding_all rfl)
def yQ (xs:List V) (lo hi:Option Int):List V:=(xs.drop (HT.sIx xs.length 0 lo)).take (HT.sIx xs.length xs.length hi - HT.sIx xs.length 0 lo)
theorem nX (xs:List V) (lo hi:Option Int):(yQ xs lo hi).length<=xs.length:=by
 unfold yQ
 rw [List.length_take,List.length_drop]
 omega
def M6 (K:PySem.W.Frag):V->Option Int->Option Int->Hp->VK->Prop:=fun x lo hi H Q=>∃ a xs,x=.ref a/\SqT K H a xs/\
 ¬ (HT.sIx xs.length 0 lo=0/\HT.sIx xs.length xs.length hi=xs.length)/\∀ p,H p=none->Q (.ref p) (upd H p (.tup (yQ xs lo hi)))
theorem Kd:SlR X (M6 X.K):=by
 intro pins s σ H x v vl vu lo hi sl Q I rx hs pl pu h
 obtain ⟨a,xs,rfl,hx,hw,q⟩:=h
 cases rx
 obtain ⟨its,r,ht,hz⟩:=I.tuple hx
 have hlen:its.toArray.size=xs.length:=by rw [List.size_toArray]; exact r.length.symm
 refine ⟨"tuple",_,PyProof.Rows.slot_tuple_getitem.lookup,ht.typeIs,?_⟩
 refine HT.getItem_tuple_cut ht hs pl pu (by rw [hlen]; exact hw) ?_ (by rw [hlen]; exact hz)
 rw [hlen]
 refine ⟨.ref s.heap.objs.size,_,I.laid (t':=s.toks) (o:=.tup (yQ xs lo hi)) (fun b ob q=>Heap.get?_push_of_some _ q) (Nat.le_refl _) ?_,rfl,q _ (I.hok.fresh (Nat.le_refl _))⟩
 exact ⟨Nat.le_trans (nX xs lo hi) hz,_,(r.drop (HT.sIx xs.length 0 lo)).take (HT.sIx xs.length xs.length hi - HT.sIx xs.length 0 lo),kO.new _ _⟩
def Js (K:PySem.W.Frag):R2:=fun x y H Q=>∃ a b xs ys,x=.ref a/\y=.ref b/\SqT K H a xs/\SqT K H b ys/\xs≠[]/\xs.length+ys.length<=sizeLine/\
 (ys=[]->Q (.ref a) H)/\(ys≠[]->∀ p,H p=none->Q (.ref p) (upd H p (.tup (xs++ys))))
theorem aK.nil_iff {xs:List V} {us:List Value} (r:aK xs us):us=[] ↔ xs=[]:=by
 cases r with
 | nil=>simp
 | cons _ _=>simp
theorem Hw:OpR X (binaryOp .Add) (Js X.K):=by
 intro pins s σ H x y v u Q I rx ry h
 obtain ⟨a,b,xs,ys,rfl,rfl,ha,hb,hx,hz,q1,q2⟩:=h
 cases rx
 cases ry
 obtain ⟨its,r1,p1,_⟩:=I.tuple ha
 obtain ⟨its2,r2,p2,_⟩:=I.tuple hb
 refine HT.cat_tup p1 p2 (fun z=>hx (r1.nil_iff.mp z)) (fun z=>⟨.ref a,H,I,rfl,q1 (r2.nil_iff.mp z)⟩) (fun z=>?_) (by rw [<- r1.length,<- r2.length]; exact hz)
 refine ⟨.ref s.heap.objs.size,_,I.laid (t':=s.toks) (o:=.tup (xs++ys)) (fun b ob q=>Heap.get?_push_of_some _ q) (Nat.le_refl _) ?_,rfl,q2 (fun w=>z (r2.nil_iff.mpr w)) _ (I.hok.fresh (Nat.le_refl _))⟩
 exact ⟨by rw [List.length_append]; exact hz,_,r1.append r2,kO.new _ _⟩
end
end L2
namespace L2
open PySem PySem.Spec PyProof.Rows
def ixN (n:Nat) (i:Int):Option Nat:=if 0<=i then (if i < n then some i.toNat else none) else if -(n:Int)<=i then some (i+n).toNat else none
def atI {α:Type} (xs:List α) (i:Int):Option α:=(ixN xs.length i).bind fun j=>xs[j]?
theorem BV {n:Nat} {i:Int} {j:Nat} (h:ixN n i=some j):seqIndex? i n=some j/\j < n/\-(n:Int)<=i/\i < n:=by
 unfold ixN at h
 by_cases h0:0<=i
 ·rw [if_pos h0] at h
  by_cases h1:i < n
  ·rw [if_pos h1] at h
   have e:i.toNat=j:=Option.some.inj h
   exact ⟨by rw [seqIndex_of h0 h1,e],by omega,by omega,h1⟩
  ·rw [if_neg h1] at h; cases h
 ·rw [if_neg h0] at h
  by_cases h1:-(n:Int)<=i
  ·rw [if_pos h1] at h
   have e:(i+n).toNat=j:=Option.some.inj h
   exact ⟨by rw [seqIndex_neg (by omega) h1,e],by omega,h1,by omega⟩
  ·rw [if_neg h1] at h; cases h
theorem vS {α:Type} {xs:List α} {i:Int} {v:α} (h:atI xs i=some v):∃ j,seqIndex? i xs.length=some j/\xs[j]?=some v/\j < xs.length/\-(xs.length:Int)<=i/\i < xs.length:=by
 unfold atI at h
 cases e:ixN xs.length i with
 | none=>rw [e] at h; cases h
 | some j=>
  rw [e] at h
  obtain ⟨h1,h2,h3,h4⟩:=BV e
  exact ⟨j,h1,h,h2,h3,h4⟩
theorem EB {α:Type} (xs:List α) (v:α):atI (xs++[v]) (-1)=some v:=by
 have hl:(xs++[v]).length=xs.length+1:=by simp
 have e:ixN (xs++[v]).length (-1)=some xs.length:=by
  unfold ixN
  rw [hl,if_neg (by decide),if_pos (by omega)]
  congr 1
  omega
 unfold atI
 rw [e]
 show (xs++[v])[xs.length]?=some v
 simp
def BW (b:Expr):Prop:=∀ o i,subscripted b false o i=operate [o,i] (getItem o i)
def IxR (X:Cx) (r:R2):Prop:=
 ∀ (value slice:Expr) (pins:List (Addr×Obj)) (s:Shared) (σ:St) (H:Hp) (x y:V) (v u:Value) (Q:VK),Inv X pins σ H s->RelV x v->RelV y u->r x y H Q->
  subscripted slice false v u=operate [v,u] (getItem v u)->wpAny (model X.prog X.w) X.A (subscriptTail value slice v u) (EP X pins σ Q) X.xe s
def MtR (X:Cx) (id:String) (r:V->List V->Hp->VK->Prop):Prop:=
 ∀ (pins:List (Addr×Obj)) (s:Shared) (σ:St) (H:Hp) (x:V) (xs:List V) (v:Value) (us:List Value) (Q:VK),Inv X pins σ H s->RelV x v->aK xs us->r x xs H Q->
  wpAny (model X.prog X.w) X.A (call (.builtin id) (v :: us)) (EP X pins σ Q) X.xe s
section
variable {X:Cx} {a b:Expr} {ta tb:TE} {pos:Pos}
theorem IxR.or {r r':R2} (h:IxR X r) (h':IxR X r'):IxR X (fun x y H Q=>r x y H Q\/r' x y H Q):=by
 intro value slice pins s σ H x y v u Q I rx ry q hs
 rcases q with q | q
 ·exact h value slice pins s σ H x y v u Q I rx ry q hs
 ·exact h' value slice pins s σ H x y v u Q I rx ry q hs
theorem M7 {r:R2} (hr:IxR X r) (ha:PE X a ta) (hb:PE X b tb) (hs:BW b):PE X (.Subscript a b pos) (tOp r ta tb):=by
 intro pins s σ H Q I h
 exact Subscript_ (K0 ha hb I h fun v u s2 x y H2 I2 rx ry q=>hr a b pins s2 σ H2 x y v u Q I2 rx ry q (hs _ _))
def Oi (K:PySem.W.Frag):R2:=fun x y H Q=>∃ p xs i v,x=.ref p/\y=.int i/\SqL K H p xs/\atI xs i=some v/\Q v H
def Oj (K:PySem.W.Frag):R2:=fun x y H Q=>∃ p xs i v,x=.ref p/\y=.int i/\SqT K H p xs/\atI xs i=some v/\Q v H
def Ol:R2:=fun x y H Q=>∃ z i c,x=.str z/\y=.int i/\z.length<=sizeLine/\atI z.cps.toList i=some c/\Q (.str ⟨#[c]⟩) H
theorem Hx:IxR X (Oi X.K):=by
 intro value slice pins s σ H x y v u Q I rx ry h hs
 obtain ⟨p,xs,i,z,rfl,rfl,hq,he,q⟩:=h
 cases rx
 obtain ⟨t,rfl⟩:=ry
 obtain ⟨its,r,pl,hz⟩:=I.list hq
 obtain ⟨j,h1,h2,h3,h4,h5⟩:=vS he
 obtain ⟨w,ew,rw'⟩:=r.get h2
 have hl:=r.length
 have hn:=kA
 have fin:EP X pins σ Q w s:=⟨z,H,I,rw',q⟩
 by_cases h0:0<=i
 ·have hj:i.toNat=j:=by
   rw [seqIndex_of h0 h5] at h1
   exact Option.some.inj h1
  exact item_listR pl.isList h0 (by omega) (by rw [hj]; simpa using ew) fin hs
 ·have hj:(i+(its.toArray.size:Int)).toNat=j:=by
   rw [seqIndex_neg (by omega) h4] at h1
   rw [List.size_toArray,<- hl]
   exact Option.some.inj h1
  exact subscriptTail_builtinR (x:=w) pl.isList.typeIs slot_list_getitem.lookup
   (wpAny_getItem_list_neg (Q:=fun r s'=>r=w/\EP X pins σ Q r s') pl.isList (by omega) (by rw [List.size_toArray] <;> omega) (by omega) (by rw [hj]; simpa using ew) ⟨rfl,fin⟩) hs
theorem Ke:IxR X (Oj X.K):=by
 intro value slice pins s σ H x y v u Q I rx ry h hs
 obtain ⟨p,xs,i,z,rfl,rfl,hq,he,q⟩:=h
 cases rx
 obtain ⟨t,rfl⟩:=ry
 obtain ⟨its,r,pl,hz⟩:=I.tuple hq
 obtain ⟨j,h1,h2,h3,h4,h5⟩:=vS he
 obtain ⟨w,ew,rw'⟩:=r.get h2
 have hl:=r.length
 have hn:=kA
 have fin:EP X pins σ Q w s:=⟨z,H,I,rw',q⟩
 exact subscriptTail_builtinR (x:=w) pl.typeIs slot_tuple_getitem.lookup
  (getItem_tuple (j:=j) (Q:=fun r s'=>r=w/\EP X pins σ Q r s') pl (by omega) (by omega) (by rw [List.size_toArray,<- hl]; exact h1) (by simpa using ew) ⟨rfl,fin⟩) hs
theorem Kf:IxR X Ol:=by
 intro value slice pins s σ H x y v u Q I rx ry h hs
 obtain ⟨z,i,c,rfl,rfl,hz,he,q⟩:=h
 obtain ⟨t,rfl⟩:=rx
 obtain ⟨t',rfl⟩:=ry
 obtain ⟨j,h1,h2,h3,h4,h5⟩:=vS he
 have hl:z.cps.toList.length=z.length:=by simp [Str.length]
 rw [hl] at h1 h4 h5
 have hn:=kA
 exact tail_any (typeIs_str s z t) slot_str_getitem.lookup (getItem_str (c:=c) (by
  have e1:decide (i < -(2 ^ 63:Int))=false:=decide_eq_false (by omega)
  have e2:decide (i >= 2 ^ 63)=false:=decide_eq_false (by omega)
  rw [e1,e2,Bool.or_false]) (by rw [h1]; simpa using h2) ⟨.str ⟨#[c]⟩,H,I.tok _,⟨_,rfl⟩,q⟩) hs
theorem AL (its:List Value) (n j:Nat) (u:Value):Obj.mapSeq (·.setIfInBounds j u) { cls:=.type "list",data:=.seq its.toArray n }={ cls:=.type "list",data:=.seq (its.set j u).toArray n }:=by
 simp [Obj.mapSeq]
theorem Inv.lst {pins:List (Addr×Obj)} {σ:St} {H:Hp} {s:Shared} {p:Addr} {xs:List V} (I:Inv X pins σ H s) (h:H p=some (.lst xs)):
  ∃ (its:List Value) (n:Nat),aK xs its/\s.heap.get? p=some { cls:=.type "list",data:=.seq its.toArray n }/\xs.length<=sizeLine:=by
 obtain ⟨z,its,n,r,e⟩:=I.hok p _ h
 exact ⟨its,n,r,e,z⟩
theorem Inv.lstUpd {pins:List (Addr×Obj)} {σ:St} {H:Hp} {s:Shared} {p:Addr} {xs ys:List V} {its its':List Value} {n n':Nat} {f:Obj->Obj} (I:Inv X pins σ H s) (h:H p=some (.lst xs))
  (ho:s.heap.get? p=some { cls:=.type "list",data:=.seq its.toArray n }) (hf:f { cls:=.type "list",data:=.seq its.toArray n }={ cls:=.type "list",data:=.seq its'.toArray n' }) (r:aK ys its') (hz:ys.length<=sizeLine) (t:Nat):
  Inv X pins σ (upd H p (.lst ys)) { s with heap:=s.heap.update p f,toks:=t }:=by
 have e:(s.heap.update p f).get? p=some { cls:=.type "list",data:=.seq its'.toArray n' }:=by
  rw [Heap.get?_update_self f ho (by rw [hf] <;> rfl),hf]
 refine I.write (x:=p) (e:=p) (by rw [h]; trivial) (.inl rfl) (fun b u hb q=>(Heap.get?_update_other _ _ (Ne.symm hb)).trans q) ⟨_,e⟩ ?_
 exact ⟨hz,its',n',r,e⟩
def M8:V->V->V->Hp->(Hp->Prop)->Prop:=fun o i v H Q=>∃ p xs k j,o=.ref p/\i=.int k/\H p=some (.lst xs)/\ixN xs.length k=some j/\Q (upd H p (.lst (xs.set j v)))
theorem set_list:Oa X M8:=by
 intro pins s σ H o i v ov iv u Q I ro ri rv h
 obtain ⟨p,xs,k,j,rfl,rfl,hp,hj,q⟩:=h
 cases ro
 obtain ⟨t,rfl⟩:=ri
 obtain ⟨its,n,r,ho,hz⟩:=I.lst hp
 obtain ⟨h1,h2,h3,h4⟩:=BV hj
 have hl:=r.length
 have hn:=kA
 have I':Inv X pins σ (upd H p (.lst (xs.set j v))) { s with heap:=s.heap.update p (Obj.mapSeq (·.setIfInBounds j u)) }:=
  I.lstUpd hp ho (AL its n j u) (r.set rv j) (by rw [List.length_set]; exact hz) s.toks
 by_cases h0:0<=k
 ·have hk:k.toNat=j:=by
   rw [seqIndex_of h0 h4] at h1
   exact Option.some.inj h1
  exact PySem.W.ki_setAt ho h0 (by omega) (by rw [List.size_toArray,<- hl]; exact h4) (by rw [hk]; exact ⟨_,I',q⟩)
 ·have hk:(k+(its.toArray.size:Int)).toNat=j:=by
   rw [seqIndex_neg (by omega) h3] at h1
   rw [List.size_toArray,<- hl]
   exact Option.some.inj h1
  exact PySem.W.ki_setBack ho (by omega) (by rw [List.size_toArray,<- hl]; exact h3) (by omega) (by rw [hk]; exact ⟨_,I',q⟩)
theorem vT (lo hi:Option Int) (n:Nat):(sliceBounds lo hi none n).1=((HT.sIx n 0 lo:Nat):Int)/\(sliceBounds lo hi none n).2.1=((HT.sIx n n hi:Nat):Int)/\(sliceBounds lo hi none n).2.2=1:=by
 refine ⟨?_,?_,rfl⟩
 ·cases lo with
  | none=>simp [sliceBounds,HT.sIx]
  | some i=>
   simp only [sliceBounds,HT.sIx,Option.getD_none,show (1:Int) > 0 by decide,if_true]
   by_cases h:i < 0
   ·simp only [h,if_true] <;> omega
   ·simp only [h,if_false] <;> omega
 ·cases hi with
  | none=>simp [sliceBounds,HT.sIx]
  | some i=>
   simp only [sliceBounds,HT.sIx,Option.getD_none,show (1:Int) > 0 by decide,if_true]
   by_cases h:i < 0
   ·simp only [h,if_true] <;> omega
   ·simp only [h,if_false] <;> omega
theorem sH (its:List Value) (lo hi:Option Int):slicePick its.toArray lo hi none=((its.drop (HT.sIx its.length 0 lo)).take (HT.sIx its.length its.length hi - HT.sIx its.length 0 lo)).toArray:=by
 obtain ⟨h1,h2,h3⟩:=vT lo hi its.toArray.size
 unfold slicePick
 rw [h1,h2,h3]
 simp only [sliceRange_one,pick_run,List.size_toArray] <;> rfl
def M9 (K:PySem.W.Frag):V->Option Int->Option Int->Hp->VK->Prop:=fun x lo hi H Q=>∃ a xs,x=.ref a/\SqL K H a xs/\∀ p,H p=none->Q (.ref p) (upd H p (.lst (yQ xs lo hi)))
theorem Hy:SlR X (M9 X.K):=by
 intro pins s σ H x v vl vu lo hi sl Q I rx hs pl pu h
 obtain ⟨a,xs,rfl,hx,q⟩:=h
 cases rx
 obtain ⟨its,r,ht,hz⟩:=I.list hx
 have hlen:=r.length
 refine ⟨"list",_,slot_list_getitem.lookup,ht.isList.typeIs,?_⟩
 refine wpAny_getItem_list_slice ht.isList hs pl pu .none (by simp) ?_ (by rw [List.size_toArray] <;> omega)
 rw [sH,<- hlen]
 refine ⟨.ref s.heap.objs.size,_,I.laid (t':=s.toks) (o:=.lst (yQ xs lo hi)) (fun b ob q=>Heap.get?_push_of_some _ q) (Nat.le_refl _) ?_,rfl,q _ (I.hok.fresh (Nat.le_refl _))⟩
 exact ⟨Nat.le_trans (nX xs lo hi) hz,_,0,(r.drop (HT.sIx xs.length 0 lo)).take (HT.sIx xs.length xs.length hi - HT.sIx xs.length 0 lo),Heap.get?_push_size _ rfl⟩
theorem vU:bE X (.builtin "len") (fun xs H Q=>∃ p ys,xs=[.ref p]/\(SqL X.K H p ys\/SqT X.K H p ys)/\Q (.int ys.length) H):=by
 intro pins s σ H xs us Q I r h
 obtain ⟨p,ys,rfl,hq,q⟩:=h
 obtain ⟨u,rfl,rx⟩:=vals1 r
 cases rx
 have hn:=kA
 rcases hq with hq | hq
 ·obtain ⟨its,r',pl,hz⟩:=I.list hq
  have hlen:=r'.length
  exact Calls.call_len_list pl.isList (by simp only [List.size_toArray] <;> omega) ⟨.int ys.length,H,I.tok _,⟨s.toks+1,by rw [List.size_toArray,hlen]⟩,q⟩
 ·obtain ⟨its,r',pl,hz⟩:=I.tuple hq
  have hlen:=r'.length
  exact len_tuple pl (by simp only [List.size_toArray] <;> omega) ⟨.int ys.length,H,I.tok _,⟨s.toks+1,by rw [List.size_toArray,hlen]⟩,q⟩
theorem bE.or {f:Value} {r r':List V->Hp->VK->Prop} (h:bE X f r) (h':bE X f r'):bE X f (fun xs H Q=>r xs H Q\/r' xs H Q):=by
 intro pins s σ H xs us Q I rs q
 rcases q with q | q
 ·exact h pins s σ H xs us Q I rs q
 ·exact h' pins s σ H xs us Q I rs q
theorem vV:bE X (.type "list") (fun xs H Q=>∃ p ys,xs=[.ref p]/\(SqL X.K H p ys\/SqT X.K H p ys)/\∀ l,H l=none->Q (.ref l) (upd H l (.lst ys))):=by
 intro pins s σ H xs us Q I r h
 obtain ⟨p,ys,rfl,hq,q⟩:=h
 obtain ⟨u,rfl,rx⟩:=vals1 r
 cases rx
 have fin:∀ (its:List Value),aK ys its->ys.length<=sizeLine->∀ (h':Heap) (c':Nat),(∀ b o',s.heap.get? b=some o'->h'.get? b=some o')->
   h'.get? s.heap.objs.size=some { cls:=.type "list",dict:=none,data:=.seq its.toArray c',slots:=#[] }->EP X pins σ Q (.ref s.heap.objs.size) { s with heap:=h' }:=fun its r' hz h' c' kp e=>
  ⟨.ref s.heap.objs.size,_,I.laid (t':=s.toks) kp (Nat.le_refl _) (show bU X.prog X.w _ h' _ (.lst ys) from ⟨hz,its,c',r',e⟩),rfl,q _ (I.hok.fresh (Nat.le_refl _))⟩
 rcases hq with hq | hq
 ·obtain ⟨its,r',pl,hz⟩:=I.list hq
  have hlen:=r'.length
  obtain ⟨o,ho,hc,n,hd⟩:=pl.isList
  exact call_list_seq p (.inl rfl) ho hc hd (fun h' c' kp e=>fin its r' hz h' c' kp e) (by simp only [List.size_toArray] <;> omega)
 ·obtain ⟨its,r',pl,hz⟩:=I.tuple hq
  have hlen:=r'.length
  obtain ⟨o,ho,hc,n,hd⟩:=pl
  exact call_list_seq p (.inr rfl) ho hc hd (fun h' c' kp e=>fin its r' hz h' c' kp e) (by simp only [List.size_toArray] <;> omega)
theorem sI:bE X (.type "tuple") (fun xs H Q=>∃ p ys,xs=[.ref p]/\((SqL X.K H p ys/\∀ l,H l=none->Q (.ref l) (upd H l (.tup ys)))\/(SqT X.K H p ys/\Q (.ref p) H))):=by
 intro pins s σ H xs us Q I r h
 obtain ⟨p,ys,rfl,h⟩:=h
 obtain ⟨u,rfl,rx⟩:=vals1 r
 cases rx
 rcases h with ⟨hq,q⟩ | ⟨hq,q⟩
 ·obtain ⟨its,r',pl,hz⟩:=I.list hq
  have hlen:=r'.length
  refine call_tuple_list pl.isList (fun h' kp=>?_) (by simp only [List.size_toArray] <;> omega)
  have I1:Inv X pins σ H { s with heap:=h' }:=I.kept (t':=s.toks) kp
  have I2:Inv X pins σ (upd H h'.objs.size (.tup ys)) { s with heap:=h'.push { cls:=.type "tuple",data:=.seq its.toArray } }:=
   I1.laid (t':=s.toks) (fun b o e=>Heap.get?_push_of_some _ e) (Nat.le_refl _) (show bU X.prog X.w _ _ _ (.tup ys) from ⟨hz,its,r',kO.new _ _⟩)
  exact ⟨.ref h'.objs.size,_,I2,rfl,q _ (I1.hok.fresh (Nat.le_refl _))⟩
 ·obtain ⟨its,r',pl,hz⟩:=I.tuple hq
  exact call_tuple_same pl ⟨.ref p,H,I,rfl,q⟩
def tyV (K:PySem.W.Frag) (T:String) (x:V) (H:Hp):Prop:=match x with
 | .str _=>T="str"
 | .int _=>T="int"
 | .ref p=>(T="list" /\ ∃ xs,SqL K H p xs)\/(T="tuple" /\ ∃ o,K.lookup p=some o/\o.cls=.type "tuple" /\ o.dict=none)\/
   (T="dict" /\ ((∃ kvs,H p=some (.dK kvs))\/∃ kvs,H p=some (.dT kvs)))\/(T="set" /\ ∃ S n,H p=some (.set S n))
 | _=>False
theorem Kg {pins:List (Addr×Obj)} {σ:St} {H:Hp} {s:Shared} {T:String} {x:V} {v:Value} (I:Inv X pins σ H s) (r:RelV x v) (ty:tyV X.K T x H):
  s.TypeIs v T/\∀ a,v=.ref a->∃ ob,s.heap.get? a=some ob/\ob.dict=none:=by
 cases x with
 | str z=>
  obtain ⟨t,rfl⟩:=r
  cases (show T="str" from ty)
  exact ⟨typeIs_str s z t,fun _ e=>nomatch e⟩
 | int i=>
  obtain ⟨t,rfl⟩:=r
  cases (show T="int" from ty)
  exact ⟨typeIs_int s i t,fun _ e=>nomatch e⟩
 | ref p=>
  cases r
  rcases ty with ⟨rfl,xs,hq⟩ | ⟨rfl,o,hk,hc,hd⟩ | ⟨rfl,hk⟩ | ⟨rfl,S,n,hk⟩
  ·obtain ⟨its,_,pl,_⟩:=I.list hq
   refine ⟨pl.isList.typeIs,fun a e=>?_⟩
   cases e
   obtain ⟨o,n,e,c,hd,_⟩:=pl
   exact ⟨o,e,hd⟩
  ·refine ⟨⟨o,I.kIn p o hk,hc⟩,fun a e=>?_⟩
   cases e
   exact ⟨o,I.kIn _ o hk,hd⟩
  ·have z:∃ o,s.heap.get? p=some o/\o.ExactDict:=by
    rcases hk with ⟨kvs,hk⟩ | ⟨kvs,hk⟩
    ·obtain ⟨_,_,_,_,o,_,_,e,ex,_⟩:=I.hok p _ hk
     exact ⟨o,e,ex⟩
    ·obtain ⟨_,_,_,_,o,_,_,e,ex,_⟩:=I.hok p _ hk
     exact ⟨o,e,ex⟩
   obtain ⟨o,e,ex⟩:=z
   refine ⟨⟨o,e,ex.1⟩,fun a e2=>?_⟩
   cases e2
   exact ⟨o,e,ex.2.1⟩
  ·obtain ⟨o,_,_,_,e,ex,_⟩:=I.hok p _ hk
   refine ⟨⟨o,e,ex.1⟩,fun a e2=>?_⟩
   cases e2
   exact ⟨o,e,ex.2.1⟩
 | _=>exact False.elim ty
def tBM (K:PySem.W.Frag) (T:String) (r:V->List V->Hp->VK->Prop) (to:TE) (t:TA):TE:=fun σ H Q=>to σ H fun x H1=>tyV K T x H1/\t σ H1 fun xs H2=>r x xs H2 Q
variable {o e:Expr} {es:List Expr} {to:TE} {t:TA} {name:Str} {apos cpos:Pos} {T id:String} {r:V->List V->Hp->VK->Prop}
theorem M' (pa:PlainAttrs T) (slot:Slot T name id) (hty:typeOf (.builtin id)=pure (.type "method_descriptor")) (hm:MtR X id r) (ho:PE X o to) (ha:PA X (e :: es) t)
  (hbase:attributeBase o name X.env (eval o X.env)=eval o X.env:=by rfl)
  (hfew:((backTo cpos (starEach (e :: es) X.env)).all (fun x=>!x.1) && (backToKw cpos (keywordEach [] X.env)).all (fun x=>x.1.isSome)
   && decide ((e :: es).length+([]:List Keyword).length+(if ([]:List Keyword).isEmpty then 0 else 1) < 30))=true:=by rfl)
  (hline:(apos.endLine == cpos.line)=true:=by rfl) (hs:starEach (e :: es) X.env=(false,eval e X.env) :: starEach es X.env:=by rfl) (hplain:(backTo cpos (starEach es X.env)).any (·.1)=false:=by rfl):
  PE X (.Call (.Attribute o name apos) (e :: es) [] cpos) (tBM X.K T r to t):=by
 intro pins s σ H Q I h
 refine wpAny_Call_method_late hbase hfew hline rfl (thn (ho pins s σ H _ I h) fun v s1 hz=>?_)
 obtain ⟨x,H1,I1,r1,ty,q1⟩:=hz
 obtain ⟨h1,h2⟩:=Kg I1 r1 ty
 refine ⟨T,id,pa,slot,hty,h1,h2,?_⟩
 have hA:=ha cpos pins s1 σ H1 _ I1 q1
 rw [hs] at hA ⊢
 refine Calls.callWith_builtin (by show (false || (backTo cpos (starEach es X.env)).any (·.1))=false; rw [hplain] <;> rfl) (Calls.evalArgs_plain ?_)
 exact thn hA fun us s2 ⟨vs,H2,I2,r2,q2⟩=>hm pins s2 σ H2 x vs v us Q I2 r1 r2 q2
end
end L2
namespace L2
open PySem PySem.Spec PyProof.Rows
def MtM (X:Cx) (id:String) (r:V->List V->Hp->VK->Prop):Prop:=
 ∀ (pins:List (Addr×Obj)) (s:Shared) (σ:St) (H:Hp) (x:V) (xs:List V) (v:Value) (us:List Value) (Q:VK),Inv X pins σ H s->RelV x v->aK xs us->r x xs H Q->
  wpAny (model X.prog X.w) X.A (call (.builtin id) (v :: us)) (EP X pins σ Q) X.xe s
theorem aK.one:∀ {x:V} {us:List Value},aK [x] us->∃ u,us=[u]/\RelV x u
 | _,_,.cons r .nil=>⟨_,rfl,r⟩
section
variable {X:Cx} {pins:List (Addr×Obj)} {σ:St} {H:Hp} {s:Shared} {l b:Addr} {xs ys zs:List V}
theorem Inv.lset {its its':List Value} {n:Nat} {f:Array Value->Array Value} {t':Nat} (I:Inv X pins σ H s) (hH:H l=some (.lst xs))
  (e:s.heap.get? l=some { cls:=.type "list",data:=.seq its.toArray n }) (hf:f its.toArray=its'.toArray) (hv:aK ys its') (hz:ys.length<=sizeLine):
  Inv X pins σ (upd H l (.lst ys)) { s with heap:=s.heap.update l (Obj.mapSeq f),toks:=t' }:=by
 have q:=PySem.IsL.update e f
 rw [hf] at q
 refine I.write (x:=l) (e:=l) (by rw [hH]; exact trivial) (.inl rfl) (fun b' u hb hu=>(Heap.get?_update_other s.heap (Obj.mapSeq f) (Ne.symm hb)).trans hu) ⟨_,q⟩ ?_
 exact ⟨hz,its',_,hv,q⟩
theorem Inv.lnew {its:List Value} {t':Nat} (I:Inv X pins σ H s) (hv:aK ys its) (hz:ys.length<=sizeLine):
  Inv X pins σ (upd H s.heap.objs.size (.lst ys)) { s with heap:=s.heap.push { cls:=.type "list",data:=.seq its.toArray },toks:=t' }:=
 I.laid (fun _ _ q=>Heap.get?_push_of_some _ q) (Nat.le_refl _) ⟨hz,its,0,hv,Heap.get?_push_size _ rfl⟩
theorem Inv.fresh (I:Inv X pins σ H s):H s.heap.objs.size=none:=I.hok.fresh (Nat.le_refl _)
theorem Inv.lstM (I:Inv X pins σ H s) (hH:H l=some (.lst xs)):xs.length<=sizeLine/\∃ (its:List Value) (n:Nat),aK xs its/\xs.length=its.length/\s.heap.get? l=some { cls:=.type "list",data:=.seq its.toArray n }:=by
 obtain ⟨z,its,n,r,e⟩:=I.hok l _ hH
 exact ⟨z,its,n,r,r.length,e⟩
end
section
variable {X:Cx}
def BX:V->List V->Hp->VK->Prop:=fun x vs H Q=>∃ l xs y,x=.ref l/\vs=[y]/\H l=some (.lst xs)/\xs.length < sizeLine/\Q .non (upd H l (.lst (xs++[y])))
theorem tI:MtM X "list.append" BX:=by
 intro pins s σ H x vs v us Q I rx rv h
 obtain ⟨l,xs,y,rfl,rfl,hH,hz,q⟩:=h
 cases rx
 obtain ⟨u,rfl,ru⟩:=rv.one
 obtain ⟨z,its,n,r,hl,e⟩:=I.lstM hH
 refine call_meets F.slot_list_append ⟨_,e,rfl⟩ F.entry_list_append (F.args_list_append_2 _ _) (PySem.list_append l its.toArray n u (by rw [List.size_toArray]; omega)) ⟨e,?_⟩
 refine ⟨.non,_,I.lset (its':=its++[u]) hH e (by simp) (r.append (.cons ru .nil)) ?_,rfl,q⟩
 rw [List.length_append,List.length_singleton]
 omega
def Mb:R2:=fun x y H Q=>∃ l b xs zs,x=.ref l/\y=.ref b/\H l=some (.lst xs)/\H b=some (.lst zs)/\xs.length+zs.length<=sizeLine/\∀ p,H p=none->Q (.ref p) (upd H p (.lst (xs++zs)))
theorem Kh:OpR X (binaryOp .Add) Mb:=by
 intro pins s σ H x y v u Q I rx ry h
 obtain ⟨l,b,xs,zs,rfl,rfl,hH,hB,hz,q⟩:=h
 cases rx
 cases ry
 obtain ⟨z,its,n,r,hl,e⟩:=I.lstM hH
 obtain ⟨z2,its2,n2,r2,hl2,e2⟩:=I.lstM hB
 refine PySem.P.add_list e e2 ?_ (by rw [List.size_toArray,List.size_toArray]; omega)
 have ea:its.toArray++its2.toArray=(its++its2).toArray:=by simp
 rw [ea]
 exact ⟨.ref _,_,I.lnew (t':=s.toks) (r.append r2) (by rw [List.length_append]; omega),rfl,q _ I.fresh⟩
end
section
variable {prog:Program} {w:World} {A:Around} {E:Value->Shared->Prop} {s:Shared}
end
section
variable {X:Cx}
end
end L2
namespace Att
open PySem PySem.W PySem.Calls PyProof.Rows
theorem oT {P:Params} {h:Heap}:∀ (ns:List Int) (vs:List Value),WellAll P h vs (ns.map WData.int)->IntsAre vs ns:=by
 intro ns
 induction ns with
 | nil=>
  intro vs w
  rw [List.map_nil] at w
  cases w
  exact .nil
 | cons n ns ih=>
  intro vs w
  rw [List.map_cons] at w
  cases w with
  | cons a b=>
   cases a
   exact .cons _ _ (ih _ b)
theorem CP {l:OpenLaw} {n:Nat} (hn:l.most=some n) {P:Params} {h:Heap} {args:List WData} {vals:List Value}
  (hpre:l.row.toRowW.claim.pre args=true) (hwl:WellAll P h vals args):
  ∃ a vs ns,vals=[Value.ref a]/\args=[WData.list (ns.map WData.int)]/\h.get? a=some { cls:=.type "list",data:=.seq vs.toArray }/\IntsAre vs ns/\ns.length<=n:=by
 have hsh:WShape.hasAll [] args [.list .int]=true:=(pre_splitW hpre).1
 have hc:l.pre.holds [] { args:=args }=true:=(pre_splitW hpre).2
 obtain ⟨d,r,rfl,h1,h2⟩:=hasAllW_cons hsh
 obtain rfl:=hasAllW_nil h2
 obtain ⟨xs,rfl,h3⟩:=hasW_list h1
 obtain ⟨ns,rfl⟩:=items_int h3
 have hlen:ns.length<=n:=by
  unfold OpenLaw.pre at hc
  have h4:(WTm.not (.lt (.lit (.int (n:Int))) (.len (.arg 0)))).holds [] { args:=[.list (ns.map .int)] }=true:=by
   have h4:=(holds_andW hc).1
   rw [hn] at h4
   exact h4
  have h5:=condW_of h4 (w_not (w_lt w_lit (w_len_list (w_arg rfl))))
  rw [List.length_map] at h5
  refine Nat.le_of_not_lt fun q=>?_
  have q':(n:Int) < ((ns.length:Nat):Int):=by omega
  first
   | (rw [decide_eq_true q'] at h5; exact absurd h5 (by decide))
   | (simp at h5; omega)
 cases hwl with
 | cons w1 w2=>
  cases w2
  cases w1 with
  | list ho hall=>exact ⟨_,_,ns,rfl,rfl,ho,oT ns _ hall,hlen⟩
theorem CQ (l:OpenLaw) (args:List WData):l.row.toRowW.claim.post args (.bool true) args=true:=
 postW_of (r:=l.row.toRowW) (X:=(true == true))
  (show WShape.has [] (.bool true) .bool=true by first | rfl | decide | simp [WShape.has,WShape.arms,WShape.armsAll])
  (show (WTm.eq .res (.lit (.bool true))).value [] { args:=args,res:=some (.bool true),after:=args }=some (.bool (true == true)) from w_eq_bool (w_res rfl) w_lit) rfl
theorem attach_call {l:OpenLaw} {n:Nat} {q:Program} {loose:List Str} {XP:(Str->Option Value)->Heap->Prop} {YP:World->Heap->Prop} {d:DefRec}
  (hn:l.most=some n) (hdf:d.params.defaults=[])
  (call:∀ (w:World) (s₀ s₁:Shared) (mg mb:Str->Option Value) (fa:Addr) (o:Obj) (pm cd doc:Value) (a:Addr) (vs:List Value) (ns:List Int),
   Ground q loose [] XP w s₀ mg mb s₁.heap->YP w s₁.heap->
   s₁.heap.get? fa=some o->o.data=.func (docDef d.name d.params d.body d.scope pm cd doc)->s₁.heap.CodeRec cd d.name->mg d.name=some (.ref fa)->
   s₁.heap.get? a=some { cls:=.type "list",data:=.seq vs.toArray }->IntsAre vs ns->ns.length<=n->s₁.gens=#[]->
   codeAny (model l.prog w) callerA (.call (.ref fa) ⟨[.ref a],[]⟩) (fun r s'=>r=.ok (.ret (.bool true))/\OldK s₁.heap s'.heap/\s'.os=s₁.os/\AllBare s'.gens) s₁):
  WalkO q loose XP YP l.row.toRowW d [] (fun f vs=>PySem.call f vs):=by
 intro w s₀ s₁ mg mb G Y fa o pm cd doc dV kV ho hd hcd hD hmg hg args vals as hpre hlay hrd hwl hlo
 obtain rfl:dV=.none:=Dflts.none hD hdf
 obtain rfl:kV=.none:=Dflts.noKw hD
 obtain ⟨a,vs,ns,rfl,rfl,hobj,hints,hlen⟩:=CP hn hpre hwl
 refine enter_call (codeAny_mono (call w s₀ s₁ mg mb fa o pm cd doc a vs ns G Y ho (fd_plain hd) hcd hmg hobj hints hlen hg) fun r s' hq=>?_)
 obtain ⟨rfl,h2,h3,h4⟩:=hq
 exact ⟨.inl ⟨.bool true,.bool true,[],rfl,fun _=>rfl,.bool true,CQ l _,fun _=>⟨List.Pairwise.nil,fun _ hm=>(nomatch hm)⟩⟩,h2,h3,h4⟩
section
variable {prog:Program} {w:World} {A:Around} {E:Value->Shared->Prop} {s:Shared} {K:Frag}
end
end Att
namespace L2
open PySem PySem.Spec PyProof.Rows
theorem tJ:∀ {vs:List Value} {ns:List Int},IntsAre vs ns->aK (ns.map V.int) vs
 | _,_,.nil=>.nil
 | _,_,.cons n t h=>.cons ⟨t,rfl⟩ (tJ h)
def EC (H:Hp):Prop:=∀ b,H b=none\/∃ o xs,H b=some (.frz o (.lst xs))
theorem ED {P:Program} {w:World} {K:PySem.W.Frag} {mg mb:Str->Option Value} {CX:CXT} {k:Nat} {fa a:Addr} {fd:FuncData} {x:Str} {sp:Sp} {s₁:Shared} {vs:List Value} {ns:List Int}
  (KX:K.In s₁.heap) (hns:s₁.heap.Ns mainGlobals mg) (hb:s₁.heap.Ns builtinsNs mb) (hbb:∀ x:Str,x≠"__name__" -> mb x=bootBuiltins x) (hlim:s₁.heap.NoLimit) (hg:s₁.gens=#[])
  (ha:s₁.heap.get? a=some { cls:=.type "list",data:=.seq vs.toArray }) (hi:IntsAre vs ns) (hl:ns.length<=sizeLine) (hr:eD k callerA)
  (F:∀ base:Heap,K.In base->base.Ns mainGlobals mg->aQ P w K mg base CX k fa fd [x] sp) (hbind:∀ (s:Shared) (u:Value),BindsTo s fd ⟨[u],[]⟩ [(x,u)])
  (hsp:∀ H:Hp,EC H->SqL K H a (ns.map V.int)->sp [.ref a] H (fun v _=>v=.bl true) fun _ _ _=>False)
  (hCX:∀ H e s',CX [] H s₁ (fun _ _ _=>False) e s'->False):
  codeAny (model P w) callerA (.call (.ref fa) ⟨[.ref a],[]⟩) (fun r s'=>r=.ok (.ret (.bool true))/\OldK s₁.heap s'.heap/\s'.os=s₁.os/\AllBare s'.gens) s₁:=by
 have rv:=tJ hi
 have lenV:=hi.length
 -- from an abstract heap in which nothing but the script may be tracked
 have core:∀ H:Hp,EC H->SqL K H a (ns.map V.int)->HOk P w H s₁.heap->(∀ b,H b≠none->b=a)->(H a≠none->K.lookup a=none)->
   codeAny (model P w) callerA (.call (.ref fa) ⟨[.ref a],[]⟩) (fun r s'=>r=.ok (.ret (.bool true))/\OldK s₁.heap s'.heap/\s'.os=s₁.os/\AllBare s'.gens) s₁:=by
  intro H hO hS hok hA hK
  have base_of:∀ {b:Addr} {o:Obj},s₁.heap.get? b=some o->H b=none->(vP s₁.heap H).get? b=some o:=fun e n=>Ej e n
  have noA:∀ {b:Addr} {o:Obj} {es:Array DictEntry} {ep:Nat},s₁.heap.get? b=some o->o.data=.dict es ep->H b=none:=fun {b o es ep} e d=>by
   cases q:H b with
   | none=>rfl
   | some u=>
    have e':b=a:=hA b (by rw [q]; simp)
    subst e'
    rw [ha] at e; cases e
    have d':Data.seq vs.toArray _=Data.dict es ep:=d
    cases d'
  have nsK:∀ {b:Addr} {m:Str->Option Value},s₁.heap.Ns b m->(vP s₁.heap H).Ns b m:=fun {b m} ⟨o,es,ep,e,d,r⟩=>⟨o,es,ep,base_of e (noA e d),d,r⟩
  have hKb:K.In (vP s₁.heap H):=fun b o e=>base_of (KX b o e) (by
   cases q:H b with
   | none=>rfl
   | some u=>
    have e':b=a:=hA b (by rw [q]; simp)
    subst e'
    rw [hK (by rw [q]; simp)] at e; cases e)
  have hM:Mod K mg (vP s₁.heap H):=⟨hKb,nsK hns,⟨mb,nsK hb,hbb⟩,let ⟨mc,h1,h2⟩:=hlim; ⟨mc,nsK h1,h2⟩⟩
  have e0:AG P w K mg (vP s₁.heap H) callerA [] s₁ H:=⟨rfl,hM,fun b o e=>Hf e,Nat.le_of_eq (CF _ _),trivial,fun b hb=>absurd (show b∈([]:List Addr) from hb) (by simp),hok,.of_eq hg⟩
  refine codeAny_mono ((F _ hKb (nsK hns)).run callerA [] s₁ H ⟨[.ref a],[]⟩ [.ref a] [.ref a] _ _ hr e0 (hbind s₁ (.ref a)) (.cons rfl .nil) (hsp H hO hS)) fun r s' h=>?_
  cases r with
  | error e=>exact (hCX H e s' h).elim
  | ok fl=>
   cases fl with
   | next=>exact False.elim h
   | brk=>exact False.elim h
   | cont=>exact False.elim h
   | ret u=>
    obtain ⟨v,H',os,bare,un,hok',r',q⟩:=h
    have q':v=.bl true:=q
    subst q'
    obtain rfl:u=Value.bool true:=r'
    refine ⟨rfl,OldK.of_keep fun b o e=>?_,os,bare⟩
    cases q:H b with
    | none=>exact un.keep b o e q (by intro z; exact absurd (show b∈([]:List Addr) from z) (by simp)) (by simp)
    | some u=>
     rcases hO b with z | ⟨ob,xs,z⟩
     ·rw [q] at z; cases z
     ·have z2:=un.frzs b ob _ z
      obtain ⟨e1,_⟩:=hok b _ z
      obtain ⟨e2,_⟩:=hok' b _ z2
      rw [e] at e1; cases e1
      exact e2
 cases hk:K.lookup a with
 | some o=>
  -- the script is one of the module's own objects
  have e:=KX a o hk
  rw [ha] at e
  cases e
  refine core (fun _=>none) (fun _=>.inl rfl) (.inr ⟨_,vs.toArray,_,hk,rfl,rfl,rfl,by rw [List.size_toArray,lenV]; exact hl,by simpa using rv⟩) (fun b u z=>by have z':(none:Option HO)=some u:=z; cases z') (fun b z=>absurd rfl z) fun z=>absurd rfl z
 | none=>
  refine core (fun b=>if b=a then some (.frz { cls:=.type "list",data:=.seq vs.toArray } (.lst (ns.map V.int))) else none) (fun b=>?_) (.inl (.inr ⟨{ cls:=.type "list",data:=.seq vs.toArray },if_pos rfl⟩)) (fun b u z=>?_) (fun b z=>?_) fun _=>hk
  ·by_cases hb:b=a
   ·exact .inr ⟨_,_,if_pos hb⟩
   ·exact .inl (if_neg hb)
  ·by_cases hb:b=a
   ·have z':=(if_pos hb).symm.trans z
    cases z'
    subst hb
    exact ⟨ha,by rw [List.length_map]; exact hl,vs,_,rv,ha⟩
   ·have z':=(if_neg hb).symm.trans z
    cases z'
  ·by_cases hb:b=a
   ·exact hb
   ·exact absurd (if_neg hb) z
end L2
namespace L2
open PySem PySem.Spec PyProof.Rows
theorem walk_of {l:PySem.W.OpenLaw} {n k:Nat} {q:Program} {loose:List Str} {XP:(Str->Option Value)->Heap->Prop} {YP:World->Heap->Prop} {d:DefRec} {K:Params->PySem.W.Frag} {CX:World->CXT} {sp:World->Sp} {x:Str}
  (hn:l.most=some n) (hn2:n<=sizeLine) (hdf:d.params.defaults=[]) (hr:eD k callerA)
  (hY:∀ (w:World) (h:Heap),YP w h->(K w.params).In h)
  (F:∀ (w:World) (mg:Str->Option Value) (fa:Addr) (h:Heap),(K w.params).In h->h.Ns mainGlobals mg->mg d.name=some (.ref fa)->
   ∃ fd:FuncData,(∀ (s:Shared) (u:Value),BindsTo s fd ⟨[u],[]⟩ [(x,u)])/\
    ∀ base:Heap,(K w.params).In base->base.Ns mainGlobals mg->aQ l.prog w (K w.params) mg base (CX w) k fa fd [x] (sp w))
  (hsp:∀ (w:World) (H:Hp) (a:Addr) (ns:List Int),ns.length<=n->EC H->SqL (K w.params) H a (ns.map V.int)->sp w [.ref a] H (fun v _=>v=.bl true) fun _ _ _=>False)
  (hCX:∀ (w:World) (H:Hp) (s:Shared) (e:Value) (s':Shared),CX w [] H s (fun _ _ _=>False) e s'->False):
  PySem.W.WalkO q loose XP YP l.row.toRowW d [] (fun f vs=>PySem.call f vs):=by
 refine Att.attach_call hn hdf fun w s₀ s₁ mg mb fa o pm cd doc a vs ns G Y ho hd hcd hmg hobj hints hlen hg=>?_
 have KX:=hY w _ Y
 obtain ⟨fd,hb,hF⟩:=F w mg fa _ KX G.T.g hmg
 exact ED KX G.T.g G.T.b G.T.builtins G.T.nolimit hg hobj hints (Nat.le_trans hlen hn2) hr hF hb (fun H hO hS=>hsp w H a ns hlen hO hS) fun H e s'=>hCX w H s₁ e s'
end L2
namespace L2
open PySem PySem.Spec PyProof.Rows
def aU (s:Stmt):Arguments:=match s with
 | .FunctionDef _ a _ _ _ _ _ _ _ _=>a
 | _=>{ posonlyargs:=[],args:=[],vararg:=none,kwonlyargs:=[],kw_defaults:=[],kwarg:=none,defaults:=[] }
def aR (s:Stmt):List Stmt:=match s with
 | .FunctionDef _ _ b _ _ _ _ _ _ _=>b
 | _=>[]
def aE (s:Stmt):Scope:=match s with
 | .FunctionDef _ _ _ _ _ _ sc _ _ _=>sc
 | _=>{ kind:=.function,names:=[],isGenerator:=false,isCoroutine:=false }
abbrev CX0:CXT:=fun _ _ _ _ _ _=>False
abbrev E0:XK:=fun _ _ _=>False
theorem Mc {X:Cx}:AH CX0 X E0:=fun _ _ _ _ _ _ _ h=>h.elim
structure Fun (K:PySem.W.Frag) (x qual:Str) (st:Stmt) (f:Addr) (fd:FuncData):Prop where
 ex:∃ (oc:Value) (od:Option Addr) (kV doc pm:Value) (an:Option Addr) (cdv ct:Value) (osl:Array (Option Value)),
  fd=PySem.W.fnOf x qual (aU st) (aR st) (aE st) .none kV doc pm an cdv ct/\K.lookup f=some ⟨oc,od,.func fd,osl⟩/\PySem.W.codeIn K cdv qual=true
 kp:PySem.W.keepIn K (.ref f)=true
section
variable {P:Program} {w:World} {K:PySem.W.Frag} {mg:Str->Option Value} {base:Heap}
theorem Fun.ok {x qual:Str} {st:Stmt} {f:Addr} {fd:FuncData} {N ps:List Str} {k:Nat} {sp:Sp} (F:Fun K x qual st f fd) (S:bB N ps (aE st)) (len:∀ vs H Q E,sp vs H Q E->vs.length=ps.length)
  (hbody:∀ (cdv:Value) (A:Around) (outer:List Env) (s:Shared) (H:Hp) (vs:List V) (Q:VK) (E:XK),eD k (A.deeper (envOfC qual (aE st) s.heap.objs.size f cdv))->sp vs H Q E->
   ∃ t,PSs (AI CX0 P w K mg base N qual (aE st) f cdv A outer s H E).nox (aR st) t/\t { nx:=fun _ H'=>Q .non H',rt:=Q } (start N vs) H):aQ P w K mg base CX0 (k+1) f fd ps sp:=by
 obtain ⟨oc,od,kV,doc,pm,an,cdv,ct,osl,rfl,lk,hcd⟩:=F.ex
 refine M5 lk hcd S len fun A outer s H vs Q E hr hsp=>?_
 obtain ⟨t,h,q⟩:=hbody cdv A outer s H vs Q E hr hsp
 exact ⟨t,h.nox,q⟩
theorem Fun.binds {x qual:Str} {st:Stmt} {f:Addr} {fd:FuncData} {ps:List Str} (F:Fun K x qual st f fd)
  (h:∀ (kV doc pm:Value) (an:Option Addr) (cdv ct:Value) (us:List Value),us.length=ps.length->bindArgs (PySem.W.fnOf x qual (aU st) (aR st) (aE st) .none kV doc pm an cdv ct) ⟨us,[]⟩=pure (ps.zip us)):Binds K fd ps []:=by
 obtain ⟨oc,od,kV,doc,pm,an,cdv,ct,osl,rfl,lk,hcd⟩:=F.ex
 exact .all (h kV doc pm an cdv ct)
theorem AM {x qual:Str} {st:Stmt} {f:Addr} {oc:Value} {od an:Option Addr} {osl:Array (Option Value)} {kV doc pm cdv ct:Value} (l:K.lookup f=some ⟨oc,od,.func (PySem.W.fnOf x qual (aU st) (aR st) (aE st) .none kV doc pm an cdv ct),osl⟩)
  (c:PySem.W.codeIn K cdv qual=true) (k:PySem.W.keepIn K (.ref f)=true):Fun K x qual st f (PySem.W.fnOf x qual (aU st) (aR st) (aE st) .none kV doc pm an cdv ct):=⟨⟨oc,od,kV,doc,pm,an,cdv,ct,osl,rfl,l,c⟩,k⟩
end
theorem Md {A:Around} {k:Nat} (hr:eD k A):A.units+1 < cLine:=Nat.lt_of_le_of_lt (Nat.add_le_add_left (by decide:1<=64) _) hr.units
section
variable {X:Cx}
theorem pv (i:Nat) {x:Str} {pos:Pos} (hN:X.N[i]?=some x:=by rfl) (hv:Vis X.env.scope x:=by first | exact Or.inl rfl | exact Or.inr (Or.inl rfl) | exact Or.inr (Or.inr rfl)) (hd:(x == ("__debug__" : Str))=false:=by decide)
  (hcd:(x == ("__classdict__" : Str))=false:=by decide):PE X (.Name x pos) (LN i):=AB hN hv hd hcd
end
theorem CS {A B:Prop} (h:B):if false=true then A else B:=by
 rw [if_neg Bool.false_ne_true]
 exact h
theorem CT {A B:Prop} (h:A):if true=true then A else B:=by
 rw [if_pos rfl]
 exact h
def yR (H H':Hp):Prop:=∀ b o,H b=some o->H' b=some o
end L2
namespace L2
open PySem PySem.Spec PyProof.Rows
section
variable {κ:Type} [DecidableEq κ]
def iC (kvs:List (κ×V)) (k:κ):Option V:=(kvs.find? fun kv=>decide (kv.1=k)).map (·.2)
def putK (kvs:List (κ×V)) (k:κ) (v:V):List (κ×V):=
 if (kvs.any fun kv=>decide (kv.1=k))=true then kvs.map (fun kv=>if kv.1=k then (kv.1,v) else kv) else kvs++[(k,v)]
theorem kQ {p:κ×V} {r:List (κ×V)} {k:κ} (e:p.1=k):iC (p :: r) k=some p.2:=by simp [iC,List.find?_cons,e]
theorem kR {p:κ×V} {r:List (κ×V)} {k:κ} (e:¬ p.1=k):iC (p :: r) k=iC r k:=by simp [iC,List.find?_cons,e]
theorem pZ (k:κ):∀ kvs:List (κ×V),(kvs.any fun kv=>decide (kv.1=k))=(iC kvs k).isSome
 | []=>rfl
 | p :: r=>by
  rw [List.any_cons]
  by_cases e:p.1=k
  ·simp only [kQ e,decide_eq_true e,Bool.true_or,Option.isSome_some]
  ·rw [kR e,decide_eq_false e,Bool.false_or]; exact pZ k r
theorem iE (kvs:List (κ×V)) (k:κ) (v:V):(putK kvs k v).length<=kvs.length+1:=by
 unfold putK
 split
 ·rw [List.length_map]; omega
 ·rw [List.length_append,List.length_cons,List.length_nil]; omega
theorem mU.isSome_eq {o:Option V} {u:Option Value} (r:mU o u):o.isSome=u.isSome:=by
 cases o with
 | none=>cases u with
  | none=>rfl
  | some _=>exact (show False from r).elim
 | some _=>cases u with
  | none=>exact (show False from r).elim
  | some _=>rfl
theorem mU.getD {o:Option V} {u:Option Value} {d:V} {d':Value} (r:mU o u) (rd:RelV d d'):RelV (o.getD d) (u.getD d'):=by
 cases o with
 | none=>cases u with
  | none=>exact rd
  | some _=>exact (show False from r).elim
 | some _=>cases u with
  | none=>exact (show False from r).elim
  | some _=>exact r
theorem KV.val {kvs:List (κ×V)} {vs:List (κ×Value)} (r:KV kvs vs) (k:κ):mU (iC kvs k) (valueAt vs k):=by
 unfold KV at r
 induction r with
 | nil=>exact True.intro
 | @cons p q ps qs h t ih=>
  obtain ⟨h1,h2⟩:=h
  by_cases e:p.1=k
  ·have e':q.1=k:=h1.symm.trans e
   have b:valueAt (q :: qs) k=some q.2:=by simp [valueAt,List.find?_cons,e']
   rw [kQ e,b]; exact h2
  ·have e':¬ q.1=k:=fun z=>e (h1.trans z)
   have b:valueAt (q :: qs) k=valueAt qs k:=by simp [valueAt,List.find?_cons,e']
   rw [kR e,b]; exact ih
theorem KV.any {kvs:List (κ×V)} {vs:List (κ×Value)} (r:KV kvs vs) (k:κ):(kvs.any fun kv=>decide (kv.1=k))=vs.any fun kv=>decide (kv.1=k):=by
 unfold KV at r
 induction r with
 | nil=>rfl
 | cons h t ih=>rw [List.any_cons,List.any_cons,ih,h.1]
theorem KV.repl {kvs:List (κ×V)} {vs:List (κ×Value)} (r:KV kvs vs) (k:κ) {y:V} {u:Value} (ry:RelV y u):
  KV (kvs.map fun kv=>if kv.1=k then (kv.1,y) else kv) (vs.map fun kv=>if kv.1=k then (kv.1,u) else kv):=by
 unfold KV at r ⊢
 induction r with
 | nil=>exact .nil
 | @cons p q ps qs h t ih=>
  rw [List.map_cons,List.map_cons]
  refine .cons ?_ ih
  obtain ⟨h1,h2⟩:=h
  by_cases e:p.1=k
  ·rw [if_pos e,if_pos (h1.symm.trans e)]; exact ⟨h1,ry⟩
  ·rw [if_neg e,if_neg (fun z=>e (h1.trans z))]; exact ⟨h1,h2⟩
theorem KV.put {kvs:List (κ×V)} {vs:List (κ×Value)} (r:KV kvs vs) (k:κ) {y:V} {u:Value} (ry:RelV y u):KV (putK kvs k y) (stored vs k u):=by
 unfold putK stored
 rw [r.any k]
 by_cases e:(vs.any fun kv=>decide (kv.1=k))=true
 ·rw [if_pos e,if_pos e]; exact r.repl k ry
 ·rw [if_neg e,if_neg e]; exact Paired.snoc r ⟨rfl,ry⟩
theorem KV.length {kvs:List (κ×V)} {vs:List (κ×Value)} (r:KV kvs vs):kvs.length=vs.length:=Paired.length r
end
theorem tK {P:Program} {w:World} {k:Key} {u:Value} (r:RelV (kV k) u):(aZ P w).is k u=true:=by
 cases k with
 | inl i=>obtain ⟨t,e⟩:=(show ∃ t,u=Value.int i t from r); subst e; exact yJ P w i t
 | inr x=>obtain ⟨t,e⟩:=(show ∃ t,u=Value.str x t from r); subst e; exact yK P w x t
theorem tL {P:Program} {w:World}:∀ {ks:List Key} {us:List Value},aK (ks.map kV) us->ItemsAre (aZ P w) ks us
 | [],_,r=>by rw [List.map_nil] at r; cases r; exact .nil
 | k :: ks,_,r=>by
  rw [List.map_cons] at r
  cases r with
  | cons h t=>exact .cons (tK h) (tL t)
abbrev KT (H:Hp):List (List Key×V)->List (List Key×Addr×Value)->Prop:=Paired fun p q=>p.1=q.1/\H q.2.1=some (.tup (p.1.map kV))/\RelV p.2 q.2.2
theorem KT.val {H:Hp} {kvs:List (List Key×V)} {xs:List (List Key×Addr×Value)} (r:KT H kvs xs) (k:List Key):mU (iC kvs k) ((atKey xs k).map (·.2)):=by
 induction r with
 | nil=>exact True.intro
 | @cons p q ps qs h t ih=>
  obtain ⟨h1,_,h2⟩:=h
  by_cases e:p.1=k
  ·have e':q.1=k:=h1.symm.trans e
   have b:atKey (q :: qs) k=some q.2:=by simp [atKey,List.find?_cons,e']
   rw [kQ e,b]; exact h2
  ·have e':¬ q.1=k:=fun z=>e (h1.trans z)
   have b:atKey (q :: qs) k=atKey qs k:=by simp [atKey,List.find?_cons,e']
   rw [kR e,b]; exact ih
theorem KT.repl {H:Hp} {kvs:List (List Key×V)} {xs:List (List Key×Addr×Value)} (r:KT H kvs xs) (k:List Key) {y:V} {u:Value} (ry:RelV y u):
  KT H (kvs.map fun kv=>if kv.1=k then (kv.1,y) else kv) (xs.map (putAt k u)):=by
 induction r with
 | nil=>exact .nil
 | @cons p q ps qs h t ih=>
  rw [List.map_cons,List.map_cons]
  refine .cons ?_ ih
  obtain ⟨h1,h2,h3⟩:=h
  unfold putAt
  by_cases e:p.1=k
  ·rw [if_pos e,if_pos (h1.symm.trans e)]; exact ⟨h1,h2,ry⟩
  ·rw [if_neg e,if_neg (fun z=>e (h1.trans z))]; exact ⟨h1,h2,h3⟩
theorem KT.put {H:Hp} {kvs:List (List Key×V)} {xs:List (List Key×Addr×Value)} (r:KT H kvs xs) (k:List Key) {b:Addr} {y:V} {u:Value} (hb:H b=some (.tup (k.map kV))) (ry:RelV y u):
  KT H (putK kvs k y) (storedH xs k b u):=by
 have e:(kvs.any fun kv=>decide (kv.1=k))=(atKey xs k).isSome:=by
  rw [pZ,(r.val k).isSome_eq,Option.isSome_map]
 unfold putK storedH
 rw [e]
 by_cases q:(atKey xs k).isSome=true
 ·rw [if_pos q,if_pos q]; exact r.repl k ry
 ·rw [if_neg q,if_neg q]; exact Paired.snoc r ⟨rfl,hb,ry⟩
theorem KT.keeps {H H':Hp} {kvs:List (List Key×V)} {xs:List (List Key×Addr×Value)} (r:KT H kvs xs) (ht:∀ b ys,H b=some (.tup ys)->H' b=some (.tup ys)):KT H' kvs xs:=
 Paired.mapP r fun _ _ z=>⟨z.1,ht _ _ z.2.1,z.2.2⟩
section
variable {P:Program} {w:World} {H:Hp} {h:Heap} {a:Addr}
theorem Jt {u:HO} (ok:HOk P w H h) (e:Rd H a u):bU P w H h a u:=e.ok ok
theorem qA {kvs:List (Key×V)} (ok:HOk P w H h) (e:Rd H a (.dK kvs)):kvs.length<=sizeLine/\(a == sysModules)=false/\∃ vs,KV kvs vs/\h.DictOf (aZ P w) a vs:=
 show bU P w H h a (.dK kvs) from Jt ok e
theorem EE {kvs:List (Key×V)} (ok:HOk P w H h) (e:H a=some (.dK kvs)):kvs.length<=sizeLine/\(a == sysModules)=false/\∃ vs,KV kvs vs/\h.DictOf (aZ P w) a vs:=qA ok (.inl e)
theorem qB {ks:List Key} (ok:HOk P w H h) (e:H a=some (.tup (ks.map kV))):(tupleKind (aZ P w)).is h ks a:=by
 obtain ⟨_,its,r,o,h1,h2,⟨n,h3⟩,_⟩:=(show bU P w H h a (.tup (ks.map kV)) from ok a _ e)
 exact ⟨o,its.toArray,n,h1,h2,h3,by simpa using tL r⟩
theorem yS {kvs:List (List Key×V)} (ok:HOk P w H h) (e:Rd H a (.dT kvs)):kvs.length<=sizeLine/\(a == sysModules)=false/\
  ∃ xs,KT H kvs xs/\h.DictOfH (tupleKind (aZ P w)) a xs:=by
 obtain ⟨z,y,xs,r,o,es,ep,h1,h2,h3,h4,h5⟩:=(show bU P w H h a (.dT kvs) from Jt ok e)
 refine ⟨z,y,xs,r,o,es,ep,h1,h2,h3,h4,fun x hx=>?_,h5⟩
 have all:∀ {l:List (List Key×V)} {m:List (List Key×Addr×Value)},KT H l m->∀ x∈m,(tupleKind (aZ P w)).is h x.1 x.2.1:=by
  intro l m q
  induction q with
  | nil=>intro x hx; exact nomatch hx
  | @cons p q ps qs hq t ih=>
   intro x hx
   rcases List.mem_cons.mp hx with e | hx
   ·subst e
    exact qB ok (by rw [<- hq.1]; exact hq.2.1)
   ·exact ih x hx
 exact all r x hx
theorem Mf {kvs:List (List Key×V)} (ok:HOk P w H h) (e:H a=some (.dT kvs)):kvs.length<=sizeLine/\(a == sysModules)=false/\
  ∃ xs,KT H kvs xs/\h.DictOfH (tupleKind (aZ P w)) a xs:=yS ok (.inl e)
end
def sJ (H:Hp) (a:Addr) (y:V) (r:Option V):Prop:=
 (∃ kvs k,Rd H a (.dK kvs)/\y=kV k/\r=iC kvs k)\/∃ kvs k b,Rd H a (.dT kvs)/\y=.ref b/\H b=some (.tup (k.map kV))/\r=iC kvs k
def Ki (H:Hp) (a:Addr) (y v:V) (H':Hp):Prop:=
 (∃ kvs k,H a=some (.dK kvs)/\y=kV k/\kvs.length < sizeLine/\H'=upd H a (.dK (putK kvs k v)))\/
 ∃ kvs k b,H a=some (.dT kvs)/\y=.ref b/\H b=some (.tup (k.map kV))/\kvs.length < sizeLine/\H'=upd H a (.dT (putK kvs k v))
theorem sJ.k {H:Hp} {a:Addr} {kvs:List (Key×V)} {k:Key} (e:H a=some (.dK kvs)):sJ H a (kV k) (iC kvs k):=.inl ⟨kvs,k,.inl e,rfl,rfl⟩
theorem Ki.k {H:Hp} {a:Addr} {kvs:List (Key×V)} {k:Key} {v:V} (e:H a=some (.dK kvs)) (hl:kvs.length < sizeLine):Ki H a (kV k) v (upd H a (.dK (putK kvs k v))):=.inl ⟨kvs,k,e,rfl,hl,rfl⟩
section
variable {X:Cx} {pins:List (Addr×Obj)} {σ:St} {H:Hp} {s:Shared} {a:Addr} {y v:V} {u r:Value} {o:Option V} {A:Around} {E:Value->Shared->Prop}
theorem Inv.big (I:Inv X pins σ H s):sysModules < s.heap.objs.size:=by
 have h:mainGlobals < s.heap.objs.size:=(I.mod.glob.keeps I.bk).lt
 exact Nat.lt_trans (by decide) h
theorem CU {Q:Value->Shared->Prop} (hu:A.units+1 < cLine) (I:Inv X pins σ H s) (g:sJ H a y (some v)) (ry:RelV y u) (h:∀ w' s',Inv X pins σ H s'->RelV v w'->Q w' s'):
  wpAny (model X.prog X.w) A (getItem (.ref a) u) Q E s:=by
 rcases g with ⟨kvs,k,e,ey,l⟩ | ⟨kvs,k,b,e,ey,eb,l⟩
 ·subst ey
  obtain ⟨z,hd,vs,rel,dd⟩:=qA I.hok e
  obtain ⟨w',hw,rw'⟩:=mU.some_of (v:=v) (o:=valueAt vs k) (by rw [l]; exact rel.val k)
  exact wpAny_getItem_of (tK ry) dd.mapOf hw (h w' _ (I.tok _) rw')
 ·subst ey
  cases (show u=Value.ref b from ry)
  obtain ⟨z,hd,xs,rel,dd⟩:=yS I.hok e
  obtain ⟨w',hw,rw'⟩:=mU.some_of (v:=v) (o:=(atKey xs k).map (·.2)) (by rw [l]; exact rel.val k)
  obtain ⟨p,hp,hp2⟩:=Option.map_eq_some_iff.mp hw
  refine wpAny_getItem_heap (tupleKind_room_in1 hu) (qB I.hok eb) dd hp ?_
  rw [hp2]
  exact h w' _ (I.tok _) rw'
theorem vW {h':Heap} {t':Nat} {ob:HO} (I:Inv X pins σ H s) (mu:Mut (H a)) (hs:Heap.SameBut a s.heap h') (he:∃ q,h'.get? a=some q) (new:bU X.prog X.w (upd H a ob) h' a ob):
  Inv X pins σ (upd H a ob) { s with heap:=h',toks:=t' }:=
 I.write (x:=a) (e:=a) mu (.inl rfl) (fun b q hb z=>(hs.2 b hb).trans z) he new
theorem AN {P:Program} {w:World} {H':Hp} {h':Heap} {kvs:List (Key×V)} {vs:List (Key×Value)} (z:kvs.length<=sizeLine) (hd:(a == sysModules)=false) (rel:KV kvs vs) (dd:h'.DictOf (aZ P w) a vs):
  bU P w H' h' a (.dK kvs):=⟨z,hd,vs,rel,dd⟩
theorem CV {H':Hp} {Q:Unit->Shared->Prop} (hu:A.units+1 < cLine) (I:Inv X pins σ H s) (g:Ki H a y v H') (ry:RelV y u) (rv:RelV v r) (h:∀ s',Inv X pins σ H' s'->Q () s'):
  wpAny (model X.prog X.w) A (setItem (.ref a) u r) Q E s:=by
 rcases g with ⟨kvs,k,e,ey,l,eH⟩ | ⟨kvs,k,b,e,ey,eb,l,eH⟩
 ·subst ey eH
  obtain ⟨z,hd,vs,rel,dd⟩:=EE I.hok e
  have hz:vs.length<=sizeLine:=by rw [<- rel.length]; exact z
  have hl:(putK kvs k v).length<=sizeLine:=by have:=iE kvs k v; omega
  refine wpAny_setItem_pairs (hsz:=hz) (tK ry) dd fun h' dd' hs=>h _ ?_
  have he:∃ q,h'.get? a=some q:=let ⟨q,_,_,hq,_⟩:=dd'; ⟨q,hq⟩
  exact vW I (by rw [e]; exact True.intro) hs he (AN hl hd (rel.put k rv) dd')
 ·subst ey eH
  cases (show u=Value.ref b from ry)
  obtain ⟨z,hd,xs,rel,dd⟩:=Mf I.hok e
  have hz:xs.length<=sizeLine:=by rw [<- Paired.length rel]; exact z
  have hl:(putK kvs k v).length<=sizeLine:=by have:=iE kvs k v; omega
  refine wpAny_setItem_heap (hsz:=hz) (tupleKind_room_in1 hu) (qB I.hok eb) dd fun h' dd' hs=>h _ ?_
  obtain ⟨q,es,ep,hq,h2,h3,h4,_,h5⟩:=dd'
  refine vW I (by rw [e]; exact True.intro) hs ⟨q,hq⟩ ⟨hl,hd,_,(rel.put k eb rv).keeps fun c ys ec=>?_,q,es,ep,hq,h2,h3,h4,h5⟩
  rw [bK (LM ec e (fun z=>nomatch z))]
  exact ec
end
section
variable {X:Cx} {pins:List (Addr×Obj)} {σ:St} {H:Hp} {s:Shared} {a:Addr} {kvs:List (Key×V)} {k:Key} {u:Value} {A:Around} {E:Value->Shared->Prop}
theorem Mh {Q:Value->Shared->Prop} (I:Inv X pins σ H s) (e:Rd H a (.dK kvs)) (h:∀ t s',Inv X pins σ H s'->Q (.int kvs.length t) s'):wpAny (model X.prog X.w) A (call (.builtin "len") [.ref a]) Q E s:=by
 obtain ⟨z,hd,vs,rel,dd⟩:=qA I.hok e
 refine call_len_dict hd dd (by rw [<- rel.length]; rw [sizeLine_eq] at z; omega) ?_
 rw [<- rel.length]
 exact h _ _ (I.tok _)
end
theorem yT {X:Cx} {pins:List (Addr×Obj)} {σ:St} {H:Hp} {s:Shared} {a:Addr} {y:V} {o:Option V} (I:Inv X pins σ H s) (g:sJ H a y o):s.TypeIs (.ref a) "dict" := by
 rcases g with ⟨kvs,k,e,_,_⟩ | ⟨kvs,k,b,e,_,_,_⟩
 ·obtain ⟨_,_,vs,_,dd⟩:=qA I.hok e
  exact dd.typeIs
 ·obtain ⟨_,_,xs,_,dd⟩:=yS I.hok e
  exact dd.typeIs
section
variable {X:Cx} {o i e value:Expr} {pos pos' tpos:Pos} {td ty tv:TE}
end
section
variable {X:Cx} {pos:Pos}
end
def mX (kvs more:List (Key×V)):List (Key×V):=more.foldl (fun acc kv=>putK acc kv.1 kv.2) kvs
theorem KV.merge:∀ {more:List (Key×V)} {rs:List (Key×Value)} {kvs:List (Key×V)} {vs:List (Key×Value)},KV more rs->KV kvs vs->KV (mX kvs more) (merged vs rs):=by
 intro more rs kvs vs r
 unfold KV at r
 induction r generalizing kvs vs with
 | nil=>intro q; exact q
 | @cons p q ps qs h t ih=>
  intro r0
  have e:KV (putK kvs p.1 p.2) (stored vs q.1 q.2):=by
   have:=r0.put p.1 h.2
   rw [<- h.1]; exact this
  exact ih e
theorem jT:∀ (more kvs:List (Key×V)),(mX kvs more).length<=kvs.length+more.length
 | [],kvs=>by show kvs.length<=kvs.length+0; omega
 | p :: r,kvs=>by
  have h1:=jT r (putK kvs p.1 p.2)
  have h2:=iE kvs p.1 p.2
  show (mX (putK kvs p.1 p.2) r).length<=_
  rw [List.length_cons]; omega
structure M1 (X:Cx) (o:Expr) (m:Str) (apos:Pos) (e:Expr) (cpos:Pos):Prop where
 base:attributeBase o m X.env (eval o X.env)=eval o X.env
 few:((backTo cpos (starEach [e] X.env)).all (fun x=>!x.1) && (backToKw cpos (keywordEach [] X.env)).all (fun x=>x.1.isSome)
  && decide (([e]:List Expr).length+([]:List Keyword).length+(if ([]:List Keyword).isEmpty then 0 else 1) < 30))=true
 line:(apos.endLine == cpos.line)=true
 trees:backTo cpos (starEach [e] X.env)=[(false,eval e X.env)]
structure M2 (X:Cx) (o:Expr) (m:Str) (apos:Pos) (e f:Expr) (cpos:Pos):Prop where
 base:attributeBase o m X.env (eval o X.env)=eval o X.env
 few:((backTo cpos (starEach [e,f] X.env)).all (fun x=>!x.1) && (backToKw cpos (keywordEach [] X.env)).all (fun x=>x.1.isSome)
  && decide (([e,f]:List Expr).length+([]:List Keyword).length+(if ([]:List Keyword).isEmpty then 0 else 1) < 30))=true
 line:(apos.endLine == cpos.line)=true
 trees:backTo cpos (starEach [e,f] X.env)=[(false,eval e X.env),(false,eval f X.env)]
section
variable {X:Cx} {pins:List (Addr×Obj)} {σ:St} {H:Hp} {s:Shared} {a:Addr} {y d:V} {u r:Value} {o:Option V} {A:Around} {E:Value->Shared->Prop}
theorem Kj {Q:Value->Shared->Prop} (hu:A.units+1 < cLine) (I:Inv X pins σ H s) (g:sJ H a y o) (ry:RelV y u) (h:∀ w' s',Inv X pins σ H s'->RelV (o.getD .non) w'->Q w' s'):
  wpAny (model X.prog X.w) A (call (.builtin "dict.get") [.ref a,u]) Q E s:=by
 rcases g with ⟨kvs,k,e,ey,l⟩ | ⟨kvs,k,b,e,ey,eb,l⟩
 ·subst ey
  obtain ⟨z,hd,vs,rel,dd⟩:=qA I.hok e
  refine call_meetsIn PySem.F.slot_dict_get dd.typeIs PySem.F.entry_dict_get (PySem.F.args_dict_get_2 _ _) (meets_dict_get (aZ X.prog X.w) a (tK ry) hd) ⟨_,dd.mapOf,h _ _ (I.tok _) ?_⟩
  rw [l]
  exact (rel.val k).getD rfl
 ·subst ey
  cases (show u=Value.ref b from ry)
  obtain ⟨z,hd,xs,rel,dd⟩:=yS I.hok e
  refine call_meetsIn PySem.F.slot_dict_get dd.typeIs PySem.F.entry_dict_get (PySem.F.args_dict_get_2 _ _) (meetsH_dict_get (tupleKind (aZ X.prog X.w)) a b hd) ⟨tupleKind_room_in1 hu,k,xs,qB I.hok eb,dd,h _ _ (I.tok _) ?_⟩
  rw [l]
  exact (rel.val k).getD rfl
theorem Kk {Q:Value->Shared->Prop} (hu:A.units+1 < cLine) (I:Inv X pins σ H s) (g:sJ H a y o) (ry:RelV y u) (rd:RelV d r) (h:∀ w' s',Inv X pins σ H s'->RelV (o.getD d) w'->Q w' s'):
  wpAny (model X.prog X.w) A (call (.builtin "dict.get") [.ref a,u,r]) Q E s:=by
 rcases g with ⟨kvs,k,e,ey,l⟩ | ⟨kvs,k,b,e,ey,eb,l⟩
 ·subst ey
  obtain ⟨z,hd,vs,rel,dd⟩:=qA I.hok e
  refine call_meetsIn PySem.F.slot_dict_get dd.typeIs PySem.F.entry_dict_get (PySem.F.args_dict_get_3 _ _ _) (meets_dict_get_default (aZ X.prog X.w) a (tK ry) hd r) ⟨_,dd.mapOf,h _ _ (I.tok _) ?_⟩
  rw [l]
  exact (rel.val k).getD rd
 ·subst ey
  cases (show u=Value.ref b from ry)
  obtain ⟨z,hd,xs,rel,dd⟩:=yS I.hok e
  refine call_meetsIn PySem.F.slot_dict_get dd.typeIs PySem.F.entry_dict_get (PySem.F.args_dict_get_3 _ _ _) (meetsH_dict_get_default (tupleKind (aZ X.prog X.w)) a b hd r) ⟨tupleKind_room_in1 hu,k,xs,qB I.hok eb,dd,h _ _ (I.tok _) ?_⟩
  rw [l]
  exact (rel.val k).getD rd
end
section
variable {X:Cx} {o e f:Expr} {apos cpos:Pos} {td ty tx:TE}
end
section
variable {X:Cx} {pins:List (Addr×Obj)} {σ:St} {H:Hp} {s:Shared} {a:Addr} {kvs:List (Key×V)} {A:Around} {E:Value->Shared->Prop}
theorem EF {Q:Value->Shared->Prop} (I:Inv X pins σ H s) (e:Rd H a (.dK kvs)) (h:∀ p s',H p=none->Inv X pins σ (upd H p (.dK kvs)) s'->Q (.ref p) s'):wpAny (model X.prog X.w) A (call (.type "dict") [.ref a]) Q E s:=by
 obtain ⟨z,hd,vs,rel,dd⟩:=qA I.hok e
 refine kt_call_dict hd dd (by rw [<- rel.length]; exact z) fun h' dd' hs=>?_
 refine h _ _ (I.hok.fresh (Nat.le_refl _)) (I.laid (a:=s.heap.objs.size) (o:=.dK kvs) (t':=s.toks) (fun b q hq=>?_) (Nat.le_refl _) (AN z (beq_eq_false_iff_ne.mpr (Ne.symm (Nat.ne_of_lt I.big))) rel dd'))
 exact (hs.2 b (Nat.ne_of_lt (Heap.lt_size hq))).trans (Heap.get?_push_of_some _ hq)
end
section
variable {X:Cx} {pins:List (Addr×Obj)} {σ:St} {H:Hp} {s:Shared} {a:Addr} {y:V} {u:Value} {A:Around} {E:Value->Shared->Prop}
end
end L2
namespace L2
open PySem PySem.Spec PyProof.Rows
section
variable {X:Cx}
theorem CW:bE X (.builtin "len") (fun xs H Q=>∃ a kvs,xs=[V.ref a]/\H a=some (.dK kvs)/\Q (.int kvs.length) H):=by
 intro pins s σ H xs us Q I r h
 obtain ⟨a,kvs,rfl,ha,q⟩:=h
 obtain ⟨u,rfl,ru⟩:=vals1 r
 cases ru
 exact Mh I (.inl ha) fun t s' I'=>⟨.int kvs.length,H,I',⟨t,rfl⟩,q⟩
end
section
variable {κ:Type} [DecidableEq κ]
end
end L2
set_option Elab.async false
set_option linter.all false
set_option maxRecDepth 100000
namespace L2
open PySem PySem.Spec PyProof.Rows
section
variable {prog:Program} {w:World} {A:Around} {R:Result->Shared->Prop} {s:Shared}
def BY (ifs:List Expr) (env:Env):Sem Bool:=forIn ifs true fun c r=>if r=true then do let ok <- isTrue c env (eval c env); pure (ForInStep.yield ok) else pure (ForInStep.yield r)
theorem vX {elt target iter:Expr} {ifs:List Expr} {scope:Scope} {pos:Pos} {it acc:Value} {env:Env} (I:Nat->Shared->Prop)
  (turn:∀ n s,I n s->wpAny (model prog w) A (pyNext it) (fun r s₁=>match r with
   | none=>R (.ok .next) s₁
   | some v=>wpAny (model prog w) A (letOwnedTupleGo target it v) (fun _ s₁'=>wpAny (model prog w) A (assign target env v) (fun _ s₂=>
     wpAny (model prog w) A (BY ifs env) (fun ok s₃=>
      if ok=true then wpAny (model prog w) A (eval elt env) (fun x s₄=>
       wpAny (model prog w) A (call (.builtin "list.append") [acc,x]) (fun _ s₅=>∃ m,m < n/\I m s₅) (fun _ _=>False) s₄) (fun _ _=>False) s₃
      else ∃ m,m < n/\I m s₃) (fun _ _=>False) s₂) (fun _ _=>False) s₁') (fun _ _=>False) s₁) (fun _ _=>False) s)
  (n:Nat) (h:I n s):
  codeAny (model prog w) A (.compLoop (.ListComp elt [⟨target,iter,ifs,0⟩] scope pos) 0 it acc env) R s:=by
 refine codeAny_loop rfl I (fun n s hI=>?_) n h
 show wpAny _ A ((compTurn (.ListComp elt [⟨target,iter,ifs,0⟩] scope pos) 0 it acc env).onRaise (fun x=>do noteFrame x env; theTreesLotGoes x)) _ _ s
 refine wpAny_noted ?_
 rw [compTurn_list]
 refine wpAny_bind (wpAny_standAt (wpAny_bind (wpAny_mono (turn n s hI) (fun r s₁ h₁=>?_) fun _ _ h'=>h'.elim)))
 cases r with
 | none=>exact wpAny_pure h₁
 | some v=>
  refine wpAny_bind (wpAny_mono h₁ (fun _ s₁' h₁'=>?_) fun _ _ h'=>h'.elim)
  refine wpAny_bind (wpAny_mono h₁' (fun _ s₂ h₂=>wpAny_bind (wpAny_mono h₂ (fun ok s₃ h₃=>?_) fun _ _ h'=>h'.elim)) fun _ _ h'=>h'.elim)
  cases ok with
  | false=>exact wpAny_pure ⟨rfl,h₃⟩
  | true=>
   exact wpAny_bind (wpAny_bind (wpAny_mono h₃ (fun x s₄ h₄=>wpAny_bind (wpAny_mono h₄ (fun _ s₅ h₅=>wpAny_pure (wpAny_pure ⟨rfl,h₅⟩)) fun _ _ h'=>h'.elim)) fun _ _ h'=>h'.elim))
end
def iF (cells:List (Str×Addr)):List (Str×NameKind)->List (Str×Addr)->List (Str×Addr)
 | [],cs=>cs
 | (n,k) :: r,cs=>iF cells r (if (k == NameKind.free)=true then (n,(cells.lookup n).getD 0) :: cs else cs)
theorem sL {scope:Scope} {env:Env} (h:∀ y∈scope.names,y.2=NameKind.free->∃ c,env.cells.lookup y.1=some c):closureFor scope env=pure (iF env.cells scope.names []):=by
 have go:∀ (names:List (Str×NameKind)) (cs:List (Str×Addr)),(∀ y∈names,y.2=NameKind.free->∃ c,env.cells.lookup y.1=some c)->
   (forIn names cs fun (x:Str×NameKind) (r:List (Str×Addr))=>match x with
    | (name,kind)=>if (kind == NameKind.free)=true then (do let y <- cellOf env name; pure (ForInStep.yield ((name,y) :: r))) else (pure (ForInStep.yield r):Sem _))=(pure (iF env.cells names cs):Sem _):=by
  intro names
  induction names with
  | nil=>intro cs _; rfl
  | cons y r ih=>
   intro cs hy
   obtain ⟨n,k⟩:=y
   rw [List.forIn_cons]
   have ih':=fun cs'=>ih cs' fun y hm=>hy y (List.mem_cons_of_mem _ hm)
   by_cases hk:(k == NameKind.free)=true
   ·obtain ⟨c,hc⟩:=hy (n,k) List.mem_cons_self (by simpa using hk)
    have e1:cellOf env n=pure c:=by unfold cellOf; rw [show env.cells.lookup n=some c from hc]
    have e2:iF env.cells ((n,k) :: r) cs=iF env.cells r ((n,c) :: cs):=by
     show iF env.cells r (if (k == NameKind.free)=true then _ else _)=_
     rw [if_pos hk,show env.cells.lookup n=some c from hc]; rfl
    rw [e2,<- ih' ((n,c) :: cs)]
    simp only [hk,if_true,e1,pure_bind]
   ·have e2:iF env.cells ((n,k) :: r) cs=iF env.cells r cs:=by
     show iF env.cells r (if (k == NameKind.free)=true then _ else _)=_
     rw [if_neg hk]
    rw [e2,<- ih' cs]
    simp only [hk,if_false,pure_bind]
    try rfl
 have:=go scope.names [] h
 unfold closureFor
 simpa using this
theorem nY {cells:List (Str×Addr)} {x:Str} {c:Addr}:∀ (names:List (Str×NameKind)) (cs:List (Str×Addr)),(iF cells names cs).lookup x=some c->cs.lookup x=some c\/(∃ y∈names,y.1=x/\y.2=NameKind.free/\c=(cells.lookup x).getD 0)
 | [],_,h=>.inl h
 | (n,k) :: r,cs,h=>by
  rcases nY r _ h with h1 | ⟨y,hy,e⟩
  ·by_cases hk:(k == NameKind.free)=true
   ·rw [if_pos hk] at h1
    by_cases hx:x=n
    ·subst hx
     simp only [List.lookup_cons,beq_self_eq_true] at h1
     exact .inr ⟨(x,k),List.mem_cons_self,rfl,by simpa using hk,(Option.some.inj h1).symm⟩
    ·have:(x == n)=false:=by simpa using hx
     simp only [List.lookup_cons,this] at h1
     exact .inl h1
   ·rw [if_neg hk] at h1
    exact .inl h1
  ·exact .inr ⟨y,List.mem_cons_of_mem _ hy,e⟩
theorem qC {cells:List (Str×Addr)} {x:Str}:∀ (names:List (Str×NameKind)) (cs:List (Str×Addr)),((∃ c,cs.lookup x=some c)\/∃ y∈names,y.1=x/\y.2=NameKind.free)->∃ c,(iF cells names cs).lookup x=some c
 | [],_,h=>by
  rcases h with h | ⟨y,hy,_⟩
  ·exact h
  ·cases hy
 | (n,k) :: r,cs,h=>by
  refine qC r _ ?_
  rcases h with ⟨c,h⟩ | ⟨y,hy,e1,e2⟩
  ·left
   by_cases hk:(k == NameKind.free)=true
   ·rw [if_pos hk]
    by_cases hx:x=n
    ·subst hx; simp [List.lookup_cons]
    ·have:(x == n)=false:=by simpa using hx
     exact ⟨c,by simp only [List.lookup_cons,this]; exact h⟩
   ·rw [if_neg hk]; exact ⟨c,h⟩
  ·rcases List.mem_cons.mp hy with rfl | hy
   ·left
    have hk:(k == NameKind.free)=true:=by simpa using e2
    rw [if_pos hk]
    have hx:n=x:=e1
    subst hx
    simp [List.lookup_cons]
   ·exact .inr ⟨y,hy,e1,e2⟩
def kB (os:Scope) (oN:List Str) (sc:Scope) (N:List Str) (js:List (Option Nat)):Bool:=
 (match sc.kind with | .function=>true | _=>false) && sc.names.all (fun y=>match y.2 with | .cell=>false | _=>true) &&
 sc.names.all (fun y=>match y.2 with
  | .local=>(match sc.names.lookup y.1 with | some .local=>true | _=>false)
  | .free=>(match sc.names.lookup y.1,os.names.lookup y.1 with | some .free,some .cell=>true | some .free,some .free=>true | _,_=>false)
  | _=>true) &&
 js.length == N.length && (js.zip N).all (fun p=>match p.1 with
  | none=>true
  | some j=>(match oN[j]? with | some x=>decide (x=p.2) | none=>false) && (match sc.names.lookup p.2 with | some .free=>true | _=>false))
structure Kl (os:Scope) (oN:List Str) (sc:Scope) (N:List Str) (js:List (Option Nat)):Prop where
 kind:sc.kind=.function
 nocell:∀ y∈sc.names,y.2≠.cell
 nm:∀ y∈sc.names,y.2=.local->sc.names.lookup y.1=some .local
 fr:∀ y∈sc.names,y.2=.free->os.names.lookup y.1=some .cell\/os.names.lookup y.1=some .free
 len:js.length=N.length
 cap:∀ (i j:Nat),js[i]?=some (some j)->∃ x,N[i]?=some x/\oN[j]?=some x/\sc.names.lookup x=some .free
theorem CY {os:Scope} {oN:List Str} {sc:Scope} {N:List Str} {js:List (Option Nat)} (h:kB os oN sc N js=true):Kl os oN sc N js:=by
 unfold kB at h
 simp only [Bool.and_eq_true] at h
 obtain ⟨⟨⟨⟨h1,h2⟩,h3⟩,h4⟩,h5⟩:=h
 refine ⟨?_,fun y hy e=>?_,fun y hy e=>?_,fun y hy e=>?_,by simpa using h4,fun i j e=>?_⟩
 ·cases hk:sc.kind <;> rw [hk] at h1 <;> first | rfl | exact absurd h1 Bool.false_ne_true
 ·have:=List.all_eq_true.mp h2 y hy
  rw [e] at this
  exact absurd this Bool.false_ne_true
 ·have:=List.all_eq_true.mp h3 y hy
  rw [e] at this
  dsimp only at this
  cases hl:sc.names.lookup y.1 with
  | none=>rw [hl] at this; exact absurd this Bool.false_ne_true
  | some k=>cases k <;> rw [hl] at this <;> first | rfl | exact absurd this Bool.false_ne_true
 ·have:=List.all_eq_true.mp h3 y hy
  rw [e] at this
  dsimp only at this
  cases hl:sc.names.lookup y.1 with
  | none=>rw [hl] at this; exact absurd this Bool.false_ne_true
  | some k=>
   rw [hl] at this
   cases ho:os.names.lookup y.1 with
   | none=>rw [ho] at this; cases k <;> exact absurd this Bool.false_ne_true
   | some k'=>rw [ho] at this; cases k <;> cases k' <;> first | exact .inl rfl | exact .inr rfl | exact absurd this Bool.false_ne_true
 ·have hlen:js.length=N.length:=by simpa using h4
  obtain ⟨hi,ej⟩:=List.getElem?_eq_some_iff.mp e
  have hN:i < N.length:=by omega
  have hz:(js.zip N)[i]?=some (some j,N[i]):=by
   rw [List.getElem?_zip_eq_some]
   exact ⟨e,by simp [hN]⟩
  have:=List.all_eq_true.mp h5 _ (List.mem_of_getElem? hz)
  simp only [Bool.and_eq_true] at this
  obtain ⟨t1,t2⟩:=this
  refine ⟨N[i],by simp [hN],?_,?_⟩
  ·cases ho:oN[j]? with
   | none=>rw [ho] at t1; exact absurd t1 Bool.false_ne_true
   | some x=>rw [ho] at t1; rw [of_decide_eq_true t1]
  ·cases hl:sc.names.lookup N[i] with
   | none=>rw [hl] at t2; exact absurd t2 Bool.false_ne_true
   | some k=>rw [hl] at t2; cases k <;> first | rfl | exact absurd t2 Bool.false_ne_true
theorem cA {κ:Type} {x:Str} {k:κ}:∀ {l:List (Str×κ)},l.lookup x=some k->(x,k)∈l
 | [],h=>by simp at h
 | (n,v) :: r,h=>by
  by_cases hx:x=n
  ·subst hx
   simp only [List.lookup_cons,beq_self_eq_true] at h
   cases h
   exact List.mem_cons_self
  ·have:(x == n)=false:=by simpa using hx
   simp only [List.lookup_cons,this] at h
   exact List.mem_cons_of_mem _ (cA h)
theorem iG {sc:Scope} {env:Env}:∀ {names:List (Str×NameKind)} {x:Str} {k:NameKind},(names.map fun (n,k)=>if (k == NameKind.free && env.scope.kind == .function && env.kindOf n == some .cell) then (n,NameKind.cell) else (n,k)).lookup x=some k->
  names.lookup x=some k\/(k=.cell/\names.lookup x=some .free)
 | [],_,_,h=>by simp at h
 | (n,q) :: r,x,k,h=>by
  have ih:=@iG sc env r x k
  by_cases hc:(q == NameKind.free && env.scope.kind == .function && env.kindOf n == some .cell)=true
  ·simp only [List.map_cons] at h
   rw [if_pos hc] at h
   have hq:q=.free:=by
    simp only [Bool.and_eq_true] at hc
    simpa using hc.1.1
   by_cases hx:x=n
   ·subst hx
    simp only [List.lookup_cons,beq_self_eq_true] at h ⊢
    exact .inr ⟨(Option.some.inj h).symm,by rw [hq]⟩
   ·have e:(x == n)=false:=by simpa using hx
    simp only [List.lookup_cons,e] at h ⊢
    exact ih h
  ·simp only [List.map_cons] at h
   rw [if_neg hc] at h
   by_cases hx:x=n
   ·subst hx
    simp only [List.lookup_cons,beq_self_eq_true] at h ⊢
    exact .inl h
   ·have e:(x == n)=false:=by simpa using hx
    simp only [List.lookup_cons,e] at h ⊢
    exact ih h
theorem kT {env:Env}:∀ {names:List (Str×NameKind)} {x:Str},names.lookup x=some .free->
  (names.map fun (n,k)=>if (k == NameKind.free && env.scope.kind == .function && env.kindOf n == some .cell) then (n,NameKind.cell) else (n,k)).lookup x=some .free\/
  (names.map fun (n,k)=>if (k == NameKind.free && env.scope.kind == .function && env.kindOf n == some .cell) then (n,NameKind.cell) else (n,k)).lookup x=some .cell
 | [],_,h=>by simp at h
 | (n,q) :: r,x,h=>by
  have ih:=@kT env r x
  by_cases hc:(q == NameKind.free && env.scope.kind == .function && env.kindOf n == some .cell)=true
  ·simp only [List.map_cons]
   rw [if_pos hc]
   by_cases hx:x=n
   ·subst hx
    simp only [List.lookup_cons,beq_self_eq_true]
    first | exact .inr rfl | exact .inr trivial
   ·have e:(x == n)=false:=by simpa using hx
    simp only [List.lookup_cons,e] at h ⊢
    exact ih h
  ·simp only [List.map_cons]
   rw [if_neg hc]
   by_cases hx:x=n
   ·subst hx
    simp only [List.lookup_cons,beq_self_eq_true] at h ⊢
    exact .inl h
   ·have e:(x == n)=false:=by simpa using hx
    simp only [List.lookup_cons,e] at h ⊢
    exact ih h
def Cx.comp (X:Cx) (sc:Scope) (N:List Str) (C:Addr) (fp:List Addr) (s₀:Shared) (H₀:Hp):Cx:=
 { X with N:=N,s₀:=s₀,H₀:=H₀,env:=compEnvC sc (iF X.env.cells sc.names []) C X.env,outer:=X.stack,ex:=fp,fn:=fun _=>false,pn:=[],xe:=fun _ _=>False }
def AO:St->Nat->Option V
 | [],_=>none
 | x :: _,0=>x
 | _ :: r,n+1=>AO r n
theorem qD:∀ {σ:St} {i:Nat} {v:V},AO σ i=some v->σ[i]?=some (some v)
 | [],_,_,h=>by cases h
 | x :: _,0,v,h=>by
  have h':x=some v:=h
  simp [h']
 | _ :: r,n+1,v,h=>by
  rw [List.getElem?_cons_succ]
  exact qD (σ:=r) (i:=n) h
def fW (js:List (Option Nat)) (σ:St):St:=js.map fun o=>match o with
 | none=>none
 | some j=>AO σ j
theorem Hz {js:List (Option Nat)} {σ:St} {i:Nat} {v:V} (h:(fW js σ)[i]?=some (some v)):∃ j,js[i]?=some (some j)/\σ[j]?=some (some v):=by
 unfold fW at h
 rw [List.getElem?_map] at h
 cases e:js[i]? with
 | none=>rw [e] at h; cases h
 | some o=>
  rw [e] at h
  cases o with
  | none=>cases h
  | some j=>exact ⟨j,rfl,qD (Option.some.inj h)⟩
def PTs (X:Cx) (ifs:List Expr) (t:TT):Prop:=
 ∀ (pins:List (Addr×Obj)) (s:Shared) (σ:St) (H:Hp) (Q:Bool->Hp->Prop),Inv X pins σ H s->t σ H Q->wpAny (model X.prog X.w) X.A (BY ifs X.env) (TP X pins σ Q) X.xe s
def Mj:TT:=fun _ H Q=>Q true H
theorem HA {X:Cx}:PTs X [] Mj:=fun _ _ _ H _ I h=>wpAny_tests_nil ⟨H,I,h⟩
theorem HB {X:Cx} {c:Expr} {t:TT} (h:PT X c t):PTs X [c] t:=fun pins s σ H Q I q=>wpAny_tests_one (h pins s σ H Q I q)
def Ju (js:List (Option Nat)) (g:TG) (tt:TT) (te:TE) (σ:St) (acc:Addr) (x:V) (H:Hp) (N:Hp->Prop):Prop:=g x (fW js σ) H fun σ2 H4=>tt σ2 H4 fun b H5=>
   if b=true then te σ2 H5 fun v H6=>∃ ys,H6 acc=some (.lst ys)/\ys.length < sizeLine/\N (upd H6 acc (.lst (ys++[v]))) else N H5
def BZ (js:List (Option Nat)) (wi:TI) (g:TG) (tt:TT) (te:TE):TE:=fun σ H Q=>wi σ H fun J H1=>∀ acc,H1 acc=none->
 ∃ W:Nat->Nat->Hp->Prop,(∃ m,W 0 m (upd H1 acc (.lst [])))/\∀ i m H2,W i m H2->
  (J.stop i H2/\Q (.ref acc) H2)\/(J.go i H2/\∃ N:Hp->Prop,(∀ H',N H'->∃ m',m' < m/\W (i+1) m' H')/\∀ x H3,J.yld i H2 x H3->Ju js g tt te σ acc x H3 N)
section
variable {X:Cx} {elt iter tg:Expr} {ifs:List Expr} {sc:Scope} {pos:Pos} {os:Scope} {oN N:List Str} {js:List (Option Nat)} {wi:TI} {g:TG} {tt:TT} {te:TE}
structure Off (X:Cx) (pins:List (Addr×Obj)) (H:Hp) (C:Addr) (s:Shared):Prop where
 ns:∃ m,s.heap.Ns C m
 none:H C=none
 loc:C≠X.env.locals
 new:X.s₀.heap.objs.size<=C
 cells:∀ x c,X.env.cells.lookup x=some c->c≠C
 pins:∀ p∈X.pn++pins,p.1≠C
theorem Off.go {pins:List (Addr×Obj)} {σ:St} {H:Hp} {C:Addr} {s:Shared} {h':Heap} (o:Off X pins H C s) (I:Inv X pins σ H s) (hs:Heap.SameBut C s.heap h'):Inv X pins σ H { s with heap:=h' }:=
 I.turned (t':=s.toks) (fun b ob hb e=>(hs.2 b hb).trans e) o.none o.loc (.inr o.new) o.cells o.pins
theorem tM {use:Option (Value->Sem Unit)} {Q0:Value->Shared->Prop} (hc:X.calm=true) (hes:X.env.scope=os) (heN:X.N=oN) (ok:kB os oN sc N js=true) (hi:PI X tg iter wi)
  (hg:∀ C fp s₀ H₀,PG (X.comp sc N C fp s₀ H₀) tg g) (ht:∀ C fp s₀ H₀,PTs (X.comp sc N C fp s₀ H₀) ifs tt) (he:∀ C fp s₀ H₀,PE (X.comp sc N C fp s₀ H₀) elt te)
  {pins:List (Addr×Obj)} {s:Shared} {σ:St} {H:Hp} {Q:VK} (I:Inv X pins σ H s) (h:BZ js wi g tt te σ H Q)
  (hfin:∀ acc C s6 H6,Inv X pins σ H6 s6->Off X pins H6 C s6->Q (.ref acc) H6->compPost (model X.prog X.w) X.A X.xe use Q0 (.ref acc) C (.ok .next) s6)
  (hs:∀ x,foldedSetIterable iter X.env x=pure x:=by intro _; rfl):
  wpAny (model X.prog X.w) X.A (comprehension (.ListComp elt [⟨tg,iter,ifs,0⟩] sc pos) sc X.env (firstIterPos [⟨tg,iter,ifs,0⟩] pos) (newList []) false (eval iter X.env) use) Q0 X.xe s:=by
 have S:=CY ok
 subst hes heN
 have hcl:∀ y∈sc.names,y.2=NameKind.free->∃ c,X.env.cells.lookup y.1=some c:=fun y hy e=>I.ok.has y.1 (S.fr y hy e)
 have clsub:∀ x c,(iF X.env.cells sc.names []).lookup x=some c->X.env.cells.lookup x=some c:=fun x c e=>by
  rcases nY _ _ e with z | ⟨y,hy,e1,e2,e3⟩
  ·cases z
  ·obtain ⟨d,hd⟩:=hcl y hy e2
   rw [e1] at hd
   rw [hd] at e3
   rw [hd,e3]; rfl
 refine wpAny_comprehension_free (use:=use) rfl hs (sL hcl) S.kind S.nm (thn (hi pins s σ H _ I h) fun v s1 h1=>thn h1 fun itv s2 h2=>?_)
 obtain ⟨it,fp,tn,J,H2,e,I2,T,st2,f2,q⟩:=h2
 subst e
 obtain ⟨W,⟨m0,w0⟩,turn⟩:=q s2.heap.objs.size I2.fresh
 refine wpAny_newObj_type (wpAny_newFunctionEnv S.nocell (by intro y hy; simp at hy) (fun h₁ hns₁ hsb₁=>?_) S.kind)
 have I3:Inv X pins σ (upd H2 s2.heap.objs.size (.lst [])) { s2 with heap:=s2.heap.push { cls:=.type "list",data:=.seq ([]:List Value).toArray },toks:=s2.toks }:=I2.lnew (its:=[]) (ys:=[]) .nil (Nat.zero_le _)
 generalize hH3:upd H2 s2.heap.objs.size (HO.lst [])=H3 at w0 I3
 generalize hs3:({ s2 with heap:=s2.heap.push { cls:=.type "list",data:=.seq ([]:List Value).toArray },toks:=s2.toks }:Shared)=s3 at I3
 have es3:({ s2 with heap:=s2.heap.push { cls:=.type "list",dict:=none,data:=.seq ([]:List Value).toArray } }:Shared)=s3:=hs3
 have eh3:s2.heap.push { cls:=.type "list",dict:=none,data:=.seq ([]:List Value).toArray }=s3.heap:=by rw [<- es3]
 dsimp only at hns₁ hsb₁ ⊢
 (try rw [eh3] at hns₁); (try rw [eh3] at hsb₁); (try rw [eh3])
 have hC:∀ b o,s3.heap.get? b=some o->b≠s3.heap.objs.size:=fun b o e=>Nat.ne_of_lt (Heap.lt_size e)
 have old:∀ b o,s3.heap.get? b=some o->h₁.get? b=some o:=fun b o e=>hsb₁.extBut b o (hC b o e) (Heap.get?_push_of_some _ e)
 have st3:tn 0 s3.heap:=T.keep 0 _ _ st2 fun b hb o e=>by
  rw [<- eh3]; exact Heap.get?_push_of_some _ e
 have fobj:∀ b∈fp,∃ o,s3.heap.get? b=some o/\∀ v,o.data≠.cell v:=T.obj 0 _ st3
 have f3:∀ b∈fp,yN X pins H3 b:=fun b hb=>by
  obtain ⟨o,ho,_⟩:=T.obj 0 _ st2 b hb
  refine ⟨?_,(f2 b hb).2⟩
  rw [<- hH3,bK (Nat.ne_of_lt (Heap.lt_size ho))]
  exact (f2 b hb).1
 -- the block's context
 have Xok:(X.comp sc N s3.heap.objs.size fp s3 H3).Ok:=by
  refine ⟨I.ok.mod,S.kind,I.ok.glob,I.ok.blt,Nat.le_refl _,fun x y c e1 e2=>I.ok.inj x y c (clsub x c e1) (clsub y c e2),fun x hx=>?_,fun _ _ z=>absurd z Bool.false_ne_true,I.ok.hd,I.ok.frames,.inl rfl,fun b hb=>?_,I3.bs,
   Nat.le_trans I.ok.bsz I3.sz,fun b o e hb=>?_,fun b hb hf=>?_,I3.stack,I3.stkFree⟩
  ·refine qC _ _ (.inr ?_)
   have fin:∀ {k},(relabel sc X.env).names.lookup x=some k->(k=.cell\/k=.free)->∃ y∈sc.names,y.1=x/\y.2=NameKind.free:=fun {k} e hk=>by
    rcases iG (sc:=sc) e with z | ⟨_,z⟩
    ·rcases hk with rfl | rfl
     ·exact absurd rfl (S.nocell _ (cA z))
     ·exact ⟨_,cA z,rfl,rfl⟩
    ·exact ⟨_,cA z,rfl,rfl⟩
   rcases hx with hx | hx
   ·exact fin hx (.inl rfl)
   ·exact fin hx (.inr rfl)
  ·obtain ⟨o,ho,_⟩:=fobj b hb
   exact ⟨hC b o ho,fun x c e=>(f3 b hb).2.2.2.2.1 x c (clsub x c e)⟩
  ·rcases (f3 b hb).2.2.2.1 with z | z
   ·exact I.ok.noex b o e z
   ·exact absurd (Nat.lt_of_lt_of_le (Heap.lt_size e) (Nat.le_trans I.ok.bsz z)) (Nat.lt_irrefl _)
  ·rcases List.mem_cons.mp (I3.stkSub b hf) with z | z
   ·exact (f3 b hb).2.1 z
   ·exact (f3 b hb).2.2.1 z
 -- what the block takes from around it
 have capt:∀ (i:Nat) (x:Str) (v:V),N[i]?=some x->(fW js σ)[i]?=some (some v)->∃ u c o,RelV v u/\((compEnvC sc (iF X.env.cells sc.names []) s3.heap.objs.size X.env).kindOf x=some .cell\/(compEnvC sc (iF X.env.cells sc.names []) s3.heap.objs.size X.env).kindOf x=some .free)/\
   (iF X.env.cells sc.names []).lookup x=some c/\s3.heap.get? c=some o/\o.data=.cell (some u)/\H3 c=none/\c∉fp:=by
  intro i x v hN hv
  obtain ⟨j,hj,hσ⟩:=Hz hv
  obtain ⟨x',hx',ho,hf⟩:=S.cap i j hj
  rw [hN] at hx'; cases hx'
  obtain ⟨m,hn,hl⟩:=I3.loc
  have hvis:Vis X.env.scope x:=by
   rcases S.fr _ (cA hf) rfl with z | z
   ·exact .inr (.inl z)
   ·exact .inr (.inr z)
  obtain ⟨u,r,l⟩:=hl j x v ho hσ hvis
  obtain ⟨c,hcl'⟩:=qC (cells:=X.env.cells) (x:=x) sc.names [] (.inr ⟨_,cA hf,rfl,rfl⟩)
  have hcx:=clsub x c hcl'
  have hcell:s3.heap.IsCell c (some u):=by
   rcases l with ⟨k,_⟩ | ⟨_,c',e,z⟩
   ·exfalso
    rcases S.fr _ (cA hf) rfl with z | z
    ·have k':X.env.scope.names.lookup x=some .local:=k
     rw [z] at k'; cases k'
    ·have k':X.env.scope.names.lookup x=some .local:=k
     rw [z] at k'; cases k'
   ·rw [hcx] at e; cases e; exact z
  obtain ⟨o,ho',hd⟩:=hcell
  refine ⟨u,c,o,r,?_,hcl',ho',hd,I3.freeC x c hcx,fun hb=>(f3 c hb).2.2.2.2.1 x c hcx rfl⟩
  exact (kT (env:=X.env) hf).symm
 -- at any state of the block,its names as at its start
 have recap:∀ {pins':List (Addr×Obj)} {σ8:St} {H8:Hp} {s8:Shared},Inv (X.comp sc N s3.heap.objs.size fp s3 H3) pins' σ8 H8 s8->Inv (X.comp sc N s3.heap.objs.size fp s3 H3) [] (fW js σ) H8 s8:=fun {pins' σ8 H8 s8} I8=>by
  refine ⟨I8.ok,I8.os,I8.bare,I8.base,?_,I8.cell,I8.free,I8.freeC,fun p hp=>by simp [Cx.comp] at hp,I8.hok,?_⟩
  ·obtain ⟨m,hn,_⟩:=I8.loc
   refine ⟨m,hn,fun i x v hN hv _=>?_⟩
   obtain ⟨u,c,o,r,k,hl,ho,hd,hn3,hnf⟩:=capt i x v hN hv
   refine ⟨u,r,.inr ⟨k,c,hl,?_⟩⟩
   obtain ⟨sl,e⟩:=I8.base.any ho hn3 hnf
   exact ⟨_,e,hd⟩
  ·show (fW js σ).length=N.length
   unfold fW
   rw [List.length_map,S.len]
 have I4:Inv (X.comp sc N s3.heap.objs.size fp s3 H3) [] (fW js σ) H3 { s3 with heap:=h₁,toks:=s3.toks+([]:List (Str×Value)).length }:=by
  refine ⟨Xok,rfl,I3.bare,Un.kept old,⟨_,hns₁,fun i x v hN hv _=>?_⟩,fun x c e=>?_,I3.fresh,fun x c e=>I3.freeC x c (clsub x c e),fun p hp=>by simp [Cx.comp] at hp,I3.hok.kept old,?_⟩
  ·obtain ⟨u,c,o,r,k,hl,ho,hd,_,_⟩:=capt i x v hN hv
   exact ⟨u,r,.inr ⟨k,c,hl,o,old c o ho,hd⟩⟩
  ·obtain ⟨v,o,ho,hd⟩:=I3.cell x c (clsub x c e)
   exact ⟨v,o,old c o ho,hd⟩
  ·show (fW js σ).length=N.length
   unfold fW
   rw [List.length_map,S.len]
 have st4:tn 0 h₁:=T.keep 0 _ _ st3 fun b hb o e=>old b o e
 have fpok:∀ {H':Hp},(∀ b∈fp,H' b=none)->∀ b∈fp,yN (X.comp sc N s3.heap.objs.size fp s3 H3) [] H' b:=fun {H'} hn b hb=>
  ⟨hn b hb,(Xok.exf b hb).1,Xok.exfs b hb,.inl hb,(Xok.exf b hb).2,fun p hp=>by simp [Cx.comp] at hp⟩
 have fin:∀ (s6:Shared) (H6:Hp),Inv (X.comp sc N s3.heap.objs.size fp s3 H3) [] (fW js σ) H6 s6->Q (.ref s2.heap.objs.size) H6->compPost (model X.prog X.w) X.A X.xe use Q0 (.ref s2.heap.objs.size) s3.heap.objs.size (.ok .next) s6:=fun s6 H6 I6 q6=>by
  have I7:Inv X pins σ H6 s6:=I3.call' (ch:=fp) I6.os I6.base I6.hok I6.bare fun b hb=>⟨(f3 b hb).2.2.2.1,(f3 b hb).2.1,(f3 b hb).2.2.2.2.1,(f3 b hb).2.2.2.2.2⟩
  refine hfin _ _ _ _ I7 ⟨let ⟨m,hn,_⟩:=I6.loc; ⟨m,hn⟩,I6.free,Nat.ne_of_gt I3.lt,I3.sz,fun x c e=>?_,fun p hp=>?_⟩ q6
  ·obtain ⟨v,z⟩:=I3.cell x c e
   exact Nat.ne_of_lt z.lt
  ·exact Nat.ne_of_lt (Heap.lt_size (I3.pin p hp).1)
 have loop:codeAny (model X.prog X.w) X.A (.compLoop (.ListComp elt [⟨tg,iter,ifs,0⟩] sc pos) 0 (.ref it) (.ref s2.heap.objs.size) (compEnvC sc (iF X.env.cells sc.names []) s3.heap.objs.size X.env))
   (compPost (model X.prog X.w) X.A X.xe use Q0 (.ref s2.heap.objs.size) s3.heap.objs.size) { s3 with heap:=h₁,toks:=s3.toks+([]:List (Str×Value)).length }:=by
  refine vX (fun n s'=>∃ i H',Inv (X.comp sc N s3.heap.objs.size fp s3 H3) [] (fW js σ) H' s'/\tn i s'.heap/\(∀ b∈fp,H' b=none)/\W i n H') ?_ m0 ⟨0,H3,I4,st4,fun b hb=>(f3 b hb).1,w0⟩
  rintro n s5 ⟨i,H5,I5,st5,fr5,w5⟩
  rcases turn i n H5 w5 with ⟨stop,qn⟩ | ⟨go,Nn,hN,step⟩
  ·refine thn (T.done (X.comp sc N s3.heap.objs.size fp s3 H3) rfl rfl rfl hc i [] s5 (fW js σ) H5 (fun _ _=>False) I5 (fpok fr5) st5 stop) fun r s6 ⟨hr,I6⟩=>?_
   subst hr
   exact fin s6 H5 I6 qn
  ·refine thn (T.item (X.comp sc N s3.heap.objs.size fp s3 H3) rfl rfl rfl hc i [] s5 (fW js σ) H5 (fun _ _=>False) I5 (fpok fr5) st5 go) fun r s6 ⟨u,hr,h6⟩=>?_
   subst hr
   refine thn h6 fun _ s7 hz=>?_
   obtain ⟨x,H7,I7,r7,y7,st7,fr7⟩:=hz
   have I7':=I7.pinned (fpok fr7) (T.obj _ _ st7)
   refine thn (hg _ _ _ _ _ s7 _ H7 x u _ I7' r7 (step x H7 y7)) fun _ s8 ⟨σ8,H8,I8,q8⟩=>?_
   refine thn (ht _ _ _ _ _ s8 σ8 H8 _ I8 q8) fun b s9 ⟨H9,I9,q9⟩=>?_
   have again:∀ {σ':St} {H':Hp} {s':Shared},Inv (X.comp sc N s3.heap.objs.size fp s3 H3) ([]++pW fp s7.heap) σ' H' s'->Nn H'->∃ m,m < n/\∃ i H',Inv (X.comp sc N s3.heap.objs.size fp s3 H3) [] (fW js σ) H' s'/\tn i s'.heap/\(∀ b∈fp,H' b=none)/\W i m H':=fun {σ' H' s'} I' n'=>by
    obtain ⟨m',hm,w'⟩:=hN H' n'
    refine ⟨m',hm,i+1,H',recap I',T.keep _ _ _ st7 fun b hb o e=>(I'.pin (b,o) (List.mem_append_right _ (List.mem_append_right _ (fV hb e)))).1,fun b hb=>?_,w'⟩
    obtain ⟨o,e,d⟩:=T.obj _ _ st7 b hb
    exact (I'.pin (b,o) (List.mem_append_right _ (List.mem_append_right _ (fV hb e)))).2.1
   cases b with
   | false=>exact again I9 q9
   | true=>
    refine thn (he _ _ _ _ _ s9 σ8 H9 _ I9 q9) fun u' s10 ⟨v,H10,I10,rv,ys,hacc,hz,n10⟩=>?_
    refine thn (tI (X:=X.comp sc N s3.heap.objs.size fp s3 H3) _ s10 σ8 H10 (.ref s2.heap.objs.size) [v] (.ref s2.heap.objs.size) [u'] (fun _ H'=>Nn H') I10 rfl (.cons rv .nil) ⟨_,ys,v,rfl,rfl,hacc,hz,n10⟩) fun _ s11 ⟨_,H11,I11,_,n11⟩=>?_
    exact again I11 n11
 exact codeAny_compStart_list loop (T.self X.A 0 _ _ _ st4 loop)
theorem HC (hc:X.calm=true) (hes:X.env.scope=os) (heN:X.N=oN) (ok:kB os oN sc N js=true) (hi:PI X tg iter wi)
  (hg:∀ C fp s₀ H₀,PG (X.comp sc N C fp s₀ H₀) tg g) (ht:∀ C fp s₀ H₀,PTs (X.comp sc N C fp s₀ H₀) ifs tt) (he:∀ C fp s₀ H₀,PE (X.comp sc N C fp s₀ H₀) elt te)
  (hs:∀ x,foldedSetIterable iter X.env x=pure x:=by intro _; rfl):PE X (.ListComp elt [⟨tg,iter,ifs,0⟩] sc pos) (BZ js wi g tt te):=by
 intro pins s σ H Q I h
 rw [eval_ListComp]
 refine tM (use:=none) hc hes heN ok hi hg ht he I h (fun acc C s6 H6 I6 o q=>?_) hs
 exact ⟨o.ns.choose,o.ns.choose_spec,fun h' hs'=>⟨.ref acc,H6,o.go I6 hs',rfl,q⟩⟩
theorem AQ {i:Nat} {x:Str} {pos' spos:Pos} (hN:X.N.Nodup) (hx':X.N[i]?=some x) (hloc:X.env.scope.names.lookup x=some .local) (hc:X.calm=true) (hes:X.env.scope=os) (heN:X.N=oN) (ok:kB os oN sc N js=true) (hi:PI X tg iter wi)
  (hg:∀ C fp s₀ H₀,PG (X.comp sc N C fp s₀ H₀) tg g) (ht:∀ C fp s₀ H₀,PTs (X.comp sc N C fp s₀ H₀) ifs tt) (he:∀ C fp s₀ H₀,PE (X.comp sc N C fp s₀ H₀) elt te)
  (hsw:swapsWith (.ListComp elt [⟨tg,iter,ifs,0⟩] sc pos) (some (.Name x pos')) spos.line X.env=pure true:=by rfl)
  (hs:∀ x,foldedSetIterable iter X.env x=pure x:=by intro _; rfl):PS X (.Assign [.Name x pos'] (.ListComp elt [⟨tg,iter,ifs,0⟩] sc pos) spos) (JW (BZ js wi g tt te) (Em i)):=by
 intro pins s σ H D I h
 rw [exec_Assign_Name_used _ _ _ _ hsw]
 refine wpAny_bind (wpAny_standAt (wpAny_bind ?_))
 show wpAny _ X.A (do let _ <- comprehension (.ListComp elt [⟨tg,iter,ifs,0⟩] sc pos) sc X.env _ (newList []) false (eval iter X.env) (some (assign (.Name x pos') X.env))) _ _ s
 refine wpAny_bind (thn (tM (use:=some (assign (.Name x pos') X.env)) (Q0:=fun _ s'=>SP X pins D .next s') hc hes heN ok hi hg ht he I h (fun acc C s6 H6 I6 o q=>?_) hs) fun _ s' hq=>wpAny_pure (wpAny_pure hq))
 show wpAny _ X.A (assign (.Name x pos') X.env (.ref acc)) _ _ _
 refine wpAny_assign_Name (sZ I6 hN hx' (.inl hloc) (v:=.ref acc) rfl (fun s7 I7 ⟨a,hs7,ha⟩=>?_) (.inr hloc))
 have hCa:C≠a:=by
  rcases ha with rfl | ha
  ·exact o.loc
  ·exact fun e=>o.cells x a ha e.symm
 obtain ⟨m,hn⟩:=o.ns
 have o7:Off X pins H6 C s7:=⟨⟨m,hn.sameBut hs7 hCa⟩,o.none,o.loc,o.new,o.cells,o.pins⟩
 exact ⟨m,hn.sameBut hs7 hCa,fun h' hs'=>⟨_,H6,o7.go I7 hs',q⟩⟩
end
section
variable {K:PySem.W.Frag} {js:List (Option Nat)} {g:TG} {tt:TT} {te:TE} {σ:St} {H:Hp} {R:Hp->Prop} {acc a:Addr}
end
end L2
set_option Elab.async false
set_option linter.all false
set_option maxRecDepth 100000
namespace L2
open PySem PySem.Spec PyProof.Rows
section
variable {X:Cx}
def Ml:V->Option Int->Option Int->Hp->VK->Prop:=fun x lo hi H Q=>∃ z,x=.str z/\z.length<=sizeLine/\Q (.str (Txt.slice z lo hi)) H
theorem part_of {v:Value} {o:Option Int} (h:IsPart v o):∃ p:Option (Int×Tok),v=partValue p/\p.map (·.1)=o:=by
 cases h with
 | none=>exact ⟨none,rfl,rfl⟩
 | int i t=>exact ⟨some (i,t),rfl,rfl⟩
theorem Km:SlR X Ml:=by
 intro pins s σ H x v vl vu lo hi sl Q I rx hs pl pu h
 obtain ⟨z,rfl,hz,q⟩:=h
 obtain ⟨t,rfl⟩:=rx
 obtain ⟨l,rfl,rfl⟩:=part_of pl
 obtain ⟨u,rfl,rfl⟩:=part_of pu
 obtain ⟨o,ho,hc,hd⟩:=hs
 refine ⟨"str",_,PySem.F.slot_str_getitem.lookup,typeIs_str s z t,?_⟩
 refine wpAny_getItem_str_slice (l:=l) (u:=u) (st:=none) ⟨o,ho,hc,hd⟩ rfl ?_
 have e:sliceMade z t l u none=if ((1:Int) == 1 && (Builtin.Str.strSliceIndices (l.map (·.1)) (u.map (·.1)) 1 z.length).length == z.length)=true then Made.val (.str z t) else Made.str ⟨((Builtin.Str.strSliceIndices (l.map (·.1)) (u.map (·.1)) 1 z.length).filterMap (z.cps[·]?)).toArray⟩:=rfl
 have hle:=Txt.slice_le z (l.map (·.1)) (u.map (·.1))
 unfold Txt.slice at q hle
 rw [e]
 by_cases hc':((1:Int) == 1 && (Builtin.Str.strSliceIndices (l.map (·.1)) (u.map (·.1)) 1 z.length).length == z.length)=true
 ·rw [if_pos hc'] at q ⊢
  exact ⟨.str z,H,I,⟨t,rfl⟩,q⟩
 ·rw [if_neg hc'] at q hle ⊢
  exact ⟨Nat.le_trans hle hz,.str _,H,I.tok _,⟨_,rfl⟩,q⟩
theorem qE:∀ {ss:List Str} {us:List Value},aK (ss.map V.str) us->StrsAre us ss
 | [],_,r=>by cases r; exact .nil
 | x :: ss,_,r=>by
  cases r with
  | cons h t=>
   obtain ⟨tk,rfl⟩:=h
   exact .cons x tk (qE t)
theorem tN:∀ {us:List Value} {ss:List Str},StrsAre us ss->aK (ss.map V.str) us
 | _,_,.nil=>.nil
 | _,_,.cons x t h=>.cons ⟨t,rfl⟩ (tN h)
theorem mY:bE X (.builtin "sorted") (fun xs H Q=>∃ p ss,xs=[.ref p]/\SqL X.K H p (ss.map V.str)/\ss.length < 64/\
  ∀ l ss',H l=none->ss'.Perm ss->sortedS ss'=true->Q (.ref l) (upd H l (.lst (ss'.map V.str)))):=by
 intro pins s σ H xs us Q I r h
 obtain ⟨p,ss,rfl,hq,h64,q⟩:=h
 obtain ⟨u,rfl,ru⟩:=vals1 r
 cases ru
 obtain ⟨its,rv,pl,hz⟩:=I.list hq
 have hlen:=rv.length
 rw [List.length_map] at hlen
 refine sorted_strs pl.isList (qE rv) (by omega) fun out ss' a1 a2 a3=>?_
 obtain ⟨e,he⟩:=sortedAll_at s.heap its out
 refine ⟨.ref (s.heap.objs.size+1),_,I.laid (t':=s.toks) (o:=.lst (ss'.map V.str)) (fun b ob h=>sortedAll_old h) (Nat.le_succ _) ?_,rfl,q _ ss' (I.hok.fresh (Nat.le_succ _)) a2 a3⟩
 refine ⟨?_,out.toList,e,tN a1,by rw [he]⟩
 rw [List.length_map,a2.length_eq]
 exact Nat.le_of_lt (Nat.lt_trans h64 (by decide))
theorem gT {es:List Expr} {k:Nat} {t:TGs} {n:Nat} {pos:Pos} (K:PySem.W.Frag) (hK:X.K=K) (hc:X.calm=true) (h:PGs X es t)
  (hn:(assignEach es X.env).length=n:=by rfl) (hst:(assignEach es X.env).findIdx? (·.1)=none:=by rfl):PG X (.Tuple es k pos) (LV K n t):=by subst hK; exact JV hc h hn hst
end
end L2
set_option Elab.async false
set_option linter.all false
set_option maxRecDepth 100000
namespace L2
open PySem PySem.Spec PyProof.Rows
section
variable {X:Cx} {e a b:Expr} {t t' ta tb:TE} {pos:Pos}
theorem PE.imp (h:PE X e t) (i:∀ σ H Q,t' σ H Q->t σ H Q):PE X e t':=fun pins s σ H Q I q=>h pins s σ H Q I (i σ H Q q)
theorem PT.imp {t t':TT} (h:PT X e t) (i:∀ σ H Q,t' σ H Q->t σ H Q):PT X e t':=fun pins s σ H Q I q=>h pins s σ H Q I (i σ H Q q)
theorem OpR.imp {f:Value->Value->Sem Value} {r r':R2} (h:OpR X f r) (i:∀ x y H Q,r' x y H Q->r x y H Q):OpR X f r':=fun pins s σ H x y v u Q I rx ry q=>h pins s σ H x y v u Q I rx ry (i x y H Q q)
theorem bE.imp {f:Value} {r r':List V->Hp->VK->Prop} (h:bE X f r) (i:∀ xs H Q,r' xs H Q->r xs H Q):bE X f r':=fun pins s σ H xs us Q I rx q=>h pins s σ H xs us Q I rx (i xs H Q q)
def cV (i:Nat):TE:=fun σ H Q=>match AO σ i with
 | some v=>Q v H
 | none=>False
theorem cv (i:Nat) {x:Str} (hN:X.N[i]?=some x:=by rfl) (hv:Vis X.env.scope x:=by first | exact Or.inl rfl | exact Or.inr (Or.inl rfl) | exact Or.inr (Or.inr rfl)) (hd:(x == ("__debug__" : Str))=false:=by decide)
  (hcd:(x == ("__classdict__" : Str))=false:=by decide):PE X (.Name x pos) (cV i):=by
 refine (AB hN hv hd hcd).imp fun σ H Q h=>?_
 unfold cV at h
 cases e:AO σ i with
 | none=>rw [e] at h; exact h.elim
 | some v=>rw [e] at h; exact ⟨v,qD e,h⟩
def Mm (K:PySem.W.Frag):R2:=fun x y H Q=>match x,y with
 | .int i,.int j=>Q (.int (i+j)) H
 | .str i,.str j=>i.length+j.length<=sizeLine/\Q (.str (i++j)) H
 | .ref _,.ref _=>Mb x y H Q\/Js K x y H Q
 | _,_=>False
theorem HE (K:PySem.W.Frag) (hK:X.K=K):OpR X (binaryOp .Add) (Mm K):=by
 subst hK
 refine (K2.or (AF.or (Kh.or Hw))).imp fun x y H Q h=>?_
 cases x <;> cases y <;> first
  | exact .inl ⟨_,_,rfl,rfl,h⟩
  | exact .inr (.inl ⟨_,_,rfl,rfl,h.1,h.2⟩)
  | exact .inr (.inr h)
  | exact h.elim
def tO (C:Int->Int->Prop) (f:Int->Int->Int):R2:=fun x y H Q=>match x,y with
 | .int i,.int j=>C i j/\Q (.int (f i j)) H
 | _,_=>False
def EG (f:Int->Int->Int):R2:=fun x y H Q=>match x,y with
 | .int i,.int j=>Q (.int (f i j)) H
 | _,_=>False
theorem pA {f:Value->Value->Sem Value} {C:Int->Int->Prop} {g:Int->Int->Int} (h:OpR X f (rI C fun i j=>.int (g i j))):OpR X f (tO C g):=
 h.imp fun x y H Q q=>by cases x <;> cases y <;> first | exact ⟨_,_,rfl,rfl,q.1,q.2⟩ | exact q.elim
theorem EH {f:Value->Value->Sem Value} {g:Int->Int->Int} (h:OpR X f (rI0 fun i j=>.int (g i j))):OpR X f (EG g):=
 h.imp fun x y H Q q=>by cases x <;> cases y <;> first | exact ⟨_,_,rfl,rfl,q⟩ | exact q.elim
theorem HF:OpR X (binaryOp .Sub) (EG fun i j=>i - j):=EH K3
theorem HG:OpR X (binaryOp .Mult) (tO yO fun i j=>i*j):=pA K4
theorem HH:OpR X (binaryOp .FloorDiv) (tO Er fun i j=>i / j):=pA Ho
theorem HJ:OpR X (binaryOp .Mod) (tO (fun _ j=>0 < j) fun i j=>i % j):=pA K5
theorem HK:OpR X (binaryOp .Pow) (tO CH fun i j=>i ^ j.toNat):=pA K6
def yU (f:Int->Int->Bool) (g:List Nat->List Nat->Bool):R2:=fun x y H Q=>match x,y with
 | .int i,.int j=>Q (.bl (f i j)) H
 | .str i,.str j=>Q (.bl (g i.cps.toList j.cps.toList)) H
 | _,_=>False
theorem vY {f:Value->Value->Sem Value} {p:Int->Int->Bool} {g:List Nat->List Nat->Bool} (h1:OpR X f (rI0 fun i j=>.bl (p i j)))
  (h2:OpR X f (fun x y H Q=>∃ i j,x=.str i/\y=.str j/\Q (.bl (g i.cps.toList j.cps.toList)) H)):OpR X f (yU p g):=
 (h1.or h2).imp fun x y H Q q=>by cases x <;> cases y <;> first | exact .inl ⟨_,_,rfl,rfl,q⟩ | exact .inr ⟨_,_,rfl,rfl,q⟩ | exact q.elim
theorem Kn:OpR X (compareOp .Lt) (yU (fun i j=>decide (i < j)) fun i j=>decide (i < j)):=vY LZ CI
theorem Ko:OpR X (compareOp .Gt) (yU (fun i j=>decide (j < i)) fun i j=>decide (j < i)):=vY M3 fun pins s σ H x y v u Q I rx ry h=>by
 obtain ⟨i,j,rfl,rfl,q⟩:=h
 obtain ⟨t,rfl⟩:=rx
 obtain ⟨t',rfl⟩:=ry
 exact PySem.P.gt_str (vQ I q rfl)
theorem Kr:OpR X (compareOp .LtE) (yU (fun i j=>decide (i<=j)) fun i j=>!decide (j < i)):=vY M0 fun pins s σ H x y v u Q I rx ry h=>by
 obtain ⟨i,j,rfl,rfl,q⟩:=h
 obtain ⟨t,rfl⟩:=rx
 obtain ⟨t',rfl⟩:=ry
 exact PySem.P.le_str (vQ I q rfl)
end
structure P4 (t:TE):Prop where
 go:∀ σ H (Q Q':VK),(∀ v H1,Q v H1->Q' v H1)->t σ H Q->t σ H Q'
section
variable {X:Cx} {e a b:Expr} {t t' ta tb:TE} {pos:Pos}
theorem Mn {x:V} {Q:Bool->Prop} (h:match x with | .bl c=>Q c | _=>False):∃ c,x=.bl c/\Q c:=by
 cases x <;> first | exact ⟨_,rfl,h⟩ | exact h.elim
def Om (ta tb:TE):TE:=fun σ H Q=>ta σ H fun x H1=>match x with
 | .bl c=>if c=true then tb σ H1 Q else Q (.bl false) H1
 | _=>False
theorem HL {rest:List Expr} (ha:PE X a ta) (hb:PE X (.BoolOp .And (b :: rest) pos) tb):PE X (.BoolOp .And (a :: b :: rest) pos) (Om ta tb):=by
 intro pins s σ H Q I h
 refine BoolOp_and (thn (ha pins s σ H _ I h) fun v s1 hz=>?_)
 obtain ⟨x,H1,I1,r1,q1⟩:=hz
 obtain ⟨c,rfl,q1⟩:=Mn q1
 cases r1
 refine wpAny_truthy_bool ?_
 cases c with
 | true=>exact hb pins s1 σ H1 Q I1 q1
 | false=>exact ⟨.bl false,H1,I1,rfl,q1⟩
theorem HM (hu:X.A.units+1 < cLine):IxR X (fun x y H Q=>∃ p v,x=.ref p/\sJ H p y (some v)/\Q v H):=by
 intro value slice pins s σ H x y v u Q I rx ry h hs
 obtain ⟨p,w,rfl,g,q⟩:=h
 cases rx
 have hT:=yT I g
 unfold subscriptTail
 refine wpAny_bind ?_
 rw [getitemInPython_of_ne hT.not_modules]
 refine wpAny_bind (wpAny_specialOf hT PySem.F.slot_dict_getitem.lookup ?_)
 have fin:wpAny (model X.prog X.w) X.A (subscripted slice false (.ref p) u) (fun r s₃=>wpAny (model X.prog X.w) X.A (letTemporaryGo value (.ref p) r >>= fun _=>pure r) (EP X pins σ Q) X.xe s₃) X.xe s:=by
  rw [hs]
  exact wpAny_operating (CU hu I g ry fun w' s3 I3 rw'=>wpAny_bind (wpAny_letTemporaryGo (wpAny_pure ⟨w,H,I3,rw',q⟩)))
 first
  | exact wpAny_pure (wpAny_bind fin)
  | exact wpAny_bind (wpAny_pure (wpAny_bind fin))
  | exact wpAny_bind fin
def Mp (K:PySem.W.Frag):R2:=fun x y H Q=>match x with
 | .str z=>(match y with
  | .int i=>z.length<=sizeLine/\∃ c,atI z.cps.toList i=some c/\Q (.str ⟨#[c]⟩) H
  | _=>False)
 | .ref p=>(∃ xs i v,y=.int i/\(SqL K H p xs\/SqT K H p xs)/\atI xs i=some v/\Q v H)\/∃ v,sJ H p y (some v)/\Q v H
 | _=>False
theorem IxR.imp {r r':R2} (h:IxR X r) (i:∀ x y H Q,r' x y H Q->r x y H Q):IxR X r':=fun a b pins s σ H x y v u Q I rx ry q hs=>h a b pins s σ H x y v u Q I rx ry (i x y H Q q) hs
theorem ixC (hu:X.A.units+1 < cLine) (K:PySem.W.Frag) (hK:X.K=K):IxR X (Mp K):=by
 subst hK
 refine (Hx.or (Ke.or (Kf.or (HM hu)))).imp fun x y H Q h=>?_
 cases x with
 | str z=>
  cases y with
  | int i=>obtain ⟨h1,c,h2,h3⟩:=h; exact .inr (.inr (.inl ⟨z,i,c,rfl,rfl,h1,h2,h3⟩))
  | _=>exact h.elim
 | ref p=>
  rcases h with ⟨xs,i,v,rfl,hs | hs,ha,hq⟩ | ⟨v,g,hq⟩
  ·exact .inl ⟨p,xs,i,v,rfl,rfl,hs,ha,hq⟩
  ·exact .inr (.inl ⟨p,xs,i,v,rfl,rfl,hs,ha,hq⟩)
  ·exact .inr (.inr (.inr ⟨p,v,rfl,g,hq⟩))
 | _=>exact h.elim
def Mq (K:PySem.W.Frag):List V->Hp->VK->Prop:=fun xs H Q=>match xs with
 | [.str y]=>y.length<=sizeLine/\Q (.int y.length) H
 | [.ref p]=>(∃ xs,(SqL K H p xs\/SqT K H p xs)/\Q (.int xs.length) H)\/∃ kvs,H p=some (.dK kvs)/\Q (.int kvs.length) H
 | _=>False
theorem CZ (K:PySem.W.Frag) (hK:X.K=K):bE X (.builtin "len") (Mq K):=by
 subst hK
 intro pins s σ H xs us Q I r h
 match xs,h with
 | [.str y],h=>exact Ew pins s σ H _ us Q I r ⟨_,_,rfl,⟨h.1,rfl⟩,h.2⟩
 | [.ref p],h=>
  rcases h with ⟨ys,hs,q⟩ | ⟨kvs,hs,q⟩
  ·exact vU pins s σ H _ us Q I r ⟨p,ys,rfl,hs,q⟩
  ·exact CW pins s σ H _ us Q I r ⟨p,kvs,rfl,hs,q⟩
def Mr:List V->Hp->VK->Prop:=fun xs H Q=>match xs with
 | [.int i,.int j]=>Q (.int (if j > i then j else i)) H
 | _=>False
theorem D0 (hc:X.calm=true):bE X (.builtin "max") Mr:=(CJ hc).imp fun xs H Q h=>by
 match xs,h with
 | [.int i,.int j],h=>exact ⟨i,j,rfl,h⟩
theorem AR (K:PySem.W.Frag) (hK:X.K=K):bE X (.type "list") (fun xs H Q=>∃ p ys,xs=[.ref p]/\(SqL K H p ys\/SqT K H p ys)/\∀ l,H l=none->Q (.ref l) (upd H l (.lst ys))):=by subst hK; exact vV
theorem yV (K:PySem.W.Frag) (hK:X.K=K):bE X (.type "tuple") (fun xs H Q=>∃ p ys,xs=[.ref p]/\((SqL K H p ys/\∀ l,H l=none->Q (.ref l) (upd H l (.tup ys)))\/(SqT K H p ys/\Q (.ref p) H))):=by subst hK; exact sI
def Mt (ta:TA):TI:=fun σ H R=>ta σ H fun vs H1=>match vs with
 | [.int j]=>(-(2 ^ 62)<=j/\j < 2 ^ 62)/\R (Itr 0 j.toNat) H1
 | _=>False
theorem HN {vs:List V} {Q:Int->Prop} (h:match vs with | [.int i]=>Q i | _=>False):∃ i,vs=[.int i]/\Q i:=by
 split at h
 · exact ⟨_,rfl,h⟩
 · exact h.elim
theorem pr1 {x:Expr} {ta:TA} {tg:Expr} {p pos:Pos} (hg:Gl X "range") (hm:X.mg "range" = none) (ha:PA X [x] ta) (hs:starEach [x] X.env=[(false,eval x X.env)]:=by rfl):PI X tg (.Call (.Name "range" p) [x] [] pos) (Mt ta):=by
 intro pins s σ H R I h
 refine Call_ (pV I hg hm boot_range (PyProof.Rows.callWith_type1 (thn (ha pos pins s σ H _ I h) fun us s1 hz=>?_) hs rfl))
 obtain ⟨vs,H1,I1,r1,q1⟩:=hz
 obtain ⟨j,rfl,⟨h1,h2⟩,q⟩:=HN q1
 obtain ⟨u,rfl,t,rfl⟩:=vals1 r1
 exact call_range_1 (Ep I1 (by omega) (by omega) h1 h2 (by simpa using q))
def Mu (t:TE):TO:=fun σ H Q=>t σ H fun x H1=>match x with
 | .int i=>Q (some i) H1
 | _=>False
theorem EI {x:Expr} {te:TE} (h:PE X x te):PO X (some x) (Mu te):=by
 intro pins s σ H Q I hw
 rw [evalPart_some]
 refine thn (h pins s σ H _ I hw) fun u s1 hz=>?_
 obtain ⟨x,H1,I1,r1,q1⟩:=hz
 cases x with
 | int i=>
  obtain ⟨t,rfl⟩:=r1
  exact ⟨some i,H1,I1,.int i t,q1⟩
 | _=>exact q1.elim
end
end L2
namespace L2
open PySem PySem.Spec PyProof.Rows
structure Def (K:PySem.W.Frag) (mg:Str->Option Value) (x:Str) (st:Stmt) (f:Addr) (fd:FuncData) (ps:List Str):Prop where
 fn:Fun K x x st f fd
 mg:mg x=some (.ref f)
 bd:Binds K fd ps []
section
variable {X:Cx}
theorem Mv {x:Str} {st:Stmt} {f:Addr} {fd:FuncData} {ps:List Str} {k:Nat} {sp:Sp} {e:Expr} {es:List Expr} {t:TA} {p pos:Pos} (D:Def X.K X.mg x st f fd ps) (G:aQ X.prog X.w X.K X.mg X.base CX0 k f fd ps sp) (hr:eD k X.A) (ha:PA X (e :: es) t)
  (hg:Gl X x:=by rfl) (hdb:(x == ("__debug__" : Str))=false:=by decide) (he:starEach (e :: es) X.env=(false,eval e X.env) :: starEach es X.env:=by rfl) (hpl:(backTo pos (starEach es X.env)).any (·.1)=false:=by rfl):
  PE X (.Call (.Name x p) (e :: es) [] pos) (Jr sp [] E0 t):=Ht G hr hg D.mg D.fn.kp D.bd .nil Mc ha hdb he hpl
end
theorem Ks {α:Type} {xs:List α} {i:Int} (h0:0<=i) (h1:i < xs.length):∃ v,atI xs i=some v/\xs[i.toNat]?=some v:=by
 have h2:i.toNat < xs.length:=by omega
 refine ⟨xs[i.toNat],?_,by simp [h2]⟩
 unfold atI ixN
 rw [if_pos h0,if_pos h1]
 simp [h2]
theorem cO {α:Type} {xs:List α} {i:Nat} {v:α} (h:xs[i]?=some v):atI xs (i:Int)=some v:=by
 have h1:=(List.getElem?_eq_some_iff.mp h).1
 unfold atI ixN
 rw [if_pos (by omega),if_pos (by omega)]
 simpa using h
theorem yR.upd {H:Hp} {a:Addr} {o:HO} (h:H a=none):yR H (upd H a o):=fun b u e=>by
 rw [bK (bZ e h)]; exact e
theorem Def.mk' {K:PySem.W.Frag} {mg:Str->Option Value} {h:Heap} {x:Str} {st:Stmt} {f:Addr} {ps:List Str} {oc:Value} {od an:Option Addr} {osl:Array (Option Value)} {kV doc pm cdv ct:Value} (X:K.In h) (G:h.Ns mainGlobals mg)
  (a:PySem.W.nsIn K mainGlobals x=some (some (.ref f))) (l:K.lookup f=some ⟨oc,od,.func (PySem.W.fnOf x x (aU st) (aR st) (aE st) .none kV doc pm an cdv ct),osl⟩)
  (c:PySem.W.codeIn K cdv x=true) (k:PySem.W.keepIn K (.ref f)=true)
  (b:∀ (kV doc pm:Value) (an:Option Addr) (cdv ct:Value) (us:List Value),us.length=ps.length->bindArgs (PySem.W.fnOf x x (aU st) (aR st) (aE st) .none kV doc pm an cdv ct) ⟨us,[]⟩=pure (ps.zip us)):
  Def K mg x st f (PySem.W.fnOf x x (aU st) (aR st) (aE st) .none kV doc pm an cdv ct) ps:=
 ⟨AM l c k,PySem.W.mg_of X G a,(AM (st:=st) l c k).binds b⟩
end L2
set_option Elab.async false
set_option linter.all false
set_option maxRecDepth 100000
namespace L2
open PySem PySem.Spec PyProof.Rows PySem.SeqAt
inductive D where
 | non | bl (b:Bool) | int (i:Int) | str (x:Str) | tup (xs:List D)
mutual
def D.depth:D->Nat
 | .tup xs=>D.depths xs+1
 | _=>0
def D.depths:List D->Nat
 | []=>0
 | x :: xs=>max (D.depth x) (D.depths xs)
end
theorem D.depths_le:∀ {xs:List D} {i:Nat} {d:D},xs[i]?=some d->d.depth<=D.depths xs
 | [],_,_,h=>by simp at h
 | x :: xs,0,d,h=>by
  have:x=d:=by simpa using h
  subst this
  show x.depth<=max x.depth (D.depths xs)
  omega
 | x :: xs,i+1,d,h=>by
  have:=D.depths_le (xs:=xs) (i:=i) (d:=d) (by simpa using h)
  show d.depth<=max x.depth (D.depths xs)
  omega
mutual
/-- the value x is the datum,in the heap H -/
def Rep (K:PySem.W.Frag) (H:Hp):D->V->Prop
 | .non,v=>v=.non
 | .bl b,v=>v=.bl b
 | .int i,v=>v=.int i
 | .str x,v=>v=.str x
 | .tup ds,v=>∃ a vs,v=.ref a/\SqT K H a vs/\cH K H ds vs
def cH (K:PySem.W.Frag) (H:Hp):List D->List V->Prop
 | [],[]=>True
 | d :: ds,v :: vs=>Rep K H d v/\cH K H ds vs
 | [],_ :: _=>False
 | _ :: _,[]=>False
end
mutual
/-- == -/
def eqD:D->D->Bool
 | .non,.non=>true
 | .bl a,.bl b=>a == b
 | .bl a,.int b=>(if a then 1 else 0) == b
 | .int a,.bl b=>a == (if b then 1 else 0)
 | .int a,.int b=>a == b
 | .str a,.str b=>a == b
 | .tup xs,.tup ys=>cT xs ys
 | _,_=>false
def cT:List D->List D->Bool
 | [],[]=>true
 | x :: xs,y :: ys=>eqD x y && cT xs ys
 | [],_ :: _=>false
 | _ :: _,[]=>false
end
mutual
/-- < (none: an error) -/
def ltD:D->D->Option Bool
 | .int a,.int b=>some (decide (a < b))
 | .str a,.str b=>some (decide (a.cps.toList < b.cps.toList))
 | .tup xs,.tup ys=>vZ xs ys
 | _,_=>none
def vZ:List D->List D->Option Bool
 | [],[]=>some false
 | [],_ :: _=>some true
 | _ :: _,[]=>some false
 | x :: xs,y :: ys=>if eqD x y=true then vZ xs ys else ltD x y
end
mutual
theorem fB:∀ d:D,eqD d d=true
 | .non=>rfl
 | .bl b=>by simp [eqD]
 | .int i=>by simp [eqD]
 | .str x=>by simp [eqD]
 | .tup xs=>by simp only [eqD]; exact tQ xs
theorem tQ:∀ ds:List D,cT ds ds=true
 | []=>rfl
 | d :: ds=>by simp only [cT,fB d,tQ ds,Bool.and_self]
end
def fX (H H':Hp):Prop:=∀ a xs,Rd H a (.tup xs)->Rd H' a (.tup xs)
theorem fX.refl (H:Hp):fX H H:=fun _ _ h=>h
theorem fX.trans {H H1 H2:Hp} (a:fX H H1) (b:fX H1 H2):fX H H2:=fun c xs h=>b c xs (a c xs h)
theorem fX.same {H H':Hp} (s:yR H H'):fX H H':=fun a xs h=>by
 rcases h with h | ⟨o,h⟩
 ·exact .inl (s _ _ h)
 ·exact .inr ⟨o,s _ _ h⟩
def yW:Option HO->Prop
 | some (.tup _)=>False
 | some (.frz _ _)=>False
 | _=>True
theorem fX.upd {H:Hp} {p:Addr} {o:HO} (h:yW (H p)):fX H (upd H p o):=fun a xs q=>by
 have ne:a≠p:=by
  rintro rfl
  rcases q with q | ⟨ob,q⟩
  ·rw [q] at h; exact h
  ·rw [q] at h; exact h
 rcases q with q | ⟨ob,q⟩
 ·exact .inl (by rw [bK ne]; exact q)
 ·exact .inr ⟨ob,by rw [bK ne]; exact q⟩
theorem fX.sq {K:PySem.W.Frag} {H H':Hp} {a:Addr} {xs:List V} (t:fX H H') (h:SqT K H a xs):SqT K H' a xs:=by
 rcases h with h | h
 ·exact .inl (t a xs h)
 ·exact .inr h
section
variable {K:PySem.W.Frag} {H H':Hp}
mutual
theorem Rep.tp (t:fX H H'):∀ {d:D} {v:V},Rep K H d v->Rep K H' d v
 | .non,_,h=>h
 | .bl _,_,h=>h
 | .int _,_,h=>h
 | .str _,_,h=>h
 | .tup ds,_,⟨a,vs,e,q,r⟩=>⟨a,vs,e,t.sq q,cH.tp t r⟩
theorem cH.tp (t:fX H H'):∀ {ds:List D} {vs:List V},cH K H ds vs->cH K H' ds vs
 | [],[],_=>trivial
 | _ :: _,_ :: _,⟨h,r⟩=>⟨Rep.tp t h,cH.tp t r⟩
 | [],_ :: _,h=>h.elim
 | _ :: _,[],h=>h.elim
end
theorem cH.length:∀ {ds:List D} {vs:List V},cH K H ds vs->ds.length=vs.length
 | [],[],_=>rfl
 | _ :: _,_ :: _,⟨_,r⟩=>by simp [cH.length r]
 | [],_ :: _,h=>h.elim
 | _ :: _,[],h=>h.elim
theorem cH.get:∀ {ds:List D} {vs:List V} {i:Nat} {v:V},cH K H ds vs->vs[i]?=some v->∃ d,ds[i]?=some d/\Rep K H d v
 | [],[],_,_,_,e=>by simp at e
 | d :: _,w :: _,0,v,⟨h,_⟩,e=>by
  have:w=v:=by simpa using e
  subst this
  exact ⟨d,rfl,h⟩
 | _ :: ds,_ :: vs,i+1,v,⟨_,r⟩,e=>by
  obtain ⟨d,h1,h2⟩:=cH.get (ds:=ds) (vs:=vs) (i:=i) (v:=v) r (by simpa using e)
  exact ⟨d,by simpa using h1,h2⟩
 | [],_ :: _,_,_,h,_=>h.elim
 | _ :: _,[],_,_,h,_=>h.elim
theorem cH.at:∀ {ds:List D} {vs:List V} {i:Nat} {d:D},cH K H ds vs->ds[i]?=some d->∃ v,vs[i]?=some v/\Rep K H d v
 | [],[],_,_,_,e=>by simp at e
 | d :: _,w :: _,0,d',⟨h,_⟩,e=>by
  have:d=d':=by simpa using e
  subst this
  exact ⟨w,rfl,h⟩
 | _ :: ds,_ :: vs,i+1,d,⟨_,r⟩,e=>by
  obtain ⟨v,h1,h2⟩:=cH.at (ds:=ds) (vs:=vs) (i:=i) (d:=d) r (by simpa using e)
  exact ⟨v,by simpa using h1,h2⟩
 | [],_ :: _,_,_,h,_=>h.elim
 | _ :: _,[],_,_,h,_=>h.elim
end
section
variable {X:Cx} {pins:List (Addr×Obj)} {σ:St} {H:Hp} {s:Shared}
theorem cU {A:Around} {s:Shared} {v u:Value} {b:Bool} (h:RcAt A s v u b) (hs:v=u->b=true) (hf:∀ f t,v≠.float f t):EqAt A s v u b:=fun prog w E Q hq=>by
 unfold eqBool
 refine wpAny_holding ?_
 refine wpAny_ite_split (fun hab=>?_) (fun _=>?_)
 ·have e:=hs (eq_of_beq hab)
  subst e
  exact wpAny_bind (wpAny_rule (wpAny_pure hq))
 ·cases v <;> first | exact absurd rfl (hf _ _) | exact wpAny_bind (h prog w E _ (wpAny_truthy_bool hq)) | (cases u <;> exact wpAny_bind (h prog w E _ (wpAny_truthy_bool hq)))
theorem tR {K:PySem.W.Frag} {H:Hp} {d:D} {x:V} {v:Value} (h:Rep K H d x) (r:RelV x v):∀ f t,v≠.float f t:=fun f t e=>by
 subst e
 cases d with
 | non=>cases h; cases r
 | bl b=>cases h; cases r
 | int b=>cases h; obtain ⟨_,z⟩:=r; cases z
 | str b=>cases h; obtain ⟨_,z⟩:=r; cases z
 | tup ds=>obtain ⟨_,_,rfl,_⟩:=h; cases r
theorem kU (I:Inv X pins σ H s):∀ (n:Nat) (d e:D) (v:V),d.depth<=n->Rep X.K H d v->Rep X.K H e v->d=e
 | n,.non,e,v,_,h,h'=>by
  cases h
  cases e <;> first | (obtain ⟨_,_,z,_⟩:=h'; exact absurd z (by intro q; cases q)) | rfl | exact absurd h' (by intro z; cases z)
 | n,.bl b,e,v,_,h,h'=>by
  cases h
  cases e <;> first | (obtain ⟨_,_,z,_⟩:=h'; exact absurd z (by intro q; cases q)) | (cases h'; rfl) | exact absurd h' (by intro z; cases z)
 | n,.int i,e,v,_,h,h'=>by
  cases h
  cases e <;> first | (obtain ⟨_,_,z,_⟩:=h'; exact absurd z (by intro q; cases q)) | (cases h'; rfl) | exact absurd h' (by intro z; cases z)
 | n,.str x,e,v,_,h,h'=>by
  cases h
  cases e <;> first | (obtain ⟨_,_,z,_⟩:=h'; exact absurd z (by intro q; cases q)) | (cases h'; rfl) | exact absurd h' (by intro z; cases z)
 | 0,.tup ds,e,v,hd,h,h'=>absurd hd (by show ¬ D.depths ds+1<=0; omega)
 | n+1,.tup ds,e,v,hd,h,h'=>by
  obtain ⟨a,vs,rfl,q,r⟩:=h
  cases e with
  | tup es=>
   obtain ⟨a',vs',ea,q',r'⟩:=h'
   cases ea
   have:=I.tuple_inj q q'
   subst this
   have hd':D.depths ds+1<=n+1:=hd
   have:ds=es:=by
    apply List.ext_getElem?
    intro i
    cases hi:ds[i]? with
    | none=>
     have h1:=r.length
     have h2:=r'.length
     have:ds.length<=i:=List.getElem?_eq_none_iff.mp hi
     exact (List.getElem?_eq_none_iff.mpr (by omega)).symm
    | some d=>
     obtain ⟨v,hv,hr⟩:=r.at hi
     obtain ⟨e,he,hr'⟩:=r'.get hv
     rw [he,kU I n d e v (by have:=D.depths_le hi; omega) hr hr']
   rw [this]
  | _=>cases h'
theorem kW {xs ys:List D}:((List.range (min xs.length ys.length)).all (fun j=>match xs[j]?,ys[j]? with | some x,some y=>eqD x y | _,_=>false) && xs.length == ys.length)=cT xs ys:=by
 induction xs generalizing ys with
 | nil=>
  cases ys with
  | nil=>rfl
  | cons y ys=>simp [cT]
 | cons x xs ih=>
  cases ys with
  | nil=>simp [cT]
  | cons y ys=>
   have:=ih (ys:=ys)
   have e:min (x :: xs).length (y :: ys).length=min xs.length ys.length+1:=by simp only [List.length_cons]; omega
   rw [e,List.range_succ_eq_map,List.all_cons,List.all_map]
   simp only [List.getElem?_cons_zero,Function.comp_def,List.getElem?_cons_succ,List.length_cons,cT]
   rw [<- this]
   have e2:(xs.length+1 == ys.length+1)=(xs.length == ys.length):=by simp
   rw [e2,Bool.and_assoc]
theorem Mw (I:Inv X pins σ H s):∀ (n:Nat) (d e:D) (A:Around) (x y:V) (v u:Value),d.depth<=n->A.units+n < cLine->Rep X.K H d x->Rep X.K H e y->RelV x v->RelV y u->RcAt A s v u (eqD d e):=by
 intro n
 induction n with
 | zero=>
  intro d e A x y v u hd hu hx hy rx ry
  cases d with
  | tup ds=>exact absurd hd (by show ¬ D.depths ds+1<=0; omega)
  | non=>
   cases hx; cases rx
   cases e with
   | non=>cases hy; cases ry; exact RcAt.none_none
   | bl b=>cases hy; cases ry; exact RcAt.none_bool b
   | int b=>cases hy; obtain ⟨t,rfl⟩:=ry; exact RcAt.none_int b t
   | str b=>cases hy; obtain ⟨t,rfl⟩:=ry; exact RcAt.none_str b t
   | tup es=>obtain ⟨a,vs,rfl,q,r⟩:=hy; cases ry; obtain ⟨its,_,p,_⟩:=I.tuple q; exact RcAt.none_tuple p (by omega)
  | bl a=>
   cases hx; cases rx
   cases e with
   | non=>cases hy; cases ry; exact RcAt.bool_none a
   | bl b=>cases hy; cases ry; exact RcAt.bool_bool a b
   | int b=>cases hy; obtain ⟨t,rfl⟩:=ry; exact RcAt.bool_int a b t
   | str b=>cases hy; obtain ⟨t,rfl⟩:=ry; exact RcAt.bool_str a b t
   | tup es=>obtain ⟨a',vs,rfl,q,r⟩:=hy; cases ry; obtain ⟨its,_,p,_⟩:=I.tuple q; exact RcAt.bool_tuple a p (by omega)
  | int a=>
   cases hx; obtain ⟨t',rfl⟩:=rx
   cases e with
   | non=>cases hy; cases ry; exact RcAt.int_none a t'
   | bl b=>cases hy; cases ry; exact RcAt.int_bool a t' b
   | int b=>cases hy; obtain ⟨t,rfl⟩:=ry; exact RcAt.int_int a t' b t
   | str b=>cases hy; obtain ⟨t,rfl⟩:=ry; exact RcAt.int_str a t' b t
   | tup es=>obtain ⟨a',vs,rfl,q,r⟩:=hy; cases ry; obtain ⟨its,_,p,_⟩:=I.tuple q; exact RcAt.int_tuple a t' p (by omega)
  | str a=>
   cases hx; obtain ⟨t',rfl⟩:=rx
   cases e with
   | non=>cases hy; cases ry; exact RcAt.str_none a t'
   | bl b=>cases hy; cases ry; exact RcAt.str_bool a t' b
   | int b=>cases hy; obtain ⟨t,rfl⟩:=ry; exact RcAt.str_int a t' b t
   | str b=>cases hy; obtain ⟨t,rfl⟩:=ry; exact RcAt.str_str a t' b t
   | tup es=>obtain ⟨a',vs,rfl,q,r⟩:=hy; cases ry; obtain ⟨its,_,p,_⟩:=I.tuple q; exact RcAt.str_tuple a t' p (by omega)
 | succ n ih=>
  intro d e A x y v u hd hu hx hy rx ry
  by_cases h0:d.depth<=n
  ·exact ih d e A x y v u h0 (by omega) hx hy rx ry
  ·cases d with
   | non=>exact absurd (show D.depth .non<=n from Nat.zero_le n) h0
   | bl b=>exact absurd (show D.depth (.bl b)<=n from Nat.zero_le n) h0
   | int b=>exact absurd (show D.depth (.int b)<=n from Nat.zero_le n) h0
   | str b=>exact absurd (show D.depth (.str b)<=n from Nat.zero_le n) h0
   | tup ds=>
    have hds:D.depths ds<=n:=by have:D.depths ds+1<=n+1:=hd; omega
    obtain ⟨a,vs,rfl,q,r⟩:=hx
    cases rx
    obtain ⟨its,rv,p,_⟩:=I.tuple q
    cases e with
    | non=>cases hy; cases ry; exact RcAt.tuple_none p (by omega)
    | bl b=>cases hy; cases ry; exact RcAt.tuple_bool b p (by omega)
    | int b=>cases hy; obtain ⟨t,rfl⟩:=ry; exact RcAt.tuple_int b t p (by omega)
    | str b=>cases hy; obtain ⟨t,rfl⟩:=ry; exact RcAt.tuple_str b t p (by omega)
    | tup es=>
     obtain ⟨a',vs',rfl,q',r'⟩:=hy
     cases ry
     obtain ⟨its',rv',p',_⟩:=I.tuple q'
     have l1:=r.length
     have l2:=r'.length
     have l3:=rv.length
     have l4:=rv'.length
     have key:=RcAt.tuples (A:=A) (e:=fun j=>match ds[j]?,es[j]? with | some x,some y=>eqD x y | _,_=>false) p p' (by omega) (fun j h1 h2=>by
      have h1':j < ds.length:=by simp at h1; omega
      have h2':j < es.length:=by simp at h2; omega
      have g1:ds[j]?=some ds[j]:=by simp [h1']
      have g2:es[j]?=some es[j]:=by simp [h2']
      obtain ⟨xv,hxv,hrx⟩:=r.at g1
      obtain ⟨yv,hyv,hry⟩:=r'.at g2
      obtain ⟨xu,hxu,hru⟩:=rv.get hxv
      obtain ⟨yu,hyu,hru'⟩:=rv'.get hyv
      have e1:its.toArray[j]=xu:=by
       have:its[j]?=some xu:=hxu
       simpa using (List.getElem?_eq_some_iff.mp this).2
      have e2:its'.toArray[j]=yu:=by
       have:its'[j]?=some yu:=hyu
       simpa using (List.getElem?_eq_some_iff.mp this).2
      rw [e1,e2]
      simp only [g1,g2]
      have hdj:=D.depths_le g1
      refine cU (ih ds[j] es[j] A.in1 xv yv xu yu (by omega) (by show A.units+1+n < cLine; omega) hrx hry hru hru') (fun ev=>by
      subst ev
      have exy:xv=yv:=RelV.inj hru hru'
      subst exy
      rw [kU I n ds[j] es[j] xv (by omega) hrx hry]
      exact fB _) (tR hrx hru))
     have sz:((List.range (min its.toArray.size its'.toArray.size)).all (fun j=>match ds[j]?,es[j]? with | some x,some y=>eqD x y | _,_=>false) && its.toArray.size == its'.toArray.size)=eqD (.tup ds) (.tup es):=by
      have a1:its.toArray.size=ds.length:=by simp; omega
      have a2:its'.toArray.size=es.length:=by simp; omega
      rw [a1,a2]
      simp only [eqD]
      exact kW
     rw [<- sz]
     exact key
theorem HP (I:Inv X pins σ H s) {n:Nat} {d e:D} {A:Around} {x y:V} {v u:Value} (hd:d.depth<=n) (hu:A.units+n < cLine) (hx:Rep X.K H d x) (hy:Rep X.K H e y) (rx:RelV x v) (ry:RelV y u):EqAt A s v u (eqD d e):=
 cU (Mw I n d e A x y v u hd hu hx hy rx ry) (fun ev=>by
  subst ev
  have exy:x=y:=RelV.inj rx ry
  subst exy
  rw [kU I n d e x hd hx hy]
  exact fB _) (tR hx rx)
theorem Kt (I:Inv X pins σ H s):∀ (n:Nat) (d e:D) (A:Around) (x y:V) (v u:Value),d.depth<=n->A.units+n < cLine->Rep X.K H d x->Rep X.K H e y->RelV x v->RelV y u->RcNeAt A s v u (!eqD d e):=by
 intro n
 induction n with
 | zero=>
  intro d e A x y v u hd hu hx hy rx ry
  cases d with
  | tup ds=>exact absurd hd (by show ¬ D.depths ds+1<=0; omega)
  | non=>
   cases hx; cases rx
   cases e with
   | non=>cases hy; cases ry; exact RcNeAt.none_none
   | bl b=>cases hy; cases ry; exact RcNeAt.none_bool b
   | int b=>cases hy; obtain ⟨t,rfl⟩:=ry; exact RcNeAt.none_int b t
   | str b=>cases hy; obtain ⟨t,rfl⟩:=ry; exact RcNeAt.none_str b t
   | tup es=>obtain ⟨a,vs,rfl,q,r⟩:=hy; cases ry; obtain ⟨its,_,p,_⟩:=I.tuple q; exact RcNeAt.none_tuple p (by omega)
  | bl a=>
   cases hx; cases rx
   cases e with
   | non=>cases hy; cases ry; exact RcNeAt.bool_none a
   | bl b=>cases hy; cases ry; exact RcNeAt.bool_bool a b
   | int b=>cases hy; obtain ⟨t,rfl⟩:=ry; exact RcNeAt.bool_int a b t
   | str b=>cases hy; obtain ⟨t,rfl⟩:=ry; exact RcNeAt.bool_str a b t
   | tup es=>obtain ⟨a',vs,rfl,q,r⟩:=hy; cases ry; obtain ⟨its,_,p,_⟩:=I.tuple q; exact RcNeAt.bool_tuple a p (by omega)
  | int a=>
   cases hx; obtain ⟨t',rfl⟩:=rx
   cases e with
   | non=>cases hy; cases ry; exact RcNeAt.int_none a t'
   | bl b=>cases hy; cases ry; exact RcNeAt.int_bool a t' b
   | int b=>cases hy; obtain ⟨t,rfl⟩:=ry; exact RcNeAt.int_int a t' b t
   | str b=>cases hy; obtain ⟨t,rfl⟩:=ry; exact RcNeAt.int_str a t' b t
   | tup es=>obtain ⟨a',vs,rfl,q,r⟩:=hy; cases ry; obtain ⟨its,_,p,_⟩:=I.tuple q; exact RcNeAt.int_tuple a t' p (by omega)
  | str a=>
   cases hx; obtain ⟨t',rfl⟩:=rx
   cases e with
   | non=>cases hy; cases ry; exact RcNeAt.str_none a t'
   | bl b=>cases hy; cases ry; exact RcNeAt.str_bool a t' b
   | int b=>cases hy; obtain ⟨t,rfl⟩:=ry; exact RcNeAt.str_int a t' b t
   | str b=>cases hy; obtain ⟨t,rfl⟩:=ry; exact RcNeAt.str_str a t' b t
   | tup es=>obtain ⟨a',vs,rfl,q,r⟩:=hy; cases ry; obtain ⟨its,_,p,_⟩:=I.tuple q; exact RcNeAt.str_tuple a t' p (by omega)
 | succ n ih=>
  intro d e A x y v u hd hu hx hy rx ry
  by_cases h0:d.depth<=n
  ·exact ih d e A x y v u h0 (by omega) hx hy rx ry
  ·cases d with
   | non=>exact absurd (show D.depth .non<=n from Nat.zero_le n) h0
   | bl b=>exact absurd (show D.depth (.bl b)<=n from Nat.zero_le n) h0
   | int b=>exact absurd (show D.depth (.int b)<=n from Nat.zero_le n) h0
   | str b=>exact absurd (show D.depth (.str b)<=n from Nat.zero_le n) h0
   | tup ds=>
    have hds:D.depths ds<=n:=by have:D.depths ds+1<=n+1:=hd; omega
    obtain ⟨a,vs,rfl,q,r⟩:=hx
    cases rx
    obtain ⟨its,rv,p,_⟩:=I.tuple q
    cases e with
    | non=>cases hy; cases ry; exact RcNeAt.tuple_none p (by omega)
    | bl b=>cases hy; cases ry; exact RcNeAt.tuple_bool b p (by omega)
    | int b=>cases hy; obtain ⟨t,rfl⟩:=ry; exact RcNeAt.tuple_int b t p (by omega)
    | str b=>cases hy; obtain ⟨t,rfl⟩:=ry; exact RcNeAt.tuple_str b t p (by omega)
    | tup es=>
     obtain ⟨a',vs',rfl,q',r'⟩:=hy
     cases ry
     obtain ⟨its',rv',p',_⟩:=I.tuple q'
     have l1:=r.length
     have l2:=r'.length
     have l3:=rv.length
     have l4:=rv'.length
     have key:=RcNeAt.tuples (A:=A) (e:=fun j=>match ds[j]?,es[j]? with | some x,some y=>eqD x y | _,_=>false) p p' (by omega) (fun j h1 h2=>by
      have h1':j < ds.length:=by simp at h1; omega
      have h2':j < es.length:=by simp at h2; omega
      have g1:ds[j]?=some ds[j]:=by simp [h1']
      have g2:es[j]?=some es[j]:=by simp [h2']
      obtain ⟨xv,hxv,hrx⟩:=r.at g1
      obtain ⟨yv,hyv,hry⟩:=r'.at g2
      obtain ⟨xu,hxu,hru⟩:=rv.get hxv
      obtain ⟨yu,hyu,hru'⟩:=rv'.get hyv
      have e1:its.toArray[j]=xu:=by
       have:its[j]?=some xu:=hxu
       simpa using (List.getElem?_eq_some_iff.mp this).2
      have e2:its'.toArray[j]=yu:=by
       have:its'[j]?=some yu:=hyu
       simpa using (List.getElem?_eq_some_iff.mp this).2
      rw [e1,e2]
      simp only [g1,g2]
      have hdj:=D.depths_le g1
      exact HP I (n:=n) (by omega) (by show A.units+1+n < cLine; omega) hrx hry hru hru')
     have sz:(!((List.range (min its.toArray.size its'.toArray.size)).all (fun j=>match ds[j]?,es[j]? with | some x,some y=>eqD x y | _,_=>false) && its.toArray.size == its'.toArray.size))=(!eqD (.tup ds) (.tup es)):=by
      have a1:its.toArray.size=ds.length:=by simp; omega
      have a2:its'.toArray.size=es.length:=by simp; omega
      rw [a1,a2]
      simp only [eqD]
      rw [kW]
     rw [<- sz]
     exact key
def On (K:PySem.W.Frag):R2:=fun x y H Q=>∃ d e,Rep K H d x/\Rep K H e y/\d.depth<=40/\Q (.bl (eqD d e)) H
def Oo (K:PySem.W.Frag):R2:=fun x y H Q=>∃ d e,Rep K H d x/\Rep K H e y/\d.depth<=40/\Q (.bl (!eqD d e)) H
theorem Ku (hu:X.A.units+64 < cLine) (K:PySem.W.Frag) (hK:X.K=K):OpR X (compareOp .Eq) (On K):=by
 subst hK
 intro pins s σ H x y v u Q I rx ry h
 obtain ⟨d,e,hx,hy,hd,q⟩:=h
 exact Mw I 40 d e X.A x y v u hd (by omega) hx hy rx ry X.prog X.w X.xe _ ⟨.bl _,H,I,rfl,q⟩
theorem Kv (hu:X.A.units+64 < cLine) (K:PySem.W.Frag) (hK:X.K=K):OpR X (compareOp .NotEq) (Oo K):=by
 subst hK
 intro pins s σ H x y v u Q I rx ry h
 obtain ⟨d,e,hx,hy,hd,q⟩:=h
 exact Kt I 40 d e X.A x y v u hd (by omega) hx hy rx ry X.prog X.w X.xe _ ⟨.bl _,H,I,rfl,q⟩
def yX (K:PySem.W.Frag) (H:Hp) (ds:List D) (v:V):Prop:=∃ a vs,v=.ref a/\SqL K H a vs/\cH K H ds vs
theorem mZ {xs ys:List D} (h:xs.length=ys.length):(List.range xs.length).all (fun j=>match xs[j]?,ys[j]? with | some x,some y=>eqD x y | _,_=>false)=cT xs ys:=by
 have:=kW (xs:=xs) (ys:=ys)
 rw [h,Nat.min_self,beq_self_eq_true,Bool.and_true] at this
 rw [h]
 exact this
theorem qF {xs ys:List D} (h:cT xs ys=true):xs.length=ys.length:=by
 rw [<- kW,Bool.and_eq_true] at h
 exact eq_of_beq h.2
theorem kC {I:Inv X pins σ H s} {A:Around} {ds es:List D} {vs vs':List V} {its its':List Value} (r:cH X.K H ds vs) (r':cH X.K H es vs') (rv:aK vs its) (rv':aK vs' its') (hd:D.depths ds<=40) (hu:A.units+42 < cLine):
  ∀ j (h1:j < its.toArray.size) (h2:j < its'.toArray.size),EqAt A.in1 s its.toArray[j] its'.toArray[j] (match ds[j]?,es[j]? with | some x,some y=>eqD x y | _,_=>false):=fun j h1 h2=>by
 have l1:=r.length
 have l2:=r'.length
 have l3:=rv.length
 have l4:=rv'.length
 have h1':j < ds.length:=by simp at h1; omega
 have h2':j < es.length:=by simp at h2; omega
 have g1:ds[j]?=some ds[j]:=by simp [h1']
 have g2:es[j]?=some es[j]:=by simp [h2']
 obtain ⟨xv,hxv,hrx⟩:=r.at g1
 obtain ⟨yv,hyv,hry⟩:=r'.at g2
 obtain ⟨xu,hxu,hru⟩:=rv.get hxv
 obtain ⟨yu,hyu,hru'⟩:=rv'.get hyv
 have e1:its.toArray[j]=xu:=by simpa using (List.getElem?_eq_some_iff.mp hxu).2
 have e2:its'.toArray[j]=yu:=by simpa using (List.getElem?_eq_some_iff.mp hyu).2
 rw [e1,e2]
 simp only [g1,g2]
 have hdj:=D.depths_le g1
 exact HP I (n:=40) (by omega) (by show A.units+1+40 < cLine; omega) hrx hry hru hru'
def Oq (K:PySem.W.Frag):R2:=fun x y H Q=>∃ ds es,yX K H ds x/\yX K H es y/\D.depths ds<=40/\Q (.bl (cT ds es)) H
def Os (K:PySem.W.Frag):R2:=fun x y H Q=>∃ ds es,yX K H ds x/\yX K H es y/\D.depths ds<=40/\Q (.bl (!cT ds es)) H
theorem Kw (hu:X.A.units+64 < cLine) (K:PySem.W.Frag) (hK:X.K=K):OpR X (compareOp .Eq) (Oq K):=by
 subst hK
 intro pins s σ H x y v u Q I rx ry h
 obtain ⟨ds,es,⟨a,vs,rfl,q,r⟩,⟨b,vs',rfl,q',r'⟩,hd,k⟩:=h
 cases rx; cases ry
 obtain ⟨its,rv,p,_⟩:=I.list q
 obtain ⟨its',rv',p',_⟩:=I.list q'
 have l1:=r.length
 have l2:=r'.length
 have l3:=rv.length
 have l4:=rv'.length
 by_cases hl:ds.length=es.length
 ·refine eq_listAt p.isList p'.isList (by simp; omega) (by omega) (kC (I:=I) r r' rv rv' hd (by omega)) ⟨.bl _,H,I,rfl,?_⟩
  have e1:its.toArray.size=ds.length:=by simp; omega
  rw [e1,mZ hl]
  exact k
 ·refine eq_list_lengthsAt p.isList p'.isList (by simp; omega) (by omega) ⟨.bl false,H,I,rfl,?_⟩
  have e:cT ds es=false:=by
   cases h:cT ds es with
   | false=>rfl
   | true=>exact absurd (qF h) hl
  rw [e] at k
  exact k
theorem Kx (hu:X.A.units+64 < cLine) (K:PySem.W.Frag) (hK:X.K=K):OpR X (compareOp .NotEq) (Os K):=by
 subst hK
 intro pins s σ H x y v u Q I rx ry h
 obtain ⟨ds,es,⟨a,vs,rfl,q,r⟩,⟨b,vs',rfl,q',r'⟩,hd,k⟩:=h
 cases rx; cases ry
 obtain ⟨its,rv,p,_⟩:=I.list q
 obtain ⟨its',rv',p',_⟩:=I.list q'
 have l1:=r.length
 have l2:=r'.length
 have l3:=rv.length
 have l4:=rv'.length
 by_cases hl:ds.length=es.length
 ·refine RcNeAt.lists p.isList p'.isList (by simp; omega) (by omega) (kC (I:=I) r r' rv rv' hd (by omega)) X.prog X.w X.xe _ ⟨.bl _,H,I,rfl,?_⟩
  have e1:its.toArray.size=ds.length:=by simp; omega
  rw [e1,mZ hl]
  exact k
 ·refine RcNeAt.lists_lengths p.isList p'.isList (by simp; omega) (by omega) X.prog X.w X.xe _ ⟨.bl true,H,I,rfl,?_⟩
  have e:cT ds es=false:=by
   cases h:cT ds es with
   | false=>rfl
   | true=>exact absurd (qF h) hl
  rw [e] at k
  exact k
end
end L2
set_option Elab.async false
set_option linter.all false
set_option maxRecDepth 100000
namespace L2
open PySem
def keyLt:Sum Int Str->Sum Int Str->Bool
 | .inl a,.inl b=>decide (a < b)
 | .inr a,.inr b=>decide (a.cps.toList < b.cps.toList)
 | _,_=>false
def cI:List (Sum Int Str)->List (Sum Int Str)->Bool
 | [],[]=>false
 | [],_ :: _=>true
 | _ :: _,[]=>false
 | x :: xs,y :: ys=>if x=y then cI xs ys else keyLt x y
def cF:Sum Int Str->Bool
 | .inl _=>true
 | .inr _=>false
abbrev shape (ks:List (Sum Int Str)):List Bool:=ks.map cF
theorem HQ {a b:Str} (h:a.cps.toList=b.cps.toList):a=b:=by
 cases a; cases b
 congr
 exact Array.toList_inj.mp h
theorem EJ {a b:Sum Int Str} (h:keyLt a b=true):keyLt b a=false:=by
 cases a <;> cases b <;> first | rfl | skip
 ·have:_ < _:=of_decide_eq_true h
  exact decide_eq_false (by omega)
 ·exact decide_eq_false (List.lt_asymm (of_decide_eq_true h))
theorem tS {a b:Sum Int Str} (k:cF a=cF b) (h:keyLt a b=false) (h':keyLt b a=false):a=b:=by
 cases a <;> cases b <;> first | cases k | skip
 ·have h1:=of_decide_eq_false h
  have h2:=of_decide_eq_false h'
  congr 1
  omega
 ·have h1:=of_decide_eq_false h
  have h2:=of_decide_eq_false h'
  congr 1
  exact HQ (List.le_antisymm (List.not_lt.mp h2) (List.not_lt.mp h1))
theorem EK:∀ {a b c:Sum Int Str},cF a=cF b->cF b=cF c->keyLt b a=false->keyLt c b=false->keyLt c a=false
 | .inl a,.inl b,.inl c,_,_,h,h'=>by
  have h1:¬ b < a:=of_decide_eq_false h
  have h2:¬ c < b:=of_decide_eq_false h'
  exact decide_eq_false (by omega)
 | .inr a,.inr b,.inr c,_,_,h,h'=>by
  have h1:a.cps.toList<=b.cps.toList:=List.not_lt.mp (of_decide_eq_false h)
  have h2:b.cps.toList<=c.cps.toList:=List.not_lt.mp (of_decide_eq_false h')
  exact decide_eq_false (List.not_lt.mpr (List.le_trans h1 h2))
 | .inl _,.inr _,_,k,_,_,_=>by cases k
 | .inr _,.inl _,_,k,_,_,_=>by cases k
 | .inl _,.inl _,.inr _,_,k,_,_=>by cases k
 | .inr _,.inr _,.inl _,_,k,_,_=>by cases k
theorem wA:∀ {a b:List (Sum Int Str)},cI a b=true->cI b a=false
 | [],[],_=>rfl
 | [],_ :: _,_=>rfl
 | _ :: _,[],h=>by cases h
 | x :: xs,y :: ys,h=>by
  unfold cI at h ⊢
  by_cases e:x=y
  ·subst e
   rw [if_pos rfl] at h ⊢
   exact wA h
  ·rw [if_neg e] at h
   rw [if_neg fun z=>e z.symm]
   exact EJ h
theorem yY:∀ {a b:List (Sum Int Str)},shape a=shape b->cI a b=false->cI b a=false->a=b
 | [],[],_,_,_=>rfl
 | [],_ :: _,s,_,_=>by cases s
 | _ :: _,[],s,_,_=>by cases s
 | x :: xs,y :: ys,s,h,h'=>by
  have s1:cF x=cF y:=by simpa using congrArg List.head? s
  have s2:shape xs=shape ys:=by simpa using congrArg List.tail s
  unfold cI at h h'
  by_cases e:x=y
  ·subst e
   rw [if_pos rfl] at h h'
   rw [yY s2 h h']
  ·rw [if_neg e] at h
   rw [if_neg fun z=>e z.symm] at h'
   exact absurd (tS s1 h h') e
theorem pB:∀ {a b c:List (Sum Int Str)},shape a=shape b->shape b=shape c->cI b a=false->cI c b=false->cI c a=false
 | [],[],[],_,_,_,_=>rfl
 | [],[],_ :: _,_,s',_,_=>by cases s'
 | [],_ :: _,_,s,_,_,_=>by cases s
 | _ :: _,[],_,s,_,_,_=>by cases s
 | _ :: _,_ :: _,[],_,s',_,_=>by cases s'
 | x :: xs,y :: ys,z :: zs,s,s',h,h'=>by
  have s1:cF x=cF y:=by simpa using congrArg List.head? s
  have s2:shape xs=shape ys:=by simpa using congrArg List.tail s
  have s3:cF y=cF z:=by simpa using congrArg List.head? s'
  have s4:shape ys=shape zs:=by simpa using congrArg List.tail s'
  unfold cI at h h' ⊢
  by_cases e:y=x
  ·subst e
   rw [if_pos rfl] at h
   by_cases e':z=y
   ·subst e'
    rw [if_pos rfl] at h' ⊢
    exact pB s2 s4 h h'
   ·rw [if_neg e'] at h' ⊢
    exact h'
  ·rw [if_neg e] at h
   by_cases e':z=y
   ·subst e'
    rw [if_neg e]
    exact h
   ·rw [if_neg e'] at h'
    by_cases e2:z=x
    ·subst e2
     exfalso
     exact e (tS s3 h h')
    ·rw [if_neg e2]
     exact EK s1 s3 h h'
end L2
namespace L2
open PySem PySem.W PyProof.Rows
section
variable (lt:Nat->Nat->Bool)
def evT {α:Type}:KasT α->α
 | .ret a=>a
 | .ask i j k=>evT (k (lt i j))
theorem fC {α β:Type} (f:α->KasT β):∀ t:KasT α,evT lt (t.bind f)=evT lt (f (evT lt t))
 | .ret _=>rfl
 | .ask i j k=>fC f (k (lt i j))
abbrev pa' (p:Array Nat) (i:Nat):Nat:=p.getD i 0
def STo (p:Array Nat) (k:Nat):Prop:=∀ i j,i<=j->j < k->lt (pa' p j) (pa' p i)=false
def NIc (p:Array Nat) (k:Nat):Prop:=∀ i j,i<=j->j < k->lt (pa' p i) (pa' p j)=false
end
theorem eE {p:Array Nat} {i:Nat}:pa' p i=(p[i]?).getD 0:=by
 unfold pa'
 simp [Array.getD_eq_getD_getElem?]
structure EL (lt:Nat->Nat->Bool) (p:Array Nat) (n f:Nat) (r:Array Nat×Nat×Nat):Prop where
 perm:r.1.Perm p
 lo:n<=r.2.1
 hi:r.2.1<=n+f
 q:r.2.2+1<=r.2.1
 ni:NIc lt r.1 r.2.1
 eq:∀ i j,r.2.1 - (r.2.2+1)<=i->i < r.2.1->r.2.1 - (r.2.2+1)<=j->j < r.2.1->lt (pa' r.1 i) (pa' r.1 j)=false
section
variable {lt:Nat->Nat->Bool} (tr:∀ i j k,lt j i=false->lt k j=false->lt k i=false) (as:∀ i j,lt i j=true->lt j i=false)
include as in
theorem dS (i:Nat):lt i i=false:=by
 cases h:lt i i with
 | false=>rfl
 | true=>have:=as i i h; rw [h] at this; exact this
include tr as
theorem AS (p:Array Nat):∀ f n,1<=n->STo lt p n->n<=evT lt (kas_asc p f n)/\evT lt (kas_asc p f n)<=n+f/\STo lt p (evT lt (kas_asc p f n))
 | 0,n,_,h=>⟨Nat.le_refl _,Nat.le_refl _,h⟩
 | f+1,n,h1,h=>by
  have e:evT lt (kas_asc p (f+1) n)=evT lt (if lt (p.getD n 0) (p.getD (n - 1) 0)=true then KasT.ret n else kas_asc p f (n+1)):=rfl
  rw [e]
  by_cases c:lt (p.getD n 0) (p.getD (n - 1) 0)=true
  ·rw [if_pos c]
   exact ⟨Nat.le_refl _,Nat.le_add_right _ _,h⟩
  ·rw [if_neg c]
   have c':lt (p.getD n 0) (p.getD (n - 1) 0)=false:=by simpa using c
   have h2:STo lt p (n+1):=fun i j hij hj=>by
    rcases Nat.lt_or_eq_of_le (Nat.le_of_lt_succ hj) with hj | rfl
    ·exact h i j hij hj
    ·rcases Nat.lt_or_eq_of_le hij with hi | rfl
     ·exact tr _ _ _ (h i (j - 1) (by omega) (by omega)) c'
     ·exact dS as _
   obtain ⟨a,b,c⟩:=AS p f (n+1) (by omega) h2
   exact ⟨by omega,by omega,c⟩
theorem rev_eq {p:Array Nat} {a n:Nat} (hn:n<=p.size) (eq:∀ i j,a<=i->i < n->a<=j->j < n->lt (pa' p i) (pa' p j)=false) (i j:Nat):
  lt (pa' (kas_rev p a n) i) (pa' (kas_rev p a n) j)=lt (pa' p i) (pa' p j):=by
 have g:∀ k,pa' (kas_rev p a n) k=if a<=k/\k < n then pa' p (a+n - 1 - k) else pa' p k:=fun k=>by
  rw [eE,eE,eE]
  unfold kas_rev
  rw [getElem?_mirror_all hn]
  split <;> rfl
 have sim:∀ k,∃ k',pa' (kas_rev p a n) k=pa' p k'/\lt (pa' p k) (pa' p k')=false/\lt (pa' p k') (pa' p k)=false:=fun k=>by
  rw [g]
  by_cases h:a<=k/\k < n
  ·rw [if_pos h]
   exact ⟨_,rfl,eq _ _ h.1 h.2 (by omega) (by omega),eq _ _ (by omega) (by omega) h.1 h.2⟩
  ·rw [if_neg h]
   exact ⟨k,rfl,dS as _,dS as _⟩
 obtain ⟨i',ei,i1,i2⟩:=sim i
 obtain ⟨j',ej,j1,j2⟩:=sim j
 rw [ei,ej]
 cases h1:lt (pa' p i) (pa' p j) with
 | false=>exact tr _ _ _ j1 (tr _ _ _ h1 i2)
 | true=>
  cases h2:lt (pa' p i') (pa' p j') with
  | true=>rfl
  | false=>
   have:=tr _ _ _ j2 (tr _ _ _ h2 i1)
   rw [h1] at this
   exact this.symm
theorem wB:∀ f (p:Array Nat) n q,n+f<=p.size->q+1<=n->NIc lt p n->(∀ i j,n - (q+1)<=i->i < n->n - (q+1)<=j->j < n->lt (pa' p i) (pa' p j)=false)->EL lt p n f (evT lt (kas_desc f p n q))
 | 0,p,n,q,_,hq,hN,hE=>⟨Array.Perm.refl _,Nat.le_refl _,Nat.le_refl _,hq,hN,hE⟩
 | f+1,p,n,q,hs,hq,hN,hE=>by
  have e:evT lt (kas_desc (f+1) p n q)=evT lt (if lt (p.getD n 0) (p.getD (n - 1) 0)=true then (if q > 0 then kas_desc f (kas_rev p (n - (q+1)) n) (n+1) 0 else kas_desc f p (n+1) 0)
    else .ask (p.getD (n - 1) 0) (p.getD n 0) fun d=>if d=true then .ret (p,n,q) else kas_desc f p (n+1) (q+1)):=rfl
  by_cases c:lt (p.getD n 0) (p.getD (n - 1) 0)=true
  ·have down:∀ p':Array Nat,p'.Perm p->(∀ i j,lt (pa' p' i) (pa' p' j)=lt (pa' p i) (pa' p j))->evT lt (kas_desc (f+1) p n q)=evT lt (kas_desc f p' (n+1) 0)->EL lt p n (f+1) (evT lt (kas_desc (f+1) p n q)):=fun p' hp hl hev=>by
    have hN':NIc lt p' (n+1):=fun i j hij hj=>by
     rw [hl]
     rcases Nat.lt_or_eq_of_le (Nat.le_of_lt_succ hj) with hj | rfl
     ·exact hN i j hij hj
     ·rcases Nat.lt_or_eq_of_le hij with hi | rfl
      ·exact tr _ _ _ (as _ _ c) (hN i (j - 1) (by omega) (by omega))
      ·exact dS as _
    have hE':∀ i j,n+1 - (0+1)<=i->i < n+1->n+1 - (0+1)<=j->j < n+1->lt (pa' p' i) (pa' p' j)=false:=fun i j h1 h2 h3 h4=>by
     have:i=j:=by omega
     subst this
     exact dS as _
    have ih:=wB f p' (n+1) 0 (by rw [hp.size_eq]; omega) (by omega) hN' hE'
    rw [<- hev] at ih
    obtain ⟨a1,a2,a3,a4,a5,a6⟩:=ih
    exact ⟨a1.trans hp,by omega,by omega,a4,a5,a6⟩
   rw [if_pos c] at e
   by_cases hq0:q > 0
   ·rw [if_pos hq0] at e
    exact down _ (mirror_perm _ _ _ _) (rev_eq tr as (by omega) hE) e
   ·rw [if_neg hq0] at e
    exact down p (Array.Perm.refl _) (fun _ _=>rfl) e
  ·rw [if_neg c] at e
   have c':lt (p.getD n 0) (p.getD (n - 1) 0)=false:=by simpa using c
   have e2:evT lt (kas_desc (f+1) p n q)=evT lt (if lt (p.getD (n - 1) 0) (p.getD n 0)=true then KasT.ret (p,n,q) else kas_desc f p (n+1) (q+1)):=e
   by_cases d:lt (p.getD (n - 1) 0) (p.getD n 0)=true
   ·rw [if_pos d] at e2
    rw [e2]
    exact ⟨Array.Perm.refl _,Nat.le_refl _,Nat.le_add_right _ _,hq,hN,hE⟩
   ·rw [if_neg d] at e2
    have d':lt (p.getD (n - 1) 0) (p.getD n 0)=false:=by simpa using d
    have hN':NIc lt p (n+1):=fun i j hij hj=>by
     rcases Nat.lt_or_eq_of_le (Nat.le_of_lt_succ hj) with hj | rfl
     ·exact hN i j hij hj
     ·rcases Nat.lt_or_eq_of_le hij with hi | rfl
      ·exact tr _ _ _ d' (hN i (j - 1) (by omega) (by omega))
      ·exact dS as _
    have hE':∀ i j,n+1 - (q+1+1)<=i->i < n+1->n+1 - (q+1+1)<=j->j < n+1->lt (pa' p i) (pa' p j)=false:=fun i j h1 h2 h3 h4=>by
     by_cases hi:i=n
     ·by_cases hj:j=n
      ·rw [hi,hj]; exact dS as _
      ·rw [hi]
       exact tr _ _ _ (hE (n - 1) j (by omega) (by omega) (by omega) (by omega)) c'
     ·by_cases hj:j=n
      ·rw [hj]
       exact tr _ _ _ d' (hE i (n - 1) (by omega) (by omega) (by omega) (by omega))
      ·exact hE i j (by omega) (by omega) (by omega) (by omega)
    have ih:=wB f p (n+1) (q+1) (by omega) (by omega) hN' hE'
    rw [<- e2] at ih
    obtain ⟨a1,a2,a3,a4,a5,a6⟩:=ih
    exact ⟨a1,by omega,by omega,a4,a5,a6⟩
theorem yZ {n nrem:Nat} {p:Array Nat} (h1:1<=n) (hn:n<=nrem) (hz:nrem<=p.size) (hN:NIc lt p n):
  n<=(evT lt (kas_tail3 n nrem p)).1/\(evT lt (kas_tail3 n nrem p)).1<=nrem/\(evT lt (kas_tail3 n nrem p)).2.Perm p/\STo lt (evT lt (kas_tail3 n nrem p)).2 (evT lt (kas_tail3 n nrem p)).1:=by
 have e:evT lt (kas_tail3 n nrem p)=(evT lt (kas_asc (kas_rev p 0 n) (nrem - n) n),kas_rev p 0 n):=by
  unfold kas_tail3
  rw [fC]; rfl
 have g:∀ k,k < n->pa' (kas_rev p 0 n) k=pa' p (n - 1 - k):=fun k hk=>by
  rw [eE,eE]
  unfold kas_rev
  rw [getElem?_mirror_all (by omega),if_pos (by omega)]
  congr 2
  omega
 have hS:STo lt (kas_rev p 0 n) n:=fun i j hij hj=>by
  rw [g i (by omega),g j hj]
  exact hN _ _ (by omega) (by omega)
 obtain ⟨a,b,c⟩:=AS tr as (kas_rev p 0 n) (nrem - n) n h1 hS
 rw [e]
 exact ⟨a,by show evT lt (kas_asc (kas_rev p 0 n) (nrem - n) n)<=nrem; omega,mirror_perm _ _ _ _,c⟩
theorem nZ {n nrem:Nat} {p:Array Nat} (h1:1<=n) (hn:n+1<=nrem) (hz:nrem<=p.size) (hN:NIc lt p n) (hd:lt (pa' p n) (pa' p (n - 1))=true):
  1<=(evT lt (kas_descPart n nrem p)).1/\(evT lt (kas_descPart n nrem p)).1<=nrem/\(evT lt (kas_descPart n nrem p)).2.Perm p/\STo lt (evT lt (kas_descPart n nrem p)).2 (evT lt (kas_descPart n nrem p)).1:=by
 have hN':NIc lt p (n+1):=fun i j hij hj=>by
  rcases Nat.lt_or_eq_of_le (Nat.le_of_lt_succ hj) with hj | rfl
  ·exact hN i j hij hj
  ·rcases Nat.lt_or_eq_of_le hij with hi | rfl
   ·exact tr _ _ _ (as _ _ hd) (hN i (j - 1) (by omega) (by omega))
   ·exact dS as _
 have hE':∀ i j,n+1 - (0+1)<=i->i < n+1->n+1 - (0+1)<=j->j < n+1->lt (pa' p i) (pa' p j)=false:=fun i j h1 h2 h3 h4=>by
  have:i=j:=by omega
  subst this
  exact dS as _
 have D:=wB tr as (nrem - (n+1)) p (n+1) 0 (by omega) (by omega) hN' hE'
 have e:evT lt (kas_descPart n nrem p)=evT lt (if (evT lt (kas_desc (nrem - (n+1)) p (n+1) 0)).2.2 > 0 then kas_tail3 (evT lt (kas_desc (nrem - (n+1)) p (n+1) 0)).2.1 nrem (kas_rev (evT lt (kas_desc (nrem - (n+1)) p (n+1) 0)).1 ((evT lt (kas_desc (nrem - (n+1)) p (n+1) 0)).2.1 - ((evT lt (kas_desc (nrem - (n+1)) p (n+1) 0)).2.2+1)) (evT lt (kas_desc (nrem - (n+1)) p (n+1) 0)).2.1) else kas_tail3 (evT lt (kas_desc (nrem - (n+1)) p (n+1) 0)).2.1 nrem (evT lt (kas_desc (nrem - (n+1)) p (n+1) 0)).1):=by
  unfold kas_descPart
  rw [fC]
 generalize evT lt (kas_desc (nrem - (n+1)) p (n+1) 0)=r at D e
 obtain ⟨a1,a2,a3,a4,a5,a6⟩:=D
 have sz:r.1.size=p.size:=a1.size_eq
 rw [e]
 by_cases hq:r.2.2 > 0
 ·rw [if_pos hq]
  have hl:=rev_eq tr as (p:=r.1) (a:=r.2.1 - (r.2.2+1)) (n:=r.2.1) (by omega) a6
  obtain ⟨b1,b2,b3,b4⟩:=yZ tr as (n:=r.2.1) (nrem:=nrem) (p:=kas_rev r.1 (r.2.1 - (r.2.2+1)) r.2.1) (by omega) (by omega) (by unfold kas_rev; rw [mirror_size]; omega) (fun i j hij hj=>by rw [hl]; exact a5 i j hij hj)
  exact ⟨by omega,b2,(b3.trans (mirror_perm _ _ _ _)).trans a1,b4⟩
 ·rw [if_neg hq]
  obtain ⟨b1,b2,b3,b4⟩:=yZ tr as (n:=r.2.1) (nrem:=nrem) (p:=r.1) (by omega) (by omega) (by omega) a5
  exact ⟨by omega,b2,b3.trans a1,b4⟩
theorem qG (p:Array Nat):∀ f n,1<=n->evT lt (kas_asc p f n) < n+f->lt (pa' p (evT lt (kas_asc p f n))) (pa' p (evT lt (kas_asc p f n) - 1))=true
 | 0,n,_,h=>absurd h (Nat.lt_irrefl _)
 | f+1,n,h1,h=>by
  have e:evT lt (kas_asc p (f+1) n)=evT lt (if lt (p.getD n 0) (p.getD (n - 1) 0)=true then KasT.ret n else kas_asc p f (n+1)):=rfl
  rw [e] at h ⊢
  by_cases c:lt (p.getD n 0) (p.getD (n - 1) 0)=true
  ·rw [if_pos c]
   exact c
  ·rw [if_neg c] at h ⊢
   exact qG p f (n+1) (by omega) (by omega)
theorem EM {nrem:Nat} {p:Array Nat} (h1:1<=nrem) (hz:nrem<=p.size):
  1<=(evT lt (kas_count nrem p)).1/\(evT lt (kas_count nrem p)).1<=nrem/\(evT lt (kas_count nrem p)).2.Perm p/\STo lt (evT lt (kas_count nrem p)).2 (evT lt (kas_count nrem p)).1:=by
 have h0:STo lt p 1:=fun i j hij hj=>by
  have:i=j:=by omega
  subst this
  exact dS as _
 obtain ⟨a,b,c⟩:=AS tr as p (nrem - 1) 1 (Nat.le_refl _) h0
 have stop:=qG tr as p (nrem - 1) 1 (Nat.le_refl _)
 have e:evT lt (kas_count nrem p)=evT lt (if (evT lt (kas_asc p (nrem - 1) 1) == nrem)=true then .ret (evT lt (kas_asc p (nrem - 1) 1),p) else if evT lt (kas_asc p (nrem - 1) 1) > 1 then .ask (p.getD 0 0) (p.getD (evT lt (kas_asc p (nrem - 1) 1) - 1) 0) fun c=>if c=true then .ret (evT lt (kas_asc p (nrem - 1) 1),p) else kas_descPart (evT lt (kas_asc p (nrem - 1) 1)) nrem (kas_rev p 0 (evT lt (kas_asc p (nrem - 1) 1))) else kas_descPart (evT lt (kas_asc p (nrem - 1) 1)) nrem p):=by
  unfold kas_count
  rw [fC]
 generalize evT lt (kas_asc p (nrem - 1) 1)=n at a b c e stop
 rw [e]
 by_cases hn:(n == nrem)=true
 ·rw [if_pos hn]
  exact ⟨a,by show n<=nrem; omega,Array.Perm.refl _,c⟩
 ·rw [if_neg hn]
  have hn':n≠nrem:=by simpa using hn
  have st:=stop (by omega)
  by_cases h2:n > 1
  ·rw [if_pos h2]
   have e2:∀ k:Bool->KasT (Nat×Array Nat),evT lt (.ask (p.getD 0 0) (p.getD (n - 1) 0) k)=evT lt (k (lt (p.getD 0 0) (p.getD (n - 1) 0))):=fun _=>rfl
   rw [e2]
   by_cases h3:lt (p.getD 0 0) (p.getD (n - 1) 0)=true
   ·rw [if_pos h3]
    exact ⟨a,by show n<=nrem; omega,Array.Perm.refl _,c⟩
   ·rw [if_neg h3]
    have h3':lt (pa' p 0) (pa' p (n - 1))=false:=by simpa using h3
    have eq:∀ i j,0<=i->i < n->0<=j->j < n->lt (pa' p i) (pa' p j)=false:=fun i j _ hi _ hj=>by
     exact tr _ _ _ (c j (n - 1) (by omega) (by omega)) (tr _ _ _ h3' (c 0 i (by omega) hi))
    have hl:=rev_eq tr as (p:=p) (a:=0) (n:=n) (by omega) eq
    have g:pa' (kas_rev p 0 n) n=pa' p n:=by
     rw [eE,eE]
     unfold kas_rev
     rw [getElem?_mirror_all (by omega),if_neg (by omega)]
    obtain ⟨b1,b2,b3,b4⟩:=nZ tr as (n:=n) (nrem:=nrem) (p:=kas_rev p 0 n) a (by omega) (by unfold kas_rev; rw [mirror_size]; omega) (fun i j hij hj=>by rw [hl]; exact eq i j (by omega) (by omega) (by omega) hj) (by rw [hl]; exact st)
    exact ⟨b1,b2,b3.trans (mirror_perm _ _ _ _),b4⟩
  ·rw [if_neg h2]
   have hn1:n=1:=by omega
   subst hn1
   exact nZ tr as (n:=1) (nrem:=nrem) (p:=p) (Nat.le_refl _) (by omega) hz (fun i j hij hj=>by
    have:i=j:=by omega
    subst this
    exact dS as _) st
theorem qH (p:Array Nat) (k:Nat) (hS:STo lt p k):∀ f l r,r - l<=f->l<=r->r<=k->(∀ i,i < l->lt (pa' p k) (pa' p i)=false)->(∀ i,r<=i->i < k->lt (pa' p k) (pa' p i)=true)->
  l<=evT lt (kas_place p k f l r)/\evT lt (kas_place p k f l r)<=k/\(∀ i,i < evT lt (kas_place p k f l r)->lt (pa' p k) (pa' p i)=false)/\(∀ i,evT lt (kas_place p k f l r)<=i->i < k->lt (pa' p k) (pa' p i)=true)
 | 0,l,r,hf,hl,hr,h1,h2=>by
  have:l=r:=by omega
  subst this
  exact ⟨Nat.le_refl _,hr,h1,h2⟩
 | f+1,l,r,hf,hl,hr,h1,h2=>by
  have e:evT lt (kas_place p k (f+1) l r)=evT lt (if l >= r then .ret l else .ask (p.getD k 0) (p.getD ((l+r) / 2) 0) fun c=>if c=true then kas_place p k f l ((l+r) / 2) else kas_place p k f ((l+r) / 2+1) r):=rfl
  rw [e]
  by_cases hge:l >= r
  ·rw [if_pos hge]
   have:l=r:=by omega
   subst this
   exact ⟨Nat.le_refl _,hr,h1,h2⟩
  ·rw [if_neg hge]
   have e2:∀ q:Bool->KasT Nat,evT lt (.ask (p.getD k 0) (p.getD ((l+r) / 2) 0) q)=evT lt (q (lt (p.getD k 0) (p.getD ((l+r) / 2) 0))):=fun _=>rfl
   rw [e2]
   by_cases c:lt (p.getD k 0) (p.getD ((l+r) / 2) 0)=true
   ·rw [if_pos c]
    refine qH p k hS f l ((l+r) / 2) (by omega) (by omega) (by omega) h1 fun i hi hk=>?_
    cases q:lt (pa' p k) (pa' p i) with
    | true=>rfl
    | false=>
     have:=tr _ _ _ (hS ((l+r) / 2) i hi hk) q
     rw [show lt (pa' p k) (pa' p ((l+r) / 2))=true from c] at this
     exact this.symm
   ·rw [if_neg c]
    have c':lt (pa' p k) (pa' p ((l+r) / 2))=false:=by simpa using c
    obtain ⟨b1,b2,b3,b4⟩:=qH p k hS f ((l+r) / 2+1) r (by omega) (by omega) hr (fun i hi=>by
     cases q:lt (pa' p k) (pa' p i) with
     | false=>rfl
     | true=>
      exfalso
      have s1:=hS i ((l+r) / 2) (by omega) (by omega)
      have s2:=as _ _ q
      have:lt (pa' p k) (pa' p i)=false:=by
       -- p[mid]<=p[k] (c'),p[i]<=p[mid]
       exact tr _ _ _ s1 c'
      rw [q] at this
      cases this) h2
    exact ⟨by omega,b2,b3,b4⟩
theorem EN:∀ f (p:Array Nat) k,1<=k->k+f<=p.size->STo lt p k->(evT lt (kas_bin f p k)).Perm p/\STo lt (evT lt (kas_bin f p k)) (k+f)
 | 0,p,k,_,_,h=>⟨Array.Perm.refl _,h⟩
 | f+1,p,k,h1,hz,h=>by
  have e:evT lt (kas_bin (f+1) p k)=evT lt (kas_bin f (bubble p k (k - evT lt (kas_place p k k 0 k))) (k+1)):=by
   show evT lt ((kas_place p k k 0 k).bind fun l=>kas_bin f (bubble p k (k - l)) (k+1))=_
   rw [fC]
  obtain ⟨b1,b2,b3,b4⟩:=qH tr as p k h k 0 k (by omega) (Nat.zero_le _) (Nat.le_refl _) (fun i hi=>absurd hi (Nat.not_lt_zero _)) (fun i hi hk=>absurd hk (by omega))
  generalize evT lt (kas_place p k k 0 k)=l at e b1 b2 b3 b4
  have g:∀ i,pa' (bubble p k (k - l)) i=if i=l then pa' p k else if l < i/\i<=k then pa' p (i - 1) else pa' p i:=fun i=>by
   rw [eE,eE,eE,eE,getElem?_bubble (by omega) _ (by omega)]
   have el:k - (k - l)=l:=by omega
   rw [el]
   split
   ·rfl
   ·split <;> rfl
  have hS:STo lt (bubble p k (k - l)) (k+1):=fun i j hij hj=>by
   rw [g i,g j]
   by_cases hj1:j=l
   ·by_cases hi1:i=l
    ·rw [if_pos hj1,if_pos hi1]; exact dS as _
    ·rw [if_pos hj1,if_neg hi1,if_neg (by omega)]
     exact b3 i (by omega)
   ·rw [if_neg hj1]
    by_cases hi1:i=l
    ·rw [if_pos hi1,if_pos (by omega)]
     exact as _ _ (b4 (j - 1) (by omega) (by omega))
    ·rw [if_neg hi1]
     by_cases hj2:l < j/\j<=k
     ·rw [if_pos hj2]
      by_cases hi2:l < i/\i<=k
      ·rw [if_pos hi2]; exact h _ _ (by omega) (by omega)
      ·rw [if_neg hi2]; exact h _ _ (by omega) (by omega)
     ·rw [if_neg hj2,if_neg (by omega)]
      exact h _ _ hij (by omega)
  have ih:=EN f (bubble p k (k - l)) (k+1) (by omega) (by rw [bubble_size]; omega) hS
  rw [e]
  exact ⟨ih.1.trans (bubble_perm _ _ _),by rw [show k+(f+1)=k+1+f by omega]; exact ih.2⟩
theorem HS {n:Nat} (h1:1<=n):(evT lt (kas_sort n)).toList.Perm (List.range n)/\(evT lt (kas_sort n)).toList.Pairwise (fun i j=>lt j i=false):=by
 have e:evT lt (kas_sort n)=evT lt (if (evT lt (kas_count n (List.toArray (List.range n)))).1 < n then kas_bin (n - max (evT lt (kas_count n (List.toArray (List.range n)))).1 1) (evT lt (kas_count n (List.toArray (List.range n)))).2 (max (evT lt (kas_count n (List.toArray (List.range n)))).1 1) else .ret (evT lt (kas_count n (List.toArray (List.range n)))).2):=by
  unfold kas_sort
  rw [fC]
 obtain ⟨a1,a2,a3,a4⟩:=EM tr as (nrem:=n) (p:=List.toArray (List.range n)) h1 (by simp)
 generalize evT lt (kas_count n (List.toArray (List.range n)))=r at e a1 a2 a3 a4
 have fin:∀ p:Array Nat,p.Perm (List.toArray (List.range n))->STo lt p n->p.toList.Perm (List.range n)/\p.toList.Pairwise (fun i j=>lt j i=false):=fun p hp hs=>by
  have hsz:p.size=n:=by rw [hp.size_eq]; simp
  refine ⟨by simpa using Array.perm_iff_toList_perm.mp hp,?_⟩
  rw [List.pairwise_iff_getElem]
  intro i j hi hj hij
  have hi':i < p.size:=by simpa using hi
  have hj':j < p.size:=by simpa using hj
  have:=hs i j (Nat.le_of_lt hij) (by omega)
  simpa [pa',Array.getD,hi',hj'] using this
 rw [e]
 by_cases hlt:r.1 < n
 ·rw [if_pos hlt]
  have hm:max r.1 1=r.1:=by omega
  rw [hm]
  obtain ⟨b1,b2⟩:=EN tr as (n - r.1) r.2 r.1 a1 (by rw [a3.size_eq]; simp; omega) a4
  refine fin _ (b1.trans a3) ?_
  rw [show r.1+(n - r.1)=n by omega] at b2
  exact b2
 ·rw [if_neg hlt]
  have:r.1=n:=by omega
  exact fin _ a3 (this ▸ a4)
end
end L2
set_option Elab.async false
set_option linter.all false
set_option maxRecDepth 100000
namespace L2
open PySem PySem.Spec PyProof.Rows PySem.SeqAt PySem.W
def InP {α:Type} (n:Nat) (P:α->Prop):KasT α->Prop
 | .ret a=>P a
 | .ask i j k=>i < n/\j < n/\∀ b,InP n P (k b)
theorem InP.bind {α β:Type} {n:Nat} {P:α->Prop} {Q:β->Prop} {f:α->KasT β}:∀ {t:KasT α},InP n P t->(∀ a,P a->InP n Q (f a))->InP n Q (t.bind f)
 | .ret a,h,hf=>hf a h
 | .ask i j k,⟨h1,h2,h3⟩,hf=>⟨h1,h2,fun b=>InP.bind (h3 b) hf⟩
theorem InP.mono {α:Type} {n:Nat} {P Q:α->Prop} (hq:∀ a,P a->Q a):∀ {t:KasT α},InP n P t->InP n Q t
 | .ret a,h=>hq a h
 | .ask i j k,⟨h1,h2,h3⟩=>⟨h1,h2,fun b=>InP.mono hq (h3 b)⟩
def AllLt (n:Nat) (p:Array Nat):Prop:=∀ k,p.getD k 0 < n
theorem AllLt.of {n:Nat} {p q:Array Nat} (h:AllLt n p) (g:∀ k:Nat,q[k]?=none\/∃ k':Nat,q[k]?=p[k']?) (hn:0 < n):AllLt n q:=fun k=>by
 have e:∀ (r:Array Nat) k,r.getD k 0=(r[k]?).getD 0:=fun r k=>by simp [Array.getD_eq_getD_getElem?]
 rw [e]
 rcases g k with h1 | ⟨k',h1⟩
 ·rw [h1]; exact hn
 ·rw [h1,<- e]; exact h k'
theorem AllLt.perm {n:Nat} {p q:Array Nat} (h:AllLt n p) (hp:q.Perm p) (hn:0 < n):AllLt n q:=by
 refine AllLt.of h (fun k=>?_) hn
 cases e:q[k]? with
 | none=>exact .inl rfl
 | some v=>
  right
  have hm:v∈q.toList:=by
   have:q.toList[k]?=some v:=by simpa using e
   exact List.mem_of_getElem? this
  have hm':v∈p.toList:=(Array.perm_iff_toList_perm.mp hp).mem_iff.mp hm
  obtain ⟨k',hk⟩:=List.mem_iff_getElem?.mp hm'
  exact ⟨k',by rw [<- hk]; simp⟩
section
variable {n:Nat} (hn:0 < n)
include hn
theorem wC {p:Array Nat} (h:AllLt n p):∀ f m,InP n (fun _=>True) (kas_asc p f m)
 | 0,m=>trivial
 | f+1,m=>⟨h _,h _,fun b=>by
  cases b with
  | true=>exact trivial
  | false=>exact wC h f (m+1)⟩
theorem kX:∀ f (p:Array Nat) m q,AllLt n p->InP n (fun r=>AllLt n r.1) (kas_desc f p m q)
 | 0,p,m,q,h=>h
 | f+1,p,m,q,h=>⟨h _,h _,fun b=>by
  cases b with
  | true=>
   show InP n _ (if q > 0 then kas_desc f (kas_rev p (m - (q+1)) m) (m+1) 0 else kas_desc f p (m+1) 0)
   by_cases hq:q > 0
   ·rw [if_pos hq]; exact kX f _ _ _ (h.perm (mirror_perm _ _ _ _) hn)
   ·rw [if_neg hq]; exact kX f _ _ _ h
  | false=>exact ⟨h _,h _,fun d=>by
    cases d with
    | true=>exact h
    | false=>exact kX f _ _ _ h⟩⟩
theorem tT {p:Array Nat} (h:AllLt n p) (m r:Nat):InP n (fun x=>AllLt n x.2) (kas_tail3 m r p):=by
 unfold kas_tail3
 exact InP.bind (wC hn (h.perm (mirror_perm _ _ _ _) hn) _ _) fun a _=>h.perm (mirror_perm _ _ _ _) hn
theorem kY {p:Array Nat} (h:AllLt n p) (m r:Nat):InP n (fun x=>AllLt n x.2) (kas_descPart m r p):=by
 unfold kas_descPart
 refine InP.bind (kX hn _ _ _ _ h) fun a ha=>?_
 by_cases hq:a.2.2 > 0
 ·rw [if_pos hq]; exact tT hn (ha.perm (mirror_perm _ _ _ _) hn) _ _
 ·rw [if_neg hq]; exact tT hn ha _ _
theorem D1 {p:Array Nat} (h:AllLt n p) (r:Nat):InP n (fun x=>AllLt n x.2) (kas_count r p):=by
 unfold kas_count
 refine InP.bind (wC hn h _ _) fun a _=>?_
 by_cases h1:(a == r)=true
 ·rw [if_pos h1]; exact h
 ·rw [if_neg h1]
  by_cases h2:a > 1
  ·rw [if_pos h2]
   exact ⟨h _,h _,fun b=>by
    cases b with
    | true=>exact h
    | false=>exact kY hn (h.perm (mirror_perm _ _ _ _) hn) _ _⟩
  ·rw [if_neg h2]; exact kY hn h _ _
theorem nA {p:Array Nat} (h:AllLt n p) (k:Nat):∀ f l r,InP n (fun _=>True) (kas_place p k f l r)
 | 0,l,r=>trivial
 | f+1,l,r=>by
  show InP n _ (if l >= r then .ret l else .ask (p.getD k 0) (p.getD ((l+r) / 2) 0) fun c=>if c=true then kas_place p k f l ((l+r) / 2) else kas_place p k f ((l+r) / 2+1) r)
  by_cases hl:l >= r
  ·rw [if_pos hl]; exact trivial
  ·rw [if_neg hl]
   exact ⟨h _,h _,fun b=>by
    cases b with
    | true=>exact nA h k f _ _
    | false=>exact nA h k f _ _⟩
theorem C1:∀ f (p:Array Nat) k,AllLt n p->InP n (fun _=>True) (kas_bin f p k)
 | 0,p,k,_=>trivial
 | f+1,p,k,h=>InP.bind (nA hn h k _ _ _) fun l _=>C1 f _ _ (h.perm (bubble_perm _ _ _) hn)
theorem zA:InP n (fun _=>True) (kas_sort n):=by
 have h0:AllLt n (List.toArray (List.range n)):=fun k=>by
  by_cases hk:k < n
  ·simp [Array.getD,hk]
  ·simp [Array.getD,hk,hn]
 unfold kas_sort
 refine InP.bind (D1 hn h0 n) fun r hr=>?_
 by_cases h:r.1 < n
 ·rw [if_pos h]; exact C1 hn _ _ _ hr
 ·rw [if_neg h]; exact trivial
end
theorem zB {α:Type} {n:Nat} {cmp:Nat->Nat->(Bool->Shared->Prop)->Shared->Prop} {lt:Nat->Nat->Bool} {s:Shared} (hc:∀ i j C,i < n->j < n->C (lt i j) s->cmp i j C s) {Q:α->Shared->Prop} {P:α->Prop}:
  ∀ {t:KasT α},InP n P t->Q (evT lt t) s->t.kasWp cmp Q s
 | .ret _,_,h=>h
 | .ask i j k,⟨h1,h2,h3⟩,h=>hc i j _ h1 h2 (zB hc (h3 _) h)
def ltX (n:Nat) (lt:Nat->Nat->Bool) (i j:Nat):Bool:=if i < n then (if j < n then lt i j else true) else false
theorem Ky {n:Nat} {lt:Nat->Nat->Bool} (tr:∀ i j k,i < n->j < n->k < n->lt j i=false->lt k j=false->lt k i=false) (i j k:Nat) (h1:ltX n lt j i=false) (h2:ltX n lt k j=false):ltX n lt k i=false:=by
 unfold ltX at*
 by_cases hi:i < n <;> by_cases hj:j < n <;> by_cases hk:k < n <;> simp only [hi,hj,hk,if_true,if_false] at h1 h2 ⊢ <;> first | exact tr i j k hi hj hk h1 h2 | exact absurd h2 (by decide) | exact absurd h1 (by decide) | rfl
theorem Kz {n:Nat} {lt:Nat->Nat->Bool} (as:∀ i j,i < n->j < n->lt i j=true->lt j i=false) (i j:Nat) (h:ltX n lt i j=true):ltX n lt j i=false:=by
 unfold ltX at*
 by_cases hi:i < n <;> by_cases hj:j < n <;> simp only [hi,hj,if_true,if_false] at h ⊢ <;> first | exact as i j hi hj h | exact absurd h (by decide) | rfl
theorem tU {α:Type} {n:Nat} {lt lt':Nat->Nat->Bool} (h:∀ i j,i < n->j < n->lt i j=lt' i j) {P:α->Prop}:∀ {t:KasT α},InP n P t->evT lt t=evT lt' t
 | .ret _,_=>rfl
 | .ask i j k,⟨h1,h2,h3⟩=>by
  show evT lt (k (lt i j))=evT lt' (k (lt' i j))
  rw [h i j h1 h2]
  exact tU h (h3 _)
theorem EO {n:Nat} {lt:Nat->Nat->Bool} (tr:∀ i j k,i < n->j < n->k < n->lt j i=false->lt k j=false->lt k i=false) (as:∀ i j,i < n->j < n->lt i j=true->lt j i=false) (h1:1<=n):
  (evT lt (kas_sort n)).toList.Perm (List.range n)/\(evT lt (kas_sort n)).toList.Pairwise (fun i j=>lt j i=false):=by
 have e:evT lt (kas_sort n)=evT (ltX n lt) (kas_sort n):=tU (fun i j hi hj=>by unfold ltX; rw [if_pos hi,if_pos hj]) (zA (by omega))
 obtain ⟨a,b⟩:=HS (lt:=ltX n lt) (Ky tr) (Kz as) h1
 rw [e]
 refine ⟨a,b.imp_of_mem fun {i j} hi hj h=>?_⟩
 have hi':i < n:=by simpa using a.mem_iff.mp hi
 have hj':j < n:=by simpa using a.mem_iff.mp hj
 unfold ltX at h
 rw [if_pos hj',if_pos hi'] at h
 exact h
section
variable {prog:Program} {w:World} {A:Around} {E:Value->Shared->Prop} {s:Shared}
theorem oU {a:Addr} {vs:List Value} {n:Nat} {κ:SortKind} {P:PySem.Fin->Shared->Prop} (lt:Nat->Nat->Bool) (tr:∀ i j k,i < vs.length->j < vs.length->k < vs.length->lt j i=false->lt k j=false->lt k i=false) (as:∀ i j,i < vs.length->j < vs.length->lt i j=true->lt j i=false)
  (ho:s.heap.get? a=some (seqObj "list" vs.toArray n)) (h64:vs.length < 64)
  (hk:∀ s':Shared,(∀ b o,b≠a->s.heap.get? b=some o->s'.heap.get? b=some o)->∀ Q:SortKind->Shared->Prop,Q κ s'->wpAny (model prog w) A (keyKind' vs.toArray) Q E s')
  (hlt:∀ s':Shared,(∀ b o,b≠a->s.heap.get? b=some o->s'.heap.get? b=some o)->∀ i j,i < vs.length->j < vs.length->∀ Q:Bool->Shared->Prop,Q (lt i j) s'->wpAny (model prog w) A (keyLt' κ (vs.getD i Value.none) (vs.getD j Value.none)) Q (fun _ _=>False) s')
  (h:∀ p:List Nat,p.Perm (List.range vs.length)->p.Pairwise (fun i j=>lt j i=false)->P (.done (.ret .none)) { s with heap:=sortedHeap s.heap a vs (p.map fun i=>vs.getD i Value.none).toArray }):
  wpAny (model prog w) A (Builtin.«list.sort» ⟨[.ref a],[]⟩) P E s:=by
 rw [list_sort_plain]
 have ha:a < s.heap.objs.size:=Heap.lt_size ho
 refine wpAny_bind (listItems_at ho rfl ?_)
 refine wpAny_bind (listUpdate_at ho rfl ?_ (by rw [List.size_toArray,sizeLine_eq]; omega) (Nat.zero_le _))
 obtain ⟨e1,ho1⟩:∃ e1,(s.heap.update a (Obj.mapSeq fun _=>#[])).get? a=some (seqObj "list" #[] e1):=⟨_,get?_update_seq ho (fun _=>#[])⟩
 refine wpAny_bind (seqEpoch_at ho1 rfl ?_)
 refine wpAny_bind (wpAny_newTuple ?_ (by show vs.length<=_; rw [sizeLine_eq]; omega))
 refine wpAny_bind (wpAny_newList ?_ (Nat.zero_le _))
 refine wpAny_holding ?_
 have ho6:(((s.heap.update a (Obj.mapSeq fun _=>#[])).push (seqObj "tuple" vs.toArray 0)).push (seqObj "list" #[] 0)).get? a=some (seqObj "list" #[] e1):=by
  rw [Heap.get?_push_ne _ _ _ (by rw [size_push',Heap.size_update]; exact Nat.ne_of_lt (Nat.lt_succ_of_lt ha)),Heap.get?_push_ne _ _ _ (by rw [Heap.size_update]; exact Nat.ne_of_lt ha)]
  exact ho1
 have kept:∀ b o,b≠a->s.heap.get? b=some o->(((s.heap.update a (Obj.mapSeq fun _=>#[])).push (seqObj "tuple" vs.toArray 0)).push (seqObj "list" #[] 0)).get? b=some o:=fun b o hb e=>
  Heap.get?_push_of_some _ (Heap.get?_push_of_some _ ((Heap.get?_update_other s.heap (Obj.mapSeq fun _=>#[]) (Ne.symm hb)).trans e))
 show wpAny (model prog w) A _ P E { s with heap:=((s.heap.update a (Obj.mapSeq fun _=>#[])).push (seqObj "tuple" vs.toArray 0)).push (seqObj "list" #[] 0) }
 dsimp only
 have hsz:vs.toArray.size=vs.length:=by simp
 by_cases h2:vs.toArray.size < 2
 ·rw [if_pos h2,if_pos h2]
  refine wpAny_bind (wpAny_pure ?_)
  rw [StateT.run_pure]
  refine wpAny_bind (wpAny_pure ?_)
  dsimp only
  refine wpAny_bind (seqEpoch_at ho6 rfl ?_)
  refine wpAny_bind (listUpdate_at ho6 rfl ?_ (Nat.zero_le _) (hsz2:=by rw [Array.size_map]; show (pairsOf vs).size<=_; rw [pairsOf_size,sizeLine_eq]; omega))
  simp only [bne_self_eq_false,Bool.false_eq_true,if_false]
  have e:(vs.toArray.zip vs.toArray).map (·.2)=((List.range vs.length).map fun i=>vs.getD i Value.none).toArray:=by
   apply Array.toList_inj.mp
   apply List.ext_getElem?
   intro i
   by_cases hi:i < vs.length
   ·simp [hi]
   ·simp [hi]
  have key:=h (List.range vs.length) (List.Perm.refl _) (by
   rw [List.pairwise_iff_getElem]
   intro i j hi hj hij
   simp only [List.length_range] at hi hj
   omega)
  rw [<- e] at key
  exact wpAny_pure key
 ·rw [if_neg h2,if_neg h2]
  have h2':2<=vs.length:=by omega
  refine wpAny_bind (hk _ kept _ ?_)
  refine wpAny_bind (wpAny_mono (kat_run (ks:=vs) (vs:=vs) (E:=E) (Q:=fun st' s'=>s'={ s with heap:=((s.heap.update a (Obj.mapSeq fun _=>#[])).push (seqObj "tuple" vs.toArray 0)).push (seqObj "list" #[] 0) }/\arrOf st'=(evT lt (kas_sort vs.length)).map (kas_item (vs.toArray.zip vs.toArray))/\failedOf st'=none)
   (G:=fun p s'=>p=evT lt (kas_sort vs.length)/\s'={ s with heap:=((s.heap.update a (Obj.mapSeq fun _=>#[])).push (seqObj "tuple" vs.toArray 0)).push (seqObj "list" #[] 0) }) rfl h2' h64 (fun p st' s' _ a2 a3 a4=>⟨a4.2,by rw [a2,a4.1],a3⟩)
   (zB (n:=vs.length) (lt:=lt) (fun i j C hi hj hC=>hlt _ kept i j hi hj C hC) (zA (by omega)) ⟨rfl,rfl⟩)) ?_ fun _ _ e=>e)
  rintro ⟨⟨⟩,st'⟩ s' ⟨rfl,har,hf⟩
  dsimp only
  have hout:=kat_snds (ks:=vs) (vs:=vs) rfl har
  obtain ⟨c1,c2⟩:=EO tr as (by omega)
  refine wpAny_bind (seqEpoch_at ho6 rfl ?_)
  refine wpAny_bind (listUpdate_at ho6 rfl ?_ (Nat.zero_le _) (hsz2:=by
   have:(Array.map (fun x=>x.snd) (arrOf st')).size<=sizeLine:=by
    rw [hout,List.size_toArray,List.length_map,c1.length_eq,List.length_range,sizeLine_eq]
    omega
   first | exact this | exact Nat.le_succ_of_le this))
  rw [hf]
  simp only [bne_self_eq_false,Bool.false_eq_true,if_false]
  have key:=h _ c1 c2
  rw [<- hout] at key
  exact wpAny_pure key
end
end L2
set_option Elab.async false
set_option linter.all false
set_option maxRecDepth 100000
namespace L2
open PySem PySem.Spec PyProof.Rows PySem.SeqAt PySem.W
def kD:Key->D
 | .inl i=>.int i
 | .inr x=>.str x
def tD (ks:List Key):D:=.tup (ks.map kD)
theorem HU {K:PySem.W.Frag} {H:Hp} {k:Key} {v:V} (h:Rep K H (kD k) v):v=kV k:=by
 cases k <;> exact h
theorem HV {K:PySem.W.Frag} {H:Hp} (k:Key):Rep K H (kD k) (kV k):=by
 cases k <;> rfl
theorem tV {K:PySem.W.Frag} {H:Hp}:∀ {ks:List Key} {vs:List V},cH K H (ks.map kD) vs->vs=ks.map kV
 | [],[],_=>rfl
 | k :: ks,v :: vs,⟨h,r⟩=>by rw [HU h,tV (ks:=ks) r]; rfl
 | [],_ :: _,h=>h.elim
 | _ :: _,[],h=>h.elim
theorem tW {K:PySem.W.Frag} {H:Hp}:∀ (ks:List Key),cH K H (ks.map kD) (ks.map kV)
 | []=>trivial
 | k :: ks=>⟨HV k,tW ks⟩
abbrev dH (h:Heap):List Value->List (List Key)->Prop:=Paired fun v ks=>∃ a us,v=.ref a/\IsTup h a us.toArray/\aK (ks.map kV) us
theorem dH.kept {h h':Heap} (k:∀ b o,h.get? b=some o->h'.get? b=some o):∀ {vs:List Value} {kss:List (List Key)},dH h vs kss->dH h' vs kss
 | _,_,.nil=>.nil
 | _,_,.cons ⟨a,us,e,⟨o,ho,r⟩,q⟩ t=>.cons ⟨a,us,e,⟨o,k a o ho,r⟩,q⟩ (dH.kept k t)
theorem dH.get {h:Heap}:∀ {vs:List Value} {kss:List (List Key)} {i:Nat},dH h vs kss->i < vs.length->∃ a us,vs.getD i Value.none=.ref a/\IsTup h a us.toArray/\aK ((kss.getD i []).map kV) us
 | _,_,i,.nil,hi=>by simp at hi
 | _,_,0,.cons ⟨a,us,e,p,q⟩ t,hi=>⟨a,us,by simpa using e,p,by simpa using q⟩
 | _,_,i+1,.cons _ t,hi=>by
  obtain ⟨a,us,e,p,q⟩:=dH.get (i:=i) t (by simpa using hi)
  exact ⟨a,us,by simpa using e,p,by simpa using q⟩
theorem qI {X:Cx} {pins:List (Addr×Obj)} {σ:St} {H:Hp} {s:Shared} (I:Inv X pins σ H s):∀ {kss:List (List Key)} {vs:List V} {us:List Value},cH X.K H (kss.map tD) vs->aK vs us->dH s.heap us kss
 | [],[],_,_,.nil=>.nil
 | ks :: kss,v :: vs,_,⟨⟨a,ws,e,q,r⟩,rs⟩,.cons rv rvs=>by
  subst e
  cases rv
  obtain ⟨its,r2,p,_⟩:=I.tuple q
  rw [tV r] at r2
  exact .cons ⟨a,its,rfl,p,r2⟩ (qI I rs rvs)
 | [],_ :: _,_,h,_=>h.elim
 | _ :: _,[],_,h,_=>h.elim
section
variable {prog:Program} {w:World} {A:Around} {E:Value->Shared->Prop} {s:Shared}
theorem iH {b:Bool} {Q:Bool->Shared->Prop}:∀ (ks ls:List Key) (us ws:List Value) (i:Nat),aK (ks.map kV) us->aK (ls.map kV) ws->shape ks=shape ls->Q (cI ks ls) s->KatLex prog w A b false Q (us.zip ws) i s
 | [],[],_,_,i,.nil,.nil,_,h=>h
 | [],_ :: _,_,_,_,_,_,e,_=>by cases e
 | _ :: _,[],_,_,_,_,_,e,_=>by cases e
 | x :: ks,y :: ls,_,_,i,.cons (b:=u) r1 t1,.cons (b:=v) r2 t2,e,h=>by
  have s1:cF x=cF y:=by simpa using congrArg List.head? e
  have s2:shape ks=shape ls:=by simpa using congrArg List.tail e
  rw [List.zip_cons_cons]
  unfold cI at h
  cases x with
  | inl a=>
   cases y with
   | inr c=>cases s1
   | inl c=>
    obtain ⟨t,rfl⟩:=r1
    obtain ⟨t',rfl⟩:=r2
    refine kat_cons (EqAt.int_int a t c t' prog w _ _ ?_)
    by_cases ac:a=c
    ·subst ac
     rw [if_pos rfl] at h
     rw [beq_self_eq_true]
     exact kat_yes (iH ks ls _ _ (i+1) t1 t2 s2 h)
    ·rw [if_neg (fun z=>ac (Sum.inl.inj z))] at h
     rw [beq_eq_false_iff_ne.mpr ac]
     refine kat_no ?_
     cases hb:(b && i == 0) with
     | true=>exact oneLt_int h
     | false=>exact kat_one _ _ (lt_int (show PySem.W.BoolBack Q (.bool (decide (a < c))) s from h))
  | inr a=>
   cases y with
   | inl c=>cases s1
   | inr c=>
    obtain ⟨t,rfl⟩:=r1
    obtain ⟨t',rfl⟩:=r2
    refine kat_cons (EqAt.str_str a t c t' prog w _ _ ?_)
    by_cases ac:a=c
    ·subst ac
     rw [if_pos rfl] at h
     rw [beq_self_eq_true]
     exact kat_yes (iH ks ls _ _ (i+1) t1 t2 s2 h)
    ·rw [if_neg (fun z=>ac (Sum.inr.inj z))] at h
     rw [beq_eq_false_iff_ne.mpr ac]
     refine kat_no ?_
     cases hb:(b && i == 0) with
     | true=>exact oneLt_str h
     | false=>exact kat_one _ _ (lt_str (show PySem.W.BoolBack Q (.bool (decide (a.cps.toList < c.cps.toList))) s from h))
theorem AU {b:Bool} {x y:Addr} {us ws:List Value} {ks ls:List Key} {Q:Bool->Shared->Prop} (hx:IsTup s.heap x us.toArray) (hy:IsTup s.heap y ws.toArray) (r1:aK (ks.map kV) us) (r2:aK (ls.map kV) ws) (e:shape ks=shape ls) (h:Q (cI ks ls) s):
  wpAny (model prog w) A (keyLt' (tuples' b) (.ref x) (.ref y)) Q E s:=by
 obtain ⟨ox,hox,_,n,dx⟩:=hx
 obtain ⟨oy,hoy,_,m,dy⟩:=hy
 refine kat_lt hox dx hoy dy ?_
 have l1:=r1.length
 have l2:=r2.length
 have l3:ks.length=ls.length:=by simpa using congrArg List.length e
 rw [List.length_map] at l1 l2
 have hf:decide (us.toArray.size < ws.toArray.size)=false:=decide_eq_false (by simp; omega)
 rw [hf]
 exact iH ks ls us ws 0 r1 r2 e h
theorem qJ {h:Heap} {b:Bool} {sh:List Bool}:∀ {vs:List Value} {kss:List (List Key)},dH h vs kss->(∀ ks∈kss,shape ks=b :: sh)->∃ fs:List Value,fs.length=vs.length/\KatTups h vs fs/\∀ f∈fs,typeOf f=pure (.type (if b then "int" else "str"))
 | _,_,.nil,_=>⟨[],rfl,KatTups.nil,fun _ hf=>nomatch hf⟩
 | _,_,.cons (b:=ks) ⟨a,us,e,⟨o,ho,hc,n,hd⟩,r⟩ t,hs=>by
  obtain ⟨fs,hl,ht,hT⟩:=qJ t fun x hx=>hs x (List.mem_cons_of_mem _ hx)
  have h0:=hs ks List.mem_cons_self
  subst e
  cases ks with
  | nil=>cases h0
  | cons k ks=>
   cases r with
   | cons rk rks=>
    rename_i u us'
    have hk:cF k=b:=by simpa using congrArg List.head? h0
    refine ⟨u :: fs,by simp [hl],KatTups.cons ho hc hd (by simp) ht,fun f hf=>?_⟩
    rcases List.mem_cons.mp hf with rfl | hf
    ·cases k with
     | inl i=>obtain ⟨tk,rfl⟩:=rk; subst hk; rfl
     | inr x=>obtain ⟨tk,rfl⟩:=rk; subst hk; rfl
    ·exact hT f hf
theorem D2 {vs:List Value} {kss:List (List Key)} {b:Bool} {sh:List Bool} {Q:SortKind->Shared->Prop} (t:dH s.heap vs kss) (hs:∀ ks∈kss,shape ks=b :: sh) (h0:0 < vs.length) (h:Q (tuples' true) s):wpAny (model prog w) A (keyKind' vs.toArray) Q E s:=by
 obtain ⟨fs,hl,ht,hT⟩:=qJ t hs
 refine kat_kind (T:=.type (if b then "int" else "str")) ht (by omega) (fun v hv=>by rw [hT v hv]; exact Looks.now) (by cases b <;> rfl) ?_
 have:((Value.type (if b then "int" else "str")) != Value.type "tuple")=true:=by cases b <;> rfl
 rw [this]
 exact h
theorem nB {a:Addr} {n:Nat} {P:PySem.Fin->Shared->Prop} (ho:s.heap.get? a=some (seqObj "list" ([]:List Value).toArray n)) (h:P (.done (.ret .none)) { s with heap:=sortedHeap s.heap a [] #[] }):wpAny (model prog w) A (Builtin.«list.sort» ⟨[.ref a],[]⟩) P E s:=by
 rw [list_sort_plain]
 refine wpAny_bind (listItems_at ho rfl ?_)
 refine wpAny_bind (listUpdate_at ho rfl ?_ (Nat.zero_le _) (Nat.zero_le _))
 have ha:a < s.heap.objs.size:=Heap.lt_size ho
 obtain ⟨e1,ho1⟩:∃ e1,(s.heap.update a (Obj.mapSeq fun _=>#[])).get? a=some (seqObj "list" #[] e1):=⟨_,get?_update_seq ho (fun _=>#[])⟩
 refine wpAny_bind (seqEpoch_at ho1 rfl ?_)
 refine wpAny_bind (wpAny_newTuple ?_ (Nat.zero_le _))
 refine wpAny_bind (wpAny_newList ?_ (Nat.zero_le _))
 refine wpAny_holding ?_
 have ho6:(((s.heap.update a (Obj.mapSeq fun _=>#[])).push (seqObj "tuple" ([]:List Value).toArray 0)).push (seqObj "list" #[] 0)).get? a=some (seqObj "list" #[] e1):=by
  rw [Heap.get?_push_ne _ _ _ (by rw [size_push',Heap.size_update]; exact Nat.ne_of_lt (Nat.lt_succ_of_lt ha)),Heap.get?_push_ne _ _ _ (by rw [Heap.size_update]; exact Nat.ne_of_lt ha)]
  exact ho1
 show wpAny (model prog w) A _ P E { s with heap:=((s.heap.update a (Obj.mapSeq fun _=>#[])).push (seqObj "tuple" ([]:List Value).toArray 0)).push (seqObj "list" #[] 0) }
 dsimp only
 rw [if_pos (by decide),if_pos (by decide)]
 refine wpAny_bind (wpAny_pure ?_)
 rw [StateT.run_pure]
 refine wpAny_bind (wpAny_pure ?_)
 dsimp only
 refine wpAny_bind (seqEpoch_at ho6 rfl ?_)
 have e0:(Array.map (fun x=>x.snd) (arrOf (SortSt.mk' general' ((#[]:Array Value).zip (#[]:Array Value)) #[] 7 none)))=(#[]:Array Value):=by
  show Array.map (fun x=>x.snd) ((#[]:Array Value).zip (#[]:Array Value))=#[]
  simp
 refine wpAny_bind (listUpdate_at ho6 rfl ?_ (Nat.zero_le _) (hsz2:=by
  have e1:(Array.map (fun x=>x.snd) (arrOf (SortSt.mk' general' ((#[]:Array Value).zip (#[]:Array Value)) #[] 7 none))).size=0:=by rw [e0]; rfl
  first | exact Nat.le_trans (Nat.le_of_eq e1) (Nat.zero_le _) | (show _<=_; omega)))
 simp only [bne_self_eq_false,Bool.false_eq_true,if_false]
 refine wpAny_pure ?_
 show P (.done (.ret .none)) { s with heap:=(((s.heap.update a (Obj.mapSeq fun x=>#[])).push (seqObj "tuple" ([]:List Value).toArray 0)).push (seqObj "list" #[] 0)).update a (Obj.mapSeq fun x=>Array.map (fun x=>x.snd) (arrOf (SortSt.mk' general' ((#[]:Array Value).zip (#[]:Array Value)) #[] 7 none))) }
 rw [e0]
 exact h
theorem D3 {v:Value} {Q:Value->Shared->Prop} {κ:SortKind} (Col:List Value->Shared->Prop) (hc:wpAny (model prog w) A.in1 (collect v) Col E s)
  (h:∀ vs s1,Col vs s1->vs.length < 64/\∃ lt:Nat->Nat->Bool,(∀ i j k,i < vs.length->j < vs.length->k < vs.length->lt j i=false->lt k j=false->lt k i=false)/\(∀ i j,i < vs.length->j < vs.length->lt i j=true->lt j i=false)/\
   (∀ (A':Around) (s':Shared),(∀ b o,s1.heap.get? b=some o->s'.heap.get? b=some o)->0 < vs.length->∀ (Q:SortKind->Shared->Prop) E',Q κ s'->wpAny (model prog w) A' (keyKind' vs.toArray) Q E' s')/\
   (∀ (s':Shared),(∀ b o,s1.heap.get? b=some o->s'.heap.get? b=some o)->∀ i j,i < vs.length->j < vs.length->∀ Q:Bool->Shared->Prop,Q (lt i j) s'->wpAny (model prog w) A.in1.in1 (keyLt' κ (vs.getD i Value.none) (vs.getD j Value.none)) Q (fun _ _=>False) s')/\
   ∀ (p:List Nat) (h':Heap) (e:Nat),p.Perm (List.range vs.length)->p.Pairwise (fun i j=>lt j i=false)->(∀ b o,s1.heap.get? b=some o->h'.get? b=some o)->h'.get? s1.heap.objs.size=some (seqObj "list" (p.map fun i=>vs.getD i Value.none).toArray e)->Q (.ref s1.heap.objs.size) { s1 with heap:=h' }):
  wpAny (model prog w) A (call (.builtin "sorted") [v]) Q E s:=by
 refine Calls.call_function_entry kind_sorted plain_sorted entry_sorted (args_sorted1 _) ?_
 unfold Builtin.«sorted»
 refine wpAny_bind (m:=checkCount "sorted" 1 1 _) (wpAny_pure ?_)
 refine wpAny_bind (wpAny_mono hc (fun vs s1 c=>?_) fun _ _ x=>x)
 obtain ⟨h64,lt,tr,as,hk,hlt,fin⟩:=h vs s1 c
 refine wpAny_bind (wpAny_newList ?_ (by rw [sizeLine_eq]; omega))
 have hoL:(s1.heap.push (seqObj "list" vs.toArray 0)).get? s1.heap.objs.size=some (seqObj "list" vs.toArray 0):=Heap.get?_push_size _ rfl
 have keep:∀ b o,s1.heap.get? b=some o->b≠s1.heap.objs.size/\(s1.heap.push (seqObj "list" vs.toArray 0)).get? b=some o:=fun b o q=>⟨Nat.ne_of_lt (Heap.lt_size q),Heap.get?_push_of_some _ q⟩
 show wpAny _ _ _ _ _ { s1 with heap:=s1.heap.push (seqObj "list" vs.toArray 0) }
 refine wpAny_bind (wpAny_holding (wpAny_call_entry slot_list_sort ⟨_,hoL,rfl⟩ entry_list_sort ?_ (args_list_sort _)))
 have tree:wpAny (model prog w) A.in1.in1 (Builtin.«list.sort» ⟨[.ref s1.heap.objs.size],[]⟩) (fun r s'=>∃ p:List Nat,r=.done (.ret .none)/\p.Perm (List.range vs.length)/\p.Pairwise (fun i j=>lt j i=false)/\s'={ s1 with heap:=sortedHeap (s1.heap.push (seqObj "list" vs.toArray 0)) s1.heap.objs.size vs (p.map fun i=>vs.getD i Value.none).toArray }) E { s1 with heap:=s1.heap.push (seqObj "list" vs.toArray 0) }:=by
  by_cases h0:0 < vs.length
  ·exact oU (κ:=κ) lt tr as hoL h64 (fun s' kp Q hq=>hk _ s' (fun b o e=>kp b o (keep b o e).1 (keep b o e).2) h0 Q _ hq) (fun s' kp i j hi hj Q hq=>hlt s' (fun b o e=>kp b o (keep b o e).1 (keep b o e).2) i j hi hj Q hq) fun p a1 a2=>⟨p,rfl,a1,a2,rfl⟩
  ·have e0:vs=[]:=List.length_eq_zero_iff.mp (by omega)
   subst e0
   exact nB hoL ⟨[],rfl,List.Perm.refl _,List.Pairwise.nil,rfl⟩
 refine wpAny_mono tree (fun r s' hr=>?_) fun _ _ x=>x
 obtain ⟨p,rfl,a1,a2,rfl⟩:=hr
 refine ⟨_,rfl,wpAny_pure ⟨_,rfl,?_⟩⟩
 obtain ⟨e,he⟩:=sortedHeap_at (h:=s1.heap.push (seqObj "list" vs.toArray 0)) (out:=(p.map fun i=>vs.getD i Value.none).toArray) hoL
 exact fin p _ e a1 a2 (fun b o q=>(sortedHeap_old (keep b o q).1 (by rw [size_push']; exact Nat.lt_succ_of_lt (Heap.lt_size q))).trans (keep b o q).2) he
end
end L2
set_option Elab.async false
set_option linter.all false
set_option maxRecDepth 100000
namespace L2
open PySem PySem.Spec PyProof.Rows PySem.SeqAt PySem.W
def nC (H:Hp) (ps:List (Addr×List V)):Hp:=fun b=>match ps.lookup b with
 | some xs=>some (.tup xs)
 | none=>H b
theorem oA {κ:Type} {x:Addr} {k:κ}:∀ {l:List (Addr×κ)},l.lookup x=some k->(x,k)∈l
 | [],h=>by simp at h
 | (n,v) :: r,h=>by
  by_cases hx:x=n
  ·subst hx
   simp only [List.lookup_cons,beq_self_eq_true] at h
   cases h
   exact List.mem_cons_self
  ·have:(x == n)=false:=by simpa using hx
   simp only [List.lookup_cons,this] at h
   exact List.mem_cons_of_mem _ (oA h)
theorem kZ {κ:Type} {x:Addr}:∀ {l:List (Addr×κ)},(∀ p∈l,p.1≠x)->l.lookup x=none
 | [],_=>rfl
 | (n,v) :: r,h=>by
  have hx:(x == n)=false:=by
   have:=h (n,v) List.mem_cons_self
   simpa using fun e:x=n=>this e.symm
  simp only [List.lookup_cons,hx]
  exact kZ fun p hp=>h p (List.mem_cons_of_mem _ hp)
theorem zC {H:Hp} {ps:List (Addr×List V)} {b:Addr} (h:∀ p∈ps,p.1≠b):nC H ps b=H b:=by
 unfold nC; rw [kZ h]
theorem zD {H:Hp}:∀ {ps:List (Addr×List V)} {j:Nat} {a:Addr} {xs:List V},(ps.map (·.1)).Nodup->ps[j]?=some (a,xs)->nC H ps a=some (.tup xs)
 | [],_,_,_,_,h=>by simp at h
 | (n,v) :: r,0,a,xs,_,h=>by
  simp at h
  obtain ⟨rfl,rfl⟩:=h
  unfold nC
  simp [List.lookup_cons]
 | (n,v) :: r,j+1,a,xs,nd,h=>by
  have nd':(n :: r.map (·.1)).Nodup:=nd
  obtain ⟨n1,n2⟩:=List.nodup_cons.mp nd'
  have h':r[j]?=some (a,xs):=by simpa using h
  have ne:(a == n)=false:=by
   have:a∈r.map (·.1):=List.mem_map.mpr ⟨_,List.mem_of_getElem? h',rfl⟩
   simpa using fun e:a=n=>n1 (e ▸ this)
  have ih:=zD (H:=H) n2 h'
  unfold nC at ih ⊢
  simp only [List.lookup_cons,ne]
  exact ih
section
variable {X:Cx} {pins:List (Addr×Obj)} {σ:St} {H:Hp} {s:Shared} {h':Heap}
theorem Inv.laidT {ps:List (Addr×List V)} {t':Nat} (I:Inv X pins σ H s) (k:∀ b u,s.heap.get? b=some u->h'.get? b=some u) (hp:∀ p∈ps,s.heap.objs.size<=p.1) (new:∀ p∈ps,p.2.length<=sizeLine/\∃ its:List Value,aK p.2 its/\kO h' p.1 its.toArray):
  Inv X pins σ (nC H ps) { s with heap:=h',toks:=t' }:=by
 have nb:∀ b,b < s.heap.objs.size->∀ p∈ps,p.1≠b:=fun b hb p hp' e=>Nat.lt_irrefl _ (Nat.lt_of_lt_of_le hb (e ▸ hp p hp'))
 have old:∀ b,b < s.heap.objs.size->nC H ps b=H b:=fun b hb=>zC (nb b hb)
 refine I.un ⟨fun b u q _ _ _=>k b u q,fun b u q _ _ _=>⟨u.slots,k b u q⟩,fun b u q n _=>(old b (Heap.lt_size q)).trans n,fun b u q _=>⟨u,k b u q⟩,fun b xs q=>(old b (I.hok.lt q)).trans q,fun b u xs q=>(old b (I.hok.lt q)).trans q,fun b ps' q=>⟨#[],by rw [old b (I.hok.lt q),q]; simp⟩⟩ ?_
 intro b u e
 unfold nC at e
 cases q:ps.lookup b with
 | some xs=>
  rw [q] at e
  cases e
  obtain ⟨z,its,r,p⟩:=new _ (oA q)
  exact ⟨z,its,r,p⟩
 | none=>
  rw [q] at e
  have hb:=I.hok.lt e
  exact (I.hok b u e).stay (fun c v _ q=>k c v q) (fun c q=>(old c (I.hok.lt q)).trans q) fun c xs q=>(old c (I.hok.lt q)).trans q
theorem D4 (I:Inv X pins σ H s) {ps:List (Addr×List V)} (hp:∀ p∈ps,s.heap.objs.size<=p.1):yR H (nC H ps):=fun b o e=>by
 have nb:∀ p∈ps,p.1≠b:=fun p hp' z=>Nat.lt_irrefl _ (Nat.lt_of_lt_of_le (I.hok.lt e) (z ▸ hp p hp'))
 rw [zC nb]
 exact e
end
def AV (v d:Addr):HO:=.ext fun h=>h.IsItemsView v d
section
variable {X:Cx}
def ER:V->List V->Hp->VK->Prop:=fun x xs H Q=>∃ d kvs,x=.ref d/\xs=[]/\H d=some (.dK kvs)/\∀ l,H l=none->Q (.ref l) (upd H l (AV l d))
theorem ES:MtR X "dict.items" ER:=by
 intro pins s σ H x xs v us Q I rx rv h
 obtain ⟨d,kvs,rfl,rfl,hd,q⟩:=h
 cases rx
 cases rv
 obtain ⟨z,y,vs,r,D⟩:=I.hok d _ hd
 refine call_meetsIn PySem.F.slot_dict_items D.typeIs PySem.F.entry_dict_items (PySem.F.args_dict_items_1 _) (meets_dict_items (aZ X.prog X.w) d y) ⟨⟨vs,D⟩,?_⟩
 refine ⟨.ref s.heap.objs.size,_,I.laid (t':=s.toks) (o:=AV s.heap.objs.size d) (fun b u e=>Heap.get?_push_of_some _ e) (Nat.le_refl _) ?_,rfl,q _ I.fresh⟩
 exact ⟨⟨_,Heap.get?_push_size _ rfl,rfl,rfl⟩,⟨_,Heap.get?_push_size _ rfl⟩,fun h1 h2 ⟨o,e,p⟩ k=>⟨o,k o e,p⟩⟩
def wD (K:PySem.W.Frag) (kss:List (List Key)) (Q:VK) (H1:Hp):Prop:=∀ (l:Addr) (kss':List (List Key)) (vs':List V),H1 l=none->kss'.Perm kss->kss'.Pairwise (fun a b=>cI b a=false)->cH K H1 (kss'.map tD) vs'->Q (.ref l) (upd H1 l (.lst vs'))
def KA (K:PySem.W.Frag):List V->Hp->VK->Prop:=fun xs H Q=>∃ (p:Addr) (kss:List (List Key)) (sh:List Bool) (b:Bool),xs=[.ref p]/\kss.length < 64/\(∀ ks∈kss,shape ks=b :: sh)/\
 ((∃ vs,SqL K H p vs/\cH K H (kss.map tD) vs/\wD K kss Q H)\/
  (∃ d kvs,H p=some (AV p d)/\H d=some (.dK kvs)/\kvs.map (fun kv=>[kV kv.1,kv.2])=kss.map (fun ks=>ks.map kV)/\∀ H1,yR H H1->wD K kss Q H1))
theorem D5 {α:Type} {xs:List α} {d:α} {p:List Nat} (h:p.Perm (List.range xs.length)):(p.map fun i=>xs.getD i d).Perm xs:=by
 have e:(List.range xs.length).map (fun i=>xs.getD i d)=xs:=by
  apply List.ext_getElem?
  intro i
  by_cases hi:i < xs.length
  ·simp [hi]
  ·simp [hi]
 have:=h.map fun i=>xs.getD i d
 rwa [e] at this
theorem tX {K:PySem.W.Frag} {H:Hp} {ds:List D} {vs:List V} (r:cH K H ds vs):∀ {p:List Nat},(∀ i∈p,i < ds.length)->cH K H (p.map fun i=>ds.getD i .non) (p.map fun i=>vs.getD i .non)
 | [],_=>trivial
 | i :: p,h=>by
  have hi:=h i List.mem_cons_self
  have g:ds[i]?=some (ds.getD i .non):=by simp [hi]
  obtain ⟨v,hv,hr⟩:=r.at g
  have e:vs.getD i .non=v:=by simp [List.getD_eq_getElem?_getD,hv]
  refine ⟨?_,tX r fun j hj=>h j (List.mem_cons_of_mem _ hj)⟩
  show Rep K H (ds.getD i .non) (vs.getD i .non)
  rw [e]
  exact hr
theorem tY {vs:List V} {us:List Value} (r:aK vs us):∀ {p:List Nat},(∀ i∈p,i < vs.length)->aK (p.map fun i=>vs.getD i .non) (p.map fun i=>us.getD i Value.none)
 | [],_=>.nil
 | i :: p,h=>by
  have hi:=h i List.mem_cons_self
  have g:vs[i]?=some (vs.getD i .non):=by simp [hi]
  obtain ⟨u,hu,hr⟩:=r.get g
  have e:us.getD i Value.none=u:=by simp [List.getD_eq_getElem?_getD,hu]
  refine .cons ?_ (tY r fun j hj=>h j (List.mem_cons_of_mem _ hj))
  show RelV (vs.getD i .non) (us.getD i Value.none)
  rw [e]
  exact hr
theorem wF (hc:X.calm=true) (K:PySem.W.Frag) (hK:X.K=K):bE X (.builtin "sorted") (KA K):=by
 subst hK
 intro pins s σ H xs us Q I r h
 obtain ⟨p,kss,sh,b,rfl,h64,hsh,h⟩:=h
 obtain ⟨u,rfl,ru⟩:=vals1 r
 cases ru
 have shOf:∀ i,i < kss.length->shape (kss.getD i [])=b :: sh:=fun i hi=>by
  have:kss.getD i []=kss[i]:=by simp [hi]
  rw [this]
  exact hsh _ (List.getElem_mem hi)
 refine D3 (κ:=tuples' true) (fun its s1=>∃ H1 vs,Inv X pins σ H1 s1/\aK vs its/\cH X.K H1 (kss.map tD) vs/\wD X.K kss Q H1) ?col ?fin
 case fin=>
  rintro its s1 ⟨H1,vs,I1,rv,rr,fin⟩
  have l1:=rv.length
  have l2:kss.length=vs.length:=by simpa using rr.length
  have hlen:its.length=kss.length:=by omega
  have tk:=qI I1 rr rv
  refine ⟨by omega,fun i j=>cI (kss.getD i []) (kss.getD j []),fun i j k hi hj hk h1 h2=>?_,fun i j _ _ h=>wA h,fun A' s' kp h0 Q' E' hq=>?_,fun s' kp i j hi hj Q' hq=>?_,fun q h' e a1 a2 kp he=>?_⟩
  ·exact pB ((shOf i (by omega)).trans (shOf j (by omega)).symm) ((shOf j (by omega)).trans (shOf k (by omega)).symm) h1 h2
  ·exact D2 (tk.kept kp) hsh h0 hq
  ·obtain ⟨a,ua,e1,p1,r1⟩:=(tk.kept kp).get hi
   obtain ⟨c,uc,e2,p2,r2⟩:=(tk.kept kp).get hj
   rw [e1,e2]
   exact AU p1 p2 r1 r2 ((shOf i (by omega)).trans (shOf j (by omega)).symm) hq
  ·have hin:∀ i∈q,i < kss.length:=fun i hi=>by
    have:=a1.mem_iff.mp hi
    rw [List.mem_range] at this
    omega
   rw [hlen] at a1
   have rr':=tX rr (p:=q) (fun i hi=>by rw [List.length_map]; exact hin i hi)
   have em:(q.map fun i=>(kss.map tD).getD i .non)=(q.map fun i=>kss.getD i []).map tD:=by
    rw [List.map_map]
    apply List.map_congr_left
    intro i hi
    have:=hin i hi
    simp [this]
   rw [em] at rr'
   refine ⟨.ref s1.heap.objs.size,_,I1.laid (t':=s1.toks) (o:=.lst (q.map fun i=>vs.getD i .non)) kp (Nat.le_refl _) ?_,rfl,fin _ _ _ I1.fresh (D5 a1) ?_ rr'⟩
   ·refine ⟨?_,q.map (fun i=>its.getD i Value.none),e,tY rv (fun i hi=>by have:=hin i hi; omega),he⟩
    rw [List.length_map,a1.length_eq,List.length_range,sizeLine_eq]
    omega
   ·rw [List.pairwise_map]
    exact a2
 case col=>
  rcases h with ⟨vs,hq,rr,fin⟩ | ⟨d,kvs,hv,hd,hk,fin⟩
  ·obtain ⟨its,rv,pl,hz⟩:=I.list hq
   refine collect_list pl.isList ?_ (by have:=rv.length; omega)
   exact ⟨H,vs,I.kept (t':=s.toks) fun b o e=>by
    have hlt:b < s.heap.objs.size:=Heap.lt_size e
    first
     | (rw [Heap.get?_update_ne _ _ _ _ (Nat.ne_of_lt hlt),Heap.get?_push_ne _ _ _ (Nat.ne_of_lt hlt)]; exact e)
     | exact Heap.get?_push_of_some _ e,rv,rr,fin⟩
  ·obtain ⟨hview,_,_⟩:=I.hok p _ hv
   obtain ⟨z,y,vs,rkv,D⟩:=I.hok d _ hd
   obtain ⟨ep,D'⟩:=D.dictAt
   have lkv:kvs.length=vs.length:=KV.length rkv
   have lks:kvs.length=kss.length:=by simpa using congrArg List.length hk
   refine kdx_collect (A:=X.A.in1) (knd:=aZ X.prog X.w) (kvs:=vs) (ep:=ep) (I.ok.hd hc) hview D' (by rw [sizeLine_eq]; omega) fun h' tk as kp hl hG=>?_
   -- the new tuples
   let ps:List (Addr×List V):=as.zip (kss.map fun ks=>ks.map kV)
   have psl:ps.map (·.1)=as:=by
    show (as.zip _).map Prod.fst=as
    rw [List.map_fst_zip]
    rw [List.length_map]
    omega
   have hpl:∀ q∈ps,s.heap.objs.size<=q.1:=fun q hq=>by
    have:q.1∈as:=by rw [<- psl]; exact List.mem_map.mpr ⟨q,hq,rfl⟩
    exact Nat.le_of_lt (hG.above _ this)
   have nd:(ps.map (·.1)).Nodup:=by
    rw [psl]
    exact hG.rise.imp fun h=>Nat.ne_of_lt h
   have each:∀ (j:Nat) (a:Addr),as[j]?=some a->∃ ks us,kss[j]?=some ks/\ps[j]?=some (a,ks.map kV)/\aK (ks.map kV) us/\kO h' a us.toArray/\ks.length<=2:=fun j a ha=>by
    obtain ⟨key,kk,x,e1,e2,e3⟩:=hG.pairs j a ha
    have hj:j < kss.length:=by
     have:=(List.getElem?_eq_some_iff.mp ha).1
     omega
    have hjk:j < kvs.length:=by omega
    have g1:kss[j]?=some kss[j]:=by simp [hj]
    have g2:kvs[j]?=some kvs[j]:=by simp [hjk]
    have g3:(kss[j]).map kV=[kV kvs[j].1,kvs[j].2]:=by
     have:=congrArg (fun l=>l[j]?) hk
     simp [g1,g2] at this
     exact this.symm
    -- the raw pair
    have rr:∀ {kvs:List (Key×V)} {vs:List (Key×Value)} {j:Nat} {kv:Key×V} {w':Key×Value},KV kvs vs->kvs[j]?=some kv->vs[j]?=some w'->kv.1=w'.1/\RelV kv.2 w'.2:=by
     intro kvs vs j kv w' h
     induction h generalizing j with
     | nil=>intro h1; simp at h1
     | cons r t ih=>
      intro h1 h2
      cases j with
      | zero=>simp at h1 h2; subst h1 h2; exact r
      | succ j=>exact ih (by simpa using h1) (by simpa using h2)
    obtain ⟨q1,q2⟩:=rr rkv g2 e1
    refine ⟨kss[j],[key,x],g1,?_,?_,⟨_,e3,rfl,⟨0,rfl⟩,rfl⟩,?_⟩
    ·show (as.zip _)[j]?=_
     rw [List.getElem?_zip_eq_some]
     exact ⟨ha,by simp [g1]⟩
    ·rw [g3]
     refine .cons ?_ (.cons q2 .nil)
     rw [q1]
     have e2':pU kk key=true:=e2
     rcases bG e2' with ⟨i,t,rfl,rfl⟩ | ⟨y,t,rfl,rfl⟩
     ·exact ⟨t,rfl⟩
     ·exact ⟨t,rfl⟩
    ·have:=congrArg List.length g3
     simp at this
     omega
   have I1:Inv X pins σ (nC H ps) { s with heap:=h',toks:=tk }:=I.laidT kp hpl fun q hq=>by
    obtain ⟨j,hj⟩:=List.mem_iff_getElem?.mp hq
    have ha:as[j]?=some q.1:=by
     have:=congrArg (fun l=>l[j]?) psl
     simp [hj] at this
     exact this.symm
    obtain ⟨ks,us,_,e2,e3,e4,e5⟩:=each j q.1 ha
    rw [hj] at e2
    have eq2:q.2=ks.map kV:=by
     have:=Option.some.inj e2
     rw [this]
    refine ⟨?_,us,by rw [eq2]; exact e3,e4⟩
    rw [eq2,List.length_map,sizeLine_eq]
    omega
   refine ⟨nC H ps,as.map V.ref,I1,?_,?_,fin _ (D4 I hpl)⟩
   ·have:∀ l:List Addr,aK (l.map V.ref) (l.map Value.ref):=fun l=>by
     induction l with
     | nil=>exact .nil
     | cons a l ih=>exact .cons rfl ih
    exact this as
   ·have gen:∀ (l:List Addr) (ls:List (List Key)),l.length=ls.length->(∀ (j:Nat) a ks,l[j]?=some a->ls[j]?=some ks->nC H ps a=some (.tup (ks.map kV)))->cH X.K (nC H ps) (ls.map tD) (l.map V.ref):=by
     intro l
     induction l with
     | nil=>
      intro ls hl _
      cases ls with
      | nil=>exact trivial
      | cons _ _=>cases hl
     | cons a l ih=>
      intro ls hl hh
      cases ls with
      | nil=>cases hl
      | cons ks ls=>
       refine ⟨⟨a,_,rfl,SqT.of (hh 0 a ks rfl rfl),tW ks⟩,ih ls (by simpa using hl) fun j a' ks' h1 h2=>hh (j+1) a' ks' (by simpa using h1) (by simpa using h2)⟩
    refine gen as kss (by omega) fun j a ks h1 h2=>?_
    obtain ⟨ks',us,e1,e2,_⟩:=each j a h1
    rw [h2] at e1
    cases e1
    exact zD nd e2
end
end L2
set_option Elab.async false
set_option linter.all false
set_option maxRecDepth 100000
namespace L2
open PySem PySem.Spec PyProof.Rows
theorem sM:typeLookup (.type "tuple") "keys" = pure none:=by rw [typeLookup_type,builtinLookup_eq_fast]; kernel_rfl
theorem dI:entryFor table "dict.update.loop" = some Builtin.«dict.update.loop»:=entryFor_of_tree (by kernel_rfl)
theorem bH:plainId "dict.update.loop" = true:=by decide +kernel
theorem sN {prog:Program} {w:World} {A:Around} {E:Value->Shared->Prop} {s:Shared} {a:Addr} {o:Obj} {xs:Array Value} {k:Nat} {Q:Option Value->Shared->Prop}
  (hx:s.heap.get? a=some o) (hc:o.cls=.type "tuple") (hdat:o.data=.seq xs k) (hd:o.dict=none) (hA:A.handled=none)
  (h:∀ h' tk,(∀ b u,s.heap.get? b=some u->h'.get? b=some u)->Q none { s with heap:=h',toks:=tk }):wpAny (model prog w) A (getAttr? (.ref a) "keys") Q E s:=by
 obtain ⟨c,dct,dat,sl⟩:=o
 simp only at hc hdat hd
 subst hc hdat hd
 obtain ⟨hp,g,d,tk,os⟩:=s
 have hT:∀ tk',(⟨hp,g,d,tk',os⟩:Shared).TypeIs (.ref a) "tuple" := fun _=>⟨_,hx,rfl⟩
 have f1:=sub_AttributeError
 have f3:=F.slot_tuple_getattribute.lookup
 have f4:=F.slot_tuple_getattribute.bind (.ref a)
 have f5:=am_tuple_getattr_none
 unfold getAttr? getAttrBy? getAttrBy
 repeat (any_goals (first | assumption | exact hT _ | ((with_reducible show wpAny _ _ (call (Value.builtin "tuple.__getattribute__") _ _) _ _ _); refine call_meets F.slot_tuple_getattribute (hT _) am_entry_tuple_getattribute (F.args_tuple_getattribute_2 _ _) (meets_getattribute_miss_tuple a xs k sl "keys" _ sM (by decide) (by size_fits)) ⟨hx,hA,fun h' tk' e hx'=>?_⟩) | wp_step))
 obtain ⟨t',u',he⟩:=hx'.there
 show wpAny _ _ (getattributeRaised _ _ _ _ _ _ _) _ _ _
 unfold getattributeRaised
 repeat (any_goals (first | assumption | wp_step))
 exact h _ _ hx'.of.keeps
section
variable {prog:Program} {w:World} {K:Type} [DecidableEq K] {knd:KeyKind prog w K} {A:Around} {R:Result->Shared->Prop}
theorem AW {I d:Addr} {fp wr:List Addr} {n:Nat} {P:Nat->Value->Prop} {St:Nat->Heap->Prop} (W:Walks prog w A.in1 I fp wr n P St) (hd:d∉fp) (ps:List (Addr×K×Value×Value)) (hn:ps.length=n)
  (hP:∀ i v,P i v->∃ p,ps[i]?=some p/\v=.ref p.1) (hT:∀ p∈ps,p.1∉wr/\p.1≠d) (hk:∀ p∈ps,knd.is p.2.1 p.2.2.1=true) (res:Value):
  ∀ (m i:Nat) (s:Shared) (kvs:List (K×Value)),n - i=m->i<=n->St i s.heap->s.heap.DictOf knd d kvs->kvs.length+n<=sizeLine+i->(∀ p∈ps,IsTup s.heap p.1 #[p.2.2.1,p.2.2.2])->
  (∀ h' tk,h'.DictOf knd d (merged kvs ((ps.drop i).map fun p=>(p.2.1,p.2.2.2)))->(∀ b o,b≠d->b∉wr->s.heap.get? b=some o->h'.get? b=some o)->R (.ok (.ret res)) { s with heap:=h',toks:=tk })->
  codeAny (model prog w) A (.builtin "dict.update.loop" ⟨[.ref d,.ref I,rawInt i,res],[]⟩) R s:=by
 have hdw:d∉wr:=fun h=>hd (W.sub _ h)
 intro m
 induction m with
 | zero=>
  intro i s kvs hm hi hst hdt hz hit hR
  have hin:i=n:=by omega
  subst hin
  refine codeAny_builtin dI ?_
  rw [Around.under_plainId bH _]
  show wpAny _ A.in1 (pyNext (.ref I) >>= _) _ _ s
  refine wpAny_bind (W.done s _ _ hst fun h' tk hk'=>?_)
  show wpAny _ A.in1 (Builtin.Dict.addKeywords d [] >>= _) _ _ _
  have hfin:=hR h' tk (by
   rw [List.drop_of_length_le (by omega)]
   obtain ⟨o,es,ep,h1,h2⟩:=hdt
   exact ⟨o,es,ep,hk' d _ hdw h1,h2⟩) fun b o _ hb e=>hk' b o hb e
  exact wpAny_bind (wpAny_pure (wpAny_pure hfin))
 | succ m ih=>
  intro i s kvs hm hi hst hdt hz hit hR
  have hlt:i < n:=by omega
  refine codeAny_builtin dI ?_
  rw [Around.under_plainId bH _]
  show wpAny _ A.in1 (pyNext (.ref I) >>= _) _ _ s
  refine wpAny_bind (W.item i s _ _ hlt hst fun v h' tk hPv hst' hk'=>?_)
  obtain ⟨p,hp,rfl⟩:=hP i v hPv
  have hpm:=List.mem_of_getElem? hp
  obtain ⟨ob,hb1,hb2,nn,hb3⟩:=hit p hpm
  have hb1':=hk' _ _ (hT p hpm).1 hb1
  have hTy:({ s with heap:=h',toks:=tk }:Shared).TypeIs (.ref p.1) "tuple" := ⟨ob,hb1',hb2⟩
  have hdt':h'.DictOf knd d kvs:=by
   obtain ⟨o,es,ep,h1,h2⟩:=hdt
   exact ⟨o,es,ep,hk' d _ hdw h1,h2⟩
  refine wpAny_bind (wpAny_holding (wpAny_bind (wpAny_tryCatch ?_)))
  unfold Builtin.Dict.pairItems
  refine wpAny_bind (wpAny_typeOf hTy ?_)
  rw [if_pos (by decide)]
  refine wpAny_bind (wpAny_seqItems hb1' hb3 (wpAny_pure ?_))
  show wpAny _ _ (holding [p.2.2.1,p.2.2.2] (dictSet d p.2.2.1 p.2.2.2)) _ _ _
  refine wpAny_holding (wpAny_dictSet_pairs (hk p hpm) hdt' (hsz:=by omega) fun h2 hd2 hs2=>?_)
  refine wpAny_pure ⟨plainId_quiet bH _,?_⟩
  have st2:St (i+1) h2:=W.frame (i+1) h' h2 hst' fun b hb o e=>(hs2.2 b (fun z=>hd (z ▸ hb))).trans e
  refine ih (i+1) _ (stored kvs p.2.1 p.2.2.2) (by omega) hlt st2 hd2 ?_ (fun q hq=>?_) fun h3 tk3 hd3 hk3=>?_
  ·have:=stored_length_le kvs p.2.1 p.2.2.2
   omega
  ·obtain ⟨ob',c1,c2⟩:=hit q hq
   exact ⟨ob',(hs2.2 _ (hT q hq).2).trans (hk' _ _ (hT q hq).1 c1),c2⟩
  ·refine hR h3 tk3 ?_ fun b o hb hw e=>hk3 b o hb hw ((hs2.2 b hb).trans (hk' b o hw e))
   have hdr:ps.drop i=p :: ps.drop (i+1):=by
    obtain ⟨hl,e⟩:=List.getElem?_eq_some_iff.mp hp
    rw [List.drop_eq_getElem_cons hl,e]
   rw [hdr]
   exact hd3
theorem oV {E:Value->Shared->Prop} {s:Shared} {a:Addr} {o:Obj} {k:Nat} {ps:List (Addr×K×Value×Value)} {Q:Value->Shared->Prop} (hA:A.handled=none) (hx:s.heap.get? a=some o) (hc:o.cls=.type "tuple") (hdat:o.data=.seq (ps.map fun p=>Value.ref p.1).toArray k) (hd:o.dict=none)
  (hk:∀ p∈ps,knd.is p.2.1 p.2.2.1=true) (hit:∀ p∈ps,IsTup s.heap p.1 #[p.2.2.1,p.2.2.2]) (hz:ps.length<=sizeLine)
  (h:∀ h' tk,h'.DictOf knd s.heap.objs.size (merged [] (ps.map fun p=>(p.2.1,p.2.2.2)))->(∀ b u,s.heap.get? b=some u->h'.get? b=some u)->Q (.ref s.heap.objs.size) { s with heap:=h',toks:=tk }):
  wpAny (model prog w) A (call (.type "dict") [.ref a]) Q E s:=by
 refine callType_codes (Q₁:=fun obj s₁=>obj=.ref s.heap.objs.size/\s₁={ s with heap:=s.heap.push { cls:=.type "dict",data:=.dict #[] } }) F.kt_called_dict (F.kt_typeCall_dict_1 _) F.entry_dict_init (kt_code_dict_new _ ⟨rfl,rfl⟩) ?_
 rintro obj s₁ ⟨rfl,rfl⟩
 have hnew:(s.heap.push { cls:=.type "dict",data:=.dict #[] }).DictOf knd s.heap.objs.size []:=Heap.DictOf.new s.heap
 have up:∀ b u,s.heap.get? b=some u->(s.heap.push { cls:=.type "dict",data:=.dict #[] }).get? b=some u:=fun b u e=>Heap.get?_push_of_some _ e
 have hTa:({ s with heap:=s.heap.push { cls:=.type "dict",data:=.dict #[] } }:Shared).TypeIs (.ref a) "tuple" := ⟨o,up _ _ hx,hc⟩
 refine ⟨hnew.typeIs,F.args_dict_init_2 _ _,?_⟩
 unfold Builtin.«dict.__init__»
 refine wpAny_bind ?_; unfold Builtin.Dict.selfAndRest
 refine wpAny_bind (wpAny_notOrdered_dict hnew.typeIs (show wpAny _ _ (pure (s.heap.objs.size,[Value.ref a])) _ _ _ from wpAny_pure ?_))
 show wpAny _ _ (Builtin.Dict.updateFrom "dict.__init__" s.heap.objs.size (.ref a) [] .none) _ _ _
 unfold Builtin.Dict.updateFrom
 refine wpAny_bind (wpAny_typeOf hTa ?_)
 rw [if_pos (by decide)]
 refine wpAny_bind (sN (up _ _ hx) hc hdat hd hA fun h1 tk1 kp1=>?_)
 rw [if_pos (by rfl)]
 refine wpAny_bind (wpAny_rule ?_)
 have ha1:IsTup h1 a (ps.map fun p=>Value.ref p.1).toArray:=⟨o,kp1 _ _ (up _ _ hx),hc,k,hdat⟩
 refine wpAny_bind (wpAny_pyIter_tuple (show ({ s with heap:=h1,toks:=tk1 }:Shared).heap.IsTuple a _ from ha1) (wpAny_pure ⟨plainId_quiet bH _,?_⟩))
 have lt0:s.heap.objs.size < h1.objs.size:=by
  have:=kp1 s.heap.objs.size _ (Heap.get?_push_size s.heap rfl)
  exact Heap.lt_size this
 have hlt:∀ b u,s.heap.get? b=some u->b < s.heap.objs.size:=fun b u e=>Heap.lt_size e
 have ha0:=hlt _ _ hx
 refine AW (knd:=knd) (fp:=[h1.objs.size,a]) (wr:=[h1.objs.size]) (n:=(ps.map fun p=>Value.ref p.1).toArray.size) (Walks.tuple (A:=A.in1.in1) hA h1.objs.size a (Nat.ne_of_lt (Nat.lt_trans ha0 lt0)) (ps.map fun p=>Value.ref p.1).toArray) ?_ ps (by simp) (fun i v e=>?_) (fun p hp=>?_) hk .none _ 0 _ [] (Nat.sub_zero _) (Nat.zero_le _) ?_ ?_ (by simpa using hz) (fun p hp=>?_) fun h' tk dd kk=>?_
 ·intro z
  rcases List.mem_cons.mp z with z | z
  ·exact Nat.ne_of_lt lt0 z
  ·exact Nat.ne_of_lt ha0 (List.mem_singleton.mp z).symm
 ·have e':(ps.map fun p=>Value.ref p.1)[i]?=some v:=by simpa using e
  rw [List.getElem?_map] at e'
  obtain ⟨p,hp,rfl⟩:=Option.map_eq_some_iff.mp e'
  exact ⟨p,hp,rfl⟩
 ·obtain ⟨ob,e,_⟩:=hit p hp
  have h0:=hlt _ _ e
  exact ⟨fun z=>Nat.ne_of_lt (Nat.lt_trans h0 lt0) (List.mem_singleton.mp z),Nat.ne_of_lt h0⟩
 ·refine ⟨⟨_,Heap.get?_push_size _ rfl,rfl,rfl⟩,?_⟩
  obtain ⟨ob,e,r⟩:=ha1
  exact ⟨ob,Heap.get?_push_of_some _ e,r⟩
 ·obtain ⟨oo,es,ep,e,r⟩:=hnew
  exact ⟨oo,es,ep,Heap.get?_push_of_some _ (kp1 _ _ e),r⟩
 ·obtain ⟨ob,e,r⟩:=hit p hp
  exact ⟨ob,Heap.get?_push_of_some _ (kp1 _ _ (up _ _ e)),r⟩
 ·refine ⟨rfl,h h' tk (by simpa using dd) fun b u e=>?_⟩
  have h0:=hlt _ _ e
  exact kk b u (Nat.ne_of_lt h0) (fun z=>Nat.ne_of_lt (Nat.lt_trans h0 lt0) (List.mem_singleton.mp z)) (Heap.get?_push_of_some _ (kp1 _ _ (up _ _ e)))
end
end L2
set_option Elab.async false
set_option linter.all false
set_option maxRecDepth 100000
namespace L2
open PySem PySem.Spec PyProof.Rows
section
variable {prog:Program} {w:World} {K:Type} [DecidableEq K] {A:Around} {E:Value->Shared->Prop} {s:Shared}
end
section
variable {prog:Program} {w:World} {K:Type} [DecidableEq K]
end
end L2
set_option Elab.async false
set_option linter.all false
set_option maxRecDepth 100000
namespace L2
open PySem PySem.Spec PyProof.Rows
section
variable {prog:Program} {w:World} {A:Around} {E:Value->Shared->Prop} {s:Shared} {v dc it:Addr} {oc:Obj} {es:Array DictEntry} {ep:Nat}
end
end L2
set_option Elab.async false
set_option linter.all false
set_option maxRecDepth 100000
namespace L2
open PySem PySem.Spec PyProof.Rows
namespace FR
end FR
section
variable {prog:Program} {w:World} {A:Around} {E:Value->Shared->Prop} {s:Shared} {it l:Addr} {items:Array Value}
end
end L2
set_option Elab.async false
set_option linter.all false
set_option maxRecDepth 100000
namespace L2
open PySem PySem.Spec PyProof.Rows
section
variable {prog:Program} {w:World} {A:Around} {E:Value->Shared->Prop} {s:Shared} {v dc it:Addr} {oc:Obj} {es:Array DictEntry} {ep:Nat} {ok ov:Value}
end
end L2
set_option Elab.async false
set_option linter.all false
set_option maxRecDepth 1000000
set_option maxHeartbeats 4000000
namespace L2
open PySem PySem.Spec PyProof.Rows
section
variable {prog:Program} {w:World} {A:Around} {E:Value->Shared->Prop} {s:Shared} {v dc it:Addr} {oc:Obj} {es:Array DictEntry} {ep:Nat}
end
end L2
set_option Elab.async false
set_option linter.all false
set_option maxRecDepth 1000000
set_option maxHeartbeats 4000000
namespace L2
open PySem PySem.Spec PyProof.Rows
structure TOk (bt:Bool) (t:SetTable):Prop where
 dum:t.dummies=#[]
 led:bt=false->t.led=true
 ris:t.plain=true->t.place.toList.Pairwise (· < ·)
end L2
set_option Elab.async false
set_option linter.all false
set_option maxRecDepth 1000000
set_option maxHeartbeats 4000000
namespace L2
open PySem PySem.Spec PyProof.Rows
section
variable {prog:Program} {w:World} {A:Around} {E:Value->Shared->Prop} {s:Shared} {a:Addr}
end
end L2
set_option Elab.async false
set_option linter.all false
set_option maxRecDepth 1000000
set_option maxHeartbeats 4000000
namespace L2
open PySem PySem.Spec PyProof.Rows
section
variable {prog:Program} {w:World} {A:Around} {E:Value->Shared->Prop} {s:Shared} {a:Addr}
end
end L2
set_option Elab.async false
set_option linter.all false
set_option maxRecDepth 1000000
set_option maxHeartbeats 4000000
namespace L2
open PySem PySem.Spec PyProof.Rows
section
variable {prog:Program} {w:World} {A:Around} {E:Value->Shared->Prop} {s:Shared} {a it:Addr} {o:Obj} {es:Array (Int×Value)} {ep:Nat} {t:SetTable}
end
end L2
set_option Elab.async false
set_option linter.all false
set_option maxRecDepth 1000000
set_option maxHeartbeats 4000000
namespace L2
open PySem PySem.Spec PyProof.Rows
section
variable {prog:Program} {w:World} {A:Around} {E:Value->Shared->Prop} {s:Shared} {a it:Addr} {o:Obj} {es:Array (Int×Value)} {ep:Nat} {t:SetTable}
end
end L2
set_option Elab.async false
set_option linter.all false
set_option maxRecDepth 1000000
set_option maxHeartbeats 4000000
namespace L2
open PySem PySem.Spec PyProof.Rows
section
variable {prog:Program} {w:World} {A:Around} {E:Value->Shared->Prop} {s:Shared} {a it:Addr} {o:Obj} {es:Array (Int×Value)} {ep:Nat} {t:SetTable}
end
end L2
set_option Elab.async false
set_option linter.all false
set_option maxRecDepth 1000000
set_option maxHeartbeats 4000000
namespace L2
open PySem PySem.Spec PyProof.Rows
section
variable {prog:Program} {w:World} {A:Around} {E:Value->Shared->Prop} {s:Shared} {a:Addr}
end
end L2
set_option Elab.async false
set_option linter.all false
set_option maxRecDepth 1000000
set_option maxHeartbeats 4000000
namespace L2
open PySem PySem.Spec PyProof.Rows
section
variable {prog:Program} {w:World} {A:Around} {E:Value->Shared->Prop} {s:Shared} {a:Addr}
end
end L2
set_option Elab.async false
set_option linter.all false
set_option maxRecDepth 100000
namespace L2
open PySem PySem.Spec PyProof.Rows PySem.SeqAt PySem.W
section
variable {prog:Program} {w:World} {A:Around} {E:Value->Shared->Prop} {s:Shared} {a kS:Addr} {b:Bool} {vs ks:List Value}
end
end L2
set_option Elab.async false
set_option linter.all false
set_option maxRecDepth 100000
namespace L2
open PySem PySem.Spec PyProof.Rows PySem.SeqAt
inductive PV where
 | non | bl (b:Bool) | int (i:Int) | str (x:Str) | tup (xs:List PV) | ref (n:Nat) | ty (n:String) | fl (xs:List PV)
mutual
def PV.beq:PV->PV->Bool
 | .non,.non=>true
 | .bl a,.bl b=>a == b
 | .int a,.int b=>a == b
 | .str a,.str b=>a == b
 | .tup a,.tup b=>PV.beqs a b
 | .ref a,.ref b=>a == b
 | .ty a,.ty b=>a == b
 | .fl a,.fl b=>PV.beqs a b
 | _,_=>false
def PV.beqs:List PV->List PV->Bool
 | [],[]=>true
 | x :: xs,y :: ys=>PV.beq x y && PV.beqs xs ys
 | _,_=>false
end
mutual
theorem PV.beq_self:∀ x:PV,PV.beq x x=true
 | .non=>rfl
 | .bl a=>by simp [PV.beq]
 | .int a=>by simp [PV.beq]
 | .str a=>by simp [PV.beq]
 | .tup a=>by simp only [PV.beq]; exact PV.beqs_self a
 | .ref a=>by simp [PV.beq]
 | .ty a=>by simp [PV.beq]
 | .fl a=>by simp only [PV.beq]; exact PV.beqs_self a
theorem PV.beqs_self:∀ x:List PV,PV.beqs x x=true
 | []=>rfl
 | x :: xs=>by simp only [PV.beqs,PV.beq_self x,PV.beqs_self xs,Bool.and_self]
end
mutual
theorem PV.beq_eq:∀ {x y:PV},PV.beq x y=true->x=y
 | .non,y,h=>by cases y <;> first | rfl | (simp [PV.beq] at h)
 | .bl a,y,h=>by cases y <;> first | (simp [PV.beq] at h; rw [h]) | (simp [PV.beq] at h)
 | .int a,y,h=>by cases y <;> first | (simp [PV.beq] at h; rw [h]) | (simp [PV.beq] at h)
 | .str a,y,h=>by cases y <;> first | (simp [PV.beq] at h; rw [h]) | (simp [PV.beq] at h)
 | .tup a,y,h=>by
  cases y with
  | tup b=>simp only [PV.beq] at h; rw [PV.beqs_eq h]
  | _=>simp [PV.beq] at h
 | .ref a,y,h=>by cases y <;> first | (simp [PV.beq] at h; rw [h]) | (simp [PV.beq] at h)
 | .ty a,y,h=>by cases y <;> first | (simp [PV.beq] at h; rw [h]) | (simp [PV.beq] at h)
 | .fl a,y,h=>by
  cases y with
  | fl b=>simp only [PV.beq] at h; rw [PV.beqs_eq h]
  | _=>simp [PV.beq] at h
theorem PV.beqs_eq:∀ {x y:List PV},PV.beqs x y=true->x=y
 | [],y,h=>by cases y <;> first | rfl | (simp [PV.beqs] at h)
 | x :: xs,y,h=>by
  cases y with
  | nil=>simp [PV.beqs] at h
  | cons y ys=>
   simp only [PV.beqs,Bool.and_eq_true] at h
   rw [PV.beq_eq h.1,PV.beqs_eq h.2]
end
instance:DecidableEq PV:=fun x y=>match h:PV.beq x y with
 | true=>isTrue (PV.beq_eq h)
 | false=>isFalse fun e=>by rw [e,PV.beq_self] at h; cases h
def PV.ky:Nat->PV->Bool
 | _,.int _=>true
 | _,.str _=>true
 | n+1,.tup xs=>xs.all (PV.ky n)
 | _,_=>false
section
variable (w:World)
mutual
def hsh:PV->Int
 | .int i=>JI w (.inl i)
 | .str x=>JI w (.inr x)
 | .tup xs=>reduceHash (Builtin.Tuple.tupleHashOf (oW xs))
 | _=>0
def oW:List PV->List Int
 | []=>[]
 | x :: xs=>hsh x :: oW xs
end
end
mutual
def drw:PV->Nat
 | .tup xs=>zE xs+1
 | _=>1
def zE:List PV->Nat
 | []=>0
 | x :: xs=>drw x+zE xs
end
mutual
/-- the raw value is the key -/
def HR (h:Heap):PV->Value->Prop
 | .int i,v=>∃ t,v=.int i t
 | .str x,v=>∃ t,v=.str x t
 | .tup ps,v=>∃ a its,v=.ref a/\IsTup h a its.toArray/\HRs h ps its
 | _,_=>False
def HRs (h:Heap):List PV->List Value->Prop
 | [],[]=>True
 | p :: ps,v :: vs=>HR h p v/\HRs h ps vs
 | [],_ :: _=>False
 | _ :: _,[]=>False
end
theorem HRs.length {h:Heap}:∀ {ps:List PV} {vs:List Value},HRs h ps vs->ps.length=vs.length
 | [],[],_=>rfl
 | _ :: _,_ :: _,r=>congrArg (·+1) (HRs.length r.2)
 | [],_ :: _,r=>r.elim
 | _ :: _,[],r=>r.elim
theorem HRs.at {h:Heap}:∀ {ps:List PV} {vs:List Value} {j:Nat} {p:PV},HRs h ps vs->ps[j]?=some p->∃ v,vs[j]?=some v/\HR h p v
 | [],[],_,_,_,e=>by simp at e
 | q :: _,v :: _,0,p,r,e=>by
  have:q=p:=by simpa using e
  subst this
  exact ⟨v,rfl,r.1⟩
 | _ :: ps,_ :: vs,j+1,p,r,e=>by
  obtain ⟨v,h1,h2⟩:=HRs.at (ps:=ps) (vs:=vs) (j:=j) (p:=p) r.2 (by simpa using e)
  exact ⟨v,by simpa using h1,h2⟩
 | [],_ :: _,_,_,r,_=>r.elim
 | _ :: _,[],_,_,r,_=>r.elim
theorem D6 {h:Heap} {a:Addr} {x y:Array Value} (p:IsTup h a x) (q:IsTup h a y):x=y:=by
 obtain ⟨o,ho,_,n,hd⟩:=p
 obtain ⟨o',ho',_,n',hd'⟩:=q
 obtain rfl:o=o':=Option.some.inj (ho.symm.trans ho')
 rw [hd] at hd'
 injection hd'
mutual
theorem HR.one {h:Heap}:∀ {p q:PV} {v:Value},HR h p v->HR h q v->p=q
 | .int i,q,v,r,r'=>by
  obtain ⟨t,rfl⟩:=r
  cases q with
  | int j=>obtain ⟨t',e⟩:=r'; injection e with e; rw [e]
  | str j=>obtain ⟨t',e⟩:=r'; cases e
  | tup j=>obtain ⟨_,_,e,_⟩:=r'; cases e
  | _=>exact r'.elim
 | .str i,q,v,r,r'=>by
  obtain ⟨t,rfl⟩:=r
  cases q with
  | int j=>obtain ⟨t',e⟩:=r'; cases e
  | str j=>obtain ⟨t',e⟩:=r'; injection e with e; rw [e]
  | tup j=>obtain ⟨_,_,e,_⟩:=r'; cases e
  | _=>exact r'.elim
 | .tup ps,q,v,r,r'=>by
  obtain ⟨a,its,rfl,p,rs⟩:=r
  cases q with
  | int j=>obtain ⟨t',e⟩:=r'; cases e
  | str j=>obtain ⟨t',e⟩:=r'; cases e
  | tup qs=>
   obtain ⟨b,its',e,p',rs'⟩:=r'
   cases e
   have:its=its':=by simpa using congrArg Array.toList (D6 p p')
   subst this
   rw [HRs.one rs rs']
  | _=>exact r'.elim
 | .non,_,_,r,_=>r.elim
 | .bl _,_,_,r,_=>r.elim
 | .ref _,_,_,r,_=>r.elim
 | .ty _,_,_,r,_=>r.elim
 | .fl _,_,_,r,_=>r.elim
theorem HRs.one {h:Heap}:∀ {ps qs:List PV} {vs:List Value},HRs h ps vs->HRs h qs vs->ps=qs
 | [],[],[],_,_=>rfl
 | p :: ps,q :: qs,v :: vs,r,r'=>by rw [HR.one r.1 r'.1,HRs.one r.2 r'.2]
 | [],_ :: _,[],_,r=>r.elim
 | [],_,_ :: _,r,_=>r.elim
 | _ :: _,_,[],r,_=>r.elim
 | _ :: _,[],_ :: _,_,r=>r.elim
end
theorem AX {h h':Heap} {a d:Addr} {o:Obj} {es ep} {x:Array Value} (p:IsTup h a x) (ho:h.get? d=some o) (hd:o.data=.dict es ep) (hs:Heap.SameBut d h h'):IsTup h' a x:=by
 obtain ⟨q,hq,hc,n,hdt⟩:=p
 have ne:a≠d:=by
  rintro rfl
  obtain rfl:q=o:=Option.some.inj (hq.symm.trans ho)
  rw [hd] at hdt
  cases hdt
 exact ⟨q,(hs.2 a ne).trans hq,hc,n,hdt⟩
mutual
theorem HR.keep {h h':Heap} (k:∀ a x,IsTup h a x->IsTup h' a x):∀ {p:PV} {v:Value},HR h p v->HR h' p v
 | .int i,v,r=>r
 | .str i,v,r=>r
 | .tup ps,v,⟨a,its,e,p,rs⟩=>⟨a,its,e,k _ _ p,HRs.keep k rs⟩
 | .non,_,r=>r.elim
 | .bl _,_,r=>r.elim
 | .ref _,_,r=>r.elim
 | .ty _,_,r=>r.elim
 | .fl _,_,r=>r.elim
theorem HRs.keep {h h':Heap} (k:∀ a x,IsTup h a x->IsTup h' a x):∀ {ps:List PV} {vs:List Value},HRs h ps vs->HRs h' ps vs
 | [],[],_=>trivial
 | _ :: _,_ :: _,r=>⟨HR.keep k r.1,HRs.keep k r.2⟩
 | [],_ :: _,r=>r.elim
 | _ :: _,[],r=>r.elim
end
section
variable {prog:Program} {w:World}
theorem ET:∀ (n:Nat) {A:Around} {E:Value->Shared->Prop} {s:Shared} {p:PV} {v:Value} {Q:Int->Shared->Prop},p.ky n=true->A.units+n < cLine->HR s.heap p v->Q (hsh w p) { s with toks:=s.toks+drw p }->
  wpAny (model prog w) A (pyHash v) Q E s:=by
 intro n
 induction n with
 | zero=>
  intro A E s p v Q hk hu r h
  cases p with
  | int i=>obtain ⟨t,rfl⟩:=r; exact wpAny_pyHash_int h
  | str i=>obtain ⟨t,rfl⟩:=r; exact wpAny_pyHash_str h
  | _=>cases hk
 | succ n ih=>
  intro A E s p v Q hk hu r h
  cases p with
  | int i=>obtain ⟨t,rfl⟩:=r; exact wpAny_pyHash_int h
  | str i=>obtain ⟨t,rfl⟩:=r; exact wpAny_pyHash_str h
  | tup ps=>
   obtain ⟨a,its,rfl,⟨o,ho,hc,m,hd⟩,rs⟩:=r
   have hk':∀ q∈ps,q.ky n=true:=List.all_eq_true.mp hk
   have hT:s.TypeIs (.ref a) "tuple" := ⟨o,ho,hc⟩
   unfold pyHash; unfold pyHashByItsType
   refine wpAny_bind (wpAny_cRoomFor_or (.inr (show A.units < cLine by omega)) (wpAny_bind (wpAny_specialOf hT F.slot_tuple_hash.lookup ?_)))
   show wpAny _ _ (if ((some (Value.builtin "tuple.__hash__"):Option Value) == some Value.none)=true then _ else _) Q E s
   rw [if_neg (show ¬ _ from by rw [beq_builtin_none]; decide)]
   refine wpAny_bind (wpAny_specialOf hT F.slot_tuple_hash.lookup (show wpAny _ _ (callSpecialIfBoundUnlessNone? (.ref a) "__hash__" _ >>= _) Q E s from ?_))
   refine wpAny_bind (wpAny_callSpecialIfBoundUnlessNone?_slot hT F.slot_tuple_hash (wpAny_call_entry F.slot_tuple_hash hT F.entry_tuple_hash (show wpAny _ _ (Builtin.Tuple.tupleItemsOf (.ref a) >>= _) _ _ s from ?_) (F.args_tuple_hash_1 _)))
   refine wpAny_bind (wpAny_tupleItemsOf ho hd (wpAny_bind ?_)); rw [<- Array.forIn_toList]
   refine wpAny_forIn_list _ (fun rest (b:Array Int) s'=>∃ left,HRs s.heap left rest/\(∀ q∈left,q.ky n=true)/\b.toList++oW w left=oW w ps/\s'.heap=s.heap/\s'={ s with toks:=s'.toks }/\s'.toks+zE left=s.toks+zE ps) _ ?turn ?stop _ _ ⟨ps,rs,hk',rfl,rfl,rfl,rfl⟩
   case turn=>
    rintro x rest b s' ⟨left,rl,kl,eb,eh,es,et⟩
    cases left with
    | nil=>exact rl.elim
    | cons q left=>
     have r1:HR s'.heap q x:=by rw [eh]; exact rl.1
     refine wpAny_bind (ih (kl q List.mem_cons_self) (show A.units+1+n < cLine by omega) r1 (wpAny_pure ?_))
     refine ⟨left,rl.2,fun z hz=>kl z (List.mem_cons_of_mem _ hz),?_,eh,?_,?_⟩
     ·rw [<- eb]; simp [oW]
     ·rw [es]
     ·rw [<- et]
      show s'.toks+drw q+zE left=s'.toks+(drw q+zE left)
      omega
   case stop=>
    rintro b s' ⟨left,rl,kl,eb,eh,es,et⟩
    cases left with
    | cons q left=>exact rl.elim
    | nil=>
     have eb':b.toList=oW w ps:=by rw [<- eb]; simp [oW]
     have et':s'.toks=s.toks+zE ps:=et
     show wpAny _ _ (retInt (Builtin.Tuple.tupleHashOf b.toList)) _ _ _
     rw [eb',es]
     refine wpAny_ret_mkInt ?_
     show wpAny _ _ (if (decide (-(2:Int) ^ 63<=Builtin.Tuple.tupleHashOf (oW w ps)) && decide (Builtin.Tuple.tupleHashOf (oW w ps) < 2 ^ 63))=true then _ else _) Q E _
     have h':Q (reduceHash (Builtin.Tuple.tupleHashOf (oW w ps))) { s with toks:=s.toks+(zE ps+1) }:=h
     unfold reduceHash at h'
     rw [et']
     by_cases hr:(decide (-(2:Int) ^ 63<=Builtin.Tuple.tupleHashOf (oW w ps)) && decide (Builtin.Tuple.tupleHashOf (oW w ps) < 2 ^ 63))=true
     ·rw [if_pos hr] at h' ⊢
      exact wpAny_pure (by simpa [Nat.add_assoc] using h')
     ·rw [if_neg hr] at h' ⊢
      exact wpAny_bind (wpAny_rule (wpAny_pure (by simpa [Nat.add_assoc] using h')))
  | _=>cases hk
theorem KB:∀ (n:Nat) {A:Around} {s:Shared} {p q:PV} {v u:Value},p.ky n=true->q.ky n=true->A.units+n < cLine->HR s.heap p v->HR s.heap q u->RcAt A s v u (decide (p=q)):=by
 intro n
 induction n with
 | zero=>
  intro A s p q v u hp hq hu r r'
  cases p with
  | int i=>
   obtain ⟨t,rfl⟩:=r
   cases q with
   | int j=>obtain ⟨t',rfl⟩:=r'; have:=RcAt.int_int (A:=A) (s:=s) i t j t'; rwa [show decide (PV.int i=PV.int j)=(i == j) by simp [Bool.beq_eq_decide_eq]]
   | str j=>obtain ⟨t',rfl⟩:=r'; exact RcAt.int_str i t j t'
   | _=>cases hq
  | str i=>
   obtain ⟨t,rfl⟩:=r
   cases q with
   | int j=>obtain ⟨t',rfl⟩:=r'; exact RcAt.str_int i t j t'
   | str j=>obtain ⟨t',rfl⟩:=r'; have:=RcAt.str_str (A:=A) (s:=s) i t j t'; rwa [show decide (PV.str i=PV.str j)=(i == j) by simp [Bool.beq_eq_decide_eq]]
   | _=>cases hq
  | _=>cases hp
 | succ n ih=>
  intro A s p q v u hp hq hu r r'
  cases p with
  | int i=>
   obtain ⟨t,rfl⟩:=r
   cases q with
   | int j=>obtain ⟨t',rfl⟩:=r'; have:=RcAt.int_int (A:=A) (s:=s) i t j t'; rwa [show decide (PV.int i=PV.int j)=(i == j) by simp [Bool.beq_eq_decide_eq]]
   | str j=>obtain ⟨t',rfl⟩:=r'; exact RcAt.int_str i t j t'
   | tup js=>obtain ⟨b,its,rfl,p',_⟩:=r'; exact RcAt.int_tuple i t p' (by omega)
   | _=>cases hq
  | str i=>
   obtain ⟨t,rfl⟩:=r
   cases q with
   | int j=>obtain ⟨t',rfl⟩:=r'; exact RcAt.str_int i t j t'
   | str j=>obtain ⟨t',rfl⟩:=r'; have:=RcAt.str_str (A:=A) (s:=s) i t j t'; rwa [show decide (PV.str i=PV.str j)=(i == j) by simp [Bool.beq_eq_decide_eq]]
   | tup js=>obtain ⟨b,its,rfl,p',_⟩:=r'; exact RcAt.str_tuple i t p' (by omega)
   | _=>cases hq
  | tup ps=>
   obtain ⟨a,its,rfl,ta,rs⟩:=r
   cases q with
   | int j=>obtain ⟨t',rfl⟩:=r'; exact RcAt.tuple_int j t' ta (by omega)
   | str j=>obtain ⟨t',rfl⟩:=r'; exact RcAt.tuple_str j t' ta (by omega)
   | tup qs=>
    obtain ⟨b,its',rfl,tb,rs'⟩:=r'
    have kp:∀ z∈ps,z.ky n=true:=List.all_eq_true.mp hp
    have kq:∀ z∈qs,z.ky n=true:=List.all_eq_true.mp hq
    have l1:=rs.length
    have l2:=rs'.length
    have key:=RcAt.tuples (A:=A) (e:=fun j=>match ps[j]?,qs[j]? with | some x,some y=>decide (x=y) | _,_=>false) ta tb (by omega) (fun j h1 h2=>by
     have h1':j < ps.length:=by simp at h1; omega
     have h2':j < qs.length:=by simp at h2; omega
     have g1:ps[j]?=some ps[j]:=by simp [h1']
     have g2:qs[j]?=some qs[j]:=by simp [h2']
     obtain ⟨xu,hxu,hru⟩:=rs.at g1
     obtain ⟨yu,hyu,hru'⟩:=rs'.at g2
     have e1:its.toArray[j]=xu:=by simpa using (List.getElem?_eq_some_iff.mp hxu).2
     have e2:its'.toArray[j]=yu:=by simpa using (List.getElem?_eq_some_iff.mp hyu).2
     rw [e1,e2]
     simp only [g1,g2]
     refine cU (ih (kp _ (List.getElem_mem h1')) (kq _ (List.getElem_mem h2')) (show A.units+1+n < cLine by omega) hru hru') (fun ev=>?_) (fun f t e=>?_)
     ·subst ev
      rw [HR.one hru hru']
      exact decide_eq_true rfl
     ·subst e
      generalize ps[j]=z at hru
      cases z with
      | int i=>obtain ⟨_,e⟩:=hru; cases e
      | str i=>obtain ⟨_,e⟩:=hru; cases e
      | tup i=>obtain ⟨_,_,e,_⟩:=hru; cases e
      | _=>exact hru.elim)
    have sz:((List.range (min its.toArray.size its'.toArray.size)).all (fun j=>match ps[j]?,qs[j]? with | some x,some y=>decide (x=y) | _,_=>false) && its.toArray.size == its'.toArray.size)=decide (PV.tup ps=PV.tup qs):=by
     have a1:its.toArray.size=ps.length:=by simp; omega
     have a2:its'.toArray.size=qs.length:=by simp; omega
     rw [a1,a2,Bool.eq_iff_iff]
     simp only [Bool.and_eq_true,List.all_eq_true,List.mem_range,beq_iff_eq,decide_eq_true_eq,PV.tup.injEq]
     constructor
     ·rintro ⟨hall,hlen⟩
      apply List.ext_getElem hlen
      intro i hi hi'
      have:=hall i (by omega)
      simpa [hi,hi'] using this
     ·rintro rfl
      refine ⟨fun x hx=>?_,rfl⟩
      have:x < ps.length:=by omega
      simp [this]
    rw [<- sz]
    exact key
   | _=>cases hq
  | _=>cases hp
theorem HR.noflt {h:Heap} {p:PV} {v:Value} (r:HR h p v):∀ f t,v≠.float f t:=fun f t e=>by
 subst e
 cases p with
 | int i=>obtain ⟨_,e⟩:=r; cases e
 | str i=>obtain ⟨_,e⟩:=r; cases e
 | tup i=>obtain ⟨_,_,e,_⟩:=r; cases e
 | _=>exact r.elim
theorem KC {n:Nat} {A:Around} {s:Shared} {p q:PV} {v u:Value} (hp:p.ky n=true) (hq:q.ky n=true) (hu:A.units+n < cLine) (r:HR s.heap p v) (r':HR s.heap q u):EqAt A s v u (decide (p=q)):=
 cU (KB n hp hq hu r r') (fun ev=>by subst ev; rw [HR.one r r']; exact decide_eq_true rfl) r.noflt
theorem D7:∀ (n m:Nat) {A:Around} {E:Value->Shared->Prop} {s:Shared} {p:PV} {v:Value} {Q:Bool->Shared->Prop},p.ky n=true->n<=m->HR s.heap p v->Q true s->wpAny (model prog w) A (eqIsQuiet m v) Q E s:=by
 intro n
 induction n with
 | zero=>
  intro m A E s p v Q hk hm r h
  cases p with
  | int i=>obtain ⟨t,rfl⟩:=r; rw [eqIsQuiet_byValue _ rfl]; exact wpAny_pure h
  | str i=>obtain ⟨t,rfl⟩:=r; rw [eqIsQuiet_byValue _ rfl]; exact wpAny_pure h
  | _=>cases hk
 | succ n ih=>
  intro m A E s p v Q hk hm r h
  cases p with
  | int i=>obtain ⟨t,rfl⟩:=r; rw [eqIsQuiet_byValue _ rfl]; exact wpAny_pure h
  | str i=>obtain ⟨t,rfl⟩:=r; rw [eqIsQuiet_byValue _ rfl]; exact wpAny_pure h
  | tup ps=>
   obtain ⟨a,its,rfl,⟨o,ho,hc,m',hd⟩,rs⟩:=r
   have hk':∀ q∈ps,q.ky n=true:=List.all_eq_true.mp hk
   have hT:s.TypeIs (.ref a) "tuple" := ⟨o,ho,hc⟩
   obtain ⟨m,rfl⟩:∃ j,m=j+1:=⟨m - 1,by omega⟩
   unfold eqIsQuiet
   refine wpAny_bind (wpAny_specialOf hT F.slot_tuple_eq.lookup (show wpAny _ _ (isInstance (.ref a) (.type "tuple") >>= _) _ _ s from ?_))
   refine wpAny_bind (wpAny_isInstance hT isSubtype_tuple_tuple ?_); simp only [Bool.not_true,Bool.false_eq_true,if_false]
   refine wpAny_bind (wpAny_seqItems ho hd (wpAny_bind (show wpAny _ _ (forIn its.toArray _ _) _ _ s from ?_))); rw [<- Array.forIn_toList]
   refine wpAny_forIn_list _ (fun rest r s'=>r.1=none/\s'=s/\∃ left,HRs s.heap left rest/\∀ q∈left,q.ky n=true) _ ?_ ?_ _ _ ⟨rfl,rfl,ps,rs,hk'⟩
   ·rintro v rest r s' ⟨hr,rfl,left,rl,kl⟩
    cases left with
    | nil=>exact rl.elim
    | cons q left=>
     refine wpAny_bind (ih m (kl q List.mem_cons_self) (by omega) rl.1 ?_); simp only [Bool.not_true,Bool.false_eq_true,if_false]
     exact wpAny_pure ⟨rfl,rfl,left,rl.2,fun z hz=>kl z (List.mem_cons_of_mem _ hz)⟩
   ·rintro ⟨r1,r2⟩ s' ⟨hr,rfl,_⟩; simp only at hr; subst hr
    exact wpAny_pure h
  | _=>cases hk
def jU (prog:Program) (w:World):HeapKind prog w PV where
 is:=fun h p a=>p.ky 6=true/\HR h p (.ref a)
 hash:=hsh w
 draws:=drw
 room:=fun A=>A.units+6 < cLine
 inj:=fun x y=>HR.one x.2 y.2
 keeps:=fun x ho hd hs=>⟨x.1,HR.keep (fun a it p=>AX p ho hd hs) x.2⟩
 pyHash:=fun hu x h=>ET 6 x.1 hu x.2 h
 eqBool:=fun hu x y h=>KC x.1 y.1 hu x.2 y.2 _ _ _ _ h
 quiet:=fun x h=>D7 6 8 x.1 (by omega) x.2 h
end
def dDO (w:World) (a:Addr) (ks:List (PV×Addr×V)):HO:=.ext fun h=>ks.length<=sizeLine/\(a == sysModules)=false/\∃ xs:List (PV×Addr×Value),
 Paired (fun (p:PV×Addr×V) (q:PV×Addr×Value)=>p.1=q.1/\p.2.1=q.2.1/\RelV p.2.2 q.2.2) ks xs/\
 ∃ o es ep,h.get? a=some o/\o.ExactDict/\o.data=.dict es ep/\es.toList=xs.map (fun x=>(⟨hsh w x.1,.ref x.2.1,x.2.2⟩:DictEntry))/\(xs.map (·.1)).Nodup
def Mx (kd:Nat) (v d:Addr):HO:=.ext fun h=>match kd with
 | 0=>h.IsItemsView v d
 | 1=>h.IsValuesView v d
 | _=>∃ o,h.get? v=some o/\o.cls=.type "dict_keys" /\ o.data=.fields #[.ref d]
end L2
set_option Elab.async false
set_option linter.all false
set_option maxRecDepth 100000
namespace L2
open PySem PySem.Spec PyProof.Rows
inductive MO where
 | lst (xs:List PV)
 | dK (kvs:List (Key×PV))
 | ins (C:Str) (fs:List (Str×PV))
 | dD (kvs:List (PV×PV))
 | vw (kd d:Nat)
 | fz (o:MO)
abbrev PH:=List MO
abbrev Ev:=List (Option PV)
structure PX where
 cls:Str
 fs:List (Str×PV)
inductive Rs (α:Type) where
 | ok (a:α) (h:PH)
 | exc (x:PX) (h:PH)
 | bad
inductive Fl where
 | nx (δ:Ev) (h:PH)
 | rt (p:PV) (h:PH)
 | bk (δ:Ev) (h:PH)
 | ct (δ:Ev) (h:PH)
 | exc (x:PX) (h:PH)
 | bad
abbrev Me:=Ev->PH->Rs PV
abbrev Ms:=Ev->PH->Fl
abbrev Fn:=List PV->PH->Rs PV
def Rs.bind {α β:Type} (r:Rs α) (f:α->PH->Rs β):Rs β:=match r with
 | .ok a h=>f a h
 | .exc x h=>.exc x h
 | .bad=>.bad
@[simp] theorem Rs.bind_ok {α β:Type} (a:α) (h:PH) (f:α->PH->Rs β):(Rs.ok a h).bind f=f a h:=rfl
@[simp] theorem Rs.bind_exc {α β:Type} (x:PX) (h:PH) (f:α->PH->Rs β):(Rs.exc x h:Rs α).bind f=.exc x h:=rfl
@[simp] theorem Rs.bind_bad {α β:Type} (f:α->PH->Rs β):(Rs.bad:Rs α).bind f=.bad:=rfl
structure MC where
 K:PySem.W.Frag
 cl:Str->Option Addr
 bs:List Str
 ex:List Addr->Hp->PX->Prop
 w:World
def SqF (K:PySem.W.Frag) (H:Hp) (a:Addr) (xs:List V):Prop:=
 (∃ o,H a=some (.frz o (.lst xs)))\/
  ∃ (o:Obj) (its:Array Value) (n:Nat),K.lookup a=some o/\o.cls=.type "list" /\ o.dict=none/\o.data=.seq its n/\its.size<=sizeLine/\aK xs its.toList
theorem SqF.sq {K:PySem.W.Frag} {H:Hp} {a:Addr} {xs:List V} (h:SqF K H a xs):SqL K H a xs:=by
 rcases h with ⟨o,h⟩ | h
 ·exact .inl (.inr ⟨o,h⟩)
 ·exact .inr h
def Kp (H H':Hp):Prop:=fX H H'/\∀ a o u,H a=some (.frz o u)->H' a=some (.frz o u)
theorem Kp.refl (H:Hp):Kp H H:=⟨fX.refl H,fun _ _ _ h=>h⟩
theorem Kp.trans {H H1 H2:Hp} (a:Kp H H1) (b:Kp H1 H2):Kp H H2:=⟨a.1.trans b.1,fun c o u h=>b.2 c o u (a.2 c o u h)⟩
theorem Kp.same {H H':Hp} (s:yR H H'):Kp H H':=⟨fX.same s,fun _ _ _ h=>s _ _ h⟩
theorem Kp.new {H:Hp} {a:Addr} {o:HO} (h:H a=none):Kp H (upd H a o):=Kp.same (yR.upd h)
theorem Kp.upd {H:Hp} {p:Addr} {o:HO} (h:yW (H p)):Kp H (upd H p o):=⟨fX.upd h,fun a ob u q=>by
 have ne:a≠p:=by
  rintro rfl
  rw [q] at h; exact h
 rw [bK ne]; exact q⟩
theorem Kp.lst {H:Hp} {p:Addr} {o:HO} {xs:List V} (h:H p=some (.lst xs)):Kp H (L2.upd H p o):=Kp.upd (by rw [h]; trivial)
theorem Kp.dK {H:Hp} {p:Addr} {o:HO} {xs:List (Key×V)} (h:H p=some (.dK xs)):Kp H (L2.upd H p o):=Kp.upd (by rw [h]; trivial)
theorem Kp.sq {K:PySem.W.Frag} {H H':Hp} {a:Addr} {xs:List V} (t:Kp H H') (h:SqT K H a xs):SqT K H' a xs:=t.1.sq h
theorem Kp.sf {K:PySem.W.Frag} {H H':Hp} {a:Addr} {xs:List V} (t:Kp H H') (h:SqF K H a xs):SqF K H' a xs:=by
 rcases h with ⟨o,h⟩ | h
 ·exact .inl ⟨o,t.2 _ _ _ h⟩
 ·exact .inr h
section
variable (C:MC) (φ:List Addr) (H:Hp)
mutual
def RV:PV->V->Prop
 | .non,v=>v=.non
 | .bl b,v=>v=.bl b
 | .int i,v=>v=.int i
 | .str x,v=>v=.str x
 | .ty n,v=>v=.ty n
 | .tup ps,v=>∃ a vs,v=.ref a/\SqT C.K H a vs/\RVs ps vs
 | .ref n,v=>∃ a,v=.ref a/\φ[n]?=some a
 | .fl ps,v=>∃ a vs,v=.ref a/\SqF C.K H a vs/\RVs ps vs
def RVs:List PV->List V->Prop
 | [],[]=>True
 | p :: ps,v :: vs=>RV p v/\RVs ps vs
 | [],_ :: _=>False
 | _ :: _,[]=>False
end
def RKv {κ:Type}:List (κ×PV)->List (κ×V)->Prop:=Paired fun p q=>p.1=q.1/\RV C φ H p.2 q.2
def RKd:List (PV×PV)->List (PV×Addr×V)->Prop:=Paired fun p q=>p.1=q.1/\p.1.ky 6=true/\RV C φ H p.1 (.ref q.2.1)/\RV C φ H p.2 q.2.2
def RO (a:Addr):MO->Prop
 | .lst ps=>∃ vs,H a=some (.lst vs)/\RVs C φ H ps vs
 | .dK kvs=>∃ ks,H a=some (.dK ks)/\RKv C φ H kvs ks
 | .ins n fs=>∃ c dx ks,C.cl n=some c/\H a=some (.ins c dx ks)/\RKv C φ H fs ks
 | .dD kvs=>∃ ks,H a=some (dDO C.w a ks)/\RKd C φ H kvs ks
 | .vw kd d=>∃ b,φ[d]?=some b/\H a=some (Mx kd a b)
 | .fz (.dK kvs)=>∃ ob ks,H a=some (.frz ob (.dK ks))/\RKv C φ H kvs ks
 | .fz (.dD kvs)=>∃ ob ks,H a=some (.frz ob (dDO C.w a ks))/\RKd C φ H kvs ks
 | .fz _=>False
structure RH (h:PH):Prop where
 len:φ.length=h.length
 nd:φ.Nodup
 at':∀ (n:Nat) (a:Addr) (o:MO),φ[n]?=some a->h[n]?=some o->RO C φ H a o
def RE (δ:Ev) (σ:St):Prop:=δ.length=σ.length/\∀ (i:Nat) (p:PV),δ[i]?=some (some p)->∃ v,σ[i]?=some (some v)/\RV C φ H p v
end
section
variable {C:MC} {φ φ':List Addr} {H H':Hp}
theorem fY {α:Type} {l l':List α} (p:l<+:l') {n:Nat} {a:α} (h:l[n]?=some a):l'[n]?=some a:=by
 obtain ⟨t,rfl⟩:=p
 have:=(List.getElem?_eq_some_iff.mp h).1
 rw [List.getElem?_append_left this]
 exact h
def Kq (H H':Hp):Prop:=fX H H'/\∀ a o xs,H a=some (.frz o (.lst xs))->H' a=some (.frz o (.lst xs))
theorem Kp.q (t:Kp H H'):Kq H H':=⟨t.1,fun a o xs h=>t.2 a o _ h⟩
theorem Kq.sq {K:PySem.W.Frag} {a:Addr} {xs:List V} (t:Kq H H') (h:SqT K H a xs):SqT K H' a xs:=t.1.sq h
theorem Kq.sf {K:PySem.W.Frag} {a:Addr} {xs:List V} (t:Kq H H') (h:SqF K H a xs):SqF K H' a xs:=by
 rcases h with ⟨o,h⟩ | h
 ·exact .inl ⟨o,t.2 _ _ _ h⟩
 ·exact .inr h
mutual
theorem RV.monoQ (p:φ<+:φ') (t:Kq H H'):∀ {x:PV} {v:V},RV C φ H x v->RV C φ' H' x v
 | .non,_,h=>h
 | .bl _,_,h=>h
 | .int _,_,h=>h
 | .str _,_,h=>h
 | .ty _,_,h=>h
 | .tup _,_,⟨a,vs,e,q,r⟩=>⟨a,vs,e,t.sq q,RVs.monoQ p t r⟩
 | .ref _,_,⟨a,e,q⟩=>⟨a,e,fY p q⟩
 | .fl _,_,⟨a,vs,e,q,r⟩=>⟨a,vs,e,t.sf q,RVs.monoQ p t r⟩
theorem RVs.monoQ (p:φ<+:φ') (t:Kq H H'):∀ {xs:List PV} {vs:List V},RVs C φ H xs vs->RVs C φ' H' xs vs
 | [],[],_=>trivial
 | _ :: _,_ :: _,⟨h,r⟩=>⟨RV.monoQ p t h,RVs.monoQ p t r⟩
 | [],_ :: _,h=>h.elim
 | _ :: _,[],h=>h.elim
end
theorem RV.mono (p:φ<+:φ') (t:Kp H H') {x:PV} {v:V} (h:RV C φ H x v):RV C φ' H' x v:=RV.monoQ p t.q h
theorem RVs.mono (p:φ<+:φ') (t:Kp H H') {xs:List PV} {vs:List V} (h:RVs C φ H xs vs):RVs C φ' H' xs vs:=RVs.monoQ p t.q h
theorem RVs.length:∀ {xs:List PV} {vs:List V},RVs C φ H xs vs->xs.length=vs.length
 | [],[],_=>rfl
 | _ :: _,_ :: _,⟨_,r⟩=>by simp [RVs.length r]
 | [],_ :: _,h=>h.elim
 | _ :: _,[],h=>h.elim
theorem RVs.get:∀ {xs:List PV} {vs:List V} {i:Nat} {v:V},RVs C φ H xs vs->vs[i]?=some v->∃ x,xs[i]?=some x/\RV C φ H x v
 | [],[],_,_,_,e=>by simp at e
 | x :: _,w :: _,0,v,⟨h,_⟩,e=>by
  have:w=v:=by simpa using e
  subst this
  exact ⟨x,rfl,h⟩
 | _ :: xs,_ :: vs,i+1,v,⟨_,r⟩,e=>by
  obtain ⟨x,h1,h2⟩:=RVs.get (xs:=xs) (vs:=vs) (i:=i) (v:=v) r (by simpa using e)
  exact ⟨x,by simpa using h1,h2⟩
 | [],_ :: _,_,_,h,_=>h.elim
 | _ :: _,[],_,_,h,_=>h.elim
theorem RVs.at:∀ {xs:List PV} {vs:List V} {i:Nat} {x:PV},RVs C φ H xs vs->xs[i]?=some x->∃ v,vs[i]?=some v/\RV C φ H x v
 | [],[],_,_,_,e=>by simp at e
 | x :: _,w :: _,0,x',⟨h,_⟩,e=>by
  have:x=x':=by simpa using e
  subst this
  exact ⟨w,rfl,h⟩
 | _ :: xs,_ :: vs,i+1,x,⟨_,r⟩,e=>by
  obtain ⟨v,h1,h2⟩:=RVs.at (xs:=xs) (vs:=vs) (i:=i) (x:=x) r (by simpa using e)
  exact ⟨v,by simpa using h1,h2⟩
 | [],_ :: _,_,_,h,_=>h.elim
 | _ :: _,[],_,_,h,_=>h.elim
theorem RVs.append:∀ {xs ys:List PV} {vs us:List V},RVs C φ H xs vs->RVs C φ H ys us->RVs C φ H (xs++ys) (vs++us)
 | [],_,[],_,_,h=>h
 | _ :: _,_,_ :: _,_,⟨h,r⟩,h'=>⟨h,RVs.append r h'⟩
 | [],_,_ :: _,_,h,_=>h.elim
 | _ :: _,_,[],_,h,_=>h.elim
theorem RVs.snoc {xs:List PV} {vs:List V} {x:PV} {v:V} (r:RVs C φ H xs vs) (h:RV C φ H x v):RVs C φ H (xs++[x]) (vs++[v]):=r.append ⟨h,trivial⟩
theorem RVs.drop:∀ {xs:List PV} {vs:List V} (n:Nat),RVs C φ H xs vs->RVs C φ H (xs.drop n) (vs.drop n)
 | _,_,0,h=>h
 | [],[],_+1,_=>trivial
 | _ :: _,_ :: _,n+1,⟨_,r⟩=>RVs.drop n r
 | [],_ :: _,_+1,h=>h.elim
 | _ :: _,[],_+1,h=>h.elim
theorem RVs.take:∀ {xs:List PV} {vs:List V} (n:Nat),RVs C φ H xs vs->RVs C φ H (xs.take n) (vs.take n)
 | [],[],0,_=>trivial
 | _ :: _,_ :: _,0,_=>trivial
 | [],[],_+1,_=>trivial
 | _ :: _,_ :: _,n+1,⟨h,r⟩=>⟨h,RVs.take n r⟩
 | [],_ :: _,_,h=>h.elim
 | _ :: _,[],_,h=>h.elim
theorem RVs.set {x:PV} {v:V} (h:RV C φ H x v):∀ {xs:List PV} {vs:List V} (n:Nat),RVs C φ H xs vs->RVs C φ H (xs.set n x) (vs.set n v)
 | [],[],_,_=>trivial
 | _ :: _,_ :: _,0,⟨_,r⟩=>⟨h,r⟩
 | _ :: _,_ :: _,n+1,⟨q,r⟩=>⟨q,RVs.set h n r⟩
 | [],_ :: _,_,h=>h.elim
 | _ :: _,[],_,h=>h.elim
theorem RVs.reverse:∀ {xs:List PV} {vs:List V},RVs C φ H xs vs->RVs C φ H xs.reverse vs.reverse
 | [],[],_=>trivial
 | _ :: _,_ :: _,⟨h,r⟩=>by simp only [List.reverse_cons]; exact (RVs.reverse r).append ⟨h,trivial⟩
 | [],_ :: _,h=>h.elim
 | _ :: _,[],h=>h.elim
theorem RKv.monoQ {κ:Type} (p:φ<+:φ') (t:Kq H H') {x:List (κ×PV)} {v:List (κ×V)} (h:RKv C φ H x v):RKv C φ' H' x v:=Paired.mapP h fun _ _ q=>⟨q.1,q.2.monoQ p t⟩
theorem RKd.monoQ (p:φ<+:φ') (t:Kq H H') {x:List (PV×PV)} {v:List (PV×Addr×V)} (h:RKd C φ H x v):RKd C φ' H' x v:=Paired.mapP h fun _ _ q=>⟨q.1,q.2.1,q.2.2.1.monoQ p t,q.2.2.2.monoQ p t⟩
theorem RKv.mono {κ:Type} (p:φ<+:φ') (t:Kp H H') {x:List (κ×PV)} {v:List (κ×V)} (h:RKv C φ H x v):RKv C φ' H' x v:=Paired.mapP h fun _ _ q=>⟨q.1,q.2.mono p t⟩
theorem RKd.mono (p:φ<+:φ') (t:Kp H H') {x:List (PV×PV)} {v:List (PV×Addr×V)} (h:RKd C φ H x v):RKd C φ' H' x v:=Paired.mapP h fun _ _ q=>⟨q.1,q.2.1,q.2.2.1.mono p t,q.2.2.2.mono p t⟩
theorem RE.mono (p:φ<+:φ') (t:Kp H H') {δ:Ev} {σ:St} (h:RE C φ H δ σ):RE C φ' H' δ σ:=⟨h.1,fun i x e=>let ⟨v,q,r⟩:=h.2 i x e; ⟨v,q,r.mono p t⟩⟩
theorem RE.set {δ:Ev} {σ:St} {x:PV} {v:V} (h:RE C φ H δ σ) (r:RV C φ H x v) (i:Nat):RE C φ H (δ.set i (some x)) (σ.set i (some v)):=by
 refine ⟨by rw [List.length_set,List.length_set]; exact h.1,fun j p e=>?_⟩
 by_cases hj:i=j
 ·subst hj
  by_cases hl:i < δ.length
  ·rw [List.getElem?_set_self hl] at e
   cases e
   exact ⟨v,by rw [List.getElem?_set_self (by rw [<- h.1]; exact hl)],r⟩
  ·rw [List.getElem?_eq_none (by rw [List.length_set]; omega)] at e
   cases e
 ·rw [List.getElem?_set_ne hj] at e
  rw [List.getElem?_set_ne hj]
  exact h.2 j p e
theorem RO.stayQ {a:Addr} {o:MO} (p:φ<+:φ') (t:Kq H H') (e:H' a=H a) (h:RO C φ H a o):RO C φ' H' a o:=by
 cases o with
 | lst ps=>obtain ⟨vs,q,r⟩:=h; exact ⟨vs,e.trans q,r.monoQ p t⟩
 | dK ps=>obtain ⟨vs,q,r⟩:=h; exact ⟨vs,e.trans q,r.monoQ p t⟩
 | ins n fs=>obtain ⟨c,dx,ks,hc,q,r⟩:=h; exact ⟨c,dx,ks,hc,e.trans q,r.monoQ p t⟩
 | dD kvs=>obtain ⟨ks,q,r⟩:=h; exact ⟨ks,e.trans q,r.monoQ p t⟩
 | vw kd d=>obtain ⟨b,hb,q⟩:=h; exact ⟨b,fY p hb,e.trans q⟩
 | fz o=>
  cases o with
  | dK kvs=>obtain ⟨ob,ks,q,r⟩:=h; exact ⟨ob,ks,e.trans q,r.monoQ p t⟩
  | dD kvs=>obtain ⟨ob,ks,q,r⟩:=h; exact ⟨ob,ks,e.trans q,r.monoQ p t⟩
  | _=>exact h.elim
theorem RO.stay {a:Addr} {o:MO} (p:φ<+:φ') (t:Kp H H') (e:H' a=H a) (h:RO C φ H a o):RO C φ' H' a o:=h.stayQ p t.q e
theorem RO.some {a:Addr} {o:MO} (h:RO C φ H a o):∃ u,H a=some u:=by
 cases o with
 | lst ps=>obtain ⟨vs,q,r⟩:=h; exact ⟨_,q⟩
 | dK ps=>obtain ⟨vs,q,r⟩:=h; exact ⟨_,q⟩
 | ins n fs=>obtain ⟨c,dx,ks,hc,q,r⟩:=h; exact ⟨_,q⟩
 | dD kvs=>obtain ⟨ks,q,r⟩:=h; exact ⟨_,q⟩
 | vw kd d=>obtain ⟨b,hb,q⟩:=h; exact ⟨_,q⟩
 | fz o=>
  cases o with
  | dK kvs=>obtain ⟨ob,ks,q,r⟩:=h; exact ⟨_,q⟩
  | dD kvs=>obtain ⟨ob,ks,q,r⟩:=h; exact ⟨_,q⟩
  | _=>exact h.elim
theorem RH.get {h:PH} (r:RH C φ H h) {n:Nat} {o:MO} (e:h[n]?=some o):∃ a,φ[n]?=some a/\RO C φ H a o:=by
 have hn:=(List.getElem?_eq_some_iff.mp e).1
 have:n < φ.length:=by rw [r.len]; exact hn
 exact ⟨φ[n],by simp [this],r.at' n _ o (by simp [this]) e⟩
theorem RH.tracked {h:PH} (r:RH C φ H h) {n:Nat} {a:Addr} (e:φ[n]?=some a):∃ u,H a=some u:=by
 have hn:=(List.getElem?_eq_some_iff.mp e).1
 have:n < h.length:=by rw [<- r.len]; exact hn
 exact (r.at' n a h[n] e (by simp [this])).some
theorem RH.aside {h:PH} (r:RH C φ H h) {a:Addr} {o:HO} (e:H a=none):RH C φ (upd H a o) h:=
 ⟨r.len,r.nd,fun n b ob h1 h2=>by
  have q:=r.at' n b ob h1 h2
  obtain ⟨u,hu⟩:=q.some
  exact q.stay (List.prefix_rfl) (Kp.new e) (bK (bZ hu e))⟩
theorem RH.new {h:PH} (r:RH C φ H h) {a:Addr} {u:HO} {o:MO} (e:H a=none) (q:RO C (φ++[a]) (upd H a u) a o):RH C (φ++[a]) (upd H a u) (h++[o]):=by
 refine ⟨by simp [r.len],?_,fun n b ob h1 h2=>?_⟩
 ·rw [List.nodup_append]
  refine ⟨r.nd,by simp,fun x hx y hy z=>?_⟩
  rw [List.mem_singleton] at hy
  subst hy z
  obtain ⟨n,hn⟩:=List.mem_iff_getElem?.mp hx
  obtain ⟨u',hu⟩:=r.tracked hn
  rw [e] at hu; cases hu
 ·by_cases hn:n < φ.length
  ·rw [List.getElem?_append_left hn] at h1
   rw [List.getElem?_append_left (by rw [<- r.len]; exact hn)] at h2
   have q':=r.at' n b ob h1 h2
   obtain ⟨u',hu⟩:=q'.some
   exact q'.stay (List.prefix_append _ _) (Kp.new e) (bK (bZ hu e))
  ·have hn':n=φ.length:=by
    have:=(List.getElem?_eq_some_iff.mp h1).1
    simp at this
    omega
   subst hn'
   rw [List.getElem?_append_right (Nat.le_refl _),Nat.sub_self] at h1
   rw [r.len,List.getElem?_append_right (Nat.le_refl _),Nat.sub_self] at h2
   cases h1
   cases h2
   exact q
theorem RH.write {h:PH} (r:RH C φ H h) {n:Nat} {a:Addr} {u:HO} {o:MO} (e:φ[n]?=some a) (t:yW (H a)) (q:RO C φ (upd H a u) a o):RH C φ (upd H a u) (h.set n o):=by
 refine ⟨by rw [List.length_set]; exact r.len,r.nd,fun m b ob h1 h2=>?_⟩
 by_cases hm:n=m
 ·subst hm
  rw [e] at h1; cases h1
  have hl:n < h.length:=by rw [<- r.len]; exact (List.getElem?_eq_some_iff.mp e).1
  rw [List.getElem?_set_self hl] at h2
  cases h2
  exact q
 ·rw [List.getElem?_set_ne hm] at h2
  have hb:b≠a:=fun z=>by
   subst z
   exact hm ((List.getElem?_inj (List.getElem?_eq_some_iff.mp e).1 r.nd).mp (e.trans h1.symm))
  exact (r.at' m b ob h1 h2).stay List.prefix_rfl (Kp.upd t) (bK hb)
end
section
variable (C:MC) (φ:List Addr) (H:Hp)
def post (r:Rs PV) (Q:VK):Prop:=match r with
 | .ok p h=>∀ φ' v H',φ<+:φ'->Kp H H'->RH C φ' H' h->RV C φ' H' p v->Q v H'
 | .exc x h=>∀ φ' H',φ<+:φ'->Kp H H'->RH C φ' H' h->C.ex φ' H' x
 | .bad=>False
def bL (r:Rs Bool) (Q:Bool->Hp->Prop):Prop:=match r with
 | .ok b h=>∀ φ' H',φ<+:φ'->Kp H H'->RH C φ' H' h->Q b H'
 | .exc x h=>∀ φ' H',φ<+:φ'->Kp H H'->RH C φ' H' h->C.ex φ' H' x
 | .bad=>False
def postA (r:Rs (List PV)) (Q:List V->Hp->Prop):Prop:=match r with
 | .ok ps h=>∀ φ' vs H',φ<+:φ'->Kp H H'->RH C φ' H' h->RVs C φ' H' ps vs->Q vs H'
 | .exc x h=>∀ φ' H',φ<+:φ'->Kp H H'->RH C φ' H' h->C.ex φ' H' x
 | .bad=>False
def bV (r:Fl) (D:Ends):Prop:=match r with
 | .nx δ h=>∀ φ' σ H',φ<+:φ'->Kp H H'->RH C φ' H' h->RE C φ' H' δ σ->D.nx σ H'
 | .rt p h=>∀ φ' v H',φ<+:φ'->Kp H H'->RH C φ' H' h->RV C φ' H' p v->D.rt v H'
 | .bk δ h=>∀ φ' σ H',φ<+:φ'->Kp H H'->RH C φ' H' h->RE C φ' H' δ σ->D.bk σ H'
 | .ct δ h=>∀ φ' σ H',φ<+:φ'->Kp H H'->RH C φ' H' h->RE C φ' H' δ σ->D.ct σ H'
 | .exc x h=>∀ φ' H',φ<+:φ'->Kp H H'->RH C φ' H' h->C.ex φ' H' x
 | .bad=>False
end
section
variable {C:MC} {φ φ1:List Addr} {H H1:Hp}
theorem post.weak {r:Rs PV} {Q:VK} (p:φ<+:φ1) (t:Kp H H1) (h:post C φ H r Q):post C φ1 H1 r Q:=by
 cases r with
 | ok a h'=>exact fun φ' v H' p' t'=>h φ' v H' (p.trans p') (t.trans t')
 | exc a h'=>exact fun φ' H' p' t'=>h φ' H' (p.trans p') (t.trans t')
 | bad=>exact h
theorem bL.weak {r:Rs Bool} {Q:Bool->Hp->Prop} (p:φ<+:φ1) (t:Kp H H1) (h:bL C φ H r Q):bL C φ1 H1 r Q:=by
 cases r with
 | ok a h'=>exact fun φ' H' p' t'=>h φ' H' (p.trans p') (t.trans t')
 | exc a h'=>exact fun φ' H' p' t'=>h φ' H' (p.trans p') (t.trans t')
 | bad=>exact h
theorem postA.weak {r:Rs (List PV)} {Q:List V->Hp->Prop} (p:φ<+:φ1) (t:Kp H H1) (h:postA C φ H r Q):postA C φ1 H1 r Q:=by
 cases r with
 | ok a h'=>exact fun φ' v H' p' t'=>h φ' v H' (p.trans p') (t.trans t')
 | exc a h'=>exact fun φ' H' p' t'=>h φ' H' (p.trans p') (t.trans t')
 | bad=>exact h
theorem bV.weak {r:Fl} {D:Ends} (p:φ<+:φ1) (t:Kp H H1) (h:bV C φ H r D):bV C φ1 H1 r D:=by
 cases r with
 | nx a h'=>exact fun φ' v H' p' t'=>h φ' v H' (p.trans p') (t.trans t')
 | rt a h'=>exact fun φ' v H' p' t'=>h φ' v H' (p.trans p') (t.trans t')
 | bk a h'=>exact fun φ' v H' p' t'=>h φ' v H' (p.trans p') (t.trans t')
 | ct a h'=>exact fun φ' v H' p' t'=>h φ' v H' (p.trans p') (t.trans t')
 | exc a h'=>exact fun φ' H' p' t'=>h φ' H' (p.trans p') (t.trans t')
 | bad=>exact h
theorem post.imp {r:Rs PV} {Q Q':VK} (h:post C φ H r Q) (i:∀ v H',Q v H'->Q' v H'):post C φ H r Q':=by
 cases r with
 | ok a h'=>exact fun φ' v H' p t rh rv=>i v H' (h φ' v H' p t rh rv)
 | exc a h'=>exact h
 | bad=>exact h
theorem post.bind {r:Rs PV} {f:PV->PH->Rs PV} {Q:VK} (h:post C φ H (r.bind f) Q):post C φ H r fun v H1=>∃ φ1 p h1,φ<+:φ1/\Kp H H1/\RH C φ1 H1 h1/\RV C φ1 H1 p v/\post C φ1 H1 (f p h1) Q:=by
 cases r with
 | ok a h'=>exact fun φ' v H' p t rh rv=>⟨φ',a,h',p,t,rh,rv,post.weak p t h⟩
 | exc a h'=>exact h
 | bad=>exact h
theorem post.bindB {r:Rs PV} {f:PV->PH->Rs Bool} {Q:Bool->Hp->Prop} (h:bL C φ H (r.bind f) Q):post C φ H r fun v H1=>∃ φ1 p h1,φ<+:φ1/\Kp H H1/\RH C φ1 H1 h1/\RV C φ1 H1 p v/\bL C φ1 H1 (f p h1) Q:=by
 cases r with
 | ok a h'=>exact fun φ' v H' p t rh rv=>⟨φ',a,h',p,t,rh,rv,bL.weak p t h⟩
 | exc a h'=>exact h
 | bad=>exact h
theorem bL.bind {r:Rs Bool} {f:Bool->PH->Rs PV} {Q:VK} (h:post C φ H (r.bind f) Q):bL C φ H r fun b H1=>∃ φ1 h1,φ<+:φ1/\Kp H H1/\RH C φ1 H1 h1/\post C φ1 H1 (f b h1) Q:=by
 cases r with
 | ok a h'=>exact fun φ' H' p t rh=>⟨φ',h',p,t,rh,post.weak p t h⟩
 | exc a h'=>exact h
 | bad=>exact h
theorem bL.bindB {r:Rs Bool} {f:Bool->PH->Rs Bool} {Q:Bool->Hp->Prop} (h:bL C φ H (r.bind f) Q):bL C φ H r fun b H1=>∃ φ1 h1,φ<+:φ1/\Kp H H1/\RH C φ1 H1 h1/\bL C φ1 H1 (f b h1) Q:=by
 cases r with
 | ok a h'=>exact fun φ' H' p t rh=>⟨φ',h',p,t,rh,bL.weak p t h⟩
 | exc a h'=>exact h
 | bad=>exact h
theorem postA.bind {r:Rs (List PV)} {f:List PV->PH->Rs PV} {Q:VK} (h:post C φ H (r.bind f) Q):postA C φ H r fun vs H1=>∃ φ1 ps h1,φ<+:φ1/\Kp H H1/\RH C φ1 H1 h1/\RVs C φ1 H1 ps vs/\post C φ1 H1 (f ps h1) Q:=by
 cases r with
 | ok a h'=>exact fun φ' v H' p t rh rv=>⟨φ',a,h',p,t,rh,rv,post.weak p t h⟩
 | exc a h'=>exact h
 | bad=>exact h
theorem postA.bindA {r:Rs (List PV)} {f:List PV->PH->Rs (List PV)} {Q:List V->Hp->Prop} (h:postA C φ H (r.bind f) Q):postA C φ H r fun vs H1=>∃ φ1 ps h1,φ<+:φ1/\Kp H H1/\RH C φ1 H1 h1/\RVs C φ1 H1 ps vs/\postA C φ1 H1 (f ps h1) Q:=by
 cases r with
 | ok a h'=>exact fun φ' v H' p t rh rv=>⟨φ',a,h',p,t,rh,rv,postA.weak p t h⟩
 | exc a h'=>exact h
 | bad=>exact h
theorem post.bindA {r:Rs PV} {f:PV->PH->Rs (List PV)} {Q:List V->Hp->Prop} (h:postA C φ H (r.bind f) Q):post C φ H r fun v H1=>∃ φ1 p h1,φ<+:φ1/\Kp H H1/\RH C φ1 H1 h1/\RV C φ1 H1 p v/\postA C φ1 H1 (f p h1) Q:=by
 cases r with
 | ok a h'=>exact fun φ' v H' p t rh rv=>⟨φ',a,h',p,t,rh,rv,postA.weak p t h⟩
 | exc a h'=>exact h
 | bad=>exact h
theorem post.val {p:PV} {v:V} {h:PH} {Q:VK} (q:post C φ H (.ok p h) Q) (rh:RH C φ H h) (rv:RV C φ H p v):Q v H:=q φ v H List.prefix_rfl (Kp.refl H) rh rv
end
end L2
set_option Elab.async false
set_option linter.all false
set_option maxRecDepth 100000
namespace L2
open PySem PySem.Spec PyProof.Rows
structure Cxt (C:MC) (k:Nat) (X:Cx):Prop where
 K:X.K=C.K
 calm:X.calm=true
 room:eD k X.A
 bn:∀ x∈C.bs,X.mg x=none
 w:X.w=C.w
theorem Cxt.hu {C:MC} {k:Nat} {X:Cx} (c:Cxt C k X):X.A.units+1 < cLine:=Md c.room
theorem Cxt.hu64 {C:MC} {k:Nat} {X:Cx} (c:Cxt C k X):X.A.units+64 < cLine:=c.room.units
theorem Cxt.comp {C:MC} {k:Nat} {X:Cx} (c:Cxt C k X) (sc:Scope) (N:List Str) (a:Addr) (fp:List Addr) (s:Shared) (H:Hp):Cxt C k (X.comp sc N a fp s H):=⟨c.K,c.calm,c.room,c.bn,c.w⟩
section
variable (C:MC)
def rd (m:Me):TE:=fun σ H Q=>∃ φ δ h,RH C φ H h/\RE C φ H δ σ/\post C φ H (m δ h) Q
def rdB (m:Ev->PH->Rs Bool):TT:=fun σ H Q=>∃ φ δ h,RH C φ H h/\RE C φ H δ σ/\bL C φ H (m δ h) Q
def rdA (m:Ev->PH->Rs (List PV)):TA:=fun σ H Q=>∃ φ δ h,RH C φ H h/\RE C φ H δ σ/\postA C φ H (m δ h) Q
def rdS (m:Ms):TS:=fun D σ H=>∃ φ δ h,RH C φ H h/\RE C φ H δ σ/\bV C φ H (m δ h) D
def r2 (g:PV->PV->PH->Rs PV):R2:=fun x y H Q=>∃ φ h p q,RH C φ H h/\RV C φ H p x/\RV C φ H q y/\post C φ H (g p q h) Q
def r1 (g:PV->PH->Rs PV):V->Hp->VK->Prop:=fun x H Q=>∃ φ h p,RH C φ H h/\RV C φ H p x/\post C φ H (g p h) Q
def rL (g:List PV->PH->Rs PV):List V->Hp->VK->Prop:=fun xs H Q=>∃ φ h ps,RH C φ H h/\RVs C φ H ps xs/\post C φ H (g ps h) Q
end
variable {C:MC} {k:Nat} {X:Cx}
def SE (C:MC) (k:Nat) (X:Cx) (e:Expr) (m:Me):Prop:=Cxt C k X->PE X e (rd C m)
def ST (C:MC) (k:Nat) (X:Cx) (e:Expr) (m:Ev->PH->Rs Bool):Prop:=Cxt C k X->PT X e (rdB C m)
def SA (C:MC) (k:Nat) (X:Cx) (es:List Expr) (m:Ev->PH->Rs (List PV)):Prop:=Cxt C k X->PA X es (rdA C m)
def SSt (C:MC) (k:Nat) (X:Cx) (st:Stmt) (m:Ms):Prop:=Cxt C k X->PS X st (rdS C m)
def SSs (C:MC) (k:Nat) (X:Cx) (st:List Stmt) (m:Ms):Prop:=Cxt C k X->PSs X st (rdS C m)
def OpS (C:MC) (k:Nat) (X:Cx) (f:Value->Value->Sem Value) (g:PV->PV->PH->Rs PV):Prop:=Cxt C k X->OpR X f (r2 C g)
def UnS (C:MC) (k:Nat) (X:Cx) (f:Value->Sem Value) (g:PV->PH->Rs PV):Prop:=Cxt C k X->UnR X f (r1 C g)
def eR (C:MC) (k:Nat) (X:Cx) (f:Value) (g:List PV->PH->Rs PV):Prop:=Cxt C k X->bE X f (rL C g)
def wG:Ev->Nat->Option PV
 | [],_=>none
 | x :: _,0=>x
 | _ :: r,n+1=>wG r n
@[simp] theorem D8 (x:Option PV) (r:Ev):wG (x :: r) 0=x:=(rfl)
@[simp] theorem D9 (x:Option PV) (r:Ev) (n:Nat):wG (x :: r) (n+1)=wG r n:=(rfl)
theorem qK:∀ {δ:Ev} {i:Nat} {p:PV},wG δ i=some p->δ[i]?=some (some p)
 | [],_,_,h=>by cases h
 | x :: _,0,p,h=>by
  have h':x=some p:=h
  simp [h']
 | _ :: r,n+1,p,h=>by
  rw [List.getElem?_cons_succ]
  exact qK (δ:=r) (i:=n) h
def mV (i:Nat):Me:=fun δ h=>match wG δ i with
 | some p=>.ok p h
 | none=>.bad
def mC (p:PV):Me:=fun _ h=>.ok p h
theorem aA (i:Nat) {x:Str} {pos:Pos} (hN:X.N[i]?=some x:=by rfl) (hv:Vis X.env.scope x:=by first | exact Or.inl rfl | exact Or.inr (Or.inl rfl) | exact Or.inr (Or.inr rfl)) (hd:(x == ("__debug__" : Str))=false:=by decide)
  (hcd:(x == ("__classdict__" : Str))=false:=by decide):SE C k X (.Name x pos) (mV i):=fun _=>by
 refine (AB hN hv hd hcd).imp fun σ H Q h=>?_
 obtain ⟨φ,δ,h,rh,re,p⟩:=h
 unfold mV at p
 cases e:wG δ i with
 | none=>rw [e] at p; exact p.elim
 | some x=>
  rw [e] at p
  obtain ⟨v,hv,rv⟩:=re.2 i x (qK e)
  exact ⟨v,hv,p.val rh rv⟩
theorem aG {i j pos}:SE C k X (.Constant (.int i) j pos) (mC (.int i)):=fun _=>JN.imp fun σ H Q ⟨φ,δ,h,rh,re,p⟩=>p.val rh rfl
theorem KD {i j pos}:SE C k X (.Constant (.bool i) j pos) (mC (.bl i)):=fun _=>LO.imp fun σ H Q ⟨φ,δ,h,rh,re,p⟩=>p.val rh rfl
theorem Jv {j pos}:SE C k X (.Constant .none j pos) (mC .non):=fun _=>JO.imp fun σ H Q ⟨φ,δ,h,rh,re,p⟩=>p.val rh rfl
theorem lD {i j pos}:SE C k X (.Constant (.str i) j pos) (mC (.str i)):=fun _=>JP.imp fun σ H Q ⟨φ,δ,h,rh,re,p⟩=>p.val rh rfl
theorem AY {x:Str} {n:String} {pos:Pos} (hv:bootBuiltins x=some (.type n)) (hb:x∈C.bs:=by decide) (hg:Gl X x:=by rfl) (hn:x≠"__name__" := by decide) (hd:(x == ("__debug__" : Str))=false:=by decide):SE C k X (.Name x pos) (mC (.ty n)):=fun c=>
 (Hh (v:=.ty n) hg (c.bn x hb) hv rfl hn hd).imp fun σ H Q ⟨φ,δ,h,rh,re,p⟩=>p.val rh rfl
def aD (g:PV->PV->PH->Rs PV) (ma mb:Me):Me:=fun δ h=>(ma δ h).bind fun x h1=>(mb δ h1).bind fun y h2=>g x y h2
theorem C2 {g:PV->PV->PH->Rs PV} {ma mb:Me} {σ:St} {H:Hp} {Q:VK} (h:rd C (aD g ma mb) σ H Q):tOp (r2 C g) (rd C ma) (rd C mb) σ H Q:=by
 obtain ⟨φ,δ,h,rh,re,p⟩:=h
 refine ⟨φ,δ,h,rh,re,(post.bind p).imp ?_⟩
 rintro v H1 ⟨φ1,x,h1,p1,t1,rh1,rv1,q1⟩
 refine ⟨φ1,δ,h1,rh1,re.mono p1 t1,(post.bind q1).imp ?_⟩
 rintro u H2 ⟨φ2,y,h2,p2,t2,rh2,rv2,q2⟩
 exact ⟨φ2,h2,x,y,rh2,rv1.mono p2 t2,rv2,q2⟩
section
variable {a b e:Expr} {ma mb:Me} {g:PV->PV->PH->Rs PV} {pos:Pos}
theorem aJ {op:Operator} (ho:OpS C k X (binaryOp op) g) (ha:SE C k X a ma) (hb:SE C k X b mb):SE C k X (.BinOp a op b pos) (aD g ma mb):=fun c=>
 (LW (ho c) (ha c) (hb c)).imp fun σ H Q h=>C2 h
theorem C3 {op:CmpOp} (ho:OpS C k X (compareOp op) g) (ha:SE C k X a ma) (hb:SE C k X b mb) (hm:behindInMarks op b=false:=by first | exact Es _ | rfl):SE C k X (.Compare a [op] [b] pos) (aD g ma mb):=fun c=>
 (Hq (ho c) (ha c) (hb c) hm).imp fun σ H Q h=>C2 h
def mUn (g:PV->PH->Rs PV) (ma:Me):Me:=fun δ h=>(ma δ h).bind g
theorem My {op:UnaryOp} {g:PV->PH->Rs PV} (ho:UnS C k X (unaryOp op) g) (ha:SE C k X a ma):SE C k X (.UnaryOp op a pos) (mUn g ma):=fun c=>
 (LX (ho c) (ha c)).imp fun σ H Q h=>by
  obtain ⟨φ,δ,h,rh,re,p⟩:=h
  refine ⟨φ,δ,h,rh,re,(post.bind p).imp ?_⟩
  rintro v H1 ⟨φ1,x,h1,p1,t1,rh1,rv1,q1⟩
  exact ⟨φ1,h1,x,rh1,rv1,q1⟩
end
def aM (h:PH) (n:Nat):Option (List PV):=match h[n]? with
 | some (.lst xs)=>some xs
 | _=>none
theorem bF {φ:List Addr} {H:Hp} {h:PH} {n:Nat} {xs:List PV} (rh:RH C φ H h) (e:aM h n=some xs):∃ a vs,φ[n]?=some a/\SqL C.K H a vs/\RVs C φ H xs vs:=by
 unfold aM at e
 cases q:h[n]? with
 | none=>rw [q] at e; cases e
 | some o=>
  rw [q] at e
  obtain ⟨a,ha,ro⟩:=rh.get q
  cases o with
  | lst ys=>cases e; obtain ⟨vs,q',r⟩:=ro; exact ⟨a,vs,ha,SqL.of q',r⟩
  | _=>cases e
def cL (h:PH) (n:Nat):Option (List PV):=match h[n]? with
 | some (.lst xs)=>some xs
 | _=>none
theorem fD {h:PH} {n:Nat} {xs:List PV} (e:cL h n=some xs):h[n]?=some (.lst xs):=by
 unfold cL at e
 cases q:h[n]? with
 | none=>rw [q] at e; cases e
 | some o=>
  rw [q] at e
  cases o with
  | lst ys=>cases e; rfl
  | _=>cases e
def cP (x:PV) (h:PH):Option (List PV):=match x with
 | .ref n=>aM h n
 | .fl xs=>some xs
 | _=>none
theorem dJ {φ:List Addr} {H:Hp} {h:PH} {x:PV} {v:V} {xs:List PV} (rh:RH C φ H h) (rv:RV C φ H x v) (e:cP x h=some xs):∃ a vs,v=.ref a/\SqL C.K H a vs/\RVs C φ H xs vs:=by
 cases x with
 | ref n=>
  obtain ⟨a,rfl,ha⟩:=rv
  obtain ⟨a2,vs,ha2,sa,ra⟩:=bF rh e
  rw [ha] at ha2; cases ha2
  exact ⟨a,vs,rfl,sa,ra⟩
 | fl ys=>
  cases e
  obtain ⟨a,vs,rfl,sa,ra⟩:=rv
  exact ⟨a,vs,rfl,sa.sq,ra⟩
 | _=>cases e
def Jw:List PV->Bool
 | []=>true
 | _ :: _=>false
def EU:PV->PV->PH->Rs PV:=fun x y h=>match x,y with
 | .int i,.int j=>.ok (.int (i+j)) h
 | .str i,.str j=>if i.length+j.length<=sizeLine then .ok (.str (i++j)) h else .bad
 | .tup xs,.tup ys=>if Jw xs=false/\xs.length+ys.length<=sizeLine then .ok (.tup (xs++ys)) h else .bad
 | .ref a,.ref b=>match cL h a,cL h b with
  | some xs,some ys=>if xs.length+ys.length<=sizeLine then .ok (.ref h.length) (h++[.lst (xs++ys)]) else .bad
  | _,_=>.bad
 | _,_=>.bad
theorem post.ite {φ:List Addr} {H:Hp} {c:Prop} [Decidable c] {r:Rs PV} {Q:VK} (h:post C φ H (if c then r else .bad) Q):c/\post C φ H r Q:=by
 by_cases hc:c
 ·rw [if_pos hc] at h; exact ⟨hc,h⟩
 ·rw [if_neg hc] at h; exact h.elim
theorem post.lnew {φ:List Addr} {H:Hp} {h:PH} {xs:List PV} {vs:List V} {Q:VK} (q:post C φ H (.ok (.ref h.length) (h++[.lst xs])) Q) (rh:RH C φ H h) (r:RVs C φ H xs vs) {p:Addr} (hp:H p=none):Q (.ref p) (upd H p (.lst vs)):=
 q (φ++[p]) (.ref p) _ (List.prefix_append _ _) (Kp.new hp) (rh.new hp ⟨vs,bO,r.mono (List.prefix_append _ _) (Kp.new hp)⟩) ⟨p,rfl,by rw [<- rh.len]; simp⟩
theorem post.tnew {φ:List Addr} {H:Hp} {h:PH} {xs:List PV} {vs:List V} {Q:VK} (q:post C φ H (.ok (.tup xs) h) Q) (rh:RH C φ H h) (r:RVs C φ H xs vs) {p:Addr} (hp:H p=none):Q (.ref p) (upd H p (.tup vs)):=
 q φ (.ref p) _ List.prefix_rfl (Kp.new hp) (rh.aside hp) ⟨p,vs,rfl,SqT.of bO,r.mono List.prefix_rfl (Kp.new hp)⟩
theorem post.lset {φ:List Addr} {H:Hp} {h:PH} {n:Nat} {a:Addr} {p:PV} {v:V} {xs:List PV} {ws vs:List V} {Q:VK} (q:post C φ H (.ok p (h.set n (.lst xs))) Q) (rh:RH C φ H h) (e:φ[n]?=some a) (hl:H a=some (.lst ws)) (r:RVs C φ H xs vs) (rv:RV C φ H p v):Q v (upd H a (.lst vs)):=
 q φ v _ List.prefix_rfl (Kp.lst hl) (rh.write e (by rw [hl]; trivial) ⟨vs,bO,r.mono List.prefix_rfl (Kp.lst hl)⟩) (rv.mono List.prefix_rfl (Kp.lst hl))
theorem EV {xs:List PV} {vs:List V} {φ:List Addr} {H:Hp} (r:RVs C φ H xs vs) (h:Jw xs=false):vs≠[]:=by
 cases xs with
 | nil=>cases h
 | cons x xs=>
  cases vs with
  | nil=>exact r.elim
  | cons=>intro z; cases z
theorem Mz:OpS C k X (binaryOp .Add) EU:=fun c=>(HE C.K c.K).imp fun x y H Q h=>by
 obtain ⟨φ,h,p,q,rh,rx,ry,po⟩:=h
 unfold EU at po
 cases p with
 | int i=>
  cases q with
  | int j=>cases rx; cases ry; exact po.val rh rfl
  | _=>exact po.elim
 | str i=>
  cases q with
  | str j=>cases rx; cases ry; exact ⟨po.ite.1,po.ite.2.val rh rfl⟩
  | _=>exact po.elim
 | tup xs=>
  cases q with
  | tup ys=>
   obtain ⟨a,vs,rfl,sa,ra⟩:=rx
   obtain ⟨b,us,rfl,sb,rb⟩:=ry
   obtain ⟨⟨h1,h2⟩,po⟩:=po.ite
   refine .inr ⟨a,b,vs,us,rfl,rfl,sa,sb,EV ra h1,by rw [<- ra.length,<- rb.length]; exact h2,fun z=>?_,fun z p hp=>po.tnew rh (ra.append rb) hp⟩
   subst z
   have e:ys=[]:=List.eq_nil_of_length_eq_zero rb.length
   subst e
   exact po.val rh ⟨a,vs,rfl,sa,by rw [List.append_nil]; exact ra⟩
  | _=>exact po.elim
 | ref n=>
  cases q with
  | ref m=>
   obtain ⟨a,rfl,ha⟩:=rx
   obtain ⟨b,rfl,hb⟩:=ry
   dsimp only at po
   cases e1:cL h n with
   | none=>rw [e1] at po; exact po.elim
   | some xs=>
    cases e2:cL h m with
    | none=>rw [e1,e2] at po; exact po.elim
    | some ys=>
     rw [e1,e2] at po
     obtain ⟨vs,h1,r1⟩:=rh.at' n a _ ha (fD e1)
     obtain ⟨us,h2,r2⟩:=rh.at' m b _ hb (fD e2)
     obtain ⟨hz,po⟩:=po.ite
     exact .inl ⟨a,b,vs,us,rfl,rfl,h1,h2,by rw [<- r1.length,<- r2.length]; exact hz,fun p hp=>po.lnew rh (r1.append r2) hp⟩
  | _=>exact po.elim
 | _=>exact po.elim
def vInt (P:Int->Int->Prop) [∀ i j,Decidable (P i j)] (f:Int->Int->Int):PV->PV->PH->Rs PV:=fun x y h=>match x,y with
 | .int i,.int j=>if P i j then .ok (.int (f i j)) h else .bad
 | _,_=>.bad
theorem C4 {f:Value->Value->Sem Value} {P:Int->Int->Prop} [∀ i j,Decidable (P i j)] {g:Int->Int->Int} (ho:OpR X f (tO P g)):OpS C k X f (vInt P g):=fun c=>ho.imp fun x y H Q h=>by
 obtain ⟨φ,h,p,q,rh,rx,ry,po⟩:=h
 unfold vInt at po
 cases p with
 | int i=>
  cases q with
  | int j=>cases rx; cases ry; exact ⟨po.ite.1,po.ite.2.val rh rfl⟩
  | _=>exact po.elim
 | _=>exact po.elim
noncomputable instance (i j:Int):Decidable (yO i j):=Classical.propDecidable _
noncomputable instance (i j:Int):Decidable (Er i j):=Classical.propDecidable _
noncomputable instance (i j:Int):Decidable (CH i j):=Classical.propDecidable _
def AZ:PV->PV->PH->Rs PV:=fun x y h=>match x,y with
 | .int i,.int j=>.ok (.int (i - j)) h
 | _,_=>.bad
theorem C5:OpS C k X (binaryOp .Sub) AZ:=fun c=>HF.imp fun x y H Q h=>by
 obtain ⟨φ,h,p,q,rh,rx,ry,po⟩:=h
 unfold AZ at po
 cases p with
 | int i=>
  cases q with
  | int j=>cases rx; cases ry; exact po.val rh rfl
  | _=>exact po.elim
 | _=>exact po.elim
noncomputable abbrev Da:=vInt yO fun i j=>i*j
noncomputable abbrev kE:=vInt Er fun i j=>i / j
abbrev iD:=vInt (fun _ j=>0 < j) fun i j=>i % j
noncomputable abbrev KF:=vInt CH fun i j=>i ^ j.toNat
theorem C6:OpS C k X (binaryOp .Mult) Da:=C4 HG
theorem hJ:OpS C k X (binaryOp .FloorDiv) kE:=C4 HH
theorem dW:OpS C k X (binaryOp .Mod) iD:=C4 HJ
theorem MA:OpS C k X (binaryOp .Pow) KF:=C4 HK
def Dc:PV->PH->Rs PV:=fun x h=>match x with
 | .int i=>.ok (.int (-i)) h
 | _=>.bad
end L2
set_option Elab.async false
set_option linter.all false
set_option maxRecDepth 100000
namespace L2
open PySem PySem.Spec PyProof.Rows
variable {C:MC} {k:Nat} {X:Cx}
def zF (f:Int->Int->Bool) (g:List Nat->List Nat->Bool):PV->PV->PH->Rs PV:=fun x y h=>match x,y with
 | .int i,.int j=>.ok (.bl (f i j)) h
 | .str i,.str j=>.ok (.bl (g i.cps.toList j.cps.toList)) h
 | _,_=>.bad
theorem EW {f:Value->Value->Sem Value} {p:Int->Int->Bool} {g:List Nat->List Nat->Bool} (ho:OpR X f (yU p g)):OpS C k X f (zF p g):=fun c=>ho.imp fun x y H Q h=>by
 obtain ⟨φ,h,p,q,rh,rx,ry,po⟩:=h
 unfold zF at po
 cases p with
 | int i=>
  cases q with
  | int j=>cases rx; cases ry; exact po.val rh rfl
  | _=>exact po.elim
 | str i=>
  cases q with
  | str j=>cases rx; cases ry; exact po.val rh rfl
  | _=>exact po.elim
 | _=>exact po.elim
abbrev vLt:=zF (fun i j=>decide (i < j)) fun i j=>decide (i < j)
abbrev vGt:=zF (fun i j=>decide (j < i)) fun i j=>decide (j < i)
abbrev vLe:=zF (fun i j=>decide (i<=j)) fun i j=>!decide (j < i)
abbrev vGe:=zF (fun i j=>decide (j<=i)) fun i j=>!decide (i < j)
theorem Ot:OpS C k X (compareOp .Lt) vLt:=EW Kn
theorem KG:OpS C k X (compareOp .Gt) vGt:=EW Ko
theorem Ou:OpS C k X (compareOp .LtE) vLe:=EW Kr
mutual
def PV.d:PV->Option D
 | .non=>some .non
 | .bl b=>some (.bl b)
 | .int i=>some (.int i)
 | .str x=>some (.str x)
 | .tup xs=>match PV.ds xs with
  | some ds=>some (.tup ds)
  | none=>none
 | .ref _=>none
 | .ty _=>none
 | .fl _=>none
def PV.ds:List PV->Option (List D)
 | []=>some []
 | x :: xs=>match PV.d x,PV.ds xs with
  | some d,some ds=>some (d :: ds)
  | _,_=>none
end
section
variable {φ:List Addr} {H:Hp}
mutual
theorem RV.rep:∀ {x:PV} {d:D} {v:V},RV C φ H x v->x.d=some d->Rep C.K H d v
 | .non,_,_,h,e=>by cases e; exact h
 | .bl _,_,_,h,e=>by cases e; exact h
 | .int _,_,_,h,e=>by cases e; exact h
 | .str _,_,_,h,e=>by cases e; exact h
 | .tup xs,d,v,⟨a,vs,e1,q,r⟩,e=>by
  unfold PV.d at e
  cases e2:PV.ds xs with
  | none=>rw [e2] at e; cases e
  | some ds=>
   rw [e2] at e
   cases e
   exact ⟨a,vs,e1,q,RVs.reps r e2⟩
 | .ref _,_,_,_,e=>by cases e
 | .ty _,_,_,_,e=>by cases e
 | .fl _,_,_,_,e=>by cases e
theorem RVs.reps:∀ {xs:List PV} {ds:List D} {vs:List V},RVs C φ H xs vs->PV.ds xs=some ds->cH C.K H ds vs
 | [],_,[],_,e=>by cases e; trivial
 | x :: xs,_,v :: vs,⟨h,r⟩,e=>by
  unfold PV.ds at e
  cases e1:PV.d x with
  | none=>rw [e1] at e; cases e
  | some d=>
   cases e2:PV.ds xs with
   | none=>rw [e1,e2] at e; cases e
   | some ds=>
    rw [e1,e2] at e
    cases e
    exact ⟨RV.rep h e1,RVs.reps r e2⟩
 | [],_,_ :: _,h,_=>h.elim
 | _ :: _,_,[],h,_=>h.elim
end
end
def fZ (x y:PV) (h:PH):Option Bool:=match x.d,y.d with
 | some d,some e=>if d.depth<=40 then some (eqD d e) else none
 | _,_=>match cP x h,cP y h with
   | some xs,some ys=>match PV.ds xs,PV.ds ys with
    | some ds,some es=>if D.depths ds<=40 then some (cT ds es) else none
    | _,_=>none
   | _,_=>none
def ofB (o:Option Bool) (h:PH):Rs PV:=match o with
 | some b=>.ok (.bl b) h
 | none=>.bad
def vEq:PV->PV->PH->Rs PV:=fun x y h=>ofB (fZ x y h) h
def vNe:PV->PV->PH->Rs PV:=fun x y h=>ofB ((fZ x y h).map not) h
theorem gF {φ:List Addr} {H:Hp} {h:PH} {p q:PV} {x y:V} {b:Bool} (rh:RH C φ H h) (rx:RV C φ H p x) (ry:RV C φ H q y) (e:fZ p q h=some b):
  (∃ d e,Rep C.K H d x/\Rep C.K H e y/\d.depth<=40/\b=eqD d e)\/(∃ ds es,yX C.K H ds x/\yX C.K H es y/\D.depths ds<=40/\b=cT ds es):=by
 unfold fZ at e
 split at e
 ·rename_i d e' h1 h2
  split at e
  ·rename_i hd
   cases e
   exact .inl ⟨d,e',rx.rep h1,ry.rep h2,hd,rfl⟩
  ·cases e
 ·split at e
  ·rename_i xs ys h1 h2
   split at e
   ·rename_i ds es h3 h4
    split at e
    ·rename_i hd
     cases e
     obtain ⟨a',vs,rfl,sa,ra⟩:=dJ rh rx h1
     obtain ⟨b'',us,rfl,sb,rb⟩:=dJ rh ry h2
     exact .inr ⟨ds,es,⟨a',vs,rfl,sa,ra.reps h3⟩,⟨b'',us,rfl,sb,rb.reps h4⟩,hd,rfl⟩
    ·cases e
   ·cases e
  ·cases e
theorem post.ofB {φ:List Addr} {H:Hp} {h:PH} {o:Option Bool} {Q:VK} (q:post C φ H (ofB o h) Q):∃ b,o=some b/\post C φ H (.ok (.bl b) h) Q:=by
 cases o with
 | none=>exact q.elim
 | some b=>exact ⟨b,rfl,q⟩
theorem nD:OpS C k X (compareOp .Eq) vEq:=fun c=>((Ku c.hu64 C.K c.K).or (Kw c.hu64 C.K c.K)).imp fun x y H Q h=>by
 obtain ⟨φ,h,p,q,rh,rx,ry,po⟩:=h
 obtain ⟨b,e,po⟩:=po.ofB
 rcases gF rh rx ry e with ⟨d,e',h1,h2,h3,rfl⟩ | ⟨d,e',h1,h2,h3,rfl⟩
 ·exact .inl ⟨d,e',h1,h2,h3,po.val rh rfl⟩
 ·exact .inr ⟨d,e',h1,h2,h3,po.val rh rfl⟩
theorem MB:OpS C k X (compareOp .NotEq) vNe:=fun c=>((Kv c.hu64 C.K c.K).or (Kx c.hu64 C.K c.K)).imp fun x y H Q h=>by
 obtain ⟨φ,h,p,q,rh,rx,ry,po⟩:=h
 obtain ⟨b,e,po⟩:=po.ofB
 cases e0:fZ p q h with
 | none=>rw [e0] at e; cases e
 | some b'=>
  rw [e0] at e
  cases e
  rcases gF rh rx ry e0 with ⟨d,e',h1,h2,h3,rfl⟩ | ⟨d,e',h1,h2,h3,rfl⟩
  ·exact .inl ⟨d,e',h1,h2,h3,po.val rh rfl⟩
  ·exact .inr ⟨d,e',h1,h2,h3,po.val rh rfl⟩
def qL:PV->Option Key
 | .int i=>some (.inl i)
 | .str x=>some (.inr x)
 | _=>none
def cG {κ:Type} [DecidableEq κ]:List (κ×PV)->κ->Option PV
 | [],_=>none
 | (a,p) :: r,b=>if a=b then some p else cG r b
def B0 (h:PH) (n:Nat) (x:PV):Option (Option PV):=match h[n]? with
 | some (.dK kvs)=>match qL x with
  | some key=>some (cG kvs key)
  | none=>none
 | _=>none
def EX (x:PV) (ys:List PV):Option Bool:=match x.d,PV.ds ys with
 | some d,some ds=>if D.depths ds<=40 then some (ds.any fun e=>eqD e d) else none
 | _,_=>none
def P5 (x y:PV) (h:PH):Option Bool:=match y with
 | .tup ys=>EX x ys
 | .ref n=>match aM h n with
  | some ys=>EX x ys
  | none=>(B0 h n x).map Option.isSome
 | .fl ys=>EX x ys
 | _=>none
theorem wH {φ:List Addr} {H:Hp} {x:PV} {v:V} {key:Key} (r:RV C φ H x v) (e:qL x=some key):v=kV key:=by
 cases x <;> first | (cases e; exact r) | cases e
theorem tZ {φ:List Addr} {H:Hp} {κ:Type} [DecidableEq κ] {kvs:List (κ×PV)} {ks:List (κ×V)} (r:RKv C φ H kvs ks) (a:κ):match cG kvs a,iC ks a with
  | some p,some v=>RV C φ H p v
  | none,none=>True
  | _,_=>False:=by
 unfold RKv at r
 induction r with
 | nil=>trivial
 | @cons p q ps qs h t ih=>
  obtain ⟨h1,h2⟩:=h
  obtain ⟨pk,pv⟩:=p
  by_cases e:pk=a
  ·have e':q.1=a:=h1.symm.trans e
   rw [kQ e']
   unfold cG
   rw [if_pos e]
   exact h2
  ·have e':¬ q.1=a:=fun z=>e (h1.trans z)
   rw [kR e']
   unfold cG
   rw [if_neg e]
   exact ih
theorem qM {φ:List Addr} {H:Hp} {h:PH} {n:Nat} {a:Addr} {x:PV} {v:V} {o:Option PV} (rh:RH C φ H h) (ha:φ[n]?=some a) (rv:RV C φ H x v) (e:B0 h n x=some o):
  ∃ o',sJ H a v o'/\o.isSome=o'.isSome/\∀ p,o=some p->∃ w,o'=some w/\RV C φ H p w:=by
 unfold B0 at e
 split at e
 ·rename_i kvs hk
  split at e
  ·rename_i key hkey
   cases e
   obtain ⟨ks,hH,rk⟩:=rh.at' n a _ ha hk
   have q:=tZ rk key
   rw [wH rv hkey]
   refine ⟨iC ks key,sJ.k hH,?_,fun p hp=>?_⟩
   ·cases e1:cG kvs key <;> cases e2:iC ks key <;> rw [e1,e2] at q <;> first | rfl | exact q.elim
   ·rw [hp] at q
    cases e2:iC ks key with
    | none=>rw [e2] at q; exact q.elim
    | some w=>rw [e2] at q; exact ⟨w,rfl,q⟩
  ·cases e
 ·cases e
def kF:PV->Bool
 | .non=>true
 | _=>false
def vIs:PV->PV->PH->Rs PV:=fun x y h=>match y with
 | .non=>.ok (.bl (kF x)) h
 | .bl b=>match x with
  | .bl a=>.ok (.bl (a == b)) h
  | _=>.bad
 | _=>.bad
def EY:PV->PV->PH->Rs PV:=fun x y h=>match y with
 | .non=>.ok (.bl (!kF x)) h
 | .bl b=>match x with
  | .bl a=>.ok (.bl (!(a == b))) h
  | _=>.bad
 | _=>.bad
theorem RV.isNon {φ:List Addr} {H:Hp} {p:PV} {v:V} (r:RV C φ H p v):decide (v=.non)=kF p:=by
 cases p with
 | non=>cases r; rfl
 | tup xs=>obtain ⟨a,vs,rfl,_⟩:=r; rfl
 | ref n=>obtain ⟨a,rfl,_⟩:=r; rfl
 | fl xs=>obtain ⟨a,vs,rfl,_⟩:=r; rfl
 | _=>cases r; rfl
theorem MD:OpS C k X (compareOp .Is) vIs:=fun c=>(K8.or (fun pins s σ H x y v u Q I rx ry (h:∃ a b,x=.bl a/\y=.bl b/\Q (.bl (a == b)) H)=>by
  obtain ⟨a,b,rfl,rfl,q⟩:=h
  cases rx; cases ry
  exact PyProof.Rows.is_bool ⟨.bl _,H,I,rfl,q⟩)).imp fun x y H Q h=>by
 obtain ⟨φ,h,p,q,rh,rx,ry,po⟩:=h
 unfold vIs at po
 cases q with
 | non=>
  cases ry
  refine .inl ⟨rfl,?_⟩
  rw [rx.isNon]
  exact po.val rh rfl
 | bl b=>
  cases p with
  | bl a=>cases rx; cases ry; exact .inr ⟨a,b,rfl,rfl,po.val rh rfl⟩
  | _=>exact po.elim
 | _=>exact po.elim
def tru (x:PV) (h:PH):Rs Bool:=match x with
 | .non=>.ok false h
 | .bl b=>.ok b h
 | .int i=>.ok (i != 0) h
 | .str y=>if y.length<=sizeLine then .ok ((y.length:Int) != 0) h else .bad
 | .tup xs=>.ok (!xs.isEmpty) h
 | .ref n=>match aM h n with
  | some xs=>.ok (!xs.isEmpty) h
  | none=>match h[n]? with
   | some (.dK kvs)=>.ok (!kvs.isEmpty) h
   | _=>.bad
 | .fl xs=>.ok (!xs.isEmpty) h
 | .ty _=>.bad
theorem RVs.isEmpty {φ:List Addr} {H:Hp} {xs:List PV} {vs:List V} (r:RVs C φ H xs vs):(!vs.isEmpty)=!xs.isEmpty:=by
 cases xs <;> cases vs <;> first | rfl | exact r.elim
theorem bL.ite {φ:List Addr} {H:Hp} {c:Prop} [Decidable c] {r:Rs Bool} {Q:Bool->Hp->Prop} (h:bL C φ H (if c then r else .bad) Q):c/\bL C φ H r Q:=by
 by_cases hc:c
 ·rw [if_pos hc] at h; exact ⟨hc,h⟩
 ·rw [if_neg hc] at h; exact h.elim
theorem bL.val {φ:List Addr} {H:Hp} {b:Bool} {h:PH} {Q:Bool->Hp->Prop} (q:bL C φ H (.ok b h) Q) (rh:RH C φ H h):Q b H:=q φ H List.prefix_rfl (Kp.refl H) rh
theorem Dd {φ:List Addr} {H:Hp} {h:PH} {p:PV} {v:V} {Q:Bool->Hp->Prop} (rh:RH C φ H h) (rv:RV C φ H p v) (po:bL C φ H (tru p h) Q):∃ b,Hr C.K v H b/\Q b H:=by
 unfold tru at po
 cases p with
 | non=>cases rv; exact ⟨_,rfl,po.val rh⟩
 | bl b=>cases rv; exact ⟨_,rfl,po.val rh⟩
 | int i=>cases rv; exact ⟨_,rfl,po.val rh⟩
 | str y=>cases rv; exact ⟨_,⟨po.ite.1,rfl⟩,po.ite.2.val rh⟩
 | tup xs=>
  obtain ⟨a,vs,rfl,sa,ra⟩:=rv
  exact ⟨_,.inr (.inl ⟨vs,sa,rfl⟩),by rw [ra.isEmpty]; exact po.val rh⟩
 | ref n=>
  obtain ⟨a,rfl,ha⟩:=rv
  dsimp only at po
  cases e:aM h n with
  | some xs=>
   rw [e] at po
   obtain ⟨a2,vs,ha2,sa,ra⟩:=bF rh e
   rw [ha] at ha2; cases ha2
   exact ⟨_,.inl ⟨vs,sa,rfl⟩,by rw [ra.isEmpty]; exact po.val rh⟩
  | none=>
   rw [e] at po
   dsimp only at po
   split at po
   ·rename_i kvs hk
    obtain ⟨ks,hH,rk⟩:=rh.at' n a _ ha hk
    refine ⟨_,.inr (.inr ⟨ks,hH,rfl⟩),?_⟩
    have:(!ks.isEmpty)=!kvs.isEmpty:=by cases rk <;> rfl
    rw [this]
    exact po.val rh
   ·exact po.elim
 | fl xs=>
  obtain ⟨a,vs,rfl,sa,ra⟩:=rv
  exact ⟨_,.inl ⟨vs,sa.sq,rfl⟩,by rw [ra.isEmpty]; exact po.val rh⟩
 | ty n=>exact po.elim
end L2
set_option Elab.async false
set_option linter.all false
set_option maxRecDepth 100000
namespace L2
open PySem PySem.Spec PyProof.Rows
variable {C:MC} {k:Nat} {X:Cx}
def cE (m:Me):Ev->PH->Rs Bool:=fun δ h=>(m δ h).bind tru
theorem EZ {m:Me} {σ:St} {H:Hp} {Q:Bool->Hp->Prop} (h:rdB C (cE m) σ H Q):rd C m σ H fun v H1=>∃ b,Hr C.K v H1 b/\Q b H1:=by
 obtain ⟨φ,δ,h,rh,re,p⟩:=h
 refine ⟨φ,δ,h,rh,re,(post.bindB p).imp ?_⟩
 rintro v H1 ⟨φ1,x,h1,p1,t1,rh1,rv1,q1⟩
 exact Dd rh1 rv1 q1
section
variable {a b e c':Expr} {ma mb mc m:Me} {g g':PV->PV->PH->Rs PV} {pos:Pos} {ta tb:Ev->PH->Rs Bool}
theorem C7 (h:SE C k X e m) (he:∀ whole,isTrue e X.env whole=(do let v <- whole; standAt e.pos; holding [v] (truthy v)):=by intro _; rfl):ST C k X e (cE m):=fun c=>
 (Eu (h c) he).imp fun σ H Q q=>by rw [c.K]; exact EZ q
theorem cM {op:CmpOp} (ho:OpS C k X (compareOp op) g) (ha:SE C k X a ma) (hb:SE C k X b mb) (hm:behindInMarks op b=false:=by first | exact Es _ | rfl):ST C k X (.Compare a [op] [b] pos) (cE (aD g ma mb)):=fun c=>by
 intro pins s σ H Q I h
 have h:=C2 (EZ h)
 refine wpAny_isTrue_Compare1 (thn (ha c pins s σ H _ I h) fun v s1 ⟨x,H1,I1,r1,q1⟩=>thn (hb c pins s1 σ H1 _ I1 q1) fun u s2 ⟨y,H2,I2,r2,q2⟩=>
  thn (ho c pins s2 σ H2 x y v u _ I2 r1 r2 q2) fun w s3 ⟨z,H3,I3,r3,q3⟩=>?_) hm
 rw [<- c.K] at q3
 exact Et pins s3 σ H3 z w Q I3 r3 q3
def Jx (z:PV) (h:PH):Rs PV:=match z with
 | .bl b=>.ok (.bl b) h
 | _=>.bad
def P6 (g g':PV->PV->PH->Rs PV) (ma mb mc:Me):Me:=fun δ h=>(ma δ h).bind fun x h1=>(mb δ h1).bind fun y h2=>(g x y h2).bind fun z h3=>match z with
 | .bl true=>(mc δ h3).bind fun w h4=>(g' y w h4).bind Jx
 | .bl false=>.ok (.bl false) h3
 | _=>.bad
def zG (t:Ev->PH->Rs Bool):Ev->PH->Rs Bool:=fun δ h=>(t δ h).bind fun b h1=>.ok (!b) h1
def qN (ta tb:Ev->PH->Rs Bool):Ev->PH->Rs Bool:=fun δ h=>(ta δ h).bind fun b h1=>match b with
 | true=>tb δ h1
 | false=>.ok false h1
def F0 (ta tb:Ev->PH->Rs Bool):Ev->PH->Rs Bool:=fun δ h=>(ta δ h).bind fun b h1=>match b with
 | true=>.ok true h1
 | false=>tb δ h1
theorem bL.imp {φ:List Addr} {H:Hp} {r:Rs Bool} {Q Q':Bool->Hp->Prop} (h:bL C φ H r Q) (i:∀ v H',Q v H'->Q' v H'):bL C φ H r Q':=by
 cases r with
 | ok a h'=>exact fun φ' H' p t rh=>i a H' (h φ' H' p t rh)
 | exc a h'=>exact h
 | bad=>exact h
theorem F1 (h:ST C k X e ta):ST C k X (.UnaryOp .Not e pos) (zG ta):=fun c=>(JS (h c)).imp fun σ H Q q=>by
 obtain ⟨φ,δ,h,rh,re,p⟩:=q
 refine ⟨φ,δ,h,rh,re,(bL.bindB p).imp ?_⟩
 rintro b H1 ⟨φ1,h1,p1,t1,rh1,q1⟩
 exact q1.val rh1
def SW (C:MC) (k:Nat) (X:Cx) (e:Expr) (m:Ev->PH->Rs Bool):Prop:=Cxt C k X->PW X e (rdB C m)
theorem SW.t (h:SW C k X e ta):ST C k X e ta:=fun c=>(h c).pt
theorem PW.imp {t t':TT} (h:PW X e t) (i:∀ σ H Q,t' σ H Q->t σ H Q):PW X e t':=fun w pins s σ H Q I q=>h w pins s σ H Q I (i σ H Q q)
theorem B1 (ha:ST C k X a ta):SW C k X (.BoolOp .And [a] pos) ta:=fun c=>Hi (ha c)
theorem Jy (ha:ST C k X a ta):SW C k X (.BoolOp .Or [a] pos) ta:=fun c=>JQ (ha c)
theorem w_and {rest:List Expr} (ha:ST C k X a ta) (hb:SW C k X (.BoolOp .And (b :: rest) pos) tb):SW C k X (.BoolOp .And (a :: b :: rest) pos) (qN ta tb):=fun c=>PW.imp (JR (ha c) (hb c)) fun σ H Q q=>by
 obtain ⟨φ,δ,h,rh,re,p⟩:=q
 refine ⟨φ,δ,h,rh,re,(bL.bindB p).imp ?_⟩
 rintro b H1 ⟨φ1,h1,p1,t1,rh1,q1⟩
 cases b with
 | true=>exact CT ⟨φ1,δ,h1,rh1,re.mono p1 t1,q1⟩
 | false=>exact CS (q1.val rh1)
theorem w_or {rest:List Expr} (ha:ST C k X a ta) (hb:SW C k X (.BoolOp .Or (b :: rest) pos) tb):SW C k X (.BoolOp .Or (a :: b :: rest) pos) (F0 ta tb):=fun c=>PW.imp (LP (ha c) (hb c)) fun σ H Q q=>by
 obtain ⟨φ,δ,h,rh,re,p⟩:=q
 refine ⟨φ,δ,h,rh,re,(bL.bindB p).imp ?_⟩
 rintro b H1 ⟨φ1,h1,p1,t1,rh1,q1⟩
 cases b with
 | true=>exact CT (q1.val rh1)
 | false=>exact CS ⟨φ1,δ,h1,rh1,re.mono p1 t1,q1⟩
def oB (ma mb:Me):Me:=fun δ h=>(ma δ h).bind fun x h1=>match x with
 | .bl true=>mb δ h1
 | .bl false=>.ok (.bl false) h1
 | _=>.bad
theorem Jz {op} (h:SE C k X a ma):SE C k X (.BoolOp op [a] pos) ma:=fun c=>JT (h c)
theorem F2 {rest:List Expr} (ha:SE C k X a ma) (hb:SE C k X (.BoolOp .And (b :: rest) pos) mb):SE C k X (.BoolOp .And (a :: b :: rest) pos) (oB ma mb):=fun c=>(HL (ha c) (hb c)).imp fun σ H Q q=>by
 obtain ⟨φ,δ,h,rh,re,p⟩:=q
 refine ⟨φ,δ,h,rh,re,(post.bind p).imp ?_⟩
 rintro v H1 ⟨φ1,x,h1,p1,t1,rh1,rv,q1⟩
 cases x with
 | bl b=>
  cases rv
  cases b with
  | true=>exact CT ⟨φ1,δ,h1,rh1,re.mono p1 t1,q1⟩
  | false=>exact CS (q1.val rh1 rfl)
 | _=>exact q1.elim
def mIf (t:Ev->PH->Rs Bool) (ma mb:Me):Me:=fun δ h=>(t δ h).bind fun b h1=>match b with
 | true=>ma δ h1
 | false=>mb δ h1
theorem C8 (ht:ST C k X c' ta) (ha:SE C k X a ma) (hb:SE C k X b mb):SE C k X (.IfExp c' a b pos) (mIf ta ma mb):=fun c=>(Ek (ht c) (ha c) (hb c)).imp fun σ H Q q=>by
 obtain ⟨φ,δ,h,rh,re,p⟩:=q
 refine ⟨φ,δ,h,rh,re,(bL.bind p).imp ?_⟩
 rintro b H1 ⟨φ1,h1,p1,t1,rh1,q1⟩
 cases b with
 | true=>exact CT ⟨φ1,δ,h1,rh1,re.mono p1 t1,q1⟩
 | false=>exact CS ⟨φ1,δ,h1,rh1,re.mono p1 t1,q1⟩
end
theorem RVs.atI {φ:List Addr} {H:Hp} {xs:List PV} {vs:List V} {i:Int} {x:PV} (r:RVs C φ H xs vs) (e:L2.atI xs i=some x):∃ v,L2.atI vs i=some v/\RV C φ H x v:=by
 unfold L2.atI at e ⊢
 rw [<- r.length]
 cases q:ixN xs.length i with
 | none=>rw [q] at e; cases e
 | some j=>
  rw [q] at e
  exact r.at e
def ofO (o:Option PV) (h:PH):Rs PV:=match o with
 | some p=>.ok p h
 | none=>.bad
def vIx:PV->PV->PH->Rs PV:=fun x y h=>match x with
 | .str z=>(match y with
  | .int i=>if z.length<=sizeLine then ofO ((atI z.cps.toList i).map fun c=>.str ⟨#[c]⟩) h else .bad
  | _=>.bad)
 | .tup xs=>(match y with
  | .int i=>ofO (atI xs i) h
  | _=>.bad)
 | .fl xs=>(match y with
  | .int i=>ofO (atI xs i) h
  | _=>.bad)
 | .ref n=>(match aM h n with
  | some xs=>(match y with
   | .int i=>ofO (atI xs i) h
   | _=>.bad)
  | none=>(match B0 h n y with
   | some o=>ofO o h
   | none=>.bad))
 | _=>.bad
theorem post.ofO {φ:List Addr} {H:Hp} {h:PH} {o:Option PV} {Q:VK} (q:post C φ H (ofO o h) Q):∃ p,o=some p/\post C φ H (.ok p h) Q:=by
 cases o with
 | none=>exact q.elim
 | some b=>exact ⟨b,rfl,q⟩
theorem ME {x y:V} {H:Hp} {Q:VK} (h:r2 C vIx x y H Q):Mp C.K x y H Q:=by
 obtain ⟨φ,h,p,q,rh,rx,ry,po⟩:=h
 unfold vIx at po
 cases p with
 | str z=>
  cases rx
  cases q with
  | int i=>
   cases ry
   obtain ⟨hz,po⟩:=po.ite
   obtain ⟨p,e,po⟩:=po.ofO
   cases e':atI z.cps.toList i with
   | none=>rw [e'] at e; cases e
   | some c=>rw [e'] at e; cases e; exact ⟨hz,c,e',po.val rh rfl⟩
  | _=>exact po.elim
 | tup xs=>
  obtain ⟨a,vs,rfl,sa,ra⟩:=rx
  cases q with
  | int i=>
   cases ry
   obtain ⟨p,e,po⟩:=po.ofO
   obtain ⟨v,hv,rv⟩:=ra.atI e
   exact .inl ⟨vs,i,v,rfl,.inr sa,hv,po.val rh rv⟩
  | _=>exact po.elim
 | fl xs=>
  obtain ⟨a,vs,rfl,sa,ra⟩:=rx
  cases q with
  | int i=>
   cases ry
   obtain ⟨p,e,po⟩:=po.ofO
   obtain ⟨v,hv,rv⟩:=ra.atI e
   exact .inl ⟨vs,i,v,rfl,.inl sa.sq,hv,po.val rh rv⟩
  | _=>exact po.elim
 | ref n=>
  obtain ⟨a,rfl,ha⟩:=rx
  dsimp only at po
  cases e:aM h n with
  | some xs=>
   rw [e] at po
   obtain ⟨a2,vs,ha2,sa,ra⟩:=bF rh e
   rw [ha] at ha2; cases ha2
   cases q with
   | int i=>
    cases ry
    obtain ⟨p,e,po⟩:=po.ofO
    obtain ⟨v,hv,rv⟩:=ra.atI e
    exact .inl ⟨vs,i,v,rfl,.inl sa,hv,po.val rh rv⟩
   | _=>exact po.elim
  | none=>
   rw [e] at po
   dsimp only at po
   cases e':B0 h n q with
   | none=>rw [e'] at po; exact po.elim
   | some o=>
    rw [e'] at po
    obtain ⟨p,eo,po⟩:=po.ofO
    obtain ⟨o',g,_,hp⟩:=qM rh ha ry e'
    obtain ⟨w,rfl,rw'⟩:=hp p eo
    exact .inr ⟨w,g,po.val rh rw'⟩
 | _=>exact po.elim
theorem jO {prog:Program} {w:World} {A:Around} {E:Value->Shared->Prop} {s:Shared} {t sl:Addr} {items:Array Value} {vl vu:Value} {lo hi:Option Int} {Q:Value->Shared->Prop} (ht:IsTup s.heap t items) (hs:s.heap.IsSliceOf sl vl vu .none) (pl:IsPart vl lo) (pu:IsPart vu hi)
  (hw:HT.sIx items.size 0 lo=0/\HT.sIx items.size items.size hi=items.size) (h:Q (.ref t) s):wpAny (model prog w) A (getItem (.ref t) (.ref sl)) Q E s:=by
 obtain ⟨os,hos,hcs,hds⟩:=id hs
 have hTs:s.TypeIs (.ref sl) "slice" := ⟨os,hos,hcs⟩
 unfold getItem
 try with_reducible refine wpAny_holding ?_
 first | refine wpAny_bind (wpAny_pure ?_) | skip
 refine wpAny_bind (wpAny_sequenceKey ht.typeIs (by decide) ?_)
 refine wpAny_bind (wpAny_callSpecial?_slot (name:=Str.ofString "__getitem__") ht.typeIs PyProof.Rows.slot_tuple_getitem
  (wpAny_call_entry PyProof.Rows.slot_tuple_getitem ht.typeIs entry_tuple_getitem ?_ (args_tuple_getitem _ _)))
 show wpAny _ _ (Builtin.Tuple.tupleItemsOf (.ref t) >>= _) _ _ s
 refine wpAny_bind (tupleItemsOf_ ht ?_)
 refine wpAny_bind (wpAny_typeOf hTs ?_)
 rw [if_pos (by decide)]
 refine wpAny_bind (HT.sliceApplied_gen hs pl pu ?_)
 have hno:((((HT.sIx items.size 0 lo:Nat):Int) == 0 && (1:Int) == 1 && (HT.sIx items.size items.size hi - HT.sIx items.size 0 lo) == items.size)=true):=by
  rw [hw.1,hw.2]; simp
 show wpAny _ _ (if (((HT.sIx items.size 0 lo:Nat):Int) == 0 && (1:Int) == 1 && (HT.sIx items.size items.size hi - HT.sIx items.size 0 lo) == items.size)=true then _ else _) _ _ s
 rw [if_pos hno]
 refine wpAny_bind ?_
 unfold Builtin.Tuple.tupleIsExact
 refine wpAny_bind (wpAny_typeOf ht.typeIs (wpAny_pure ?_))
 rw [if_pos (by decide)]
 refine wpAny_bind (wpAny_rule ?_)
 exact wpAny_pure ⟨_,rfl,wpAny_pure h⟩
end L2
set_option Elab.async false
set_option linter.all false
set_option maxRecDepth 100000
namespace L2
open PySem PySem.Spec PyProof.Rows
variable {C:MC} {k:Nat} {X:Cx}
def fE {α:Type} (xs:List α) (lo hi:Option Int):List α:=(xs.drop (HT.sIx xs.length 0 lo)).take (HT.sIx xs.length xs.length hi - HT.sIx xs.length 0 lo)
theorem RVs.cut {φ:List Addr} {H:Hp} {xs:List PV} {vs:List V} (r:RVs C φ H xs vs) (lo hi:Option Int):RVs C φ H (fE xs lo hi) (yQ vs lo hi):=by
 unfold fE yQ
 rw [<- r.length]
 exact (r.drop _).take _
def vSl:PV->Option Int->Option Int->PH->Rs PV:=fun x lo hi h=>match x with
 | .str z=>if z.length<=sizeLine then .ok (.str (Txt.slice z lo hi)) h else .bad
 | .tup xs=>.ok (.tup (fE xs lo hi)) h
 | .ref n=>match aM h n with
  | some xs=>.ok (.ref h.length) (h++[.lst (fE xs lo hi)])
  | none=>.bad
 | .fl xs=>.ok (.ref h.length) (h++[.lst (fE xs lo hi)])
 | _=>.bad
def MF (K:PySem.W.Frag):V->Option Int->Option Int->Hp->VK->Prop:=fun x lo hi H Q=>∃ a xs,x=.ref a/\SqT K H a xs/\(HT.sIx xs.length 0 lo=0/\HT.sIx xs.length xs.length hi=xs.length)/\Q (.ref a) H
theorem F3:SlR X (MF X.K):=by
 intro pins s σ H x v vl vu lo hi sl Q I rx hs pl pu h
 obtain ⟨a,xs,rfl,hx,hw,q⟩:=h
 cases rx
 obtain ⟨its,r,ht,hz⟩:=I.tuple hx
 have hlen:its.toArray.size=xs.length:=by rw [List.size_toArray]; exact r.length.symm
 refine ⟨"tuple",_,PyProof.Rows.slot_tuple_getitem.lookup,ht.typeIs,?_⟩
 exact jO ht hs pl pu (by rw [hlen]; exact hw) ⟨.ref a,H,I,rfl,q⟩
theorem SlR.imp {r r':V->Option Int->Option Int->Hp->VK->Prop} (h:SlR X r) (i:∀ x lo hi H Q,r' x lo hi H Q->r x lo hi H Q):SlR X r':=fun pins s σ H x v vl vu lo hi sl Q I rx hs pl pu q=>h pins s σ H x v vl vu lo hi sl Q I rx hs pl pu (i x lo hi H Q q)
def r3 (C:MC) (g:PV->Option Int->Option Int->PH->Rs PV):V->Option Int->Option Int->Hp->VK->Prop:=fun x lo hi H Q=>∃ φ h p,RH C φ H h/\RV C φ H p x/\post C φ H (g p lo hi h) Q
theorem KH (hK:X.K=C.K):SlR X (r3 C vSl):=by
 have e:SlR X (fun x lo hi H Q=>Ml x lo hi H Q\/M6 C.K x lo hi H Q\/M9 C.K x lo hi H Q\/MF C.K x lo hi H Q):=by rw [<- hK]; exact Km.or (Kd.or (Hy.or F3))
 refine e.imp fun x lo hi H Q h=>?_
 obtain ⟨φ,h,p,rh,rv,po⟩:=h
 unfold vSl at po
 cases p with
 | str z=>cases rv; exact .inl ⟨z,rfl,po.ite.1,po.ite.2.val rh rfl⟩
 | tup xs=>
  obtain ⟨a,vs,rfl,sa,ra⟩:=rv
  by_cases hw:HT.sIx vs.length 0 lo=0/\HT.sIx vs.length vs.length hi=vs.length
  ·refine .inr (.inr (.inr ⟨a,vs,rfl,sa,hw,po.val rh ⟨a,vs,rfl,sa,?_⟩⟩))
   have e:fE xs lo hi=xs:=by
    unfold fE
    rw [ra.length,hw.1,hw.2,List.drop_zero,Nat.sub_zero,<- ra.length,List.take_length]
   rw [e]
   exact ra
  ·exact .inr (.inl ⟨a,vs,rfl,sa,hw,fun p hp=>po.tnew rh (ra.cut lo hi) hp⟩)
 | ref n=>
  obtain ⟨a,rfl,ha⟩:=rv
  dsimp only at po
  cases e:aM h n with
  | none=>rw [e] at po; exact po.elim
  | some xs=>
   rw [e] at po
   obtain ⟨a2,vs,ha2,sa,ra⟩:=bF rh e
   rw [ha] at ha2; cases ha2
   exact .inr (.inr (.inl ⟨a,vs,rfl,sa,fun p hp=>po.lnew rh (ra.cut lo hi) hp⟩))
 | fl xs=>
  obtain ⟨a,vs,rfl,sa,ra⟩:=rv
  exact .inr (.inr (.inl ⟨a,vs,rfl,sa.sq,fun p hp=>po.lnew rh (ra.cut lo hi) hp⟩))
 | _=>exact po.elim
abbrev Mo:=Ev->PH->Rs (Option Int)
def oC (C:MC) (φ:List Addr) (H:Hp) (r:Rs (Option Int)) (Q:Option Int->Hp->Prop):Prop:=match r with
 | .ok b h=>∀ φ' H',φ<+:φ'->Kp H H'->RH C φ' H' h->Q b H'
 | .exc x h=>∀ φ' H',φ<+:φ'->Kp H H'->RH C φ' H' h->C.ex φ' H' x
 | .bad=>False
def rdO (C:MC) (m:Mo):TO:=fun σ H Q=>∃ φ δ h,RH C φ H h/\RE C φ H δ σ/\oC C φ H (m δ h) Q
def SO (C:MC) (k:Nat) (X:Cx) (e:Option Expr) (m:Mo):Prop:=Cxt C k X->PO X e (rdO C m)
def HW:Mo:=fun _ h=>.ok none h
def mP (m:Me):Mo:=fun δ h=>(m δ h).bind fun x h1=>match x with
 | .int i=>.ok (some i) h1
 | _=>.bad
theorem F4:SO C k X none HW:=fun c pins s σ H Q I h=>by
 obtain ⟨φ,δ,h,rh,re,p⟩:=h
 exact Hv pins s σ H Q I (p φ H List.prefix_rfl (Kp.refl H) rh)
theorem wI {e:Expr} {m:Me} (h:SE C k X e m):SO C k X (some e) (mP m):=fun c pins s σ H Q I q=>by
 refine EI (h c) pins s σ H Q I ?_
 obtain ⟨φ,δ,h,rh,re,p⟩:=q
 refine ⟨φ,δ,h,rh,re,?_⟩
 unfold mP at p
 cases e':m δ h with
 | ok x h1=>
  rw [e'] at p
  intro φ' v H' p' t' rh' rv'
  cases x with
  | int i=>cases rv'; exact p φ' H' p' t' rh'
  | _=>exact p.elim
 | exc x h1=>rw [e'] at p; exact p
 | bad=>rw [e'] at p; exact p
def mSl (me:Me) (ml mh:Mo):Me:=fun δ h=>(me δ h).bind fun x h1=>(ml δ h1).bind fun l h2=>(mh δ h2).bind fun u h3=>vSl x l u h3
theorem oC.bind {φ:List Addr} {H:Hp} {r:Rs (Option Int)} {f:Option Int->PH->Rs PV} {Q:VK} (h:post C φ H (r.bind f) Q):oC C φ H r fun b H1=>∃ φ1 h1,φ<+:φ1/\Kp H H1/\RH C φ1 H1 h1/\post C φ1 H1 (f b h1) Q:=by
 cases r with
 | ok a h'=>exact fun φ' H' p t rh=>⟨φ',h',p,t,rh,post.weak p t h⟩
 | exc a h'=>exact h
 | bad=>exact h
theorem oC.imp {φ:List Addr} {H:Hp} {r:Rs (Option Int)} {Q Q':Option Int->Hp->Prop} (h:oC C φ H r Q) (i:∀ v H',Q v H'->Q' v H'):oC C φ H r Q':=by
 cases r with
 | ok a h'=>exact fun φ' H' p t rh=>i a H' (h φ' H' p t rh)
 | exc a h'=>exact h
 | bad=>exact h
theorem KI {e:Expr} {lo hi:Option Expr} {me:Me} {ml mh:Mo} {p2 pos:Pos} (he:SE C k X e me) (hl:SO C k X lo ml) (hh:SO C k X hi mh):SE C k X (.Subscript e (.Slice lo hi none p2) pos) (mSl me ml mh):=fun c=>
 (EA (KH c.K) (he c) (hl c) (hh c)).imp fun σ H Q h=>by
  obtain ⟨φ,δ,h,rh,re,p⟩:=h
  refine ⟨φ,δ,h,rh,re,(post.bind p).imp ?_⟩
  rintro v H1 ⟨φ1,x,h1,p1,t1,rh1,rv1,q1⟩
  refine ⟨φ1,δ,h1,rh1,re.mono p1 t1,(oC.bind q1).imp ?_⟩
  rintro l H2 ⟨φ2,h2,p2,t2,rh2,q2⟩
  refine ⟨φ2,δ,h2,rh2,re.mono (p1.trans p2) (t1.trans t2),(oC.bind q2).imp ?_⟩
  rintro u H3 ⟨φ3,h3,p3,t3,rh3,q3⟩
  exact ⟨φ3,h3,x,rh3,rv1.mono (p2.trans p3) (t2.trans t3),q3⟩
abbrev Ma:=Ev->PH->Rs (List PV)
def aI:Ma:=fun _ h=>.ok [] h
def aB (m:Me) (ms:Ma):Ma:=fun δ h=>(m δ h).bind fun x h1=>(ms δ h1).bind fun xs h2=>.ok (x :: xs) h2
theorem PA.imp {es:List Expr} {t t':TA} (h:PA X es t) (i:∀ σ H Q,t' σ H Q->t σ H Q):PA X es t':=fun pos pins s σ H Q I q=>h pos pins s σ H Q I (i σ H Q q)
theorem aH:SA C k X [] aI:=fun c=>Ex.imp fun σ H Q h=>by
 obtain ⟨φ,δ,h,rh,re,p⟩:=h
 exact p φ [] H List.prefix_rfl (Kp.refl H) rh trivial
theorem postA.imp {φ:List Addr} {H:Hp} {r:Rs (List PV)} {Q Q':List V->Hp->Prop} (h:postA C φ H r Q) (i:∀ v H',Q v H'->Q' v H'):postA C φ H r Q':=by
 cases r with
 | ok a h'=>exact fun φ' v H' p t rh rv=>i v H' (h φ' v H' p t rh rv)
 | exc a h'=>exact h
 | bad=>exact h
theorem aC {e:Expr} {es:List Expr} {m:Me} {ms:Ma} (he:SE C k X e m) (hs:SA C k X es ms) (hh:starEach (e :: es) X.env=(false,eval e X.env) :: starEach es X.env:=by rfl):SA C k X (e :: es) (aB m ms):=fun c=>(BS (he c) (hs c) hh).imp fun σ H Q h=>by
 obtain ⟨φ,δ,h,rh,re,p⟩:=h
 refine ⟨φ,δ,h,rh,re,(post.bindA p).imp ?_⟩
 rintro v H1 ⟨φ1,x,h1,p1,t1,rh1,rv1,q1⟩
 refine ⟨φ1,δ,h1,rh1,re.mono p1 t1,(postA.bindA q1).imp ?_⟩
 rintro vs H2 ⟨φ2,xs,h2,p2,t2,rh2,rv2,q2⟩
 exact q2 φ2 (v :: vs) H2 List.prefix_rfl (Kp.refl H2) rh2 ⟨rv1.mono p2 t2,rv2⟩
def eP (ms:Ma):Me:=fun δ h=>(ms δ h).bind fun xs h1=>if xs.length<=sizeLine then .ok (.tup xs) h1 else .bad
def kG (ms:Ma):Me:=fun δ h=>(ms δ h).bind fun xs h1=>if xs.length<=sizeLine then .ok (.ref h1.length) (h1++[.lst xs]) else .bad
theorem fF {es:List Expr} {ms:Ma} {x1} {pos:Pos} (hs:SA C k X es ms):SE C k X (.Tuple es x1 pos) (eP ms):=fun c=>(K' (hs c)).imp fun σ H Q h=>by
 obtain ⟨φ,δ,h,rh,re,p⟩:=h
 refine ⟨φ,δ,h,rh,re,(postA.bind p).imp ?_⟩
 rintro vs H1 ⟨φ1,xs,h1,p1,t1,rh1,rv1,q1⟩
 exact ⟨by rw [<- rv1.length]; exact q1.ite.1,fun p hp=>q1.ite.2.tnew rh1 rv1 hp⟩
theorem iI {es:List Expr} {ms:Ma} {pos:Pos} (hs:SA C k X es ms):SE C k X (.List es pos) (kG ms):=fun c=>(Ka (hs c)).imp fun σ H Q h=>by
 obtain ⟨φ,δ,h,rh,re,p⟩:=h
 refine ⟨φ,δ,h,rh,re,(postA.bind p).imp ?_⟩
 rintro vs H1 ⟨φ1,xs,h1,p1,t1,rh1,rv1,q1⟩
 exact ⟨by rw [<- rv1.length]; exact q1.ite.1,fun p hp=>q1.ite.2.lnew rh1 rv1 hp⟩
def KJ:Me:=fun _ h=>.ok (.ref h.length) (h++[.dK []])
def mCB (g:List PV->PH->Rs PV) (ms:Ma):Me:=fun δ h=>(ms δ h).bind g
theorem JA {g:List PV->PH->Rs PV} {ms:Ma} {σ:St} {H:Hp} {Q:VK} (h:rd C (mCB g ms) σ H Q):tCB (rL C g) (rdA C ms) σ H Q:=by
 obtain ⟨φ,δ,h,rh,re,p⟩:=h
 refine ⟨φ,δ,h,rh,re,(postA.bind p).imp ?_⟩
 rintro vs H1 ⟨φ1,xs,h1,p1,t1,rh1,rv1,q1⟩
 exact ⟨φ1,h1,xs,rh1,rv1,q1⟩
section
variable {x:Str} {p pos:Pos} {e:Expr} {es:List Expr} {ms:Ma} {id T:String} {g:List PV->PH->Rs PV}
theorem aX (hc:eR C k X (.builtin id) g) (hv:bootBuiltins x=some (.builtin id)) (ha:SA C k X (e :: es) ms) (hb:x∈C.bs:=by decide) (hg:Gl X x:=by rfl) (hn:x≠"__name__" := by decide) (hdb:(x == ("__debug__" : Str))=false:=by decide)
  (he:starEach (e :: es) X.env=(false,eval e X.env) :: starEach es X.env:=by rfl) (hpl:(backTo pos (starEach es X.env)).any (·.1)=false:=by rfl):SE C k X (.Call (.Name x p) (e :: es) [] pos) (mCB g ms):=fun c=>
 (Ey (hc c) hg (c.bn x hb) hv (ha c) hn hdb he hpl).imp fun σ H Q h=>JA h
theorem fG (hc:eR C k X (.type T) g) (hv:bootBuiltins x=some (.type T)) (ha:SA C k X (e :: es) ms) (hb:x∈C.bs:=by decide) (hg:Gl X x:=by rfl) (hn:x≠"__name__" := by decide) (hdb:(x == ("__debug__" : Str))=false:=by decide)
  (he:starEach (e :: es) X.env=(false,eval e X.env) :: starEach es X.env:=by rfl) (hpl:(backTo pos (starEach es X.env)).any (·.1)=false:=by rfl):SE C k X (.Call (.Name x p) (e :: es) [] pos) (mCB g ms):=fun c=>
 (CO (hc c) hg (c.bn x hb) hv (ha c) hn hdb he hpl).imp fun σ H Q h=>JA h
def spM (C:MC) (n:Nat) (f:Fn):Sp:=fun vs H Q _=>∃ φ h ps,RH C φ H h/\RVs C φ H ps vs/\ps.length=n/\post C φ H (f ps h) Q
def bP (n:Nat) (f:Fn) (ms:Ma):Me:=fun δ h=>(ms δ h).bind fun ps h1=>if ps.length=n then f ps h1 else .bad
theorem s_call {st:Stmt} {a:Addr} {fd:FuncData} {ps:List Str} {j n:Nat} {f:Fn} (D:Def C.K X.mg x st a fd ps) (G:aQ X.prog X.w C.K X.mg X.base CX0 j a fd ps (spM C n f)) (ha:SA C k X (e :: es) ms) (hj:j<=k:=by decide)
  (hg:Gl X x:=by rfl) (hdb:(x == ("__debug__" : Str))=false:=by decide) (he:starEach (e :: es) X.env=(false,eval e X.env) :: starEach es X.env:=by rfl) (hpl:(backTo pos (starEach es X.env)).any (·.1)=false:=by rfl):
  SE C k X (.Call (.Name x p) (e :: es) [] pos) (bP n f ms):=fun c=>by
 have e1:=c.K
 have D':Def X.K X.mg x st a fd ps:=by rw [e1]; exact D
 have G':aQ X.prog X.w X.K X.mg X.base CX0 j a fd ps (spM C n f):=by rw [e1]; exact G
 refine (Mv D' G' (c.room.mono hj) (ha c) hg hdb he hpl).imp fun σ H Q h=>?_
 obtain ⟨φ,δ,h,rh,re,p⟩:=h
 refine ⟨φ,δ,h,rh,re,(postA.bind p).imp ?_⟩
 rintro vs H1 ⟨φ1,xs,h1,p1,t1,rh1,rv1,q1⟩
 refine ⟨φ1,h1,xs,rh1,by rw [List.append_nil]; exact rv1,q1.ite.1,q1.ite.2⟩
end
def eQ:List PV->PH->Rs PV:=fun xs h=>match xs with
 | [.str y]=>if y.length<=sizeLine then .ok (.int y.length) h else .bad
 | [.tup ys]=>.ok (.int ys.length) h
 | [.fl ys]=>.ok (.int ys.length) h
 | [.ref n]=>match aM h n with
  | some ys=>.ok (.int ys.length) h
  | none=>match h[n]? with
   | some (.dK kvs)=>.ok (.int kvs.length) h
   | _=>.bad
 | _=>.bad
theorem RVs.one {φ:List Addr} {H:Hp} {x:PV} {vs:List V} (r:RVs C φ H [x] vs):∃ v,vs=[v]/\RV C φ H x v:=by
 match vs,r with
 | [v],⟨h,_⟩=>exact ⟨v,rfl,h⟩
 | [],h=>exact h.elim
 | _ :: _ :: _,⟨_,h⟩=>exact h.elim
theorem RVs.two {φ:List Addr} {H:Hp} {x y:PV} {vs:List V} (r:RVs C φ H [x,y] vs):∃ v w,vs=[v,w]/\RV C φ H x v/\RV C φ H y w:=by
 match vs,r with
 | [v,w],⟨h,h',_⟩=>exact ⟨v,w,rfl,h,h'⟩
 | [],h=>exact h.elim
 | [_],⟨_,h⟩=>exact h.elim
 | _ :: _ :: _ :: _,⟨_,_,h⟩=>exact h.elim
theorem jV:eR C k X (.builtin "len") eQ:=fun c=>(CZ C.K c.K).imp fun vs H Q h=>by
 obtain ⟨φ,h,ps,rh,rv,po⟩:=h
 unfold eQ at po
 split at po
 ·obtain ⟨v,rfl,rx⟩:=rv.one
  cases rx
  exact ⟨po.ite.1,po.ite.2.val rh rfl⟩
 ·obtain ⟨v,rfl,rx⟩:=rv.one
  obtain ⟨a,vs,rfl,sa,ra⟩:=rx
  exact .inl ⟨vs,.inr sa,by rw [<- ra.length]; exact po.val rh rfl⟩
 ·obtain ⟨v,rfl,rx⟩:=rv.one
  obtain ⟨a,vs,rfl,sa,ra⟩:=rx
  exact .inl ⟨vs,.inl sa.sq,by rw [<- ra.length]; exact po.val rh rfl⟩
 ·rename_i n
  obtain ⟨v,rfl,rx⟩:=rv.one
  obtain ⟨a,rfl,ha⟩:=rx
  split at po
  ·rename_i ys e
   obtain ⟨a2,vs,ha2,sa,ra⟩:=bF rh e
   rw [ha] at ha2; cases ha2
   exact .inl ⟨vs,.inl sa,by rw [<- ra.length]; exact po.val rh rfl⟩
  ·split at po
   ·rename_i kvs hk
    obtain ⟨ks,hH,rk⟩:=rh.at' n a _ ha hk
    refine .inr ⟨ks,hH,?_⟩
    have:ks.length=kvs.length:=(Paired.length rk).symm
    rw [this]
    exact po.val rh rfl
   ·exact po.elim
 ·exact po.elim
def nE:List PV->PH->Rs PV:=fun xs h=>match xs with
 | [.tup ys]=>.ok (.tup ys) h
 | [.fl ys]=>.ok (.tup ys) h
 | [.ref n]=>match aM h n with
  | some ys=>.ok (.tup ys) h
  | none=>.bad
 | _=>.bad
theorem C9:eR C k X (.type "tuple") nE:=fun c=>(yV C.K c.K).imp fun vs H Q h=>by
 obtain ⟨φ,h,ps,rh,rv,po⟩:=h
 unfold nE at po
 split at po
 ·obtain ⟨v,rfl,rx⟩:=rv.one
  obtain ⟨a,vs,rfl,sa,ra⟩:=rx
  exact ⟨a,vs,rfl,.inr ⟨sa,po.val rh ⟨a,vs,rfl,sa,ra⟩⟩⟩
 ·obtain ⟨v,rfl,rx⟩:=rv.one
  obtain ⟨a,vs,rfl,sa,ra⟩:=rx
  exact ⟨a,vs,rfl,.inl ⟨sa.sq,fun p hp=>po.tnew rh ra hp⟩⟩
 ·rename_i n
  obtain ⟨v,rfl,rx⟩:=rv.one
  obtain ⟨a,rfl,ha⟩:=rx
  split at po
  ·rename_i ys e
   obtain ⟨a2,vs,ha2,sa,ra⟩:=bF rh e
   rw [ha] at ha2; cases ha2
   exact ⟨a,vs,rfl,.inl ⟨sa,fun p hp=>po.tnew rh ra hp⟩⟩
  ·exact po.elim
 ·exact po.elim
def oD:List PV->PH->Rs PV:=fun xs h=>match xs with
 | [.tup ys]=>.ok (.ref h.length) (h++[.lst ys])
 | [.fl ys]=>.ok (.ref h.length) (h++[.lst ys])
 | [.ref n]=>match aM h n with
  | some ys=>.ok (.ref h.length) (h++[.lst ys])
  | none=>.bad
 | _=>.bad
theorem B2:eR C k X (.type "list") oD:=fun c=>(AR C.K c.K).imp fun vs H Q h=>by
 obtain ⟨φ,h,ps,rh,rv,po⟩:=h
 unfold oD at po
 split at po
 ·obtain ⟨v,rfl,rx⟩:=rv.one
  obtain ⟨a,vs,rfl,sa,ra⟩:=rx
  exact ⟨a,vs,rfl,.inr sa,fun p hp=>po.lnew rh ra hp⟩
 ·obtain ⟨v,rfl,rx⟩:=rv.one
  obtain ⟨a,vs,rfl,sa,ra⟩:=rx
  exact ⟨a,vs,rfl,.inl sa.sq,fun p hp=>po.lnew rh ra hp⟩
 ·rename_i n
  obtain ⟨v,rfl,rx⟩:=rv.one
  obtain ⟨a,rfl,ha⟩:=rx
  split at po
  ·rename_i ys e
   obtain ⟨a2,vs,ha2,sa,ra⟩:=bF rh e
   rw [ha] at ha2; cases ha2
   exact ⟨a,vs,rfl,.inl sa,fun p hp=>po.lnew rh ra hp⟩
  ·exact po.elim
 ·exact po.elim
def HX:List PV->PH->Rs PV:=fun xs h=>match xs with
 | [.int i,.int j]=>.ok (.int (if j > i then j else i)) h
 | _=>.bad
theorem MG:eR C k X (.builtin "max") HX:=fun c=>(D0 c.calm).imp fun vs H Q h=>by
 obtain ⟨φ,h,ps,rh,rv,po⟩:=h
 unfold HX at po
 split at po
 ·obtain ⟨v,w,rfl,rx,ry⟩:=rv.two
  cases rx; cases ry
  exact po.val rh rfl
 ·exact po.elim
end L2
set_option Elab.async false
set_option linter.all false
set_option maxRecDepth 100000
namespace L2
open PySem PySem.Spec PyProof.Rows
variable {C:MC} {k:Nat} {X:Cx}
def Rs.fl {α:Type} (r:Rs α) (f:α->PH->Fl):Fl:=match r with
 | .ok a h=>f a h
 | .exc x h=>.exc x h
 | .bad=>.bad
@[simp] theorem Rs.fl_ok {α:Type} (a:α) (h:PH) (f:α->PH->Fl):(Rs.ok a h).fl f=f a h:=(rfl)
@[simp] theorem Rs.fl_exc {α:Type} (x:PX) (h:PH) (f:α->PH->Fl):(Rs.exc x h:Rs α).fl f=.exc x h:=(rfl)
@[simp] theorem Rs.fl_bad {α:Type} (f:α->PH->Fl):(Rs.bad:Rs α).fl f=.bad:=(rfl)
section
variable {φ:List Addr} {H:Hp}
theorem post.fl {r:Rs PV} {f:PV->PH->Fl} {D:Ends} (h:bV C φ H (r.fl f) D):post C φ H r fun v H1=>∃ φ1 p h1,φ<+:φ1/\Kp H H1/\RH C φ1 H1 h1/\RV C φ1 H1 p v/\bV C φ1 H1 (f p h1) D:=by
 cases r with
 | ok a h'=>exact fun φ' v H' p t rh rv=>⟨φ',a,h',p,t,rh,rv,bV.weak p t h⟩
 | exc a h'=>exact h
 | bad=>exact h
theorem bL.fl {r:Rs Bool} {f:Bool->PH->Fl} {D:Ends} (h:bV C φ H (r.fl f) D):bL C φ H r fun b H1=>∃ φ1 h1,φ<+:φ1/\Kp H H1/\RH C φ1 H1 h1/\bV C φ1 H1 (f b h1) D:=by
 cases r with
 | ok a h'=>exact fun φ' H' p t rh=>⟨φ',h',p,t,rh,bV.weak p t h⟩
 | exc a h'=>exact h
 | bad=>exact h
theorem bV.nx {δ:Ev} {h:PH} {D:Ends} {σ:St} (q:bV C φ H (.nx δ h) D) (rh:RH C φ H h) (re:RE C φ H δ σ):D.nx σ H:=q φ σ H List.prefix_rfl (Kp.refl H) rh re
theorem bV.rt {p:PV} {h:PH} {D:Ends} {v:V} (q:bV C φ H (.rt p h) D) (rh:RH C φ H h) (rv:RV C φ H p v):D.rt v H:=q φ v H List.prefix_rfl (Kp.refl H) rh rv
end
abbrev Mg:=PV->Ev->Option Ev
abbrev Mgs:=List PV->Ev->Option Ev
def rdG (C:MC) (t:Mg):TG:=fun v σ H Q=>∃ φ δ h p δ',RH C φ H h/\RE C φ H δ σ/\RV C φ H p v/\t p δ=some δ'/\∀ σ',RE C φ H δ' σ'->Q σ' H
def Ov (C:MC) (t:Mgs):TGs:=fun vs σ H Q=>∃ φ δ h ps δ',RH C φ H h/\RE C φ H δ σ/\RVs C φ H ps vs/\t ps δ=some δ'/\∀ σ',RE C φ H δ' σ'->Q σ' H
def SG (C:MC) (k:Nat) (X:Cx) (e:Expr) (t:Mg):Prop:=Cxt C k X->PG X e (rdG C t)
def SGs (C:MC) (k:Nat) (X:Cx) (es:List Expr) (t:Mgs):Prop:=Cxt C k X->PGs X es (Ov C t)
def gN (i:Nat):Mg:=fun p δ=>some (δ.set i (some p))
def gNl:Mgs:=fun ps δ=>match ps with
 | []=>some δ
 | _ :: _=>none
def gCn (t:Mg) (u:Mgs):Mgs:=fun ps δ=>match ps with
 | p :: r=>(t p δ).bind (u r)
 | []=>none
def gTp (n:Nat) (u:Mgs):Mg:=fun p δ=>match p with
 | .tup ps=>if ps.length=n then u ps δ else none
 | _=>none
theorem PG.imp {e:Expr} {t t':TG} (h:PG X e t) (i:∀ v σ H Q,t' v σ H Q->t v σ H Q):PG X e t':=fun pins s σ H v u Q I r q=>h pins s σ H v u Q I r (i v σ H Q q)
theorem PGs.imp {es:List Expr} {t t':TGs} (h:PGs X es t) (i:∀ v σ H Q,t' v σ H Q->t v σ H Q):PGs X es t':=fun pins s σ H v u Q I r q=>h pins s σ H v u Q I r (i v σ H Q q)
theorem aW {i:Nat} {x:Str} {pos:Pos} (hN:X.N.Nodup) (hi:X.N[i]?=some x:=by rfl) (hx:Loc X.env.scope x:=by first | exact Or.inl rfl | exact Or.inr rfl) (hf:X.fn x=true\/X.env.scope.names.lookup x=some .local:=by first | exact .inl rfl | exact .inr rfl):SG C k X (.Name x pos) (gN i):=fun c=>
 (Hm hN hi hx hf).imp fun v σ H Q h=>by
  obtain ⟨φ,δ,h,p,δ',rh,re,rv,e,q⟩:=h
  cases e
  exact q _ (re.set rv i)
theorem uA:SGs C k X [] gNl:=fun c=>Hn.imp fun v σ H Q h=>by
 obtain ⟨φ,δ,h,ps,δ',rh,re,rv,e,q⟩:=h
 cases ps with
 | nil=>
  cases e
  cases v with
  | nil=>exact ⟨rfl,q σ re⟩
  | cons=>exact rv.elim
 | cons=>cases e
theorem dU {e:Expr} {es:List Expr} {t:Mg} {u:Mgs} (h1:SG C k X e t) (h2:SGs C k X es u) (hs:(assignEach (e :: es) X.env).map (·.2)=assign e X.env :: (assignEach es X.env).map (·.2):=by rfl):SGs C k X (e :: es) (gCn t u):=fun c=>
 (En (h1 c) (h2 c) hs).imp fun vs σ H Q h=>by
  obtain ⟨φ,δ,h,ps,δ',rh,re,rv,e,q⟩:=h
  cases ps with
  | nil=>cases e
  | cons p r=>
   cases vs with
   | nil=>exact rv.elim
   | cons v vs=>
    obtain ⟨δ1,e1,e2⟩:=Option.bind_eq_some_iff.mp (show (t p δ).bind (u r)=some δ' from e)
    exact ⟨v,vs,rfl,φ,δ,h,p,δ1,rh,re,rv.1,e1,fun σ' re'=>⟨φ,δ1,h,r,δ',rh,re',rv.2,e2,q⟩⟩
theorem uB {es:List Expr} {j:Nat} {u:Mgs} {n:Nat} {pos:Pos} (h:SGs C k X es u) (hn:(assignEach es X.env).length=n:=by rfl) (hst:(assignEach es X.env).findIdx? (·.1)=none:=by rfl):SG C k X (.Tuple es j pos) (gTp n u):=fun c=>
 (gT C.K c.K c.calm (h c) hn hst).imp fun v σ H Q h=>by
  obtain ⟨φ,δ,h,p,δ',rh,re,rv,e,q⟩:=h
  cases p with
  | tup ps=>
   obtain ⟨a,vs,rfl,sa,ra⟩:=rv
   by_cases hl:ps.length=n
   ·have e':u ps δ=some δ':=by
     have:(if ps.length=n then u ps δ else none)=some δ':=e
     rw [if_pos hl] at this
     exact this
    exact ⟨a,vs,rfl,sa,by rw [<- ra.length]; exact hl,φ,δ,h,ps,δ',rh,re,ra,e',q⟩
   ·have:(if ps.length=n then u ps δ else none)=some δ':=e
    rw [if_neg hl] at this
    cases this
  | _=>cases e
theorem PS.imp {st:Stmt} {t t':TS} (h:PS X st t) (i:∀ D σ H,t' D σ H->t D σ H):PS X st t':=fun pins s σ H D I q=>h pins s σ H D I (i D σ H q)
theorem PSs.imp {st:List Stmt} {t t':TS} (h:PSs X st t) (i:∀ D σ H,t' D σ H->t D σ H):PSs X st t':=fun pins s σ H D I q=>h pins s σ H D I (i D σ H q)
def aV (a b:Ms):Ms:=fun δ h=>match a δ h with
 | .nx δ1 h1=>b δ1 h1
 | r=>r
def nF:Ms:=fun δ h=>.nx δ h
def Ow:Ms:=fun δ h=>.bk δ h
def Ox:Ms:=fun δ h=>.ct δ h
def bQ (i:Nat) (m:Me):Ms:=fun δ h=>(m δ h).fl fun p h1=>.nx (δ.set i (some p)) h1
def F5 (m:Me) (t:Mg):Ms:=fun δ h=>(m δ h).fl fun p h1=>match t p δ with
 | some δ'=>.nx δ' h1
 | none=>.bad
def zH (m:Me):Ms:=fun δ h=>(m δ h).fl fun _ h1=>.nx δ h1
def cK (m:Me):Ms:=fun δ h=>(m δ h).fl fun p h1=>.rt p h1
def MH:Ms:=fun _ h=>.rt .non h
def kH (t:Ev->PH->Rs Bool) (a b:Ms):Ms:=fun δ h=>(t δ h).fl fun c h1=>match c with
 | true=>a δ h1
 | false=>b δ h1
section
variable {st:Stmt} {rest:List Stmt} {a b:Ms} {e:Expr} {m:Me} {pos:Pos}
theorem eI:SSs C k X [] nF:=fun c=>Hj.imp fun D σ H h=>by
 obtain ⟨φ,δ,h,rh,re,p⟩:=h
 exact p.nx rh re
theorem KL {φ:List Addr} {H:Hp} {r:Fl} {b:Ms} {D:Ends} (h:bV C φ H (match r with | .nx δ1 h1=>b δ1 h1 | r=>r) D):bV C φ H r { D with nx:=rdS C b D }:=by
 cases r with
 | nx δ h'=>exact fun φ' σ H' p t rh re=>⟨φ',δ,h',rh,re,bV.weak p t h⟩
 | rt p h'=>exact h
 | bk δ h'=>exact h
 | ct δ h'=>exact h
 | exc x h'=>exact h
 | bad=>exact h
theorem aF (h1:SSt C k X st a) (h2:SSs C k X rest b):SSs C k X (st :: rest) (aV a b):=fun c=>(El (h1 c) (h2 c)).imp fun D σ H h=>by
 obtain ⟨φ,δ,h,rh,re,p⟩:=h
 exact ⟨φ,δ,h,rh,re,KL p⟩
theorem aN (h1:SSt C k X st a):SSs C k X [st] a:=fun c=>Hk (h1 c)
theorem bI {i:Nat} {x:Str} {pos':Pos} (hN:X.N.Nodup) (he:SE C k X e m) (hi:X.N[i]?=some x:=by rfl) (hx:Loc X.env.scope x:=by first | exact Or.inl rfl | exact Or.inr rfl) (hs:swapsWith e (some (.Name x pos')) pos.line X.env=pure false:=by rfl)
  (hf:X.fn x=true\/X.env.scope.names.lookup x=some .local:=by first | exact .inl rfl | exact .inr rfl):SSt C k X (.Assign [.Name x pos'] e pos) (bQ i m):=fun c=>(JY hN hi hx (he c) hs hf).imp fun D σ H h=>by
 obtain ⟨φ,δ,h,rh,re,p⟩:=h
 refine ⟨φ,δ,h,rh,re,(post.fl p).imp ?_⟩
 rintro v H1 ⟨φ1,x,h1,p1,t1,rh1,rv1,q1⟩
 exact q1.nx rh1 ((re.mono p1 t1).set rv1 i)
theorem MI {tg:Expr} {t:Mg} (he:SE C k X e m) (hg:SG C k X tg t) (hs:swapsWithSole [tg] e pos.line X.env=pure false:=by rfl) (hw:swappedStores [tg] e X.env=pure none:=by rfl)
  (h1:(assignEach [tg] X.env).map (·.2)=[assign tg X.env]:=by rfl):SSt C k X (.Assign [tg] e pos) (F5 m t):=fun c=>(JX (he c) (hg c) hs hw h1).imp fun D σ H h=>by
 obtain ⟨φ,δ,h,rh,re,p⟩:=h
 refine ⟨φ,δ,h,rh,re,(post.fl p).imp ?_⟩
 rintro v H1 ⟨φ1,x,h1,p1,t1,rh1,rv1,q1⟩
 cases et:t x δ with
 | none=>rw [et] at q1; exact q1.elim
 | some δ'=>
  rw [et] at q1
  exact ⟨φ1,δ,h1,x,δ',rh1,re.mono p1 t1,rv1,et,fun σ' re'=>q1.nx rh1 re'⟩
theorem Ca (he:SE C k X e m) (hs:swapsWith e none pos.line X.env=pure false:=by rfl):SSt C k X (.Expr e pos) (zH m):=fun c=>(Hl (he c) hs).imp fun D σ H h=>by
 obtain ⟨φ,δ,h,rh,re,p⟩:=h
 refine ⟨φ,δ,h,rh,re,(post.fl p).imp ?_⟩
 rintro v H1 ⟨φ1,x,h1,p1,t1,rh1,rv1,q1⟩
 exact q1.nx rh1 (re.mono p1 t1)
theorem bX (he:SE C k X e m):SSt C k X (.Return (some e) pos) (cK m):=fun c=>(JU (he c)).imp fun D σ H h=>by
 obtain ⟨φ,δ,h,rh,re,p⟩:=h
 refine ⟨φ,δ,h,rh,re,(post.fl p).imp ?_⟩
 rintro v H1 ⟨φ1,x,h1,p1,t1,rh1,rv1,q1⟩
 exact q1.rt rh1 rv1
theorem oX {cnd:Expr} {as bs:List Stmt} {t:Ev->PH->Rs Bool} (hc:ST C k X cnd t) (ha:SSs C k X as a) (hb:SSs C k X bs b):SSt C k X (.If cnd as bs pos) (kH t a b):=fun c=>(LS (hc c) (ha c) (hb c)).imp fun D σ H h=>by
 obtain ⟨φ,δ,h,rh,re,p⟩:=h
 refine ⟨φ,δ,h,rh,re,(bL.fl p).imp ?_⟩
 rintro d H1 ⟨φ1,h1,p1,t1,rh1,q1⟩
 cases d with
 | true=>exact CT ⟨φ1,δ,h1,rh1,re.mono p1 t1,q1⟩
 | false=>exact CS ⟨φ1,δ,h1,rh1,re.mono p1 t1,q1⟩
end
structure Wk where
 xs:List PV
 g:PH->Bool
def Df (C:MC) (J:It) (w:Wk) (φ0:List Addr) (H0:Hp):Prop:=∀ φ H h,φ0<+:φ->Kp H0 H->RH C φ H h->w.g h=true->∀ i:Nat,
 (i < w.xs.length->J.go i H/\∀ x H',J.yld i H x H'->(∃ p,w.xs[i]?=some p/\RV C φ H' p x)/\Kp H H'/\RH C φ H' h)/\(w.xs.length<=i->J.stop i H)
abbrev Mi:=Ev->PH->Rs Wk
def dX (C:MC) (φ:List Addr) (H:Hp) (r:Rs Wk) (R:It->Hp->Prop):Prop:=match r with
 | .ok w h=>∀ φ' H' J,φ<+:φ'->Kp H H'->RH C φ' H' h->Df C J w φ' H'->R J H'
 | .exc x h=>∀ φ' H',φ<+:φ'->Kp H H'->RH C φ' H' h->C.ex φ' H' x
 | .bad=>False
def rdI (C:MC) (m:Mi):TI:=fun σ H R=>∃ φ δ h,RH C φ H h/\RE C φ H δ σ/\dX C φ H (m δ h) R
def SI (C:MC) (k:Nat) (X:Cx) (tg iter:Expr) (m:Mi):Prop:=Cxt C k X->PI X tg iter (rdI C m)
def jP (n:Nat) (xs:List PV) (h':PH):Bool:=match aM h' n with
 | some ys=>PV.beqs ys xs
 | none=>false
def ofSeq (x:PV) (h:PH):Rs Wk:=match x with
 | .tup xs=>.ok ⟨xs,fun _=>true⟩ h
 | .ref n=>match aM h n with
  | some xs=>.ok ⟨xs,jP n xs⟩ h
  | none=>.bad
 | .fl xs=>.ok ⟨xs,fun _=>true⟩ h
 | _=>.bad
def bR (m:Me):Mi:=fun δ h=>(m δ h).bind ofSeq
theorem dM {tg iter:Expr} {m:Me} (h:SE C k X iter m):SI C k X tg iter (bR m):=fun c=>by
 intro pins s σ H R I q
 obtain ⟨φ,δ,hh,rh,re,p⟩:=q
 have key:rd C m σ H fun v H1=>∃ φ1 x h1,φ<+:φ1/\Kp H H1/\RH C φ1 H1 h1/\RV C φ1 H1 x v/\dX C φ1 H1 (ofSeq x h1) R:=by
  refine ⟨φ,δ,hh,rh,re,?_⟩
  unfold bR at p
  cases e:m δ hh with
  | ok x h1=>
   rw [e] at p
   intro φ' v H' p' t' rh' rv'
   refine ⟨φ',x,h1,p',t',rh',rv',?_⟩
   show dX C φ' H' (ofSeq x h1) R
   have p0:dX C φ H (ofSeq x h1) R:=p
   cases e2:ofSeq x h1 with
   | ok w h2=>rw [e2] at p0; exact fun φ2 H2 J p2 t2=>p0 φ2 H2 J (p'.trans p2) (t'.trans t2)
   | exc z h2=>rw [e2] at p0; exact fun φ2 H2 p2 t2=>p0 φ2 H2 (p'.trans p2) (t'.trans t2)
   | bad=>rw [e2] at p0; exact p0
  | exc x h1=>rw [e] at p; exact p
  | bad=>rw [e] at p; exact p
 refine thn (h c pins s σ H _ I key) fun v s1 hz=>?_
 obtain ⟨x,H1,I1,r1,φ1,x',h1,p1,t1,rh1,rv1,q1⟩:=hz
 unfold ofSeq at q1
 cases x' with
 | tup xs=>
  obtain ⟨a,vs,rfl,sa,ra⟩:=rv1
  cases r1
  rw [<- c.K] at sa
  obtain ⟨its,rv,p,hz⟩:=I1.tuple sa
  refine wpAny_pyIter_tuple (show s1.heap.IsTuple a its.toArray from p) ?_
  refine ⟨s1.heap.objs.size,[s1.heap.objs.size],_,_,H1,rfl,I1.kept (t':=s1.toks) fun b o e=>Heap.get?_push_of_some _ e,AC a _,⟨_,Heap.get?_push_size _ rfl,rfl,rfl⟩,fun b hb=>?_,?_⟩
  ·have e:b=s1.heap.objs.size:=by simpa using hb
   subst e
   exact I1.fpOk (Nat.le_refl _) (I1.hok.fresh (Nat.le_refl _))
  ·refine q1 φ1 H1 (Itt X.K a) List.prefix_rfl (Kp.refl H1) rh1 fun φ2 H2 h2 p2 t2 rh2 _ i=>⟨fun hi=>?_,fun hi=>⟨vs,t2.sq sa,by rw [<- ra.length]; exact hi⟩⟩
   have hi':i < vs.length:=by rw [<- ra.length]; exact hi
   refine ⟨⟨vs,vs[i],t2.sq sa,by simp [hi']⟩,fun x H' y=>?_⟩
   obtain ⟨e,y⟩:=y
   subst e
   obtain ⟨x2,e2,r2⟩:=ra.get (y vs (t2.sq sa))
   exact ⟨⟨x2,e2,r2.mono p2 t2⟩,Kp.refl _,rh2⟩
 | ref n=>
  obtain ⟨a,rfl,ha⟩:=rv1
  cases r1
  dsimp only at q1
  cases e:aM h1 n with
  | none=>rw [e] at q1; exact q1.elim
  | some xs=>
   rw [e] at q1
   obtain ⟨a2,vs,ha2,sa,ra⟩:=bF rh1 e
   rw [ha] at ha2; cases ha2
   have sa':SqL X.K H1 a vs:=by rw [c.K]; exact sa
   obtain ⟨its,rv,p,hz⟩:=I1.list sa'
   refine wpAny_pyIter_list p.isList ?_
   refine ⟨s1.heap.objs.size,[s1.heap.objs.size],_,_,H1,rfl,I1.kept (t':=s1.toks) fun b o e=>Heap.get?_push_of_some _ e,tB a _,⟨_,Heap.get?_push_size _ rfl,rfl,rfl⟩,fun b hb=>?_,?_⟩
   ·have e:b=s1.heap.objs.size:=by simpa using hb
    subst e
    exact I1.fpOk (Nat.le_refl _) (I1.hok.fresh (Nat.le_refl _))
   ·refine q1 φ1 H1 (Itl X.K a) List.prefix_rfl (Kp.refl H1) rh1 fun φ2 H2 h2 p2 t2 rh2 hg i=>?_
    have hg:(match aM h2 n with | some ys=>PV.beqs ys xs | none=>false)=true:=hg
    cases e2:aM h2 n with
    | none=>rw [e2] at hg; cases hg
    | some ys=>
     rw [e2] at hg
     have hxy:=PV.beqs_eq hg
     subst hxy
     obtain ⟨a3,us,ha3,su,ru⟩:=bF rh2 e2
     rw [fY p2 ha] at ha3; cases ha3
     rw [<- c.K] at su
     refine ⟨fun hi=>?_,fun hi=>⟨us,su,by rw [<- ru.length]; exact hi⟩⟩
     have hi':i < us.length:=by rw [<- ru.length]; exact hi
     refine ⟨⟨us,us[i],su,by simp [hi']⟩,fun x H' y=>?_⟩
     obtain ⟨e,y⟩:=y
     subst e
     obtain ⟨x2,e2,r2⟩:=ru.get (y us su)
     exact ⟨⟨x2,e2,r2⟩,Kp.refl _,rh2⟩
 | fl xs=>
  obtain ⟨a,vs,rfl,sa,ra⟩:=rv1
  cases r1
  rw [<- c.K] at sa
  obtain ⟨its,rv,p,hz⟩:=I1.list sa.sq
  refine wpAny_pyIter_list p.isList ?_
  refine ⟨s1.heap.objs.size,[s1.heap.objs.size],_,_,H1,rfl,I1.kept (t':=s1.toks) fun b o e=>Heap.get?_push_of_some _ e,tB a _,⟨_,Heap.get?_push_size _ rfl,rfl,rfl⟩,fun b hb=>?_,?_⟩
  ·have e:b=s1.heap.objs.size:=by simpa using hb
   subst e
   exact I1.fpOk (Nat.le_refl _) (I1.hok.fresh (Nat.le_refl _))
  ·refine q1 φ1 H1 (Itl X.K a) List.prefix_rfl (Kp.refl H1) rh1 fun φ2 H2 h2 p2 t2 rh2 _ i=>⟨fun hi=>?_,fun hi=>⟨vs,(t2.sf sa).sq,by rw [<- ra.length]; exact hi⟩⟩
   have hi':i < vs.length:=by rw [<- ra.length]; exact hi
   refine ⟨⟨vs,vs[i],(t2.sf sa).sq,by simp [hi']⟩,fun x H' y=>?_⟩
   obtain ⟨e,y⟩:=y
   subst e
   obtain ⟨x2,e2,r2⟩:=ra.get (y vs (t2.sf sa).sq)
   exact ⟨⟨x2,e2,r2.mono p2 t2⟩,Kp.refl _,rh2⟩
 | _=>exact q1.elim
def upTo (lo:Int):Nat->List PV
 | 0=>[]
 | n+1=>.int lo :: upTo (lo+1) n
theorem dN:∀ (n:Nat) (lo:Int),(upTo lo n).length=n
 | 0,_=>rfl
 | n+1,lo=>by simp [upTo,dN n]
theorem qO:∀ (n:Nat) (lo:Int) (i:Nat),i < n->(upTo lo n)[i]?=some (.int (lo+i))
 | 0,_,_,h=>by omega
 | n+1,lo,0,_=>by simp [upTo]
 | n+1,lo,i+1,h=>by
  simp only [upTo,List.getElem?_cons_succ]
  rw [qO n (lo+1) i (by omega)]
  congr 2
  omega
open Classical in
noncomputable def Cb:List PV->PH->Rs Wk:=fun xs h=>match xs with
 | [.int j]=>if -(2 ^ 62)<=j/\j < 2 ^ 62 then .ok ⟨upTo 0 j.toNat,fun _=>true⟩ h else .bad
 | _=>.bad
noncomputable def hU (ms:Ma):Mi:=fun δ h=>(ms δ h).bind Cb
theorem KM (lo:Int) (n:Nat) (φ:List Addr) (H:Hp):Df C (Itr lo n) ⟨upTo lo n,fun _=>true⟩ φ H:=fun φ2 H2 h2 p2 t2 rh2 _ i=>by
 refine ⟨fun hi=>?_,fun hi=>?_⟩
 ·have hi':i < n:=by rw [<- dN n lo]; exact hi
  refine ⟨hi',fun x H' y=>?_⟩
  obtain ⟨e,y⟩:=y
  subst e y
  exact ⟨⟨.int (lo+i),qO n lo i hi',rfl⟩,Kp.refl _,rh2⟩
 ·have:(upTo lo n).length<=i:=hi
  rw [dN] at this
  exact this
theorem postA.bindI {φ:List Addr} {H:Hp} {r:Rs (List PV)} {f:List PV->PH->Rs Wk} {R:It->Hp->Prop} (h:dX C φ H (r.bind f) R):postA C φ H r fun vs H1=>∃ φ1 ps h1,φ<+:φ1/\Kp H H1/\RH C φ1 H1 h1/\RVs C φ1 H1 ps vs/\dX C φ1 H1 (f ps h1) R:=by
 cases r with
 | ok a h'=>
  intro φ' v H' p' t' rh rv
  refine ⟨φ',a,h',p',t',rh,rv,?_⟩
  have p0:dX C φ H (f a h') R:=h
  cases e2:f a h' with
  | ok w h2=>rw [e2] at p0; exact fun φ2 H2 J p2 t2=>p0 φ2 H2 J (p'.trans p2) (t'.trans t2)
  | exc z h2=>rw [e2] at p0; exact fun φ2 H2 p2 t2=>p0 φ2 H2 (p'.trans p2) (t'.trans t2)
  | bad=>rw [e2] at p0; exact p0
 | exc a h'=>exact h
 | bad=>exact h
theorem PI.imp {tg iter:Expr} {t t':TI} (h:PI X tg iter t) (i:∀ σ H R,t' σ H R->t σ H R):PI X tg iter t':=fun pins s σ H R I q=>h pins s σ H R I (i σ H R q)
theorem wJ {x:Expr} {ms:Ma} {tg:Expr} {p pos:Pos} (ha:SA C k X [x] ms) (hb:("range" : Str)∈C.bs:=by decide) (hg:Gl X "range" := by rfl) (hs:starEach [x] X.env=[(false,eval x X.env)]:=by rfl):SI C k X tg (.Call (.Name "range" p) [x] [] pos) (hU ms):=fun c=>
 (pr1 hg (c.bn _ hb) (ha c) hs).imp fun σ H R h=>by
  obtain ⟨φ,δ,h,rh,re,p⟩:=h
  refine ⟨φ,δ,h,rh,re,(postA.bindI p).imp ?_⟩
  rintro vs H1 ⟨φ1,xs,h1,p1,t1,rh1,rv1,q1⟩
  unfold Cb at q1
  split at q1
  ·obtain ⟨v,rfl,rx⟩:=rv1.one
   cases rx
   rename_i j
   by_cases hj:-(2 ^ 62)<=j/\j < 2 ^ 62
   ·rw [if_pos hj] at q1
    exact ⟨hj,q1 φ1 H1 _ List.prefix_rfl (Kp.refl _) rh1 (KM 0 j.toNat φ1 H1)⟩
   ·rw [if_neg hj] at q1; exact q1.elim
  ·exact q1.elim
def eJ (g:PH->Bool) (tg:Mg) (body:Ms):List PV->Ev->PH->Fl
 | [],δ,h=>if g h=true then .nx δ h else .bad
 | x :: xs,δ,h=>if g h=true then (match tg x δ with
  | none=>.bad
  | some δ1=>match body δ1 h with
   | .nx δ2 h2=>eJ g tg body xs δ2 h2
   | .ct δ2 h2=>eJ g tg body xs δ2 h2
   | .bk δ2 h2=>.nx δ2 h2
   | r=>r) else .bad
def jQ (mi:Mi) (tg:Mg) (body:Ms):Ms:=fun δ h=>(mi δ h).fl fun w h1=>eJ w.g tg body w.xs δ h1
theorem dX.fl {φ:List Addr} {H:Hp} {r:Rs Wk} {f:Wk->PH->Fl} {D:Ends} (h:bV C φ H (r.fl f) D):dX C φ H r fun J H1=>∃ φ1 w h1,φ<+:φ1/\Kp H H1/\RH C φ1 H1 h1/\Df C J w φ1 H1/\bV C φ1 H1 (f w h1) D:=by
 cases r with
 | ok a h'=>exact fun φ' H' J p t rh wk=>⟨φ',a,h',p,t,rh,wk,bV.weak p t h⟩
 | exc a h'=>exact h
 | bad=>exact h
theorem dX.imp {φ:List Addr} {H:Hp} {r:Rs Wk} {Q Q':It->Hp->Prop} (h:dX C φ H r Q) (i:∀ v H',Q v H'->Q' v H'):dX C φ H r Q':=by
 cases r with
 | ok a h'=>exact fun φ' H' J p t rh wk=>i J H' (h φ' H' J p t rh wk)
 | exc a h'=>exact h
 | bad=>exact h
theorem drop_cons {α:Type} {xs:List α} {i:Nat} {p:α} (h:xs[i]?=some p):xs.drop i=p :: xs.drop (i+1):=by
 obtain ⟨h1,h2⟩:=List.getElem?_eq_some_iff.mp h
 rw [List.drop_eq_getElem_cons h1,h2]
theorem HY {J:It} {w:Wk} {φ0:List Addr} {H0:Hp} {tg:Mg} {body:Ms} {D:Ends} {σ:St} {δ:Ev} {h:PH} (wk:Df C J w φ0 H0) (rh:RH C φ0 H0 h) (re:RE C φ0 H0 δ σ) (p:bV C φ0 H0 (eJ w.g tg body w.xs δ h) D):
  ∃ W:Nat->Nat->St->Hp->Prop,(∃ m,W 0 m σ H0)/\∀ i m σ H,W i m σ H->
   (J.stop i H/\D.nx σ H)\/(J.go i H/\∃ N:St->Hp->Prop,(∀ σ' H',N σ' H'->∃ m',m' < m/\W (i+1) m' σ' H')/\∀ x H',J.yld i H x H'->rdG C tg x σ H' fun σ2 H2=>rdS C body { D with nx:=N,ct:=N,bk:=D.nx } σ2 H2):=by
 refine ⟨fun i m σ H=>m=w.xs.length - i/\i<=w.xs.length/\∃ φ δ h,φ0<+:φ/\Kp H0 H/\RH C φ H h/\RE C φ H δ σ/\bV C φ H (eJ w.g tg body (w.xs.drop i) δ h) D,
  ⟨w.xs.length,by simp,Nat.zero_le _,φ0,δ,h,List.prefix_rfl,Kp.refl _,rh,re,by rw [List.drop_zero]; exact p⟩,?_⟩
 rintro i m σ H ⟨rfl,hi,φ,δ,h,pp,tt,rh,re,p⟩
 by_cases hlt:i < w.xs.length
 ·have hd:w.xs.drop i=w.xs[i] :: w.xs.drop (i+1):=drop_cons (by simp [hlt])
  rw [hd] at p
  unfold eJ at p
  by_cases hg:w.g h=true
  ·rw [if_pos hg] at p
   obtain ⟨go,step⟩:=(wk φ H h pp tt rh hg i).1 hlt
   refine .inr ⟨go,fun σ' H'=>∃ φ δ h,φ0<+:φ/\Kp H0 H'/\RH C φ H' h/\RE C φ H' δ σ'/\bV C φ H' (eJ w.g tg body (w.xs.drop (i+1)) δ h) D,fun σ' H' ⟨φ',δ',h',q⟩=>⟨w.xs.length - (i+1),by omega,rfl,hlt,φ',δ',h',q⟩,fun x H' y=>?_⟩
   obtain ⟨⟨q,eq,rv⟩,t1,rh1⟩:=step x H' y
   have eq':w.xs[i]=q:=by
    have:w.xs[i]?=some w.xs[i]:=by simp [hlt]
    rw [this] at eq
    exact Option.some.inj eq
   rw [eq'] at p
   cases et:tg q δ with
   | none=>rw [et] at p; exact p.elim
   | some δ1=>
    rw [et] at p
    dsimp only at p
    refine ⟨φ,δ,h,q,δ1,rh1,re.mono List.prefix_rfl t1,rv,et,fun σ2 re2=>⟨φ,δ1,h,rh1,re2,?_⟩⟩
    have p:=bV.weak List.prefix_rfl t1 p
    cases eb:body δ1 h with
    | nx δ2 h2=>rw [eb] at p; exact fun φ3 σ3 H3 p3 t3 rh3 re3=>⟨φ3,δ2,h2,pp.trans p3,(tt.trans t1).trans t3,rh3,re3,bV.weak p3 t3 p⟩
    | ct δ2 h2=>rw [eb] at p; exact fun φ3 σ3 H3 p3 t3 rh3 re3=>⟨φ3,δ2,h2,pp.trans p3,(tt.trans t1).trans t3,rh3,re3,bV.weak p3 t3 p⟩
    | bk δ2 h2=>rw [eb] at p; exact p
    | rt z h2=>rw [eb] at p; exact p
    | exc z h2=>rw [eb] at p; exact p
    | bad=>rw [eb] at p; exact p
  ·rw [if_neg hg] at p
   exact p.elim
 ·have e:i=w.xs.length:=by omega
  subst e
  rw [List.drop_length] at p
  unfold eJ at p
  by_cases hg:w.g h=true
  ·rw [if_pos hg] at p
   exact .inl ⟨(wk φ H h pp tt rh hg _).2 (Nat.le_refl _),p.nx rh re⟩
  ·rw [if_neg hg] at p
   exact p.elim
theorem oE {tg iter:Expr} {body:List Stmt} {mi:Mi} {t:Mg} {mb:Ms} {pos:Pos} (hi:SI C k X tg iter mi) (hg:SG C k X tg t) (hb:SSs C k X body mb) (hp:PassesOwn (model X.prog X.w) X.A X.env X.xe:=by exact PassesOwn.never)
  (hs:∀ x,foldedSetIterable iter X.env x=pure x:=by intro _; rfl):SSt C k X (.For tg iter body [] pos) (jQ mi t mb):=fun c=>(JZ hp c.calm (hi c) (hg c) (hb c) hs).imp fun D σ H h=>by
 obtain ⟨φ,δ,h,rh,re,p⟩:=h
 refine ⟨φ,δ,h,rh,re,(dX.fl p).imp ?_⟩
 rintro J H1 ⟨φ1,w,h1,p1,t1,rh1,wk,q1⟩
 exact HY wk rh1 (re.mono p1 t1) q1
end L2
set_option Elab.async false
set_option linter.all false
set_option maxRecDepth 100000
namespace L2
open PySem PySem.Spec PyProof.Rows
variable {C:MC} {k:Nat} {X:Cx}
def cQ (js:List (Option Nat)) (δ:Ev):Ev:=js.map fun o=>match o with
 | none=>none
 | some j=>wG δ j
theorem Cc:∀ {σ:St} {i:Nat} {v:V},σ[i]?=some (some v)->AO σ i=some v
 | [],_,_,h=>by simp at h
 | x :: _,0,v,h=>by
  have:x=some v:=by simpa using h
  exact this
 | _ :: r,n+1,v,h=>Cc (σ:=r) (i:=n) (by simpa using h)
theorem RE.cap {φ:List Addr} {H:Hp} {δ:Ev} {σ:St} (re:RE C φ H δ σ) (js:List (Option Nat)):RE C φ H (cQ js δ) (fW js σ):=by
 refine ⟨by simp [cQ,fW],fun i p e=>?_⟩
 unfold cQ at e
 unfold fW
 rw [List.getElem?_map] at e ⊢
 cases q:js[i]? with
 | none=>rw [q] at e; cases e
 | some o=>
  rw [q] at e
  cases o with
  | none=>cases e
  | some j=>
   obtain ⟨v,hv,rv⟩:=re.2 j p (qK (Option.some.inj e))
   exact ⟨v,by show some (AO σ j)=_; rw [Cc hv],rv⟩
def hV (g:PH->Bool) (tg:Mg) (tst:Ev->PH->Rs Bool) (elt:Me) (δ0:Ev) (n:Nat):List PV->PH->Rs PV
 | [],h=>if g h=true then .ok (.ref n) h else .bad
 | x :: xs,h=>if g h=true then (match tg x δ0 with
  | none=>.bad
  | some δ1=>(tst δ1 h).bind fun b h1=>match b with
   | false=>hV g tg tst elt δ0 n xs h1
   | true=>(elt δ1 h1).bind fun p h2=>match cL h2 n with
    | some ys=>if ys.length < sizeLine then hV g tg tst elt δ0 n xs (h2.set n (.lst (ys++[p]))) else .bad
    | none=>.bad) else .bad
def bT (js:List (Option Nat)) (mi:Mi) (tg:Mg) (tst:Ev->PH->Rs Bool) (elt:Me):Me:=fun δ h=>(mi δ h).bind fun w h1=>hV w.g tg tst elt (cQ js δ) h1.length w.xs (h1++[.lst []])
def fH:Ev->PH->Rs Bool:=fun _ h=>.ok true h
def STs (C:MC) (k:Nat) (X:Cx) (es:List Expr) (m:Ev->PH->Rs Bool):Prop:=Cxt C k X->PTs X es (rdB C m)
theorem iJ:STs C k X [] fH:=fun c pins s σ H Q I h=>by
 obtain ⟨φ,δ,h,rh,re,p⟩:=h
 exact HA pins s σ H Q I (p.val rh)
theorem qP {e:Expr} {m:Ev->PH->Rs Bool} (h:ST C k X e m):STs C k X [e] m:=fun c=>HB (h c)
theorem dX.bind {φ:List Addr} {H:Hp} {r:Rs Wk} {f:Wk->PH->Rs PV} {Q:VK} (h:post C φ H (r.bind f) Q):dX C φ H r fun J H1=>∃ φ1 w h1,φ<+:φ1/\Kp H H1/\RH C φ1 H1 h1/\Df C J w φ1 H1/\post C φ1 H1 (f w h1) Q:=by
 cases r with
 | ok a h'=>exact fun φ' H' J p t rh wk=>⟨φ',a,h',p,t,rh,wk,post.weak p t h⟩
 | exc a h'=>exact h
 | bad=>exact h
theorem F6 {J:It} {w:Wk} {φ0:List Addr} {H0:Hp} {tg:Mg} {tst:Ev->PH->Rs Bool} {elt:Me} {Q:VK} {σ:St} {δ:Ev} {h:PH} {js:List (Option Nat)} (wk:Df C J w φ0 H0) (rh:RH C φ0 H0 h) (re:RE C φ0 H0 δ σ)
  (p:post C φ0 H0 (hV w.g tg tst elt (cQ js δ) h.length w.xs (h++[.lst []])) Q) (acc:Addr) (hacc:H0 acc=none):
  ∃ W:Nat->Nat->Hp->Prop,(∃ m,W 0 m (upd H0 acc (.lst [])))/\∀ i m H2,W i m H2->
   (J.stop i H2/\Q (.ref acc) H2)\/(J.go i H2/\∃ N:Hp->Prop,(∀ H',N H'->∃ m',m' < m/\W (i+1) m' H')/\∀ x H3,J.yld i H2 x H3->Ju js (rdG C tg) (rdB C tst) (rd C elt) σ acc x H3 N):=by
 have hlen:(φ0++[acc])[h.length]?=some acc:=by rw [<- rh.len]; simp
 refine ⟨fun i m H=>m=w.xs.length - i/\i<=w.xs.length/\∃ φ h',(φ0++[acc])<+:φ/\Kp H0 H/\RH C φ H h'/\post C φ H (hV w.g tg tst elt (cQ js δ) h.length (w.xs.drop i) h') Q,
  ⟨w.xs.length,by simp,Nat.zero_le _,φ0++[acc],h++[.lst []],List.prefix_rfl,Kp.new hacc,rh.new (o:=.lst []) hacc ⟨[],bO,trivial⟩,by rw [List.drop_zero]; exact post.weak (List.prefix_append _ _) (Kp.new hacc) p⟩,?_⟩
 rintro i m H ⟨rfl,hi,φ,h',pp,tt,rh',p⟩
 have pp0:φ0<+:φ:=(List.prefix_append _ _).trans pp
 by_cases hlt:i < w.xs.length
 ·have hd:w.xs.drop i=w.xs[i] :: w.xs.drop (i+1):=drop_cons (by simp [hlt])
  rw [hd] at p
  unfold hV at p
  by_cases hg:w.g h'=true
  ·rw [if_pos hg] at p
   obtain ⟨go,step⟩:=(wk φ H h' pp0 tt rh' hg i).1 hlt
   refine .inr ⟨go,fun H'=>∃ φ h',(φ0++[acc])<+:φ/\Kp H0 H'/\RH C φ H' h'/\post C φ H' (hV w.g tg tst elt (cQ js δ) h.length (w.xs.drop (i+1)) h') Q,fun H' ⟨φ',h',q⟩=>⟨w.xs.length - (i+1),by omega,rfl,hlt,φ',h',q⟩,fun x H' y=>?_⟩
   obtain ⟨⟨q,eq,rv⟩,t1,rh1⟩:=step x H' y
   have eq':w.xs[i]=q:=by
    have:w.xs[i]?=some w.xs[i]:=by simp [hlt]
    rw [this] at eq
    exact Option.some.inj eq
   rw [eq'] at p
   cases et:tg q (cQ js δ) with
   | none=>rw [et] at p; exact p.elim
   | some δ1=>
    rw [et] at p
    have re1:RE C φ H' (cQ js δ) (fW js σ):=(re.mono pp0 (tt.trans t1)).cap js
    refine ⟨φ,cQ js δ,h',q,δ1,rh1,re1,rv,et,fun σ2 re2=>⟨φ,δ1,h',rh1,re2,(bL.bind (post.weak List.prefix_rfl t1 p)).imp ?_⟩⟩
    rintro b H5 ⟨φ5,h5,p5,t5,rh5,q5⟩
    cases b with
    | false=>exact CS ⟨φ5,h5,pp.trans p5,(tt.trans t1).trans t5,rh5,q5⟩
    | true=>
     refine CT ⟨φ5,δ1,h5,rh5,re2.mono p5 t5,(post.bind q5).imp ?_⟩
     rintro v H6 ⟨φ6,z,h6,p6,t6,rh6,rv6,q6⟩
     cases e6:cL h6 h.length with
     | none=>rw [e6] at q6; exact q6.elim
     | some ys=>
      rw [e6] at q6
      obtain ⟨hz,q6⟩:=q6.ite
      have hφ:φ6[h.length]?=some acc:=fY ((pp.trans p5).trans p6) hlen
      obtain ⟨vs,hH,rvs⟩:=rh6.at' h.length acc _ hφ (fD e6)
      refine ⟨vs,hH,by rw [<- rvs.length]; exact hz,φ6,h6.set h.length (.lst (ys++[z])),(pp.trans p5).trans p6,(((tt.trans t1).trans t5).trans t6).trans (Kp.lst hH),
       rh6.write hφ (by rw [hH]; trivial) ⟨vs++[v],bO,(rvs.snoc rv6).mono List.prefix_rfl (Kp.lst hH)⟩,post.weak List.prefix_rfl (Kp.lst hH) q6⟩
  ·rw [if_neg hg] at p
   exact p.elim
 ·have e:i=w.xs.length:=by omega
  subst e
  rw [List.drop_length] at p
  unfold hV at p
  by_cases hg:w.g h'=true
  ·rw [if_pos hg] at p
   exact .inl ⟨(wk φ H h' pp0 tt rh' hg _).2 (Nat.le_refl _),p.val rh' ⟨acc,rfl,fY pp hlen⟩⟩
  ·rw [if_neg hg] at p
   exact p.elim
theorem Cd {js:List (Option Nat)} {mi:Mi} {tg:Mg} {tst:Ev->PH->Rs Bool} {elt:Me} {σ:St} {H:Hp} {Q:VK} (h:rd C (bT js mi tg tst elt) σ H Q):BZ js (rdI C mi) (rdG C tg) (rdB C tst) (rd C elt) σ H Q:=by
 obtain ⟨φ,δ,h,rh,re,p⟩:=h
 refine ⟨φ,δ,h,rh,re,(dX.bind p).imp ?_⟩
 rintro J H1 ⟨φ1,w,h1,p1,t1,rh1,wk,q1⟩
 intro acc hacc
 exact F6 wk rh1 (re.mono p1 t1) q1 acc hacc
section
variable {elt iter tg:Expr} {ifs:List Expr} {sc:Scope} {pos:Pos} {os:Scope} {oN N:List Str} {js:List (Option Nat)} {mi:Mi} {g:Mg} {tt:Ev->PH->Rs Bool} {me:Me}
theorem gG (hes:X.env.scope=os) (heN:X.N=oN) (ok:kB os oN sc N js=true) (hi:SI C k X tg iter mi)
  (hg:∀ C' fp s₀ H₀,SG C k (X.comp sc N C' fp s₀ H₀) tg g) (ht:∀ C' fp s₀ H₀,STs C k (X.comp sc N C' fp s₀ H₀) ifs tt) (he:∀ C' fp s₀ H₀,SE C k (X.comp sc N C' fp s₀ H₀) elt me)
  (hs:∀ x,foldedSetIterable iter X.env x=pure x:=by intro _; rfl):SE C k X (.ListComp elt [⟨tg,iter,ifs,0⟩] sc pos) (bT js mi g tt me):=fun c=>
 (HC c.calm hes heN ok (hi c) (fun a b s H=>hg a b s H (c.comp sc N a b s H)) (fun a b s H=>ht a b s H (c.comp sc N a b s H)) (fun a b s H=>he a b s H (c.comp sc N a b s H)) hs).imp fun σ H Q h=>Cd h
theorem jB {i:Nat} {x:Str} {pos' spos:Pos} (hN:X.N.Nodup) (hx':X.N[i]?=some x) (hloc:X.env.scope.names.lookup x=some .local) (hes:X.env.scope=os) (heN:X.N=oN) (ok:kB os oN sc N js=true) (hi:SI C k X tg iter mi)
  (hg:∀ C' fp s₀ H₀,SG C k (X.comp sc N C' fp s₀ H₀) tg g) (ht:∀ C' fp s₀ H₀,STs C k (X.comp sc N C' fp s₀ H₀) ifs tt) (he:∀ C' fp s₀ H₀,SE C k (X.comp sc N C' fp s₀ H₀) elt me)
  (hsw:swapsWith (.ListComp elt [⟨tg,iter,ifs,0⟩] sc pos) (some (.Name x pos')) spos.line X.env=pure true:=by rfl)
  (hs:∀ x,foldedSetIterable iter X.env x=pure x:=by intro _; rfl):SSt C k X (.Assign [.Name x pos'] (.ListComp elt [⟨tg,iter,ifs,0⟩] sc pos) spos) (bQ i (bT js mi g tt me)):=fun c=>
 (AQ hN hx' hloc c.calm hes heN ok (hi c) (fun a b s H=>hg a b s H (c.comp sc N a b s H)) (fun a b s H=>ht a b s H (c.comp sc N a b s H)) (fun a b s H=>he a b s H (c.comp sc N a b s H)) hsw hs).imp fun D σ H h=>by
  obtain ⟨φ,δ,h,rh,re,p⟩:=h
  refine Cd ⟨φ,δ,h,rh,re,(post.fl p).imp ?_⟩
  rintro v H1 ⟨φ1,x,h1,p1,t1,rh1,rv1,q1⟩
  exact q1.nx rh1 ((re.mono p1 t1).set rv1 i)
end
def mFn (N:Nat) (body:Ms):Fn:=fun args h=>match body (args.map some++List.replicate (N - args.length) none) h with
 | .nx _ h'=>.ok .non h'
 | .rt p h'=>.ok p h'
 | .exc x h'=>.exc x h'
 | _=>.bad
theorem RE.start {φ:List Addr} {H:Hp} {ps:List PV} {vs:List V} (r:RVs C φ H ps vs) (N:List Str):RE C φ H (ps.map some++List.replicate (N.length - ps.length) none) (start N vs):=by
 unfold L2.start
 refine ⟨by simp [r.length],fun i p e=>?_⟩
 by_cases hi:i < ps.length
 ·rw [List.getElem?_append_left (by simpa using hi),List.getElem?_map] at e
  rw [List.getElem?_append_left (by simpa [<- r.length] using hi),List.getElem?_map]
  cases q:ps[i]? with
  | none=>rw [q] at e; cases e
  | some x=>
   rw [q] at e
   cases e
   obtain ⟨v,hv,rv⟩:=r.at q
   exact ⟨v,by rw [hv]; rfl,rv⟩
 ·rw [List.getElem?_append_right (by simpa using hi)] at e
  rw [List.getElem?_replicate] at e
  split at e
  ·cases e
  ·cases e
theorem dO {P:Program} {mg:Str->Option Value} {base:Heap} {x qual:Str} {st:Stmt} {f:Addr} {fd:FuncData} {N ps:List Str} {body:Ms} (hex:∀ φ H x,¬ C.ex φ H x) (hbn:∀ x∈C.bs,mg x=none)
  (F:Fun C.K x qual st f fd) (S:bB N ps (aE st))
  (hb:∀ (cdv:Value) (A:Around) (outer:List Env) (s:Shared) (H:Hp) (E:XK),SSs C k (AI CX0 P C.w C.K mg base N qual (aE st) f cdv A outer s H E).nox (aR st) body):
  aQ P C.w C.K mg base CX0 (k+1) f fd ps (spM C ps.length (mFn N.length body)):=by
 refine F.ok S (fun vs H Q E h=>?_) (fun cdv A outer s H vs Q E hr h=>?_)
 ·obtain ⟨φ,h,xs,rh,rv,hl,_⟩:=h
  rw [<- rv.length]
  exact hl
 ·obtain ⟨φ,h,xs,rh,rv,hl,p⟩:=h
  refine ⟨_,hb cdv A outer s H E ⟨rfl,rfl,hr,hbn,rfl⟩,φ,xs.map some++List.replicate (N.length - xs.length) none,h,rh,RE.start rv N,?_⟩
  unfold mFn at p
  cases e:body (xs.map some++List.replicate (N.length - xs.length) none) h with
  | nx δ h'=>rw [e] at p; exact fun φ' σ' H' pp tt rh' re'=>p φ' .non H' pp tt rh' rfl
  | rt z h'=>rw [e] at p; exact p
  | exc z h'=>rw [e] at p; exact fun φ' H' pp tt rh'=>(hex _ _ _ (p φ' H' pp tt rh')).elim
  | bk δ h'=>rw [e] at p; exact p.elim
  | ct δ h'=>rw [e] at p; exact p.elim
  | bad=>rw [e] at p; exact p.elim
theorem KN {f:Fn} {H:Hp} {Q:VK} {E:XK} {a:Addr} {ns:List Int} (hO:EC H) (ho:SqL C.K H a (ns.map V.int)) (hf:∃ h,f [.fl (ns.map PV.int)] []=.ok (.bl true) h) (hQ:∀ H',Q (.bl true) H'):spM C 1 f [.ref a] H Q E:=by
 have r0:∀ ns:List Int,RVs C [] H (ns.map PV.int) (ns.map V.int):=by
  intro ns
  induction ns with
  | nil=>trivial
  | cons n ns ih=>exact ⟨rfl,ih⟩
 have hs:SqF C.K H a (ns.map V.int):=by
  rcases ho with (h | ⟨o,h⟩) | h
  ·rcases hO a with z | ⟨o,xs,z⟩
   ·rw [z] at h; cases h
   ·rw [z] at h; cases h
  ·exact .inl ⟨o,h⟩
  ·exact .inr h
 refine ⟨[],[],[.fl (ns.map PV.int)],⟨rfl,by simp,fun n b ob h1 h2=>by simp at h1⟩,⟨⟨a,_,rfl,hs,r0 ns⟩,trivial⟩,rfl,?_⟩
 obtain ⟨h,e⟩:=hf
 rw [e]
 intro φ' v H' _ _ _ rv
 cases rv
 exact hQ H'
end L2
set_option Elab.async false
set_option linter.all false
set_option maxRecDepth 100000
namespace L2
open PySem PySem.Spec PyProof.Rows
variable {C:MC} {k:Nat} {X:Cx}
def tyN (x:PV) (h:PH):Option String:=match x with
 | .non=>some "NoneType"
 | .bl _=>some "bool"
 | .int _=>some "int"
 | .str _=>some "str"
 | .tup _=>some "tuple"
 | .fl _=>some "list"
 | .ref n=>match h[n]? with
  | some (.lst _)=>some "list"
  | some (.dK _)=>some "dict"
  | _=>none
 | .ty _=>none
def iK (t c:String):Bool:=t == c || (t == "bool" && c == "int")
def known:List String:=["int","str","bool","list","tuple","dict"]
theorem KO {K:PySem.W.Frag} {t c:String} (ht:t∈"NoneType" :: known) (hc:c∈known):PySem.W.kitOne K (.type t) (.type c)=some (iK t c):=by
 simp only [known,List.mem_cons,List.not_mem_nil,or_false] at ht hc
 rcases ht with rfl | rfl | rfl | rfl | rfl | rfl | rfl <;> rcases hc with rfl | rfl | rfl | rfl | rfl | rfl <;> rfl
def wK:List PV->PH->Rs PV:=fun xs h=>match xs with
 | [x,.ty c]=>match tyN x h with
  | some t=>if c∈known then .ok (.bl (iK t c)) h else .bad
  | none=>.bad
 | _=>.bad
theorem F7 (hK:X.K=C.K):bE X (.builtin "isinstance") (fun xs H Q=>∃ x c t b,xs=[x,.ty c]/\(mW C.K H x (.type t)\/(∃ a vs,x=.ref a/\SqT C.K H a vs/\t="tuple")\/(∃ a vs,x=.ref a/\SqL C.K H a vs/\t="list"))/\PySem.W.kitOne C.K (.type t) (.type c)=some b/\Q (.bl b) H):=by
 intro pins s σ H xs us Q I r h
 obtain ⟨x,c,t,b,rfl,ty,e,q⟩:=h
 obtain ⟨u,v,rfl,ru,rv⟩:=vals2 r
 cases rv
 rw [<- hK] at e ty
 rcases ty with ty | ⟨a,vs,rfl,sa,rfl⟩ | ⟨a,vs,rfl,sa,rfl⟩
 ·exact CM I ru ty e fun tk=>⟨.bl b,H,I.tok tk,rfl,q⟩
 ·cases ru
  obtain ⟨its,_,⟨o,h1,h2,_⟩,_⟩:=I.tuple sa
  exact PySem.W.kia_one PySem.W.kitx_tuple I.kIn ⟨o,h1,h2⟩ e (fun z=>nomatch z) fun tk=>⟨.bl b,H,I.tok tk,rfl,q⟩
 ·cases ru
  obtain ⟨its,_,⟨o,n,h1,h2,_⟩,_⟩:=I.list sa
  exact PySem.W.kia_one PySem.W.kitx_list I.kIn ⟨o,h1,h2⟩ e (fun z=>nomatch z) fun tk=>⟨.bl b,H,I.tok tk,rfl,q⟩
theorem gH:eR C k X (.builtin "isinstance") wK:=fun c=>(F7 c.K).imp fun vs H Q h=>by
 obtain ⟨φ,h,ps,rh,rv,po⟩:=h
 unfold wK at po
 split at po
 ·rename_i x n
  obtain ⟨v,w,rfl,rx,ry⟩:=rv.two
  cases ry
  split at po
  ·rename_i t ht
   obtain ⟨hn,po⟩:=po.ite
   have fin:∀ {t:String},t∈"NoneType" :: known->post C φ H (.ok (.bl (iK t n)) h) Q->PySem.W.kitOne C.K (.type t) (.type n)=some (iK t n)/\Q (.bl (iK t n)) H:=fun hm po=>⟨KO hm hn,po.val rh rfl⟩
   unfold tyN at ht
   cases x with
   | non=>cases ht; cases rx; exact ⟨_,n,_,_,rfl,.inl .non,fin (by decide) po⟩
   | bl b=>cases ht; cases rx; exact ⟨_,n,_,_,rfl,.inl (.bl _),fin (by decide) po⟩
   | int b=>cases ht; cases rx; exact ⟨_,n,_,_,rfl,.inl (.int _),fin (by decide) po⟩
   | str b=>cases ht; cases rx; exact ⟨_,n,_,_,rfl,.inl (.str _),fin (by decide) po⟩
   | tup xs=>
    cases ht
    obtain ⟨a,vs,rfl,sa,ra⟩:=rx
    exact ⟨_,n,_,_,rfl,.inr (.inl ⟨a,vs,rfl,sa,rfl⟩),fin (by decide) po⟩
   | fl xs=>
    cases ht
    obtain ⟨a,vs,rfl,sa,ra⟩:=rx
    exact ⟨_,n,_,_,rfl,.inr (.inr ⟨a,vs,rfl,sa.sq,rfl⟩),fin (by decide) po⟩
   | ref m=>
    obtain ⟨a,rfl,ha⟩:=rx
    dsimp only at ht
    split at ht
    ·rename_i xs hx
     cases ht
     obtain ⟨vs,hH,ra⟩:=rh.at' m a _ ha hx
     exact ⟨_,n,_,_,rfl,.inl (.lst hH),fin (by decide) po⟩
    ·rename_i xs hx
     cases ht
     obtain ⟨vs,hH,ra⟩:=rh.at' m a _ ha hx
     exact ⟨_,n,_,_,rfl,.inl (.dK hH),fin (by decide) po⟩
    ·cases ht
   | ty z=>cases ht
  ·exact po.elim
 ·exact po.elim
def HZ:List PV->PH->Rs PV:=fun xs h=>match xs with
 | [.int i,.int j]=>.ok (.int (if j < i then j else i)) h
 | _=>.bad
theorem MJ:eR C k X (.builtin "min") HZ:=fun c=>(CK c.calm).imp fun vs H Q h=>by
 obtain ⟨φ,h,ps,rh,rv,po⟩:=h
 unfold HZ at po
 split at po
 ·obtain ⟨v,w,rfl,rx,ry⟩:=rv.two
  cases rx; cases ry
  exact ⟨_,_,rfl,po.val rh rfl⟩
 ·exact po.elim
def mMt (ty:PV->PH->Bool) (g:PV->List PV->PH->Rs PV) (mo:Me) (ms:Ma):Me:=fun δ h=>(mo δ h).bind fun x h1=>if ty x h1=true then (ms δ h1).bind fun ps h2=>g x ps h2 else .bad
def KQ (ty:PV->PH->Bool) (g:PV->List PV->PH->Rs PV) (mo:Me):Me:=fun δ h=>(mo δ h).bind fun x h1=>if ty x h1=true then g x [] h1 else .bad
def rM (C:MC) (g:PV->List PV->PH->Rs PV):V->List V->Hp->VK->Prop:=fun x xs H Q=>∃ φ h p ps,RH C φ H h/\RV C φ H p x/\RVs C φ H ps xs/\post C φ H (g p ps h) Q
def MtS (C:MC) (k:Nat) (X:Cx) (T:String) (ty:PV->PH->Bool) (id:String) (g:PV->List PV->PH->Rs PV):Prop:=Cxt C k X->MtR X id (rM C g)/\∀ φ H h p x,RH C φ H h->RV C φ H p x->ty p h=true->tyV C.K T x H
section
variable {o e:Expr} {es:List Expr} {mo:Me} {ms:Ma} {name:Str} {apos cpos:Pos} {T id:String} {ty:PV->PH->Bool} {g:PV->List PV->PH->Rs PV}
theorem F8 (pa:PlainAttrs T) (slot:Slot T name id) (hty:typeOf (.builtin id)=pure (.type "method_descriptor")) (hm:MtS C k X T ty id g) (ho:SE C k X o mo) (ha:SA C k X (e :: es) ms)
  (hbase:attributeBase o name X.env (eval o X.env)=eval o X.env:=by rfl)
  (hfew:((backTo cpos (starEach (e :: es) X.env)).all (fun x=>!x.1) && (backToKw cpos (keywordEach [] X.env)).all (fun x=>x.1.isSome)
   && decide ((e :: es).length+([]:List Keyword).length+(if ([]:List Keyword).isEmpty then 0 else 1) < 30))=true:=by rfl)
  (hline:(apos.endLine == cpos.line)=true:=by rfl) (hs:starEach (e :: es) X.env=(false,eval e X.env) :: starEach es X.env:=by rfl) (hplain:(backTo cpos (starEach es X.env)).any (·.1)=false:=by rfl):
  SE C k X (.Call (.Attribute o name apos) (e :: es) [] cpos) (mMt ty g mo ms):=fun c=>(M' pa slot hty (hm c).1 (ho c) (ha c) hbase hfew hline hs hplain).imp fun σ H Q h=>by
 obtain ⟨φ,δ,h,rh,re,p⟩:=h
 refine ⟨φ,δ,h,rh,re,(post.bind p).imp ?_⟩
 rintro v H1 ⟨φ1,x,h1,p1,t1,rh1,rv1,q1⟩
 obtain ⟨ht,q1⟩:=q1.ite
 refine ⟨by rw [c.K]; exact (hm c).2 φ1 H1 h1 x v rh1 rv1 ht,φ1,δ,h1,rh1,re.mono p1 t1,(postA.bind q1).imp ?_⟩
 rintro vs H2 ⟨φ2,xs,h2,p2,t2,rh2,rv2,q2⟩
 exact ⟨φ2,h2,x,xs,rh2,rv1.mono p2 t2,rv2,q2⟩
end
theorem MtR.imp {id:String} {r r':V->List V->Hp->VK->Prop} (h:MtR X id r) (i:∀ x xs H Q,r' x xs H Q->r x xs H Q):MtR X id r':=fun pins s σ H x xs v us Q I rx rs q=>h pins s σ H x xs v us Q I rx rs (i x xs H Q q)
def isL (x:PV) (h:PH):Bool:=match x with
 | .ref n=>(cL h n).isSome
 | _=>false
theorem F9 {φ:List Addr} {H:Hp} {h:PH} {p:PV} {x:V} (rh:RH C φ H h) (rv:RV C φ H p x) (e:isL p h=true):tyV C.K "list" x H:=by
 cases p with
 | ref n=>
  obtain ⟨a,rfl,ha⟩:=rv
  obtain ⟨xs,hx⟩:=Option.isSome_iff_exists.mp (show (cL h n).isSome=true from e)
  obtain ⟨vs,hH,ra⟩:=rh.at' n a _ ha (fD hx)
  exact .inl ⟨rfl,vs,SqL.of hH⟩
 | _=>cases e
def onL (f:List PV->List PV->Option (PV×List PV)):PV->List PV->PH->Rs PV:=fun x ps h=>match x with
 | .ref n=>match cL h n with
  | some xs=>match f xs ps with
   | some (r,ys)=>.ok r (h.set n (.lst ys))
   | none=>.bad
  | none=>.bad
 | _=>.bad
theorem KR {f:List PV->List PV->Option (PV×List PV)} {x:V} {xs:List V} {H:Hp} {Q:VK} (h:rM C (onL f) x xs H Q):∃ φ l ps ys vs r zs,x=.ref l/\H l=some (.lst vs)/\RVs C φ H ys vs/\RVs C φ H ps xs/\f ys ps=some (r,zs)/\
  ∀ (v:V) (ws:List V),RV C φ H r v->RVs C φ H zs ws->Q v (upd H l (.lst ws)):=by
 obtain ⟨φ,h,p,ps,rh,rx,rs,po⟩:=h
 unfold onL at po
 cases p with
 | ref n=>
  obtain ⟨a,rfl,ha⟩:=rx
  dsimp only at po
  cases e:cL h n with
  | none=>rw [e] at po; exact po.elim
  | some ys=>
   rw [e] at po
   dsimp only at po
   obtain ⟨vs,hH,ra⟩:=rh.at' n a _ ha (fD e)
   cases ef:f ys ps with
   | none=>rw [ef] at po; exact po.elim
   | some rz=>
    rw [ef] at po
    obtain ⟨r,zs⟩:=rz
    exact ⟨φ,a,ps,ys,vs,r,zs,rfl,hH,ra,rs,ef,fun v ws rv rw'=>po.lset rh ha hH rw' rv⟩
 | _=>exact po.elim
def cR:List PV->List PV->Option (PV×List PV):=fun xs ps=>match ps with
 | [p]=>if xs.length < sizeLine then some (.non,xs++[p]) else none
 | _=>none
theorem Dg:MtR X "list.append" (rM C (onL cR)):=MtR.imp (show MtR X "list.append" BX from tI) fun x xs H Q h=>by
 obtain ⟨φ,l,ps,ys,vs,r,zs,rfl,hH,ra,rs,ef,q⟩:=KR h
 unfold cR at ef
 split at ef
 ·split at ef
  ·rename_i hz
   cases ef
   obtain ⟨v,rfl,rx⟩:=rs.one
   exact ⟨l,vs,v,rfl,rfl,hH,by rw [<- ra.length]; exact hz,q .non _ rfl (ra.snoc rx)⟩
  ·cases ef
 ·cases ef
theorem lE:MtS C k X "list" isL "list.append" (onL cR):=fun c=>⟨Dg,fun φ H h p x rh rv e=>F9 rh rv e⟩
def MK (K:PySem.W.Frag):R2:=fun x y H Q=>∃ a b ys,x=.ref a/\y=.ref b/\SqT K H a []/\SqT K H b ys/\Q (.ref b) H
theorem I0:OpR X (binaryOp .Add) (MK X.K):=by
 intro pins s σ H x y v u Q I rx ry h
 obtain ⟨a,b,ys,rfl,rfl,ha,hb,q⟩:=h
 cases rx
 cases ry
 obtain ⟨its,r1,p1,_⟩:=I.tuple ha
 obtain ⟨its2,r2,p2,_⟩:=I.tuple hb
 cases r1
 obtain ⟨⟨cls,dd,data,sl⟩,ho,hc,n,hd⟩:=id p1
 obtain ⟨⟨cls2,dd2,data2,sl2⟩,ho2,hc2,n2,hd2⟩:=id p2
 simp only at hc hd hc2 hd2
 subst hc hd hc2 hd2
 exact concat_meets ⟨_,ho,rfl⟩ ⟨_,ho2,rfl⟩ noFill_tuple_add seq_tuple_add PySem.F.slot_tuple_add PySem.F.entry_tuple_add (PySem.F.args_tuple_add_2 _ _)
   (tuple_addW0 a b ([]:List Value).toArray its2.toArray n n2 dd dd2 sl sl2 (by simp)) ⟨ho,ho2,⟨.ref b,H,I,rfl,q⟩⟩
def bM:PV->PV->PH->Rs PV:=fun x y h=>match x,y with
 | .tup [],.tup ys=>.ok (.tup ys) h
 | x,y=>EU x y h
theorem bS:OpS C k X (binaryOp .Add) bM:=fun c=>((Mz c).or (by have:=I0 (X:=X); rw [c.K] at this; exact this)).imp fun x y H Q h=>by
 obtain ⟨φ,h,p,q,rh,rx,ry,po⟩:=h
 unfold bM at po
 split at po
 ·obtain ⟨a,vs,rfl,sa,ra⟩:=rx
  obtain ⟨b,us,rfl,sb,rb⟩:=ry
  have:vs=[]:=by cases vs <;> first | rfl | exact ra.elim
  subst this
  exact .inr ⟨a,b,us,rfl,rfl,sa,sb,po.val rh ⟨b,us,rfl,sb,rb⟩⟩
 ·exact .inl ⟨φ,h,p,q,rh,rx,ry,po⟩
end L2
set_option Elab.async false
set_option linter.all false
set_option maxRecDepth 100000
namespace L2
open PySem PySem.Spec PyProof.Rows
variable {C:MC} {k:Nat} {X:Cx}
theorem JB:UnS C k X (unaryOp .USub) Dc:=fun c=>by
 have h:UnR X (unaryOp .USub) (rU fun i=>.int (-i)):=K7
 intro pins s σ H x v Q I rx q
 refine h pins s σ H x v Q I rx ?_
 obtain ⟨φ,h,p,rh,rv,po⟩:=q
 unfold Dc at po
 cases p with
 | int i=>cases rv; exact ⟨i,rfl,po.val rh rfl⟩
 | _=>exact po.elim
end L2
set_option Elab.async false
set_option linter.all false
set_option maxRecDepth 100000
namespace L2
open PySem
@[irreducible] def Rs.W {α:Type} (r:Rs α) (Q:α->PH->Prop):Prop:=match r with
 | .ok a h=>Q a h
 | _=>False
structure FE where
 nx:Ev->PH->Prop
 rt:PV->PH->Prop
 bk:Ev->PH->Prop:=fun _ _=>False
 ct:Ev->PH->Prop:=fun _ _=>False
@[irreducible] def Fl.W (r:Fl) (E:FE):Prop:=match r with
 | .nx δ h=>E.nx δ h
 | .rt p h=>E.rt p h
 | .bk δ h=>E.bk δ h
 | .ct δ h=>E.ct δ h
 | _=>False
@[irreducible] def Lt (b:Ms) (E:FE) (δ:Ev) (h:PH):Prop:=(b δ h).W E
section
unseal Rs.W Fl.W Lt
variable {α β:Type} {Q:α->PH->Prop} {E:FE} {δ:Ev} {h:PH}
@[simp] theorem qQ {a:α}:(Rs.ok a h).W Q=Q a h:=(rfl)
@[simp] theorem P7:(Fl.nx δ h).W E=E.nx δ h:=(rfl)
@[simp] theorem P8 {p:PV}:(Fl.rt p h).W E=E.rt p h:=(rfl)
@[simp] theorem P9:(Fl.bk δ h).W E=E.bk δ h:=(rfl)
@[simp] theorem P':(Fl.ct δ h).W E=E.ct δ h:=(rfl)
@[simp] theorem wL {Q:β->PH->Prop} {r:Rs α} {f:α->PH->Rs β}:(r.bind f).W Q=r.W fun a h=>(f a h).W Q:=by cases r <;> rfl
@[simp] theorem Ia {r:Rs α} {f:α->PH->Fl}:(r.fl f).W E=r.W fun a h=>(f a h).W E:=by cases r <;> rfl
theorem Fb {Q':α->PH->Prop} {r:Rs α} (h:r.W Q) (i:∀ a h,Q a h->Q' a h):r.W Q':=by cases r <;> first | exact i _ _ h | exact h
@[simp] theorem OS {c:Prop} [Decidable c] {x y:Rs α}:(if c then x else y).W Q=if c then x.W Q else y.W Q:=by split <;> rfl
@[simp] theorem OT:(Rs.bad:Rs α).W Q=False:=(rfl)
@[simp] theorem Oy:Fl.bad.W E=False:=(rfl)
theorem KS {r:Rs α} (w:r.W Q):∃ a h,r=.ok a h/\Q a h:=by
 cases r with
 | ok a h=>exact ⟨a,h,rfl,w⟩
 | exc=>exact w.elim
 | bad=>exact w.elim
variable {a b:Ms} {m ma mb mc:Me} {t ta tb:Ev->PH->Rs Bool} {g g':PV->PV->PH->Rs PV}
theorem aO:(aV a b δ h).W E=(a δ h).W { E with nx:=Lt b E }:=by
 show (match a δ h with | .nx δ1 h1=>b δ1 h1 | r=>r).W E=_
 cases a δ h <;> rfl
theorem now {b:Ms} (w:(b δ h).W E):Lt b E δ h:=w
@[simp] theorem OU:(nF δ h).W E=E.nx δ h:=(rfl)
@[simp] theorem OV:(Ow δ h).W E=E.bk δ h:=(rfl)
@[simp] theorem OW:(Ox δ h).W E=E.ct δ h:=(rfl)
@[simp] theorem uC {i:Nat}:(bQ i m δ h).W E=(m δ h).W fun p h=>E.nx (δ.set i (some p)) h:=by simp [bQ]
@[simp] theorem OX {t:Mg}:(F5 m t δ h).W E=(m δ h).W fun p h=>∃ δ',t p δ=some δ'/\E.nx δ' h:=by
 unfold F5
 cases m δ h with
 | ok p h1=>
  show (match t p δ with | some δ'=>Fl.nx δ' h1 | none=>.bad).W E=∃ δ',t p δ=some δ'/\E.nx δ' h1
  cases t p δ <;> simp [Fl.W]
 | exc=>rfl
 | bad=>rfl
@[simp] theorem OY:(zH m δ h).W E=(m δ h).W fun _ h=>E.nx δ h:=by simp [zH]
@[simp] theorem zI:(cK m δ h).W E=(m δ h).W E.rt:=by simp [cK]
@[simp] theorem Oz:(MH δ h).W E=E.rt .non h:=(rfl)
@[simp] theorem hW:(kH t a b δ h).W E=(t δ h).W fun c h=>if c=true then (a δ h).W E else (b δ h).W E:=by
 unfold kH
 rw [Ia]
 congr
 funext c h
 cases c <;> simp
@[simp] theorem ML {i:Nat}:mV i δ h=match wG δ i with | some p=>.ok p h | none=>.bad:=(rfl)
@[simp] theorem OZ {p:PV}:mC p δ h=.ok p h:=(rfl)
@[simp] theorem Ib:aD g ma mb δ h=(ma δ h).bind fun x h1=>(mb δ h1).bind fun y h2=>g x y h2:=(rfl)
@[simp] theorem KU {g:PV->PH->Rs PV}:mUn g ma δ h=(ma δ h).bind g:=(rfl)
@[simp] theorem NH:cE m δ h=(m δ h).bind tru:=(rfl)
@[simp] theorem MM:zG t δ h=(t δ h).bind fun b h1=>.ok (!b) h1:=(rfl)
@[simp] theorem MN:qN ta tb δ h=(ta δ h).bind fun b h1=>if b=true then tb δ h1 else .ok false h1:=by
 unfold qN; congr 1; funext b h1; cases b <;> simp
@[simp] theorem NI:F0 ta tb δ h=(ta δ h).bind fun b h1=>if b=true then .ok true h1 else tb δ h1:=by
 unfold F0; congr 1; funext b h1; cases b <;> simp
@[simp] theorem OA:mIf t ma mb δ h=(t δ h).bind fun b h1=>if b=true then ma δ h1 else mb δ h1:=by
 unfold mIf; congr 1; funext b h1; cases b <;> simp
def bl2 (x:PV) (f g:Rs PV):Rs PV:=match x with
 | .bl true=>f
 | .bl false=>g
 | _=>.bad
@[simp] theorem OB {b:Bool} {f g:Rs PV}:bl2 (.bl b) f g=if b=true then f else g:=by cases b <;> simp [bl2]
@[simp] theorem MP:oB ma mb δ h=(ma δ h).bind fun x h1=>bl2 x (mb δ h1) (.ok (.bl false) h1):=by
 unfold oB; first | rfl | (congr 1; funext x h1; cases x <;> first | rfl | (rename_i b; cases b <;> rfl))
@[simp] theorem MQ {b:Bool}:Jx (.bl b) h=.ok (.bl b) h:=(rfl)
@[simp] theorem NJ {ms:Ma}:eP ms δ h=(ms δ h).bind fun xs h1=>if xs.length<=sizeLine then .ok (.tup xs) h1 else .bad:=(rfl)
@[simp] theorem Ic {ms:Ma}:kG ms δ h=(ms δ h).bind fun xs h1=>if xs.length<=sizeLine then .ok (.ref h1.length) (h1++[.lst xs]) else .bad:=(rfl)
@[simp] theorem LA:KJ δ h=.ok (.ref h.length) (h++[.dK []]):=(rfl)
@[simp] theorem pC:aI δ h=.ok [] h:=(rfl)
@[simp] theorem eK {ms:Ma}:aB m ms δ h=(m δ h).bind fun x h1=>(ms δ h1).bind fun xs h2=>.ok (x :: xs) h2:=(rfl)
@[simp] theorem qR {g:List PV->PH->Rs PV} {ms:Ma}:mCB g ms δ h=(ms δ h).bind g:=(rfl)
@[simp] theorem Fc {n:Nat} {f:Fn} {ms:Ma}:bP n f ms δ h=(ms δ h).bind fun ps h1=>if ps.length=n then f ps h1 else .bad:=(rfl)
@[simp] theorem NK:HW δ h=.ok none h:=(rfl)
def Fd (x:PV) (h:PH):Rs (Option Int):=match x with
 | .int i=>.ok (some i) h
 | _=>.bad
@[simp] theorem KW {i:Int}:Fd (.int i) h=.ok (some i) h:=(rfl)
@[simp] theorem P0:mP m δ h=(m δ h).bind Fd:=(rfl)
@[simp] theorem KY {ml mh:Mo}:mSl m ml mh δ h=(m δ h).bind fun x h1=>(ml δ h1).bind fun l h2=>(mh δ h2).bind fun u h3=>vSl x l u h3:=(rfl)
@[simp] theorem OC {ty:PV->PH->Bool} {g:PV->List PV->PH->Rs PV} {ms:Ma}:mMt ty g m ms δ h=(m δ h).bind fun x h1=>if ty x h1=true then (ms δ h1).bind fun ps h2=>g x ps h2 else .bad:=(rfl)
@[simp] theorem Ie {ty:PV->PH->Bool} {g:PV->List PV->PH->Rs PV}:KQ ty g m δ h=(m δ h).bind fun x h1=>if ty x h1=true then g x [] h1 else .bad:=(rfl)
@[simp] theorem Ig:sizeLine=16777216:=by rw [sizeLine_eq]
theorem Ih {i j:Int} {h:PH} (c:(-18446744073709551616 < i/\i < 18446744073709551616)\/(-18446744073709551616 < j/\j < 18446744073709551616)):Da (.int i) (.int j) h=.ok (.int (i*j)) h:=by
 show (if yO i j then _ else _)=_
 exact if_pos c
@[simp] theorem MR {i j:Int} (c:(-18446744073709551616 < i/\i < 18446744073709551616)\/(-18446744073709551616 < j/\j < 18446744073709551616)):vInt yO (fun i j=>i*j) (.int i) (.int j) h=.ok (.int (i*j)) h:=Ih c
@[simp] theorem NL {i j:Int} (c:0 < j/\j < 1073741824):vInt Er (fun i j=>i / j) (.int i) (.int j) h=.ok (.int (i / j)) h:=if_pos c
@[simp] theorem NM {i j:Int} (c:0 < j):vInt (fun _ j=>0 < j) (fun i j=>i % j) (.int i) (.int j) h=.ok (.int (i % j)) h:=if_pos c
@[simp] theorem NN {i j:Int} (c:0<=j/\j<=1000000/\-18446744073709551616 < i/\i < 18446744073709551616):vInt CH (fun i j=>i ^ j.toNat) (.int i) (.int j) h=.ok (.int (i ^ j.toNat)) h:=by
 show (if CH i j then _ else _)=_
 refine if_pos ⟨c.1,c.2.1,?_⟩
 obtain ⟨_,_,h1,h2⟩:=c
 omega
@[simp] theorem NO {i j:Int}:AZ (.int i) (.int j) h=.ok (.int (i - j)) h:=(rfl)
@[simp] theorem NP {i:Int}:Dc (.int i) h=.ok (.int (-i)) h:=(rfl)
@[simp] theorem LB {i j:Int}:bM (.int i) (.int j) h=.ok (.int (i+j)) h:=(rfl)
@[simp] theorem uD {x y:Str} (c:x.length+y.length<=16777216):bM (.str x) (.str y) h=.ok (.str (x++y)) h:=if_pos c
@[simp] theorem MS {f:Int->Int->Bool} {g:List Nat->List Nat->Bool} {i j:Int}:zF f g (.int i) (.int j) h=.ok (.bl (f i j)) h:=(rfl)
@[simp] theorem MT {f:Int->Int->Bool} {g:List Nat->List Nat->Bool} {i j:Str}:zF f g (.str i) (.str j) h=.ok (.bl (g i.cps.toList j.cps.toList)) h:=(rfl)
@[simp] theorem OD {b:Bool}:tru (.bl b) h=.ok b h:=(rfl)
@[simp] theorem NQ:tru .non h=.ok false h:=(rfl)
@[simp] theorem NR {i:Int}:tru (.int i) h=.ok (i != 0) h:=(rfl)
@[simp] theorem NS {xs:List PV}:tru (.tup xs) h=.ok (!xs.isEmpty) h:=(rfl)
@[simp] theorem MU {p:PV}:ofO (some p) h=.ok p h:=(rfl)
@[simp] theorem MV {b:Bool}:ofB (some b) h=.ok (.bl b) h:=(rfl)
@[simp] theorem NT {xs:List PV} {i:Int}:vIx (.tup xs) (.int i) h=ofO (atI xs i) h:=(rfl)
@[simp] theorem OE {xs:List PV} {i:Int}:vIx (.fl xs) (.int i) h=ofO (atI xs i) h:=(rfl)
theorem bY {n:Nat} {xs:List PV} {i:Int} (e:h[n]?=some (.lst xs)):vIx (.ref n) (.int i) h=ofO (atI xs i) h:=by simp [vIx,aM,e]
@[simp] theorem Ii {z:Str} {i:Int} (c:z.length<=16777216):vIx (.str z) (.int i) h=ofO ((atI z.cps.toList i).map fun c=>.str ⟨#[c]⟩) h:=if_pos c
@[simp] theorem MW {xs:List PV}:eQ [.tup xs] h=.ok (.int xs.length) h:=(rfl)
@[simp] theorem NU {xs:List PV}:eQ [.fl xs] h=.ok (.int xs.length) h:=(rfl)
theorem fJ {n:Nat} {xs:List PV} (e:h[n]?=some (.lst xs)):eQ [.ref n] h=.ok (.int xs.length) h:=by simp [eQ,aM,e]
@[simp] theorem NV {i j:Int}:HZ [.int i,.int j] h=.ok (.int (if j < i then j else i)) h:=(rfl)
@[simp] theorem NW {i j:Int}:HX [.int i,.int j] h=.ok (.int (if j > i then j else i)) h:=(rfl)
@[simp] theorem MX {i:Int} {c:String}:wK [.int i,.ty c] h=if c∈known then .ok (.bl (iK "int" c)) h else .bad:=(rfl)
@[simp] theorem MY {i:Str} {c:String}:wK [.str i,.ty c] h=if c∈known then .ok (.bl (iK "str" c)) h else .bad:=(rfl)
@[simp] theorem NX {i:Bool} {c:String}:wK [.bl i,.ty c] h=if c∈known then .ok (.bl (iK "bool" c)) h else .bad:=(rfl)
@[simp] theorem MZ {i:List PV} {c:String}:wK [.tup i,.ty c] h=if c∈known then .ok (.bl (iK "tuple" c)) h else .bad:=(rfl)
theorem jC {n:Nat} {xs:List PV} (e:h[n]?=some (.lst xs)):isL (.ref n) h=true:=by simp [isL,cL,e]
theorem gI {n:Nat} {xs:List PV} {p:PV} (e:h[n]?=some (.lst xs)) (c:xs.length < 16777216):onL cR (.ref n) [p] h=.ok .non (h.set n (.lst (xs++[p]))):=by simp [onL,cL,e,cR,c]
theorem Ij {α:Type} {xs:List α} {i:Int} (h0:0<=i) (h1:i < xs.length):atI xs i=xs[i.toNat]?:=by
 unfold atI ixN
 rw [if_pos h0,if_pos h1]; rfl
theorem wM {g:PH->Bool} {tg:Mg} {body:Ms} {E:FE} (I:Nat->Ev->PH->Prop):∀ (xs:List PV) (k:Nat) (δ:Ev) (h:PH),I k δ h->
  (∀ i x δ h,k<=i->xs[i - k]?=some x->I i δ h->g h=true/\∃ δ1,tg x δ=some δ1/\(body δ1 h).W { nx:=I (i+1),ct:=I (i+1),rt:=E.rt,bk:=E.nx })->
  (∀ δ h,I (k+xs.length) δ h->g h=true/\E.nx δ h)->(eJ g tg body xs δ h).W E
 | [],k,δ,h,i0,_,fin=>by
  obtain ⟨h1,h2⟩:=fin δ h i0
  simp [eJ,h1,h2]
 | x :: xs,k,δ,h,i0,step,fin=>by
  obtain ⟨h1,δ1,h2,h3⟩:=step k x δ h (Nat.le_refl _) (by simp) i0
  have go:∀ δ2 h2,I (k+1) δ2 h2->(eJ g tg body xs δ2 h2).W E:=fun δ2 h2 i2=>
   wM I xs (k+1) δ2 h2 i2 (fun i y δ h hk hy=>step i y δ h (by omega) (by
    have:i - k=(i - (k+1))+1:=by omega
    rw [this,List.getElem?_cons_succ]; exact hy)) (fun δ h hi=>fin δ h (by
    have e:k+(x :: xs).length=k+1+xs.length:=by simp; omega
    rw [e]; exact hi))
  unfold eJ
  rw [if_pos h1,h2]
  show Fl.W (match body δ1 h with | .nx δ2 h2=>eJ g tg body xs δ2 h2 | .ct δ2 h2=>eJ g tg body xs δ2 h2 | .bk δ2 h2=>.nx δ2 h2 | r=>r) E
  cases e:body δ1 h with
  | nx δ2 h2=>rw [e] at h3; exact go δ2 h2 h3
  | ct δ2 h2=>rw [e] at h3; exact go δ2 h2 h3
  | bk δ2 h2=>rw [e] at h3; exact h3
  | rt p h2=>rw [e] at h3; exact h3
  | exc=>rw [e] at h3; exact h3
  | bad=>rw [e] at h3; exact h3
theorem Fe {ms:Ma} {i:Nat} {body:Ms} {j:Int} (I:Nat->Ev->PH->Prop) (e:ms δ h=.ok [.int j] h) (hj:-4611686018427387904<=j/\j < 4611686018427387904) (h0:I 0 δ h)
  (step:∀ (q:Nat) δ h,(q:Int) < j->I q δ h->(body (δ.set i (some (.int q))) h).W { nx:=I (q+1),ct:=I (q+1),rt:=E.rt,bk:=E.nx })
  (fin:∀ δ h,I j.toNat δ h->E.nx δ h):(jQ (hU ms) (gN i) body δ h).W E:=by
 unfold jQ hU
 rw [e]
 have hj':-(2 ^ 62)<=j/\j < 2 ^ 62:=hj
 simp only [Rs.bind_ok,Cb,if_pos hj',Rs.fl_ok]
 refine wM I _ 0 δ h h0 (fun q x δ h _ hx hi=>?_) (fun δ h hi=>⟨rfl,fin δ h (by rw [dN,Nat.zero_add] at hi; exact hi)⟩)
 have hq:q < j.toNat:=by
  have:=(List.getElem?_eq_some_iff.mp hx).1
  rw [dN] at this
  omega
 rw [Nat.sub_zero,qO _ _ _ hq] at hx
 cases hx
 refine ⟨rfl,_,rfl,?_⟩
 rw [Int.zero_add]
 exact step q δ h (by omega) hi
theorem KZ {m:Me} {tg:Mg} {body:Ms} {xs:List PV} (I:Nat->Ev->PH->Prop) (e:m δ h=.ok (.tup xs) h\/m δ h=.ok (.fl xs) h) (h0:I 0 δ h)
  (step:∀ (q:Nat) x δ h,xs[q]?=some x->I q δ h->∃ δ1,tg x δ=some δ1/\(body δ1 h).W { nx:=I (q+1),ct:=I (q+1),rt:=E.rt,bk:=E.nx })
  (fin:∀ δ h,I xs.length δ h->E.nx δ h):(jQ (bR m) tg body δ h).W E:=by
 have go:(eJ (fun _=>true) tg body xs δ h).W E:=wM I _ 0 δ h h0 (fun q x δ h _ hx hi=>⟨rfl,step q x δ h (by simpa using hx) hi⟩) (fun δ h hi=>⟨rfl,fin δ h (by simpa using hi)⟩)
 unfold jQ bR
 rcases e with e | e <;> rw [e] <;> exact go
theorem qS {m:Me} {tg:Mg} {body:Ms} {n:Nat} {xs:List PV} {h1:PH} (I:Nat->Ev->PH->Prop) (e:m δ h=.ok (.ref n) h1) (hn:h1[n]?=some (.lst xs)) (h0:I 0 δ h1)
  (keep:∀ q δ h,q<=xs.length->I q δ h->h[n]?=some (.lst xs))
  (step:∀ (q:Nat) x δ h,xs[q]?=some x->I q δ h->∃ δ1,tg x δ=some δ1/\(body δ1 h).W { nx:=I (q+1),ct:=I (q+1),rt:=E.rt,bk:=E.nx })
  (fin:∀ δ h,I xs.length δ h->E.nx δ h):(jQ (bR m) tg body δ h).W E:=by
 have hk:∀ {h:PH},h[n]?=some (.lst xs)->jP n xs h=true:=fun {h} e=>by
  have e3:aM h n=some xs:=by unfold aM; rw [e]
  unfold jP; rw [e3]; exact PV.beqs_self xs
 unfold jQ bR
 rw [e]
 have e2:ofSeq (.ref n) h1=.ok ⟨xs,jP n xs⟩ h1:=by
  have e3:aM h1 n=some xs:=by unfold aM; rw [hn]
  unfold ofSeq; simp only [e3]
 rw [Rs.bind_ok,e2,Rs.fl_ok]
 refine wM I _ 0 δ h1 h0 (fun q x δ h _ hx hi=>?_) (fun δ h hi=>?_)
 ·have hx':xs[q]?=some x:=by simpa using hx
  have:=(List.getElem?_eq_some_iff.mp hx').1
  exact ⟨hk (keep q δ h (by omega) hi),step q x δ h hx' hi⟩
 ·have hi':I xs.length δ h:=by simpa using hi
  exact ⟨hk (keep _ δ h (Nat.le_refl _) hi'),fin δ h hi'⟩
theorem jR {N:Nat} {body:Ms} {args:List PV} {Q:PV->PH->Prop} (w:(body (args.map some++List.replicate (N - args.length) none) h).W { nx:=fun _ h=>Q .non h,rt:=Q }):(mFn N body args h).W Q:=by
 unfold mFn
 cases e:body (args.map some++List.replicate (N - args.length) none) h with
 | nx δ h'=>rw [e] at w; exact w
 | rt p h'=>rw [e] at w; exact w
 | _=>rw [e] at w; exact w.elim
@[simp] theorem P1 {i:Nat} {p:PV}:gN i p δ=some (δ.set i (some p)):=(rfl)
@[simp] theorem OF {n:Nat} {u:Mgs} {ps:List PV}:gTp n u (.tup ps) δ=if ps.length=n then u ps δ else none:=(rfl)
@[simp] theorem OG {t:Mg} {u:Mgs} {p:PV} {r:List PV}:gCn t u (p :: r) δ=(t p δ).bind (u r):=(rfl)
@[simp] theorem OH:gNl [] δ=some δ:=(rfl)
end
def Ext (h h':PH):Prop:=∀ (n:Nat) (o:MO),h[n]?=some o->h'[n]?=some o
theorem Ext.refl (h:PH):Ext h h:=fun _ _ e=>e
theorem Ext.trans {h h1 h2:PH} (a:Ext h h1) (b:Ext h1 h2):Ext h h2:=fun n o e=>b n o (a n o e)
theorem Ext.app (h g:PH):Ext h (h++g):=fun n o e=>by
 rw [List.getElem?_append_left (List.getElem?_eq_some_iff.mp e).1]; exact e
theorem Ext.len {h h':PH} (e:Ext h h'):h.length<=h'.length:=by
 rcases Nat.lt_or_ge h'.length h.length with z | z
 ·have:h[h'.length]?=some h[h'.length]:=by simp [z]
  have:=(List.getElem?_eq_some_iff.mp (e _ _ this)).1
  omega
 ·exact z
theorem aL {h:PH} {o:MO}:(h++[o])[h.length]?=some o:=by simp
theorem gJ {h:PH} {n:Nat} {o o':MO} (e:h[n]?=some o):(h.set n o')[n]?=some o':=List.getElem?_set_self (List.getElem?_eq_some_iff.mp e).1
end L2
set_option Elab.async false
set_option linter.all false
set_option maxRecDepth 100000
namespace L2
open PySem
def PV.pl:Nat->PV->Bool
 | _,.non=>true
 | _,.int _=>true
 | _,.str _=>true
 | n+1,.tup xs=>xs.all (PV.pl n)
 | _,_=>false
theorem Ik {x:PV} {xs:List PV} {d:D} {ds:List D} (h1:x.d=some d) (h2:PV.ds xs=some ds):PV.ds (x :: xs)=some (d :: ds):=by simp [PV.ds,h1,h2]
theorem N0 {xs:List PV} {ds:List D} (h:PV.ds xs=some ds):(PV.tup xs).d=some (.tup ds):=by simp [PV.d,h]
theorem cW {xs:List PV} {d:D} (h:(PV.tup xs).d=some d):∃ ds,PV.ds xs=some ds/\d=.tup ds:=by
 unfold PV.d at h
 split at h
 ·rename_i ds e; cases h; exact ⟨ds,e,rfl⟩
 ·cases h
theorem iL {x:PV} {xs:List PV} {ds:List D} (h:PV.ds (x :: xs)=some ds):∃ d r,x.d=some d/\PV.ds xs=some r/\ds=d :: r:=by
 unfold PV.ds at h
 split at h
 ·rename_i d r e1 e2; cases h; exact ⟨d,r,e1,e2,rfl⟩
 ·cases h
theorem wN:∀ (n:Nat) (x:PV),x.pl n=true->∃ d,x.d=some d/\d.depth<=n:=by
 intro n
 induction n with
 | zero=>
  intro x h
  cases x <;> first | exact ⟨_,rfl,Nat.le_refl _⟩ | (simp [PV.pl] at h)
 | succ n ih=>
  intro x h
  cases x with
  | tup xs=>
   have h:xs.all (PV.pl n)=true:=h
   have many:∀ (xs:List PV),xs.all (PV.pl n)=true->∃ ds,PV.ds xs=some ds/\D.depths ds<=n:=by
    intro xs
    induction xs with
    | nil=>intro _; exact ⟨[],rfl,Nat.zero_le _⟩
    | cons x xs ihx=>
     intro h
     simp only [List.all_cons,Bool.and_eq_true] at h
     obtain ⟨d,h1,h2⟩:=ih x h.1
     obtain ⟨ds,h3,h4⟩:=ihx h.2
     refine ⟨d :: ds,Ik h1 h3,?_⟩
     show max d.depth (D.depths ds)<=n
     omega
   obtain ⟨ds,h1,h2⟩:=many xs h
   refine ⟨.tup ds,N0 h1,?_⟩
   show D.depths ds+1<=n+1
   omega
  | _=>first | exact ⟨_,rfl,Nat.zero_le _⟩ | (simp [PV.pl] at h)
theorem JC:∀ (n:Nat) (x y:PV) (d e:D),x.pl n=true->y.pl n=true->x.d=some d->y.d=some e->eqD d e=decide (x=y):=by
 intro n
 induction n with
 | zero=>
  intro x y d e hx hy h1 h2
  cases x <;> first | (simp [PV.pl] at hx; done) | skip
  all_goals cases h1
  all_goals cases y <;> first | (simp [PV.pl] at hy; done) | skip
  all_goals cases h2
  all_goals simp only [eqD]
  all_goals rw [Bool.eq_iff_iff]
  all_goals simp
 | succ n ih=>
  intro x y d e hx hy h1 h2
  have lists:∀ (xs ys:List PV) (ds es:List D),xs.all (PV.pl n)=true->ys.all (PV.pl n)=true->PV.ds xs=some ds->PV.ds ys=some es->cT ds es=decide (xs=ys):=by
   intro xs
   induction xs with
   | nil=>
    intro ys ds es _ _ h1 h2
    cases h1
    cases ys with
    | nil=>cases h2; rfl
    | cons y ys=>obtain ⟨d,r,_,_,rfl⟩:=iL h2; simp [cT]
   | cons x xs ihx=>
    intro ys ds es hx hy h1 h2
    obtain ⟨d,r,g1,g2,rfl⟩:=iL h1
    simp only [List.all_cons,Bool.and_eq_true] at hx
    cases ys with
    | nil=>cases h2; simp [cT]
    | cons y ys=>
     obtain ⟨e,q,g3,g4,rfl⟩:=iL h2
     simp only [List.all_cons,Bool.and_eq_true] at hy
     simp only [cT,ih x y d e hx.1 hy.1 g1 g3,ihx ys r q hx.2 hy.2 g2 g4]
     rw [Bool.eq_iff_iff]
     simp
  cases x with
  | tup xs=>
   obtain ⟨ds,g1,rfl⟩:=cW h1
   cases y with
   | tup ys=>
    obtain ⟨es,g2,rfl⟩:=cW h2
    simp only [eqD,lists xs ys ds es hx hy g1 g2]
    rw [Bool.eq_iff_iff]
    simp
   | non=>cases h2; simp [eqD]
   | int j=>cases h2; simp [eqD]
   | str j=>cases h2; simp [eqD]
   | _=>simp [PV.pl] at hy
  | non=>
   cases h1
   cases y with
   | tup ys=>obtain ⟨es,g2,rfl⟩:=cW h2; simp [eqD]
   | non=>cases h2; simp [eqD]
   | int j=>cases h2; simp [eqD]
   | str j=>cases h2; simp [eqD]
   | _=>simp [PV.pl] at hy
  | int i=>
   cases h1
   cases y with
   | tup ys=>obtain ⟨es,g2,rfl⟩:=cW h2; simp [eqD]
   | non=>cases h2; simp [eqD]
   | int j=>cases h2; simp only [eqD]; rw [Bool.eq_iff_iff]; simp
   | str j=>cases h2; simp [eqD]
   | _=>simp [PV.pl] at hy
  | str i=>
   cases h1
   cases y with
   | tup ys=>obtain ⟨es,g2,rfl⟩:=cW h2; simp [eqD]
   | non=>cases h2; simp [eqD]
   | int j=>cases h2; simp [eqD]
   | str j=>cases h2; simp only [eqD]; rw [Bool.eq_iff_iff]; simp
   | _=>simp [PV.pl] at hy
  | _=>simp [PV.pl] at hx
section
variable {x y:PV} {h:PH}
theorem Ce (hx:x.pl 40=true) (hy:y.pl 40=true):fZ x y h=some (decide (x=y)):=by
 obtain ⟨d,h1,h2⟩:=wN 40 x hx
 obtain ⟨e,h3,h4⟩:=wN 40 y hy
 unfold fZ
 rw [h1,h3]
 simp only [h2,if_true,JC 40 x y d e hx hy h1 h3]
theorem B3 (hx:x.pl 40=true) (hy:y.pl 40=true):vEq x y h=.ok (.bl (decide (x=y))) h:=by unfold vEq; rw [Ce hx hy]; rfl
theorem L0 (hx:x.pl 40=true) (hy:y.pl 40=true):vNe x y h=.ok (.bl (!decide (x=y))) h:=by unfold vNe; rw [Ce hx hy]; rfl
@[simp] theorem NY {i j:Int}:vEq (.int i) (.int j) h=.ok (.bl (decide (i=j))) h:=by rw [B3 rfl rfl]; congr 2; simp
@[simp] theorem NZ {i j:Str}:vEq (.str i) (.str j) h=.ok (.bl (decide (i=j))) h:=by rw [B3 rfl rfl]; congr 2; simp
theorem zJ {n m:Nat} {xs ys:List PV} (e1:h[n]?=some (.lst xs)) (e2:h[m]?=some (.lst ys)) (hx:xs.all (PV.pl 39)=true) (hy:ys.all (PV.pl 39)=true):fZ (.ref n) (.ref m) h=some (decide (xs=ys)):=by
 have e3:cP (.ref n) h=some xs:=by unfold cP aM; simp only [e1]
 have e4:cP (.ref m) h=some ys:=by unfold cP aM; simp only [e2]
 have hx':(PV.tup xs).pl 40=true:=hx
 have hy':(PV.tup ys).pl 40=true:=hy
 obtain ⟨d,h1,h2⟩:=wN 40 _ hx'
 obtain ⟨e,h3,h4⟩:=wN 40 _ hy'
 obtain ⟨ds,g1,rfl⟩:=cW h1
 obtain ⟨es,g2,rfl⟩:=cW h3
 have h5:=JC 40 _ _ _ _ hx' hy' h1 h3
 have h2':D.depths ds+1<=40:=h2
 have h5':cT ds es=decide (xs=ys):=by
  have:cT ds es=decide (PV.tup xs=PV.tup ys):=h5
  rw [this,Bool.eq_iff_iff]; simp
 unfold fZ
 have n1:(PV.ref n).d=none:=rfl
 rw [n1]
 simp only [e3,e4,g1,g2,show D.depths ds<=40 by omega,if_true,h5']
theorem wO {n m:Nat} {xs ys:List PV} (e1:h[n]?=some (.lst xs)) (e2:h[m]?=some (.lst ys)) (hx:xs.all (PV.pl 39)=true) (hy:ys.all (PV.pl 39)=true):vEq (.ref n) (.ref m) h=.ok (.bl (decide (xs=ys))) h:=by unfold vEq; rw [zJ e1 e2 hx hy]; rfl
end
end L2
namespace L2
section
variable {α:Type} {a b c d e f g:α} {r:List α}
theorem wQ {xs:List α} {v:α} (i:Nat) (h:xs[i]?=some v):atI xs (i:Int)=some v:=cO h
@[simp] theorem Pa:atI (a :: r) 0=some a:=wQ 0 rfl
@[simp] theorem Pb:atI (a :: b :: r) 1=some b:=wQ 1 rfl
@[simp] theorem Pc:atI (a :: b :: c :: r) 2=some c:=wQ 2 rfl
theorem Il {xs:List α} {i:Int} (h:xs≠[]):∃ v,atI xs (i % (xs.length:Int))=some v/\v∈xs:=by
 have h0:0 < xs.length:=List.length_pos_iff.mpr h
 obtain ⟨v,h1,h2⟩:=Ks (xs:=xs) (i:=i % (xs.length:Int)) (Int.emod_nonneg _ (by omega)) (Int.emod_lt_of_pos _ (by omega))
 exact ⟨v,h1,List.mem_of_getElem? h2⟩
end
end L2
namespace L2
theorem Ff {x:PV} (hx:x.pl 40=true) (h:PH):vNe x x h=.ok (.bl false) h:=by rw [L0 hx hx,decide_eq_true rfl]; rfl
theorem Fg {x:PV} (hx:x.pl 40=true) (h:PH):vEq x x h=.ok (.bl true) h:=by rw [B3 hx hx,decide_eq_true rfl]
end L2
namespace L2
end L2
set_option Elab.async false
set_option linter.all false
set_option maxRecDepth 100000
namespace L2
open PySem PySem.Spec PyProof.Rows PySem.SeqAt
open PySem.AutoSeq1 (wpAny_loadPart')
open PySem.MeetsSeq PySem.MeetsSeq2 PySem.MeetsSeq3
def N1 (A:Around) (s:Shared) (v u:Value) (b:Bool):Prop:=∀ (prog:Program) (w:World) (E:Value->Shared->Prop) (Q:Value->Shared->Prop),Q (.bool b) s->wpAny (model prog w) A (richCompare .Lt v u) Q E s
def N2 (A:Around) (s:Shared) (v u:Value) (d e:D):Prop:=EqAt A s v u (eqD d e)/\(eqD d e=false->∀ b,ltD d e=some b->N1 A s v u b)
abbrev uE (A:Around) (s:Shared):List Value->List Value->List D->List D->Prop:=fun vs us ds es=>vs.length=ds.length/\us.length=es.length/\∀ (j:Nat) v u d e,vs[j]?=some v->us[j]?=some u->ds[j]?=some d->es[j]?=some e->N2 A s v u d e
theorem uE.tail {A:Around} {s:Shared} {v u:Value} {vs us:List Value} {d e:D} {ds es:List D} (h:uE A s (v :: vs) (u :: us) (d :: ds) (e :: es)):N2 A s v u d e/\uE A s vs us ds es:=
 ⟨h.2.2 0 v u d e rfl rfl rfl rfl,by have:=h.1; simpa using this,by have:=h.2.1; simpa using this,fun j v u d e h1 h2 h3 h4=>h.2.2 (j+1) v u d e (by simpa using h1) (by simpa using h2) (by simpa using h3) (by simpa using h4)⟩
theorem wR (l b:Addr) (items items2:Array Value) (n n2:Nat) (dd dd2:Option Addr) (sl sl2:Array (Option Value)) (ds es:List D) (c:Bool) (hc:vZ ds es=some c):
  Meets (Builtin.«tuple.__lt__» ⟨[.ref l,.ref b],[]⟩)
   (fun A R s=>s.heap.get? l=some { cls:=.type "tuple",dict:=dd,data:=.seq items n,slots:=sl }/\s.heap.get? b=some { cls:=.type "tuple",dict:=dd2,data:=.seq items2 n2,slots:=sl2 }/\
    uE A.in1 s items.toList items2.toList ds es/\R (.ok (.ret (.bool c))) s):=
 .of_wp fun prog w A R s h=>by
  obtain ⟨hp,g,d,tk,os⟩:=s; obtain ⟨hl,hb,hit,h⟩:=h
  have f2:=AutoSeq1.sub_tuple_tuple
  have z1:items.size=ds.length:=by rw [<- hit.1]; simp
  have z2:items2.size=es.length:=by rw [<- hit.2.1]; simp
  wp_walk using wpAny_loadPart' hl,wpAny_loadPart' hb,wpAny_forIn_list _ (fun rest b s'=>b.1=none/\s'=⟨hp,g,d,tk,os⟩/\∃ (vs ws:List Value) (ns' ms':List D),rest=vs.zip ws/\
   uE A.in1 ⟨hp,g,d,tk,os⟩ vs ws ns' ms'/\ns'.length+items2.size=ms'.length+items.size/\vZ ns' ms'=some c) _
  case turn=>
   rintro ⟨y,x⟩ rest b s' ⟨hb',rfl,vs,ws,ns',ms',hz,hvi,hlen,hR⟩
   cases vs with
   | nil=>rw [List.zip_nil_left] at hz; cases hz
   | cons v vs=>
    cases ws with
    | nil=>rw [List.zip_nil_right] at hz; cases hz
    | cons u ws=>
     rw [List.zip_cons_cons] at hz
     injection hz with hyx hrest
     injection hyx with hy hx
     subst hy hx
     cases ns' with
     | nil=>have:=hvi.1; simp at this
     | cons a ns'=>
      cases ms' with
      | nil=>have:=hvi.2.1; simp at this
      | cons e ms'=>
       obtain ⟨⟨h1,h2⟩,ht⟩:=uE.tail hvi
       simp only [List.length_cons] at hlen
       simp only [vZ] at hR
       refine wpAny_bind (h1 prog w _ _ ?_)
       cases q:eqD a e with
       | true=>
        rw [q,if_pos rfl] at hR
        wp_walk
        exact ⟨rfl,rfl,_,_,_,_,hrest,ht,by omega,hR⟩
       | false=>
        rw [q,if_neg Bool.false_ne_true] at hR
        have hri:=h2 q c hR prog w
        wp_walk using hri
        exact ⟨_,rfl,by simpa using h⟩
  case fin=>
   rintro ⟨b1,b2⟩ s' ⟨hb',rfl,vs,ws,ns',ms',hz,hvi,hlen,hR⟩
   simp only at hb'
   subst hb'
   have hv:c=decide (items.size < items2.size):=by
    cases ns' with
    | nil=>
     cases ms' with
     | nil=>
      simp only [List.length_nil] at hlen
      simp only [vZ] at hR
      cases hR
      exact (decide_eq_false (by omega)).symm
     | cons e ms'=>
      simp only [List.length_nil,List.length_cons] at hlen
      simp only [vZ] at hR
      cases hR
      exact (decide_eq_true (by omega)).symm
    | cons a ns'=>
     cases ms' with
     | nil=>
      simp only [List.length_nil,List.length_cons] at hlen
      simp only [vZ] at hR
      cases hR
      exact (decide_eq_false (by omega)).symm
     | cons e ms'=>
      exfalso
      cases vs with
      | nil=>have:=hvi.1; simp at this
      | cons v vs=>
       cases ws with
       | nil=>have:=hvi.2.1; simp at this
       | cons u ws=>rw [List.zip_cons_cons] at hz; cases hz
   rw [hv] at h
   wp_walk
   exact ⟨_,rfl,by simpa [Builtin.Tuple.tupleCompareSizes] using h⟩
  case h=>
   exact ⟨rfl,rfl,items.toList,items2.toList,ds,es,rfl,hit,by omega,hc⟩
section
variable {X:Cx} {pins:List (Addr×Obj)} {σ:St} {H:Hp} {s:Shared}
theorem OI (I:Inv X pins σ H s):∀ (n:Nat) (d e:D) (A:Around) (x y:V) (v u:Value) (b:Bool),d.depth<=n->A.units+n < cLine->Rep X.K H d x->Rep X.K H e y->RelV x v->RelV y u->ltD d e=some b->N1 A s v u b:=by
 intro n
 induction n with
 | zero=>
  intro d e A x y v u b hd hu hx hy rx ry hb
  cases d with
  | tup ds=>exact absurd hd (by show ¬ D.depths ds+1<=0; omega)
  | int i=>
   cases e with
   | int j=>
    cases hx; cases hy
    obtain ⟨t,rfl⟩:=rx
    obtain ⟨t',rfl⟩:=ry
    simp only [ltD] at hb
    cases hb
    exact fun prog w E Q q=>(PyProof.Rows.lt_int q:wpAny (model prog w) A (compareOp .Lt _ _) Q E s)
   | _=>simp [ltD] at hb
  | str i=>
   cases e with
   | str j=>
    cases hx; cases hy
    obtain ⟨t,rfl⟩:=rx
    obtain ⟨t',rfl⟩:=ry
    simp only [ltD] at hb
    cases hb
    exact fun prog w E Q q=>(PyProof.Rows.lt_str q:wpAny (model prog w) A (compareOp .Lt _ _) Q E s)
   | _=>simp [ltD] at hb
  | _=>cases e <;> simp [ltD] at hb
 | succ n ih=>
  intro d e A x y v u b hd hu hx hy rx ry hb
  by_cases h0:d.depth<=n
  ·exact ih d e A x y v u b h0 (by omega) hx hy rx ry hb
  ·cases d with
   | tup ds=>
    cases e with
    | tup es=>
     have hds:D.depths ds<=n:=by have:D.depths ds+1<=n+1:=hd; omega
     obtain ⟨a,vs,rfl,q,r⟩:=hx
     cases rx
     obtain ⟨its,rv,p,_⟩:=I.tuple q
     obtain ⟨a',vs',rfl,q',r'⟩:=hy
     cases ry
     obtain ⟨its',rv',p',_⟩:=I.tuple q'
     have hb':vZ ds es=some b:=by simpa [ltD] using hb
     obtain ⟨⟨cls,dd,data,sl⟩,ho,hc,m,hdt⟩:=id p
     obtain ⟨⟨cls2,dd2,data2,sl2⟩,ho2,hc2,m2,hd2⟩:=id p'
     simp only at hc hdt hc2 hd2
     subst hc hdt hc2 hd2
     intro prog w E Q hq
     refine richCompare_meets_room (op:=.Lt) ⟨_,ho,rfl⟩ ⟨_,ho2,rfl⟩ PySem.F.slot_tuple_lt PySem.F.entry_tuple_lt (PySem.F.args_tuple_lt_2 _ _) (wR a a' its.toArray its'.toArray m m2 dd dd2 sl sl2 ds es b hb')
      ⟨ho,ho2,⟨?_,?_,?_⟩,show Value.bool b≠Value.notImplemented/\Q (.bool b) s from ⟨(fun x=>nomatch x),hq⟩⟩ (by omega)
     ·have l1:=r.length
      have l3:=rv.length
      show its.length=ds.length
      omega
     ·have l1:=r'.length
      have l3:=rv'.length
      show its'.length=es.length
      omega
     ·intro j v u d e h1 h2 h3 h4
      obtain ⟨xv,hxv,hrx⟩:=r.at h3
      obtain ⟨yv,hyv,hry⟩:=r'.at h4
      obtain ⟨xu,hxu,hru⟩:=rv.get hxv
      obtain ⟨yu,hyu,hru'⟩:=rv'.get hyv
      have e1:v=xu:=by
       have:its[j]?=some v:=h1
       rw [hxu] at this
       exact (Option.some.inj this).symm
      have e2:u=yu:=by
       have:its'[j]?=some u:=h2
       rw [hyu] at this
       exact (Option.some.inj this).symm
      subst e1 e2
      have hdj:=D.depths_le h3
      refine ⟨HP I (n:=n) (by omega) ?_ hrx hry hru hru',fun _ b hb=>ih d e _ xv yv v u b (by omega) ?_ hrx hry hru hru' hb⟩
      all_goals (show A.units+1+n < cLine; omega)
    | _=>simp [ltD] at hb
   | _=>exact absurd (Nat.zero_le n) h0
end
variable {C:MC} {k:Nat} {X:Cx}
def Im (x y:PV):Option Bool:=match x.d,y.d with
 | some d,some e=>if d.depth<=40 then ltD d e else none
 | _,_=>none
def qT:PV->PV->PH->Rs PV:=fun x y h=>match x,y with
 | .tup xs,.tup ys=>ofB (Im (.tup xs) (.tup ys)) h
 | x,y=>vLt x y h
theorem L1 (hu:X.A.units+64 < cLine) (K:PySem.W.Frag) (hK:X.K=K):OpR X (compareOp .Lt) (fun x y H Q=>∃ d e b,Rep K H d x/\Rep K H e y/\d.depth<=40/\ltD d e=some b/\Q (.bl b) H):=by
 subst hK
 intro pins s σ H x y v u Q I rx ry h
 obtain ⟨d,e,b,hx,hy,hd,hb,q⟩:=h
 exact OI I 40 d e X.A x y v u b hd (by omega) hx hy rx ry hb X.prog X.w X.xe _ ⟨.bl _,H,I,rfl,q⟩
theorem B4:OpS C k X (compareOp .Lt) qT:=fun c=>((L1 c.hu64 C.K c.K).or (Ot c)).imp fun x y H Q h=>by
 obtain ⟨φ,h,p,q,rh,rx,ry,po⟩:=h
 unfold qT at po
 split at po
 ·obtain ⟨b,e,po⟩:=po.ofB
  unfold Im at e
  split at e
  ·rename_i d e' h1 h2
   split at e
   ·rename_i hd
    exact .inl ⟨d,e',b,rx.rep h1,ry.rep h2,hd,e,po.val rh rfl⟩
   ·cases e
  ·cases e
 ·exact .inr ⟨φ,h,p,q,rh,rx,ry,po⟩
section
variable {h:PH}
@[simp] theorem LC {i j:Int}:qT (.int i) (.int j) h=.ok (.bl (decide (i < j))) h:=(rfl)
@[simp] theorem LD {i j:Str}:qT (.str i) (.str j) h=.ok (.bl (decide (i.cps.toList < j.cps.toList))) h:=(rfl)
def ltL (f:PV->PV->Option Bool):List PV->List PV->Option Bool
 | [],[]=>some false
 | [],_ :: _=>some true
 | _ :: _,[]=>some false
 | x :: xs,y :: ys=>if x=y then ltL f xs ys else f x y
def ltP:Nat->PV->PV->Option Bool
 | _,.int a,.int b=>some (decide (a < b))
 | _,.str a,.str b=>some (decide (a.cps.toList < b.cps.toList))
 | n+1,.tup xs,.tup ys=>ltL (ltP n) xs ys
 | _,_,_=>none
end
end L2
set_option Elab.async false
set_option linter.all false
set_option maxRecDepth 100000
namespace L2
open PySem PySem.Spec PyProof.Rows
variable {C:MC} {k:Nat} {X:Cx}
theorem Dh:Cxt C k X->bE X (.builtin "sum") (fun xs H Q=>∃ (p:Addr) (ns:List Int),xs=[.ref p]/\SqL C.K H p (ns.map V.int)/\Q (.int ns.sum) H):=fun c=>by
 intro pins s σ H xs us Q I r h
 obtain ⟨p,ns,rfl,hq,q⟩:=h
 obtain ⟨u,rfl,ru⟩:=vals1 r
 cases ru
 rw [<- c.K] at hq
 obtain ⟨its,rv,pl,hz⟩:=I.list hq
 have hi:IntsAre its ns:=intsAre_of rv
 obtain ⟨ys,hy⟩:=hi.allInts.items
 have hl:=pl.isList
 rw [hy] at hl
 refine sum_intListG (I.ok.hd c.calm) hl fun h' tk t' hk=>?_
 have e:preSum (numAt ys) ys.size=ns.sum:=by
  have e1:=preSum_eq ys ys.size
  rw [List.take_of_length_le (by simp)] at e1
  rw [e1,<- nums_intItems,<- hy]
  have:=hi.numsOf
  rw [show its.toArray.toList=its from rfl,this]
 rw [e]
 exact ⟨.int ns.sum,H,I.kept hk,⟨_,rfl⟩,q⟩
def oF:List PV->Option (List Int)
 | []=>some []
 | .int i :: r=>(oF r).map (i :: ·)
 | _ :: _=>none
theorem pD {φ:List Addr} {H:Hp}:∀ {xs:List PV} {vs:List V} {ns:List Int},RVs C φ H xs vs->oF xs=some ns->vs=ns.map V.int
 | [],[],_,_,e=>by cases e; rfl
 | x :: xs,v :: vs,ns,⟨h,r⟩,e=>by
  cases x with
  | int i=>
   cases h
   simp only [oF,Option.map_eq_some_iff] at e
   obtain ⟨m,e,rfl⟩:=e
   rw [pD r e]; rfl
  | _=>cases e
 | [],_ :: _,_,h,_=>h.elim
 | _ :: _,[],_,h,_=>h.elim
theorem uF (ns:List Int):oF (ns.map PV.int)=some ns:=by
 induction ns with
 | nil=>rfl
 | cons n ns ih=>simp [oF,ih]
def Di:List PV->PH->Rs PV:=fun xs h=>match xs with
 | [x]=>match cP x h with
  | some ys=>match oF ys with
   | some ns=>.ok (.int ns.sum) h
   | none=>.bad
  | none=>.bad
 | _=>.bad
theorem JD:eR C k X (.builtin "sum") Di:=fun c=>(Dh c).imp fun vs H Q h=>by
 obtain ⟨φ,h,ps,rh,rv,po⟩:=h
 unfold Di at po
 split at po
 ·obtain ⟨v,rfl,rx⟩:=rv.one
  split at po
  ·rename_i ys e
   split at po
   ·rename_i ns en
    obtain ⟨a,vs,rfl,sa,ra⟩:=dJ rh rx e
    rw [pD ra en] at sa
    exact ⟨a,ns,rfl,sa,po.val rh rfl⟩
   ·exact po.elim
  ·exact po.elim
 ·exact po.elim
theorem zK {h:PH} {n:Nat} {ns:List Int} (e:h[n]?=some (.lst (ns.map PV.int))):Di [.ref n] h=.ok (.int ns.sum) h:=by
 have e1:cP (.ref n) h=some (ns.map PV.int):=by unfold cP aM; simp only [e]
 unfold Di; simp only [e1,uF]
open Classical in
noncomputable def Dj:PV->PV->PH->Rs PV:=fun x y h=>match x,y with
 | .str z,.int n=>if z.length<=16/\-(2 ^ 63)<=n/\n<=1000 then .ok (.str (Txt.mul z n)) h else .bad
 | _,_=>.bad
theorem JE:OpS C k X (binaryOp .Mult) Dj:=fun c=>by
 intro pins s σ H x y v u Q I rx ry h
 obtain ⟨φ,h,p,q,rh,rp,rq,po⟩:=h
 unfold Dj at po
 split at po
 ·cases rp; cases rq
  obtain ⟨t,rfl⟩:=rx
  obtain ⟨t',rfl⟩:=ry
  obtain ⟨⟨h1,h2,h3⟩,po⟩:=po.ite
  refine PySem.W.KXi.mul rfl h1 h2 (by omega) fun t'' tk _ _=>⟨.str _,H,I.tok _,⟨_,rfl⟩,po.val rh rfl⟩
 ·exact po.elim
end L2
set_option Elab.async false
set_option linter.all false
namespace L2
open PySem
section
variable {h:PH} {lo hi:Option Int}
@[simp] theorem O0 {xs:List PV}:vSl (.tup xs) lo hi h=.ok (.tup (fE xs lo hi)) h:=(rfl)
@[simp] theorem OJ {xs:List PV}:vSl (.fl xs) lo hi h=.ok (.ref h.length) (h++[.lst (fE xs lo hi)]):=(rfl)
theorem Cf {n:Nat} {xs:List PV} (e:h[n]?=some (.lst xs)):vSl (.ref n) lo hi h=.ok (.ref h.length) (h++[.lst (fE xs lo hi)]):=by
 have e3:aM h n=some xs:=by unfold aM; rw [e]
 unfold vSl; simp only [e3]
@[simp] theorem OK {a b:Bool}:vIs (.bl a) (.bl b) h=.ok (.bl (a == b)) h:=(rfl)
@[simp] theorem LF {a b:Bool}:EY (.bl a) (.bl b) h=.ok (.bl (!(a == b))) h:=(rfl)
@[simp] theorem O1 {x:PV}:vIs x .non h=.ok (.bl (kF x)) h:=(rfl)
@[simp] theorem L3 {x:PV}:EY x .non h=.ok (.bl (!kF x)) h:=(rfl)
theorem Ip {α β:Type} {f:α->β} {xs:List α}:fE (xs.map f) lo hi=(fE xs lo hi).map f:=by
 unfold fE
 rw [List.length_map,List.map_take,List.map_drop]
end
end L2
namespace L2
end L2
set_option Elab.async false
set_option linter.all false
namespace L2
open PySem
section
variable {δ:Ev} {h h1:PH} {js:List (Option Nat)} {tg:Mg} {tst:Ev->PH->Rs Bool} {elt:Me} {g:PH->Bool} {n:Nat}
theorem pE {δ0:Ev} {Q:PV->PH->Prop} (I:Nat->PH->Prop):∀ (xs:List PV) (k:Nat) (h:PH),I k h->
  (∀ i x h,k<=i->xs[i - k]?=some x->I i h->g h=true/\∃ δ1,tg x δ0=some δ1/\(tst δ1 h).W fun b h'=>if b=true then (elt δ1 h').W fun p h''=>∃ ys,h''[n]?=some (.lst ys)/\ys.length < 16777216/\I (i+1) (h''.set n (.lst (ys++[p]))) else I (i+1) h')->
  (∀ h,I (k+xs.length) h->g h=true/\Q (.ref n) h)->(hV g tg tst elt δ0 n xs h).W Q
 | [],k,h,i0,_,fin=>by
  obtain ⟨h1,h2⟩:=fin h i0
  simp [hV,h1,h2]
 | x :: xs,k,h,i0,step,fin=>by
  obtain ⟨h1,δ1,h2,h3⟩:=step k x h (Nat.le_refl _) (by simp) i0
  have go:∀ h2,I (k+1) h2->(hV g tg tst elt δ0 n xs h2).W Q:=fun h2 i2=>
   pE I xs (k+1) h2 i2 (fun i y h hk hy=>step i y h (by omega) (by
    have:i - k=(i - (k+1))+1:=by omega
    rw [this,List.getElem?_cons_succ]; exact hy)) (fun h hi=>fin h (by
    have e:k+(x :: xs).length=k+1+xs.length:=by simp; omega
    rw [e]; exact hi))
  unfold hV
  rw [if_pos h1,h2]
  show (Rs.bind (tst δ1 h) _).W Q
  rw [wL]
  refine Fb h3 fun b h' hb=>?_
  cases b with
  | false=>exact go h' (by simpa using hb)
  | true=>
   show (Rs.bind (elt δ1 h') _).W Q
   rw [wL]
   refine Fb (show (elt δ1 h').W _ from by simpa using hb) fun p h'' hp=>?_
   obtain ⟨ys,e,hz,hi⟩:=hp
   have e':cL h'' n=some ys:=by unfold cL; rw [e]
   simp [e',hz]
   exact go _ hi
theorem nG {α:Type} {mi:Mi} {ys:List α} {emb:α->PV} (f:α->Option PV) (e:mi δ h=.ok ⟨ys.map emb,g⟩ h1) (hg:∀ h,Ext h1 h->g h=true) (hz:ys.length<=16777216)
  (step:∀ y∈ys,∃ δ1,tg (emb y) (cQ js δ)=some δ1/\∀ h,Ext h1 h->match f y with
   | none=>tst δ1 h=.ok false h
   | some p=>tst δ1 h=.ok true h/\elt δ1 h=.ok p h):bT js mi tg tst elt δ h=.ok (.ref h1.length) (h1++[.lst (ys.filterMap f)]):=by
 have w:(bT js mi tg tst elt δ h).W fun p h'=>p=.ref h1.length/\h'=h1++[.lst (ys.filterMap f)]:=by
  unfold bT
  rw [e,Rs.bind_ok]
  refine pE (fun i h'=>h'=h1++[.lst ((ys.take i).filterMap f)]) (ys.map emb) 0 _ (by simp) (fun i x h' _ hx hi=>?_) (fun h' hi=>?_)
  ·subst hi
   have hx:(ys.map emb)[i]?=some x:=by simpa using hx
   rw [List.getElem?_map] at hx
   obtain ⟨y,hy,rfl⟩:=Option.map_eq_some_iff.mp hx
   have hil:=(List.getElem?_eq_some_iff.mp hy).1
   obtain ⟨δ1,ht,hs⟩:=step y (List.mem_of_getElem? hy)
   have hs:=hs (h1++[.lst ((ys.take i).filterMap f)]) (Ext.app _ _)
   have htk:ys.take (i+1)=ys.take i++[y]:=by rw [List.take_add_one,hy]; rfl
   refine ⟨hg _ (Ext.app _ _),δ1,ht,?_⟩
   cases ef:f y with
   | none=>
    rw [ef] at hs
    rw [hs]
    simp [htk,ef]
   | some p=>
    rw [ef] at hs
    rw [hs.1]
    simp [hs.2]
    refine ⟨?_,by simp [htk,ef]⟩
    have:=List.length_filterMap_le f (ys.take i)
    rw [List.length_take] at this
    omega
  ·subst hi
   simp
   exact hg _ (Ext.app _ _)
 obtain ⟨p,h',e,rfl,rfl⟩:=KS w
 exact e
theorem lF {m:Me} {xs:List PV} (e:m δ h=.ok (.ref n) h1) (hn:h1[n]?=some (.lst xs)):bR m δ h=.ok ⟨xs,jP n xs⟩ h1:=by
 unfold bR
 have e3:aM h1 n=some xs:=by unfold aM; rw [hn]
 rw [e,Rs.bind_ok]
 unfold ofSeq; simp only [e3]
theorem fK {xs:List PV} (hn:h1[n]?=some (.lst xs)):∀ h,Ext h1 h->jP n xs h=true:=fun h hx=>by
 have e3:aM h n=some xs:=by unfold aM; rw [hx _ _ hn]
 unfold jP; rw [e3]; exact PV.beqs_self xs
theorem Fh {m:Me} {xs:List PV} (e:m δ h=.ok (.tup xs) h1):bR m δ h=.ok ⟨xs,fun _=>true⟩ h1:=by
 unfold bR
 rw [e]; rfl
theorem fL {α:Type} {m:Me} {ys:List α} {emb:α->PV} (f:α->Option PV) (e:m δ h=.ok (.ref n) h1) (hn:h1[n]?=some (.lst (ys.map emb))) (hz:ys.length<=16777216)
  (step:∀ y∈ys,∃ δ1,tg (emb y) (cQ js δ)=some δ1/\∀ h,Ext h1 h->match f y with
   | none=>tst δ1 h=.ok false h
   | some p=>tst δ1 h=.ok true h/\elt δ1 h=.ok p h):bT js (bR m) tg tst elt δ h=.ok (.ref h1.length) (h1++[.lst (ys.filterMap f)]):=
 nG f (lF e hn) (fK hn) hz step
theorem uG {α:Type} {m:Me} {ys:List α} {emb:α->PV} (f:α->Option PV) (e:m δ h=.ok (.tup (ys.map emb)) h1) (hz:ys.length<=16777216)
  (step:∀ y∈ys,∃ δ1,tg (emb y) (cQ js δ)=some δ1/\∀ h,Ext h1 h->match f y with
   | none=>tst δ1 h=.ok false h
   | some p=>tst δ1 h=.ok true h/\elt δ1 h=.ok p h):bT js (bR m) tg tst elt δ h=.ok (.ref h1.length) (h1++[.lst (ys.filterMap f)]):=
 nG f (Fh e) (fun _ _=>rfl) hz step
theorem zL (lo:Int):∀ n,upTo lo n=(List.range n).map (fun (i:Nat)=>PV.int (lo+(i:Int)))
 | 0=>rfl
 | n+1=>by
  rw [upTo,zL (lo+1) n,List.range_succ_eq_map,List.map_cons,List.map_map]
  congr 1
  ·simp
  ·apply List.map_congr_left
   intro a _
   simp only [Function.comp_def]
   congr 1
   omega
theorem zM {ms:Ma} {j:Int} (f:Nat->Option PV) (e:ms δ h=.ok [.int j] h1) (hj:-4611686018427387904<=j/\j < 16777216)
  (step:∀ i:Nat,(i:Int) < j->∃ δ1,tg (.int i) (cQ js δ)=some δ1/\∀ h,Ext h1 h->match f i with
   | none=>tst δ1 h=.ok false h
   | some p=>tst δ1 h=.ok true h/\elt δ1 h=.ok p h):bT js (hU ms) tg tst elt δ h=.ok (.ref h1.length) (h1++[.lst ((List.range j.toNat).filterMap f)]):=by
 refine nG (emb:=fun i:Nat=>.int ((0:Int)+i)) (g:=fun _=>true) f ?_ (fun _ _=>rfl) (by simp; omega) (fun i hi=>?_)
 ·unfold hU
  rw [e]
  have hj':-(2 ^ 62)<=j/\j < 2 ^ 62:=⟨hj.1,by omega⟩
  simp only [Rs.bind_ok,Cb,if_pos hj']
  rw [zL]
 ·have hi':=List.mem_range.mp hi
  rw [Int.zero_add]
  exact step i (by omega)
theorem filterMap_some {α β:Type} (f:α->β) (xs:List α):xs.filterMap (fun x=>some (f x))=xs.map f:=by
 induction xs with
 | nil=>rfl
 | cons x xs ih=>simp [ih]
end
end L2
namespace L2
open PySem
end L2
set_option Elab.async false
set_option linter.all false
set_option maxRecDepth 100000
namespace L2
open PySem PySem.Spec PyProof.Rows
section
variable {X:Cx} {pins:List (Addr×Obj)} {σ:St} {H:Hp} {s:Shared} {C:MC} {φ:List Addr}
mutual
theorem Fi (I:Inv X pins σ H s) (hK:X.K=C.K):∀ (n:Nat) {p:PV} {v:V} {u:Value},p.ky n=true->RV C φ H p v->RelV v u->HR s.heap p u
 | _,.int i,v,u,_,r,ru=>by cases r; exact ru
 | _,.str i,v,u,_,r,ru=>by cases r; exact ru
 | n+1,.tup ps,v,u,hk,r,ru=>by
  obtain ⟨a,vs,rfl,q,rs⟩:=r
  cases ru
  rw [<- hK] at q
  obtain ⟨its,rv,p,_⟩:=I.tuple q
  exact ⟨a,its,rfl,p,Cg I hK n (List.all_eq_true.mp hk) rs rv⟩
 | 0,.tup _,_,_,hk,_,_=>by cases hk
 | n,.non,_,_,hk,_,_=>by cases n <;> cases hk
 | n,.bl _,_,_,hk,_,_=>by cases n <;> cases hk
 | n,.ref _,_,_,hk,_,_=>by cases n <;> cases hk
 | n,.ty _,_,_,hk,_,_=>by cases n <;> cases hk
 | n,.fl _,_,_,hk,_,_=>by cases n <;> cases hk
theorem Cg (I:Inv X pins σ H s) (hK:X.K=C.K):∀ (n:Nat) {ps:List PV} {vs:List V} {us:List Value},(∀ p∈ps,p.ky n=true)->RVs C φ H ps vs->aK vs us->HRs s.heap ps us
 | _,[],[],us,_,_,ru=>by cases ru; trivial
 | n,p :: ps,v :: vs,us,hk,r,ru=>by
  cases ru with
  | cons h t=>exact ⟨Fi I hK n (hk p List.mem_cons_self) r.1 h,Cg I hK n (fun q hq=>hk q (List.mem_cons_of_mem _ hq)) r.2 t⟩
 | _,[],_ :: _,_,_,r,_=>r.elim
 | _,_ :: _,[],_,_,r,_=>r.elim
end
abbrev sO:List (PV×Addr×V)->List (PV×Addr×Value)->Prop:=Paired fun p q=>p.1=q.1/\p.2.1=q.2.1/\RelV p.2.2 q.2.2
def HD (C:MC) (φ:List Addr) (H:Hp) (X:Cx) (s:Shared) (a:Addr) (kvs:List (PV×PV)):Prop:=
 ∃ ks xs,RKd C φ H kvs ks/\sO ks xs/\xs.length<=sizeLine/\(a == sysModules)=false/\s.heap.DictOfH (jU X.prog X.w) a xs
def qU (h:PH) (n:Nat):Option (List (PV×PV)):=match h[n]? with
 | some (.dD kvs)=>some kvs
 | some (.dK [])=>some []
 | _=>none
def PV.isKt:PV->Bool
 | .tup xs=>(PV.tup xs).ky 6
 | _=>false
theorem pF {p:PV} (h:p.isKt=true):p.ky 6=true:=by cases p <;> first | exact h | cases h
theorem pG {p:PV} {v:V} (h:p.isKt=true) (r:RV C φ H p v):∃ b,v=.ref b:=by
 cases p <;> first | (obtain ⟨b,_,e,_⟩:=r; exact ⟨b,e⟩) | cases h
theorem Ci {h:PH} {n:Nat} {a:Addr} {kvs:List (PV×PV)} (I:Inv X pins σ H s) (hK:X.K=C.K) (hw:X.w=C.w) (rh:RH C φ H h) (ha:φ[n]?=some a) (e:qU h n=some kvs):HD C φ H X s a kvs/\Mut (H a)/\yW (H a):=by
 unfold qU at e
 split at e
 ·rename_i kv hk
  cases e
  obtain ⟨ks,hH,r⟩:=rh.at' n a _ ha hk
  have hO:bU X.prog X.w H s.heap a (dDO C.w a ks):=I.hok a _ hH
  obtain ⟨⟨hz,hm,xs,rx,o,es,ep,h1,h2,h3,h4,h5⟩,_⟩:=hO
  refine ⟨⟨ks,xs,r,rx,by rw [<- Paired.length rx]; exact hz,hm,o,es,ep,h1,h2,h3,?_,?_,h5⟩,by rw [hH]; exact True.intro,by rw [hH]; exact True.intro⟩
  ·rw [h4,<- hw]; rfl
  ·have all:∀ {l:List (PV×PV)} {m:List (PV×Addr×V)} {z:List (PV×Addr×Value)},RKd C φ H l m->sO m z->∀ x∈z,(jU X.prog X.w).is s.heap x.1 x.2.1:=by
    intro l m z q
    unfold RKd at q
    induction q generalizing z with
    | nil=>intro rz x hx; cases rz; cases hx
    | cons hq t ih=>
     intro rz x hx
     cases rz with
     | cons hz' tz=>
      rcases List.mem_cons.mp hx with e | hx
      ·subst e
       refine ⟨?_,?_⟩
       ·rw [<- hz'.1,<- hq.1]; exact hq.2.1
       ·rw [<- hz'.1,<- hq.1,<- hz'.2.1]; exact Fi I hK 6 hq.2.1 hq.2.2.1 rfl
      ·exact ih tz x hx
   exact all r rx
 ·rename_i hk
  cases e
  obtain ⟨ks,hH,r⟩:=rh.at' n a _ ha hk
  have:ks=[]:=by cases r; rfl
  subst this
  obtain ⟨z,hd,vs,rel,o,es,ep,h1,h2,h3,h4,h5,h6⟩:=EE I.hok hH
  have:vs=[]:=by cases rel; rfl
  subst this
  refine ⟨⟨[],[],.nil,.nil,Nat.zero_le _,hd,o,es,ep,h1,h2,h3,?_,(fun x hx=>nomatch hx),List.nodup_nil⟩,by rw [hH]; exact True.intro,by rw [hH]; exact True.intro⟩
  cases he:es.toList with
  | nil=>rfl
  | cons y ys=>rw [he] at h5; cases h5
 ·cases e
theorem HD.val {a:Addr} {kvs:List (PV×PV)} {ks:List (PV×Addr×V)} {xs:List (PV×Addr×Value)} (r:RKd C φ H kvs ks) (rx:sO ks xs) (k:PV):match cG kvs k,(atKey xs k).map (·.2) with
  | some p,some u=>∃ v,RelV v u/\RV C φ H p v
  | none,none=>True
  | _,_=>False:=by
 unfold RKd at r
 induction r generalizing xs with
 | nil=>cases rx; trivial
 | @cons p q ps qs h t ih=>
  cases rx with
  | @cons q' x qs' xs' hx tx=>
   obtain ⟨pk,pv⟩:=p
   by_cases e:pk=k
   ·have e':x.1=k:=hx.1.symm.trans (h.1.symm.trans e)
    have b:atKey (x :: xs') k=some x.2:=by simp [atKey,List.find?_cons,e']
    rw [b]
    unfold cG
    rw [if_pos e]
    exact ⟨_,hx.2.2,h.2.2.2⟩
   ·have e':¬ x.1=k:=fun z=>e (h.1.trans (hx.1.trans z))
    have b:atKey (x :: xs') k=atKey xs' k:=by simp [atKey,List.find?_cons,e']
    rw [b]
    unfold cG
    rw [if_neg e]
    exact ih tx
def jS {κ:Type} [DecidableEq κ] (kvs:List (κ×PV)) (k:κ) (p:PV):List (κ×PV):=if (cG kvs k).isSome then kvs.map (fun kv=>if kv.1=k then (kv.1,p) else kv) else kvs++[(k,p)]
theorem HD.replace {a:Addr} {kvs:List (PV×PV)} {ks:List (PV×Addr×V)} {xs:List (PV×Addr×Value)} (r:RKd C φ H kvs ks) (rx:sO ks xs) (k:PV) {p:PV} {v:V} {u:Value} (rp:RV C φ H p v) (ru:RelV v u):
  ∃ ks',RKd C φ H (kvs.map fun kv=>if kv.1=k then (kv.1,p) else kv) ks'/\sO ks' (xs.map (putAt k u)):=by
 unfold RKd at r
 induction r generalizing xs with
 | nil=>cases rx; exact ⟨[],.nil,.nil⟩
 | @cons pp q ps qs h t ih=>
  cases rx with
  | @cons q' x qs' xs' hx tx=>
   obtain ⟨ks',r1,r2⟩:=ih tx
   by_cases e:pp.1=k
   ·refine ⟨(q.1,q.2.1,v) :: ks',.cons ?_ r1,.cons ?_ r2⟩
    ·simp only [if_pos e]; exact ⟨h.1,h.2.1,h.2.2.1,rp⟩
    ·unfold putAt; rw [if_pos (hx.1.symm.trans (h.1.symm.trans e))]; exact ⟨hx.1,hx.2.1,ru⟩
   ·refine ⟨q :: ks',.cons ?_ r1,.cons ?_ r2⟩
    ·simp only [if_neg e]; exact h
    ·unfold putAt; rw [if_neg fun z=>e (h.1.trans (hx.1.trans z))]; exact hx
theorem HD.put {a b:Addr} {kvs:List (PV×PV)} {ks:List (PV×Addr×V)} {xs:List (PV×Addr×Value)} (r:RKd C φ H kvs ks) (rx:sO ks xs) {k:PV} (hk:k.ky 6=true) (rk:RV C φ H k (.ref b)) {p:PV} {v:V} {u:Value} (rp:RV C φ H p v) (ru:RelV v u):
  ∃ ks',RKd C φ H (jS kvs k p) ks'/\sO ks' (storedH xs k b u):=by
 have hv:=HD.val (a:=b) r rx k
 unfold jS storedH
 cases e1:cG kvs k with
 | some p0=>
  rw [e1] at hv
  cases e2:atKey xs k with
  | none=>rw [e2] at hv; exact hv.elim
  | some z=>exact HD.replace (a:=b) r rx k rp ru
 | none=>
  rw [e1] at hv
  cases e2:atKey xs k with
  | some z=>rw [e2] at hv; exact hv.elim
  | none=>exact ⟨ks++[(k,b,v)],Paired.snoc r ⟨rfl,hk,rk,rp⟩,Paired.snoc rx ⟨rfl,rfl,ru⟩⟩
theorem zN (I:Inv X pins σ H s) (hK:X.K=C.K) {p:PV} {b:Addr} (hk:p.isKt=true) (r:RV C φ H p (.ref b)):(jU X.prog X.w).is s.heap p b:=⟨pF hk,Fi I hK 6 (pF hk) r rfl⟩
end
section
variable {C:MC} {k:Nat} {X:Cx}
theorem Cxt.room6 (c:Cxt C k X):(jU X.prog X.w).room X.A.in1:=by
 have:=c.hu64
 show X.A.units+1+6 < cLine
 omega
def nH (x y:PV) (h:PH):Option (Option PV):=match y with
 | .ref n=>if x.isKt=true then (qU h n).map fun kvs=>cG kvs x else none
 | _=>none
def JF (C:MC):V->V->Hp->(List Addr->Option PV->Prop)->Prop:=fun x y H R=>∃ φ h p n a kvs,RH C φ H h/\RV C φ H p x/\y=.ref a/\φ[n]?=some a/\qU h n=some kvs/\p.isKt=true/\R φ (cG kvs p)
theorem B5 {φ:List Addr} {H:Hp} {h:PH} {p q:PV} {x y:V} {o:Option PV} {R:List Addr->Option PV->Prop} (rh:RH C φ H h) (rx:RV C φ H p x) (ry:RV C φ H q y) (e:nH p q h=some o) (r:R φ o):JF C x y H R:=by
 unfold nH at e
 cases q with
 | ref n=>
  obtain ⟨a,rfl,ha⟩:=ry
  dsimp only at e
  split at e
  ·rename_i hk
   cases e1:qU h n with
   | none=>rw [e1] at e; cases e
   | some kvs=>rw [e1] at e; cases e; exact ⟨φ,h,p,n,a,kvs,rh,rx,rfl,ha,e1,hk,r⟩
  ·cases e
 | _=>cases e
theorem OL (c:Cxt C k X):IxR X (fun x y H Q=>JF C y x H fun φ o=>∃ p,o=some p/\∀ v:V,RV C φ H p v->Q v H):=by
 intro value slice pins s σ H x y v u Q I rx ry h hs
 obtain ⟨φ,h,p,n,a,kvs,rh,rp,rfl,ha,ht,hk,p',ep,q⟩:=h
 cases rx
 obtain ⟨b,rfl⟩:=pG hk rp
 cases ry
 obtain ⟨⟨ks,xs,r,rx',hz,hm,dd⟩,_⟩:=Ci I c.K c.w rh ha ht
 have hT:=dd.typeIs
 have hv:=HD.val (a:=a) r rx' p
 rw [ep] at hv
 cases e2:atKey xs p with
 | none=>rw [e2] at hv; exact hv.elim
 | some z=>
  rw [e2] at hv
  obtain ⟨v',rv1,rv2⟩:=hv
  unfold subscriptTail
  refine wpAny_bind ?_
  rw [getitemInPython_of_ne hT.not_modules]
  refine wpAny_bind (wpAny_specialOf hT PySem.F.slot_dict_getitem.lookup ?_)
  have fin:wpAny (model X.prog X.w) X.A (subscripted slice false (.ref a) (.ref b)) (fun r s₃=>wpAny (model X.prog X.w) X.A (letTemporaryGo value (.ref a) r >>= fun _=>pure r) (EP X pins σ Q) X.xe s₃) X.xe s:=by
   rw [hs]
   exact wpAny_operating (wpAny_getItem_heap c.room6 (zN I c.K hk rp) dd e2 (wpAny_bind (wpAny_letTemporaryGo (wpAny_pure ⟨v',H,I.tok _,rv1,q v' rv2⟩))))
  first
   | exact wpAny_pure (wpAny_bind fin)
   | exact wpAny_bind (wpAny_pure (wpAny_bind fin))
   | exact wpAny_bind fin
def vAt:PV->PV->PH->Rs PV:=fun x y h=>match nH y x h with
 | some (some p)=>.ok p h
 | some none=>.bad
 | none=>vIx x y h
theorem bN {a b:Expr} {ma mb:Me} {pos:Pos} (ha:SE C k X a ma) (hb:SE C k X b mb) (hs:BW b:=by intro _ _; rfl):SE C k X (.Subscript a b pos) (aD vAt ma mb):=fun c=>
 (M7 ((ixC c.hu C.K c.K).or (OL c)) (ha c) (hb c) hs).imp fun σ H Q h=>by
  obtain ⟨φ,δ,h,rh,re,p⟩:=C2 h
  refine ⟨φ,δ,h,rh,re,p.imp ?_⟩
  rintro v H1 ⟨φ,δ,h,rh,re,p⟩
  refine ⟨φ,δ,h,rh,re,p.imp ?_⟩
  rintro u H2 ⟨φ,h,p,q,rh,rx,ry,po⟩
  unfold vAt at po
  cases e:nH q p h with
  | none=>rw [e] at po; exact .inl (ME ⟨φ,h,p,q,rh,rx,ry,po⟩)
  | some o=>
   rw [e] at po
   cases o with
   | none=>exact po.elim
   | some r=>exact .inr (B5 rh ry rx e ⟨r,rfl,fun v' rv=>po.val rh rv⟩)
def B6 (x y v:PV) (h:PH):Option PH:=match x with
 | .ref n=>match qL y,h[n]? with
  | some key,some (.dK kvs)=>if kvs.length < sizeLine then some (h.set n (.dK (jS kvs key v))) else none
  | some _,_=>none
  | none,_=>if y.isKt=true then (match qU h n with
   | some kvs=>if kvs.length < sizeLine then some (h.set n (.dD (jS kvs y v))) else none
   | none=>none) else none
 | _=>none
theorem B7 {φ:List Addr} {H:Hp} {κ:Type} [DecidableEq κ] {kvs:List (κ×PV)} {ks:List (κ×V)} (r:RKv C φ H kvs ks) (a:κ):(cG kvs a).isSome=(iC ks a).isSome:=by
 have:=tZ r a
 cases e1:cG kvs a with
 | none=>
  cases e2:iC ks a with
  | none=>rfl
  | some v=>rw [e1,e2] at this; exact this.elim
 | some p=>
  cases e2:iC ks a with
  | none=>rw [e1,e2] at this; exact this.elim
  | some v=>rfl
theorem zO {φ:List Addr} {H:Hp} {κ:Type} [DecidableEq κ] {kvs:List (κ×PV)} {ks:List (κ×V)} (r:RKv C φ H kvs ks) (a:κ) {p:PV} {v:V} (rp:RV C φ H p v):RKv C φ H (jS kvs a p) (putK ks a v):=by
 unfold jS putK
 rw [pZ,B7 r a]
 split
 ·rename_i hx
  clear hx
  unfold RKv at r ⊢
  induction r with
  | nil=>exact .nil
  | @cons p' q' ps qs h t ih=>
   refine .cons ?_ ih
   by_cases e:p'.1=a
   ·have e':q'.1=a:=h.1.symm.trans e
    simp only [if_pos e,if_pos e']
    exact ⟨h.1,rp⟩
   ·have e':¬ q'.1=a:=fun z=>e (h.1.trans z)
    simp only [if_neg e,if_neg e']
    exact h
 ·exact Paired.snoc r ⟨rfl,rp⟩
theorem uH {φ:List Addr} {H:Hp} {h h':PH} {px py pv:PV} {x y v:V} (c:Cxt C k X) (rh:RH C φ H h) (rx:RV C φ H px x) (ry:RV C φ H py y) (rv:RV C φ H pv v) (e:B6 px py pv h=some h') {pins:List (Addr×Obj)} {σ:St} {s:Shared} {xu yu vu:Value}
  {Q:Unit->Shared->Prop} (I:Inv X pins σ H s) (rxu:RelV x xu) (ryu:RelV y yu) (rvu:RelV v vu) (q:∀ s' H',Inv X pins σ H' s'->Kp H H'->RH C φ H' h'->Q () s'):wpAny (model X.prog X.w) X.A (setItem xu yu vu) Q X.xe s:=by
 unfold B6 at e
 cases px with
 | ref n=>
  obtain ⟨a,rfl,ha⟩:=rx
  cases rxu
  dsimp only at e
  split at e
  ·rename_i key kvs hkey hk
   split at e
   ·rename_i hl
    cases e
    obtain ⟨ks,hH,rk⟩:=rh.at' n a _ ha hk
    have ey:y=kV key:=wH ry hkey
    subst ey
    have hl':ks.length < sizeLine:=by rw [<- Paired.length rk]; exact hl
    refine CV c.hu I (.k hH hl') ryu rvu fun s' I'=>q s' _ I' (Kp.dK hH) ?_
    refine rh.write ha (by rw [hH]; exact True.intro) ⟨_,bO,?_⟩
    exact (zO rk key rv).mono List.prefix_rfl (Kp.dK hH)
   ·cases e
  ·cases e
  ·split at e
   ·rename_i hk
    split at e
    ·rename_i kvs ht
     split at e
     ·rename_i hl
      cases e
      obtain ⟨b,rfl⟩:=pG hk ry
      cases ryu
      obtain ⟨⟨ks,xs,r,rx',hz,hm,dd⟩,mu,nt⟩:=Ci I c.K c.w rh ha ht
      refine wpAny_setItem_heap (hsz:=hz) c.room6 (zN I c.K hk ry) dd fun h' dd' hs=>?_
      obtain ⟨ks',r1,r2⟩:=HD.put (a:=a) r rx' (pF hk) ry rv rvu
      obtain ⟨o,es,ep,hq,h2,h3,h4,_,h5⟩:=dd'
      have hl2:ks'.length<=sizeLine:=by
       have e1:=Paired.length r1
       have e2:(jS kvs py pv).length<=kvs.length+1:=by
        unfold jS
        split
        ·rw [List.length_map]; omega
        ·simp
       omega
      refine q _ (upd H a (dDO C.w a ks')) (vW I mu hs ⟨o,hq⟩ ⟨⟨hl2,hm,_,r2,o,es,ep,hq,h2,h3,?_,h5⟩,⟨o,hq⟩,?_⟩) (Kp.upd nt) ?_
      ·rw [h4,<- c.w]; rfl
      ·rintro g1 g2 ⟨z1,z2,ws,z3,o',es',ep',z4,z5⟩ keep
       exact ⟨z1,z2,ws,z3,o',es',ep',keep _ z4,z5⟩
      ·exact rh.write ha nt ⟨ks',bO,RKd.mono List.prefix_rfl (Kp.upd nt) r1⟩
     ·cases e
    ·cases e
   ·cases e
 | _=>cases e
end
end L2
set_option Elab.async false
set_option linter.all false
set_option maxRecDepth 100000
namespace L2
open PySem PySem.Spec PyProof.Rows
def MtG (C:MC) (k:Nat) (X:Cx) (T:String) (ty:PV->PH->Bool) (id:String) (g:PV->List PV->PH->Rs PV):Prop:=Cxt C k X->MtR X id (rM C g)/\
 ∀ pins s σ H φ h p x v,Inv X pins σ H s->RH C φ H h->RV C φ H p x->RelV x v->ty p h=true->s.TypeIs v T/\∀ a,v=.ref a->∃ ob,s.heap.get? a=some ob/\ob.dict=none
section
variable {C:MC} {k:Nat} {X:Cx}
section
variable {o e:Expr} {es:List Expr} {mo:Me} {ms:Ma} {name:Str} {apos cpos:Pos} {T id:String} {ty:PV->PH->Bool} {g:PV->List PV->PH->Rs PV}
theorem OM (pa:PlainAttrs T) (slot:Slot T name id) (hty:typeOf (.builtin id)=pure (.type "method_descriptor")) (hm:MtG C k X T ty id g) (ho:SE C k X o mo) (ha:SA C k X (e :: es) ms)
  (hbase:attributeBase o name X.env (eval o X.env)=eval o X.env:=by rfl)
  (hfew:((backTo cpos (starEach (e :: es) X.env)).all (fun x=>!x.1) && (backToKw cpos (keywordEach [] X.env)).all (fun x=>x.1.isSome)
   && decide ((e :: es).length+([]:List Keyword).length+(if ([]:List Keyword).isEmpty then 0 else 1) < 30))=true:=by rfl)
  (hline:(apos.endLine == cpos.line)=true:=by rfl) (hs:starEach (e :: es) X.env=(false,eval e X.env) :: starEach es X.env:=by rfl) (hplain:(backTo cpos (starEach es X.env)).any (·.1)=false:=by rfl):
  SE C k X (.Call (.Attribute o name apos) (e :: es) [] cpos) (mMt ty g mo ms):=fun c pins s σ H Q I ⟨φ,δ,h,rh,re,p⟩=>by
 refine wpAny_Call_method_late hbase hfew hline rfl (thn (ho c pins s σ H _ I ⟨φ,δ,h,rh,re,post.bind p⟩) ?_)
 rintro v s1 ⟨x,H1,I1,r1,φ1,px,h1,p1,t1,rh1,rv1,q1⟩
 obtain ⟨ht,q1⟩:=q1.ite
 obtain ⟨g1,g2⟩:=(hm c).2 pins s1 σ H1 φ1 h1 px x v I1 rh1 rv1 r1 ht
 refine ⟨T,id,pa,slot,hty,g1,g2,?_⟩
 have hA:=ha c cpos pins s1 σ H1 _ I1 ⟨φ1,δ,h1,rh1,re.mono p1 t1,postA.bind q1⟩
 rw [hs] at hA ⊢
 refine Calls.callWith_builtin (show (false || (backTo cpos (starEach es X.env)).any (·.1))=false by rw [hplain]; rfl) (Calls.evalArgs_plain (thn hA ?_))
 rintro us s2 ⟨vs,H2,I2,r2,φ2,ps,h2,p2,t2,rh2,rv2,q2⟩
 exact (hm c).1 pins s2 σ H2 x vs v us Q I2 r1 r2 ⟨φ2,h2,px,ps,rh2,rv1.mono p2 t2,rv2,q2⟩
theorem N3 (pa:PlainAttrs T) (slot:Slot T name id) (hty:typeOf (.builtin id)=pure (.type "method_descriptor")) (hm:MtG C k X T ty id g) (ho:SE C k X o mo)
  (hbase:attributeBase o name X.env (eval o X.env)=eval o X.env:=by rfl) (hline:(apos.endLine == cpos.line)=true:=by rfl):SE C k X (.Call (.Attribute o name apos) [] [] cpos) (KQ ty g mo):=fun c pins s σ H Q I ⟨φ,δ,h,rh,re,p⟩=>by
 refine wpAny_Call_method0_late hbase hline (thn (ho c pins s σ H _ I ⟨φ,δ,h,rh,re,post.bind p⟩) ?_)
 rintro v s1 ⟨x,H1,I1,r1,φ1,px,h1,p1,t1,rh1,rv1,q1⟩
 obtain ⟨ht,q1⟩:=q1.ite
 obtain ⟨g1,g2⟩:=(hm c).2 pins s1 σ H1 φ1 h1 px x v I1 rh1 rv1 r1 ht
 exact ⟨T,id,pa,slot,hty,g1,g2,Calls.callWith_builtin rfl (PySem.evalArgs_none ((hm c).1 pins s1 σ H1 x [] v [] Q I1 r1 .nil ⟨φ1,h1,px,[],rh1,rv1,trivial,q1⟩))⟩
end
def oG (x:PV) (h:PH):Bool:=match x with
 | .ref n=>match h[n]? with
  | some (.dK _)=>true
  | some (.dD _)=>true
  | _=>false
 | _=>false
theorem zP (c:Cxt C k X):∀ pins s σ H φ h p x v,Inv X pins σ H s->RH C φ H h->RV C φ H p x->RelV x v->oG p h=true->s.TypeIs v "dict" /\ ∀ a,v=.ref a->∃ ob,s.heap.get? a=some ob/\ob.dict=none:=by
 intro pins s σ H φ h p x v I rh rv r e
 unfold oG at e
 cases p with
 | ref n=>
  obtain ⟨a,rfl,ha⟩:=rv
  cases r
  dsimp only at e
  split at e
  ·rename_i kvs hk
   obtain ⟨ks,hH,rk⟩:=rh.at' n a _ ha hk
   obtain ⟨z,hd,vs,rel,dd⟩:=EE I.hok hH
   refine ⟨dd.typeIs,fun b eb=>?_⟩
   cases eb
   obtain ⟨ob,_,_,h1,h2,_⟩:=dd
   exact ⟨ob,h1,h2.2.1⟩
  ·rename_i kvs hk
   have ht:qU h n=some kvs:=by unfold qU; rw [hk]
   obtain ⟨⟨ks,xs,r,rx',hz,hm,dd⟩,_⟩:=Ci I c.K c.w rh ha ht
   refine ⟨dd.typeIs,fun b eb=>?_⟩
   cases eb
   obtain ⟨ob,_,_,h1,h2,_⟩:=dd
   exact ⟨ob,h1,h2.2.1⟩
  ·cases e
 | _=>cases e
def dG (h:PH) (x y:PV):Option (Option PV):=match nH y x h with
 | some o=>some o
 | none=>match x with
  | .ref n=>B0 h n y
  | _=>none
def Dk:PV->List PV->PH->Rs PV:=fun x ps h=>match ps with
 | [y]=>match dG h x y with
  | some o=>.ok (o.getD .non) h
  | none=>.bad
 | [y,z]=>match dG h x y with
  | some o=>.ok (o.getD z) h
  | none=>.bad
 | _=>.bad
theorem Fj {x y:PV} {h:PH} {o:Option PV} (e:nH x y h=some o):∃ n kvs,y=.ref n/\x.isKt=true/\qU h n=some kvs/\o=cG kvs x:=by
 unfold nH at e
 cases y with
 | ref n=>
  dsimp only at e
  split at e
  ·rename_i hk
   cases e1:qU h n with
   | none=>rw [e1] at e; cases e
   | some kvs=>rw [e1] at e; cases e; exact ⟨n,kvs,rfl,hk,e1,rfl⟩
  ·cases e
 | _=>cases e
theorem L4 (c:Cxt C k X):MtR X "dict.get" (rM C Dk):=fun pins s σ H x xs v us Q I rx rs h=>by
 obtain ⟨φ,h,p,ps,rh,rp,rps,po⟩:=h
 -- what is found
 have key:∀ {y:PV} {yv:V} {yu:Value} {o:Option PV} {d:PV} {dv:V} {du:Value} {more:List Value},dG h p y=some o->RV C φ H y yv->RelV yv yu->RV C φ H d dv->RelV dv du->
   ((more=[]/\du=.none/\dv=.non)\/more=[du])->(∀ z,RV C φ H (o.getD d) z->Q z H)->wpAny (model X.prog X.w) X.A (call (.builtin "dict.get") (v :: yu :: more)) (EP X pins σ Q) X.xe s:=by
  intro y yv yu o d dv du more e ry ryu rd rdu hm q
  unfold dG at e
  cases e1:nH y p h with
  | some o'=>
   rw [e1] at e
   cases e
   obtain ⟨n,kvs,rfl,hk,ht,rfl⟩:=Fj e1
   obtain ⟨a,rfl,ha⟩:=rp
   cases rx
   obtain ⟨b,rfl⟩:=pG hk ry
   cases ryu
   obtain ⟨⟨ks,xs,r,rx',hz,hm',dd⟩,_⟩:=Ci I c.K c.w rh ha ht
   have hv:=HD.val (a:=a) r rx' y
   have fin:EP X pins σ Q (((atKey xs y).map (·.2)).getD du) { s with toks:=s.toks+(jU X.prog X.w).draws y }:=by
    cases e2:cG kvs y with
    | some p2=>
     rw [e2] at hv q
     cases e3:atKey xs y with
     | none=>rw [e3] at hv; exact hv.elim
     | some z=>
      rw [e3] at hv
      obtain ⟨v',rv1,rv2⟩:=hv
      exact ⟨v',H,I.tok _,rv1,q v' rv2⟩
    | none=>
     rw [e2] at hv q
     cases e3:atKey xs y with
     | some z=>rw [e3] at hv; exact hv.elim
     | none=>exact ⟨dv,H,I.tok _,rdu,q dv rd⟩
   rcases hm with ⟨rfl,rfl,_⟩ | rfl
   ·exact call_meetsIn PySem.F.slot_dict_get dd.typeIs PySem.F.entry_dict_get (PySem.F.args_dict_get_2 _ _) (meetsH_dict_get (jU X.prog X.w) a b hm') ⟨c.room6,y,xs,zN I c.K hk ry,dd,fin⟩
   ·exact call_meetsIn PySem.F.slot_dict_get dd.typeIs PySem.F.entry_dict_get (PySem.F.args_dict_get_3 _ _ _) (meetsH_dict_get_default (jU X.prog X.w) a b hm' du) ⟨c.room6,y,xs,zN I c.K hk ry,dd,fin⟩
  | none=>
   rw [e1] at e
   cases p with
   | ref n=>
    obtain ⟨a,rfl,ha⟩:=rp
    cases rx
    dsimp only at e
    obtain ⟨o',g,is,val⟩:=qM rh ha ry e
    have fin:∀ w' s',Inv X pins σ H s'->RelV (o'.getD dv) w'->EP X pins σ Q w' s':=fun w' s' I' r'=>by
     refine ⟨o'.getD dv,H,I',r',q _ ?_⟩
     cases o with
     | some p2=>obtain ⟨w2,rfl,rw2⟩:=val p2 rfl; exact rw2
     | none=>
      cases o' with
      | none=>exact rd
      | some z=>cases is
    rcases hm with ⟨rfl,rfl,rfl⟩ | rfl
    ·exact Kj c.hu I g ryu fin
    ·exact Kk c.hu I g ryu rdu fin
   | _=>cases e
 unfold Dk at po
 split at po
 ·rename_i y
  split at po
  ·rename_i o e
   obtain ⟨yv,rfl,ry⟩:=rps.one
   obtain ⟨yu,rfl,ryu⟩:=vals1 rs
   exact key (d:=.non) (dv:=.non) (du:=.none) e ry ryu rfl rfl (.inl ⟨rfl,rfl,rfl⟩) fun z rz=>po.val rh rz
  ·exact po.elim
 ·rename_i y z
  split at po
  ·rename_i o e
   obtain ⟨yv,zv,rfl,ry,rz⟩:=rps.two
   obtain ⟨yu,zu,rfl,ryu,rzu⟩:=vals2 rs
   exact key e ry ryu rz rzu (.inr rfl) fun z rz=>po.val rh rz
  ·exact po.elim
 ·exact po.elim
theorem N4:MtG C k X "dict" oG "dict.get" Dk:=fun c=>⟨L4 c,zP c⟩
def iM:List PV->Option (List (Key×PV))
 | []=>some []
 | .tup [y,v] :: r=>match qL y,iM r with
  | some key,some rs=>some ((key,v) :: rs)
  | _,_=>none
 | _ :: _=>none
def nI (kvs more:List (Key×PV)):List (Key×PV):=more.foldl (fun acc kv=>jS acc kv.1 kv.2) kvs
theorem B8 {φ:List Addr} {H:Hp}:∀ {more:List (Key×PV)} {ms:List (Key×V)} {kvs:List (Key×PV)} {ks:List (Key×V)},RKv C φ H more ms->RKv C φ H kvs ks->RKv C φ H (nI kvs more) (mX ks ms):=by
 intro more ms kvs ks r
 unfold RKv at r
 induction r generalizing kvs ks with
 | nil=>intro q; exact q
 | @cons p q ps qs h t ih=>
  intro r0
  have e:=zO r0 p.1 h.2
  rw [show putK ks p.1 q.2=putK ks q.1 q.2 by rw [h.1]] at e
  exact ih e
theorem Inv.tupleD {pins:List (Addr×Obj)} {σ:St} {H:Hp} {s:Shared} {a:Addr} {xs:List V} (I:Inv X pins σ H s) (h:SqT X.K H a xs):∃ its:List Value,aK xs its/\kO s.heap a its.toArray/\xs.length<=sizeLine:=by
 rcases h with h | ⟨o,its,n,hk,hc,hs,hz,r,hd⟩
 ·obtain ⟨z,its,r,p⟩:=h.ok I.hok
  exact ⟨its,r,p,z⟩
 ·refine ⟨its.toList,r,⟨o,I.kIn a o hk,hc,⟨n,by simpa using hs⟩,hd⟩,?_⟩
  have e:=r.length
  rw [e]
  simpa using hz
theorem uI {pins:List (Addr×Obj)} {σ:St} {H:Hp} {s:Shared} {φ:List Addr} (I:Inv X pins σ H s) (hK:X.K=C.K):∀ {ps:List PV} {rs:List (Key×PV)} {vs:List V} {us:List Value},iM ps=some rs->RVs C φ H ps vs->aK vs us->
  ∃ qs:List (Addr×Key×Value×Value),us=qs.map (fun q=>Value.ref q.1)/\(∀ q∈qs,(aZ X.prog X.w).is q.2.1 q.2.2.1=true)/\(∀ q∈qs,IsTup s.heap q.1 #[q.2.2.1,q.2.2.2])/\∃ ws:List (Key×V),RKv C φ H rs ws/\KV ws (qs.map fun q=>(q.2.1,q.2.2.2))
 | [],rs,[],us,e,_,ru=>by
  cases ru
  cases e
  exact ⟨[],rfl,(fun _ h=>nomatch h),(fun _ h=>nomatch h),[],.nil,.nil⟩
 | p :: ps,rs,v :: vs,us,e,r,ru=>by
  cases ru with
  | @cons _ u _ us' h t=>
   cases p with
   | tup xs=>
    match xs,e with
    | [y,z],e=>
     unfold iM at e
     cases e1:qL y with
     | none=>rw [e1] at e; cases e
     | some key=>
      cases e2:iM ps with
      | none=>rw [e1,e2] at e; cases e
      | some rs'=>
       rw [e1,e2] at e
       cases e
       obtain ⟨qs,rfl,a1,a2,ws,a3,a4⟩:=uI I hK e2 r.2 t
       obtain ⟨b,bs,rfl,sq,rb⟩:=r.1
       cases h
       obtain ⟨yv,zv,rfl,ry,rz⟩:=rb.two
       rw [<- hK] at sq
       obtain ⟨its,rits,pt,_⟩:=I.tuple sq
       obtain ⟨yu,zu,rfl,ryu,rzu⟩:=vals2 rits
       have ey:=wH ry e1
       subst ey
       refine ⟨(b,key,yu,zu) :: qs,rfl,?_,?_,(key,zv) :: ws,.cons ⟨rfl,rz⟩ a3,.cons ⟨rfl,rzu⟩ a4⟩
       ·intro q hq
        rcases List.mem_cons.mp hq with rfl | hq
        ·exact tK ryu
        ·exact a1 q hq
       ·intro q hq
        rcases List.mem_cons.mp hq with rfl | hq
        ·exact pt
        ·exact a2 q hq
    | [],e=>cases e
    | [_],e=>cases e
    | _ :: _ :: _ :: _,e=>cases e
   | _=>cases e
 | [],_,_ :: _,_,_,r,_=>r.elim
 | _ :: _,_,[],_,_,r,_=>r.elim
def qV:List PV->PH->Rs PV:=fun xs h=>match xs with
 | [.tup ps]=>match iM ps with
  | some rs=>.ok (.ref h.length) (h++[.dK (nI [] rs)])
  | none=>.bad
 | [.ref n]=>match h[n]? with
  | some (.dK kvs)=>.ok (.ref h.length) (h++[.dK kvs])
  | _=>.bad
 | _=>.bad
theorem Fk:eR C k X (.type "dict") qV:=fun c pins s σ H xs us Q I r h=>by
 obtain ⟨φ,h,ps,rh,rv,po⟩:=h
 unfold qV at po
 split at po
 ·rename_i ps
  split at po
  ·rename_i rs e
   obtain ⟨v,rfl,rx⟩:=rv.one
   obtain ⟨a,vs,rfl,sa,ra⟩:=rx
   obtain ⟨u,rfl,ru⟩:=vals1 r
   cases ru
   have hl:=ra.length
   have sa':=sa
   rw [<- c.K] at sa'
   obtain ⟨its,rits,⟨o,o1,o2,⟨n,o3⟩,o4⟩,hz⟩:=Inv.tupleD I sa'
   obtain ⟨qs,rfl,a1,a2,ws,a3,a4⟩:=uI I c.K e ra rits
   have hq:qs.length<=sizeLine:=by
    have:=rits.length
    rw [List.length_map] at this
    omega
   refine oV (I.ok.hd c.calm) o1 o2 o3 o4 a1 a2 hq fun h' tk dd kk=>?_
   have r1:=B8 a3 (.nil:RKv C φ H [] [])
   have hz2:(mX [] ws).length<=sizeLine:=by
    have h1:=jT ws []
    have h2:=KV.length a4
    rw [List.length_map] at h2
    simp at h1
    omega
   have fr:H s.heap.objs.size=none:=I.fresh
   refine ⟨.ref s.heap.objs.size,_,I.laid (a:=s.heap.objs.size) (o:=.dK (mX [] ws)) (t':=tk) kk (Nat.le_refl _) (AN hz2 (beq_eq_false_iff_ne.mpr (Ne.symm (Nat.ne_of_lt I.big))) (a4.merge .nil) dd),rfl,?_⟩
   exact po (φ++[s.heap.objs.size]) (.ref _) _ (List.prefix_append _ _) (Kp.new fr) (rh.new fr ⟨_,bO,r1.mono (List.prefix_append _ _) (Kp.new fr)⟩) ⟨_,rfl,by rw [<- rh.len]; simp⟩
  ·exact po.elim
 ·rename_i n
  split at po
  ·rename_i kvs hk
   obtain ⟨v,rfl,rx⟩:=rv.one
   obtain ⟨a,rfl,ha⟩:=rx
   obtain ⟨u,rfl,ru⟩:=vals1 r
   cases ru
   obtain ⟨ks,hH,rk⟩:=rh.at' n a _ ha hk
   refine EF I (.inl hH) fun p s' hp I'=>⟨.ref p,_,I',rfl,?_⟩
   exact po (φ++[p]) (.ref _) _ (List.prefix_append _ _) (Kp.new hp) (rh.new hp ⟨_,bO,rk.mono (List.prefix_append _ _) (Kp.new hp)⟩) ⟨_,rfl,by rw [<- rh.len]; simp⟩
  ·exact po.elim
 ·exact po.elim
end
end L2
set_option Elab.async false
set_option linter.all false
set_option maxRecDepth 100000
namespace L2
open PySem PySem.Spec PyProof.Rows
def Dl (x:List Key):List (List Key)->List (List Key)
 | []=>[x]
 | y :: ys=>if cI y x=true then y :: Dl x ys else x :: y :: ys
def cB:List (List Key)->List (List Key)
 | []=>[]
 | x :: xs=>Dl x (cB xs)
theorem nJ (x:List Key):∀ ys,(Dl x ys).Perm (x :: ys)
 | []=>.refl _
 | y :: ys=>by
  unfold Dl
  split
  ·exact ((nJ x ys).cons y).trans (.swap x y ys)
  ·exact .refl _
theorem dP:∀ xs,(cB xs).Perm xs
 | []=>.refl _
 | x :: xs=>(nJ x _).trans ((dP xs).cons x)
theorem oH {S:List Bool} {x:List Key} (hx:shape x=S):∀ {ys:List (List Key)},(∀ y∈ys,shape y=S)->ys.Pairwise (fun a b=>cI b a=false)->(Dl x ys).Pairwise (fun a b=>cI b a=false)
 | [],_,_=>List.pairwise_singleton _ _
 | y :: ys,hs,hp=>by
  have hy:=hs y List.mem_cons_self
  have hs':=fun z hz=>hs z (List.mem_cons_of_mem _ hz)
  rw [List.pairwise_cons] at hp
  unfold Dl
  split
  ·rename_i h
   rw [List.pairwise_cons]
   refine ⟨fun z hz=>?_,oH hx hs' hp.2⟩
   rcases List.mem_cons.mp ((nJ x ys).mem_iff.mp hz) with rfl | hz
   ·exact wA h
   ·exact hp.1 z hz
  ·rename_i h
   have h':cI y x=false:=by simpa using h
   rw [List.pairwise_cons]
   refine ⟨fun z hz=>?_,List.pairwise_cons.mpr hp⟩
   rcases List.mem_cons.mp hz with rfl | hz
   ·exact h'
   ·exact pB (hx.trans hy.symm) (hy.trans (hs' z hz).symm) h' (hp.1 z hz)
theorem fA {S:List Bool}:∀ {xs:List (List Key)},(∀ y∈xs,shape y=S)->(cB xs).Pairwise (fun a b=>cI b a=false)
 | [],_=>.nil
 | x :: xs,hs=>oH (hs x List.mem_cons_self) (fun y hy=>hs y (List.mem_cons_of_mem _ ((dP xs).mem_iff.mp hy))) (fA fun y hy=>hs y (List.mem_cons_of_mem _ hy))
theorem kI {S:List Bool} {xs ys:List (List Key)} (hs:∀ y∈xs,shape y=S) (hp:ys.Perm xs) (h:ys.Pairwise (fun a b=>cI b a=false)):ys=cB xs:=by
 refine List.Perm.eq_of_pairwise (le:=fun a b=>cI b a=false) (fun a b ha hb h1 h2=>?_) h (fA hs) (hp.trans (dP xs).symm)
 exact yY ((hs a (hp.mem_iff.mp ha)).trans (hs b ((dP xs).mem_iff.mp hb)).symm) h2 h1
def kP:Key->PV
 | .inl i=>.int i
 | .inr x=>.str x
theorem Iq {x:PV} {a:Key} (h:qL x=some a):x=kP a:=by
 cases x <;> first | (cases h; rfl) | cases h
@[simp] theorem Cj (a:Key):qL (kP a)=some a:=by cases a <;> rfl
def hZ:List PV->Option (List Key)
 | []=>some []
 | x :: xs=>match qL x,hZ xs with
  | some a,some r=>some (a :: r)
  | _,_=>none
theorem lG:∀ {xs:List PV} {ks:List Key},hZ xs=some ks->xs=ks.map kP
 | [],_,h=>by cases h; rfl
 | x :: xs,ks,h=>by
  unfold hZ at h
  cases e1:qL x with
  | none=>rw [e1] at h; cases h
  | some a=>
   cases e2:hZ xs with
   | none=>rw [e1,e2] at h; cases h
   | some r=>
    rw [e1,e2] at h
    cases h
    rw [Iq e1,lG e2]
    rfl
@[simp] theorem Fm:∀ ks:List Key,hZ (ks.map kP)=some ks
 | []=>rfl
 | a :: ks=>by simp [hZ,Fm ks]
def tP (ks:List Key):PV:=.tup (ks.map kP)
def iA:List PV->Option (List (List Key))
 | []=>some []
 | .tup xs :: r=>match hZ xs,iA r with
  | some a,some b=>some (a :: b)
  | _,_=>none
 | _ :: _=>none
theorem zQ:∀ {xs:List PV} {ks:List (List Key)},iA xs=some ks->xs=ks.map tP
 | [],_,h=>by cases h; rfl
 | x :: xs,ks,h=>by
  cases x with
  | tup ys=>
   unfold iA at h
   cases e1:hZ ys with
   | none=>rw [e1] at h; cases h
   | some a=>
    cases e2:iA xs with
    | none=>rw [e1,e2] at h; cases h
    | some r=>
     rw [e1,e2] at h
     cases h
     rw [lG e1,zQ e2]
     rfl
  | _=>cases h
@[simp] theorem qW:∀ ks:List (List Key),iA (ks.map tP)=some ks
 | []=>rfl
 | a :: ks=>by simp [iA,tP,qW ks]
def wU (kss:List (List Key)):Bool:=match kss with
 | []=>true
 | a :: r=>(!a.isEmpty) && r.all fun x=>shape x == shape a
theorem qX {kss:List (List Key)} (h:wU kss=true):∃ b sh,∀ ks∈kss,shape ks=b :: sh:=by
 cases kss with
 | nil=>exact ⟨true,[],fun _ h=>nomatch h⟩
 | cons a r=>
  unfold wU at h
  rw [Bool.and_eq_true] at h
  cases a with
  | nil=>cases h.1
  | cons z zs=>
   refine ⟨cF z,shape zs,fun ks hk=>?_⟩
   rcases List.mem_cons.mp hk with rfl | hk
   ·rfl
   ·have:=List.all_eq_true.mp h.2 ks hk
    exact eq_of_beq this
section
variable {C:MC} {k:Nat} {X:Cx}
theorem N5 {φ:List Addr} {H:Hp} {a:Key} {v:V}:RV C φ H (kP a) v ↔ Rep C.K H (kD a) v:=by cases a <;> exact Iff.rfl
theorem wV {φ:List Addr} {H:Hp}:∀ {ks:List Key} {vs:List V},RVs C φ H (ks.map kP) vs ↔ cH C.K H (ks.map kD) vs
 | [],[]=>Iff.rfl
 | [],_ :: _=>Iff.rfl
 | _ :: _,[]=>Iff.rfl
 | _ :: _,_ :: _=>and_congr N5 wV
theorem N6 {φ:List Addr} {H:Hp} {ks:List Key} {v:V}:RV C φ H (tP ks) v ↔ Rep C.K H (tD ks) v:=by
 constructor
 ·rintro ⟨a,vs,e,s,r⟩; exact ⟨a,vs,e,s,wV.mp r⟩
 ·rintro ⟨a,vs,e,s,r⟩; exact ⟨a,vs,e,s,wV.mpr r⟩
theorem pH {φ:List Addr} {H:Hp}:∀ {kss:List (List Key)} {vs:List V},RVs C φ H (kss.map tP) vs ↔ cH C.K H (kss.map tD) vs
 | [],[]=>Iff.rfl
 | [],_ :: _=>Iff.rfl
 | _ :: _,[]=>Iff.rfl
 | _ :: _,_ :: _=>and_congr N6 pH
def qY:PV->List PV->PH->Rs PV:=fun x ps h=>match x,ps with
 | .ref n,[]=>match h[n]? with
  | some (.dK _)=>.ok (.ref h.length) (h++[.vw 0 n])
  | _=>.bad
 | _,_=>.bad
theorem Ir:MtG C k X "dict" oG "dict.items" qY:=fun c=>⟨MtR.imp (show MtR X "dict.items" ER from ES) fun x xs H Q h=>by
 obtain ⟨φ,h,p,ps,rh,rp,rps,po⟩:=h
 unfold qY at po
 split at po
 ·rename_i n
  split at po
  ·rename_i kvs hk
   obtain ⟨a,rfl,ha⟩:=rp
   obtain ⟨ks,hH,rk⟩:=rh.at' n a _ ha hk
   have:xs=[]:=by cases xs <;> first | rfl | exact rps.elim
   subst this
   refine ⟨a,ks,rfl,rfl,hH,fun l hl=>?_⟩
   refine po (φ++[l]) (.ref l) _ (List.prefix_append _ _) (Kp.new hl) (rh.new hl ⟨a,fY (List.prefix_append _ _) ha,bO⟩) ⟨l,rfl,by rw [<- rh.len]; simp⟩
  ·exact po.elim
 ·exact po.elim,zP c⟩
def Fo (xs:List PV):Option (List PV):=match iA xs with
 | some kss=>if kss.length < 64/\wU kss=true then some ((cB kss).map tP) else none
 | none=>match hZ xs with
  | some ks=>if ks.length < 64/\ks.all (fun x=>cF x == cF (.inr ""))=true then some ((cB (ks.map fun x=>[x])).flatten.map kP) else none
  | none=>none
theorem RH.same {φ:List Addr} {H H1:Hp} {h:PH} (r:RH C φ H h) (s:yR H H1):RH C φ H1 h:=⟨r.len,r.nd,fun n b ob h1 h2=>by
 have q:=r.at' n b ob h1 h2
 obtain ⟨u,hu⟩:=q.some
 exact q.stay List.prefix_rfl (Kp.same s) ((s _ _ hu).trans hu.symm)⟩
theorem Iu {a b:Str}:cI [.inr a] [.inr b]=decide (a.cps.toList < b.cps.toList):=by
 unfold cI
 split
 ·rename_i e
  cases e
  simp [cI,List.lt_irrefl]
 ·rfl
theorem oI:∀ {r:List Str} {p:Str},risingS p r=true->((p :: r).map fun x=>[(Sum.inr x:Key)]).Pairwise (fun a b=>cI b a=false)
 | [],p,_=>List.pairwise_singleton _ _
 | x :: r,p,h=>by
  have h0:cI [.inr x] [.inr p]=false/\risingS x r=true:=by
   unfold risingS at h
   rw [Bool.and_eq_true,ltCps_eq] at h
   rw [Iu]
   exact ⟨by simpa using h.1,h.2⟩
  have ih:=oI h0.2
  rw [List.map_cons,List.pairwise_cons]
  refine ⟨fun z hz=>?_,ih⟩
  obtain ⟨y,hy,rfl⟩:=List.mem_map.mp hz
  rcases List.mem_cons.mp hy with rfl | hy
  ·exact h0.1
  ·rw [List.map_cons,List.pairwise_cons] at ih
   exact pB (a:=[.inr p]) (b:=[.inr x]) (c:=[.inr y]) rfl rfl h0.1 (ih.1 _ (List.mem_map.mpr ⟨y,hy,rfl⟩))
theorem Iv {ks:List Key} (h:ks.all (fun x=>cF x == cF (.inr ""))=true):∃ ss:List Str,ks=ss.map Sum.inr:=by
 induction ks with
 | nil=>exact ⟨[],rfl⟩
 | cons a ks ih=>
  rw [List.all_cons,Bool.and_eq_true] at h
  obtain ⟨ss,e⟩:=ih h.2
  cases a with
  | inl i=>exact absurd h.1 (by simp [cF])
  | inr x=>exact ⟨x :: ss,by rw [e]; rfl⟩
theorem wW {φ:List Addr} {H:Hp}:∀ {ss:List Str} {vs:List V},RVs C φ H (ss.map PV.str) vs ↔ vs=ss.map V.str
 | [],[]=>by simp [RVs]
 | [],_ :: _=>by simp [RVs]
 | _ :: _,[]=>by simp [RVs]
 | x :: ss,v :: vs=>by
  simp only [List.map_cons,RVs,List.cons.injEq]
  exact and_congr Iff.rfl wW
theorem uJ:∀ ss:List Str,(((ss.map fun x=>[(Sum.inr x:Key)]).flatten).map kP)=ss.map PV.str
 | []=>rfl
 | x :: ss=>by
  have:=uJ ss
  simp only [List.map_cons,List.flatten_cons,List.singleton_append]
  rw [this]
  rfl
theorem Dm {φ:List Addr} {H:Hp} {kvs:List (Key×PV)} {ks:List (Key×V)} (r:RKv C φ H kvs ks):∀ {kss:List (List Key)},iA (kvs.map fun kv=>PV.tup [kP kv.1,kv.2])=some kss->ks.map (fun kv=>[kV kv.1,kv.2])=kss.map (fun ks=>ks.map kV):=by
 unfold RKv at r
 induction r with
 | nil=>intro kss h; cases h; rfl
 | @cons p q ps qs h t ih=>
  intro kss e
  rw [List.map_cons] at e
  unfold iA at e
  cases e1:hZ [kP p.1,p.2] with
  | none=>rw [e1] at e; cases e
  | some a=>
   cases e2:iA (ps.map fun kv=>PV.tup [kP kv.1,kv.2]) with
   | none=>rw [e1,e2] at e; cases e
   | some b=>
    rw [e1,e2] at e
    cases e
    rw [List.map_cons,List.map_cons,ih e2]
    congr 1
    unfold hZ at e1
    rw [Cj] at e1
    cases e3:hZ [p.2] with
    | none=>rw [e3] at e1; cases e1
    | some c=>
     rw [e3] at e1
     cases e1
     have:=lG e3
     match c,this with
     | [d],this=>
      have e4:p.2=kP d:=by simpa using this
      have rv:=h.2
      rw [e4] at rv
      have e5:q.2=kV d:=wH rv (Cj d)
      rw [h.1,e5]
      rfl
     | [],this=>exact absurd this (by simp)
     | _ :: _ :: _,this=>exact absurd this (by simp)
def Ck (h:PH) (n:Nat):Option (List PV):=match h[n]? with
 | some (.vw 0 d)=>match h[d]? with
  | some (.dK kvs)=>some (kvs.map fun kv=>.tup [kP kv.1,kv.2])
  | _=>none
 | _=>none
def eT:List PV->PH->Rs PV:=fun xs h=>match xs with
 | [.ref n]=>match aM h n with
  | some ys=>match Fo ys with
   | some zs=>.ok (.ref h.length) (h++[.lst zs])
   | none=>.bad
  | none=>match Ck h n with
   | some ys=>match iA ys with
    | some kss=>if kss.length < 64/\wU kss=true then .ok (.ref h.length) (h++[.lst ((cB kss).map tP)]) else .bad
    | none=>.bad
   | none=>.bad
 | _=>.bad
theorem zR:eR C k X (.builtin "sorted") eT:=fun c=>bE.imp (bE.or (wF c.calm C.K c.K) (by have:=mY (X:=X); rw [c.K] at this; exact this)) fun vs H Q h=>by
 obtain ⟨φ,h,ps,rh,rv,po⟩:=h
 unfold eT at po
 split at po
 ·rename_i n
  obtain ⟨v,rfl,rx⟩:=rv.one
  obtain ⟨a,rfl,ha⟩:=rx
  split at po
  ·rename_i ys e
   obtain ⟨a2,vs,ha2,sa,ra⟩:=bF rh e
   rw [ha] at ha2; cases ha2
   split at po
   ·rename_i zs ez
    unfold Fo at ez
    split at ez
    ·rename_i kss ek
     split at ez
     ·rename_i hc
      cases ez
      have ey:=zQ ek
      subst ey
      obtain ⟨b,sh,hsh⟩:=qX hc.2
      refine .inl ⟨a,kss,sh,b,rfl,hc.1,hsh,.inl ⟨vs,sa,pH.mp ra,fun l kss' vs' hl hp hs hr=>?_⟩⟩
      rw [kI hsh hp hs] at hr
      exact po.lnew rh (pH.mpr hr) hl
     ·cases ez
    ·split at ez
     ·rename_i ks ek
      split at ez
      ·rename_i hc
       cases ez
       obtain ⟨ss,rfl⟩:=Iv hc.2
       have ey:=lG ek
       rw [List.map_map] at ey
       have ey':ys=ss.map PV.str:=ey
       subst ey'
       have ev:=wW.mp ra
       subst ev
       refine .inr ⟨a,ss,rfl,sa,by simpa using hc.1,fun l ss' hl hp hs=>?_⟩
       have e1:(ss'.map fun x=>[(Sum.inr x:Key)])=cB ((ss.map Sum.inr).map fun x=>[x]):=by
        rw [List.map_map]
        refine kI (S:=[false]) (fun y hy=>?_) (hp.map _) ?_
        ·obtain ⟨z,_,rfl⟩:=List.mem_map.mp hy; rfl
        ·cases ss' with
         | nil=>exact .nil
         | cons x r=>exact oI hs
       rw [<- e1] at po
       refine po.lnew rh ?_ hl
       have e2:(((ss'.map fun x=>[(Sum.inr x:Key)]).flatten).map kP)=ss'.map PV.str:=uJ ss'
       rw [e2]
       exact wW.mpr rfl
      ·cases ez
     ·cases ez
   ·exact po.elim
  ·split at po
   ·rename_i ys ev
    split at po
    ·rename_i kss ek
     obtain ⟨hc,po⟩:=po.ite
     unfold Ck at ev
     split at ev
     ·rename_i d hv
      split at ev
      ·rename_i kvs hk
       cases ev
       obtain ⟨b,hb,hH⟩:=rh.at' n a _ ha hv
       obtain ⟨ks,hD,rk⟩:=rh.at' d b _ hb hk
       obtain ⟨bb,sh,hsh⟩:=qX hc.2
       refine .inl ⟨a,kss,sh,bb,rfl,hc.1,hsh,.inr ⟨b,ks,hH,hD,?_,fun H1 s1 l kss' vs' hl hp hs hr=>?_⟩⟩
       ·exact Dm rk ek
       ·rw [kI hsh hp hs] at hr
        exact (post.weak List.prefix_rfl (Kp.same s1) po).lnew (rh.same s1) (pH.mpr hr) hl
      ·cases ev
     ·cases ev
    ·exact po.elim
   ·exact po.elim
 ·exact po.elim
end
end L2
set_option Elab.async false
set_option linter.all false
set_option maxRecDepth 100000
namespace L2
open PySem
section
variable {h:PH}
@[simp] theorem N7 {x:PV} {xs:List PV}:nH x (.tup xs) h=none:=(rfl)
@[simp] theorem O2 {x:PV} {xs:List PV}:nH x (.fl xs) h=none:=(rfl)
@[simp] theorem LG {x:PV} {z:Str}:nH x (.str z) h=none:=(rfl)
@[simp] theorem N8 {i:Int} {y:PV}:nH (.int i) y h=none:=by cases y <;> rfl
@[simp] theorem N9 {i:Str} {y:PV}:nH (.str i) y h=none:=by cases y <;> rfl
@[simp] theorem O3 {x:PV} {i:Int}:vAt x (.int i) h=vIx x (.int i) h:=by unfold vAt; simp
theorem zS {n:Nat} {kvs:List (Key×PV)} (e:h[n]?=some (.dK kvs)):oG (.ref n) h=true:=by unfold oG; simp [e]
theorem Iw {n:Nat} {kvs:List (Key×PV)} {x:Str} {z:PV} (e:h[n]?=some (.dK kvs)):Dk (.ref n) [.str x,z] h=.ok ((cG kvs (.inr x)).getD z) h:=by
 simp [Dk,dG,B0,e,qL]
theorem Iy {n:Nat} {kvs:List (Key×PV)} {x:Str} {z:PV} (e:h[n]?=some (.dK kvs)) (c:kvs.length < 16777216):B6 (.ref n) (.str x) z h=some (h.set n (.dK (jS kvs (.inr x) z))):=by
 simp [B6,e,qL,c]
theorem Dn {n:Nat} {kvs:List (Key×PV)} (e:h[n]?=some (.dK kvs)):qY (.ref n) [] h=.ok (.ref h.length) (h++[.vw 0 n]):=by simp [qY,e]
theorem sP {n d:Nat} {kvs:List (Key×PV)} {kss:List (List Key)} (e1:h[n]?=some (.vw 0 d)) (e2:h[d]?=some (.dK kvs)) (ek:kvs.map (fun kv=>PV.tup [kP kv.1,kv.2])=kss.map tP) (h1:kss.length < 64) (h2:wU kss=true):
  eT [.ref n] h=.ok (.ref h.length) (h++[.lst ((cB kss).map tP)]):=by
 have e3:aM h n=none:=by simp [aM,e1]
 have e4:Ck h n=some (kvs.map fun kv=>PV.tup [kP kv.1,kv.2]):=by simp [Ck,e1,e2]
 simp only [eT,e3,e4,ek,qW]
 rw [if_pos ⟨h1,h2⟩]
theorem wX {n:Nat} {kss:List (List Key)} (e1:h[n]?=some (.lst (kss.map tP))) (h1:kss.length < 64) (h2:wU kss=true):
  eT [.ref n] h=.ok (.ref h.length) (h++[.lst ((cB kss).map tP)]):=by
 have e3:aM h n=some (kss.map tP):=by simp [aM,e1]
 simp only [eT,e3,Fo,qW]
 rw [if_pos ⟨h1,h2⟩]
theorem zT {ps:List PV} {rs:List (Key×PV)} (e:iM ps=some rs):qV [.tup ps] h=.ok (.ref h.length) (h++[.dK (nI [] rs)]):=by simp [qV,e]
end
end L2
set_option Elab.async false
set_option linter.all false
set_option maxRecDepth 100000
namespace L2
open PySem PySem.Spec PyProof.Rows
section
variable {C:MC} {k:Nat} {X:Cx}
end
end L2
set_option Elab.async false
set_option linter.all false
set_option maxRecDepth 100000
namespace L2
open PySem PySem.Spec PyProof.Rows
section
variable {C:MC} {k:Nat} {X:Cx}
def Iz (h:PH) (d:Nat):Option (List PV):=match h[d]? with
 | some (.dK kvs)=>some (kvs.map (·.2))
 | some (.dD kvs)=>some (kvs.map (·.2))
 | _=>none
def Fp (h:PH) (n:Nat):Option (List PV):=match h[n]? with
 | some (.vw 1 d)=>Iz h d
 | _=>none
end
end L2
set_option Elab.async false
set_option linter.all false
set_option maxRecDepth 100000
namespace L2
open PySem PySem.Spec PyProof.Rows
section
variable {C:MC} {k:Nat} {X:Cx}
end
section
variable {h:PH}
end
end L2
set_option Elab.async false
set_option linter.all false
set_option maxRecDepth 100000
namespace L2
open PySem PySem.Spec PyProof.Rows PySem.SeqAt PySem.W
def ON (l:List Nat):List Int:=l.map (fun (c:Nat)=>(c:Int)+2)++[1]
mutual
def enc:PV->List Int
 | .int i=>[i]
 | .str x=>ON x.cps.toList
 | .tup xs=>N' xs
 | _=>[]
def N':List PV->List Int
 | []=>[0]
 | x :: xs=>1 :: (enc x++N' xs)
end
def ltN (x y:PV):Bool:=decide (enc x < enc y)
section
variable {α:Type} (key:α->PV)
def Na (x:α):List α->List α
 | []=>[x]
 | y :: ys=>if ltN (key y) (key x) then y :: Na x ys else x :: y :: ys
def JG:List α->List α
 | []=>[]
 | x :: xs=>Na key x (JG xs)
end
section
variable {prog:Program} {w:World} {A:Around} {E:Value->Shared->Prop} {s:Shared}
def fk:PV->Nat
 | .tup (.int _ :: _)=>0
 | .tup (.str _ :: _)=>1
 | .tup (.tup _ :: _)=>2
 | _=>3
end
structure OkN (m:Nat) (xs:List PV):Prop where
 m3:m < 3
 ky:∀ x∈xs,x.ky 20=true
 fk:∀ x∈xs,fk x=m
 lt:∀ x∈xs,∀ y∈xs,(ltP 20 x y).isSome=true
section
variable {C:MC} {k:Nat} {X:Cx}
def uK:List PV->Option (List Str)
 | []=>some []
 | .str x :: r=>(uK r).map (x :: ·)
 | _=>none
theorem zU:∀ ss:List Str,uK (ss.map PV.str)=some ss
 | []=>rfl
 | x :: r=>by
  show (uK (r.map PV.str)).map (x :: ·)=_
  rw [zU r]
  rfl
theorem zV:∀ {xs:List PV} {ss:List Str},uK xs=some ss->xs=ss.map PV.str
 | [],ss,h=>by cases h; rfl
 | x :: r,ss,h=>by
  cases x with
  | str z=>
   have h':(uK r).map (z :: ·)=some ss:=h
   obtain ⟨t,ht,rfl⟩:=Option.map_eq_some_iff.mp h'
   rw [zV ht]
   rfl
  | _=>cases h
end
end L2
set_option Elab.async false
set_option linter.all false
set_option maxRecDepth 100000
namespace L2
open PySem PySem.Spec PyProof.Rows
abbrev KP:=List Key×PV
def JH (x:KP):List KP->List KP
 | []=>[x]
 | y :: ys=>if cI y.1 x.1=true then y :: JH x ys else x :: y :: ys
def Fq:List KP->List KP
 | []=>[]
 | x :: xs=>JH x (Fq xs)
open Classical in
noncomputable def sortBy (b:Bool) (ks ys:List PV):Option (List PV):=match iA ks with
 | some kss=>if kss.length < 64/\kss.length=ys.length/\wU kss=true/\kss.Nodup then some ((PySem.W.katRev b (Fq (kss.zip ys))).map (·.2)) else none
 | none=>none
noncomputable def Cm (f:Fn) (b:Bool) (ys:List PV):List PV->List PV->PH->Rs PV
 | [],ks,h=>match sortBy b ks ys with
  | some zs=>.ok (.ref h.length) (h++[.lst zs])
  | none=>.bad
 | x :: xs,ks,h=>(f [x] h).bind fun k h1=>Cm f b ys xs (ks++[k]) h1
def Fs (x:PV) (h:PH):Option (List PV):=match x with
 | .ref n=>match aM h n with
  | some ys=>some ys
  | none=>Fp h n
 | .fl ys=>some ys
 | _=>none
noncomputable def Ft (f:Fn) (b:Bool) (x:PV) (h:PH):Rs PV:=match Fs x h with
 | some ys=>if ys.length < 64 then Cm f b ys ys [] h else .bad
 | none=>.bad
noncomputable def L5 (f:Fn) (b:Bool) (me:Me):Me:=fun δ h=>(me δ h).bind fun x h1=>Ft f b x h1
section
variable {C:MC} {k:Nat} {X:Cx}
theorem zW {pins:List (Addr×Obj)} {σ:St} {H:Hp} {s:Shared} (I:Inv X pins σ H s) {a:Addr} (ha:s.heap.objs.size<=a):X.s₀.heap.objs.size<=a/\a≠X.env.locals/\(∀ x c,X.env.cells.lookup x=some c->c≠a)/\(∀ p∈X.pn++pins,p.1≠a)/\a∉X.fs:=by
 refine ⟨Nat.le_trans I.sz ha,Nat.ne_of_gt (Nat.lt_of_lt_of_le I.lt ha),fun x c e z=>?_,fun p hp z=>?_,I.nofs ha⟩
 ·obtain ⟨v,o,ho,_⟩:=I.cell x c e
  rw [z] at ho
  exact absurd (Nat.lt_of_lt_of_le (Heap.lt_size ho) ha) (Nat.lt_irrefl _)
 ·have ho:=(I.pin p hp).1
  rw [z] at ho
  exact absurd (Nat.lt_of_lt_of_le (Heap.lt_size ho) ha) (Nat.lt_irrefl _)
theorem zX {its:Array Value} {e:Nat}:∀ v,(seqObj "list" its e).data≠.cell v:=fun v z=>nomatch z
section
variable {x:Str} {st:Stmt} {q:Addr} {fd:FuncData} {pn:List Str} {j:Nat} {f:Fn}
end
section
variable {kf:Str} {st:Stmt} {q:Addr} {fd:FuncData} {pn:List Str} {j jb:Nat} {f:Fn} {e:Expr} {me:Me} {p pos kp kpos rp rpos:Pos}
end
end
end L2
set_option Elab.async false
set_option linter.all false
set_option maxRecDepth 100000
namespace L2
open PySem
section
variable {α:Type} (key:α->List Key)
variable {key}
end
section
variable {δ:Ev} {h:PH} {m:Me}
@[simp] theorem LH {f:Fn} {b:Bool}:L5 f b m δ h=(m δ h).bind fun x h1=>Ft f b x h1:=(rfl)
@[simp] theorem L6 {xs:List PV}:kF (.tup xs)=false:=(rfl)
@[simp] theorem L7:kF .non=true:=(rfl)
end
section
variable {δ:Ev} {h h1:PH} {js:List (Option Nat)} {tg:Mg} {elt:Me} {g:PH->Bool}
theorem Ext.setN {h hX:PH} {o:MO} {n:Nat} (x:Ext h hX) (hn:h.length<=n):Ext h (hX.set n o):=fun m o' e=>by
 have:=(List.getElem?_eq_some_iff.mp e).1
 rw [List.getElem?_set_ne (by omega)]
 exact x m o' e
theorem uL {n m:Nat} {xs ys:List PV} (e1:h[n]?=some (.lst xs)) (e2:h[m]?=some (.lst ys)) (c:xs.length+ys.length<=16777216):bM (.ref n) (.ref m) h=.ok (.ref h.length) (h++[.lst (xs++ys)]):=by
 show EU (.ref n) (.ref m) h=_
 simp [EU,cL,e1,e2,c]
end
end L2
set_option Elab.async false
set_option linter.all false
set_option maxRecDepth 100000
namespace L2
open PySem PySem.Spec PyProof.Rows
def Nb (f:Str) (p:PV):List (Str×PV)->List (Str×PV)
 | []=>[(f,p)]
 | (g,x) :: r=>if g=f then (g,p) :: r else (g,x) :: Nb f p r
def Nc (x:PV) (h:PH):Option (Nat×Str×List (Str×PV)):=match x with
 | .ref n=>match h[n]? with
  | some (.ins c fs)=>some (n,c,fs)
  | _=>none
 | _=>none
def Nd (f:Str) (x y:PV) (h:PH):Option PH:=match Nc x h with
 | some (n,c,fs)=>if fs.length < 1000 then some (h.set n (.ins c (Nb f y fs))) else none
 | none=>none
section
variable {C:MC} {k:Nat} {X:Cx}
section
variable {e o value:Expr} {f:Str} {m mo mv:Me} {pos pos' tpos:Pos}
def P2 (f:Str) (mo mv:Me):Ms:=fun δ h=>(mv δ h).fl fun y h1=>(mo δ h1).fl fun x h2=>match Nd f x y h2 with
 | some h3=>.nx δ h3
 | none=>.bad
end
section
variable {o e:Expr} {es:List Expr} {m:Str} {n:Nat} {tb:Str->Option Fn} {mo:Me} {ms:Ma} {pos apos:Pos} {pl:Sem Bool}
end
def Nf (cn:Str) (n:Nat) (f:Fn) (ms:Ma):Me:=fun δ h=>(ms δ h).bind fun ps h1=>if ps.length=n then (f (.ref h1.length :: ps) (h1++[.ins cn []])).bind fun v h2=>(match v with
 | .non=>.ok (.ref h1.length) h2
 | _=>.bad) else .bad
section
variable {x cn:Str} {ca f:Addr} {fd:FuncData} {ps:List Str} {j n:Nat} {fn:Fn} {e:Expr} {es:List Expr} {ms:Ma} {p pos:Pos}
end
end
def lH (x y v:PV) (h:PH):Option PH:=match x,y with
 | .ref n,.int i=>match cL h n with
  | some xs=>match ixN xs.length i with
   | some j=>some (h.set n (.lst (xs.set j v)))
   | none=>none
  | none=>B6 x y v h
 | _,_=>B6 x y v h
def lI (mv mo mi:Me):Ms:=fun δ h=>(mv δ h).fl fun v h1=>(mo δ h1).fl fun x h2=>(mi δ h2).fl fun y h3=>match lH x y v h3 with
 | some h4=>.nx δ h4
 | none=>.bad
def Ng:List PV->PH->Rs PV:=fun xs h=>match xs with
 | [.bl b]=>.ok (.int (if b then 1 else 0)) h
 | [.int i]=>.ok (.int i) h
 | _=>.bad
section
variable {C:MC} {k:Nat} {X:Cx}
theorem B9 {φ:List Addr} {H:Hp} {h h':PH} {px py pv:PV} {x y v:V} (c:Cxt C k X) (rh:RH C φ H h) (rx:RV C φ H px x) (ry:RV C φ H py y) (rv:RV C φ H pv v) (e:lH px py pv h=some h') {pins:List (Addr×Obj)} {σ:St} {s:Shared} {xu yu vu:Value}
  {Q:Unit->Shared->Prop} (I:Inv X pins σ H s) (rxu:RelV x xu) (ryu:RelV y yu) (rvu:RelV v vu) (q:∀ s' H',Inv X pins σ H' s'->Kp H H'->RH C φ H' h'->Q () s'):wpAny (model X.prog X.w) X.A (setItem xu yu vu) Q X.xe s:=by
 unfold lH at e
 split at e
 ·rename_i n i
  split at e
  ·rename_i xs el
   split at e
   ·rename_i j ej
    cases e
    obtain ⟨a,rfl,ha⟩:=rx
    cases ry
    obtain ⟨ws,hH,rw'⟩:=rh.at' n a _ ha (fD el)
    refine thn (set_list pins s σ H (.ref a) (.int i) v xu yu vu (fun H'=>H'=upd H a (.lst (ws.set j v))) I rxu ryu rvu ⟨a,ws,i,j,rfl,rfl,hH,by rw [<- rw'.length]; exact ej,rfl⟩) ?_
    rintro _ s' ⟨H',I',rfl⟩
    refine q s' _ I' (Kp.lst hH) (rh.write ha (by rw [hH]; trivial) ⟨_,bO,(RVs.set rv j rw').mono List.prefix_rfl (Kp.lst hH)⟩)
   ·cases e
  ·exact uH c rh rx ry rv e I rxu ryu rvu q
 ·exact uH c rh rx ry rv e I rxu ryu rvu q
theorem B' {o i value:Expr} {pos pos':Pos} {mv mo mi:Me} (hv:SE C k X value mv) (ho:SE C k X o mo) (hi:SE C k X i mi) (hs:swapsWith value (some (.Subscript o i pos')) pos.line X.env=pure false:=by rfl):
  SSt C k X (.Assign [.Subscript o i pos'] value pos) (lI mv mo mi):=fun c pins s σ H D I ⟨φ,δ,h,rh,re,p⟩=>by
 refine wpAny_Assign_Subscript (thn (hv c pins s σ H _ I ⟨φ,δ,h,rh,re,post.fl p⟩) ?_) hs
 rintro vu s1 ⟨v,H1,I1,rvu,φ1,pv,h1,p1,t1,rh1,rv1,q1⟩
 refine thn (ho c pins s1 σ H1 _ I1 ⟨φ1,δ,h1,rh1,re.mono p1 t1,post.fl q1⟩) ?_
 rintro xu s2 ⟨x,H2,I2,rxu,φ2,px,h2,p2,t2,rh2,rv2,q2⟩
 refine thn (hi c pins s2 σ H2 _ I2 ⟨φ2,δ,h2,rh2,(re.mono p1 t1).mono p2 t2,post.fl q2⟩) ?_
 rintro yu s3 ⟨y,H3,I3,ryu,φ3,py,h3,p3,t3,rh3,rv3,q3⟩
 cases e:lH px py pv h3 with
 | none=>rw [e] at q3; exact q3.elim
 | some h4=>
  rw [e] at q3
  exact B9 c rh3 (rv2.mono p3 t3) rv3 ((rv1.mono p2 t2).mono p3 t3) e I3 rxu ryu rvu fun s' H' I' kp rh'=>⟨σ,H',I',q3 φ3 σ H' List.prefix_rfl kp rh' ((((re.mono p1 t1).mono p2 t2).mono p3 t3).mono List.prefix_rfl kp)⟩
end
section
variable {δ:Ev} {h:PH} {m mo mv:Me} {E:FE}
@[simp] theorem Nh {cn:Str} {n:Nat} {f:Fn} {ms:Ma}:Nf cn n f ms δ h=(ms δ h).bind fun ps h1=>if ps.length=n then (f (.ref h1.length :: ps) (h1++[.ins cn []])).bind fun v h2=>(match v with | .non=>.ok (.ref h1.length) h2 | _=>.bad) else .bad:=(rfl)
@[simp] theorem OO {mi:Me}:(lI mv mo mi δ h).W E=(mv δ h).W fun v h1=>(mo δ h1).W fun x h2=>(mi δ h2).W fun y h3=>∃ h4,lH x y v h3=some h4/\E.nx δ h4:=by
 unfold lI
 rw [Ia]
 congr 1
 funext v h1
 rw [Ia]
 congr 1
 funext x h2
 rw [Ia]
 congr 1
 funext y h3
 cases e:lH x y v h3 <;> simp
theorem uM {n:Nat} {xs:List PV} {i:Int} {v:PV} (e:h[n]?=some (.lst xs)) (h0:0<=i) (h1:i < xs.length):lH (.ref n) (.int i) v h=some (h.set n (.lst (xs.set i.toNat v))):=by
 have e1:cL h n=some xs:=by simp [cL,e]
 have e2:ixN xs.length i=some i.toNat:=by unfold ixN; rw [if_pos h0,if_pos h1]
 simp [lH,e1,e2]
@[simp] theorem Ni {b:Bool}:Ng [.bl b] h=.ok (.int (if b then 1 else 0)) h:=(rfl)
end
end L2
set_option Elab.async false
set_option linter.all false
set_option maxRecDepth 100000
namespace L2
open PySem PySem.Spec PyProof.Rows
def uN:PV->PH->Rs PV:=fun x h=>match cP x h with
 | some xs=>.ok (.ref h.length) (h++[.lst xs.reverse])
 | none=>.bad
section
variable {C:MC} {k:Nat} {X:Cx} {e:Expr} {me:Me} {p pos p2 pos2:Pos}
end
section
variable {h:PH}
theorem Do {n:Nat} {xs:List PV} (e:h[n]?=some (.lst xs)):uN (.ref n) h=.ok (.ref h.length) (h++[.lst xs.reverse]):=by simp [uN,cP,aM,e]
end
end L2
namespace L2
open PySem PySem.Spec PyProof.Rows
section
variable {C:MC} {k:Nat} {X:Cx} {e st:Expr} {me:Me} {pos p2:Pos}
theorem IA (he:SE C k X e me) (hs:SE C k X st (mUn Dc (mC (.int 1)))) (hsub:∀ a b:Addr,subscripted (.Slice none none (some st) p2) false (.ref a) (.ref b)=operate [.ref a,.ref b] (getItem (.ref a) (.ref b)):=by intro _ _; with_unfolding_all rfl):SE C k X (.Subscript e (.Slice none none (some st) p2) pos) (mUn uN me):=fun c pins s σ H Q I h=>by
 obtain ⟨φ,δ,h,rh,re,po⟩:=h
 refine Subscript_ (thn (he c pins s σ H (fun v H1=>∃ δ φ1 h1 px,RH C φ1 H1 h1/\RE C φ1 H1 δ σ/\RV C φ1 H1 px v/\post C φ1 H1 (uN px h1) Q) I ⟨φ,δ,h,rh,re,(post.bind po).imp ?_⟩) fun v s1 hh=>?_)
 ·rintro v H1 ⟨φ1,x,h1,p1,t1,rh1,rv1,q1⟩
  exact ⟨δ,φ1,h1,x,rh1,re.mono p1 t1,rv1,q1⟩
 obtain ⟨x,H1,I1,r1,δ1,φ1,h1,px,rh1,re1,rv1,q1⟩:=hh
 refine wpAny_Slice ?_
 rw [evalPart_none]
 refine wpAny_pure (wpAny_pure ?_)
 rw [evalPart_some]
 refine thn (hs c pins s1 σ H1 (fun v H2=>v=.int (-1)/\∃ φ2,φ1<+:φ2/\Kp H1 H2/\RH C φ2 H2 h1) I1 ⟨φ1,δ1,h1,rh1,re1,?_⟩) fun vk s2 hh=>?_
 ·intro φ' v H' a b c' d
  exact ⟨d,φ',a,b,c'⟩
 obtain ⟨y,H2,I2,r2,rfl,φ2,p12,t12,rh2⟩:=hh
 obtain ⟨tk,rfl⟩:=r2
 unfold uN at q1
 cases es:cP px h1 with
 | none=>rw [es] at q1; exact q1.elim
 | some xs=>
  rw [es] at q1
  obtain ⟨a,ws,rfl,sa,ra⟩:=dJ rh2 (rv1.mono p12 t12) es
  cases r1
  have I4:Inv X pins σ H2 { s2 with heap:=s2.heap.push { cls:=.type "slice",data:=.fields #[.none,.none,.int (-1) tk] } }:=I2.kept (t':=s2.toks) fun b ob q=>Heap.get?_push_of_some _ q
  have sa':SqL X.K H2 a ws:=by rw [c.K]; exact sa
  obtain ⟨its,rw',pl,hz⟩:=I4.list sa'
  have hlen:=rw'.length
  have hg:wpAny (model X.prog X.w) X.A (getItem (.ref a) (.ref s2.heap.objs.size)) (EP X pins σ Q) X.xe { s2 with heap:=s2.heap.push { cls:=.type "slice",data:=.fields #[.none,.none,.int (-1) tk] } }:=by
   refine wpAny_getItem_list_slice pl.isList (Heap.IsSliceOf.new ..) .none .none (.int (-1) tk) (by decide) ?_ (by rw [List.size_toArray] <;> omega)
   rw [PySem.W.krv_pick]
   have hr:∀ {vs:List V} {us:List Value},aK vs us->aK vs.reverse us.reverse:=by
    intro vs us r
    induction r with
    | nil=>exact .nil
    | cons a t ih=>simp only [List.reverse_cons]; exact aK.append ih (.cons a .nil)
   refine ⟨.ref _,_,I4.laid (t':=s2.toks) (o:=.lst ws.reverse) (fun b ob q=>Heap.get?_push_of_some _ q) (Nat.le_refl _) ⟨by rw [List.length_reverse]; exact hz,its.reverse,0,hr rw',?_⟩,rfl,(post.weak p12 t12 q1).lnew rh2 ra.reverse (I4.hok.fresh (Nat.le_refl _))⟩
   have e:its.toArray.toList.reverse.toArray=its.reverse.toArray:=by simp
   rw [e]
   exact Heap.get?_push_size _ rfl
  exact tail_any (ops:=[.ref a,.ref s2.heap.objs.size]) pl.isList.typeIs slot_list_getitem.lookup hg (hsub _ _)
end
end L2
set_option Elab.async false
set_option linter.all false
set_option maxRecDepth 100000
namespace L2
open PySem PySem.Spec PyProof.Rows
def qZ:List Int->Int
 | []=>0
 | [x]=>x
 | x :: y :: r=>max x (qZ (y :: r))
def iN:List Int->Int
 | []=>0
 | [x]=>x
 | x :: y :: r=>min x (iN (y :: r))
theorem zY:∀ {ns:List Int},ns≠[]->qZ ns∈ns/\∀ a∈ns,a<=qZ ns
 | [],h=>(h rfl).elim
 | [x],_=>⟨by simp [qZ],by simp [qZ]⟩
 | x :: y :: r,_=>by
  obtain ⟨h1,h2⟩:=zY (ns:=y :: r) (by simp)
  unfold qZ
  refine ⟨?_,fun a ha=>?_⟩
  ·rcases Int.le_total x (qZ (y :: r)) with z | z
   ·rw [Int.max_eq_right z]; exact List.mem_cons_of_mem _ h1
   ·rw [Int.max_eq_left z]; exact List.mem_cons_self
  ·rcases List.mem_cons.mp ha with rfl | ha
   ·exact Int.le_max_left _ _
   ·exact Int.le_trans (h2 a ha) (Int.le_max_right _ _)
theorem lJ:∀ {ns:List Int},ns≠[]->iN ns∈ns/\∀ a∈ns,iN ns<=a
 | [],h=>(h rfl).elim
 | [x],_=>⟨by simp [iN],by simp [iN]⟩
 | x :: y :: r,_=>by
  obtain ⟨h1,h2⟩:=lJ (ns:=y :: r) (by simp)
  unfold iN
  refine ⟨?_,fun a ha=>?_⟩
  ·rcases Int.le_total x (iN (y :: r)) with z | z
   ·rw [Int.min_eq_left z]; exact List.mem_cons_self
   ·rw [Int.min_eq_right z]; exact List.mem_cons_of_mem _ h1
  ·rcases List.mem_cons.mp ha with rfl | ha
   ·exact Int.min_le_left _ _
   ·exact Int.le_trans (Int.min_le_right _ _) (h2 a ha)
def lK:List PV->PH->Rs PV:=fun xs h=>match xs with
 | [.ref n]=>match aM h n with
  | some ys=>match oF ys with
   | some (a :: ns)=>.ok (.int (qZ (a :: ns))) h
   | _=>.bad
  | none=>.bad
 | _=>HX xs h
def rA:List PV->PH->Rs PV:=fun xs h=>match xs with
 | [.ref n]=>match aM h n with
  | some ys=>match oF ys with
   | some (a :: ns)=>.ok (.int (iN (a :: ns))) h
   | _=>.bad
  | none=>.bad
 | _=>HZ xs h
section
variable {prog:Program} {w:World} {A:Around} {E:Value->Shared->Prop} {s:Shared} {d:Addr} {oc:Obj} {es:Array DictEntry} {ep:Nat}
end
section
variable {C:MC} {k:Nat} {X:Cx}
theorem Dp (c:Cxt C k X):bE X (.builtin "max") (fun xs H Q=>∃ (p:Addr) (ns:List Int),xs=[.ref p]/\SqL C.K H p (ns.map V.int)/\ns≠[]/\Q (.int (qZ ns)) H):=by
 intro pins s σ H xs us Q I r h
 obtain ⟨p,ns,rfl,hq,hne,q⟩:=h
 obtain ⟨u,rfl,ru⟩:=vals1 r
 cases ru
 rw [<- c.K] at hq
 obtain ⟨its,rv,pl,hz⟩:=I.list hq
 have hi:IntsAre its ns:=intsAre_of rv
 obtain ⟨ys,hy⟩:=hi.allInts.items
 have hl:=pl.isList
 have hns:ns=ys.toList.map (·.1):=by rw [<- hi.numsOf,<- nums_intItems,<- hy]
 have hsz:0 < ys.size:=by
  have h3:0 < ns.length:=List.length_pos_iff.mpr hne
  rw [hns,List.length_map,Array.length_toList] at h3; exact h3
 rw [hy] at hl
 refine max_intList (I.ok.hd c.calm) hl hsz fun v h' tk hv hk=>?_
 obtain ⟨t,rfl⟩:=intItems_at hv
 obtain ⟨h1,h2⟩:=argBest_gt (numAt ys) (ys.size - 1)
 have hM:numAt ys (argBest (fun i j=>decide (numAt ys i > numAt ys j)) (ys.size - 1))=qZ ns:=by
  obtain ⟨m1,m2⟩:=zY hne
  refine Int.le_antisymm (m2 _ ?_) ?_
  ·rw [hns,numAt_eq]; exact getD_mem (by rw [List.length_map,Array.length_toList]; omega)
  ·have ha:=m1
   rw [hns] at ha
   obtain ⟨j,hj,ej⟩:=mem_getD ha
   rw [List.length_map,Array.length_toList] at hj
   rw [<- hns] at ej
   rw [<- ej,hns,<- numAt_eq]
   exact h2 j (by omega)
 rw [hM]
 exact ⟨.int (qZ ns),H,I.kept (t':=tk) hk,⟨_,rfl⟩,q⟩
theorem Dq (c:Cxt C k X):bE X (.builtin "min") (fun xs H Q=>∃ (p:Addr) (ns:List Int),xs=[.ref p]/\SqL C.K H p (ns.map V.int)/\ns≠[]/\Q (.int (iN ns)) H):=by
 intro pins s σ H xs us Q I r h
 obtain ⟨p,ns,rfl,hq,hne,q⟩:=h
 obtain ⟨u,rfl,ru⟩:=vals1 r
 cases ru
 rw [<- c.K] at hq
 obtain ⟨its,rv,pl,hz⟩:=I.list hq
 have hi:IntsAre its ns:=intsAre_of rv
 obtain ⟨ys,hy⟩:=hi.allInts.items
 have hl:=pl.isList
 have hns:ns=ys.toList.map (·.1):=by rw [<- hi.numsOf,<- nums_intItems,<- hy]
 have hsz:0 < ys.size:=by
  have h3:0 < ns.length:=List.length_pos_iff.mpr hne
  rw [hns,List.length_map,Array.length_toList] at h3; exact h3
 rw [hy] at hl
 refine min_intList (I.ok.hd c.calm) hl hsz fun v h' tk hv hk=>?_
 obtain ⟨t,rfl⟩:=intItems_at hv
 obtain ⟨h1,h2⟩:=argBest_lt (numAt ys) (ys.size - 1)
 have hM:numAt ys (argBest (fun i j=>decide (numAt ys i < numAt ys j)) (ys.size - 1))=iN ns:=by
  obtain ⟨m1,m2⟩:=lJ hne
  refine Int.le_antisymm ?_ (m2 _ ?_)
  ·have ha:=m1
   rw [hns] at ha
   obtain ⟨j,hj,ej⟩:=mem_getD ha
   rw [List.length_map,Array.length_toList] at hj
   rw [<- hns] at ej
   rw [<- ej,hns,<- numAt_eq]
   exact h2 j (by omega)
  ·rw [hns,numAt_eq]; exact getD_mem (by rw [List.length_map,Array.length_toList]; omega)
 rw [hM]
 exact ⟨.int (iN ns),H,I.kept (t':=tk) hk,⟨_,rfl⟩,q⟩
theorem Ba:eR C k X (.builtin "max") lK:=fun c=>bE.imp (bE.or (MG c) (Dp c)) fun vs H Q h=>by
 obtain ⟨φ,h,ps,rh,rv,po⟩:=h
 unfold lK at po
 split at po
 ·rename_i n
  split at po
  ·rename_i ys e
   split at po
   ·rename_i a ns en
    obtain ⟨v,rfl,rx⟩:=rv.one
    obtain ⟨p,rfl,hp⟩:=rx
    obtain ⟨p2,ws,hp2,sp,rp⟩:=bF rh e
    rw [hp] at hp2; cases hp2
    have ew:=pD rp en
    subst ew
    exact .inr ⟨p,a :: ns,rfl,sp,by simp,po.val rh rfl⟩
   ·exact po.elim
  ·exact po.elim
 ·exact .inl ⟨φ,h,_,rh,rv,po⟩
theorem Fu:eR C k X (.builtin "min") rA:=fun c=>bE.imp (bE.or (MJ c) (Dq c)) fun vs H Q h=>by
 obtain ⟨φ,h,ps,rh,rv,po⟩:=h
 unfold rA at po
 split at po
 ·rename_i n
  split at po
  ·rename_i ys e
   split at po
   ·rename_i a ns en
    obtain ⟨v,rfl,rx⟩:=rv.one
    obtain ⟨p,rfl,hp⟩:=rx
    obtain ⟨p2,ws,hp2,sp,rp⟩:=bF rh e
    rw [hp] at hp2; cases hp2
    have ew:=pD rp en
    subst ew
    exact .inr ⟨p,a :: ns,rfl,sp,by simp,po.val rh rfl⟩
   ·exact po.elim
  ·exact po.elim
 ·exact .inl ⟨φ,h,_,rh,rv,po⟩
end
section
variable {h:PH}
theorem uO {n:Nat} {a:Int} {ns:List Int} (e:h[n]?=some (.lst ((a :: ns).map PV.int))):rA [.ref n] h=.ok (.int (iN (a :: ns))) h:=by
 have e1:aM h n=some ((a :: ns).map PV.int):=by simp [aM,e]
 simp only [rA,e1,uF]
@[simp] theorem LI {i j:Int}:lK [.int i,.int j] h=.ok (.int (if j > i then j else i)) h:=(rfl)
@[simp] theorem LJ {i j:Int}:rA [.int i,.int j] h=.ok (.int (if j < i then j else i)) h:=(rfl)
end
end L2
set_option Elab.async false
set_option linter.all false
set_option maxRecDepth 100000
namespace L2
open PySem PySem.Spec PyProof.Rows
theorem wY:typeLookup (.type "list") "keys" = pure none:=by rw [typeLookup_type,builtinLookup_eq_fast]; kernel_rfl
theorem wZ {prog:Program} {w:World} {A:Around} {E:Value->Shared->Prop} {s:Shared} {a:Addr} {o:Obj} {xs:Array Value} {k:Nat} {Q:Option Value->Shared->Prop}
  (hx:s.heap.get? a=some o) (hc:o.cls=.type "list") (hdat:o.data=.seq xs k) (hd:o.dict=none) (hA:A.handled=none)
  (h:∀ h' tk,(∀ b u,s.heap.get? b=some u->h'.get? b=some u)->Q none { s with heap:=h',toks:=tk }):wpAny (model prog w) A (getAttr? (.ref a) "keys") Q E s:=by
 obtain ⟨c,dct,dat,sl⟩:=o
 simp only at hc hdat hd
 subst hc hdat hd
 obtain ⟨hp,g,d,tk,os⟩:=s
 have hT:∀ tk',(⟨hp,g,d,tk',os⟩:Shared).TypeIs (.ref a) "list" := fun _=>⟨_,hx,rfl⟩
 have f1:=sub_AttributeError
 have f3:=F.slot_list_getattribute.lookup
 have f4:=F.slot_list_getattribute.bind (.ref a)
 have f5:=am_list_getattr_none
 unfold getAttr? getAttrBy? getAttrBy
 repeat (any_goals (first | assumption | exact hT _ | ((with_reducible show wpAny _ _ (call (Value.builtin "list.__getattribute__") _ _) _ _ _); refine call_meets F.slot_list_getattribute (hT _) am_entry_list_getattribute (F.args_list_getattribute_2 _ _) (meets_getattribute_miss_list a xs k sl "keys" _ wY (by decide) (by size_fits)) ⟨hx,hA,fun h' tk' e hx'=>?_⟩) | wp_step))
 obtain ⟨t',u',he⟩:=hx'.there
 show wpAny _ _ (getattributeRaised _ _ _ _ _ _ _) _ _ _
 unfold getattributeRaised
 repeat (any_goals (first | assumption | wp_step))
 exact h _ _ hx'.of.keeps
section
variable {prog:Program} {w:World} {K:Type} [DecidableEq K] {knd:HeapKind prog w K} {A:Around} {R:Result->Shared->Prop}
def zZ (xs:List (K×Addr×Value)) (ps:List (Addr×K×Addr×Value)):List (K×Addr×Value):=ps.foldl (fun acc p=>storedH acc p.2.1 p.2.2.1 p.2.2.2) xs
theorem oJ (xs:List (K×Addr×Value)) (k:K) (a:Addr) (v:Value):(storedH xs k a v).length<=xs.length+1:=by
 unfold storedH
 split
 ·rw [List.length_map]; omega
 ·simp
theorem A0 {xs:List (K×Addr×Value)} {k:K} {a:Addr} {v:Value} {x:K×Addr×Value} (h:x∈storedH xs k a v):(∃ y∈xs,x.1=y.1/\x.2.1=y.2.1)\/(x.1=k/\x.2.1=a):=by
 unfold storedH at h
 split at h
 ·obtain ⟨y,hy,rfl⟩:=List.mem_map.mp h
  refine .inl ⟨y,hy,?_,?_⟩
  ·unfold putAt; split <;> rfl
  ·unfold putAt; split <;> rfl
 ·rcases List.mem_append.mp h with h | h
  ·exact .inl ⟨x,h,rfl,rfl⟩
  ·rw [List.mem_singleton.mp h]; exact .inr ⟨rfl,rfl⟩
theorem A1 {I d:Addr} {fp wr:List Addr} {n:Nat} {P:Nat->Value->Prop} {St:Nat->Heap->Prop} (W:Walks prog w A.in1 I fp wr n P St) (hd:d∉fp) (hu:knd.room A.in1) (ps:List (Addr×K×Addr×Value)) (hn:ps.length=n)
  (hP:∀ i v,P i v->∃ p,ps[i]?=some p/\v=.ref p.1) (h0:Heap) (hw0:∀ b u,h0.get? b=some u->b∉wr/\b≠d)
  (hk:∀ h',(∀ b u,h0.get? b=some u->h'.get? b=some u)->∀ p∈ps,knd.is h' p.2.1 p.2.2.1/\IsTup h' p.1 #[.ref p.2.2.1,p.2.2.2]) (res:Value):
  ∀ (m i:Nat) (s:Shared) (xs:List (K×Addr×Value)),n - i=m->i<=n->St i s.heap->s.heap.DictOfH knd d xs->(∀ x∈xs,∃ p∈ps,x.1=p.2.1/\x.2.1=p.2.2.1)->xs.length+n<=sizeLine+i->(∀ b u,h0.get? b=some u->s.heap.get? b=some u)->
  (∀ h' tk,h'.DictOfH knd d (zZ xs (ps.drop i))->(∀ b u,h0.get? b=some u->h'.get? b=some u)->R (.ok (.ret res)) { s with heap:=h',toks:=tk })->
  codeAny (model prog w) A (.builtin "dict.update.loop" ⟨[.ref d,.ref I,rawInt i,res],[]⟩) R s:=by
 have hdw:d∉wr:=fun h=>hd (W.sub _ h)
 intro m
 induction m with
 | zero=>
  intro i s xs hm hi hst hdt hxs hz hit hR
  have hin:i=n:=by omega
  subst hin
  refine codeAny_builtin dI ?_
  rw [Around.under_plainId bH _]
  show wpAny _ A.in1 (pyNext (.ref I) >>= _) _ _ s
  refine wpAny_bind (W.done s _ _ hst fun h' tk hk'=>?_)
  show wpAny _ A.in1 (Builtin.Dict.addKeywords d [] >>= _) _ _ _
  have h00:∀ b u,h0.get? b=some u->h'.get? b=some u:=fun b u e=>hk' b u (hw0 b u e).1 (hit b u e)
  have hfin:=hR h' tk (by
   rw [List.drop_of_length_le (by omega)]
   obtain ⟨o,es,ep,h1,h2,h3,h4,h5,h6⟩:=hdt
   refine ⟨o,es,ep,hk' d _ hdw h1,h2,h3,h4,fun x hx=>?_,h6⟩
   obtain ⟨p,hp,e1,e2⟩:=hxs x hx
   rw [e1,e2]
   exact (hk h' h00 p hp).1) h00
  exact wpAny_bind (wpAny_pure (wpAny_pure hfin))
 | succ m ih=>
  intro i s xs hm hi hst hdt hxs hz hit hR
  have hlt:i < n:=by omega
  refine codeAny_builtin dI ?_
  rw [Around.under_plainId bH _]
  show wpAny _ A.in1 (pyNext (.ref I) >>= _) _ _ s
  refine wpAny_bind (W.item i s _ _ hlt hst fun v h' tk hPv hst' hk'=>?_)
  obtain ⟨p,hp,rfl⟩:=hP i v hPv
  have hpm:=List.mem_of_getElem? hp
  have h00:∀ b u,h0.get? b=some u->h'.get? b=some u:=fun b u e=>hk' b u (hw0 b u e).1 (hit b u e)
  obtain ⟨hki,ob,hb1',hb2,nn,hb3⟩:=hk h' h00 p hpm
  have hTy:({ s with heap:=h',toks:=tk }:Shared).TypeIs (.ref p.1) "tuple" := ⟨ob,hb1',hb2⟩
  have hdt':h'.DictOfH knd d xs:=by
   obtain ⟨o,es,ep,h1,h2,h3,h4,h5,h6⟩:=hdt
   refine ⟨o,es,ep,hk' d _ hdw h1,h2,h3,h4,fun x hx=>?_,h6⟩
   obtain ⟨p,hp,e1,e2⟩:=hxs x hx
   rw [e1,e2]
   exact (hk h' h00 p hp).1
  refine wpAny_bind (wpAny_holding (wpAny_bind (wpAny_tryCatch ?_)))
  unfold Builtin.Dict.pairItems
  refine wpAny_bind (wpAny_typeOf hTy ?_)
  rw [if_pos (by decide)]
  refine wpAny_bind (wpAny_seqItems hb1' hb3 (wpAny_pure ?_))
  show wpAny _ _ (holding [.ref p.2.2.1,p.2.2.2] (dictSet d (.ref p.2.2.1) p.2.2.2)) _ _ _
  refine wpAny_holding (wpAny_dictSet_heap (hsz:=by omega) hu hki hdt' fun h2 hd2 hs2=>?_)
  refine wpAny_pure ⟨plainId_quiet bH _,?_⟩
  have st2:St (i+1) h2:=W.frame (i+1) h' h2 hst' fun b hb o e=>(hs2.2 b (fun z=>hd (z ▸ hb))).trans e
  refine ih (i+1) _ (storedH xs p.2.1 p.2.2.1 p.2.2.2) (by omega) hlt st2 hd2 (fun x hx=>?_) ?_ (fun b u e=>(hs2.2 b (hw0 b u e).2).trans (h00 b u e)) fun h3 tk3 hd3 hk3=>?_
  ·rcases A0 hx with ⟨y,hy,e1,e2⟩ | ⟨e1,e2⟩
   ·rw [e1,e2]; exact hxs y hy
   ·exact ⟨p,hpm,e1,e2⟩
  ·have:=oJ xs p.2.1 p.2.2.1 p.2.2.2
   omega
  ·refine hR h3 tk3 ?_ hk3
   have hdr:ps.drop i=p :: ps.drop (i+1):=by
    obtain ⟨hl,e⟩:=List.getElem?_eq_some_iff.mp hp
    rw [List.drop_eq_getElem_cons hl,e]
   rw [hdr]
   exact hd3
theorem oY {E:Value->Shared->Prop} {s:Shared} {a:Addr} {o:Obj} {k:Nat} {ps:List (Addr×K×Addr×Value)} {Q:Value->Shared->Prop} (hA:A.handled=none) (hu:knd.room A.in1.in1) (hx:s.heap.get? a=some o) (hc:o.cls=.type "list") (hdat:o.data=.seq (ps.map fun p=>Value.ref p.1).toArray k) (hd:o.dict=none)
  (hk:∀ h',(∀ b u,s.heap.get? b=some u->h'.get? b=some u)->∀ p∈ps,knd.is h' p.2.1 p.2.2.1/\IsTup h' p.1 #[.ref p.2.2.1,p.2.2.2]) (hz:ps.length<=sizeLine)
  (h:∀ h' tk,h'.DictOfH knd s.heap.objs.size (zZ [] ps)->(∀ b u,s.heap.get? b=some u->h'.get? b=some u)->Q (.ref s.heap.objs.size) { s with heap:=h',toks:=tk }):
  wpAny (model prog w) A (call (.type "dict") [.ref a]) Q E s:=by
 refine callType_codes (Q₁:=fun obj s₁=>obj=.ref s.heap.objs.size/\s₁={ s with heap:=s.heap.push { cls:=.type "dict",data:=.dict #[] } }) F.kt_called_dict (F.kt_typeCall_dict_1 _) F.entry_dict_init (kt_code_dict_new _ ⟨rfl,rfl⟩) ?_
 rintro obj s₁ ⟨rfl,rfl⟩
 have hnew:(s.heap.push { cls:=.type "dict",data:=.dict #[] }).DictOfH knd s.heap.objs.size []:=Heap.DictOfH.new s.heap
 have up:∀ b u,s.heap.get? b=some u->(s.heap.push { cls:=.type "dict",data:=.dict #[] }).get? b=some u:=fun b u e=>Heap.get?_push_of_some _ e
 have hTa:({ s with heap:=s.heap.push { cls:=.type "dict",data:=.dict #[] } }:Shared).TypeIs (.ref a) "list" := ⟨o,up _ _ hx,hc⟩
 refine ⟨hnew.typeIs,F.args_dict_init_2 _ _,?_⟩
 unfold Builtin.«dict.__init__»
 refine wpAny_bind ?_; unfold Builtin.Dict.selfAndRest
 refine wpAny_bind (wpAny_notOrdered_dict hnew.typeIs (show wpAny _ _ (pure (s.heap.objs.size,[Value.ref a])) _ _ _ from wpAny_pure ?_))
 show wpAny _ _ (Builtin.Dict.updateFrom "dict.__init__" s.heap.objs.size (.ref a) [] .none) _ _ _
 unfold Builtin.Dict.updateFrom
 refine wpAny_bind (wpAny_typeOf hTa ?_)
 rw [if_pos (by decide)]
 refine wpAny_bind (wZ (up _ _ hx) hc hdat hd hA fun h1 tk1 kp1=>?_)
 rw [if_pos (by rfl)]
 refine wpAny_bind (wpAny_rule ?_)
 have ha1:h1.IsList a (ps.map fun p=>Value.ref p.1).toArray:=⟨o,kp1 _ _ (up _ _ hx),hc,k,hdat⟩
 refine wpAny_bind (wpAny_pyIter_list (s:={ s with heap:=h1,toks:=tk1 }) ha1 (wpAny_pure ⟨plainId_quiet bH _,?_⟩))
 have lt0:s.heap.objs.size < h1.objs.size:=by
  have:=kp1 s.heap.objs.size _ (Heap.get?_push_size s.heap rfl)
  exact Heap.lt_size this
 have hlt:∀ b u,s.heap.get? b=some u->b < s.heap.objs.size:=fun b u e=>Heap.lt_size e
 have ha0:=hlt _ _ hx
 refine A1 (knd:=knd) (fp:=[h1.objs.size,a]) (wr:=[h1.objs.size]) (n:=(ps.map fun p=>Value.ref p.1).toArray.size) (Walks.list (A:=A.in1.in1) hA h1.objs.size a (Nat.ne_of_lt (Nat.lt_trans ha0 lt0)) (ps.map fun p=>Value.ref p.1).toArray) ?_ hu ps (by simp) (fun i v e=>?_) s.heap (fun b u e=>?_) hk .none _ 0 _ [] (Nat.sub_zero _) (Nat.zero_le _) ?_ ?_ (fun x hx=>nomatch hx) (by simpa using hz) (fun b u e=>?_) fun h' tk dd kk=>?_
 ·intro z
  rcases List.mem_cons.mp z with z | z
  ·exact Nat.ne_of_lt lt0 z
  ·exact Nat.ne_of_lt ha0 (List.mem_singleton.mp z).symm
 ·have e':(ps.map fun p=>Value.ref p.1)[i]?=some v:=by simpa using e
  rw [List.getElem?_map] at e'
  obtain ⟨p,hp,rfl⟩:=Option.map_eq_some_iff.mp e'
  exact ⟨p,hp,rfl⟩
 ·have h0:=hlt _ _ e
  exact ⟨fun z=>Nat.ne_of_lt (Nat.lt_trans h0 lt0) (List.mem_singleton.mp z),Nat.ne_of_lt h0⟩
 ·refine ⟨⟨_,Heap.get?_push_size _ rfl,rfl,rfl⟩,?_⟩
  obtain ⟨ob,e,r⟩:=ha1
  exact ⟨ob,Heap.get?_push_of_some _ e,r⟩
 ·obtain ⟨oo,es,ep,e,r1,r2,r3,r4,r5⟩:=hnew
  exact ⟨oo,es,ep,Heap.get?_push_of_some _ (kp1 _ _ e),r1,r2,r3,(fun x hx=>nomatch hx),r5⟩
 ·exact Heap.get?_push_of_some _ (kp1 _ _ (up _ _ e))
 ·exact ⟨rfl,h h' tk (by simpa using dd) kk⟩
end
section
variable {C:MC} {k:Nat} {X:Cx} {φ:List Addr} {H:Hp} {pins:List (Addr×Obj)} {σ:St} {s:Shared}
def rB:List PV->Option (List (PV×PV))
 | []=>some []
 | .tup [y,v] :: r=>if y.isKt=true then (rB r).map ((y,v) :: ·) else none
 | _=>none
def Fv (kvs more:List (PV×PV)):List (PV×PV):=more.foldl (fun acc kv=>jS acc kv.1 kv.2) kvs
theorem uP {h h':Heap} (kp:∀ b u,h.get? b=some u->h'.get? b=some u) (a:Addr) (x:Array Value):IsTup h a x->IsTup h' a x:=fun ⟨o,e,r⟩=>⟨o,kp _ _ e,r⟩
theorem rC (I:Inv X pins σ H s) (hK:X.K=C.K):∀ {ps:List PV} {rs:List (PV×PV)} {vs:List V} {us:List Value},rB ps=some rs->RVs C φ H ps vs->aK vs us->
  ∃ qs:List (Addr×PV×Addr×Value),us=qs.map (fun q=>Value.ref q.1)/\(∀ h',(∀ b u,s.heap.get? b=some u->h'.get? b=some u)->∀ q∈qs,(jU X.prog X.w).is h' q.2.1 q.2.2.1/\IsTup h' q.1 #[.ref q.2.2.1,q.2.2.2])/\
   ∀ {kvs:List (PV×PV)} {ks:List (PV×Addr×V)} {xs:List (PV×Addr×Value)},RKd C φ H kvs ks->sO ks xs->∃ ks',RKd C φ H (Fv kvs rs) ks'/\sO ks' (zZ xs qs)
 | [],rs,[],us,e,_,ru=>by
  cases ru
  cases e
  exact ⟨[],rfl,(fun _ _ _ h=>nomatch h),fun r rx=>⟨_,r,rx⟩⟩
 | p :: ps,rs,v :: vs,us,e,r,ru=>by
  cases ru with
  | @cons _ u _ us' h t=>
   cases p with
   | tup xs=>
    match xs,e with
    | [y,z],e=>
     unfold rB at e
     split at e
     ·rename_i hk
      cases e2:rB ps with
      | none=>rw [e2] at e; cases e
      | some rs'=>
       rw [e2] at e
       cases e
       obtain ⟨qs,rfl,a1,a2⟩:=rC I hK e2 r.2 t
       obtain ⟨b,bs,rfl,sq,rb⟩:=r.1
       cases h
       obtain ⟨yv,zv,rfl,ry,rz⟩:=rb.two
       rw [<- hK] at sq
       obtain ⟨its,rits,pt,_⟩:=I.tuple sq
       obtain ⟨yu,zu,rfl,ryu,rzu⟩:=vals2 rits
       obtain ⟨c,rfl⟩:=pG hk ry
       cases ryu
       have hki:=zN I hK hk ry
       refine ⟨(b,y,c,zu) :: qs,rfl,?_,fun {kvs ks xs} r' rx'=>?_⟩
       ·intro h' kp q hq
        rcases List.mem_cons.mp hq with rfl | hq
        ·exact ⟨⟨hki.1,HR.keep (uP kp) hki.2⟩,uP kp _ _ pt⟩
        ·exact a1 h' kp q hq
       ·obtain ⟨ks',r1,r2⟩:=HD.put (a:=b) r' rx' (pF hk) ry rz rzu
        exact a2 r1 r2
     ·cases e
    | [],e=>cases e
    | [_],e=>cases e
    | _ :: _ :: _ :: _,e=>cases e
   | _=>cases e
 | [],_,_ :: _,_,_,r,_=>r.elim
 | _ :: _,_,[],_,_,r,_=>r.elim
def xG:List PV->PH->Rs PV:=fun xs h=>match xs with
 | [.ref n]=>match h[n]? with
  | some (.lst ps)=>match rB ps with
   | some rs=>.ok (.ref h.length) (h++[.dD (Fv [] rs)])
   | none=>.bad
  | _=>qV xs h
 | _=>qV xs h
theorem uQ {K:Type} [DecidableEq K]:∀ (ps:List (Addr×K×Addr×Value)) (xs:List (K×Addr×Value)),(zZ xs ps).length<=xs.length+ps.length
 | [],xs=>Nat.le_refl _
 | p :: ps,xs=>by
  have:=uQ ps (storedH xs p.2.1 p.2.2.1 p.2.2.2)
  have h2:=oJ xs p.2.1 p.2.2.1 p.2.2.2
  show (zZ (storedH xs p.2.1 p.2.2.1 p.2.2.2) ps).length<=_
  rw [List.length_cons]
  omega
theorem IB:eR C k X (.type "dict") xG:=fun c pins s σ H xs us Q I r h=>by
 obtain ⟨φ,h,ps,rh,rv,po⟩:=h
 unfold xG at po
 split at po
 ·rename_i n
  split at po
  ·rename_i ls hk
   split at po
   ·rename_i rs e
    obtain ⟨v,rfl,rx⟩:=rv.one
    obtain ⟨a,rfl,ha⟩:=rx
    obtain ⟨u,rfl,ru⟩:=vals1 r
    cases ru
    obtain ⟨vs,hH,rvs⟩:=rh.at' n a _ ha hk
    obtain ⟨hz,its,m,rits,hl,hx⟩:=I.lstM hH
    obtain ⟨qs,rfl,a1,a2⟩:=rC I c.K e rvs rits
    have hq:qs.length<=sizeLine:=by
     rw [List.length_map] at hl
     omega
    have rm:(jU X.prog X.w).room X.A.in1.in1:=by
     have:=c.hu64
     show X.A.units+1+1+6 < cLine
     omega
    refine oY (knd:=jU X.prog X.w) (I.ok.hd c.calm) rm hx rfl rfl rfl a1 hq fun h' tk dd kk=>?_
    obtain ⟨ks',r1,r2⟩:=a2 (.nil:RKd C φ H [] []) (.nil:sO [] [])
    have fr:H s.heap.objs.size=none:=I.fresh
    obtain ⟨o,es,ep,hq1,h2,h3,h4,h5',h5⟩:=dd
    have hl2:ks'.length<=sizeLine:=by
     have e1:=Paired.length r2
     have e2:=uQ qs ([]:List (PV×Addr×Value))
     simp at e2
     omega
    refine ⟨.ref s.heap.objs.size,_,I.laid (a:=s.heap.objs.size) (o:=dDO C.w s.heap.objs.size ks') (t':=tk) kk (Nat.le_refl _) ⟨⟨hl2,beq_eq_false_iff_ne.mpr (Ne.symm (Nat.ne_of_lt I.big)),_,r2,o,es,ep,hq1,h2,h3,?_,h5⟩,⟨o,hq1⟩,?_⟩,rfl,?_⟩
    ·rw [h4,<- c.w]; rfl
    ·rintro g1 g2 ⟨z1,z2,ws,z3,o',es',ep',z4,z5⟩ keep
     exact ⟨z1,z2,ws,z3,o',es',ep',keep _ z4,z5⟩
    ·exact po (φ++[s.heap.objs.size]) (.ref _) _ (List.prefix_append _ _) (Kp.new fr) (rh.new fr ⟨_,bO,RKd.mono (List.prefix_append _ _) (Kp.new fr) r1⟩) ⟨_,rfl,by rw [<- rh.len]; simp⟩
   ·exact po.elim
  ·exact Fk c pins s σ H xs us Q I r ⟨φ,h,_,rh,rv,po⟩
 ·exact Fk c pins s σ H xs us Q I r ⟨φ,h,_,rh,rv,po⟩
end
end L2
set_option Elab.async false
set_option linter.all false
set_option maxRecDepth 100000
namespace L2
open PySem PySem.Spec PyProof.Rows PySem.SeqAt
open PySem.AutoSeq1 (wpAny_loadPart')
open PySem.MeetsSeq PySem.MeetsSeq2 PySem.MeetsSeq3
section
variable {X:Cx} {pins:List (Addr×Obj)} {σ:St} {H:Hp} {s:Shared}
end
section
variable {C:MC} {k:Nat} {X:Cx}
def Nj:PV->PV->PH->Rs PV:=fun x y h=>match x,y with
 | .tup xs,.tup ys=>ofB ((Im (.tup xs) (.tup ys)).map (!·)) h
 | x,y=>vGe x y h
variable {h:PH}
@[simp] theorem Nk {i j:Int}:Nj (.int i) (.int j) h=.ok (.bl (decide (j<=i))) h:=(rfl)
@[simp] theorem Nl {i j:Str}:Nj (.str i) (.str j) h=.ok (.bl (!decide (i.cps.toList < j.cps.toList))) h:=(rfl)
end
end L2
set_option Elab.async false
set_option linter.all false
set_option maxRecDepth 100000
namespace L2
open PySem PySem.Spec PyProof.Rows
section
variable {prog:Program} {w:World} {A:Around} {E:Value->Shared->Prop} {s:Shared} {v dc it:Addr} {oc:Obj} {es:Array DictEntry} {ep:Nat}
end
section
variable {C:MC} {k:Nat} {X:Cx}
end
section
variable {C:MC} {k:Nat} {X:Cx}
end
section
variable {C:MC} {k:Nat} {X:Cx} {ke ve:Expr} {mk mv:Me} {pos:Pos}
def putD (x y:PV) (n:Nat) (h:PH):Rs PV:=if x.isKt=true then (match qU h n with
 | some kvs=>if kvs.length < sizeLine then .ok (.ref n) (h.set n (.dD (jS kvs x y))) else .bad
 | none=>.bad) else .bad
def L8 (mk mv:Me):Me:=fun δ h=>(mk δ (h++[.dK []])).bind fun x h2=>(mv δ h2).bind fun y h3=>putD x y h.length h3
end
section
variable {C:MC} {k:Nat} {X:Cx} {x:Str} {a:Addr} {o:Obj} {its:Array Value} {n:Nat} {vs:List V} {ps:List PV} {pos:Pos}
end
section
theorem IC {h:PH} {n:Nat} {kvs:List (Key×PV)} {x:Str} {z:PV} (e:h[n]?=some (.dK kvs)) (hl:kvs.length < 16777216):lH (.ref n) (.str x) z h=some (h.set n (.dK (jS kvs (.inr x) z))):=by
 show B6 (.ref n) (.str x) z h=_
 exact Iy e hl
@[simp] theorem LK {mk mv:Me} {δ:Ev} {h:PH}:L8 mk mv δ h=(mk δ (h++[.dK []])).bind fun x h2=>(mv δ h2).bind fun y h3=>putD x y h.length h3:=(rfl)
end
end L2
set_option Elab.async false
set_option linter.all false
set_option maxRecDepth 100000
namespace L2
open PySem PySem.Spec PyProof.Rows PySem.SeqAt
section
variable {prog:Program} {w:World} {A:Around} {E:Value->Shared->Prop} {s:Shared}
variable {K:Type} [DecidableEq K] {knd:HeapKind prog w K}
end
section
variable {C:MC} {k:Nat} {X:Cx}
variable {h:PH}
end
end L2
set_option Elab.async false
set_option linter.all false
set_option maxRecDepth 100000
namespace L2
open PySem PySem.Spec PyProof.Rows
def Nm:HO->Prop
 | .tup _=>False
 | .own _=>False
 | .tbl _=>False
 | _=>True
section
variable {X:Cx} {pins:List (Addr×Obj)} {σ:St} {H:Hp} {s:Shared}
end
def L9:MO->Option (List PV)
 | .dK kvs=>some (kvs.map fun kv=>.tup [kP kv.1,kv.2])
 | .dD kvs=>some (kvs.map fun kv=>.tup [kv.1,kv.2])
 | _=>none
def Np:MO->Option (List PV)
 | .dK kvs=>some (kvs.map fun kv=>kP kv.1)
 | .dD kvs=>some (kvs.map (·.1))
 | _=>none
section
variable {C:MC} {k:Nat} {X:Cx} {pins:List (Addr×Obj)} {σ:St} {H:Hp} {s:Shared} {φ:List Addr}
structure Pd (C:MC) (φ:List Addr) (H:Hp) (s:Shared) (b:Addr) (o:MO) (ks:List (V×V)) (u:HO) (oc:Obj) (es:Array DictEntry) (ep:Nat):Prop where
 at':H b=some u
 nf:Nm u
 nz:∀ o z,u≠.frz o z
 nt:yW (some u)
 get:s.heap.get? b=some oc
 cls:oc.cls=.type "dict"
 data:oc.data=.dict es ep
 nsys:(b == sysModules)=false
 fz:∀ φ' H',φ<+:φ'->H' b=some (.frz oc u)->Kp H H'->RO C φ' H' b (.fz o)
 len:ks.length=es.size
 ent:∀ (i:Nat) (hi:i < es.size),∃ kv,ks[i]?=some kv/\RelV kv.1 es[i].key/\RelV kv.2 es[i].val
 keys:∀ xs,Np o=some xs->RVs C φ H xs (ks.map (·.1))
 items:∀ xs,L9 o=some xs->xs.length=ks.length/\∀ (i:Nat) p,xs[i]?=some p->∃ p1 p2 kv,p=.tup [p1,p2]/\ks[i]?=some kv/\RV C φ H p1 kv.1/\RV C φ H p2 kv.2
end
section
variable {h h1:PH} {δ:Ev}
end
end L2
set_option Elab.async false
set_option linter.all false
set_option maxRecDepth 100000
namespace L2
open PySem PySem.Spec PyProof.Rows
section
variable {C:MC} {k:Nat} {X:Cx}
end
section
variable {h:PH}
end
end L2
set_option Elab.async false
set_option linter.all false
set_option maxRecDepth 100000
namespace L2
open PySem PySem.Spec PyProof.Rows PySem.SeqAt
section
variable {X:Cx} {pins:List (Addr×Obj)} {σ:St} {H:Hp} {s:Shared}
theorem rD (I:Inv X pins σ H s):∀ {ds es:List D} {vs:List V},D.depths ds<=40->cH X.K H ds vs->cH X.K H es vs->ds=es
 | [],[],[],_,_,_=>rfl
 | d :: ds,e :: es,v :: vs,h,⟨a,b⟩,⟨a',b'⟩=>by
  have hh:D.depths (d :: ds)=max d.depth (D.depths ds):=by simp [D.depths]
  have h1:d.depth<=40:=by omega
  have h2:D.depths ds<=40:=by omega
  rw [kU I 40 d e v h1 a a',rD I h2 b b']
 | [],_ :: _,vs,_,h,h'=>by
  cases vs with
  | nil=>exact h'.elim
  | cons _ _=>exact h.elim
 | _ :: _,[],vs,_,h,h'=>by
  cases vs with
  | nil=>exact h.elim
  | cons _ _=>exact h'.elim
theorem OP (I:Inv X pins σ H s) {ds es:List D} {A:Around} {x y:V} {v u:Value} (hd:D.depths ds<=40) (hu:A.units+42 < cLine) (hx:yX X.K H ds x) (hy:yX X.K H es y) (rx:RelV x v) (ry:RelV y u):EqAt A s v u (cT ds es):=by
 obtain ⟨a,vs,rfl,q,r⟩:=hx
 obtain ⟨b,vs',rfl,q',r'⟩:=hy
 cases rx; cases ry
 refine cU (fun prog w E Q hq=>?_) (fun e=>?_) (fun f t z=>by cases z)
 ·obtain ⟨its,rv,p,_⟩:=I.list q
  obtain ⟨its',rv',p',_⟩:=I.list q'
  have l1:=r.length
  have l2:=r'.length
  have l3:=rv.length
  have l4:=rv'.length
  by_cases hl:ds.length=es.length
  ·refine eq_listAt p.isList p'.isList (by simp; omega) (by omega) (kC (I:=I) r r' rv rv' hd (by omega)) ?_
   have e1:its.toArray.size=ds.length:=by simp; omega
   rw [e1,mZ hl]
   exact hq
  ·refine eq_list_lengthsAt p.isList p'.isList (by simp; omega) (by omega) ?_
   have e:cT ds es=false:=by
    cases h:cT ds es with
    | false=>rfl
    | true=>exact absurd (qF h) hl
   rw [e] at hq
   exact hq
 ·cases e
  have ev:=I.list_inj q q'
  subst ev
  have e2:=rD I hd r r'
  subst e2
  have:=fB (.tup ds)
  simpa [eqD] using this
end
section
variable {C:MC} {k:Nat} {X:Cx} {pins:List (Addr×Obj)} {σ:St} {H:Hp} {s:Shared} {φ:List Addr} {h:PH}
end
end L2
set_option Elab.async false
set_option linter.all false
set_option maxRecDepth 100000
namespace L2
open PySem PySem.Spec PyProof.Rows PySem.SeqAt PySem.W
section
variable {X:Cx} {pins:List (Addr×Obj)} {σ:St} {H:Hp} {s:Shared} {A:Around} {E:Value->Shared->Prop}
end
def hdk:PV->Option Nat
 | .tup (.int _ :: _)=>some 0
 | .tup (.str _ :: _)=>some 1
 | .tup (.tup _ :: _)=>some 2
 | _=>none
def ltV (x y:PV):Bool:=match x.d,y.d with
 | some d,some e=>ltD d e == some true
 | _,_=>false
structure OkV (b:Bool) (ks:List PV):Prop where
 dat:∀ x∈ks,∃ xs ds,x=.tup xs/\PV.ds xs=some ds/\D.depths ds<=40
 hd:∃ t,((t == 2)=!b)/\t<=2/\∀ x∈ks,hdk x=some t
 can:∀ x∈ks,∀ y∈ks,∃ d e c,x.d=some d/\y.d=some e/\ltD d e=some c
 tr:∀ x∈ks,∀ y∈ks,∀ z∈ks,ltV y x=false->ltV z y=false->ltV z x=false
 as:∀ x∈ks,∀ y∈ks,ltV x y=true->ltV y x=false
 tot:∀ x∈ks,∀ y∈ks,ltV x y=false->ltV y x=false->x=y
section
variable {C:MC} {k:Nat} {X:Cx} {pins:List (Addr×Obj)} {σ:St} {H:Hp} {s:Shared} {φ:List Addr} {A:Around} {E:Value->Shared->Prop}
end
section
variable {C:MC} {k:Nat} {X:Cx}
section
variable {x:Str} {st:Stmt} {q:Addr} {fd:FuncData} {pn:List Str} {j:Nat} {f:Fn}
end
section
variable {kf:Str} {st:Stmt} {q:Addr} {fd:FuncData} {pn:List Str} {j jb:Nat} {f:Fn} {e:Expr} {me:Me} {p pos kp kpos rp rpos:Pos}
end
end
section
variable {prog:Program} {w:World} {A:Around} {E:Value->Shared->Prop} {s:Shared}
end
section
variable {C:MC} {k:Nat} {X:Cx}
end
section
variable {h:PH}
end
end L2
set_option Elab.async false
set_option linter.all false
set_option maxRecDepth 100000
namespace L2
open PySem PySem.Spec PyProof.Rows
section
variable {prog:Program} {w:World} {A:Around} {E:Value->Shared->Prop} {s:Shared} {a:Addr}
end
section
variable {C:MC} {k:Nat} {X:Cx}
end
end L2
set_option Elab.async false
set_option linter.all false
set_option maxRecDepth 100000
namespace L2
open PySem PySem.Spec PyProof.Rows
section
variable {C:MC} {k:Nat} {X:Cx}
end
section
variable {δ:Ev} {h:PH} {E:FE}
end
end L2
set_option Elab.async false
set_option linter.all false
set_option maxRecDepth 100000
namespace L2
open PySem PySem.Spec PyProof.Rows
section
variable {C:MC} {k:Nat} {X:Cx}
end
end L2
set_option Elab.async false
set_option linter.all false
set_option maxRecDepth 100000
namespace L2
open PySem PySem.Spec PyProof.Rows PySem.SeqAt
structure Mk0 (K:PySem.W.Frag) (C:Addr):Prop where
 makes:PySem.W.makesIn K C=true
 init:PySem.W.findIn K (.ref C) "__init__" = some (some (.builtin "object.__init__"))
 kp:PySem.W.keepIn K (.ref C)=true
section
variable {X:Cx} {C:Addr}
end
def L' (cn:Str):Me:=fun δ h=>.ok (.ref h.length) (h++[.ins cn []])
section
variable {C:MC} {k:Nat} {X:Cx} {x cn:Str} {ca:Addr} {p pos:Pos}
end
section
@[simp] theorem LL {cn:Str} {δ:Ev} {h:PH}:L' cn δ h=.ok (.ref h.length) (h++[.ins cn []]):=(rfl)
end
end L2
set_option Elab.async false
set_option linter.all false
set_option maxRecDepth 100000
namespace L2
open PySem PySem.Spec PyProof.Rows
section
variable {X:Cx} {pins:List (Addr×Obj)} {σ:St} {H:Hp} {s:Shared} {C:MC} {φ:List Addr}
end
section
variable {C:MC} {k:Nat} {X:Cx}
end
end L2
set_option Elab.async false
set_option linter.all false
set_option maxRecDepth 100000
namespace L2
open PySem PySem.Spec PyProof.Rows
section
variable {prog:Program} {w:World} {A:Around} {E:Value->Shared->Prop} {s:Shared} {a:Addr}
end
section
variable {C:MC} {k:Nat} {X:Cx}
end
end L2
set_option Elab.async false
set_option linter.all false
set_option maxRecDepth 100000
namespace L2
open PySem PySem.Spec PyProof.Rows PySem.SeqAt PySem.W
open Classical in
noncomputable def Nq (b:Bool) (m:Nat) (ks ys:List PV):Option (List PV):=if ks.length < 64/\ks.length=ys.length/\OkN m ks/\(∀ a∈ks.zip ys,∀ c∈ks.zip ys,a.1=c.1->a.2=c.2) then some ((PySem.W.katRev b (JG Prod.fst (ks.zip ys))).map (·.2)) else none
noncomputable def A2 (f:Fn) (b:Bool) (kb:Nat) (ys:List PV):List PV->List PV->PH->Rs PV
 | [],ks,h=>match Nq b kb ks ys with
  | some zs=>.ok (.ref h.length) (h++[.lst zs])
  | none=>.bad
 | x :: xs,ks,h=>(f [x] h).bind fun k h1=>A2 f b kb ys xs (ks++[k]) h1
noncomputable def Cn (f:Fn) (b:Bool) (kb:Nat) (x:PV) (h:PH):Rs PV:=match Fs x h with
 | some ys=>if ys.length < 64 then A2 f b kb ys ys [] h else .bad
 | none=>.bad
noncomputable def ID (f:Fn) (b:Bool) (kb:Nat) (me:Me):Me:=fun δ h=>(me δ h).bind fun x h1=>Cn f b kb x h1
section
variable {C:MC} {k:Nat} {X:Cx}
section
variable {x:Str} {st:Stmt} {q:Addr} {fd:FuncData} {pn:List Str} {j:Nat} {f:Fn}
end
section
variable {kf:Str} {st:Stmt} {q:Addr} {fd:FuncData} {pn:List Str} {j jb:Nat} {f:Fn} {e:Expr} {me:Me} {p pos kp kpos rp rpos:Pos}
end
end
section
variable {α:Type}
end
section
variable {δ:Ev} {h:PH} {m:Me}
@[simp] theorem La {f:Fn} {b:Bool} {n:Nat}:ID f b n m δ h=(m δ h).bind fun x h1=>Cn f b n x h1:=(rfl)
end
end L2
set_option Elab.async false
set_option linter.all false
set_option maxRecDepth 100000
namespace L2
open PySem PySem.Spec PyProof.Rows PySem.SeqAt
def eqL (f:PV->PV->Option Bool):List PV->List PV->Option Bool
 | x :: xs,y :: ys=>match f x y,eqL f xs ys with
  | some b,some c=>some (b && c)
  | _,_=>none
 | [],[]=>some true
 | _,_=>some false
theorem Fw {f:PV->PV->Option Bool}:∀ {xs ys:List PV} {b:Bool},eqL f xs ys=some b->
  ∃ g:Nat->Bool,(∀ (j:Nat) (x y:PV),xs[j]?=some x->ys[j]?=some y->f x y=some (g j))/\b=((List.range (min xs.length ys.length)).all g && xs.length == ys.length)
 | [],[],b,e=>⟨fun _=>true,fun j x y h=>(by simp at h),by cases e; rfl⟩
 | [],y :: ys,b,e=>⟨fun _=>true,fun j x y h=>(by simp at h),by cases e; simp⟩
 | x :: xs,[],b,e=>⟨fun _=>true,fun j x y _ h=>(by simp at h),by cases e; simp⟩
 | x :: xs,y :: ys,b,e=>by
  unfold eqL at e
  split at e
  ·rename_i b' c e1 e2
   cases e
   obtain ⟨g,h1,h2⟩:=Fw e2
   refine ⟨fun j=>match j with | 0=>b' | j+1=>g j,fun j x y hx hy=>?_,?_⟩
   ·cases j with
    | zero=>simp at hx hy; subst hx hy; exact e1
    | succ j=>exact h1 j x y (by simpa using hx) (by simpa using hy)
   ·rw [h2]
    have e3:min (x :: xs).length (y :: ys).length=min xs.length ys.length+1:=by simp only [List.length_cons]; omega
    rw [e3,List.range_succ_eq_map,List.all_cons,List.all_map,Bool.and_assoc]
    simp [Function.comp_def]
  ·cases e
theorem xH {f:PV->PV->Option Bool} {R:PV->V->Prop} (hf:∀ x y v b,f x y=some b->R x v->R y v->b=true):∀ {xs ys:List PV} {vs:List V} {b:Bool},(∀ (j:Nat) (x:PV),xs[j]?=some x->∃ v,vs[j]?=some v/\R x v)->(∀ (j:Nat) (x:PV),ys[j]?=some x->∃ v,vs[j]?=some v/\R x v)->xs.length=ys.length->eqL f xs ys=some b->b=true
 | [],[],_,b,_,_,_,e=>by cases e; rfl
 | [],_ :: _,_,_,_,_,h,_=>by simp at h
 | _ :: _,[],_,_,_,_,h,_=>by simp at h
 | x :: xs,y :: ys,vs,b,h1,h2,h,e=>by
  unfold eqL at e
  split at e
  ·rename_i b' c e1 e2
   cases e
   obtain ⟨v,hv,rx⟩:=h1 0 x rfl
   obtain ⟨v',hv',ry⟩:=h2 0 y rfl
   rw [hv] at hv'
   cases hv'
   rw [hf x y v b' e1 rx ry,xH hf (vs:=vs.tail) (fun j z hz=>by simpa using h1 (j+1) z hz) (fun j z hz=>by simpa using h2 (j+1) z hz) (by simpa using h) e2]
   rfl
  ·cases e
def eqF:Nat->PV->PV->PH->Option Bool
 | 0,x,y,h=>fZ x y h
 | n+1,x,y,h=>match fZ x y h with
  | some b=>some b
  | none=>match x,y with
   | .tup xs,.tup ys=>eqL (fun a b=>eqF n a b h) xs ys
   | x,y=>match cP x h,cP y h with
    | some xs,some ys=>eqL (fun a b=>eqF n a b h) xs ys
    | _,_=>none
def IE:PV->PV->PH->Rs PV:=fun x y h=>ofB ((eqF 3 x y h).map not) h
section
variable {C:MC} {k:Nat} {X:Cx} {pins:List (Addr×Obj)} {σ:St} {H:Hp} {s:Shared} {φ:List Addr} {h:PH}
theorem kJ:∀ {xs:List PV} {vs:List V},RVs C φ H xs vs->xs.length=vs.length/\∀ (j:Nat) (x:PV),xs[j]?=some x->∃ v,vs[j]?=some v/\RV C φ H x v
 | [],[],_=>⟨rfl,fun j x h=>by simp at h⟩
 | x :: xs,v :: vs,r=>by
  obtain ⟨l,q⟩:=kJ r.2
  refine ⟨by simp [l],fun j y hy=>?_⟩
  cases j with
  | zero=>simp at hy; subst hy; exact ⟨v,rfl,r.1⟩
  | succ j=>simpa using q j y (by simpa using hy)
 | [],_ :: _,r=>r.elim
 | _ :: _,[],r=>r.elim
theorem uR (I:Inv X pins σ H s) (hK:X.K=C.K) (rh:RH C φ H h) {x y:PV} {w:V} {b:Bool} (e:fZ x y h=some b) (rx:RV C φ H x w) (ry:RV C φ H y w):b=true:=by
 rcases gF rh rx ry e with ⟨d,e',q1,q2,q3,rfl⟩ | ⟨d,e',⟨a,vs,hw,sa,ra⟩,⟨a',us,hw',sa',ra'⟩,q3,rfl⟩
 ·rw [<- hK] at q1 q2
  rw [kU I 40 d e' w q3 q1 q2]
  exact fB _
 ·rw [<- hK] at sa sa' ra ra'
  subst hw
  cases hw'
  have ev:=I.list_inj sa sa'
  subst ev
  have e2:=rD I q3 ra ra'
  subst e2
  have:=fB (.tup d)
  simpa [eqD] using this
theorem Fx (I:Inv X pins σ H s) (hK:X.K=C.K) (rh:RH C φ H h):∀ (n:Nat) (x y:PV) (w:V) (b:Bool),eqF n x y h=some b->RV C φ H x w->RV C φ H y w->b=true:=by
 intro n
 induction n with
 | zero=>intro x y w b e rx ry; exact uR I hK rh e rx ry
 | succ n ih=>
  intro x y w b e rx ry
  unfold eqF at e
  split at e
  ·rename_i b' e2
   cases e
   exact uR I hK rh e2 rx ry
  ·split at e
   ·rename_i xs ys _
    obtain ⟨a,vs,rfl,q,r⟩:=rx
    obtain ⟨a',us,hw,q',r'⟩:=ry
    cases hw
    rw [<- hK] at q q'
    have ev:=I.tuple_inj q q'
    subst ev
    obtain ⟨l1,a1⟩:=kJ r
    obtain ⟨l2,a2⟩:=kJ r'
    exact xH (R:=RV C φ H) (fun x y v b=>ih x y v b) a1 a2 (by omega) e
   ·split at e
    ·rename_i xs ys h1 h2
     obtain ⟨a,vs,rfl,sa,ra⟩:=dJ rh rx h1
     obtain ⟨a',us,hw,sb,rb⟩:=dJ rh ry h2
     cases hw
     rw [<- hK] at sa sb
     have ev:=I.list_inj sa sb
     subst ev
     obtain ⟨l1,a1⟩:=kJ ra
     obtain ⟨l2,a2⟩:=kJ rb
     exact xH (R:=RV C φ H) (fun x y v b=>ih x y v b) a1 a2 (by omega) e
    ·cases e
theorem A3 {n:Nat} (hn:∀ (A:Around) (x y:PV) (v u:V) (i j:Value) (b:Bool),A.units+42+n < cLine->eqF n x y h=some b->RV C φ H x v->RV C φ H y u->RelV v i->RelV u j->EqAt A s i j b)
  {A:Around} {xs ys:List PV} {b:Bool} {vs us:List V} {is js:List Value} (hu:A.units+42+n < cLine) (e:eqL (fun a b=>eqF n a b h) xs ys=some b) (r:RVs C φ H xs vs) (r':RVs C φ H ys us) (rv:aK vs is) (rw':aK us js):
  ∃ g:Nat->Bool,is.toArray.size=xs.length/\js.toArray.size=ys.length/\(∀ (j:Nat) (h1:j < is.toArray.size) (h2:j < js.toArray.size),EqAt A s is.toArray[j] js.toArray[j] (g j))/\b=((List.range (min is.toArray.size js.toArray.size)).all g && is.toArray.size == js.toArray.size):=by
 obtain ⟨g,hg,hb⟩:=Fw e
 obtain ⟨l1,a1⟩:=kJ r
 obtain ⟨l2,a2⟩:=kJ r'
 have l3:=rv.length
 have l4:=rw'.length
 have z1:is.toArray.size=xs.length:=by simp; omega
 have z2:js.toArray.size=ys.length:=by simp; omega
 refine ⟨g,z1,z2,fun j h1 h2=>?_,by rw [z1,z2]; exact hb⟩
 have k1:j < xs.length:=by omega
 have k2:j < ys.length:=by omega
 obtain ⟨v,hv,q1⟩:=a1 j xs[j] (List.getElem?_eq_getElem k1)
 obtain ⟨u,hu',q2⟩:=a2 j ys[j] (List.getElem?_eq_getElem k2)
 obtain ⟨i,hi,q3⟩:=rv.get hv
 obtain ⟨i',hi',q4⟩:=rw'.get hu'
 have e1:is.toArray[j]=i:=by
  have:=(List.getElem?_eq_some_iff.mp hi).2
  simpa using this
 have e2:js.toArray[j]=i':=by
  have:=(List.getElem?_eq_some_iff.mp hi').2
  simpa using this
 rw [e1,e2]
 exact hn A _ _ v u i i' (g j) hu (hg j _ _ (List.getElem?_eq_getElem k1) (List.getElem?_eq_getElem k2)) q1 q2 q3 q4
theorem Fy (I:Inv X pins σ H s) (hK:X.K=C.K) (rh:RH C φ H h) (n:Nat) (hn:∀ (A:Around) (x y:PV) (v u:V) (i j:Value) (b:Bool),A.units+42+n < cLine->eqF n x y h=some b->RV C φ H x v->RV C φ H y u->RelV v i->RelV u j->EqAt A s i j b)
  (A:Around) (x y:PV) (v u:V) (i j:Value) (b:Bool) (hu:A.units+43+n < cLine) (e2:fZ x y h=none) (e:eqF (n+1) x y h=some b) (rx:RV C φ H x v) (ry:RV C φ H y u) (r1:RelV v i) (r2:RelV u j):
  RcAt A s i j b/\RcNeAt A s i j (!b)/\∃ a a',i=.ref a/\j=.ref a'/\v=.ref a/\u=.ref a':=by
 unfold eqF at e
 rw [e2] at e
 simp only at e
 split at e
 ·rename_i xs ys
  obtain ⟨a,vs,rfl,q,r⟩:=rx
  obtain ⟨a',us,rfl,q',r'⟩:=ry
  cases r1; cases r2
  rw [<- hK] at q q'
  obtain ⟨its,rv,p,_⟩:=I.tuple q
  obtain ⟨its',rv',p',_⟩:=I.tuple q'
  obtain ⟨g,z1,z2,el,hb⟩:=A3 hn (A:=A.in1) (by show A.units+1+42+n < cLine; omega) e r r' rv rv'
  rw [hb]
  exact ⟨RcAt.tuples p p' (by omega) el,RcNeAt.tuples p p' (by omega) el,a,a',rfl,rfl,rfl,rfl⟩
 ·split at e
  ·rename_i xs ys h1 h2
   obtain ⟨a,vs,rfl,sa,ra⟩:=dJ rh rx h1
   obtain ⟨a',us,rfl,sb,rb⟩:=dJ rh ry h2
   cases r1; cases r2
   rw [<- hK] at sa sb
   obtain ⟨its,rv,p,_⟩:=I.list sa
   obtain ⟨its',rv',p',_⟩:=I.list sb
   obtain ⟨g,z1,z2,el,hb⟩:=A3 hn (A:=A.in1) (by show A.units+1+42+n < cLine; omega) e ra rb rv rv'
   refine ⟨?_,?_,a,a',rfl,rfl,rfl,rfl⟩
   all_goals by_cases hl:its.toArray.size=its'.toArray.size
   all_goals first
    | rw [hb,<- hl,Nat.min_self,beq_self_eq_true,Bool.and_true]
    | rw [hb,beq_eq_false_iff_ne.mpr hl,Bool.and_false]
   ·intro prog w E Q hq
    exact eq_listAt p.isList p'.isList hl (by omega) el hq
   ·intro prog w E Q hq
    exact eq_list_lengthsAt p.isList p'.isList (by simpa using hl) (by omega) hq
   ·exact RcNeAt.lists p.isList p'.isList hl (by omega) el
   ·exact RcNeAt.lists_lengths p.isList p'.isList (by simpa using hl) (by omega)
  ·cases e
theorem Lb (I:Inv X pins σ H s) (hK:X.K=C.K) (rh:RH C φ H h):∀ (n:Nat) (A:Around) (x y:PV) (v u:V) (i j:Value) (b:Bool),A.units+42+n < cLine->eqF n x y h=some b->RV C φ H x v->RV C φ H y u->RelV v i->RelV u j->EqAt A s i j b:=by
 have base:∀ (A:Around) (x y:PV) (v u:V) (i j:Value) (b:Bool),A.units+42 < cLine->fZ x y h=some b->RV C φ H x v->RV C φ H y u->RelV v i->RelV u j->EqAt A s i j b:=by
  intro A x y v u i j b hu e rx ry r1 r3
  rcases gF rh rx ry e with ⟨d,e',q1,q2,q3,rfl⟩ | ⟨d,e',q1,q2,q3,rfl⟩
  ·exact HP I (n:=40) q3 (by omega) (by rw [hK]; exact q1) (by rw [hK]; exact q2) r1 r3
  ·exact OP I q3 hu (by rw [hK]; exact q1) (by rw [hK]; exact q2) r1 r3
 intro n
 induction n with
 | zero=>intro A x y v u i j b hu e; exact base A x y v u i j b (by omega) e
 | succ n ih=>
  intro A x y v u i j b hu e rx ry r1 r2
  cases e2:fZ x y h with
  | some b'=>
   unfold eqF at e
   rw [e2] at e
   cases e
   exact base A x y v u i j b (by omega) e2 rx ry r1 r2
  | none=>
   obtain ⟨h1,_,a,a',rfl,rfl,rfl,rfl⟩:=Fy I hK rh n ih A x y v u i j b (by omega) e2 e rx ry r1 r2
   refine cU h1 (fun z=>?_) (fun f t z=>by cases z)
   cases z
   exact Fx I hK rh (n+1) x y _ b e rx ry
theorem Fz {x y:PV} {b:Bool} (e:eqF 3 x y h=some b):fZ x y h=some b\/fZ x y h=none:=by
 unfold eqF at e
 split at e
 ·rename_i b' e2
  cases e
  exact .inl e2
 ·exact .inr (by assumption)
theorem Lc:OpS C k X (compareOp .NotEq) IE:=fun c=>by
 intro pins s σ H x y v u Q I rx ry hq
 obtain ⟨φ,h,p,q,rh,rp,rq,po⟩:=hq
 obtain ⟨b0,e0,po⟩:=po.ofB
 obtain ⟨b,e,rfl⟩:=Option.map_eq_some_iff.mp e0
 have hu:=c.hu64
 rcases Fz e with e2 | e2
 ·refine MB c pins s σ H x y v u Q I rx ry ⟨φ,h,p,q,rh,rp,rq,?_⟩
  unfold vNe
  rw [e2]
  exact po
 ·exact (Fy I c.K rh 2 (Lb I c.K rh 2) X.A p q x y v u b (by omega) e2 e rp rq rx ry).2.1 X.prog X.w X.xe _ ⟨.bl _,H,I,rfl,po.val rh rfl⟩
end
end L2
set_option Elab.async false
set_option linter.all false
set_option maxRecDepth 100000
namespace L2
open PySem PySem.Spec PyProof.Rows PySem.SeqAt
open PySem.AutoSeq1 (wpAny_loadPart')
open PySem.MeetsSeq PySem.MeetsSeq2 PySem.MeetsSeq3
section
variable {X:Cx} {pins:List (Addr×Obj)} {σ:St} {H:Hp} {s:Shared}
end
section
variable {C:MC} {k:Nat} {X:Cx}
def OQ:PV->PV->PH->Rs PV:=fun x y h=>match x,y with
 | .tup xs,.tup ys=>ofB (if (PV.tup xs).d.all (fun d=>decide (d.depth<=40)) then (Im (.tup ys) (.tup xs)).map (!·) else none) h
 | x,y=>vLe x y h
variable {h:PH}
@[simp] theorem Nr {i j:Int}:OQ (.int i) (.int j) h=.ok (.bl (decide (i<=j))) h:=(rfl)
end
end L2
set_option Elab.async false
set_option linter.all false
set_option maxRecDepth 100000
namespace L2
open PySem PySem.Spec PyProof.Rows PySem.SeqAt PySem.W
def A4 (o:Option (PV×Int)) (y:PV) (i:Int):Option (PV×Int):=match o with
 | some b=>if b.2 < i then some (y,i) else some b
 | none=>some (y,i)
noncomputable def cS (f:Fn) (n:Nat) (xs:List PV):List PV->Option (PV×Int)->PH->Rs PV
 | [],o,h=>if jP n xs h=true then (match o with | some b=>.ok b.1 h | none=>.ok .non h) else .bad
 | y :: ys,o,h=>if jP n xs h=true then (f [y] h).bind fun k h1=>match k with
   | .int i=>cS f n xs ys (A4 o y i) h1
   | _=>.bad
  else .bad
noncomputable def uS (f:Fn) (x:PV) (h:PH):Rs PV:=match x with
 | .ref n=>match aM h n with
  | some xs=>cS f n xs xs none h
  | none=>.bad
 | _=>.bad
noncomputable def Co (f:Fn) (me:Me):Me:=fun δ h=>(me δ h).bind fun x h1=>uS f x h1
theorem Bb (a v:Value):argsOk "max" ⟨[a],[("key",v),("default",.none)]⟩:=by rfl
theorem xI (v:Value):Builtin.Builtins.bindParams "max" ["key","default"] 0 ⟨[],[("key",v),("default",.none)]⟩=pure [some v,some .none]:=by rfl
section
variable {prog:Program} {w:World} {A:Around} {E:Value->Shared->Prop} {s:Shared}
theorem FA {id:String} {b:Builtin} {args:Args} {Q:Value->Shared->Prop} (hk:builtinKind id=none) (hp:plainId id=true) (he:entryFor table id=some b) (ha:argsOk id args)
  (h:wpAny (model prog w) A.in1 (b args) (fun fin s'=>match fin with | .done f=>wants Q E (.ok f) s' | .again c'=>c'.quiet=true/\codeAny (model prog w) A c' (wants Q E) s') E s):wpAny (model prog w) A (call (.builtin id) args.pos args.kw) Q E s:=by
 have e:checkBuiltinCall id args=pure ():=by
  unfold checkBuiltinCall
  rw [hk]
  unfold argsOk at ha
  generalize Manifest.signature? id=sg at ha ⊢
  cases sg <;> cases splitId id <;> first | rfl | exact ha
 refine wpAny_call (codeAny_call_builtin hp he (wpAny_of_eq e ?_))
 exact h
theorem Dr {l:Addr} {items:Array Value} {v:Value} {Q:Value->Shared->Prop} (hl:s.heap.IsList l items)
  (h:codeAny (model prog w) A (.builtin "max.loop" ⟨[.ref s.heap.objs.size,v,.ref (s.heap.objs.size+1)],[("default",.none)]⟩) (wants Q E)
   { s with heap:=(s.heap.push { cls:=.type "list_iterator",data:=.fields #[.ref l,.int 0 0] }).push (seqObj "list" #[] 0) }):
  wpAny (model prog w) A (call (.builtin "max") [.ref l] [("key",v),("default",.none)]) Q E s:=by
 refine FA (args:=⟨[.ref l],[("key",v),("default",.none)]⟩) F.kind_max F.plain_max F.entry_max (Bb _ _) ?_
 show wpAny _ _ (Builtin.Builtins.bindParams "max" ["key","default"] 0 ⟨[],[("key",v),("default",.none)]⟩ >>= _) _ _ s
 refine wpAny_bind (wpAny_of_eq (xI v) ?_)
 refine (show wpAny _ _ (pure (Value.ref l) >>= _) _ _ s from wpAny_bind (wpAny_pure ?_))
 refine wpAny_bind (wpAny_pyIter_list hl ?_)
 refine wpAny_bind (wpAny_newList ?_ (by rw [sizeLine_eq]; simp))
 refine wpAny_pure ⟨plainId_quiet F.plain_max_loop _,?_⟩
 have e:(s.heap.push { cls:=.type "list_iterator",data:=.fields #[.ref l,.int 0 0] }).objs.size=s.heap.objs.size+1:=by rw [Heap.size_push]
 simp only [e] at*
 exact h
end
section
variable {C:MC} {k:Nat} {X:Cx} {x:Str} {st:Stmt} {q:Addr} {fd:FuncData} {pn:List Str} {j:Nat} {f:Fn}
def FB (C:MC) (φ:List Addr) (H:Hp) (o:Option (PV×Int)) (best:List Value):Prop:=match o with
 | none=>best=[]
 | some b=>∃ v u t,best=[u,.int b.2 t]/\RelV v u/\RV C φ H b.1 v
def Nt (X:Cx) (pins:List (Addr×Obj)) (a:Addr):Prop:=X.s₀.heap.objs.size<=a/\a≠X.env.locals/\(∀ x c,X.env.cells.lookup x=some c->c≠a)/\(∀ p∈X.pn++pins,p.1≠a)/\a∉X.fs
theorem Cp {n:Nat} {xs:List PV} {h:PH} (e:jP n xs h=true):aM h n=some xs:=by
 unfold jP at e
 cases q:aM h n with
 | none=>rw [q] at e; cases e
 | some ys=>rw [q] at e; rw [PV.beqs_eq e]
theorem Ds (c:Cxt C k X) (D:Def C.K X.mg x st q fd pn) (G:aQ X.prog X.w C.K X.mg X.base CX0 j q fd pn (spM C 1 f)) (hj:j+1<=k) {pins:List (Addr×Obj)} {σ:St} {Q:VK} {n:Nat} {xs:List PV} {l it S:Addr} (hne:it≠S) (fI:Nt X pins it) (fS:Nt X pins S):
  ∀ (m i:Nat) (s:Shared) (H:Hp) (φ:List Addr) (h:PH) (o:Option (PV×Int)) (best:List Value) (cc:Nat),xs.length - i=m->i<=xs.length->Inv X pins σ H s->H S=none->H it=none->s.heap.get? S=some (seqObj "list" best.toArray cc)->s.heap.IsListIter it l i->RH C φ H h->φ[n]?=some l->FB C φ H o best->
   post C φ H (cS f n xs (xs.drop i) o h) Q->codeAny (model X.prog X.w) X.A (.builtin "max.loop" ⟨[.ref it,.ref q,.ref S],[("default",.none)]⟩) (wants (EP X pins σ Q) X.xe) s:=by
 intro m
 induction m with
 | zero=>
  intro i s H φ h o best cc hm hi I hS hI gS sti rh hn bo po
  have e:i=xs.length:=by omega
  subst e
  rw [List.drop_length] at po
  unfold cS at po
  obtain ⟨hg,po⟩:=po.ite
  obtain ⟨a,vs,ha,sq,rv⟩:=bF rh (Cp hg)
  rw [hn] at ha
  cases ha
  rw [<- c.K] at sq
  obtain ⟨its,rvs,pl,hz⟩:=I.list sq
  have l1:=rv.length
  have l2:=rvs.length
  refine codeAny_builtin F.entry_max_loop ?_
  rw [Around.under_plainId F.plain_max_loop]
  refine (show wpAny _ _ (seqItems? (.ref S) >>= _) _ _ s from wpAny_bind (wpAny_seqItems gS rfl ?_))
  refine (show wpAny _ _ (tryCatch (pyNext (.ref it)) _ >>= _) _ _ s from wpAny_bind (wpAny_tryCatch (wpAny_pyNext_list_end (I.ok.hd c.calm) sti pl.isList (by simp; omega) fun h' eb=>?_)))
  have I1:Inv X pins σ H { s with heap:=h' }:=I.turned (t':=s.toks) (fun b o hb e=>eb b o hb e) hI fI.2.1 (.inr fI.1) fI.2.2.1 fI.2.2.2.1
  cases o with
  | none=>
   cases bo
   refine (show wpAny _ _ (rule _ >>= _) _ _ _ from wpAny_bind (wpAny_rule (wpAny_pure ?_)))
   exact ⟨.non,H,I1,rfl,po.val rh rfl⟩
  | some b=>
   obtain ⟨v,u,t,rfl,ru,rv⟩:=bo
   have gS':=eb S _ (Ne.symm hne) gS
   refine (show wpAny _ _ (updateSeq S (fun _=>#[]) >>= _) _ _ _ from wpAny_bind (wpAny_updateSeq gS' rfl ?_ (by rw [sizeLine_eq]; simp) (by rw [sizeLine_eq]; simp)))
   refine (show wpAny _ _ (letGo [_] [u] >>= _) _ _ _ from wpAny_bind (wpAny_letGo (wpAny_pure ?_)))
   refine ⟨v,H,I1.turned (t':=s.toks) (it:=S) (fun b o hb e=>?_) hS fS.2.1 (.inr fS.1) fS.2.2.1 fS.2.2.2.1,ru,po.val rh rv⟩
   rw [Heap.get?_update_ne _ _ _ _ hb]
   exact e
 | succ m ih=>
  intro i s H φ h o best cc hm hi I hS hI gS sti rh hn bo po
  have hlt:i < xs.length:=by omega
  have gy:xs[i]?=some xs[i]:=by simp [hlt]
  rw [drop_cons gy] at po
  unfold cS at po
  obtain ⟨hg,po⟩:=po.ite
  obtain ⟨a,vs,ha,sq,rv⟩:=bF rh (Cp hg)
  rw [hn] at ha
  cases ha
  rw [<- c.K] at sq
  obtain ⟨its,rvs,pl,hz⟩:=I.list sq
  obtain ⟨v,hv,rvv⟩:=rv.at gy
  obtain ⟨u,hu,ru⟩:=rvs.get hv
  refine codeAny_builtin F.entry_max_loop ?_
  rw [Around.under_plainId F.plain_max_loop]
  refine (show wpAny _ _ (seqItems? (.ref S) >>= _) _ _ s from wpAny_bind (wpAny_seqItems gS rfl ?_))
  refine (show wpAny _ _ (tryCatch (pyNext (.ref it)) _ >>= _) _ _ s from wpAny_bind (wpAny_tryCatch (wpAny_pyNext_list_item sti pl.isList (x:=u) (by simpa using hu) fun h' st' sb=>?_)))
  have I1:Inv X pins σ H { s with heap:=h' }:=I.turned (t':=s.toks) (fun b o hb e=>(sb.2 b hb).trans e) hI fI.2.1 (.inr fI.1) fI.2.2.1 fI.2.2.2.1
  have gS':h'.get? S=some (seqObj "list" best.toArray cc):=(sb.2 S (Ne.symm hne)).trans gS
  obtain ⟨oi,ei,ci,di⟩:=id st'
  have I2:Inv X (pins++[(S,seqObj "list" best.toArray cc),(it,oi)]) σ H { s with heap:=h' }:=I1.pins_of fun p hp=>by
   rcases List.mem_append.mp hp with hp | hp
   ·exact I1.pin p (List.mem_append_right _ hp)
   ·rcases List.mem_cons.mp hp with rfl | hp
    ·exact ⟨gS',hS,fS.2.1,fS.2.2.2.2,zX⟩
    ·rw [List.mem_singleton.mp hp]
     exact ⟨ei,hI,fI.2.1,fI.2.2.2.2,fun v z=>by rw [di] at z; cases z⟩
  have e1':=c.K
  have G':aQ X.prog X.w X.K X.mg X.base CX0 j q fd pn (spM C 1 f):=by rw [e1']; exact G
  have D':Def X.K X.mg x st q fd pn:=by rw [e1']; exact D
  have sp1:spM C 1 f [v] H (fun v H2=>∃ φ2 p h2,φ<+:φ2/\Kp H H2/\RH C φ2 H2 h2/\RV C φ2 H2 p v/\post C φ2 H2 (match p with
   | .int i'=>cS f n xs (xs.drop (i+1)) (A4 o xs[i] i') h2
   | _=>.bad) Q) E0:=
   ⟨φ,h,[xs[i]],rh,⟨rvv,trivial⟩,rfl,post.bind po⟩
  have hl:([u]:List Value).length=pn.length:=G'.len _ _ _ _ sp1
  refine (show wpAny _ _ (tryCatch (holding [u] (call (.ref q) [u])) _ >>= _) _ _ _ from wpAny_bind (wpAny_tryCatch (wpAny_holding ?_)))
  refine wpAny_call (codeAny_mono (G'.run X.A.in1 X.stack _ H ⟨[u],[]⟩ [u] [v] _ E0 ((c.room.mono hj).in1) I2.env0.in1 (by
   have:=D'.bd { s with heap:=h' } [u] I2.kIn (by simpa using hl)
   simpa using this) (.cons ru .nil) sp1) fun r s2 hq=>?_)
  cases r with
  | error e=>exact hq.elim
  | ok fl=>
   cases fl with
   | next=>exact False.elim hq
   | brk=>exact False.elim hq
   | cont=>exact False.elim hq
   | ret val=>
    obtain ⟨x2,H2,I3,rx2,φ2,p2,h2,pp2,tt2,rh2,rp2,po2⟩:=I2.after hq
    have gk:=I3.pin (S,seqObj "list" best.toArray cc) (List.mem_append_right _ (List.mem_append_right _ List.mem_cons_self))
    have gi:=I3.pin (it,oi) (List.mem_append_right _ (List.mem_append_right _ (List.mem_cons_of_mem _ List.mem_cons_self)))
    have I4:Inv X pins σ H2 s2:=I3.unpinned
    have st2:s2.heap.IsListIter it l (i+1):=st'.at fun o e=>by
     have:o=oi:=Option.some.inj (e.symm.trans ei)
     rw [this]; exact gi.1
    have hn2:=fY pp2 hn
    cases p2 with
    | int i'=>
     cases rp2
     obtain ⟨t,rfl⟩:=rx2
     have again:∀ (o':Option (PV×Int)) (best':List Value) (cc':Nat) (g:Heap) (t':Nat),(∀ b o,b≠S->s2.heap.get? b=some o->g.get? b=some o)->g.get? S=some (seqObj "list" best'.toArray cc')->FB C φ2 H2 o' best'->post C φ2 H2 (cS f n xs (xs.drop (i+1)) o' h2) Q->
       codeAny (model X.prog X.w) X.A (.builtin "max.loop" ⟨[.ref it,.ref q,.ref S],[("default",.none)]⟩) (wants (EP X pins σ Q) X.xe) { s2 with heap:=g,toks:=t' }:=fun o' best' cc' g t' kp hb bo' po'=>by
      refine ih (i+1) _ H2 φ2 h2 o' best' cc' (by omega) hlt (I4.turned (t':=t') (it:=S) kp gk.2.1 fS.2.1 (.inr fS.1) fS.2.2.1 fS.2.2.2.1) gk.2.1 gi.2.1 hb (st2.at fun o e=>kp it o hne e) rh2 hn2 bo' po'
     have po2:post C φ2 H2 (cS f n xs (xs.drop (i+1)) (A4 o xs[i] i') h2) Q:=po2
     cases o with
     | none=>
      cases bo
      refine (show wpAny _ _ (updateSeq S (fun _=>#[u,.int i' t]) >>= _) _ _ _ from wpAny_bind (wpAny_updateSeq gk.1 rfl ?_ (by rw [sizeLine_eq]; simp) (by rw [sizeLine_eq]; simp)))
      obtain ⟨c2,hc2⟩:∃ c2,(s2.heap.update S (Obj.mapSeq fun _=>#[u,.int i' t])).get? S=some (seqObj "list" #[u,.int i' t] c2):=⟨_,get?_update_seq gk.1 fun _=>#[u,.int i' t]⟩
      exact wpAny_pure ⟨plainId_quiet F.plain_max_loop _,again (some (xs[i],i')) [u,.int i' t] c2 _ s2.toks (fun b o hb e=>by rw [Heap.get?_update_ne _ _ _ _ hb]; exact e) hc2 ⟨v,u,t,rfl,ru,rvv.mono pp2 tt2⟩ po2⟩
     | some b=>
      obtain ⟨v0,u0,t0,rfl,ru0,rv0⟩:=bo
      refine (show wpAny _ _ (tryCatch (holding [u,.int i' t] (richCompare .Gt (.int i' t) (.int b.2 t0) >>= _)) _ >>= _) _ _ _ from wpAny_bind (wpAny_tryCatch (wpAny_holding (wpAny_bind (PyProof.Rows.gt_int (a:=i') (b:=b.2) ?_)))))
      refine wpAny_bind (wpAny_holding (wpAny_truthy_bool (wpAny_bind (wpAny_letGo (wpAny_pure ?_)))))
      have eb:A4 (some b) xs[i] i'=if b.2 < i' then some (xs[i],i') else some b:=rfl
      by_cases hb:b.2 < i'
      ·rw [eb,if_pos hb] at po2
       rw [if_pos (by simpa using hb)]
       refine wpAny_bind (wpAny_updateSeq gk.1 rfl ?_ (by rw [sizeLine_eq]; simp) (by rw [sizeLine_eq]; simp))
       obtain ⟨c2,hc2⟩:∃ c2,(s2.heap.update S (Obj.mapSeq fun _=>#[u,.int i' t])).get? S=some (seqObj "list" #[u,.int i' t] c2):=⟨_,get?_update_seq gk.1 fun _=>#[u,.int i' t]⟩
       exact wpAny_bind (wpAny_letGo (wpAny_pure ⟨plainId_quiet F.plain_max_loop _,again (some (xs[i],i')) [u,.int i' t] c2 _ s2.toks (fun b o hb e=>by rw [Heap.get?_update_ne _ _ _ _ hb]; exact e) hc2 ⟨v,u,t,rfl,ru,rvv.mono pp2 tt2⟩ po2⟩))
      ·rw [eb,if_neg hb] at po2
       rw [if_neg (by simpa using hb)]
       exact wpAny_bind (wpAny_letGo (wpAny_pure ⟨plainId_quiet F.plain_max_loop _,again (some b) [u0,.int b.2 t0] cc _ s2.toks (fun _ _ _ e=>e) gk.1 ⟨v0,u0,t0,rfl,ru0,rv0.mono pp2 tt2⟩ po2⟩))
    | _=>exact po2.elim
theorem Dt (c:Cxt C k X) (D:Def C.K X.mg x st q fd pn) (G:aQ X.prog X.w C.K X.mg X.base CX0 j q fd pn (spM C 1 f)) (hj:j+1<=k) {pins:List (Addr×Obj)} {s:Shared} {σ:St} {H:Hp} {Q:VK} {v:V} {u:Value} (I:Inv X pins σ H s) (ru:RelV v u) (h:r1 C (uS f) v H Q):
  wpAny (model X.prog X.w) X.A (call (.builtin "max") [u] [("key",.ref q),("default",.none)]) (EP X pins σ Q) X.xe s:=by
 obtain ⟨φ,h,p,rh,rp,po⟩:=h
 unfold uS at po
 cases p with
 | ref n=>
  simp only at po
  cases el:aM h n with
  | none=>rw [el] at po; exact po.elim
  | some xs=>
   rw [el] at po
   obtain ⟨a,rfl,ha⟩:=rp
   cases ru
   obtain ⟨a2,vs,ha2,sq,rv⟩:=bF rh el
   rw [ha] at ha2
   cases ha2
   have sq':=sq
   rw [<- c.K] at sq'
   obtain ⟨its,rvs,pl,hz⟩:=I.list sq'
   refine Dr pl.isList ?_
   have kp:∀ b o,s.heap.get? b=some o->((s.heap.push { cls:=.type "list_iterator",data:=.fields #[.ref a,.int 0 0] }).push (seqObj "list" #[] 0)).get? b=some o:=fun b o e=>Heap.get?_push_of_some _ (Heap.get?_push_of_some _ e)
   have fI:=zW I (Nat.le_refl s.heap.objs.size)
   have fS:=zW I (Nat.le_succ s.heap.objs.size)
   refine Ds (xs:=xs) (n:=n) (l:=a) c D G hj (Nat.ne_of_lt (Nat.lt_succ_self _)) fI fS xs.length 0 _ H φ h none [] 0 (by omega) (Nat.zero_le _) (I.kept (t':=s.toks) kp) (I.hok.fresh (Nat.le_succ _)) (I.hok.fresh (Nat.le_refl _)) ?_ ?_ rh ha rfl (by rw [List.drop_zero]; exact po)
   ·have e:(s.heap.push { cls:=.type "list_iterator",data:=.fields #[.ref a,.int 0 0] }).objs.size=s.heap.objs.size+1:=by rw [Heap.size_push]
    show ((s.heap.push _).push (seqObj "list" #[] 0)).get? (s.heap.objs.size+1)=_
    rw [<- e]
    exact Heap.get?_push_size _ rfl
   ·exact ⟨_,Heap.get?_push_of_some _ (Heap.get?_push_size _ rfl),rfl,rfl⟩
 | _=>exact po.elim
end
section
variable {C:MC} {k:Nat} {X:Cx} {kf:Str} {st:Stmt} {q:Addr} {fd:FuncData} {pn:List Str} {j jn:Nat} {f:Fn} {e:Expr} {me:Me} {p pos kp kpos rp rpos:Pos}
theorem FC {Q:VK} {σ:St} {H:Hp} (h:rd C (Co f me) σ H Q):Jq (rd C me) M4 σ H fun vs H1=>∃ x,vs=[x]/\r1 C (uS f) x H1 Q:=by
 obtain ⟨φ,δ,h,rh,re,po⟩:=h
 refine ⟨φ,δ,h,rh,re,(post.bind po).imp ?_⟩
 rintro v H1 ⟨φ1,x,h1,p1,t1,rh1,rv1,q1⟩
 exact ⟨v,rfl,φ1,h1,x,rh1,rv1,q1⟩
theorem Ld (D:Def C.K X.mg kf st q fd pn) (G:aQ X.prog X.w C.K X.mg X.base CX0 j q fd pn (spM C 1 f)) (he:SE C k X e me) (hb:("max" : Str)∈C.bs) (hj:j+1<=k:=by decide) (hg:Gl X "max" := by rfl) (hgk:Gl X kf:=by rfl) (hdk:(kf == ("__debug__" : Str))=false:=by decide)
  (hst:starEach [e] X.env=(false,eval e X.env) :: starEach [] X.env:=by rfl) (hbk:backTo pos (starEach [e] X.env)=(false,eval e X.env) :: backTo pos (starEach [] X.env):=by rfl) (hpl:(backTo pos (starEach [e] X.env)).any (·.1)=false:=by rfl):
  SE C k X (.Call (.Name "max" p) [e] [⟨some "key",.Name kf kp,kpos⟩,⟨some "default",.Constant .none jn rp,rpos⟩] pos) (Co f me):=fun c pins s σ H Q I h=>by
 refine wpAny_Call_Name_kw (pV I hg (c.bn _ hb) PyProof.Rows.Boot.«max» ?_ (by decide) (by decide))
 refine callWith_kw (thn (BS (he c) Ex hst pos pins s σ H _ I (FC h)) fun us s1 hh=>?_) hbk hpl
 obtain ⟨vs,H1,I1,rv,x,rfl,r⟩:=hh
 obtain ⟨u,rfl,ru⟩:=vals1 rv
 refine kws_cons (BR I1 hgk D.mg (kws_cons (Constant_none (kws_nil ?_))) hdk)
 show wpAny _ _ (call (.builtin "max") [u] [(Str.ofString "key",.ref q),(Str.ofString "default",.none)]) _ _ _
 exact Dt c D G hj I1 ru r
end
end L2
set_option Elab.async false
set_option linter.all false
set_option maxRecDepth 100000
namespace L2
open PySem PySem.Spec PyProof.Rows PySem.SeqAt PySem.W
def rE:PV->List PV->PH->Rs PV:=fun x ps h=>match x,ps with
 | .ref n,[.str z]=>match aM h n with
  | some ys=>match uK ys with
   | some ss=>if ss.idxOf z < ss.length then .ok (.int (ss.idxOf z:Nat)) h else .bad
   | none=>.bad
  | none=>.bad
 | _,_=>.bad
section
variable {C:MC} {k:Nat} {X:Cx}
theorem IF:MtS C k X "list" isL "list.index" rE:=fun c=>⟨fun pins s σ H x xs v us Q I rx rv h=>by
 obtain ⟨φ,h,p,ps,rh,rp,rs,po⟩:=h
 unfold rE at po
 split at po
 ·rename_i n z
  split at po
  ·rename_i ys e
   split at po
   ·rename_i ss es
    obtain ⟨hlt,po⟩:=po.ite
    obtain ⟨a,rfl,ha⟩:=rp
    cases rx
    obtain ⟨v2,rfl,rz⟩:=rs.one
    cases rz
    obtain ⟨u,rfl,ru⟩:=vals1 rv
    obtain ⟨t,rfl⟩:=ru
    obtain ⟨a2,vs,ha2,sq,rvs⟩:=bF rh e
    rw [ha] at ha2; cases ha2
    rw [<- c.K] at sq
    obtain ⟨its,ri,pl,hz⟩:=I.list sq
    have ey:=zV es
    subst ey
    have hi:∀ (m:Nat) (x:Str),ss[m]?=some x->∃ t,its[m]?=some (.str x t):=fun m x hm=>by
     obtain ⟨w,hw,rw'⟩:=rvs.at (i:=m) (x:=.str x) (by rw [List.getElem?_map,hm]; rfl)
     cases rw'
     obtain ⟨y,hy,ry⟩:=ri.get hw
     obtain ⟨t',rfl⟩:=ry
     exact ⟨t',hy⟩
    have hl:its.length=ss.length:=by
     have h1:=rvs.length
     have h2:=ri.length
     rw [List.length_map] at h1
     omega
    obtain ⟨ob,n',ge0,hcl,hdi,hda⟩:=pl
    have ge:s.heap.get? a=some { cls:=.type "list",dict:=none,data:=.seq its.toArray n',slots:=ob.slots }:=by
     rw [ge0]
     cases ob
     simp only at hcl hdi hda
     rw [hcl,hdi,hda]
    let e:Value->Bool:=fun y=>match y with | .str a _=>a == z | _=>false
    have hget:∀ (m:Nat) (hm:m < its.toArray.size),∃ t,its.toArray[m]=.str (ss[m]'(by simpa [hl] using hm)) t:=fun m hm=>by
     have hm':m < ss.length:=by simpa [hl] using hm
     obtain ⟨t',ht⟩:=hi m ss[m] (by simp [hm'])
     refine ⟨t',?_⟩
     have:=(List.getElem?_eq_some_iff.mp ht).2
     simpa using this
    refine call_meets F.slot_list_index ⟨_,ge,rfl⟩ F.entry_list_index (F.args_list_index_2 _ _) (list_indexAt a its.toArray n' none ob.slots (.str z t) e (ss.idxOf z) (by simpa [hl] using hlt) ?_ ?_ ?_) ⟨ge,?_,?_⟩
    ·have:=hz
     have h1:=ri.length
     rw [sizeLine_eq] at this
     omega
    ·obtain ⟨t',ht⟩:=hget (ss.idxOf z) (by simpa [hl] using hlt)
     rw [ht]
     show (ss[ss.idxOf z] == z)=true
     simp
    ·intro m hm hlt2
     obtain ⟨t',ht⟩:=hget m hm
     rw [ht]
     show (ss[m] == z)=false
     have:=List.not_of_lt_findIdx (p:=fun x=>x == z) (xs:=ss) (i:=m) hlt2
     simpa using this
    ·intro y hy
     obtain ⟨m,hm,rfl⟩:=Array.getElem_of_mem hy
     obtain ⟨t',ht⟩:=hget m hm
     rw [ht]
     exact EqAt.str_str _ _ _ _
    ·exact ⟨.int (ss.idxOf z:Nat),H,I.kept (t':=s.toks+1) fun _ _ e=>e,⟨_,rfl⟩,po.val rh rfl⟩
   ·exact po.elim
  ·exact po.elim
 ·exact po.elim,fun φ H h p x rh rv e=>F9 rh rv e⟩
theorem Du {h:PH} {n:Nat} {ss:List Str} {z:Str} (e:h[n]?=some (.lst (ss.map PV.str))) (hz:z∈ss):rE (.ref n) [.str z] h=.ok (.int (ss.idxOf z:Nat)) h:=by
 have e1:aM h n=some (ss.map PV.str):=by simp [aM,e]
 simp only [rE,e1,zU]
 rw [if_pos (List.idxOf_lt_length_iff.mpr hz)]
end
end L2
set_option Elab.async false
set_option linter.all false
set_option maxRecDepth 100000
namespace L2
open PySem PySem.Spec PyProof.Rows PySem.SeqAt PySem.W
section
variable {C:MC} {k:Nat} {X:Cx} {e1 e2:Expr} {ms:Ma} {p pos p2 pos2:Pos}
end
end L2
set_option Elab.async false
set_option linter.all false
set_option maxRecDepth 100000
set_option maxHeartbeats 4000000
namespace K76
open PySem L2
noncomputable section
def uT:Ms:=
 (aV (bQ 5 (aD vAt (mC (.str "abcdefghijklmnopqrstuvwxyz")) (aD iD (aD bM (aD kE (mV 0) (mC (.int 64))) (aD Da (mV 4) (aD bM (mC (.int 1)) (aD iD (aD kE (mV 0) (mC (.int 3))) (mC (.int 8)))))) (mC (.int 26)))))
  (zH (mMt isL (onL cR) (mV 3) (aB (aD bM (aD bM (aD Dj (mC (.str "k")) (mV 2)) (mV 5)) (aD Dj (mC (.str "k")) (aD AZ (aD AZ (mV 1) (mC (.int 1))) (mV 2)))) aI))))
def xJ:Ms:=
 (aV (bQ 1 (aD bM (mC (.int 1)) (aD iD (mV 0) (mC (.int 8)))))
 (aV (bQ 2 (aD iD (aD kE (mV 0) (mC (.int 8))) (mV 1)))
 (aV (bQ 3 (kG aI))
 (aV (jQ (hU (aB (aD bM (mC (.int 1)) (aD iD (aD kE (mV 0) (mC (.int 5))) (mC (.int 6)))) aI)) (gN 4) uT)
 (cK (mV 3))))))
def jD:Fn:=mFn 6 xJ
def Bc:Ms:=
 (cK (mCB nE (aB (mCB eT (aB (bT [none,some 0,some 1] (hU (aB (mCB eQ (aB (mV 0) aI)) aI)) (gN 0) (cE (aD vGt (aD vAt (mV 2) (mV 0)) (mC (.int 0)))) (eP (aB (aD vAt (mV 1) (mV 0)) (aB (aD vAt (mV 2) (mV 0)) aI)))) aI)) aI)))
def iO:Fn:=mFn 2 Bc
def xK:Ms:=
 (aV (bQ 2 (aD iD (aD Da (aD bM (aD bM (mV 0) (aD Da (mC (.int 7919)) (mV 1))) (mC (.int 1))) (mC (.int 48271))) (mC (.int 2147483647))))
 (cK (aD iD (aD Da (mV 2) (aD bM (aD kE (mV 2) (mC (.int 1009))) (mC (.int 69621)))) (mC (.int 2147483647)))))
def jE:Fn:=mFn 3 xK
def FD:Ms:=
 (aV (bQ 3 (bP 2 jE (aB (mV 2) (aB (mC (.int 1)) aI))))
 (aV (kH (cE (aD qT (mV 0) (mC (.int 2))))
  (cK (eP (aB (mC (.str "settle")) aI)))
  nF)
 (aV (kH (qN (cE (aD vEq (mV 0) (mC (.int 2)))) (cE (aD vGt (mV 1) (mC (.int 0)))))
  (aV (bQ 4 (aD bM (mC (.int 1)) (aD iD (mV 3) (mV 1))))
  (cK (eP (aB (mC (.str "back")) (aB (mV 4) (aB (aD bM (mV 4) (aD iD (aD kE (mV 3) (mC (.int 64))) (aD AZ (aD bM (mV 1) (mC (.int 1))) (mV 4)))) aI))))))
  nF)
 (cK (eP (aB (mC (.str "add")) (aB (eP (aB (mC (.str "t")) (aB (mC (.int 1)) aI))) (aB (aD iD (mV 2) (aD KF (mC (.int 10)) (mC (.int 39)))) aI))))))))
def uU:Fn:=mFn 5 FD
def iP:Ms:=
 (aV (bQ 5 (aD iD (mV 4) (mCB eQ (aB (mV 1) aI))))
  (aV (bQ 6 (aD vAt (mV 2) (mV 5)))
  (aV (bQ 7 (aD iD (aD kE (mV 4) (mCB eQ (aB (mV 1) aI))) (mC (.int 8))))
  (kH (cE (aD qT (mV 7) (mC (.int 5))))
   (aV (bQ 8 (eP (aB (aD vAt (mV 1) (mV 5)) (aB (aD bM (aD vAt (mV 6) (mV 5)) (mC (.int 1))) aI))))
   (aV (bQ 9 (eP (aB (mV 8) (aB (bP 2 iO (aB (mV 1) (aB (mV 6) aI))) (aB (bP 3 uU (aB (mV 7) (aB (aD vAt (mV 6) (mV 5)) (aB (aD kE (mV 4) (mC (.int 32))) aI)))) aI)))))
   (aV (lI (aD bM (aD vAt (mV 6) (mV 5)) (mC (.int 1))) (mV 6) (mV 5))
   (zH (mMt isL (onL cR) (mV 3) (aB (eP (aB (mV 9) (aB (mCB oD (aB (mV 6) aI)) aI))) aI))))))
   (aV (bQ 10 (aD iD (aD bM (aD bM (mV 5) (mC (.int 1))) (aD iD (aD kE (mV 4) (mC (.int 32))) (mCB lK (aB (mC (.int 1)) (aB (aD AZ (mCB eQ (aB (mV 1) aI)) (mC (.int 1))) aI))))) (mCB eQ (aB (mV 1) aI))))
   (aV (bQ 11 (aD vAt (mV 2) (mV 10)))
   (aV (bQ 12 (bT [none,some 1,some 10] (bR (mV 3)) (gN 0) (cE (aD vEq (aD vAt (aD vAt (aD vAt (mV 0) (mC (.int 0))) (mC (.int 0))) (mC (.int 0))) (aD vAt (mV 1) (mV 2)))) (mV 0)))
   (aV (kH (qN (cE (aD qT (mV 7) (mC (.int 7)))) (cE (aD IE (mV 12) (kG aI))))
    (bQ 11 (aD vAt (aD vAt (mV 12) (aD iD (aD kE (mV 4) (mC (.int 64))) (mCB eQ (aB (mV 12) aI)))) (mC (.int 1))))
    nF)
   (lI (bT [none,some 6,some 11] (hU (aB (mCB eQ (aB (mV 1) aI)) aI)) (gN 0) fH (mCB lK (aB (aD vAt (mV 1) (mV 0)) (aB (aD vAt (mV 2) (mV 0)) aI)))) (mV 2) (mV 5))))))))))
def nK:Ms:=
 (aV (bQ 2 (bT [none,some 1] (bR (mV 1)) (gN 0) fH (bT [none] (bR (mV 1)) (gN 0) fH (mC (.int 0)))))
 (aV (bQ 3 (kG aI))
 (aV (jQ (bR (mV 0)) (gN 4) iP)
 (cK (eP (aB (mV 3) (aB (mV 2) aI)))))))
def dY:Fn:=mFn 13 nK
def rF:Ms:=
 (aV (kH (cE (aD vEq (mV 0) (kG aI)))
  (cK (kG aI))
  nF)
 (aV (bQ 2 (aD iD (mV 1) (mCB eQ (aB (mV 0) aI))))
 (cK (aD bM (aD bM (mUn uN (mSl (mV 0) (mP (mV 2)) HW)) (mSl (mV 0) HW (mP (mV 2)))) (kG (aB (aD vAt (mV 0) (mC (.int 0))) aI))))))
def iQ:Fn:=mFn 3 rF
def iR:Ms:=
 (cK (aD vAt (aD vAt (mV 0) (mC (.int 0))) (mC (.int 1))))
def bW:Fn:=mFn 1 iR
def nL:Ms:=
 (cK (Co bW (bT [none,some 0] (bR (mV 1)) (gN 0) (cE (aD vEq (aD vAt (aD vAt (mV 0) (mC (.int 0))) (mC (.int 0))) (mV 1))) (mV 0))))
def cX:Fn:=mFn 2 nL
def xM:Ms:=
 (cK (aD bM (mC (.int 1)) (mCB Di (aB (bT [none] (bR (aD vAt (mV 0) (mC (.int 1)))) (gN 0) fH (aD vAt (mV 0) (mC (.int 1)))) aI))))
def lL:Fn:=mFn 1 xM
def xO:Ms:=
 (aV (bQ 2 (bT [none] (bR (mV 1)) (gN 0) (cE (aD vEq (aD vAt (aD vAt (mV 0) (mC (.int 2))) (mC (.int 0))) (mC (.str "settle")))) (mV 0)))
 (aV (bQ 3 (bT [none,some 2] (bR (mV 0)) (gN 0) fH (bP 2 cX (aB (mV 0) (aB (mV 1) aI)))))
 (cK (mCB rA (aB (bT [none] (bR (mV 3)) (gN 0) fH (mIf (cE (aD vIs (mV 0) (mC .non))) (mC (.int 0)) (bP 1 lL (aB (mV 0) aI)))) aI)))))
def eU:Fn:=mFn 4 xO
def rG:Ms:=
 (lI (mCB lK (aB (mV 4) (aB (mMt oG Dk (mV 2) (aB (mV 3) (aB (mV 4) aI))) aI))) (mV 2) (mV 3))
def rH:Ms:=
 (aV (bQ 2 (mCB xG (aB (mV 0) aI)))
 (aV (jQ (bR (mV 1)) (gTp 2 (gCn (gN 3) (gCn (gN 4) gNl))) rG)
 (cK (mCB nE (aB (mCB eT (aB (KQ oG qY (mV 2)) aI)) aI)))))
def iS:Fn:=mFn 5 rH
def nM:Ms:=
 (cK (bP 2 iS (aB (mV 0) (aB (eP (aB (mV 1) aI)) aI))))
def fM:Fn:=mFn 2 nM
def xP:Ms:=
 (aV (bQ 2 (bP 2 cX (aB (mV 0) (aB (mV 1) aI))))
 (cK (mIf (cE (aD vIs (mV 2) (mC .non))) (eP aI) (bP 2 fM (aB (aD vAt (mV 2) (mC (.int 1))) (aB (aD vAt (mV 2) (mC (.int 0))) aI))))))
def eV:Fn:=mFn 3 xP
def oK:Ms:=
 (aV (bQ 4 (bT [none,none,some 3] (bR (mV 1)) (gTp 2 (gCn (gN 0) (gCn (gN 1) gNl))) (qN (cE (aD vEq (aD vAt (aD vAt (mV 0) (mC (.int 0))) (mC (.int 0))) (mV 2))) (cE (aD vEq (aD vAt (aD vAt (mV 0) (mC (.int 2))) (mC (.int 0))) (mC (.str "settle"))))) (mV 0)))
  (aV (kH (cE (aD vEq (mV 4) (kG aI)))
   (cK (mC (.int 0)))
   nF)
  (zH (mMt isL (onL cR) (mV 2) (aB (aD bM (mC (.int 1)) (mCB Di (aB (bT [none,none] (bR (aD vAt (aD vAt (mV 4) (mUn Dc (mC (.int 1)))) (mC (.int 1)))) (gTp 2 (gCn (gN 0) (gCn (gN 1) gNl))) fH (mV 1)) aI))) aI)))))
def nN:Ms:=
 (aV (bQ 2 (kG aI))
 (aV (jQ (bR (mV 0)) (gN 3) oK)
 (cK (mCB rA (aB (mV 2) aI)))))
def fN:Fn:=mFn 5 nN
def uV:Ms:=
 (kH (cE (aD vEq (aD vAt (aD vAt (mV 7) (mC (.int 0))) (mC (.int 0))) (mV 5)))
    (bQ 6 (bP 2 iO (aB (mV 0) (aB (mV 8) aI))))
    nF)
def nO:Ms:=
 (aV (bQ 6 (eP aI))
  (aV (jQ (bR (mV 1)) (gTp 2 (gCn (gN 7) (gCn (gN 8) gNl))) uV)
  (aV (bQ 9 (bP 2 eV (aB (mV 5) (aB (mV 4) aI))))
  (kH (F0 (zG (cE (mCB wK (aB (mV 9) (aB (mC (.ty "tuple")) aI))))) (cE (aD vNe (mV 9) (mV 6))))
   (cK (mC (.bl false)))
   nF))))
def xQ:Ms:=
 (aV (bQ 3 (bP 2 iQ (aB (bT [none,none] (bR (mV 1)) (gTp 2 (gCn (gN 0) (gCn (gN 1) gNl))) fH (mV 0)) (aB (mV 2) aI))))
 (aV (bQ 4 (mCB oD (aB (mV 3) aI)))
 (aV (jQ (bR (mV 0)) (gN 5) nO)
 (aV (bQ 9 (bP 2 eU (aB (mCB oD (aB (mV 0) aI)) (aB (mV 4) aI))))
 (aV (kH (F0 (zG (cE (mCB wK (aB (mV 9) (aB (mC (.ty "int")) aI))))) (cE (mCB wK (aB (mV 9) (aB (mC (.ty "bool")) aI)))))
  (cK (mC (.bl false)))
  nF)
 (cK (oB (aD vEq (mV 9) (bP 2 fN (aB (mV 0) (aB (mV 1) aI)))) (aD vEq (mV 4) (mV 3)))))))))
def gK:Fn:=mFn 10 xQ
def uW:Ms:=
 (aV (bQ 5 (aD vAt (aD vAt (mV 4) (mC (.int 0))) (mC (.int 0))))
  (kH (cE (aD vLe (aD vAt (mV 5) (mC (.int 1))) (aD vAt (mV 2) (mMt isL rE (mV 1) (aB (aD vAt (mV 5) (mC (.int 0))) aI)))))
   (zH (mMt isL (onL cR) (mV 3) (aB (mV 4) aI)))
   nF))
def xR:Ms:=
 (aV (bQ 3 (kG aI))
 (aV (jQ (bR (mV 0)) (gN 4) uW)
 (cK (mV 3))))
def lM:Fn:=mFn 6 xR
def xT:Ms:=
 (kH (zG (cE (bP 3 gK (aB (mV 2) (aB (bP 3 lM (aB (mV 3) (aB (mV 2) (aB (aD vAt (mV 4) (mV 5)) aI)))) (aB (aD bM (aD kE (mV 1) (mC (.int 7))) (mV 5)) aI))))))
   (cK (mC (.bl false)))
   nF)
def FF:Ms:=
 (aV (bQ 1 (mC (.int 0)))
 (aV (kH (cE (aD vGt (mCB eQ (aB (mV 0) aI)) (mC (.int 0))))
  (bQ 1 (aD vAt (mV 0) (mC (.int 0))))
  nF)
 (aV (bQ 2 (bP 1 jD (aB (mV 1) aI)))
 (aV (F5 (bP 2 dY (aB (mSl (mV 0) (mP (mC (.int 1))) (mP (mC (.int 41)))) (aB (mV 2) aI))) (gTp 2 (gCn (gN 3) (gCn (gN 4) gNl))))
 (aV (jQ (hU (aB (mCB eQ (aB (mV 2) aI)) aI)) (gN 5) xT)
 (cK (oB (bP 3 gK (aB (mV 2) (aB (mV 3) (aB (aD kE (mV 1) (mC (.int 11))) aI)))) (oB (aD vEq (bP 2 eV (aB (aD vAt (mV 2) (mC (.int 0))) (aB (kG aI) aI))) (eP aI)) (aD vEq (bP 2 eU (aB (mV 2) (aB (kG aI) aI))) (mC (.int 0)))))))))))
def FG:Fn:=mFn 6 FF
end
end K76
set_option Elab.async false
set_option linter.all false
set_option maxRecDepth 100000
set_option maxHeartbeats 1000000
namespace K76
open PySem L2
abbrev Seen:=List (Str×Int)
def ltS (a b:Str):Prop:=a.cps.toList < b.cps.toList
def look:Seen->Str->Option Int
 | [],_=>none
 | p :: r,h=>if p.1=h then some p.2 else look r h
theorem fO (p:Str×Int) (r:Seen) (h:Str):look (p :: r) h=if p.1=h then some p.2 else look r h:=(rfl)
def Asc (S:Seen):Prop:=S.Pairwise fun a b=>ltS a.1 b.1
def dput (kvs:Seen) (h:Str) (n:Int):Seen:=if (look kvs h).isSome then kvs.map (fun p=>if p.1=h then (p.1,n) else p) else kvs++[(h,n)]
def emb (kvs:Seen):List (Key×PV):=kvs.map fun p=>(.inr p.1,.int p.2)
def row (p:Str×Int):List Key:=[.inr p.1,.inl p.2]
def sv (S:Seen):PV:=.tup (S.map fun p=>.tup [.str p.1,.int p.2])
theorem rJ (h:Str):∀ kvs:Seen,cG (emb kvs) (.inr h)=(look kvs h).map PV.int
 | []=>rfl
 | p :: r=>by
  show cG ((Sum.inr p.1,PV.int p.2) :: emb r) (.inr h)=_
  unfold cG look
  by_cases e:p.1=h
  ·rw [if_pos e,if_pos (by rw [e])]; rfl
  ·rw [if_neg e,if_neg (by simpa using e)]; exact rJ h r
theorem Cq (kvs:Seen) (h:Str) (n:Int):jS (emb kvs) (.inr h) (.int n)=emb (dput kvs h n):=by
 unfold jS dput
 rw [rJ]
 cases look kvs h with
 | none=>simp [emb]
 | some m=>
  simp only [Option.map_some,Option.isSome_some,if_true]
  unfold emb
  rw [List.map_map,List.map_map]
  apply List.map_congr_left
  intro p _
  by_cases e:p.1=h
  ·simp [e]
  ·simp [e]
theorem nQ {S:Seen} {h:Str}:look S h=none ↔ ∀ p∈S,p.1≠h:=by
 induction S with
 | nil=>simp [look]
 | cons p r ih=>
  unfold look
  by_cases e:p.1=h
  ·simp [e]
  ·simp [e,ih]
theorem iT {S:Seen} {h:Str} {n:Int} (e:look S h=some n):(h,n)∈S:=by
 induction S with
 | nil=>cases e
 | cons p r ih=>
  unfold look at e
  split at e
  ·rename_i z
   cases e
   rw [<- z]
   exact List.mem_cons_self
  ·exact List.mem_cons_of_mem _ (ih e)
theorem FH {S T:Seen} {h:Str}:look (S++T) h=(look S h).or (look T h):=by
 induction S with
 | nil=>simp [look]
 | cons p r ih=>
  show look (p :: (r++T)) h=_
  rw [fO,fO]
  split
  ·simp
  ·exact ih
theorem FI {S:Seen} {h h':Str} {n:Int}:look (S.map fun p=>if p.1=h then (p.1,n) else p) h'=(look S h').map fun m=>if h'=h then n else m:=by
 induction S with
 | nil=>rfl
 | cons p r ih=>
  rw [List.map_cons]
  by_cases e:p.1=h
  ·rw [if_pos e]
   unfold look
   by_cases e':p.1=h'
   ·rw [if_pos e',if_pos e']
    simp [<- e',e]
   ·rw [if_neg e',if_neg e']; exact ih
  ·rw [if_neg e]
   unfold look
   by_cases e':p.1=h'
   ·have:¬ h'=h:=fun z=>e (e'.trans z)
    rw [if_pos e',if_pos e']
    simp [this]
   ·rw [if_neg e',if_neg e']; exact ih
theorem A5 (S:Seen) (h h':Str) (n:Int):look (dput S h n) h'=if h'=h then some n else look S h':=by
 unfold dput
 cases e:look S h with
 | some m=>
  simp only [Option.isSome_some,if_true]
  rw [FI]
  by_cases z:h'=h
  ·subst z; simp [e]
  ·simp [z]
 | none=>
  simp only [Option.isSome_none,Bool.false_eq_true,if_false]
  rw [FH]
  by_cases z:h'=h
  ·subst z; simp [e,look]
  ·have z':¬ h=h':=fun q=>z q.symm
   simp [look,z,z']
theorem keys_map {S:Seen} {h:Str} {n:Int}:(S.map fun p=>if p.1=h then (p.1,n) else p).map (·.1)=S.map (·.1):=by
 rw [List.map_map]
 apply List.map_congr_left
 intro p _
 by_cases e:p.1=h <;> simp [e]
theorem Dv {S:Seen} {h:Str} {n:Int} (hn:(S.map (·.1)).Nodup):((dput S h n).map (·.1)).Nodup:=by
 unfold dput
 cases e:look S h with
 | some m=>simp only [Option.isSome_some,if_true]; rw [keys_map]; exact hn
 | none=>
  simp only [Option.isSome_none,Bool.false_eq_true,if_false]
  rw [List.map_append,List.nodup_append]
  refine ⟨hn,by simp,fun x hx y hy=>?_⟩
  obtain ⟨p,hp,rfl⟩:=List.mem_map.mp hx
  have:y=h:=by simpa using hy
  subst this
  exact nQ.mp e p hp
theorem IG {S:Seen} {h:Str} {n:Int}:(dput S h n).length<=S.length+1:=by
 unfold dput
 split <;> simp
theorem eL {S:Seen} (hn:(S.map (·.1)).Nodup) {p:Str×Int} (hp:p∈S):look S p.1=some p.2:=by
 induction S with
 | nil=>cases hp
 | cons q r ih=>
  rw [List.map_cons,List.nodup_cons] at hn
  unfold look
  rcases List.mem_cons.mp hp with rfl | hp
  ·simp
  ·have:¬ q.1=p.1:=fun z=>hn.1 (z ▸ List.mem_map.mpr ⟨p,hp,rfl⟩)
   rw [if_neg this]
   exact ih hn.2 hp
theorem IH (a:Str):¬ ltS a a:=List.lt_irrefl _
theorem cY {S:Seen} (h:Asc S):(S.map (·.1)).Nodup:=by
 unfold List.Nodup
 rw [List.pairwise_map]
 exact h.imp fun {a b} q e=>by rw [e] at q; exact IH _ q
theorem II {S T:Seen} (hS:Asc S) (hT:Asc T) (h:∀ x,look S x=look T x):S=T:=by
 have nS:=cY hS
 have nT:=cY hT
 refine List.Perm.eq_of_pairwise (le:=fun (a b:Str×Int)=>ltS a.1 b.1) (fun a b _ _ (h1:ltS a.1 b.1) (h2:ltS b.1 a.1)=>absurd h2 (List.lt_asymm h1)) hS hT ?_
 refine (List.perm_ext_iff_of_nodup (List.Pairwise.of_map _ (fun a b q e=>q (by rw [e])) nS) (List.Pairwise.of_map _ (fun a b q e=>q (by rw [e])) nT)).mpr fun p=>?_
 constructor
 ·intro hp
  have:=eL nS hp
  rw [h] at this
  exact iT this
 ·intro hp
  have:=eL nT hp
  rw [<- h] at this
  exact iT this
def d1 (one:Seen):Seen:=one.foldl (fun acc p=>dput acc p.1 p.2) []
def dQ (acc:Seen) (p:Str×Int):Seen:=dput acc p.1 (if (look acc p.1).getD p.2 > p.2 then (look acc p.1).getD p.2 else p.2)
def d2 (one other:Seen):Seen:=other.foldl dQ (d1 one)
def mx:Option Int->Option Int->Option Int
 | none,o=>o
 | some n,none=>some n
 | some n,some m=>some (if m > n then m else n)
theorem Cr:∀ (one:Seen) (acc:Seen),(one.map (·.1)).Nodup->∀ h,look (one.foldl (fun acc p=>dput acc p.1 p.2) acc) h=(look one h).or (look acc h)
 | [],acc,_,h=>by simp [look]
 | p :: r,acc,hn,h=>by
  rw [List.map_cons,List.nodup_cons] at hn
  rw [List.foldl_cons,Cr r _ hn.2,A5]
  show _=(look (p :: r) h).or _
  rw [fO]
  by_cases e:p.1=h
  ·have:look r h=none:=nQ.mpr fun q hq z=>hn.1 (by rw [e,<- z]; exact List.mem_map.mpr ⟨q,hq,rfl⟩)
   rw [if_pos e.symm,if_pos e,this]
   rfl
  ·rw [if_neg fun z=>e z.symm,if_neg e]
theorem uX:∀ (other:Seen) (acc:Seen),(other.map (·.1)).Nodup->∀ h,look (other.foldl dQ acc) h=mx (look other h) (look acc h)
 | [],acc,_,h=>rfl
 | p :: r,acc,hn,h=>by
  rw [List.map_cons,List.nodup_cons] at hn
  rw [List.foldl_cons,uX r _ hn.2]
  unfold dQ
  rw [A5]
  show _=mx (look (p :: r) h) _
  rw [fO]
  by_cases e:p.1=h
  ·have:look r h=none:=nQ.mpr fun q hq z=>hn.1 (by rw [e,<- z]; exact List.mem_map.mpr ⟨q,hq,rfl⟩)
   rw [if_pos e.symm,if_pos e,this,e]
   cases look acc h with
   | none=>simp [mx]
   | some m=>simp [mx]
  ·rw [if_neg fun z=>e z.symm,if_neg e]
theorem kK:∀ (other:Seen) (acc:Seen) (f:Seen->Str×Int->Int),(acc.map (·.1)).Nodup->((other.foldl (fun a p=>dput a p.1 (f a p)) acc).map (·.1)).Nodup
 | [],_,_,h=>h
 | _ :: r,_,f,h=>kK r _ f (Dv h)
theorem lN:∀ (other:Seen) (acc:Seen) (f:Seen->Str×Int->Int),(other.foldl (fun a p=>dput a p.1 (f a p)) acc).length<=acc.length+other.length
 | [],_,_=>Nat.le_refl _
 | p :: r,acc,f=>by
  have h1:=lN r (dput acc p.1 (f acc p)) f
  have h2:=IG (S:=acc) (h:=p.1) (n:=f acc p)
  rw [List.foldl_cons,List.length_cons]
  omega
def A6:List Key->Str×Int
 | [.inr x,.inl n]=>(x,n)
 | _=>("",0)
theorem FJ {a b:Str} (h:a.cps.toList=b.cps.toList):a=b:=by
 obtain ⟨x⟩:=a
 obtain ⟨y⟩:=b
 congr 1
 exact Array.toList_inj.mp h
theorem IJ {a b:Str×Int} (h:cI (row b) (row a)=false) (hne:a.1≠b.1):ltS a.1 b.1:=by
 unfold row cI at h
 rw [if_neg (fun z=>hne (by injection z with z; exact z.symm))] at h
 have h':¬ b.1.cps.toList < a.1.cps.toList:=by simpa [keyLt] using h
 rcases Classical.em (a.1.cps.toList < b.1.cps.toList) with q | q
 ·exact q
 ·exact absurd (FJ (List.le_antisymm h' q)) hne
theorem oM {D:Seen} (hn:(D.map (·.1)).Nodup):∃ S:Seen,cB (D.map row)=S.map row/\S.Perm D/\Asc S:=by
 have hp:=dP (D.map row)
 have e1:(D.map row).map A6=D:=by
  rw [List.map_map]
  conv=>rhs; rw [<- List.map_id D]
  rfl
 have p2:((cB (D.map row)).map A6).Perm D:=by
  have:=hp.map A6
  rwa [e1] at this
 have e2:((cB (D.map row)).map A6).map row=cB (D.map row):=by
  rw [List.map_map]
  conv=>rhs; rw [<- List.map_id (cB (D.map row))]
  apply List.map_congr_left
  intro z hz
  obtain ⟨p,_,rfl⟩:=List.mem_map.mp (hp.mem_iff.mp hz)
  rfl
 refine ⟨_,e2.symm,p2,?_⟩
 have s1:(cB (D.map row)).Pairwise (fun a b=>cI b a=false):=fA (S:=[false,true]) fun y hy=>by
  obtain ⟨p,_,rfl⟩:=List.mem_map.mp hy; rfl
 rw [<- e2,List.pairwise_map] at s1
 have n1:(((cB (D.map row)).map A6).map (·.1)).Nodup:=(p2.map (·.1)).nodup_iff.mpr hn
 unfold List.Nodup at n1
 rw [List.pairwise_map] at n1
 exact (s1.and n1).imp fun {a b} h=>IJ h.1 h.2
theorem uY:∀ S:Seen,iM (S.map fun p=>PV.tup [.str p.1,.int p.2])=some (emb S)
 | []=>rfl
 | p :: r=>by
  rw [List.map_cons]
  unfold iM
  rw [uY r]
  rfl
theorem uZ:∀ (S acc:Seen),nI (emb acc) (emb S)=emb (S.foldl (fun acc p=>dput acc p.1 p.2) acc)
 | [],_=>rfl
 | p :: r,acc=>by
  show nI (jS (emb acc) (.inr p.1) (.int p.2)) (emb r)=_
  rw [Cq,uZ r]
  rfl
theorem vA (D:Seen):wU (D.map row)=true:=by
 cases D with
 | nil=>rfl
 | cons p r=>
  rw [List.map_cons]
  unfold wU
  rw [Bool.and_eq_true]
  refine ⟨rfl,List.all_eq_true.mpr fun z hz=>?_⟩
  obtain ⟨q,_,rfl⟩:=List.mem_map.mp hz
  rfl
theorem vB {n:Nat} {h:PH} {S:Seen} (e:h[n]?=some (.lst ((S.map row).map tP))):nE [.ref n] h=.ok (sv S) h:=by
 simp [nE,aM,e]
 unfold sv
 congr 1
theorem Dw (one other:Seen) (n1:(one.map (·.1)).Nodup) (n2:(other.map (·.1)).Nodup) (hl:one.length+other.length < 64) (h:PH) (Q:PV->PH->Prop)
  (k:∀ S h',Ext h h'->Asc S->S.length<=one.length+other.length->(∀ x,look S x=mx (look other x) (look one x))->Q (sv S) h'):(iS [sv one,sv other] h).W Q:=by
 refine jR ?_
 have m0:nI [] (emb one)=emb (d1 one):=uZ one []
 have hd1:(d1 one).length<=one.length:=by
  have h0:(d1 one).length<=([]:Seen).length+one.length:=lN one [] (fun _ p=>p.2)
  simpa using h0
 have ed:∀ h,xG [.tup (one.map fun p=>PV.tup [.str p.1,.int p.2])] h=qV [.tup (one.map fun p=>PV.tup [.str p.1,.int p.2])] h:=fun h=>rfl
 simp [rH,aO,sv,ed,zT (uY one),m0]
 refine now ?_
 rw [aO]
 refine KZ (xs:=other.map fun p=>PV.tup [.str p.1,.int p.2]) (fun q δ h'=>h'=h++[.dK (emb ((other.take q).foldl dQ (d1 one)))]/\∃ x3 x4,δ=[some (sv one),some (sv other),some (.ref h.length),x3,x4]) ?_ ?_ ?_ ?_
 ·left; simp [sv]
 ·exact ⟨by simp,_,_,rfl⟩
 ·rintro q x δ h' hx ⟨rfl,x3,x4,rfl⟩
  rw [List.getElem?_map] at hx
  obtain ⟨p,hp,rfl⟩:=Option.map_eq_some_iff.mp hx
  refine ⟨_,rfl,?_⟩
  have g:(h++[MO.dK (emb ((other.take q).foldl dQ (d1 one)))])[h.length]?=some (.dK (emb ((other.take q).foldl dQ (d1 one)))):=aL
  have hlen:(emb ((other.take q).foldl dQ (d1 one))).length < 16777216:=by
   unfold emb
   rw [List.length_map]
   have:=lN (other.take q) (d1 one) (fun acc p=>if (look acc p.1).getD p.2 > p.2 then (look acc p.1).getD p.2 else p.2)
   have e:(List.take q other).length<=other.length:=by rw [List.length_take]; omega
   show ((other.take q).foldl dQ (d1 one)).length < _
   have:((other.take q).foldl dQ (d1 one)).length<=(d1 one).length+(other.take q).length:=this
   omega
  have e0:(cG (emb ((other.take q).foldl dQ (d1 one))) (Sum.inr p.1)).getD (PV.int p.2)=.int ((look ((other.take q).foldl dQ (d1 one)) p.1).getD p.2):=by
   rw [rJ]
   cases look ((other.take q).foldl dQ (d1 one)) p.1 <;> rfl
  have e1:(other.take (q+1)).foldl dQ (d1 one)=dQ ((other.take q).foldl dQ (d1 one)) p:=by
   rw [List.take_add_one,hp,List.foldl_append]
   rfl
  have e2:∀ o:MO,(h++[MO.dK (emb ((other.take q).foldl dQ (d1 one)))]).set h.length o=h++[o]:=fun o=>by
   rw [List.set_append_right _ _ (Nat.le_refl _),Nat.sub_self]
   rfl
  simp [rG,zS g,Iw g,e0,IC g hlen,Cq,e1,e2,dQ]
 ·rintro δ h' ⟨rfl,x3,x4,rfl⟩
  rw [List.length_map,List.take_length]
  refine now ?_
  have hn:((d2 one other).map (·.1)).Nodup:=kK other (d1 one) _ (kK one [] _ List.nodup_nil)
  obtain ⟨S,eS,pS,aS⟩:=oM hn
  have hlen:(d2 one other).length<=one.length+other.length:=by
   have h0:(d2 one other).length<=(d1 one).length+other.length:=lN other (d1 one) (fun acc p=>if (look acc p.1).getD p.2 > p.2 then (look acc p.1).getD p.2 else p.2)
   omega
  have g:(h++[MO.dK (emb (d2 one other))])[h.length]?=some (.dK (emb (d2 one other))):=aL
  have g1:(h++[MO.dK (emb (d2 one other))]++[MO.vw 0 h.length])[(h++[MO.dK (emb (d2 one other))]).length]?=some (.vw 0 h.length):=aL
  have g2:(h++[MO.dK (emb (d2 one other))]++[MO.vw 0 h.length])[h.length]?=some (.dK (emb (d2 one other))):=Ext.app _ _ _ _ g
  have ek:(emb (d2 one other)).map (fun kv=>PV.tup [kP kv.1,kv.2])=((d2 one other).map row).map tP:=by
   unfold emb
   rw [List.map_map,List.map_map]
   rfl
  have hs:=sP g1 g2 ek (by rw [List.length_map]; omega) (vA _)
  rw [eS] at hs
  have e3:∀ x:PH,(x++[MO.lst ((S.map row).map tP)])[x.length]?=some (.lst ((S.map row).map tP)):=fun x=>aL
  have look2:∀ x,look S x=mx (look other x) (look one x):=fun x=>by
   have e5:look S x=look (d2 one other) x:=by
    have nS:(S.map (·.1)).Nodup:=cY aS
    cases e6:look S x with
    | some n=>exact (eL hn (pS.mem_iff.mp (iT e6))).symm
    | none=>
     cases e7:look (d2 one other) x with
     | none=>rfl
     | some m=>exact absurd e6 (by rw [eL nS (pS.mem_iff.mpr (iT e7))]; simp)
   rw [e5]
   unfold d2
   rw [uX other _ n2]
   unfold d1
   rw [Cr one _ n1]
   simp [look]
  show (cK _ _ (h++[MO.dK (emb (d2 one other))])).W _
  rw [zI,qR,eK,qR,eK,Ie]
  simp only [ML,D9,D8,Rs.bind_ok,zS g,if_true,Dn g,pC,hs,vB (e3 _),qQ]
  exact k S _ ((Ext.app _ _).trans ((Ext.app _ _).trans (Ext.app _ _))) aS (by rw [pS.length_eq]; exact hlen) look2
abbrev FK:Str:="abcdefghijklmnopqrstuvwxyz"
theorem FL:FK.cps.toList.length=26:=by decide +kernel
theorem Dx:FK.length=26:=by decide +kernel
theorem FM:∀ i:Fin 26,FK.cps.toList[i.val]?=some (97+i.val):=by decide +kernel
theorem FN {x:Str} {c:Nat}:(x++(⟨#[c]⟩:Str)).length=x.length+1:=by
 rw [Str.length_append]; rfl
theorem IK {i:Int} (h0:0<=i) (h1:i < 26):atI FK.cps.toList i=some (97+i.toNat):=by
 rw [Ij h0 (by rw [FL]; exact h1)]
 exact FM ⟨i.toNat,by omega⟩
theorem app_list (x y:Str):(x++y).cps.toList=x.cps.toList++y.cps.toList:=PySem.W.KT.app_list x y
def pv (p:Str×Int):PV:=.tup [.str p.1,.int p.2]
theorem FO (S:Seen):sv S=.tup (S.map pv):=rfl
theorem Le (S:Seen):(S.map pv).all (PV.pl 39)=true:=by
 rw [List.all_eq_true]
 intro x hx
 obtain ⟨p,_,rfl⟩:=List.mem_map.mp hx
 rfl
theorem Nu (S:Seen):(sv S).pl 40=true:=Le S
theorem Bd (one:Seen) (p:Str×Int) (n1:(one.map (·.1)).Nodup) (hl:one.length<=20) (h:PH) (Q:PV->PH->Prop)
  (k:∀ S h',Ext h h'->Asc S->S.length<=21->(∀ x,look S x=mx (look [p] x) (look one x))->Q (sv S) h'):(fM [sv one,pv p] h).W Q:=by
 refine jR ?_
 simp [nM]
 exact Dw one [p] n1 (by simp) (by simp; omega) _ _ fun S h' hx aS hS lk=>k S h' hx aS (by simp at hS; omega) lk
def jW (hs:List Str) (c:List Int) (x:Str):Option Int:=if x∈hs/\0 < c.getD (hs.idxOf x) 0 then some (c.getD (hs.idxOf x) 0) else none
structure cZ (hs:List Str) (c:List Int) (S:Seen):Prop where
 asc:Asc S
 lk:∀ x,look S x=jW hs c x
theorem cZ.len {hs:List Str} {c:List Int} {S:Seen} (a:cZ hs c S):S.length<=hs.length:=by
 have nS:=cY a.asc
 have:=List.Nodup.length_le_of_subset nS (l₂:=hs) fun x hx=>by
  obtain ⟨p,hp,rfl⟩:=List.mem_map.mp hx
  have e:=eL nS hp
  rw [a.lk] at e
  unfold jW at e
  split at e
  ·rename_i z; exact z.1
  ·cases e
 rwa [List.length_map] at this
theorem cZ.one {hs:List Str} {c:List Int} {S T:Seen} (a:cZ hs c S) (b:cZ hs c T):S=T:=II a.asc b.asc fun x=>(a.lk x).trans (b.lk x).symm
def prs (hs:List Str) (c:List Int) (k:Nat):Option (Str×Int):=if 0 < c.getD k 0 then some (hs.getD k "",c.getD k 0) else none
theorem IL {hs:List Str} {c:List Int} (nd:hs.Nodup) {x:Str} {n:Int}:(x,n)∈(List.range hs.length).filterMap (prs hs c) ↔ jW hs c x=some n:=by
 rw [List.mem_filterMap]
 unfold jW prs
 constructor
 ·rintro ⟨k,hk,e⟩
  have hk:=List.mem_range.mp hk
  split at e
  ·rename_i hp
   have e:=Option.some.inj e
   have e1:hs.getD k "" = x:=congrArg Prod.fst e
   have e2:c.getD k 0=n:=congrArg Prod.snd e
   have e3:hs.getD k "" = hs[k]:=by simp [hk]
   rw [e3] at e1
   have hi:hs.idxOf x=k:=by rw [<- e1]; exact List.Nodup.idxOf_getElem nd k hk
   have hm:x∈hs:=by rw [<- e1]; exact List.getElem_mem hk
   rw [hi,if_pos ⟨hm,hp⟩,e2]
  ·cases e
 ·intro e
  split at e
  ·rename_i hp
   have hi:=List.idxOf_lt_length_iff.mpr hp.1
   refine ⟨hs.idxOf x,List.mem_range.mpr hi,?_⟩
   rw [if_pos hp.2]
   have e3:hs.getD (hs.idxOf x) "" = x:=by simp [hi]
   rw [e3,Option.some.inj e]
  ·cases e
theorem Lf {hs:List Str} {c:List Int} (nd:hs.Nodup):(((List.range hs.length).filterMap (prs hs c)).map (·.1)).Nodup:=by
 have sub:(((List.range hs.length).filterMap (prs hs c)).map (·.1)).Sublist ((List.range hs.length).map fun k=>hs.getD k ""):=by
  generalize List.range hs.length=ks
  induction ks with
  | nil=>simp
  | cons k ks ih=>
   rw [List.filterMap_cons]
   unfold prs
   split
   ·rename_i e
    exact (List.Sublist.cons _ ih)
   ·rename_i b e
    split at e
    ·cases e
     rw [List.map_cons,List.map_cons]
     exact ih.cons_cons _
    ·cases e
 have e:(List.range hs.length).map (fun k=>hs.getD k "")=hs:=by
  apply List.ext_getElem
  ·simp
  ·intro i h1 h2
   simp [h2]
 rw [e] at sub
 exact sub.nodup nd
theorem Cs {hs:List Str} (nd:hs.Nodup) (h6:hs.length<=6) {c:List Int} (lc:c.length=hs.length) {lh l:Nat} {h:PH} (gh:h[lh]?=some (.lst (hs.map PV.str))) (gc:h[l]?=some (.lst (c.map PV.int))) (Q:PV->PH->Prop) (k:∀ S h',Ext h h'->cZ hs c S->Q (sv S) h'):(iO [.ref lh,.ref l] h).W Q:=by
 refine jR ?_
 unfold Bc
 have hlv:=fJ gh
 rw [List.length_map] at hlv
 have hc:=zM (js:=[none,some 0,some 1]) (tg:=gN 0) (tst:=cE (aD vGt (aD vAt (mV 2) (mV 0)) (mC (.int 0)))) (elt:=eP (aB (aD vAt (mV 1) (mV 0)) (aB (aD vAt (mV 2) (mV 0)) aI))) (δ:=[some (.ref lh),some (.ref l)]) (h:=h) (h1:=h) (ms:=aB (mCB eQ (aB (mV 0) aI)) aI) (j:=(hs.length:Int))
  (fun k=>(prs hs c k).map pv) (by simp [hlv]) (by omega) (fun i hi=>⟨[some (.int (i:Int)),some (.ref lh),some (.ref l)],by simp [cQ],fun h' x'=>by
   have hi':i < hs.length:=by omega
   have e1:atI (hs.map PV.str) (i:Int)=some (.str (hs.getD i "")):=cO (by rw [List.getElem?_map]; simp [hi'])
   have e2:atI (c.map PV.int) (i:Int)=some (.int (c.getD i 0)):=cO (by rw [List.getElem?_map]; simp [lc,hi'])
   have v1:vIx (.ref lh) (.int (i:Int)) h'=.ok (.str (hs.getD i "")) h':=by rw [bY (x' _ _ gh),e1]; rfl
   have v2:vIx (.ref l) (.int (i:Int)) h'=.ok (.int (c.getD i 0)) h':=by rw [bY (x' _ _ gc),e2]; rfl
   unfold prs
   generalize c.getD i 0=cv at v2
   generalize hs.getD i "" = hv at v1
   by_cases hp:0 < cv
   ·simp [hp,v1,v2,pv]
   ·simp [hp,v2]⟩)
 have e0:(List.range ((hs.length:Int)).toNat).filterMap (fun k=>(prs hs c k).map pv)=(((List.range hs.length).filterMap (prs hs c)).map row).map tP:=by
  rw [List.map_map,Int.toNat_natCast]
  generalize List.range hs.length=ks
  induction ks with
  | nil=>rfl
  | cons k ks ih=>
   rw [List.filterMap_cons,List.filterMap_cons,ih]
   cases prs hs c k <;> rfl
 rw [e0] at hc
 have nP:=Lf (c:=c) nd
 have hm:=fun x n=>IL (c:=c) nd (x:=x) (n:=n)
 have lP:((List.range hs.length).filterMap (prs hs c)).length<=hs.length:=by
  have:=List.length_filterMap_le (prs hs c) (List.range hs.length)
  simpa using this
 generalize (List.range hs.length).filterMap (prs hs c)=P at hc nP hm lP
 obtain ⟨S,eS,pS,aS⟩:=oM nP
 have gp:(h++[MO.lst ((P.map row).map tP)])[h.length]?=some (.lst ((P.map row).map tP)):=aL
 have hso:=wX gp (by rw [List.length_map]; omega) (vA P)
 rw [eS] at hso
 have e3:∀ x:PH,(x++[MO.lst ((S.map row).map tP)])[x.length]?=some (.lst ((S.map row).map tP)):=fun x=>aL
 rw [show List.map some [PV.ref lh,PV.ref l]++List.replicate (2 - [PV.ref lh,PV.ref l].length) none=[some (.ref lh),some (.ref l)] from rfl,zI,qR,eK,qR,eK]
 simp only [hc,Rs.bind_ok,pC,hso,vB (e3 _),qQ]
 refine k S _ ((Ext.app _ _).trans (Ext.app _ _)) ⟨aS,fun x=>?_⟩
 cases e:jW hs c x with
 | some n=>exact eL (cY aS) (p:=(x,n)) (pS.mem_iff.mpr ((hm x n).mpr e))
 | none=>
  cases e2:look S x with
  | none=>rfl
  | some m=>
   have:=(hm x m).mp (pS.mem_iff.mp (iT e2))
   rw [e] at this
   cases this
theorem Dy {hs:List Str} {c:List Int} {w:Nat} (nd:hs.Nodup) (lc:c.length=hs.length) (hw:w < hs.length) {n:Int} (hn:c.getD w 0=n) (h0:0<=n) {S T:Seen} (a:cZ hs c S) (aT:Asc T) (lT:∀ x,look T x=mx (look [(hs.getD w "",n+1)] x) (look S x)):cZ hs (c.set w (n+1)) T:=by
 refine ⟨aT,fun x=>?_⟩
 rw [lT x,a.lk x]
 have ew:hs.getD w "" = hs[w]:=by simp [hw]
 rw [ew,fO]
 by_cases e:hs[w]=x
 ·have hi:hs.idxOf x=w:=by rw [<- e]; exact List.Nodup.idxOf_getElem nd w hw
  have hm:x∈hs:=by rw [<- e]; exact List.getElem_mem hw
  rw [if_pos e]
  have e2:(c.set w (n+1)).getD w 0=n+1:=by simp [lc,hw]
  have R:jW hs (c.set w (n+1)) x=some (n+1):=by
   unfold jW
   rw [hi,e2,if_pos ⟨hm,by omega⟩]
  rw [R]
  unfold jW
  rw [hi,hn]
  by_cases hp:0 < n
  ·rw [if_pos ⟨hm,hp⟩]
   simp only [mx]
   rw [if_neg (show ¬ (n > n+1) by omega)]
  ·rw [if_neg (fun z=>hp z.2)]
   rfl
 ·rw [if_neg e]
  have hne:x∈hs->hs.idxOf x≠w:=fun hm z=>e (by
   have:=List.getElem_idxOf (List.idxOf_lt_length_iff.mpr hm)
   simp only [z] at this
   exact this)
  unfold jW
  by_cases hm:x∈hs
  ·have e2:(c.set w (n+1)).getD (hs.idxOf x) 0=c.getD (hs.idxOf x) 0:=by
    simp [List.getElem?_set_ne (Ne.symm (hne hm))]
   rw [e2]
   rfl
  ·rw [if_neg (fun z=>hm z.1),if_neg (fun z=>hm z.1)]
   rfl
inductive Ac where
 | settle
 | back (a b:Int)
 | add (n:Int)
def acV:Ac->PV
 | .settle=>.tup [.str "settle"]
 | .back a b=>.tup [.str "back",.int a,.int b]
 | .add n=>.tup [.str "add",.tup [.str "t",.int 1],.int n]
def acS:Ac->Str
 | .settle=>"settle"
 | .back _ _=>"back"
 | .add _=>"add"
def acB:Ac->Bool
 | .settle=>true
 | _=>false
theorem ac0 (a:Ac) (h:PH):vIx (acV a) (.int 0) h=.ok (.str (acS a)) h:=by cases a <;> simp [acV,acS]
theorem Nv (a:Ac):decide (acS a="settle")=acB a:=by
 have n1:¬ ("back" : Str)="settle" := by decide +kernel
 have n2:¬ ("add" : Str)="settle" := by decide +kernel
 cases a with
 | settle=>exact decide_eq_true rfl
 | back a b=>exact decide_eq_false n1
 | add n=>exact decide_eq_false n2
structure De where
 nm:Str×Int
 sn:Seen
 ac:Ac
def deV (d:De):PV:=.tup [pv d.nm,sv d.sn,acV d.ac]
theorem de0 (d:De) (h:PH):vIx (deV d) (.int 0) h=.ok (pv d.nm) h:=by unfold deV; simp
theorem de1 (d:De) (h:PH):vIx (deV d) (.int 1) h=.ok (sv d.sn) h:=by unfold deV; simp
theorem de2 (d:De) (h:PH):vIx (deV d) (.int 2) h=.ok (acV d.ac) h:=by unfold deV; simp
theorem pv0 (p:Str×Int) (h:PH):vIx (pv p) (.int 0) h=.ok (.str p.1) h:=by unfold pv; simp
theorem pv1 (p:Str×Int) (h:PH):vIx (pv p) (.int 1) h=.ok (.int p.2) h:=by unfold pv; simp
theorem Lg (d:De):(deV d).pl 39=true:=by
 show [pv d.nm,sv d.sn,acV d.ac].all (PV.pl 38)=true
 have e1:(sv d.sn).pl 38=true:=by
  rw [FO]
  show (d.sn.map pv).all (PV.pl 37)=true
  rw [List.all_map]
  exact List.all_eq_true.mpr fun y _=>rfl
 have e2:(acV d.ac).pl 38=true:=by cases d.ac <;> rfl
 have e0:(pv d.nm).pl 38=true:=rfl
 simp [e0,e1,e2]
theorem pI (ds:List De):(ds.map deV).all (PV.pl 39)=true:=by
 rw [List.all_map]
 exact List.all_eq_true.mpr fun d _=>Lg d
theorem Dz (d:De) (h:PH):bW [deV d] h=.ok (.int d.nm.2) h:=by
 have w:(bW [deV d] h).W fun q h'=>q=.int d.nm.2/\h'=h:=by
  refine jR ?_
  simp [iR,de0,pv1]
 obtain ⟨q,h',e,rfl,rfl⟩:=KS w
 exact e
def DA (d:De):Int:=1+(d.sn.map (·.2)).sum
theorem FP (d:De) (ld:d.sn.length<=1000) (h:PH) (Q:PV->PH->Prop) (k:∀ h',Ext h h'->Q (.int (DA d)) h'):(lL [deV d] h).W Q:=by
 refine jR ?_
 unfold xM
 have hc:=uG (m:=aD vAt (mV 0) (mC (.int 1))) (js:=[none]) (tg:=gN 0) (tst:=fH) (elt:=aD vAt (mV 0) (mC (.int 1))) (δ:=[some (deV d)]) (h:=h) (h1:=h) (ys:=d.sn) (emb:=pv)
  (fun p=>some (.int p.2)) (by simp [de1,FO]) (by omega) (fun p _=>⟨[some (pv p)],by simp [cQ],fun h' _=>⟨rfl,by simp [pv1]⟩⟩)
 rw [filterMap_some (fun p:Str×Int=>PV.int p.2) d.sn] at hc
 have g1:(h++[MO.lst (d.sn.map fun p=>PV.int p.2)])[h.length]?=some (.lst ((d.sn.map (·.2)).map PV.int)):=by rw [List.map_map]; exact aL
 have x1:Ext h (h++[MO.lst (d.sn.map fun p=>PV.int p.2)]):=Ext.app _ _
 generalize h++[MO.lst (d.sn.map fun p=>PV.int p.2)]=hA at hc g1 x1
 have vs:=zK g1
 rw [show List.map some [deV d]++List.replicate (1 - [deV d].length) none=[some (deV d)] from rfl]
 simp [hc,vs]
 exact k _ x1
def mxD (o:Option De) (d:De):Option De:=match o with
 | some b=>if b.nm.2 < d.nm.2 then some d else some b
 | none=>some d
def maxD (ds:List De):Option De:=ds.foldl mxD none
theorem rK:∀ (ds:List De) (o:Option De),(ds.foldl mxD o=none ↔ o=none/\ds=[])/\∀ d,ds.foldl mxD o=some d->(o=some d\/d∈ds)/\(∀ b,o=some b->b.nm.2<=d.nm.2)/\∀ b∈ds,b.nm.2<=d.nm.2
 | [],o=>⟨by simp,fun d e=>⟨.inl e,fun b eb=>by rw [List.foldl_nil] at e; rw [e] at eb; cases eb; exact Int.le_refl _,fun b hb=>by simp at hb⟩⟩
 | x :: ds,o=>by
  obtain ⟨a,b⟩:=rK ds (mxD o x)
  have ne:mxD o x≠none:=by unfold mxD; split <;> (try split) <;> simp
  refine ⟨⟨fun e=>absurd (a.mp e).1 ne,fun e=>by simp at e⟩,fun d e=>?_⟩
  obtain ⟨h1,h2,h3⟩:=b d e
  have le:∀ y,mxD o x=some y->x.nm.2<=y.nm.2/\(∀ b,o=some b->b.nm.2<=y.nm.2)/\(o=some y\/y=x):=fun y ey=>by
   unfold mxD at ey
   cases o with
   | none=>cases ey; exact ⟨Int.le_refl _,fun b eb=>(by cases eb),.inr rfl⟩
   | some b=>
    simp only at ey
    split at ey
    ·rename_i hlt
     cases ey
     exact ⟨Int.le_refl _,fun b' eb=>by cases eb; omega,.inr rfl⟩
    ·rename_i hge
     cases ey
     exact ⟨by omega,fun b' eb=>by cases eb; exact Int.le_refl _,.inl rfl⟩
  obtain ⟨y,ey⟩:=Option.ne_none_iff_exists'.mp ne
  obtain ⟨l1,l2,l3⟩:=le y ey
  have ly:=h2 y ey
  refine ⟨?_,fun b eb=>Int.le_trans (l2 b eb) ly,fun b hb=>?_⟩
  ·rcases h1 with h1 | h1
   ·rw [ey] at h1
    cases h1
    rcases l3 with l3 | l3
    ·exact .inl l3
    ·exact .inr (by rw [l3]; exact List.mem_cons_self)
   ·exact .inr (List.mem_cons_of_mem _ h1)
  ·rcases List.mem_cons.mp hb with rfl | hb
   ·exact Int.le_trans l1 ly
   ·exact h3 b hb
theorem DB {ds:List De}:maxD ds=none ↔ ds=[]:=by
 have:=(rK ds none).1
 unfold maxD
 simpa using this
theorem vC {ds:List De} {d:De} (h:maxD ds=some d):d∈ds/\∀ b∈ds,b.nm.2<=d.nm.2:=by
 obtain ⟨a,_,c⟩:=(rK ds none).2 d h
 exact ⟨a.resolve_left (by simp),c⟩
theorem A7 {n:Nat} {h:PH} {xs:List PV} (g:h[n]?=some (.lst xs)):∀ (ds:List De) (o:Option De),cS bW n xs (ds.map deV) (o.map fun d=>(deV d,d.nm.2)) h=.ok (match ds.foldl mxD o with | some d=>deV d | none=>.non) h
 | [],o=>by
  have e3:jP n xs h=true:=fK g h (Ext.refl h)
  unfold cS
  rw [List.map_nil]
  simp only [e3,if_true,List.foldl_nil]
  cases o <;> rfl
 | d :: ds,o=>by
  have e3:jP n xs h=true:=fK g h (Ext.refl h)
  rw [List.map_cons]
  unfold cS
  rw [if_pos e3,Dz,Rs.bind_ok]
  have e4:A4 (o.map fun d=>(deV d,d.nm.2)) (deV d) d.nm.2=(mxD o d).map fun d=>(deV d,d.nm.2):=by
   cases o with
   | none=>rfl
   | some b=>
    show (if b.nm.2 < d.nm.2 then _ else _)=_
    unfold mxD
    simp only
    split <;> rfl
  simp only [e4]
  rw [A7 g ds (mxD o d)]
  rfl
theorem xU (x:Str):∀ ds:List De,ds.filterMap (fun d=>if d.nm.1=x then some (deV d) else none)=(ds.filter fun d=>decide (d.nm.1=x)).map deV
 | []=>rfl
 | y :: rs=>by
  rw [List.filterMap_cons,List.filter_cons]
  by_cases e:y.nm.1=x
  ·simp [e,xU x rs]
  ·simp [e,xU x rs]
def lO (o:Option De):PV:=match o with | some d=>deV d | none=>.non
theorem Ct (x:Str) {ds:List De} (l1:ds.length<=1000) {l:Nat} {h:PH} (g:h[l]?=some (.lst (ds.map deV))) (Q:PV->PH->Prop) (k:∀ h',Ext h h'->Q (lO (maxD (ds.filter fun d=>decide (d.nm.1=x)))) h'):(cX [.str x,.ref l] h).W Q:=by
 refine jR ?_
 unfold nL
 have hc:=fL (m:=mV 1) (n:=l) (js:=[none,some 0]) (tg:=gN 0) (tst:=cE (aD vEq (aD vAt (aD vAt (mV 0) (mC (.int 0))) (mC (.int 0))) (mV 1))) (elt:=mV 0) (δ:=[some (.str x),some (.ref l)]) (h:=h) (h1:=h) (ys:=ds) (emb:=deV)
  (fun d=>if d.nm.1=x then some (deV d) else none) (by simp) g (by omega) (fun d _=>⟨[some (deV d),some (.str x)],by simp [cQ],fun h' _=>by
   by_cases e:d.nm.1=x
   ·simp [de0,pv0,e]
   ·simp [de0,pv0,e]⟩)
 have em:=xU x ds
 rw [em] at hc
 generalize ds.filter (fun d=>decide (d.nm.1=x))=fs at hc k
 have g1:(h++[MO.lst (fs.map deV)])[h.length]?=some (.lst (fs.map deV)):=aL
 have x1:Ext h (h++[MO.lst (fs.map deV)]):=Ext.app _ _
 generalize h++[MO.lst (fs.map deV)]=hA at hc g1 x1
 have e1:aM hA h.length=some (fs.map deV):=by simp [aM,g1]
 have vm:uS bW (.ref h.length) hA=.ok (lO (maxD fs)) hA:=by
  unfold uS
  simp only [e1]
  exact A7 g1 fs none
 rw [show List.map some [PV.str x,PV.ref l]++List.replicate (2 - [PV.str x,PV.ref l].length) none=[some (.str x),some (.ref l)] from rfl,zI]
 unfold Co
 rw [hc,Rs.bind_ok,vm,qQ]
 exact k _ x1
structure Row where
 d:De
 c:List Int
 r:Nat
def rwV (z:Row):PV:=.tup [deV z.d,.ref z.r]
structure lQ (hs:List Str) (z:Row):Prop where
 len:z.c.length=hs.length
 ex:∃ w c0,w < hs.length/\c0.length=hs.length/\0<=c0.getD w 0/\z.c=c0.set w (c0.getD w 0+1)/\z.d.nm=(hs.getD w "",c0.getD w 0+1)/\cZ hs c0 z.d.sn
def RAt (h:PH) (l:Nat) (R:List Row):Prop:=h[l]?=some (.lst (R.map rwV))/\∀ z∈R,h[z.r]?=some (.lst (z.c.map PV.int))
theorem RAt.ext {h h':PH} {l:Nat} {R:List Row} (t:RAt h l R) (x:Ext h h'):RAt h' l R:=⟨x _ _ t.1,fun z hz=>x _ _ (t.2 z hz)⟩
def Inc (R:List Row):Prop:=R.Pairwise fun a b=>a.d.nm.1=b.d.nm.1->a.d.nm.2 < b.d.nm.2
theorem IM {F:List De} (pw:F.Pairwise fun a b=>a.nm.2 < b.nm.2) {d e:De} (hd:d∈F) (he:F.getLast?=some e):d=e\/d.nm.2 < e.nm.2:=by
 obtain ⟨F',rfl⟩:=List.getLast?_eq_some_iff.mp he
 rcases List.mem_append.mp hd with h | h
 ·exact .inr ((List.pairwise_append.mp pw).2.2 d h e (by simp))
 ·simp at h; exact .inl h
theorem last_eq {R:List Row} (inc:Inc R) {T:List De} (mem:∀ d,d∈T ↔ d∈R.map (·.d)) (p:De->Bool) (x:Str) (hp:∀ d,p d=true->d.nm.1=x):maxD (T.filter p)=((R.map (·.d)).filter p).getLast?:=by
 have pw:((R.map (·.d)).filter p).Pairwise fun a b=>a.nm.2 < b.nm.2:=by
  rw [List.pairwise_filter,List.pairwise_map]
  exact inc.imp fun {a b} h ha hb=>h ((hp _ ha).trans (hp _ hb).symm)
 have mem':∀ d,d∈T.filter p ↔ d∈(R.map (·.d)).filter p:=fun d=>by rw [List.mem_filter,List.mem_filter,mem]
 generalize (R.map (·.d)).filter p=F at pw mem'
 generalize T.filter p=G at mem'
 cases e:maxD G with
 | none=>
  have eG:=DB.mp e
  subst eG
  have:F=[]:=List.eq_nil_iff_forall_not_mem.mpr fun d hd=>by have:=(mem' d).mpr hd; simp at this
  rw [this]; rfl
 | some d=>
  obtain ⟨h1,h2⟩:=vC e
  have hF:=(mem' d).mp h1
  cases e2:F.getLast? with
  | none=>
   rw [List.getLast?_eq_none_iff.mp e2] at hF
   simp at hF
  | some b=>
   rcases IM pw hF e2 with z | z
   ·rw [z]
   ·have:=h2 b ((mem' b).mpr (List.mem_of_getLast? e2))
    omega
def hB (x:Str) (d:De):Bool:=decide (d.nm.1=x)
def hsB (x:Str) (d:De):Bool:=decide (d.nm.1=x) && acB d.ac
def iB (hs:List Str) (R:List Row) (x:Str) (v:PV):Prop:=match (R.filter fun z=>hB x z.d).getLast? with
 | none=>v=.tup []
 | some z=>∃ S,v=sv S/\cZ hs z.c S
theorem iB.one {hs:List Str} {R:List Row} {x:Str} {v u:PV} (a:iB hs R x v) (b:iB hs R x u):v=u:=by
 unfold iB at a b
 cases e:(R.filter fun z=>hB x z.d).getLast? with
 | none=>
  rw [e] at a b
  rw [a,b]
 | some z=>
  rw [e] at a b
  obtain ⟨S,rfl,h1⟩:=a
  obtain ⟨S',rfl,h2⟩:=b
  rw [h1.one h2]
theorem iB.pl {hs:List Str} {R:List Row} {x:Str} {v:PV} (a:iB hs R x v):v.pl 40=true/\∃ xs,v=.tup xs:=by
 unfold iB at a
 split at a
 ·rw [a]; exact ⟨rfl,_,rfl⟩
 ·obtain ⟨S,rfl,h1⟩:=a
  exact ⟨Nu S,_,rfl⟩
theorem A8 {hs:List Str} (nd:hs.Nodup) (h6:hs.length<=6) {R:List Row} (inc:Inc R) (ok:∀ z∈R,lQ hs z) {T:List De} (lT:T.length<=1000) (mem:∀ d,d∈T ↔ d∈R.map (·.d)) (x:Str) {l:Nat} {h:PH} (g:h[l]?=some (.lst (T.map deV))) (Q:PV->PH->Prop) (k:∀ v h',Ext h h'->iB hs R x v->Q v h'):(eV [.str x,.ref l] h).W Q:=by
 refine jR ?_
 unfold xP
 rw [aO]
 simp
 refine Ct x lT g _ fun h1 x1=>?_
 have le:=last_eq inc mem (hB x) x (fun d hd=>by simpa [hB] using hd)
 have le:maxD (T.filter fun d=>decide (d.nm.1=x))=((R.map (·.d)).filter (hB x)).getLast?:=le
 rw [le]
 have ef:((R.map (·.d)).filter (hB x)).getLast?=((R.filter fun z=>hB x z.d).getLast?).map (·.d):=by
  rw [List.filter_map,List.getLast?_map]
  rfl
 rw [ef]
 unfold iB at k
 cases e:(R.filter fun z=>hB x z.d).getLast? with
 | none=>
  rw [e] at k
  refine now ?_
  simp [lO]
  exact k _ _ x1 rfl
 | some z=>
  rw [e] at k
  have hz:=(List.mem_filter.mp (List.mem_of_getLast? e)).1
  obtain ⟨lz,w,c0,hw,lc,h0,ec,en,sn⟩:=ok z hz
  refine now ?_
  have nn:∀ h,vIs (deV z.d) .non h=.ok (.bl false) h:=fun h=>by unfold deV; simp
  simp [lO,nn,de0,de1]
  refine Bd z.d.sn z.d.nm (cY sn.asc) (by have:=sn.len; omega) _ _ fun S h2 x2 aS lS lk=>?_
  refine k _ _ (x1.trans x2) ⟨S,rfl,?_⟩
  rw [ec]
  refine Dy nd lc hw rfl h0 sn aS fun y=>?_
  rw [lk y,en]
theorem Cu {δ:Ev} {h h1:PH} {js:List (Option Nat)} {tg:Mg} {elt:Me} {g:PH->Bool} {mi:Mi} {xs:List PV} {Q:PV->PH->Prop} (P:Nat->PV->Prop) (e:mi δ h=.ok ⟨xs,g⟩ h1) (hg:∀ h,Ext h1 h->g h=true) (hz:xs.length<=16777216)
  (step:∀ i x,xs[i]?=some x->∃ δ1,tg x (cQ js δ)=some δ1/\∀ h,Ext h1 h->∀ Q:PV->PH->Prop,(∀ v h',Ext h h'->P i v->Q v h')->(elt δ1 h).W Q)
  (k:∀ l h' (vs:List PV),Ext h1 h'->h1.length<=l->vs.length=xs.length->h'[l]?=some (.lst vs)->(∀ i v,vs[i]?=some v->P i v)->Q (.ref l) h'):(bT js mi tg fH elt δ h).W Q:=by
 unfold bT
 rw [e,Rs.bind_ok]
 refine pE (fun i h'=>Ext h1 h'/\∃ vs:List PV,vs.length=i/\h'[h1.length]?=some (.lst vs)/\∀ i v,vs[i]?=some v->P i v) xs 0 _ ⟨Ext.app _ _,[],rfl,by simp,fun i v hv=>by simp at hv⟩ (fun i x h' _ hx hi=>?_) (fun h' hi=>?_)
 ·obtain ⟨x1,vs,lv,g1,ov⟩:=hi
  have hx:xs[i]?=some x:=by simpa using hx
  have hil:=(List.getElem?_eq_some_iff.mp hx).1
  obtain ⟨δ1,ht,hs⟩:=step i x hx
  refine ⟨hg _ x1,δ1,ht,?_⟩
  have hY:fH δ1 h'=.ok true h':=rfl
  rw [hY,qQ,if_pos rfl]
  refine hs h' x1 _ fun v h2 x2 pv=>?_
  refine ⟨_,x2 _ _ g1,by omega,(x1.trans x2).setN (Nat.le_refl _),vs++[v],by simp [lv],gJ (x2 _ _ g1),fun j w hw=>?_⟩
  rcases Nat.lt_trichotomy j vs.length with z | z | z
  ·rw [List.getElem?_append_left z] at hw
   exact ov j w hw
  ·rw [z,List.getElem?_append_right (Nat.le_refl _),Nat.sub_self] at hw
   cases hw
   rw [z,lv]
   exact pv
  ·rw [List.getElem?_append_right (by omega)] at hw
   have:=(List.getElem?_eq_some_iff.mp hw).1
   simp at this
   omega
 ·obtain ⟨x1,vs,lv,g1,ov⟩:=hi
  rw [Nat.zero_add] at lv
  exact ⟨hg _ x1,k _ _ vs x1 (Nat.le_refl _) lv g1 ov⟩
def stV (o:Option De):Int:=match o with | some d=>DA d | none=>0
theorem vD:∀ ds:List De,ds.filterMap (fun d=>if acB d.ac=true then some (deV d) else none)=(ds.filter fun d=>acB d.ac).map deV
 | []=>rfl
 | y :: rs=>by
  rw [List.filterMap_cons,List.filter_cons]
  cases e:acB y.ac <;> simp [vD rs]
theorem FQ {α:Type} {hs:List α} {vs:List PV} (f:α->PV) (lv:vs.length=hs.length) (ov:∀ (i:Nat) (v:PV),vs[i]?=some v->∃ x,hs[i]?=some x/\v=f x):vs=hs.map f:=by
 apply List.ext_getElem?
 intro i
 rw [List.getElem?_map]
 cases e:vs[i]? with
 | none=>
  have:hs.length<=i:=by rw [<- lv]; exact List.getElem?_eq_none_iff.mp e
  rw [List.getElem?_eq_none this]; rfl
 | some v=>
  obtain ⟨x,hx,rfl⟩:=ov i v e
  rw [hx]; rfl
theorem A9 {hs:List Str} (h0:hs≠[]) (h6:hs.length<=6) {T:List De} (lT:T.length<=1000) (ls:∀ d∈T,d.sn.length<=1000) {lh l:Nat} {h:PH} (gh:h[lh]?=some (.lst (hs.map PV.str))) (g:h[l]?=some (.lst (T.map deV))) (Q:PV->PH->Prop)
  (k:∀ h',Ext h h'->Q (.int (iN (hs.map fun x=>stV (maxD ((T.filter fun d=>acB d.ac).filter fun d=>decide (d.nm.1=x)))))) h'):(eU [.ref lh,.ref l] h).W Q:=by
 refine jR ?_
 unfold xO
 have hc:=fL (m:=mV 1) (n:=l) (js:=[none]) (tg:=gN 0) (tst:=cE (aD vEq (aD vAt (aD vAt (mV 0) (mC (.int 2))) (mC (.int 0))) (mC (.str "settle")))) (elt:=mV 0) (δ:=[some (.ref lh),some (.ref l),none,none]) (h:=h) (h1:=h) (ys:=T) (emb:=deV)
  (fun d=>if acB d.ac=true then some (deV d) else none) (by simp) g (by omega) (fun d _=>⟨[some (deV d)],by simp [cQ],fun h' _=>by
   have e:=Nv d.ac
   cases eb:acB d.ac with
   | true=>
    rw [eb] at e
    have e:acS d.ac="settle" := of_decide_eq_true e
    simp [de2,ac0,e]
   | false=>
    rw [eb] at e
    have e:¬ acS d.ac="settle" := of_decide_eq_false e
    simp [de2,ac0,e]⟩)
 rw [vD T] at hc
 have lst:(T.filter fun d=>acB d.ac).length<=1000:=Nat.le_trans (List.length_filter_le _ _) lT
 have lss:∀ d∈T.filter fun d=>acB d.ac,d.sn.length<=1000:=fun d hd=>ls d (List.mem_filter.mp hd).1
 generalize (T.filter fun d=>acB d.ac)=Z at hc k lst lss
 have x1:Ext h (h++[MO.lst (Z.map deV)]):=Ext.app _ _
 have g1:(h++[MO.lst (Z.map deV)])[h.length]?=some (.lst (Z.map deV)):=aL
 rw [aO,show List.map some [PV.ref lh,PV.ref l]++List.replicate (4 - [PV.ref lh,PV.ref l].length) none=[some (.ref lh),some (.ref l),none,none] from rfl]
 simp only [uC,hc,qQ,List.set_cons_succ,List.set_cons_zero]
 generalize h++[MO.lst (Z.map deV)]=hA at hc g1 x1
 generalize h.length=lz at g1
 clear hc
 refine now ?_
 rw [aO]
 simp only [uC]
 have gh1:=x1 _ _ gh
 refine Cu (h1:=hA) (xs:=hs.map PV.str) (g:=jP lh (hs.map PV.str)) (fun i v=>∃ x,hs[i]?=some x/\v=lO (maxD (Z.filter fun d=>decide (d.nm.1=x)))) (lF (by simp) gh1) (fK gh1) (by rw [List.length_map]; omega) (fun i x hx=>?_) fun l3 hC vs xC bC lv gC ov=>?_
 ·rw [List.getElem?_map] at hx
  obtain ⟨y,hy,rfl⟩:=Option.map_eq_some_iff.mp hx
  refine ⟨[some (.str y),some (.ref lz)],by simp [cQ],fun h2 x2 Q k2=>?_⟩
  simp
  exact Ct y lst (x2 _ _ g1) _ fun h3 x3=>k2 _ h3 x3 ⟨y,hy,rfl⟩
 rw [List.length_map] at lv
 have ev:=FQ _ lv ov
 subst ev
 simp only [List.set_cons_succ,List.set_cons_zero]
 clear ov lv
 refine now ?_
 simp only [zI,qR,eK,wL]
 refine Cu (h1:=hC) (xs:=hs.map fun x=>lO (maxD (Z.filter fun d=>decide (d.nm.1=x)))) (g:=jP l3 _) (fun i v=>∃ x,hs[i]?=some x/\v=.int (stV (maxD (Z.filter fun d=>decide (d.nm.1=x))))) (lF (by simp) gC) (fK gC) (by rw [List.length_map]; omega) (fun i x hx=>?_) fun l4 hD vs xD bD lv gD ov=>?_
 ·rw [List.getElem?_map] at hx
  obtain ⟨y,hy,rfl⟩:=Option.map_eq_some_iff.mp hx
  refine ⟨[some (lO (maxD (Z.filter fun d=>decide (d.nm.1=y))))],by simp [cQ],fun h2 x2 Q k2=>?_⟩
  cases e:maxD (Z.filter fun d=>decide (d.nm.1=y)) with
  | none=>
   simp [lO]
   exact k2 _ h2 (Ext.refl _) ⟨y,hy,by rw [e]; rfl⟩
  | some d=>
   have hd:=(List.mem_filter.mp (vC e).1).1
   have nn:∀ h,vIs (deV d) .non h=.ok (.bl false) h:=fun h=>by unfold deV; simp
   simp [lO,nn]
   exact FP d (lss d hd) h2 _ fun h3 x3=>k2 _ h3 x3 ⟨y,hy,by rw [e]; rfl⟩
 rw [List.length_map] at lv
 have ev:=FQ _ lv ov
 subst ev
 have gD':hD[l4]?=some (.lst ((hs.map fun x=>stV (maxD (Z.filter fun d=>decide (d.nm.1=x)))).map PV.int)):=by rw [List.map_map]; exact gD
 cases hs with
 | nil=>exact absurd rfl h0
 | cons a hs=>
  have vm:=uO (a:=stV (maxD (Z.filter fun d=>decide (d.nm.1=a)))) (ns:=hs.map fun x=>stV (maxD (Z.filter fun d=>decide (d.nm.1=x)))) (n:=l4) (h:=hD) gD'
  simp only [pC,Rs.bind_ok,qQ,vm]
  exact k _ ((x1.trans xC).trans xD)
theorem vR {n d k:Nat} (h:k<=n):HT.sIx n d (some (k:Int))=k:=by
 show (if (k:Int) < 0 then ((k:Int)+(n:Int)).toNat else min (k:Int).toNat n)=k
 rw [if_neg (by omega)]
 omega
theorem FS {α:Type} {xs:List α} {n:Nat} (h:n<=xs.length):fE xs none (some (n:Int))=xs.take n:=by
 unfold fE
 rw [vR h]
 show (xs.drop 0).take (n - 0)=_
 simp
theorem FT {α:Type} {xs:List α} {n:Nat} (h:n<=xs.length):fE xs (some (n:Int)) none=xs.drop n:=by
 unfold fE
 rw [vR h]
 show (xs.drop n).take (xs.length - n)=_
 rw [List.take_of_length_le (by rw [List.length_drop]; omega)]
theorem DC {ds:List De} (l1:ds.length<=1000) {l:Nat} (c:Int) {h:PH} (g:h[l]?=some (.lst (ds.map deV))) (Q:PV->PH->Prop) (k:∀ (T:List De) (n:Nat) (h':PH),Ext h h'->h'[n]?=some (.lst (T.map deV))->(∀ d:De,d∈T ↔ d∈ds)->T.length<=ds.length+1->Q (.ref n) h'):(iQ [.ref l,.int c] h).W Q:=by
 refine jR ?_
 unfold rF
 rw [aO,hW]
 have xA:Ext h (h++[MO.lst []]):=Ext.app _ _
 have ve:=wO (xA _ _ g) (aL (h:=h) (o:=MO.lst [])) (pI ds) rfl
 have gA:=xA _ _ g
 by_cases e:ds=[]
 ·subst e
  simp [ve]
  exact k [] _ _ (Ext.app _ _) (by have:=aL (h:=h++[MO.lst []]) (o:=MO.lst []); simpa using this) (fun d=>Iff.rfl) (by simp)
 ·have e':¬ ds.map deV=[]:=by simpa using e
  rw [decide_eq_false e'] at ve
  simp [ve]
  generalize h++[MO.lst []]=hA at xA gA
  clear ve
  have hpos:0 < ds.length:=List.length_pos_iff.mpr e
  have hlv:=fJ gA
  rw [List.length_map] at hlv
  refine now ?_
  rw [aO]
  simp (disch:=omega) [hlv]
  obtain ⟨a,ea,ha⟩:∃ a:Nat,c % (ds.length:Int)=a/\a < ds.length:=by
   have h1:=Int.emod_nonneg c (b:=(ds.length:Int)) (by omega)
   have h2:=Int.emod_lt_of_pos c (b:=(ds.length:Int)) (by omega)
   exact ⟨(c % (ds.length:Int)).toNat,by omega,by omega⟩
  rw [ea]
  refine now ?_
  have s1:vSl (.ref l) (some (a:Int)) none hA=.ok (.ref hA.length) (hA++[MO.lst ((ds.drop a).map deV)]):=by
   rw [Cf gA]
   congr 4
   have:=FT (xs:=ds.map deV) (n:=a) (by rw [List.length_map]; omega)
   rw [List.map_drop]
   exact this
  have x1:Ext hA (hA++[MO.lst ((ds.drop a).map deV)]):=Ext.app _ _
  have g1:(hA++[MO.lst ((ds.drop a).map deV)])[hA.length]?=some (.lst ((ds.drop a).map deV)):=aL
  generalize hA++[MO.lst ((ds.drop a).map deV)]=hB at s1 x1 g1
  have r1:=Do g1
  rw [<- List.map_reverse] at r1
  have x2:Ext hB (hB++[MO.lst ((ds.drop a).reverse.map deV)]):=Ext.app _ _
  have g2:(hB++[MO.lst ((ds.drop a).reverse.map deV)])[hB.length]?=some (.lst ((ds.drop a).reverse.map deV)):=aL
  generalize hB++[MO.lst ((ds.drop a).reverse.map deV)]=hC at r1 x2 g2
  have gC:=x2 _ _ (x1 _ _ gA)
  have s2:vSl (.ref l) none (some (a:Int)) hC=.ok (.ref hC.length) (hC++[MO.lst ((ds.take a).map deV)]):=by
   rw [Cf gC]
   congr 4
   have:=FS (xs:=ds.map deV) (n:=a) (by rw [List.length_map]; omega)
   rw [List.map_take]
   exact this
  have x3:Ext hC (hC++[MO.lst ((ds.take a).map deV)]):=Ext.app _ _
  have g3:(hC++[MO.lst ((ds.take a).map deV)])[hC.length]?=some (.lst ((ds.take a).map deV)):=aL
  generalize hC++[MO.lst ((ds.take a).map deV)]=hD at s2 x3 g3
  have p1:=uL (x3 _ _ g2) g3 (by simp; omega)
  rw [<- List.map_append] at p1
  have x4:Ext hD (hD++[MO.lst (((ds.drop a).reverse++ds.take a).map deV)]):=Ext.app _ _
  have g4:(hD++[MO.lst (((ds.drop a).reverse++ds.take a).map deV)])[hD.length]?=some (.lst (((ds.drop a).reverse++ds.take a).map deV)):=aL
  generalize hD++[MO.lst (((ds.drop a).reverse++ds.take a).map deV)]=hE at p1 x4 g4
  have gE:=x4 _ _ (x3 _ _ gC)
  obtain ⟨d0,e0⟩:∃ d0,ds[0]?=some d0:=⟨ds[0],List.getElem?_eq_getElem hpos⟩
  have v0:vIx (.ref l) (.int 0) hE=.ok (deV d0) hE:=by
   rw [bY gE,show atI (ds.map deV) 0=some (deV d0) from cO (i:=0) (by rw [List.getElem?_map,e0]; rfl)]
   rfl
  have x5:Ext hE (hE++[MO.lst [deV d0]]):=Ext.app _ _
  have g5:(hE++[MO.lst [deV d0]])[hE.length]?=some (.lst ([d0].map deV)):=aL
  have p2:=uL (x5 _ _ g4) g5 (by simp; omega)
  rw [<- List.map_append] at p2
  simp only [zI,Ib,KU,KY,Ic,eK,pC,wL]
  simp [s1,r1,s2,p1,v0]
  rw [p2,qQ]
  refine k ((ds.drop a).reverse++ds.take a++[d0]) _ _ (xA.trans (x1.trans (x2.trans (x3.trans (x4.trans (x5.trans (Ext.app _ _))))))) aL (fun d=>?_) (by simp; omega)
  have h0:d0∈ds:=List.mem_of_getElem? e0
  have hm:d∈ds ↔ d∈ds.take a\/d∈ds.drop a:=by rw [<- List.mem_append,List.take_append_drop]
  rw [List.mem_append,List.mem_append,List.mem_reverse,List.mem_singleton,hm]
  constructor
  ·rintro ((z | z) | z)
   ·exact .inr z
   ·exact .inl z
   ·exact hm.mp (z ▸ h0)
  ·rintro (z | z)
   ·exact .inl (.inr z)
   ·exact .inl (.inl z)
theorem Cv (x:Str):∀ R:List Row,R.filterMap (fun z=>if hsB x z.d=true then some (deV z.d) else none)=((R.map (·.d)).filter (hsB x)).map deV
 | []=>rfl
 | y :: rs=>by
  rw [List.filterMap_cons,List.map_cons,List.filter_cons]
  cases e:hsB x y.d <;> simp [Cv x rs]
def lbS (R:List Row) (x:Str):Int:=stV ((R.map (·.d)).filter (hsB x)).getLast?
def lbL (R:List Row) (hs:List Str):List PV:=(hs.map (lbS R)).map PV.int
theorem Be {hs:List Str} (h0:hs≠[]) (h6:hs.length<=6) {R:List Row} (lR:R.length<=1000) (ok:∀ z∈R,lQ hs z) {lh l:Nat} {h:PH} (gh:h[lh]?=some (.lst (hs.map PV.str))) (g:h[l]?=some (.lst (R.map rwV))) (ge:∀ z∈R,0<=DA z.d) (Q:PV->PH->Prop)
  (k:∀ h',Ext h h'->Q (.int (iN (hs.map (lbS R)))) h'):(fN [.ref lh,.ref l] h).W Q:=by
 refine jR ?_
 unfold nN
 rw [aO]
 simp
 have x0:Ext h (h++[MO.lst []]):=Ext.app _ _
 have g0:(h++[MO.lst []])[h.length]?=some (.lst (lbL R (hs.take 0))):=aL
 generalize h++[MO.lst []]=hA at x0 g0
 refine now ?_
 rw [aO]
 refine qS (n:=lh) (xs:=hs.map PV.str) (h1:=hA) (fun q δ h'=>Ext h h'/\h'[h.length]?=some (.lst (lbL R (hs.take q)))/\∃ x3 x4,δ=[some (.ref lh),some (.ref l),some (.ref h.length),x3,x4]) (by simp) (x0 _ _ gh) ⟨x0,g0,_,_,rfl⟩ (fun q δ h' _ i=>i.1 _ _ gh) ?_ ?_
 ·rintro q y δ h' hy ⟨x1,g1,x3,x4,rfl⟩
  rw [List.getElem?_map] at hy
  obtain ⟨x,hx,rfl⟩:=Option.map_eq_some_iff.mp hy
  refine ⟨[some (.ref lh),some (.ref l),some (.ref h.length),some (.str x),x4],rfl,?_⟩
  have hq:=(List.getElem?_eq_some_iff.mp hx).1
  unfold oK
  rw [aO]
  have hc:=fL (m:=mV 1) (n:=l) (js:=[none,none,some 3]) (tg:=gTp 2 (gCn (gN 0) (gCn (gN 1) gNl))) (tst:=qN (cE (aD vEq (aD vAt (aD vAt (mV 0) (mC (.int 0))) (mC (.int 0))) (mV 2))) (cE (aD vEq (aD vAt (aD vAt (mV 0) (mC (.int 2))) (mC (.int 0))) (mC (.str "settle"))))) (elt:=mV 0) (δ:=[some (.ref lh),some (.ref l),some (.ref h.length),some (.str x),x4]) (h:=h') (h1:=h') (ys:=R) (emb:=rwV)
   (fun z=>if hsB x z.d=true then some (deV z.d) else none) (by simp) (x1 _ _ g) (by omega) (fun z _=>⟨[some (deV z.d),some (.ref z.r),some (.str x)],by simp [cQ,rwV],fun h2 _=>by
    have e:=Nv z.d.ac
    unfold hsB
    by_cases ex:z.d.nm.1=x
    ·cases eb:acB z.d.ac with
     | true=>
      rw [eb] at e
      have e:acS z.d.ac="settle" := of_decide_eq_true e
      simp [de0,pv0,de2,ac0,e,ex]
     | false=>
      rw [eb] at e
      have e:¬ acS z.d.ac="settle" := of_decide_eq_false e
      simp [de0,pv0,de2,ac0,e,ex]
    ·simp [de0,pv0,ex]⟩)
  rw [Cv x R] at hc
  have mem:∀ d∈(R.map (·.d)).filter (hsB x),∃ z∈R,z.d=d:=fun d hd=>List.mem_map.mp (List.mem_filter.mp hd).1
  have ef:lbL R (hs.take (q+1))=lbL R (hs.take q)++[PV.int (lbS R x)]:=by
   unfold lbL
   rw [List.take_add_one,hx,List.map_append,List.map_append]
   rfl
  have hin:lbS R x∈hs.map (lbS R):=List.mem_map.mpr ⟨x,List.mem_of_getElem? hx,rfl⟩
  have xB:Ext h' (h'++[MO.lst (((R.map (·.d)).filter (hsB x)).map deV)]):=Ext.app _ _
  have gB:(h'++[MO.lst (((R.map (·.d)).filter (hsB x)).map deV)])[h'.length]?=some (.lst (((R.map (·.d)).filter (hsB x)).map deV)):=aL
  simp only [uC,hc,qQ,List.set_cons_succ,List.set_cons_zero]
  generalize h'++[MO.lst (((R.map (·.d)).filter (hsB x)).map deV)]=hB at hc xB gB
  generalize h'.length=lb at hc gB
  refine now ?_
  rw [aO,hW]
  have ve:=wO (Ext.app hB [MO.lst []] _ _ gB) (aL (h:=hB) (o:=MO.lst [])) (pI _) rfl
  have xC:Ext h' (hB++[MO.lst []]):=xB.trans (Ext.app _ _)
  have gC:=Ext.app hB [MO.lst []] _ _ gB
  clear hc
  cases hF:((R.map (·.d)).filter (hsB x)).getLast? with
  | none=>
   have e0:=List.getLast?_eq_none_iff.mp hF
   rw [e0] at ve
   simp [ve]
   have:=k _ (x1.trans xC)
   have mz:iN (hs.map (lbS R))=0:=by
    obtain ⟨m1,m2⟩:=lJ (ns:=hs.map (lbS R)) (by simpa using h0)
    have l1:=m2 _ hin
    have z0:lbS R x=0:=by unfold lbS; rw [hF]; rfl
    rw [z0] at l1
    obtain ⟨y,_,ey⟩:=List.mem_map.mp m1
    have l2:0<=iN (hs.map (lbS R)):=by
     rw [<- ey]
     unfold lbS
     cases e3:((R.map (·.d)).filter (hsB y)).getLast? with
     | none=>exact Int.le_refl _
     | some d=>
      obtain ⟨z,hz,rfl⟩:=List.mem_map.mp (List.mem_filter.mp (List.mem_of_getLast? e3)).1
      exact ge z hz
    omega
   rw [mz] at this
   exact this
  | some d=>
   have es:lbS R x=DA d:=by unfold lbS; rw [hF]; rfl
   rw [es] at ef
   obtain ⟨F',eF⟩:=List.getLast?_eq_some_iff.mp hF
   rw [eF] at ve gC
   have hne:¬ (F'++[d]).map deV=[]:=by simp
   rw [decide_eq_false hne] at ve
   obtain ⟨z,hz,ez⟩:=mem d (by rw [eF]; simp)
   have v1:vIx (.ref lb) (.int (-1)) (hB++[MO.lst []])=.ok (deV d) (hB++[MO.lst []]):=by
    rw [bY gC,List.map_append,show [d].map deV=[deV d] from rfl,EB]
    rfl
   simp [ve]
   generalize hB++[MO.lst []]=hD at xC v1
   refine now ?_
   have hs2:=uG (m:=aD vAt (aD vAt (mV 4) (mUn Dc (mC (.int 1)))) (mC (.int 1))) (js:=[none,none]) (tg:=gTp 2 (gCn (gN 0) (gCn (gN 1) gNl))) (tst:=fH) (elt:=mV 1) (δ:=[some (.ref lh),some (.ref l),some (.ref h.length),some (.str x),some (.ref lb)]) (h:=hD) (h1:=hD) (ys:=d.sn) (emb:=pv)
    (fun p=>some (.int p.2)) (by simp [v1,de1,FO]) (by
     have:=(ok z hz).ex
     obtain ⟨w,c0,_,_,_,_,_,sn⟩:=this
     have:=sn.len
     rw [ez] at this
     omega) (fun p _=>⟨[some (.str p.1),some (.int p.2)],by simp [cQ,pv],fun h' _=>⟨rfl,by simp⟩⟩)
   rw [filterMap_some (fun p:Str×Int=>PV.int p.2) d.sn] at hs2
   have gS:(hD++[MO.lst (d.sn.map fun p=>PV.int p.2)])[hD.length]?=some (.lst ((d.sn.map (·.2)).map PV.int)):=by rw [List.map_map]; exact aL
   have xS:Ext h' (hD++[MO.lst (d.sn.map fun p=>PV.int p.2)]):=xC.trans (Ext.app _ _)
   generalize hD++[MO.lst (d.sn.map fun p=>PV.int p.2)]=hS at hs2 gS xS
   have vsm:=zK gS
   have g1':=xS _ _ g1
   have g1C:=xC _ _ g1
   have ap:=gI (p:=PV.int (1+(d.sn.map (·.2)).sum)) g1' (by
    unfold lbL
    rw [List.length_map,List.length_map,List.length_take]
    omega)
   simp [jC g1C,hs2,vsm,ap]
   refine ⟨(x1.trans xS).setN (Nat.le_refl _),?_⟩
   rw [gJ g1',ef]
   rfl
 ·rintro δ h' ⟨x1,g1,x3,x4,rfl⟩
  rw [List.length_map,List.take_length] at g1
  refine now ?_
  cases hs with
  | nil=>exact absurd rfl h0
  | cons a hs=>
   have g1:h'[h.length]?=some (.lst ((lbS R a :: hs.map (lbS R)).map PV.int)):=g1
   have vm:=uO g1
   simp [vm]
   exact k _ x1
theorem FU:∀ ns:List Int,(∀ n∈ns,0<=n)->0<=ns.sum
 | [],_=>by simp
 | n :: ns,h=>by
  have h1:=h n List.mem_cons_self
  have h2:=FU ns fun m hm=>h m (List.mem_cons_of_mem _ hm)
  rw [List.sum_cons]; omega
theorem cZ.nn {hs:List Str} {c:List Int} {S:Seen} (a:cZ hs c S):0<=(S.map (·.2)).sum:=by
 refine FU _ fun n hn=>?_
 obtain ⟨p,hp,rfl⟩:=List.mem_map.mp hn
 have e:=eL (cY a.asc) hp
 rw [a.lk] at e
 unfold jW at e
 split at e
 ·rename_i z
  have:=Option.some.inj e
  omega
 ·cases e
theorem lQ.sn {hs:List Str} {z:Row} (o:lQ hs z):z.d.sn.length<=hs.length/\0<=DA z.d:=by
 obtain ⟨w,c0,_,_,_,_,_,s⟩:=o.ex
 have:=s.nn
 exact ⟨s.len,by unfold DA; omega⟩
theorem rN {h:PH} {n:Nat} {xs:List PV} (e:h[n]?=some (.lst xs)):oD [.ref n] h=.ok (.ref h.length) (h++[.lst xs]):=by simp [oD,aM,e]
theorem IP {hs:List Str} (nd:hs.Nodup) (h6:hs.length<=6) {R:List Row} (inc:Inc R) (ok:∀ z∈R,lQ hs z) {T:List De} (lT:T.length<=1000) (mem:∀ d,d∈T ↔ d∈R.map (·.d)) {lh lr lhd:Nat} {h:PH} (gh:h[lh]?=some (.lst (hs.map PV.str))) (ra:RAt h lr R) (gT:h[lhd]?=some (.lst (T.map deV))) (x:Str) (x2 x3 x6 x7 x8 x9:Option PV) (E:FE)
  (fin:∀ h' y6 y7 y8 y9,Ext h h'->E.nx [some (.ref lh),some (.ref lr),x2,x3,some (.ref lhd),some (.str x),y6,y7,y8,y9] h'):
  (nO [some (.ref lh),some (.ref lr),x2,x3,some (.ref lhd),some (.str x),x6,x7,x8,x9] h).W E:=by
 unfold nO
 rw [aO]
 simp
 refine now ?_
 rw [aO]
 refine qS (n:=lr) (xs:=R.map rwV) (h1:=h) (fun q δ h'=>Ext h h'/\∃ v x7 x8,iB hs (R.take q) x v/\δ=[some (.ref lh),some (.ref lr),x2,x3,some (.ref lhd),some (.str x),some v,x7,x8,x9]) (by simp) ra.1 ⟨Ext.refl _,.tup [],_,_,rfl,rfl⟩ (fun q δ h' _ i=>i.1 _ _ ra.1) ?_ ?_
 ·rintro q y δ h' hy ⟨x1,v,x7,x8,du,rfl⟩
  rw [List.getElem?_map] at hy
  obtain ⟨z,hz,rfl⟩:=Option.map_eq_some_iff.mp hy
  have hzm:=List.mem_of_getElem? hz
  refine ⟨[some (.ref lh),some (.ref lr),x2,x3,some (.ref lhd),some (.str x),some v,some (deV z.d),some (.ref z.r),x9],by simp [rwV],?_⟩
  unfold uV
  rw [hW]
  have tk:R.take (q+1)=R.take q++[z]:=by rw [List.take_add_one,hz]; rfl
  by_cases e:z.d.nm.1=x
  ·simp [de0,pv0,e]
   refine Cs nd h6 (ok z hzm).len (x1 _ _ gh) (x1 _ _ (ra.2 z hzm)) _ fun S h2 y2 so=>?_
   refine ⟨x1.trans y2,?_⟩
   unfold iB
   have:((R.take (q+1)).filter fun z=>hB x z.d).getLast?=some z:=by
    rw [tk,List.filter_append]
    simp [hB,e]
   rw [this]
   exact ⟨S,rfl,so⟩
  ·simp [de0,pv0,e]
   refine ⟨x1,?_⟩
   unfold iB at du ⊢
   have:((R.take (q+1)).filter fun z=>hB x z.d)=((R.take q).filter fun z=>hB x z.d):=by
    rw [tk,List.filter_append]
    simp [hB,e]
   rw [this]
   exact du
 ·rintro δ h' ⟨x1,v,x7,x8,du,rfl⟩
  rw [List.length_map,List.take_length] at du
  refine now ?_
  rw [aO]
  simp
  refine A8 nd h6 inc ok lT mem x (x1 _ _ gT) _ fun u h2 y2 du2=>?_
  have e:=du2.one du
  subst e
  obtain ⟨pl,xs,rfl⟩:=du.pl
  refine now ?_
  rw [hW]
  have vn:=Ff pl h2
  simp [vn,known,iK]
  exact fin _ _ _ _ _ (x1.trans y2)
theorem Aa {hs:List Str} (nd:hs.Nodup) (h0:hs≠[]) (h6:hs.length<=6) {R:List Row} (inc:Inc R) (ok:∀ z∈R,lQ hs z) (lR:R.length<=60) {lh lr:Nat} (c:Int) {h:PH} (gh:h[lh]?=some (.lst (hs.map PV.str))) (ra:RAt h lr R) (Q:PV->PH->Prop) (k:∀ h',Ext h h'->Q (.bl true) h'):(gK [.ref lh,.ref lr,.int c] h).W Q:=by
 refine jR ?_
 unfold xQ
 rw [aO,show List.map some [PV.ref lh,PV.ref lr,PV.int c]++List.replicate (10 - [PV.ref lh,PV.ref lr,PV.int c].length) none=[some (.ref lh),some (.ref lr),some (.int c),none,none,none,none,none,none,none] from rfl]
 have hc:=fL (m:=mV 1) (n:=lr) (js:=[none,none]) (tg:=gTp 2 (gCn (gN 0) (gCn (gN 1) gNl))) (tst:=fH) (elt:=mV 0) (δ:=[some (.ref lh),some (.ref lr),some (.int c),none,none,none,none,none,none,none]) (h:=h) (h1:=h) (ys:=R) (emb:=rwV)
  (fun z=>some (deV z.d)) (by simp) ra.1 (by omega) (fun z _=>⟨[some (deV z.d),some (.ref z.r)],by simp [cQ,rwV],fun h' _=>⟨rfl,by simp⟩⟩)
 rw [filterMap_some (fun z:Row=>deV z.d) R] at hc
 have x1:Ext h (h++[MO.lst (R.map fun z=>deV z.d)]):=Ext.app _ _
 have g1:(h++[MO.lst (R.map fun z=>deV z.d)])[h.length]?=some (.lst ((R.map (·.d)).map deV)):=by rw [List.map_map]; exact aL
 generalize h++[MO.lst (R.map fun z=>deV z.d)]=hA at hc x1 g1
 simp only [uC,Fc,eK,hc,Rs.bind_ok]
 simp
 refine DC (by rw [List.length_map]; omega) c g1 _ fun T lt hB xB gB mem lT=>?_
 rw [List.length_map] at lT
 have xB:=x1.trans xB
 clear hc g1 x1
 refine now ?_
 rw [aO]
 have vl:=rN gB
 have xC:Ext hB (hB++[MO.lst (T.map deV)]):=Ext.app _ _
 have gC:(hB++[MO.lst (T.map deV)])[hB.length]?=some (.lst (T.map deV)):=aL
 have gB':=xC _ _ gB
 generalize hB++[MO.lst (T.map deV)]=hC at vl xC gC gB'
 generalize hB.length=lhd at vl gC
 simp [vl]
 have xC:=xB.trans xC
 clear vl gB xB
 refine now ?_
 rw [aO]
 have gh1:=xC _ _ gh
 refine qS (n:=lh) (xs:=hs.map PV.str) (h1:=hC) (fun q δ h'=>Ext hC h'/\∃ x5 x6 x7 x8 x9,δ=[some (.ref lh),some (.ref lr),some (.int c),some (.ref lt),some (.ref lhd),x5,x6,x7,x8,x9]) (by simp) gh1 ⟨Ext.refl _,_,_,_,_,_,rfl⟩ (fun q δ h' _ i=>i.1 _ _ gh1) ?_ ?_
 ·rintro q y δ h' hy ⟨y1,x5,x6,x7,x8,x9,rfl⟩
  rw [List.getElem?_map] at hy
  obtain ⟨x,hx,rfl⟩:=Option.map_eq_some_iff.mp hy
  refine ⟨_,rfl,?_⟩
  exact IP nd h6 inc ok (by omega) mem (y1 _ _ gh1) (ra.ext (xC.trans y1)) (y1 _ _ gC) x _ _ _ _ _ _ _ fun h2 y6 y7 y8 y9 y2=>⟨y1.trans y2,_,_,_,_,_,rfl⟩
 ·rintro δ h' ⟨y1,x5,x6,x7,x8,x9,rfl⟩
  refine now ?_
  rw [aO]
  have gh2:=y1 _ _ gh1
  have vl:=rN gh2
  have xD:Ext h' (h'++[MO.lst (hs.map PV.str)]):=Ext.app _ _
  have gD:(h'++[MO.lst (hs.map PV.str)])[h'.length]?=some (.lst (hs.map PV.str)):=aL
  generalize h'++[MO.lst (hs.map PV.str)]=hD at vl xD gD
  simp [vl]
  refine A9 h0 h6 (by omega) (fun d hd=>?_) gD (xD _ _ (y1 _ _ gC)) _ fun hE xE=>?_
  ·obtain ⟨z,hz,rfl⟩:=List.mem_map.mp ((mem d).mp hd)
   have:=(ok z hz).sn.1
   omega
  have eb:(hs.map fun x=>stV (maxD ((T.filter fun d=>acB d.ac).filter fun d=>decide (d.nm.1=x))))=hs.map (lbS R):=by
   refine List.map_congr_left fun x _=>?_
   unfold lbS
   congr 1
   rw [List.filter_filter]
   have:=last_eq inc mem (hsB x) x (fun d hd=>by
    unfold hsB at hd
    rw [Bool.and_eq_true] at hd
    exact of_decide_eq_true hd.1)
   exact this
  rw [eb]
  refine now ?_
  rw [aO,hW]
  simp [known,iK]
  refine now ?_
  simp
  have xF:=(xC.trans y1).trans (xD.trans xE)
  refine Be h0 h6 (by omega) ok (xF _ _ gh) (xF _ _ ra.1) (fun z hz=>(ok z hz).sn.2) _ fun hF x6=>?_
  have y3:Ext hC hF:=y1.trans (xD.trans (xE.trans x6))
  have ve:=wO (y3 _ _ gC) (y3 _ _ gB') (pI T) (pI T)
  simp [ve]
  exact k _ (xF.trans x6)
def mixed (c k:Int):Int:=
 let n:=(c+7919*k+1)*48271 % 2147483647
 n*(n / 1009+69621) % 2147483647
@[simp] theorem Nw (c k:Int) (h:PH):jE [.int c,.int k] h=.ok (.int (mixed c k)) h:=by
 simp (disch:=omega) [jE,mFn,xK,aV,bQ,cK,mixed]
theorem Lh (way many c:Int) (h:PH) (Q:PV->PH->Prop) (k:∀ a:Ac,Q (acV a) h):(uU [.int way,.int many,.int c] h).W Q:=by
 refine jR ?_
 unfold FD
 rw [aO]
 simp
 generalize mixed c 1=N
 refine now ?_
 rw [aO,hW]
 have last:∀ x4:Option PV,Lt (cK (eP (aB (mC (.str "add")) (aB (eP (aB (mC (.str "t")) (aB (mC (.int 1)) aI))) (aB (aD iD (mV 2) (aD KF (mC (.int 10)) (mC (.int 39)))) aI))))) { nx:=fun _ h=>Q .non h,rt:=Q } [some (.int way),some (.int many),some (.int c),some (.int N),x4] h:=fun x4=>by
  refine now ?_
  have p39:(0:Int) < 10 ^ (39:Int).toNat:=by decide +kernel
  simp (disch:=first | omega | exact p39)
  exact k (.add _)
 by_cases e1:way < 2
 ·simp [e1]
  exact k .settle
 ·simp [e1]
  refine now ?_
  rw [aO,hW]
  by_cases e2:way=2
  ·by_cases e3:0 < many
   ·simp [e2,e3]
    rw [aO]
    simp (disch:=omega)
    have b1:=Int.emod_nonneg N (b:=many) (by omega)
    have b2:=Int.emod_lt_of_pos N (b:=many) (by omega)
    generalize N % many=f at b1 b2
    refine now ?_
    simp (disch:=omega)
    exact k (.back _ _)
   ·simp [e2,e3]
    have:=last none
    rw [e2] at this
    exact this
  ·simp [e2]
   exact last none
theorem iU {α:Type} (xs:List α) (i j:Nat) (v d:α) (hi:i < xs.length):(xs.set i v).getD j d=if i=j then v else xs.getD j d:=by
 by_cases e:i=j
 ·subst e; simp [hi]
 ·rw [if_neg e]
  simp [List.getElem?_set_ne e]
theorem Cw (z:Str) (n:Int):(Txt.mul z n).length=z.length*n.toNat:=by
 have h:=PyProof.Rows.len_mul z n
 by_cases h0:n < 0
 ·rw [if_pos (by simpa using h0)] at h
  have:n.toNat=0:=by omega
  rw [this]; omega
 ·rw [if_neg (by simpa using h0)] at h
  have e:((n.toNat:Nat):Int)=n:=by omega
  have h2:((Txt.mul z n).length:Int)=((z.length*n.toNat:Nat):Int):=by rw [h,Int.natCast_mul,e]
  exact Int.ofNat.inj h2
abbrev tk:Str:="k"
theorem Bf:tk.length=1:=by decide +kernel
theorem FV {n:Int} (h0:0<=n) (h1:n<=8) (h:PH):Dj (.str tk) (.int n) h=.ok (.str (Txt.mul tk n)) h:=by
 simp only [Dj]
 rw [if_pos ⟨by rw [Bf]; omega,by omega,by omega⟩]
def hnd (a b:Str) (i:Int):Str:=a++⟨#[97+i.toNat]⟩++b
theorem IQ {a b:Str} {i j:Int} (hi:0<=i) (hj:0<=j) (h:hnd a b i=hnd a b j):i=j:=by
 have e:=congrArg (fun z:Str=>z.cps.toList) h
 simp only [hnd,app_list] at e
 have e1:=List.append_cancel_left (List.append_cancel_right e)
 have e2:[97+i.toNat]=[97+j.toNat]:=e1
 have e3:=List.cons.inj e2
 omega
theorem FW {c s:Int} (hs:1<=s/\s<=8) {i j:Nat} (hi:i < j) (hj:j < 6) (h:(c+i*s) % 26=(c+j*s) % 26):False:=by
 obtain ⟨d,rfl⟩:∃ d,j=i+d:=⟨j - i,by omega⟩
 have e:((i+d:Nat):Int)*s=i*s+d*s:=by rw [Int.natCast_add,Int.add_mul]
 rw [e] at h
 generalize (i:Int)*s=a at h
 have e2:((d:Int)*s) % 26=0:=by omega
 have cd:d=1\/d=2\/d=3\/d=4\/d=5:=by omega
 rcases cd with rfl | rfl | rfl | rfl | rfl <;> simp at e2 <;> omega
def sQ (A B:Str) (c s:Int) (q:Nat):List Str:=(List.range q).map fun (i:Nat)=>hnd A B ((c+(i:Int)*s) % 26)
theorem DD (A B:Str) (c s:Int) (q:Nat):sQ A B c s (q+1)=sQ A B c s q++[hnd A B ((c+(q:Int)*s) % 26)]:=by simp [sQ,List.range_succ]
theorem IR (A B:Str) (c s:Int) (hs:1<=s/\s<=8) {n:Nat} (hn:n<=6):(sQ A B c s n).Nodup:=by
 unfold sQ
 refine List.pairwise_map.mpr ?_
 refine List.Pairwise.imp_of_mem (fun {i j} hi hj ne e=>?_) (List.nodup_range (n:=n))
 have h1:=List.mem_range.mp hi
 have h2:=List.mem_range.mp hj
 have e:=IQ (Int.emod_nonneg _ (by decide)) (Int.emod_nonneg _ (by decide)) e
 rcases Nat.lt_or_gt_of_ne ne with z | z
 ·exact FW hs z (by omega) e
 ·exact FW hs z (by omega) e.symm
theorem FX (c:Int) (h:PH) (Q:PV->PH->Prop) (k:∀ (hs:List Str) (l:Nat) h',Ext h h'->h.length<=l->1<=hs.length/\hs.length<=6->hs.Nodup->h'[l]?=some (.lst (hs.map PV.str))->Q (.ref l) h'):(jD [.int c] h).W Q:=by
 refine jR ?_
 unfold xJ
 rw [aO]; simp (disch:=omega)
 refine now ?_
 rw [aO]; simp (disch:=omega)
 refine now ?_
 rw [aO]; simp
 have x0:Ext h (h++[MO.lst []]):=Ext.app _ _
 have g0:(h++[MO.lst []])[h.length]?=some (.lst (([]:List Str).map PV.str)):=aL
 generalize h++[MO.lst []]=hA at x0 g0
 have ha:0<=c / 8 % (1+c % 8)/\c / 8 % (1+c % 8) < 1+c % 8:=⟨Int.emod_nonneg _ (by omega),Int.emod_lt_of_pos _ (by omega)⟩
 generalize c / 8 % (1+c % 8)=a at ha
 have hb:0<=1+c % 8 - 1 - a/\1+c % 8 - 1 - a<=8/\a<=8:=by omega
 generalize eA:Txt.mul tk a=A
 generalize eB:Txt.mul tk (1+c % 8 - 1 - a)=B
 have lA:A.length<=8:=by rw [<- eA,Cw,Bf]; omega
 have lB:B.length<=8:=by rw [<- eB,Cw,Bf]; omega
 refine now ?_
 rw [aO]
 refine Fe (j:=1+c / 5 % 6) (fun q δ h'=>Ext h h'/\h'[h.length]?=some (.lst ((sQ A B (c / 64) (1+c / 3 % 8) q).map PV.str))/\∃ x4 x5,δ=[some (.int c),some (.int (1+c % 8)),some (.int a),some (.ref h.length),x4,x5]) (by simp (disch:=omega)) (by omega) ⟨x0,g0,_,_,rfl⟩ ?_ ?_
 ·rintro q δ h' hq ⟨x1,g1,x4,x5,rfl⟩
  unfold uT
  rw [aO]
  have hi:0<=(c / 64+(q:Int)*(1+c / 3 % 8)) % 26/\(c / 64+(q:Int)*(1+c / 3 % 8)) % 26 < 26:=⟨Int.emod_nonneg _ (by decide),Int.emod_lt_of_pos _ (by decide)⟩
  have al:=IK hi.1 hi.2
  have vi:vIx (.str FK) (.int ((c / 64+(q:Int)*(1+c / 3 % 8)) % 26)) h'=.ok (.str ⟨#[97+((c / 64+(q:Int)*(1+c / 3 % 8)) % 26).toNat]⟩) h':=by rw [Ii (by rw [Dx]; omega),al]; rfl
  have es:=DD A B (c / 64) (1+c / 3 % 8) q
  have lq:(sQ A B (c / 64) (1+c / 3 % 8) q).length=q:=by simp [sQ]
  simp (disch:=omega) [vi]
  refine now ?_
  have r1:=FV (n:=a) ha.1 hb.2.2 h'
  have r2:=FV (n:=1+c % 8 - 1 - a) hb.1 hb.2.1 h'
  rw [eA] at r1
  rw [eB] at r2
  have p1:∀ x:Nat,bM (.str A) (.str ⟨#[x]⟩) h'=.ok (.str (A++⟨#[x]⟩)) h':=fun x=>uD (by show A.length+1<=_; omega)
  have p2:∀ x:Nat,bM (.str (A++⟨#[x]⟩)) (.str B) h'=.ok (.str (A++⟨#[x]⟩++B)) h':=fun x=>uD (by rw [FN]; omega)
  have ap:=gI (p:=PV.str (hnd A B ((c / 64+(q:Int)*(1+c / 3 % 8)) % 26))) g1 (by rw [List.length_map,lq]; omega)
  unfold hnd at ap es
  have il:=jC g1
  generalize (c / 64+(q:Int)*(1+c / 3 % 8)) % 26=j at ap al hi es vi
  simp [il,r1,r2,p1,p2,ap]
  refine ⟨x1.setN (Nat.le_refl _),?_⟩
  rw [gJ g1,es,List.map_append]
  rfl
 ·rintro δ h' ⟨x1,g1,x4,x5,rfl⟩
  refine now ?_
  have hm:1<=(1+c / 5 % 6).toNat/\(1+c / 5 % 6).toNat<=6:=by omega
  generalize (1+c / 5 % 6).toNat=m at g1 hm
  have lq:(sQ A B (c / 64) (1+c / 3 % 8) m).length=m:=by simp [sQ]
  have nd:=IR A B (c / 64) (1+c / 3 % 8) (by omega) hm.2
  simp
  exact k _ _ _ x1 (Nat.le_refl _) (by rw [lq]; exact hm) nd g1
theorem Nx {α:Type} {xs:List α} (nd:xs.Nodup) {i j:Nat} {a:α} (h1:xs[i]?=some a) (h2:xs[j]?=some a):i=j:=by
 obtain ⟨l1,e1⟩:=List.getElem?_eq_some_iff.mp h1
 obtain ⟨l2,e2⟩:=List.getElem?_eq_some_iff.mp h2
 have pw:=List.pairwise_iff_getElem.mp nd
 rcases Nat.lt_trichotomy i j with h | h | h
 ·exact absurd (e1.trans e2.symm) (pw i j l1 l2 h)
 ·exact h
 ·exact absurd (e2.trans e1.symm) (pw j i l2 l1 h)
abbrev Cnt:=List (List Int×Nat)
def aP (C:Cnt) (w:Nat):List Int:=(C.getD w ([],0)).1
def bJ (C:Cnt) (w:Nat):Nat:=(C.getD w ([],0)).2
def tpw (C:Cnt) (w:Nat):Int:=(aP C w).getD w 0
structure oZ (hs:List Str) (C:Cnt) (c:List Int):Prop where
 len:c.length=hs.length
 nn:∀ w,0<=c.getD w 0
 le:∀ w,w < hs.length->c.getD w 0<=tpw C w
structure HI (hs:List Str) (C:Cnt) (R:List Row) (la lr:Nat) (h:PH):Prop where
 ga:h[la]?=some (.lst (C.map fun p=>PV.ref p.2))
 gc:∀ p∈C,h[p.2]?=some (.lst (p.1.map PV.int))
 len:C.length=hs.length
 ra:RAt h lr R
 ok:∀ z∈R,lQ hs z
 inc:Inc R
 c1:∀ p∈C,oZ hs C p.1
 c2:∀ z∈R,oZ hs C z.c
 nd:(C.map (·.2)).Nodup
 s1:∀ p∈C,p.2≠la/\p.2≠lr
 s2:∀ z∈R,z.r≠la/\z.r≠lr/\∀ p∈C,z.r≠p.2
 s3:la≠lr
theorem HI.ext {hs:List Str} {C:Cnt} {R:List Row} {la lr:Nat} {h h':PH} (i:HI hs C R la lr h) (x:Ext h h'):HI hs C R la lr h':=
 ⟨x _ _ i.ga,fun p hp=>x _ _ (i.gc p hp),i.len,i.ra.ext x,i.ok,i.inc,i.c1,i.c2,i.nd,i.s1,i.s2,i.s3⟩
theorem HI.at {hs:List Str} {C:Cnt} {R:List Row} {la lr:Nat} {h:PH} (i:HI hs C R la lr h) {w:Nat} (hw:w < hs.length):C[w]?=some (aP C w,bJ C w)/\(aP C w,bJ C w)∈C/\h[bJ C w]?=some (.lst ((aP C w).map PV.int))/\oZ hs C (aP C w):=by
 have hw':w < C.length:=by rw [i.len]; exact hw
 have e:C[w]?=some (aP C w,bJ C w):=by
  unfold aP bJ
  simp [hw']
 have hm:=List.mem_of_getElem? e
 exact ⟨e,hm,i.gc _ hm,i.c1 _ hm⟩
theorem rO {C:Cnt} {w v:Nat} {c:List Int} {r:Nat} (hw:w < C.length):aP (C.set w (c,r)) v=if w=v then c else aP C v:=by
 unfold aP
 rw [iU _ _ _ _ _ hw]
 split <;> rfl
theorem IS {hs:List Str} {z:Row} (nd:hs.Nodup) (o:lQ hs z) {w:Nat} (hw:w < hs.length) (e:z.d.nm.1=hs.getD w ""):z.d.nm.2=z.c.getD w 0:=by
 obtain ⟨v,c0,hv,lc,_,ec,en,_⟩:=o.ex
 rw [en] at e ⊢
 have e1:hs.getD v "" = hs[v]:=by simp [hv]
 have e2:hs.getD w "" = hs[w]:=by simp [hw]
 have e:hs.getD v "" = hs.getD w "" := e
 rw [e1,e2] at e
 have:v=w:=(List.getElem_inj nd).mp e
 subst this
 rw [ec,iU _ _ _ _ _ (by omega),if_pos rfl]
theorem HI.own {hs:List Str} (nd:hs.Nodup) {C:Cnt} {R:List Row} {la lr:Nat} {h:PH} (i:HI hs C R la lr h) {w:Nat} (hw:w < hs.length) {S:Seen} (so:cZ hs (aP C w) S) (a:Ac) {h2:PH} (e2:h2=((h.set (bJ C w) (.lst (((aP C w).set w (tpw C w+1)).map PV.int)))++[MO.lst (((aP C w).set w (tpw C w+1)).map PV.int)]).set lr (.lst ((R++[(⟨⟨(hs.getD w "",tpw C w+1),S,a⟩,(aP C w).set w (tpw C w+1),h.length⟩:Row)]).map rwV))):
  HI hs (C.set w ((aP C w).set w (tpw C w+1),bJ C w)) (R++[⟨⟨(hs.getD w "",tpw C w+1),S,a⟩,(aP C w).set w (tpw C w+1),h.length⟩]) la lr h2:=by
 obtain ⟨eC,mC,gC,cC⟩:=i.at hw
 have hwC:w < C.length:=by rw [i.len]; exact hw
 have lcw:w < (aP C w).length:=by rw [cC.len]; exact hw
 obtain ⟨s11,s12⟩:=i.s1 _ mC
 have lref:bJ C w < h.length:=(List.getElem?_eq_some_iff.mp gC).1
 have llr:lr < h.length:=(List.getElem?_eq_some_iff.mp i.ra.1).1
 have lla:la < h.length:=(List.getElem?_eq_some_iff.mp i.ga).1
 -- the heap
 have keep:∀ n o,n≠bJ C w->n≠lr->h[n]?=some o->h2[n]?=some o:=fun n o h1 h3 ho=>by
  rw [e2,List.getElem?_set_ne (Ne.symm h3)]
  exact Ext.app _ _ _ _ (by rw [List.getElem?_set_ne (Ne.symm h1)]; exact ho)
 have gw:h2[bJ C w]?=some (.lst (((aP C w).set w (tpw C w+1)).map PV.int)):=by
  rw [e2,List.getElem?_set_ne (Ne.symm s12)]
  exact Ext.app _ _ _ _ (gJ gC)
 have gn:h2[h.length]?=some (.lst (((aP C w).set w (tpw C w+1)).map PV.int)):=by
  rw [e2,List.getElem?_set_ne (by omega)]
  have:=aL (h:=h.set (bJ C w) (.lst (((aP C w).set w (tpw C w+1)).map PV.int))) (o:=MO.lst (((aP C w).set w (tpw C w+1)).map PV.int))
  rw [List.length_set] at this
  exact this
 have gr:h2[lr]?=some (.lst ((R++[(⟨⟨(hs.getD w "",tpw C w+1),S,a⟩,(aP C w).set w (tpw C w+1),h.length⟩:Row)]).map rwV)):=by
  rw [e2]
  exact gJ (Ext.app _ _ _ _ (by rw [List.getElem?_set_ne s12]; exact i.ra.1))
 -- the tops
 have tops:∀ v,v < hs.length->tpw C v<=tpw (C.set w ((aP C w).set w (tpw C w+1),bJ C w)) v/\(v≠w->tpw (C.set w ((aP C w).set w (tpw C w+1),bJ C w)) v=tpw C v)/\tpw (C.set w ((aP C w).set w (tpw C w+1),bJ C w)) w=tpw C w+1:=fun v hv=>by
  have t1:tpw (C.set w ((aP C w).set w (tpw C w+1),bJ C w)) w=tpw C w+1:=by
   unfold tpw
   rw [rO hwC,if_pos rfl,iU _ _ _ _ _ lcw,if_pos rfl]
  have t2:v≠w->tpw (C.set w ((aP C w).set w (tpw C w+1),bJ C w)) v=tpw C v:=fun z=>by
   unfold tpw
   rw [rO hwC,if_neg (Ne.symm z)]
  refine ⟨?_,t2,t1⟩
  by_cases z:v=w
  ·subst z; rw [t1]; omega
  ·rw [t2 z]; exact Int.le_refl _
 have up:∀ c,oZ hs C c->oZ hs (C.set w ((aP C w).set w (tpw C w+1),bJ C w)) c:=fun c o=>⟨o.len,o.nn,fun v hv=>Int.le_trans (o.le v hv) (tops v hv).1⟩
 have new:oZ hs (C.set w ((aP C w).set w (tpw C w+1),bJ C w)) ((aP C w).set w (tpw C w+1)):=by
  have tn:=cC.nn w
  have tn:0<=tpw C w:=tn
  refine ⟨by rw [List.length_set]; exact cC.len,fun v=>?_,fun v hv=>?_⟩
  ·rw [iU _ _ _ _ _ lcw]
   split
   ·omega
   ·exact cC.nn v
  ·rw [iU _ _ _ _ _ lcw]
   split
   ·rename_i z
    subst z
    rw [(tops w hw).2.2]; exact Int.le_refl _
   ·rename_i z
    rw [(tops v hv).2.1 (Ne.symm z)]
    exact cC.le v hv
 have memS:∀ p∈C.set w ((aP C w).set w (tpw C w+1),bJ C w),(p=((aP C w).set w (tpw C w+1),bJ C w))\/(p∈C/\p.2≠bJ C w):=fun p hp=>by
  obtain ⟨j,hj,ej⟩:=List.getElem_of_mem hp
  rw [List.length_set] at hj
  by_cases z:w=j
  ·subst z
   rw [List.getElem_set_self] at ej
   exact .inl ej.symm
  ·rw [List.getElem_set_ne z] at ej
   refine .inr ⟨by rw [<- ej]; exact List.getElem_mem hj,fun y=>z ?_⟩
   have h1:(C.map (·.2))[w]?=some (bJ C w):=by rw [List.getElem?_map,eC]; rfl
   have h2:(C.map (·.2))[j]?=some (bJ C w):=by rw [List.getElem?_map,List.getElem?_eq_getElem hj,ej,<- y]; rfl
   exact Nx i.nd h1 h2
 have refs:(C.set w ((aP C w).set w (tpw C w+1),bJ C w)).map (·.2)=C.map (·.2):=by
  rw [List.map_set]
  apply List.ext_getElem?
  intro j
  by_cases z:w=j
  ·subst z
   rw [List.getElem?_set_self (by rw [List.length_map]; exact hwC),List.getElem?_map,eC]
   rfl
  ·rw [List.getElem?_set_ne z]
 have refs2:(C.set w ((aP C w).set w (tpw C w+1),bJ C w)).map (fun p=>PV.ref p.2)=C.map fun p=>PV.ref p.2:=by
  have:=congrArg (List.map PV.ref) refs
  rw [List.map_map,List.map_map] at this
  exact this
 refine ⟨?_,fun p hp=>?_,by rw [List.length_set]; exact i.len,⟨gr,fun z hz=>?_⟩,fun z hz=>?_,?_,fun p hp=>?_,fun z hz=>?_,by rw [refs]; exact i.nd,fun p hp=>?_,fun z hz=>?_,i.s3⟩
 ·rw [refs2]; exact keep _ _ (Ne.symm s11) i.s3 i.ga
 ·rcases memS p hp with rfl | ⟨h1,h3⟩
  ·exact gw
  ·exact keep _ _ h3 (i.s1 p h1).2 (i.gc p h1)
 ·rcases List.mem_append.mp hz with y | y
  ·exact keep _ _ ((i.s2 z y).2.2 _ mC) (i.s2 z y).2.1 (i.ra.2 z y)
  ·simp at y; subst y; exact gn
 ·rcases List.mem_append.mp hz with y | y
  ·exact i.ok z y
  ·simp at y
   subst y
   exact ⟨by show ((aP C w).set w (tpw C w+1)).length=_; rw [List.length_set]; exact cC.len,w,aP C w,hw,cC.len,cC.nn w,rfl,rfl,so⟩
 ·unfold Inc
  rw [List.pairwise_append]
  refine ⟨i.inc,by simp,fun z hz y hy e=>?_⟩
  simp at hy
  subst hy
  have:=IS nd (i.ok z hz) hw e
  have l1:=(i.c2 z hz).le w hw
  show z.d.nm.2 < tpw C w+1
  omega
 ·rcases memS p hp with rfl | ⟨h1,h3⟩
  ·exact new
  ·exact up _ (i.c1 p h1)
 ·rcases List.mem_append.mp hz with y | y
  ·exact up _ (i.c2 z y)
  ·simp at y; subst y; exact new
 ·rcases memS p hp with rfl | ⟨h1,h3⟩
  ·exact ⟨s11,s12⟩
  ·exact i.s1 p h1
 ·rcases List.mem_append.mp hz with y | y
  ·refine ⟨(i.s2 z y).1,(i.s2 z y).2.1,fun p hp=>?_⟩
   rcases memS p hp with rfl | ⟨h1,h3⟩
   ·exact fun e=>(i.s2 z y).2.2 _ mC e
   ·exact (i.s2 z y).2.2 p h1
  ·simp at y
   subst y
   refine ⟨by show h.length≠la; omega,by show h.length≠lr; omega,fun p hp=>?_⟩
   rcases memS p hp with rfl | ⟨h1,h3⟩
   ·show h.length≠bJ C w; omega
   ·have:=(List.getElem?_eq_some_iff.mp (i.gc p h1)).1
    show h.length≠p.2
    omega
def mxs (n:Nat) (c f:List Int):List Int:=(List.range n).map fun k=>if f.getD k 0 > c.getD k 0 then f.getD k 0 else c.getD k 0
theorem rP (n:Nat) (c f:List Int) (w:Nat):(mxs n c f).getD w 0=if w < n then (if f.getD w 0 > c.getD w 0 then f.getD w 0 else c.getD w 0) else 0:=by
 unfold mxs
 by_cases h:w < n
 ·rw [if_pos h]
  simp [h]
 ·rw [if_neg h]
  simp [h]
theorem HI.met {hs:List Str} {C:Cnt} {R:List Row} {la lr:Nat} {h:PH} (i:HI hs C R la lr h) {w:Nat} (hw:w < hs.length) {f:List Int} (of:oZ hs C f) {r:Nat} (gr:h[r]?=some (.lst ((mxs hs.length (aP C w) f).map PV.int))) (fr:r≠la/\r≠lr/\(∀ p∈C,r≠p.2)/\∀ z∈R,z.r≠r):
  HI hs (C.set w (mxs hs.length (aP C w) f,r)) R la lr (h.set la (.lst ((C.map fun p=>PV.ref p.2).set w (.ref r)))):=by
 obtain ⟨eC,mC,gC,cC⟩:=i.at hw
 have hwC:w < C.length:=by rw [i.len]; exact hw
 have keep:∀ n o,n≠la->h[n]?=some o->(h.set la (.lst ((C.map fun p=>PV.ref p.2).set w (.ref r))))[n]?=some o:=fun n o h1 ho=>by
  rw [List.getElem?_set_ne (Ne.symm h1)]; exact ho
 have tops:∀ v,v < hs.length->tpw (C.set w (mxs hs.length (aP C w) f,r)) v=tpw C v:=fun v hv=>by
  unfold tpw
  rw [rO hwC]
  split
  ·rename_i z
   subst z
   rw [rP,if_pos hv]
   have:=of.le w hv
   have:f.getD w 0<=(aP C w).getD w 0:=this
   rw [if_neg (by omega)]
  ·rfl
 have up:∀ c,oZ hs C c->oZ hs (C.set w (mxs hs.length (aP C w) f,r)) c:=fun c o=>⟨o.len,o.nn,fun v hv=>by rw [tops v hv]; exact o.le v hv⟩
 have new:oZ hs (C.set w (mxs hs.length (aP C w) f,r)) (mxs hs.length (aP C w) f):=by
  refine ⟨by unfold mxs; simp,fun v=>?_,fun v hv=>?_⟩
  ·rw [rP]
   have:=cC.nn v
   have:=of.nn v
   split
   ·split <;> omega
   ·exact Int.le_refl _
  ·rw [tops v hv,rP,if_pos hv]
   have:=cC.le v hv
   have:=of.le v hv
   split <;> omega
 have memS:∀ p∈C.set w (mxs hs.length (aP C w) f,r),(p=(mxs hs.length (aP C w) f,r))\/p∈C:=fun p hp=>by
  rcases List.mem_or_eq_of_mem_set hp with z | z
  ·exact .inr z
  ·exact .inl z
 refine ⟨?_,fun p hp=>?_,by rw [List.length_set]; exact i.len,⟨keep _ _ (Ne.symm i.s3) i.ra.1,fun z hz=>keep _ _ (i.s2 z hz).1 (i.ra.2 z hz)⟩,i.ok,i.inc,fun p hp=>?_,fun z hz=>up _ (i.c2 z hz),?_,fun p hp=>?_,fun z hz=>⟨(i.s2 z hz).1,(i.s2 z hz).2.1,fun p hp=>?_⟩,i.s3⟩
 ·rw [gJ i.ga,List.map_set]
 ·rcases memS p hp with rfl | z
  ·exact keep _ _ fr.1 gr
  ·exact keep _ _ (i.s1 p z).1 (i.gc p z)
 ·rcases memS p hp with rfl | z
  ·exact new
  ·exact up _ (i.c1 p z)
 ·rw [List.map_set]
  refine List.pairwise_iff_getElem.mpr fun a b ha hb hab=>?_
  rw [List.length_set,List.length_map] at ha hb
  have pw:=List.pairwise_iff_getElem.mp i.nd
  have hr:∀ (j:Nat) (hj:j < (C.map (·.2)).length),(C.map (·.2))[j]≠r:=fun j hj e=>by
   rw [List.length_map] at hj
   rw [List.getElem_map] at e
   exact fr.2.2.1 _ (List.getElem_mem hj) e.symm
  rw [List.getElem_set,List.getElem_set]
  split
  ·split
   ·omega
   ·exact fun e=>hr b (by rw [List.length_map]; exact hb) e.symm
  ·split
   ·exact fun e=>hr a (by rw [List.length_map]; exact ha) e
   ·exact pw a b (by rw [List.length_map]; exact ha) (by rw [List.length_map]; exact hb) hab
 ·rcases memS p hp with rfl | z
  ·exact ⟨fr.1,fr.2.1⟩
  ·exact i.s1 p z
 ·rcases memS p hp with rfl | y
  ·exact fr.2.2.2 z hz
  ·exact (i.s2 z hz).2.2 p y
theorem OR {h:PH} {a b:Nat} {R:List Row} (g1:h[a]?=some (.lst (R.map rwV))) (g2:h[b]?=some (.lst [])):IE (.ref a) (.ref b) h=.ok (.bl (!decide (R=[]))) h:=by
 unfold IE eqF
 cases R with
 | nil=>rw [zJ g1 g2 rfl rfl]; rfl
 | cons z R=>
  have q1:cP (.ref a) h=some ((z :: R).map rwV):=by simp [cP,aM,g1]
  have q2:cP (.ref b) h=some []:=by simp [cP,aM,g2]
  have q3:PV.ds ((z :: R).map rwV)=none:=by simp [PV.ds,rwV,PV.d,deV,pv]
  have n2:fZ (.ref a) (.ref b) h=none:=by
   unfold fZ
   simp only [PV.d,q1,q2,q3]
  rw [n2]
  simp only [q1,q2]
  rfl
structure HT (hs:List Str) (h:PH) (la lr:Nat) (q:Nat) (C:Cnt) (R:List Row) (h':PH):Prop where
 x:Ext h h'
 i:HI hs C R la lr h'
 l:R.length<=q
 b:h.length<=la/\h.length<=lr/\∀ p∈C,h.length<=p.2
theorem HT.ext {hs:List Str} {h:PH} {la lr q:Nat} {C:Cnt} {R:List Row} {h' h2:PH} (t:HT hs h la lr q C R h') (x:Ext h' h2):HT hs h la lr q C R h2:=⟨t.x.trans x,t.i.ext x,t.l,t.b⟩
theorem Li {hs:List Str} (h6:hs.length<=6) {h h':PH} {la lr lh q:Nat} {C:Cnt} {R:List Row} (t:HT hs h la lr q C R h') (gh:h'[lh]?=some (.lst (hs.map PV.str))) {w:Nat} (hw:w < hs.length) {f:List Int} {rf:Nat} (of:oZ hs C f) (gf:h'[rf]?=some (.lst (f.map PV.int))) (x0 x3 x4 x7 x8 x9 x10 x12:Option PV) (E:FE)
  (fin:∀ C' h2,HT hs h la lr (q+1) C' R h2->E.nx [x0,some (.ref lh),some (.ref la),x3,x4,some (.int (w:Int)),some (.ref (bJ C w)),x7,x8,x9,x10,some (.ref rf),x12] h2):
  Lt (lI (bT [none,some 6,some 11] (hU (aB (mCB eQ (aB (mV 1) aI)) aI)) (gN 0) fH (mCB lK (aB (aD vAt (mV 1) (mV 0)) (aB (aD vAt (mV 2) (mV 0)) aI)))) (mV 2) (mV 5)) E [x0,some (.ref lh),some (.ref la),x3,x4,some (.int (w:Int)),some (.ref (bJ C w)),x7,x8,x9,x10,some (.ref rf),x12] h':=by
 refine now ?_
 obtain ⟨eC,mC,gC,cC⟩:=t.i.at hw
 have hlv:=fJ gh
 rw [List.length_map] at hlv
 have hc:=zM (js:=[none,some 6,some 11]) (tg:=gN 0) (tst:=fH) (elt:=mCB lK (aB (aD vAt (mV 1) (mV 0)) (aB (aD vAt (mV 2) (mV 0)) aI))) (δ:=[x0,some (.ref lh),some (.ref la),x3,x4,some (.int (w:Int)),some (.ref (bJ C w)),x7,x8,x9,x10,some (.ref rf),x12]) (h:=h') (h1:=h') (ms:=aB (mCB eQ (aB (mV 1) aI)) aI) (j:=(hs.length:Int))
  (fun k=>some (.int (if f.getD k 0 > (aP C w).getD k 0 then f.getD k 0 else (aP C w).getD k 0))) (by simp [hlv]) (by omega) (fun k hk=>⟨[some (.int (k:Int)),some (.ref (bJ C w)),some (.ref rf)],by simp [cQ],fun h2 x2=>by
   have hk':k < hs.length:=by omega
   have e1:atI ((aP C w).map PV.int) (k:Int)=some (.int ((aP C w).getD k 0)):=cO (by rw [List.getElem?_map]; simp [cC.len,hk'])
   have e2:atI (f.map PV.int) (k:Int)=some (.int (f.getD k 0)):=cO (by rw [List.getElem?_map]; simp [of.len,hk'])
   have v1:vIx (.ref (bJ C w)) (.int (k:Int)) h2=.ok (.int ((aP C w).getD k 0)) h2:=by rw [bY (x2 _ _ gC),e1]; rfl
   have v2:vIx (.ref rf) (.int (k:Int)) h2=.ok (.int (f.getD k 0)) h2:=by rw [bY (x2 _ _ gf),e2]; rfl
   generalize (aP C w).getD k 0=u1 at v1
   generalize f.getD k 0=u2 at v2
   refine ⟨rfl,?_⟩
   simp [v1,v2]⟩)
 have em:(List.range ((hs.length:Int)).toNat).filterMap (fun k=>some (PV.int (if f.getD k 0 > (aP C w).getD k 0 then f.getD k 0 else (aP C w).getD k 0)))=(mxs hs.length (aP C w) f).map PV.int:=by
  rw [Int.toNat_natCast]
  unfold mxs
  rw [List.map_map,filterMap_some]
  rfl
 rw [em] at hc
 have gN':(h'++[MO.lst ((mxs hs.length (aP C w) f).map PV.int)])[h'.length]?=some (.lst ((mxs hs.length (aP C w) f).map PV.int)):=aL
 have xN:Ext h' (h'++[MO.lst ((mxs hs.length (aP C w) f).map PV.int)]):=Ext.app _ _
 have t1:=t.ext xN
 have lC:∀ p∈C,p.2 < h'.length:=fun p hp=>(List.getElem?_eq_some_iff.mp (t.i.gc p hp)).1
 have lR:∀ z∈R,z.r < h'.length:=fun z hz=>(List.getElem?_eq_some_iff.mp (t.i.ra.2 z hz)).1
 have l1:la < h'.length:=(List.getElem?_eq_some_iff.mp t.i.ga).1
 have l2:lr < h'.length:=(List.getElem?_eq_some_iff.mp t.i.ra.1).1
 have i2:=t1.i.met hw of gN' ⟨by omega,by omega,fun p hp=>by have:=lC p hp; omega,fun z hz=>by have:=lR z hz; omega⟩
 generalize h'++[MO.lst ((mxs hs.length (aP C w) f).map PV.int)]=hA at hc gN' xN t1 i2
 have pu:=uM (v:=.ref h'.length) (i:=(w:Int)) t1.i.ga (by omega) (by rw [List.length_map,t.i.len]; omega)
 rw [Int.toNat_natCast] at pu
 simp [hc,pu]
 refine fin _ _ ⟨t1.x.setN t.b.1,i2,by have:=t.l; omega,t.b.1,t.b.2.1,fun p hp=>?_⟩
 rcases List.mem_or_eq_of_mem_set hp with z | z
 ·exact t.b.2.2 p z
 ·rw [z]; exact t.x.len
theorem Lj {hs:List Str} (nd:hs.Nodup) (h6:hs.length<=6) {h h':PH} {la lr lh q:Nat} {C:Cnt} {R:List Row} (t:HT hs h la lr q C R h') (hq:q<=1000) (gh:h'[lh]?=some (.lst (hs.map PV.str))) {w:Nat} (hw:w < hs.length) (c way:Int) (x0 x8 x9 x10 x11 x12:Option PV) (E:FE)
  (fin:∀ C' R' h2 y8 y9,HT hs h la lr (q+1) C' R' h2->E.nx [x0,some (.ref lh),some (.ref la),some (.ref lr),some (.int c),some (.int (w:Int)),some (.ref (bJ C w)),some (.int way),y8,y9,x10,x11,x12] h2):
  (aV (bQ 8 (eP (aB (aD vAt (mV 1) (mV 5)) (aB (aD bM (aD vAt (mV 6) (mV 5)) (mC (.int 1))) aI))))
   (aV (bQ 9 (eP (aB (mV 8) (aB (bP 2 iO (aB (mV 1) (aB (mV 6) aI))) (aB (bP 3 uU (aB (mV 7) (aB (aD vAt (mV 6) (mV 5)) (aB (aD kE (mV 4) (mC (.int 32))) aI)))) aI)))))
   (aV (lI (aD bM (aD vAt (mV 6) (mV 5)) (mC (.int 1))) (mV 6) (mV 5))
   (zH (mMt isL (onL cR) (mV 3) (aB (eP (aB (mV 9) (aB (mCB oD (aB (mV 6) aI)) aI))) aI))))) [x0,some (.ref lh),some (.ref la),some (.ref lr),some (.int c),some (.int (w:Int)),some (.ref (bJ C w)),some (.int way),x8,x9,x10,x11,x12] h').W E:=by
 obtain ⟨eC,mC,gC,cC⟩:=t.i.at hw
 have e1:atI ((aP C w).map PV.int) (w:Int)=some (.int (tpw C w)):=cO (by rw [List.getElem?_map]; unfold tpw; simp [cC.len,hw])
 have e2:atI (hs.map PV.str) (w:Int)=some (.str (hs.getD w "")):=cO (by rw [List.getElem?_map]; simp [hw])
 have vc:∀ h2,Ext h' h2->vIx (.ref (bJ C w)) (.int (w:Int)) h2=.ok (.int (tpw C w)) h2:=fun h2 x2=>by rw [bY (x2 _ _ gC),e1]; rfl
 have vh:vIx (.ref lh) (.int (w:Int)) h'=.ok (.str (hs.getD w "")) h':=by rw [bY gh,e2]; rfl
 rw [aO]
 have vc0:=vc h' (Ext.refl _)
 obtain ⟨hd,ehd⟩:∃ hd,hs.getD w "" = hd:=⟨_,rfl⟩
 rw [ehd] at vh
 simp [vh,vc0]
 refine now ?_
 rw [aO]
 simp
 refine Cs nd h6 cC.len gh gC _ fun S h1 x1 so=>?_
 have vc1:=vc h1 x1
 simp (disch:=omega) [vc1]
 refine Lh way (tpw C w) (c / 32) h1 _ fun a=>?_
 have t1:=t.ext x1
 obtain ⟨tp,etp⟩:∃ tp,tpw C w=tp:=⟨_,rfl⟩
 have own:=t1.i.own nd hw so a (h2:=_) rfl
 rw [ehd,etp] at own
 rw [etp] at vc1
 rw [etp]
 have gC1:=x1 _ _ gC
 have lw:w < ((aP C w).map PV.int).length:=by rw [List.length_map,cC.len]; exact hw
 have pu:=uM (v:=.int (tp+1)) (i:=(w:Int)) gC1 (by omega) (by omega)
 rw [Int.toNat_natCast,<- List.map_set] at pu
 have gS:(h1.set (bJ C w) (.lst (((aP C w).set w (tp+1)).map PV.int)))[bJ C w]?=some (.lst (((aP C w).set w (tp+1)).map PV.int)):=gJ gC1
 have s12:=(t1.i.s1 _ mC).2
 have gR:(h1.set (bJ C w) (.lst (((aP C w).set w (tp+1)).map PV.int)))[lr]?=some (.lst (R.map rwV)):=by rw [List.getElem?_set_ne s12]; exact t1.i.ra.1
 have vl:=rN gS
 have gR2:=Ext.app (h1.set (bJ C w) (.lst (((aP C w).set w (tp+1)).map PV.int))) [MO.lst (((aP C w).set w (tp+1)).map PV.int)] _ _ gR
 have ap:=gI (p:=rwV ⟨⟨(hd,tp+1),S,a⟩,(aP C w).set w (tp+1),h1.length⟩) gR2 (by have:=t.l; rw [List.length_map]; omega)
 rw [List.length_set] at vl
 have ap':onL cR (.ref lr) [.tup [.tup [.tup [.str hd,.int (tp+1)],sv S,acV a],.ref h1.length]] (h1.set (bJ C w) (.lst (((aP C w).set w (tp+1)).map PV.int))++[MO.lst (((aP C w).set w (tp+1)).map PV.int)])=_:=ap
 rw [List.map_append] at own
 have xS:Ext h h1:=t1.x
 have hx:Ext h ((h1.set (bJ C w) (.lst (((aP C w).set w (tp+1)).map PV.int))++[MO.lst (((aP C w).set w (tp+1)).map PV.int)]).set lr (.lst (R.map rwV++[rwV ⟨⟨(hd,tp+1),S,a⟩,(aP C w).set w (tp+1),h1.length⟩]))):=((xS.setN (t.b.2.2 _ mC)).trans (Ext.app _ _)).setN t.b.2.1
 have il:=jC gR
 generalize h1.set (bJ C w) (.lst (((aP C w).set w (tp+1)).map PV.int))=h2 at vl ap' own hx il pu
 generalize h2++[MO.lst (((aP C w).set w (tp+1)).map PV.int)]=h3 at vl ap' own hx
 refine now ?_
 rw [aO]
 simp [vc1,pu]
 refine now ?_
 simp [il,vl,ap']
 refine fin _ _ _ _ _ ⟨hx,own,by rw [List.length_append]; have:=t.l; simp; omega,t.b.1,t.b.2.1,fun p hp=>?_⟩
 rcases List.mem_or_eq_of_mem_set hp with z | z
 ·exact t.b.2.2 p z
 ·rw [z]
  have:=t.b.2.2 _ mC
  exact this
theorem pick {α:Type} {xs:List α} {e:α->PV} {n:Nat} (hn:xs.length=n) (h0:0 < n) (i:Int):∃ x∈xs,atI (xs.map e) (i % (n:Int))=some (e x):=by
 obtain ⟨one,e1,hmem⟩:=Il (xs:=xs.map e) (i:=i) (by intro z; rw [List.map_eq_nil_iff] at z; rw [z] at hn; simp at hn; omega)
 obtain ⟨p,hp,rfl⟩:=List.mem_map.mp hmem
 rw [List.length_map,hn] at e1
 exact ⟨p,hp,e1⟩
theorem Ny (c:Int) {n:Nat} (h:0 < n):∃ w:Nat,c % (n:Int)=w/\w < n:=by
 have h1:=Int.emod_nonneg c (b:=(n:Int)) (by omega)
 have h2:=Int.emod_lt_of_pos c (b:=(n:Int)) (by omega)
 exact ⟨(c % (n:Int)).toNat,by omega,by omega⟩
theorem xV (x:Str):∀ R:List Row,R.filterMap (fun z=>if z.d.nm.1=x then some (rwV z) else none)=(R.filter fun z=>decide (z.d.nm.1=x)).map rwV
 | []=>rfl
 | y :: rs=>by
  rw [List.filterMap_cons,List.filter_cons]
  by_cases e:y.d.nm.1=x
  ·simp [e,xV x rs]
  ·simp [e,xV x rs]
theorem IT {hs:List Str} (nd:hs.Nodup) (h0:hs≠[]) (h6:hs.length<=6) {h h':PH} {la lr lh q:Nat} {C:Cnt} {R:List Row} (t:HT hs h la lr q C R h') (hq:q<=1000) (gh:h[lh]?=some (.lst (hs.map PV.str))) (c:Int) (x0 x5 x6 x7 x8 x9 x10 x11 x12:Option PV) (E:FE)
  (fin:∀ C' R' h2 y5 y6 y7 y8 y9 y10 y11 y12,HT hs h la lr (q+1) C' R' h2->E.nx [x0,some (.ref lh),some (.ref la),some (.ref lr),some (.int c),y5,y6,y7,y8,y9,y10,y11,y12] h2):
  (iP [x0,some (.ref lh),some (.ref la),some (.ref lr),some (.int c),x5,x6,x7,x8,x9,x10,x11,x12] h').W E:=by
 unfold iP
 have hpos:0 < hs.length:=List.length_pos_iff.mpr h0
 have ghh:=t.x _ _ gh
 have hlv:∀ h2,Ext h' h2->eQ [.ref lh] h2=.ok (.int (hs.length:Int)) h2:=fun h2 x2=>by
  have:=fJ (x2 _ _ ghh)
  rw [List.length_map] at this
  exact this
 have hl0:=hlv h' (Ext.refl _)
 obtain ⟨w,ew,hw⟩:=Ny c hpos
 have va:∀ h2,Ext h' h2->∀ v:Nat,v < hs.length->vIx (.ref la) (.int (v:Int)) h2=.ok (.ref (bJ C v)) h2:=fun h2 x2 v hv=>by
  rw [bY (x2 _ _ t.i.ga),show atI (C.map fun p=>PV.ref p.2) (v:Int)=some (.ref (bJ C v)) from cO (by rw [List.getElem?_map,(t.i.at hv).1]; rfl)]
  rfl
 have va0:=va h' (Ext.refl _) w hw
 rw [aO]
 simp (disch:=omega) [hl0,ew]
 refine now ?_
 rw [aO]
 simp [va0]
 refine now ?_
 rw [aO]
 simp (disch:=omega) [hl0]
 generalize c / (hs.length:Int) % 8=way
 refine now ?_
 rw [hW]
 by_cases e5:way < 5
 ·simp [e5]
  exact Lj nd h6 t hq ghh hw c way x0 x8 x9 x10 x11 x12 _ fun C' R' h2 y8 y9 z=>fin C' R' h2 _ _ _ _ _ _ _ _ z
 ·simp [e5]
  rw [aO]
  obtain ⟨m,em,hm⟩:∃ m:Int,(if (hs.length:Int) - 1 > 1 then (hs.length:Int) - 1 else 1)=m/\0 < m:=⟨_,rfl,by split <;> omega⟩
  obtain ⟨v,ev,hv⟩:=Ny ((w:Int)+1+c / 32 % m) hpos
  have em':(if 1 < (hs.length:Int) - 1 then (hs.length:Int) - 1 else 1)=m:=em
  simp (disch:=omega) [hl0,em',ev]
  refine now ?_
  rw [aO]
  have va1:=va h' (Ext.refl _) v hv
  simp [va1]
  refine now ?_
  rw [aO]
  have vh:∀ h2,Ext h' h2->vIx (.ref lh) (.int (v:Int)) h2=.ok (.str (hs.getD v "")) h2:=fun h2 x2=>by
   rw [bY (x2 _ _ ghh),show atI (hs.map PV.str) (v:Int)=some (.str (hs.getD v "")) from cO (by rw [List.getElem?_map]; simp [hv])]
   rfl
  generalize hs.getD v "" = hd at vh
  have hc:=fL (m:=mV 3) (n:=lr) (js:=[none,some 1,some 10]) (tg:=gN 0) (tst:=cE (aD vEq (aD vAt (aD vAt (aD vAt (mV 0) (mC (.int 0))) (mC (.int 0))) (mC (.int 0))) (aD vAt (mV 1) (mV 2)))) (elt:=mV 0) (δ:=[x0,some (.ref lh),some (.ref la),some (.ref lr),some (.int c),some (.int (w:Int)),some (.ref (bJ C w)),some (.int way),x8,x9,some (.int (v:Int)),some (.ref (bJ C v)),x12]) (h:=h') (h1:=h') (ys:=R) (emb:=rwV)
   (fun z=>if z.d.nm.1=hd then some (rwV z) else none) (by simp) t.i.ra.1 (by have:=t.l; omega) (fun z _=>⟨[some (rwV z),some (.ref lh),some (.int (v:Int))],by simp [cQ],fun h2 x2=>by
    have r0:vIx (rwV z) (.int 0) h2=.ok (deV z.d) h2:=by unfold rwV; simp
    by_cases e:z.d.nm.1=hd
    ·simp [r0,de0,pv0,vh h2 x2,e]
    ·simp [r0,de0,pv0,vh h2 x2,e]⟩)
  rw [xV hd R] at hc
  have memF:∀ z∈R.filter fun z=>decide (z.d.nm.1=hd),z∈R:=fun z hz=>(List.mem_filter.mp hz).1
  generalize (R.filter fun z=>decide (z.d.nm.1=hd))=F at hc memF
  have x1:Ext h' (h'++[MO.lst (F.map rwV)]):=Ext.app _ _
  have g1:(h'++[MO.lst (F.map rwV)])[h'.length]?=some (.lst (F.map rwV)):=aL
  simp only [uC,hc,qQ,List.set_cons_succ,List.set_cons_zero]
  generalize h'++[MO.lst (F.map rwV)]=hA at hc x1 g1
  generalize h'.length=lf at hc g1
  clear hc
  have tA:=t.ext x1
  refine now ?_
  rw [aO,hW]
  have nx:∀ (h2:PH),Ext hA h2->∀ (f:List Int) (rf:Nat),oZ hs C f->h2[rf]?=some (.lst (f.map PV.int))->Lt (lI (bT [none,some 6,some 11] (hU (aB (mCB eQ (aB (mV 1) aI)) aI)) (gN 0) fH (mCB lK (aB (aD vAt (mV 1) (mV 0)) (aB (aD vAt (mV 2) (mV 0)) aI)))) (mV 2) (mV 5)) E [x0,some (.ref lh),some (.ref la),some (.ref lr),some (.int c),some (.int (w:Int)),some (.ref (bJ C w)),some (.int way),x8,x9,some (.int (v:Int)),some (.ref rf),some (.ref lf)] h2:=fun h2 x2 f rf of gf=>
   Li h6 (tA.ext x2) (x2 _ _ (x1 _ _ ghh)) hw of gf _ _ _ _ _ _ _ _ E fun C' h3 z=>fin C' R h3 _ _ _ _ _ _ _ _ z
  by_cases e7:way < 7
  ·have vn:=OR (Ext.app hA [MO.lst []] _ _ g1) (aL (h:=hA) (o:=MO.lst []))
   have xB:Ext hA (hA++[MO.lst []]):=Ext.app _ _
   have gB:=xB _ _ g1
   by_cases eF:F=[]
   ·subst eF
    simp [e7,vn]
    exact nx _ xB _ _ (t.i.at hv).2.2.2 (xB _ _ (x1 _ _ (t.i.at hv).2.2.1))
   ·rw [decide_eq_false eF] at vn
    have hF:0 < F.length:=List.length_pos_iff.mpr eF
    obtain ⟨z,hz,ez⟩:=pick (e:=rwV) (n:=F.length) rfl hF (c / 64)
    have hl:=fJ gB
    rw [List.length_map] at hl
    have vz:vIx (.ref lf) (.int (c / 64 % (F.length:Int))) (hA++[MO.lst []])=.ok (rwV z) (hA++[MO.lst []]):=by rw [bY gB,ez]; rfl
    have r1:∀ hB,vIx (rwV z) (.int 1) hB=.ok (.ref z.r) hB:=fun hB=>by unfold rwV; simp
    simp (disch:=omega) [e7,vn,hl,vz,r1]
    have hzR:=memF z hz
    exact nx _ xB _ _ (t.i.c2 z hzR) (xB _ _ (x1 _ _ (t.i.ra.2 z hzR)))
  ·simp [e7]
   exact nx _ (Ext.refl _) _ _ (t.i.at hv).2.2.2 (x1 _ _ (t.i.at hv).2.2.1)
theorem IU {δ:Ev} {h h1:PH} {js:List (Option Nat)} {tg:Mg} {elt:Me} {g:PH->Bool} {α:Type} {mi:Mi} {ys:List α} {emb:α->PV} {Q:PV->PH->Prop} (G:α->MO) (e:mi δ h=.ok ⟨ys.map emb,g⟩ h1) (hg:∀ h,Ext h1 h->g h=true) (hz:ys.length<=16777216)
  (step:∀ y∈ys,∃ δ1,tg (emb y) (cQ js δ)=some δ1/\∀ h,Ext h1 h->∃ n h',elt δ1 h=.ok (.ref n) h'/\Ext h h'/\h.length<=n/\h'[n]?=some (G y))
  (k:∀ l h' (zs:List (α×Nat)),Ext h1 h'->h1.length<=l->zs.map (·.1)=ys->(zs.map (·.2)).Nodup->h'[l]?=some (.lst (zs.map fun z=>PV.ref z.2))->(∀ z∈zs,l < z.2/\h'[z.2]?=some (G z.1))->Q (.ref l) h'):(bT js mi tg fH elt δ h).W Q:=by
 unfold bT
 rw [e,Rs.bind_ok]
 refine pE (fun i h'=>Ext h1 h'/\∃ zs:List (α×Nat),zs.map (·.1)=ys.take i/\(zs.map (·.2)).Nodup/\h'[h1.length]?=some (.lst (zs.map fun z=>PV.ref z.2))/\∀ z∈zs,h1.length < z.2/\h'[z.2]?=some (G z.1)) (ys.map emb) 0 _ ⟨Ext.app _ _,[],by simp,by simp,by simp,fun z hz=>by simp at hz⟩ (fun i x h' _ hx hi=>?_) (fun h' hi=>?_)
 ·obtain ⟨x1,zs,ez,nd,g1,oz⟩:=hi
  have hx:(ys.map emb)[i]?=some x:=by simpa using hx
  rw [List.getElem?_map] at hx
  obtain ⟨y,hy,rfl⟩:=Option.map_eq_some_iff.mp hx
  have hil:=(List.getElem?_eq_some_iff.mp hy).1
  obtain ⟨δ1,ht,hs⟩:=step y (List.mem_of_getElem? hy)
  have htk:ys.take (i+1)=ys.take i++[y]:=by rw [List.take_add_one,hy]; rfl
  refine ⟨hg _ x1,δ1,ht,?_⟩
  have hY:fH δ1 h'=.ok true h':=rfl
  rw [hY,qQ,if_pos rfl]
  obtain ⟨n,h2,e2,x2,ln,gn⟩:=hs h' x1
  have lz:zs.length<=i:=by
   have:=congrArg List.length ez
   rw [List.length_map,List.length_take] at this
   omega
  have l1:h1.length < h'.length:=(List.getElem?_eq_some_iff.mp g1).1
  rw [e2,qQ]
  refine ⟨_,x2 _ _ g1,by rw [List.length_map]; omega,(x1.trans x2).setN (Nat.le_refl _),zs++[(y,n)],by rw [List.map_append,ez,htk]; rfl,?_,by rw [gJ (x2 _ _ g1),List.map_append]; rfl,fun z hz=>?_⟩
  ·rw [List.map_append,List.nodup_append]
   refine ⟨nd,by simp,fun a ha b hb=>?_⟩
   obtain ⟨z,hz,rfl⟩:=List.mem_map.mp ha
   simp at hb
   subst hb
   have:=(List.getElem?_eq_some_iff.mp (oz z hz).2).1
   omega
  ·rcases List.mem_append.mp hz with q | q
   ·obtain ⟨a,b⟩:=oz z q
    exact ⟨a,by rw [List.getElem?_set_ne (by omega)]; exact x2 _ _ b⟩
   ·simp at q
    subst q
    exact ⟨by omega,by rw [List.getElem?_set_ne (by omega)]; exact gn⟩
 ·obtain ⟨x1,zs,ez,nd,g1,oz⟩:=hi
  rw [Nat.zero_add,List.length_map,List.take_length] at ez
  exact ⟨hg _ x1,k _ _ zs x1 (Nat.le_refl _) ez nd g1 oz⟩
theorem Bg {hs:List Str} (nd:hs.Nodup) (h0:hs≠[]) (h6:hs.length<=6) {cs:List Int} (lc:cs.length<=40) {ls lh:Nat} {h:PH} (gs:h[ls]?=some (.lst (cs.map PV.int))) (gh:h[lh]?=some (.lst (hs.map PV.str))) (Q:PV->PH->Prop) (k:∀ C R la lr h',Ext h h'->HI hs C R la lr h'->R.length<=40->Q (.tup [.ref lr,.ref la]) h'):(dY [.ref ls,.ref lh] h).W Q:=by
 refine jR ?_
 unfold nK
 rw [aO,show List.map some [PV.ref ls,PV.ref lh]++List.replicate (13 - [PV.ref ls,PV.ref lh].length) none=[some (.ref ls),some (.ref lh),none,none,none,none,none,none,none,none,none,none,none] from rfl]
 simp only [uC]
 refine IU (h1:=h) (ys:=hs) (emb:=PV.str) (g:=jP lh (hs.map PV.str)) (fun _=>.lst ((List.replicate hs.length (0:Int)).map PV.int)) (lF (by simp) gh) (fK gh) (by omega) (fun y _=>⟨[some (.str y),some (.ref lh)],by simp [cQ],fun h2 x2=>?_⟩) fun la hA zs xA bA ez ndz gA oz=>?_
 ·have hc:=fL (m:=mV 1) (n:=lh) (js:=[none]) (tg:=gN 0) (tst:=fH) (elt:=mC (.int 0)) (δ:=[some (.str y),some (.ref lh)]) (h:=h2) (h1:=h2) (ys:=hs) (emb:=PV.str)
   (fun _=>some (.int 0)) (by simp) (x2 _ _ gh) (by omega) (fun z _=>⟨[some (.str z)],by simp [cQ],fun h' _=>⟨rfl,by simp⟩⟩)
  have em:hs.filterMap (fun _=>some (PV.int 0))=(List.replicate hs.length (0:Int)).map PV.int:=by
   rw [filterMap_some (fun _=>PV.int 0) hs,List.map_const',List.map_replicate]
  rw [em] at hc
  exact ⟨_,_,hc,Ext.app _ _,Nat.le_refl _,aL⟩
 simp only [List.set_cons_succ,List.set_cons_zero]
 refine now ?_
 rw [aO]
 simp
 have xB:Ext hA (hA++[MO.lst []]):=Ext.app _ _
 have gB:(hA++[MO.lst []])[hA.length]?=some (.lst (([]:List Row).map rwV)):=aL
 have lz:zs.length=hs.length:=by rw [<- ez,List.length_map]
 have lA:la < hA.length:=(List.getElem?_eq_some_iff.mp gA).1
 have lref:∀ z∈zs,z.2 < hA.length:=fun z hz=>(List.getElem?_eq_some_iff.mp (oz z hz).2).1
 have zr:∀ w,(List.replicate hs.length (0:Int)).getD w 0=0:=fun w=>by
  by_cases hw:w < hs.length
  ·simp [hw]
  ·simp [hw]
 have tp:∀ w,tpw (zs.map fun z=>(List.replicate hs.length (0:Int),z.2)) w=0:=fun w=>by
  unfold tpw aP
  by_cases hw:w < zs.length
  ·have:(zs.map fun z=>(List.replicate hs.length (0:Int),z.2)).getD w ([],0)=(List.replicate hs.length (0:Int),(zs[w]).2):=by simp [hw]
   rw [this]
   exact zr w
  ·have:(zs.map fun z=>(List.replicate hs.length (0:Int),z.2)).getD w ([],0)=([],0):=by simp [hw]
   rw [this]
   rfl
 have i0:HT hs h la hA.length 0 (zs.map fun z=>(List.replicate hs.length (0:Int),z.2)) [] (hA++[MO.lst []]):=by
  refine ⟨xA.trans xB,⟨?_,fun p hp=>?_,by rw [List.length_map]; exact lz,⟨gB,fun z hz=>by simp at hz⟩,fun z hz=>by simp at hz,List.Pairwise.nil,fun p hp=>?_,fun z hz=>by simp at hz,?_,fun p hp=>?_,fun z hz=>by simp at hz,by omega⟩,by simp,bA,xA.len,fun p hp=>?_⟩
  ·rw [List.map_map]; exact xB _ _ gA
  ·obtain ⟨z,hz,rfl⟩:=List.mem_map.mp hp
   exact xB _ _ (oz z hz).2
  ·obtain ⟨z,hz,rfl⟩:=List.mem_map.mp hp
   exact ⟨by simp,fun w=>by rw [zr w]; exact Int.le_refl _,fun w _=>by rw [zr w,tp w]; exact Int.le_refl _⟩
  ·rw [List.map_map]; exact ndz
  ·obtain ⟨z,hz,rfl⟩:=List.mem_map.mp hp
   have h1:=(oz z hz).1
   have h2:=lref z hz
   exact ⟨by show z.2≠la; omega,by show z.2≠hA.length; omega⟩
  ·obtain ⟨z,hz,rfl⟩:=List.mem_map.mp hp
   have h1:=(oz z hz).1
   show h.length<=z.2
   omega
 generalize (zs.map fun z=>(List.replicate hs.length (0:Int),z.2))=C0 at i0
 generalize hA++[MO.lst []]=hB at i0
 generalize hA.length=lr at i0
 refine now ?_
 rw [aO]
 refine qS (n:=ls) (xs:=cs.map PV.int) (h1:=hB) (fun q δ h'=>(∃ C R,HT hs h la lr q C R h')/\∃ x4 x5 x6 x7 x8 x9 x10 x11 x12,δ=[some (.ref ls),some (.ref lh),some (.ref la),some (.ref lr),x4,x5,x6,x7,x8,x9,x10,x11,x12]) (by simp) (i0.x _ _ gs) ⟨⟨_,_,i0⟩,_,_,_,_,_,_,_,_,_,rfl⟩ ?_ ?_ ?_
 ·rintro q δ h' _ ⟨⟨C,R,t⟩,_⟩
  exact t.x _ _ gs
 ·rintro q y δ h' hy ⟨⟨C,R,t⟩,x4,x5,x6,x7,x8,x9,x10,x11,x12,rfl⟩
  have hq:=(List.getElem?_eq_some_iff.mp hy).1
  rw [List.length_map] at hq
  rw [List.getElem?_map] at hy
  obtain ⟨c,hc,rfl⟩:=Option.map_eq_some_iff.mp hy
  exact ⟨_,rfl,IT nd h0 h6 t (by omega) gh c _ _ _ _ _ _ _ _ _ _ fun C' R' h2 y5 y6 y7 y8 y9 y10 y11 y12 z=>⟨⟨C',R',z⟩,_,_,_,_,_,_,_,_,_,rfl⟩⟩
 ·rintro δ h' ⟨⟨C,R,t⟩,x4,x5,x6,x7,x8,x9,x10,x11,x12,rfl⟩
  refine now ?_
  simp
  exact k C R la lr h' t.x t.i (by have:=t.l; rw [List.length_map] at this; omega)
theorem FY {hs:List Str} {R:List Row} (lR:R.length<=40) (ok:∀ z∈R,lQ hs z) {c:List Int} (lc:c.length=hs.length) {lr lh l:Nat} {h:PH} (ra:RAt h lr R) (gh:h[lh]?=some (.lst (hs.map PV.str))) (gc:h[l]?=some (.lst (c.map PV.int))) (Q:PV->PH->Prop) (k:∀ T n h',Ext h h'->T.Sublist R->RAt h' n T->Q (.ref n) h'):(lM [.ref lr,.ref lh,.ref l] h).W Q:=by
 refine jR ?_
 unfold xR
 rw [aO]
 simp
 have x0:Ext h (h++[MO.lst []]):=Ext.app _ _
 have g0:(h++[MO.lst []])[h.length]?=some (.lst (([]:List Row).map rwV)):=aL
 generalize h++[MO.lst []]=hA at x0 g0
 refine now ?_
 rw [aO]
 refine qS (n:=lr) (xs:=R.map rwV) (h1:=hA) (fun q δ h'=>Ext h h'/\(∃ T,T.Sublist (R.take q)/\h'[h.length]?=some (.lst (T.map rwV)))/\∃ x4 x5,δ=[some (.ref lr),some (.ref lh),some (.ref l),some (.ref h.length),x4,x5]) (by simp) (x0 _ _ ra.1) ⟨x0,⟨[],by simp,g0⟩,_,_,rfl⟩ (fun q δ h' _ i=>i.1 _ _ ra.1) ?_ ?_
 ·rintro q y δ h' hy ⟨x1,⟨T,sub,g1⟩,x4,x5,rfl⟩
  rw [List.getElem?_map] at hy
  obtain ⟨z,hz,rfl⟩:=Option.map_eq_some_iff.mp hy
  have hzm:=List.mem_of_getElem? hz
  refine ⟨_,rfl,?_⟩
  have tk:R.take (q+1)=R.take q++[z]:=by rw [List.take_add_one,hz]; rfl
  have lT:T.length<=40:=by
   have:=sub.length_le
   rw [List.length_take] at this
   omega
  unfold uW
  rw [aO]
  have r0:vIx (rwV z) (.int 0) h'=.ok (deV z.d) h':=by unfold rwV; simp
  simp [r0,de0]
  refine now ?_
  rw [hW]
  obtain ⟨w,c0,hw,_,_,_,en,_⟩:=(ok z hzm).ex
  have hm:z.d.nm.1∈hs:=by
   rw [en]
   show hs.getD w "" ∈ hs
   have:hs.getD w "" = hs[w]:=by simp [hw]
   rw [this]
   exact List.getElem_mem hw
  have ghh:=x1 _ _ gh
  have vi:=Du ghh hm
  have hi:=List.idxOf_lt_length_iff.mpr hm
  generalize hs.idxOf z.d.nm.1=j at vi hi
  obtain ⟨cv,ec⟩:∃ cv,c[j]?=some cv:=⟨c[j]'(by omega),List.getElem?_eq_getElem (by omega)⟩
  have vc:vIx (.ref l) (.int (j:Int)) h'=.ok (.int cv) h':=by
   rw [bY (x1 _ _ gc),show atI (c.map PV.int) (j:Int)=some (.int cv) from cO (by rw [List.getElem?_map,ec]; rfl)]
   rfl
  by_cases e:z.d.nm.2<=cv
  ·have ap:=gI (p:=rwV z) g1 (by rw [List.length_map]; omega)
   simp [pv1,pv0,jC ghh,vi,vc,e,jC g1,ap]
   refine ⟨x1.setN (Nat.le_refl _),T++[z],?_,by rw [gJ g1,List.map_append]; rfl⟩
   rw [tk]
   exact sub.append (List.Sublist.refl _)
  ·simp [pv1,pv0,jC ghh,vi,vc,e]
   refine ⟨x1,T,?_,g1⟩
   rw [tk]
   exact sub.trans (List.sublist_append_left _ _)
 ·rintro δ h' ⟨x1,⟨T,sub,g1⟩,x4,x5,rfl⟩
  rw [List.length_map,List.take_length] at sub
  refine now ?_
  simp
  exact k T _ h' x1 sub ⟨g1,fun z hz=>x1 _ _ (ra.2 z (sub.subset hz))⟩
theorem main (ns:List Int) (hl:ns.length<=63):∃ h,FG [.fl (ns.map PV.int)] []=.ok (.bl true) h:=by
 have w:(FG [.fl (ns.map PV.int)] []).W fun p _=>p=.bl true:=by
  refine jR ?_
  unfold FF
  rw [aO]
  simp
  refine now ?_
  rw [aO,hW]
  have rest:∀ c:Int,Lt (aV (bQ 2 (bP 1 jD (aB (mV 1) aI)))
 (aV (F5 (bP 2 dY (aB (mSl (mV 0) (mP (mC (.int 1))) (mP (mC (.int 41)))) (aB (mV 2) aI))) (gTp 2 (gCn (gN 3) (gCn (gN 4) gNl))))
 (aV (jQ (hU (aB (mCB eQ (aB (mV 2) aI)) aI)) (gN 5) xT)
 (cK (oB (bP 3 gK (aB (mV 2) (aB (mV 3) (aB (aD kE (mV 1) (mC (.int 11))) aI)))) (oB (aD vEq (bP 2 eV (aB (aD vAt (mV 2) (mC (.int 0))) (aB (kG aI) aI))) (eP aI)) (aD vEq (bP 2 eU (aB (mV 2) (aB (kG aI) aI))) (mC (.int 0))))))))) { nx:=fun _ _=>False,rt:=fun p _=>p=.bl true } [some (.fl (ns.map PV.int)),some (.int c),none,none,none,none] []:=fun c=>by
   refine now ?_
   rw [aO]
   simp
   refine FX c [] _ fun hs lh h1 x1 b1 hn nd gh=>?_
   have h0:hs≠[]:=fun z=>by rw [z] at hn; simp at hn
   refine now ?_
   rw [aO]
   simp
   have ec:∃ cs:List Int,cs.length<=40/\fE (ns.map PV.int) (some 1) (some 41)=cs.map PV.int:=by
    refine ⟨fE ns (some 1) (some 41),?_,by rw [Ip]⟩
    unfold fE
    rw [List.length_take]
    have e1:HT.sIx ns.length 0 (some (1:Int))=min 1 ns.length:=rfl
    have e2:HT.sIx ns.length ns.length (some (41:Int))=min 41 ns.length:=rfl
    rw [e1,e2]
    omega
   obtain ⟨cs,lcs,ecs⟩:=ec
   rw [ecs]
   have x2:Ext h1 (h1++[MO.lst (cs.map PV.int)]):=Ext.app _ _
   have g2:(h1++[MO.lst (cs.map PV.int)])[h1.length]?=some (.lst (cs.map PV.int)):=aL
   generalize h1++[MO.lst (cs.map PV.int)]=h2 at x2 g2
   refine Bg nd h0 hn.2 lcs g2 (x2 _ _ gh) _ fun C R la lr h3 x3 hi lR=>?_
   simp
   have gh3:=x3 _ _ (x2 _ _ gh)
   refine now ?_
   rw [aO]
   have hlv:=fJ gh3
   rw [List.length_map] at hlv
   refine Fe (j:=(hs.length:Int)) (fun q δ h'=>Ext h3 h'/\∃ x5,δ=[some (.fl (ns.map PV.int)),some (.int c),some (.ref lh),some (.ref lr),some (.ref la),x5]) (by simp [hlv]) (by omega) ⟨Ext.refl _,_,rfl⟩ ?_ ?_
   ·rintro q δ h' hq ⟨y1,x5,rfl⟩
    have hq':q < hs.length:=by omega
    have i':=hi.ext y1
    obtain ⟨eC,mC,gC,cC⟩:=i'.at hq'
    have va:vIx (.ref la) (.int (q:Int)) h'=.ok (.ref (bJ C q)) h':=by
     rw [bY i'.ga,show atI (C.map fun p=>PV.ref p.2) (q:Int)=some (.ref (bJ C q)) from cO (by rw [List.getElem?_map,eC]; rfl)]
     rfl
    unfold xT
    rw [hW]
    simp [va]
    refine FY lR i'.ok cC.len i'.ra (y1 _ _ gh3) gC _ fun T n h4 x4 sub ra=>?_
    try simp (disch:=omega)
    refine Aa nd h0 hn.2 (i'.inc.sublist sub) (fun z hz=>i'.ok z (sub.subset hz)) (by have:=sub.length_le; omega) _ (x4 _ _ (y1 _ _ gh3)) ra _ fun h5 x5=>?_
    simp
    exact (y1.trans x4).trans x5
   ·rintro δ h' ⟨y1,x5,rfl⟩
    have i':=hi.ext y1
    refine now ?_
    simp (disch:=omega)
    refine Aa nd h0 hn.2 i'.inc i'.ok (by omega) _ (y1 _ _ gh3) i'.ra _ fun h5 x5=>?_
    have gh5:=x5 _ _ (y1 _ _ gh3)
    have v0:vIx (.ref lh) (.int 0) h5=.ok (.str (hs.getD 0 "")) h5:=by
     rw [bY gh5,show atI (hs.map PV.str) 0=some (.str (hs.getD 0 "")) from cO (i:=0) (by rw [List.getElem?_map]; simp [show 0 < hs.length by omega])]
     rfl
    generalize hs.getD 0 "" = hd at v0
    simp [v0]
    have x6:Ext h5 (h5++[MO.lst []]):=Ext.app _ _
    have g6:(h5++[MO.lst []])[h5.length]?=some (.lst (([]:List De).map deV)):=aL
    generalize h5++[MO.lst []]=h6 at x6 g6
    refine A8 nd hn.2 (R:=[]) List.Pairwise.nil (fun z hz=>by simp at hz) (T:=[]) (by simp) (fun d=>by simp) hd g6 _ fun v h7 x7 du=>?_
    have du:v=.tup []:=du
    subst du
    have ve:=Fg (x:=.tup []) rfl h7
    simp [ve]
    have x8:Ext h7 (h7++[MO.lst []]):=Ext.app _ _
    have g8:(h7++[MO.lst []])[h7.length]?=some (.lst (([]:List De).map deV)):=aL
    generalize h7++[MO.lst []]=h8 at x8 g8
    refine A9 h0 hn.2 (T:=[]) (by simp) (fun d hd=>by simp at hd) (x8 _ _ (x7 _ _ (x6 _ _ gh5))) g8 _ fun h9 x9=>?_
    have mz:iN (hs.map fun x=>stV (maxD ((([]:List De).filter fun d=>acB d.ac).filter fun d=>decide (d.nm.1=x))))=0:=by
     obtain ⟨m1,_⟩:=lJ (ns:=hs.map fun x=>stV (maxD ((([]:List De).filter fun d=>acB d.ac).filter fun d=>decide (d.nm.1=x)))) (by simpa using h0)
     obtain ⟨y,_,ey⟩:=List.mem_map.mp m1
     rw [<- ey]
     rfl
    rw [mz]
    simp
  by_cases e:0 < ns.length
  ·obtain ⟨c,hc⟩:∃ c,atI (ns.map PV.int) 0=some (.int c):=⟨ns[0],cO (i:=0) (by rw [List.getElem?_map,List.getElem?_eq_getElem e]; rfl)⟩
   simp [e,hc]
   exact rest c
  ·simp [e]
   exact rest 0
 obtain ⟨p,h,e,rfl⟩:=KS w
 exact ⟨h,e⟩
end K76
set_option Elab.async false
set_option linter.all false
set_option maxRecDepth 100000
set_option maxHeartbeats 4000000
namespace K76
open PySem L2
def top (i:Nat):Stmt:=PySem.Challenge.pw_copymeet_k76_known_and_bound.main.body.getD i (.Pass ⟨0,0,0,0⟩)
abbrev bsL:List Str:=["range","len","sorted","tuple","list","max","sum","min","dict","isinstance","bool","int"]
abbrev cC (w:World) (K:PySem.W.Frag) (cl:Str->Option Addr):MC:=⟨K,cl,bsL,fun _ _ _=>False,w⟩
abbrev gL:Stmt:=top 11
theorem fP:bB ["_law_cell","_law_size","_law_at","_law_found","_law_k","_law_letter"] ["_law_cell"] (aE gL):=⟨rfl,rfl,rfl,by decide +kernel,rfl,by decide +kernel,by decide +kernel⟩
abbrev iV:Stmt:=top 12
theorem IV:bB ["_law_hands_here","_law_counts"] ["_law_hands_here","_law_counts"] (aE iV):=⟨rfl,rfl,rfl,by decide +kernel,rfl,by decide +kernel,by decide +kernel⟩
abbrev vE:List Str:=["_law_k","_law_hands_here","_law_counts"]
theorem Bh:(vE).Nodup:=by decide +kernel
abbrev gM:Stmt:=top 10
theorem Ab:bB ["_law_cell","_law_k","_law_number"] ["_law_cell","_law_k"] (aE gM):=⟨rfl,rfl,rfl,by decide +kernel,rfl,by decide +kernel,by decide +kernel⟩
abbrev rQ:Stmt:=top 13
theorem Bi:bB ["_law_way","_law_many","_law_cell","_law_number","_law_first"] ["_law_way","_law_many","_law_cell"] (aE rQ):=⟨rfl,rfl,rfl,by decide +kernel,rfl,by decide +kernel,by decide +kernel⟩
abbrev dA:Stmt:=top 14
theorem aY:bB ["_law_script","_law_hands_here","_law_all_counts","_law_rows","_law_cell","_law_who","_law_counts","_law_way","_law_name","_law_deed","_law_other","_law_far","_law_heard"] ["_law_script","_law_hands_here"] (aE dA):=⟨rfl,rfl,rfl,by decide +kernel,rfl,by decide +kernel,by decide +kernel⟩
abbrev lU:List Str:=["_law_hand","_law_hands_here"]
theorem sR:(lU).Nodup:=by decide +kernel
abbrev lV:List Str:=["_law_hand"]
theorem sS:(lV).Nodup:=by decide +kernel
abbrev lW:List Str:=["_law_row","_law_hands_here","_law_other"]
theorem sT:(lW).Nodup:=by decide +kernel
abbrev lX:List Str:=["_law_k","_law_counts","_law_far"]
theorem sU:(lX).Nodup:=by decide +kernel
abbrev eM:Stmt:=top 16
theorem vF:bB ["_law_deeds","_law_cell","_law_at"] ["_law_deeds","_law_cell"] (aE eM):=⟨rfl,rfl,rfl,by decide +kernel,rfl,by decide +kernel,by decide +kernel⟩
abbrev cD:Stmt:=top 5
theorem xW:bB ["deed"] ["deed"] (aE cD):=⟨rfl,rfl,rfl,by decide +kernel,rfl,by decide +kernel,by decide +kernel⟩
abbrev cN:Stmt:=top 6
theorem Bj:bB ["hand","deeds"] ["hand","deeds"] (aE cN):=⟨rfl,rfl,rfl,by decide +kernel,rfl,by decide +kernel,by decide +kernel⟩
abbrev lY:List Str:=["deed","hand"]
theorem sV:(lY).Nodup:=by decide +kernel
abbrev gO:Stmt:=top 3
theorem FZ:bB ["deed"] ["deed"] (aE gO):=⟨rfl,rfl,rfl,by decide +kernel,rfl,by decide +kernel,by decide +kernel⟩
abbrev rR:List Str:=["pair"]
theorem Ad:(rR).Nodup:=by decide +kernel
abbrev eW:Stmt:=top 8
theorem rS:bB ["hands","deeds","settles","lasts"] ["hands","deeds"] (aE eW):=⟨rfl,rfl,rfl,by decide +kernel,rfl,by decide +kernel,by decide +kernel⟩
abbrev rT:List Str:=["deed"]
theorem Ae:(rT).Nodup:=by decide +kernel
abbrev rV:List Str:=["hand","settles"]
theorem Af:(rV).Nodup:=by decide +kernel
abbrev rW:List Str:=["deed"]
theorem Ag:(rW).Nodup:=by decide +kernel
abbrev eN:Stmt:=top 1
theorem jF:bB ["one","other","numbers","hand","n"] ["one","other"] (aE eN):=⟨rfl,rfl,rfl,by decide +kernel,rfl,by decide +kernel,by decide +kernel⟩
abbrev dB:Stmt:=top 2
theorem Bk:bB ["seen","name"] ["seen","name"] (aE dB):=⟨rfl,rfl,rfl,by decide +kernel,rfl,by decide +kernel,by decide +kernel⟩
abbrev eX:Stmt:=top 7
theorem Ah:bB ["hand","deeds","last"] ["hand","deeds"] (aE eX):=⟨rfl,rfl,rfl,by decide +kernel,rfl,by decide +kernel,by decide +kernel⟩
abbrev dC:Stmt:=top 17
theorem gP:bB ["_law_hands_here","_law_rows","_law_stamps","_law_hand","_law_mine"] ["_law_hands_here","_law_rows"] (aE dC):=⟨rfl,rfl,rfl,by decide +kernel,rfl,by decide +kernel,by decide +kernel⟩
abbrev lZ:List Str:=["_law_deed","_law_counts","_law_hand"]
theorem jX:(lZ).Nodup:=by decide +kernel
abbrev mB:List Str:=["_law_other","_law_n"]
theorem jY:(mB).Nodup:=by decide +kernel
abbrev gQ:Stmt:=top 18
theorem cJ:bB ["_law_hands_here","_law_rows","_law_cell","_law_deeds","_law_handed","_law_hand","_law_due","_law_deed","_law_counts","_law_found"] ["_law_hands_here","_law_rows","_law_cell"] (aE gQ):=⟨rfl,rfl,rfl,by decide +kernel,rfl,by decide +kernel,by decide +kernel⟩
abbrev rX:List Str:=["_law_deed","_law_counts"]
theorem oO:(rX).Nodup:=by decide +kernel
abbrev gU:Stmt:=top 15
theorem mD:bB ["_law_rows","_law_hands_here","_law_counts","_law_found","_law_row","_law_name"] ["_law_rows","_law_hands_here","_law_counts"] (aE gU):=⟨rfl,rfl,rfl,by decide +kernel,rfl,by decide +kernel,by decide +kernel⟩
abbrev mE:Stmt:=top 19
theorem kL:bB ["_law_script","_law_cell","_law_hands_here","_law_rows","_law_all_counts","_law_k"] ["_law_script"] (aE mE):=⟨rfl,rfl,rfl,by decide +kernel,rfl,by decide +kernel,by decide +kernel⟩
section
variable {P:Program} {w:World} {K:PySem.W.Frag} {mg:Str->Option Value} {base:Heap} {cl:Str->Option Addr}
theorem G0 {f:Addr} {fd:FuncData} (hbn:∀ x∈bsL,mg x=none) (F:Fun K "_law_hands" "_law_hands" gL f fd):aQ P w K mg base CX0 1 f fd ["_law_cell"] (spM (cC w K cl) 1 jD):=
 dO (C:=cC w K cl) (k:=0) (N:=["_law_cell","_law_size","_law_at","_law_found","_law_k","_law_letter"]) (body:=xJ) (fun _ _ _ h=>h) hbn F fP fun cdv A outer s H E=>
 (aF (bI (i:=1) fP.nd (aJ bS aG (aJ dW (aA 0) aG)))
 (aF (bI (i:=2) fP.nd (aJ dW (aJ hJ (aA 0) aG) (aA 1)))
 (aF (bI (i:=3) fP.nd (iI aH))
 (aF (oE (wJ (aC (aJ bS aG (aJ dW (aJ hJ (aA 0) aG) aG)) aH) (hb:=(.head _))) (aW fP.nd)
  (aF (bI (i:=5) fP.nd (bN lD (aJ dW (aJ bS (aJ hJ (aA 0) aG) (aJ C6 (aA 4) (aJ bS aG (aJ dW (aJ hJ (aA 0) aG) aG)))) aG)))
  (aN (Ca (F8 PySem.F.plainAttrs_list PySem.F.slot_list_append PySem.F.type_list_append lE (aA 3) (aC (aJ bS (aJ bS (aJ JE lD (aA 2)) (aA 5)) (aJ JE lD (aJ C5 (aJ C5 (aA 1) aG) (aA 2)))) aH))))))
 (aN (bX (aA 3)))))))
theorem IW {f:Addr} {fd:FuncData} (hbn:∀ x∈bsL,mg x=none) (F:Fun K "_law_seen" "_law_seen" iV f fd):aQ P w K mg base CX0 1 f fd ["_law_hands_here","_law_counts"] (spM (cC w K cl) 2 iO):=
 dO (C:=cC w K cl) (k:=0) (N:=["_law_hands_here","_law_counts"]) (body:=Bc) (fun _ _ _ h=>h) hbn F IV fun cdv A outer s H E=>
 (aN (bX (fG C9 PyProof.Rows.Boot.«tuple» (aC (aX zR PyProof.Rows.Boot.«sorted» (aC (gG (js:=[none,some 0,some 1]) (N:=vE) rfl rfl (by rfl) (wJ (aC (aX jV PyProof.Rows.Boot.«len» (aC (aA 0) aH) (hb:=(.tail _ (.head _)))) aH) (hb:=(.head _))) (fun _ _ _ _=>(aW Bh)) (fun _ _ _ _=>(qP (cM KG (bN (aA 2) (aA 0)) aG))) (fun _ _ _ _=>(fF (aC (bN (aA 1) (aA 0)) (aC (bN (aA 2) (aA 0)) aH))))) aH) (hb:=(.tail _ (.tail _ (.head _))))) aH) (hb:=(.tail _ (.tail _ (.tail _ (.head _))))))))
theorem G1 {f:Addr} {fd:FuncData} (hbn:∀ x∈bsL,mg x=none) (F:Fun K "_law_mixed" "_law_mixed" gM f fd):aQ P w K mg base CX0 1 f fd ["_law_cell","_law_k"] (spM (cC w K cl) 2 jE):=
 dO (C:=cC w K cl) (k:=0) (N:=["_law_cell","_law_k","_law_number"]) (body:=xK) (fun _ _ _ h=>h) hbn F Ab fun cdv A outer s H E=>
 (aF (bI (i:=2) Ab.nd (aJ dW (aJ C6 (aJ bS (aJ bS (aA 0) (aJ C6 aG (aA 1))) aG) aG) aG))
 (aN (bX (aJ dW (aJ C6 (aA 2) (aJ bS (aJ hJ (aA 2) aG) aG)) aG))))
theorem Lk {f:Addr} {fd:FuncData} (hbn:∀ x∈bsL,mg x=none) (F:Fun K "_law_act" "_law_act" rQ f fd) {pJ:Addr} {Ai:FuncData} (pK:Def K mg "_law_mixed" gM pJ Ai ["_law_cell","_law_k"]) (xX:aQ P w K mg base CX0 1 pJ Ai ["_law_cell","_law_k"] (spM (cC w K cl) 2 jE)):aQ P w K mg base CX0 2 f fd ["_law_way","_law_many","_law_cell"] (spM (cC w K cl) 3 uU):=
 dO (C:=cC w K cl) (k:=1) (N:=["_law_way","_law_many","_law_cell","_law_number","_law_first"]) (body:=FD) (fun _ _ _ h=>h) hbn F Bi fun cdv A outer s H E=>
 (aF (bI (i:=3) Bi.nd (s_call pK xX (aC (aA 2) (aC aG aH))))
 (aF (oX (cM B4 (aA 0) aG)
  (aN (bX (fF (aC lD aH))))
  eI)
 (aF (oX (SW.t (w_and (cM nD (aA 0) aG) (B1 (cM KG (aA 1) aG))))
  (aF (bI (i:=4) Bi.nd (aJ bS aG (aJ dW (aA 3) (aA 1))))
  (aN (bX (fF (aC lD (aC (aA 4) (aC (aJ bS (aA 4) (aJ dW (aJ hJ (aA 3) aG) (aJ C5 (aJ bS (aA 1) aG) (aA 4)))) aH)))))))
  eI)
 (aN (bX (fF (aC lD (aC (fF (aC lD (aC aG aH))) (aC (aJ dW (aA 2) (aJ MA aG aG)) aH)))))))))
theorem Bl {f:Addr} {fd:FuncData} (hbn:∀ x∈bsL,mg x=none) (F:Fun K "_law_history" "_law_history" dA f fd) {kM:Addr} {mF:FuncData} (kN:Def K mg "_law_seen" iV kM mF ["_law_hands_here","_law_counts"]) (nR:aQ P w K mg base CX0 1 kM mF ["_law_hands_here","_law_counts"] (spM (cC w K cl) 2 iO)) {Cy:Addr} {G2:FuncData} (Cz:Def K mg "_law_act" rQ Cy G2 ["_law_way","_law_many","_law_cell"]) (G3:aQ P w K mg base CX0 2 Cy G2 ["_law_way","_law_many","_law_cell"] (spM (cC w K cl) 3 uU)):aQ P w K mg base CX0 3 f fd ["_law_script","_law_hands_here"] (spM (cC w K cl) 2 dY):=
 dO (C:=cC w K cl) (k:=2) (N:=["_law_script","_law_hands_here","_law_all_counts","_law_rows","_law_cell","_law_who","_law_counts","_law_way","_law_name","_law_deed","_law_other","_law_far","_law_heard"]) (body:=nK) (fun _ _ _ h=>h) hbn F aY fun cdv A outer s H E=>
 (aF (jB (i:=2) aY.nd rfl rfl (js:=[none,some 1]) (N:=lU) rfl rfl (by rfl) (dM (aA 1)) (fun _ _ _ _=>(aW sR)) (fun _ _ _ _=>iJ) (fun _ _ _ _=>(gG (js:=[none]) (N:=lV) rfl rfl (by rfl) (dM (aA 1)) (fun _ _ _ _=>(aW sS)) (fun _ _ _ _=>iJ) (fun _ _ _ _=>aG))))
 (aF (bI (i:=3) aY.nd (iI aH))
 (aF (oE (dM (aA 0)) (aW aY.nd)
  (aF (bI (i:=5) aY.nd (aJ dW (aA 4) (aX jV PyProof.Rows.Boot.«len» (aC (aA 1) aH) (hb:=(.tail _ (.head _))))))
  (aF (bI (i:=6) aY.nd (bN (aA 2) (aA 5)))
  (aF (bI (i:=7) aY.nd (aJ dW (aJ hJ (aA 4) (aX jV PyProof.Rows.Boot.«len» (aC (aA 1) aH) (hb:=(.tail _ (.head _))))) aG))
  (aN (oX (cM B4 (aA 7) aG)
   (aF (bI (i:=8) aY.nd (fF (aC (bN (aA 1) (aA 5)) (aC (aJ bS (bN (aA 6) (aA 5)) aG) aH))))
   (aF (bI (i:=9) aY.nd (fF (aC (aA 8) (aC (s_call kN nR (aC (aA 1) (aC (aA 6) aH))) (aC (s_call Cz G3 (aC (aA 7) (aC (bN (aA 6) (aA 5)) (aC (aJ hJ (aA 4) aG) aH)))) aH)))))
   (aF (B' (aJ bS (bN (aA 6) (aA 5)) aG) (aA 6) (aA 5))
   (aN (Ca (F8 PySem.F.plainAttrs_list PySem.F.slot_list_append PySem.F.type_list_append lE (aA 3) (aC (fF (aC (aA 9) (aC (fG B2 PyProof.Rows.Boot.«list» (aC (aA 6) aH) (hb:=(.tail _ (.tail _ (.tail _ (.tail _ (.head _))))))) aH))) aH)))))))
   (aF (bI (i:=10) aY.nd (aJ dW (aJ bS (aJ bS (aA 5) aG) (aJ dW (aJ hJ (aA 4) aG) (aX Ba PyProof.Rows.Boot.«max» (aC aG (aC (aJ C5 (aX jV PyProof.Rows.Boot.«len» (aC (aA 1) aH) (hb:=(.tail _ (.head _)))) aG) aH)) (hb:=(.tail _ (.tail _ (.tail _ (.tail _ (.tail _ (.head _)))))))))) (aX jV PyProof.Rows.Boot.«len» (aC (aA 1) aH) (hb:=(.tail _ (.head _))))))
   (aF (bI (i:=11) aY.nd (bN (aA 2) (aA 10)))
   (aF (jB (i:=12) aY.nd rfl rfl (js:=[none,some 1,some 10]) (N:=lW) rfl rfl (by rfl) (dM (aA 3)) (fun _ _ _ _=>(aW sT)) (fun _ _ _ _=>(qP (cM nD (bN (bN (bN (aA 0) aG) aG) aG) (bN (aA 1) (aA 2))))) (fun _ _ _ _=>(aA 0)))
   (aF (oX (SW.t (w_and (cM B4 (aA 7) aG) (B1 (cM Lc (aA 12) (iI aH)))))
    (aN (bI (i:=11) aY.nd (bN (bN (aA 12) (aJ dW (aJ hJ (aA 4) aG) (aX jV PyProof.Rows.Boot.«len» (aC (aA 12) aH) (hb:=(.tail _ (.head _)))))) aG)))
    eI)
   (aN (B' (gG (js:=[none,some 6,some 11]) (N:=lX) rfl rfl (by rfl) (wJ (aC (aX jV PyProof.Rows.Boot.«len» (aC (aA 1) aH) (hb:=(.tail _ (.head _)))) aH) (hb:=(.head _))) (fun _ _ _ _=>(aW sU)) (fun _ _ _ _=>iJ) (fun _ _ _ _=>(aX Ba PyProof.Rows.Boot.«max» (aC (bN (aA 1) (aA 0)) (aC (bN (aA 2) (aA 0)) aH)) (hb:=(.tail _ (.tail _ (.tail _ (.tail _ (.tail _ (.head _)))))))))) (aA 2) (aA 5)))))))))))))
 (aN (bX (fF (aC (aA 3) (aC (aA 2) aH))))))))
theorem DE {f:Addr} {fd:FuncData} (hbn:∀ x∈bsL,mg x=none) (F:Fun K "_law_turned" "_law_turned" eM f fd):aQ P w K mg base CX0 1 f fd ["_law_deeds","_law_cell"] (spM (cC w K cl) 2 iQ):=
 dO (C:=cC w K cl) (k:=0) (N:=["_law_deeds","_law_cell","_law_at"]) (body:=rF) (fun _ _ _ h=>h) hbn F vF fun cdv A outer s H E=>
 (aF (oX (cM nD (aA 0) (iI aH))
  (aN (bX (iI aH)))
  eI)
 (aF (bI (i:=2) vF.nd (aJ dW (aA 1) (aX jV PyProof.Rows.Boot.«len» (aC (aA 0) aH) (hb:=(.tail _ (.head _))))))
 (aN (bX (aJ bS (aJ bS (IA (KI (aA 0) (wI (aA 2)) F4) (My JB aG)) (KI (aA 0) F4 (wI (aA 2)))) (iI (aC (bN (aA 0) aG) aH)))))))
theorem xY {f:Addr} {fd:FuncData} (hbn:∀ x∈bsL,mg x=none) (F:Fun K "number_of" "number_of" cD f fd):aQ P w K mg base CX0 1 f fd ["deed"] (spM (cC w K cl) 1 bW):=
 dO (C:=cC w K cl) (k:=0) (N:=["deed"]) (body:=iR) (fun _ _ _ h=>h) hbn F xW fun cdv A outer s H E=>
 (aN (bX (bN (bN (aA 0) aG) aG)))
theorem Bm {f:Addr} {fd:FuncData} (hbn:∀ x∈bsL,mg x=none) (F:Fun K "last_of" "last_of" cN f fd) {eY:Addr} {mG:FuncData} (eZ:Def K mg "number_of" cD eY mG ["deed"]) (iW:aQ P w K mg base CX0 1 eY mG ["deed"] (spM (cC w K cl) 1 bW)):aQ P w K mg base CX0 4 f fd ["hand","deeds"] (spM (cC w K cl) 2 cX):=
 dO (C:=cC w K cl) (k:=3) (N:=["hand","deeds"]) (body:=nL) (fun _ _ _ h=>h) hbn F Bj fun cdv A outer s H E=>
 (aN (bX (Ld eZ iW (gG (js:=[none,some 0]) (N:=lY) rfl rfl (by rfl) (dM (aA 1)) (fun _ _ _ _=>(aW sV)) (fun _ _ _ _=>(qP (cM nD (bN (bN (aA 0) aG) aG) (aA 1)))) (fun _ _ _ _=>(aA 0))) (hb:=(.tail _ (.tail _ (.tail _ (.tail _ (.tail _ (.head _))))))))))
theorem G4 {f:Addr} {fd:FuncData} (hbn:∀ x∈bsL,mg x=none) (F:Fun K "stamp" "stamp" gO f fd):aQ P w K mg base CX0 1 f fd ["deed"] (spM (cC w K cl) 1 lL):=
 dO (C:=cC w K cl) (k:=0) (N:=["deed"]) (body:=xM) (fun _ _ _ h=>h) hbn F FZ fun cdv A outer s H E=>
 (aN (bX (aJ bS aG (aX JD PyProof.Rows.Boot.«sum» (aC (gG (js:=[none]) (N:=rR) rfl rfl (by rfl) (dM (bN (aA 0) aG)) (fun _ _ _ _=>(aW Ad)) (fun _ _ _ _=>iJ) (fun _ _ _ _=>(bN (aA 0) aG))) aH) (hb:=(.tail _ (.tail _ (.tail _ (.tail _ (.tail _ (.tail _ (.head _))))))))))))
theorem G5 {f:Addr} {fd:FuncData} (hbn:∀ x∈bsL,mg x=none) (F:Fun K "bound" "bound" eW f fd) {dE:Addr} {eO:FuncData} (dF:Def K mg "last_of" cN dE eO ["hand","deeds"]) (dZ:aQ P w K mg base CX0 4 dE eO ["hand","deeds"] (spM (cC w K cl) 2 cX)) {pL:Addr} {Aj:FuncData} (pM:Def K mg "stamp" gO pL Aj ["deed"]) (xZ:aQ P w K mg base CX0 1 pL Aj ["deed"] (spM (cC w K cl) 1 lL)):aQ P w K mg base CX0 5 f fd ["hands","deeds"] (spM (cC w K cl) 2 eU):=
 dO (C:=cC w K cl) (k:=4) (N:=["hands","deeds","settles","lasts"]) (body:=xO) (fun _ _ _ h=>h) hbn F rS fun cdv A outer s H E=>
 (aF (bI (i:=2) rS.nd (gG (js:=[none]) (N:=rT) rfl rfl (by rfl) (dM (aA 1)) (fun _ _ _ _=>(aW Ae)) (fun _ _ _ _=>(qP (cM nD (bN (bN (aA 0) aG) aG) lD))) (fun _ _ _ _=>(aA 0))))
 (aF (jB (i:=3) rS.nd rfl rfl (js:=[none,some 2]) (N:=rV) rfl rfl (by rfl) (dM (aA 0)) (fun _ _ _ _=>(aW Af)) (fun _ _ _ _=>iJ) (fun _ _ _ _=>(s_call dF dZ (aC (aA 0) (aC (aA 1) aH)))))
 (aN (bX (aX Fu PyProof.Rows.Boot.«min» (aC (gG (js:=[none]) (N:=rW) rfl rfl (by rfl) (dM (aA 3)) (fun _ _ _ _=>(aW Ag)) (fun _ _ _ _=>iJ) (fun _ _ _ _=>(C8 (cM MD (aA 0) Jv) aG (s_call pM xZ (aC (aA 0) aH))))) aH) (hb:=(.tail _ (.tail _ (.tail _ (.tail _ (.tail _ (.tail _ (.tail _ (.head _))))))))))))))
theorem DF {f:Addr} {fd:FuncData} (hbn:∀ x∈bsL,mg x=none) (F:Fun K "joined" "joined" eN f fd):aQ P w K mg base CX0 1 f fd ["one","other"] (spM (cC w K cl) 2 iS):=
 dO (C:=cC w K cl) (k:=0) (N:=["one","other","numbers","hand","n"]) (body:=rH) (fun _ _ _ h=>h) hbn F jF fun cdv A outer s H E=>
 (aF (bI (i:=2) jF.nd (fG IB PyProof.Rows.Boot.«dict» (aC (aA 0) aH) (hb:=(.tail _ (.tail _ (.tail _ (.tail _ (.tail _ (.tail _ (.tail _ (.tail _ (.head _))))))))))))
 (aF (oE (dM (aA 1)) (uB (dU (aW jF.nd) (dU (aW jF.nd) uA)))
  (aN (B' (aX Ba PyProof.Rows.Boot.«max» (aC (aA 4) (aC (OM PySem.F.plainAttrs_dict PySem.F.slot_dict_get PySem.F.type_dict_get N4 (aA 2) (aC (aA 3) (aC (aA 4) aH))) aH)) (hb:=(.tail _ (.tail _ (.tail _ (.tail _ (.tail _ (.head _)))))))) (aA 2) (aA 3))))
 (aN (bX (fG C9 PyProof.Rows.Boot.«tuple» (aC (aX zR PyProof.Rows.Boot.«sorted» (aC (N3 PySem.F.plainAttrs_dict PySem.F.slot_dict_items PySem.F.type_dict_items Ir (aA 2)) aH) (hb:=(.tail _ (.tail _ (.head _))))) aH) (hb:=(.tail _ (.tail _ (.tail _ (.head _))))))))))
theorem Bn {f:Addr} {fd:FuncData} (hbn:∀ x∈bsL,mg x=none) (F:Fun K "widened" "widened" dB f fd) {mH:Addr} {vG:FuncData} (mI:Def K mg "joined" eN mH vG ["one","other"]) (rY:aQ P w K mg base CX0 1 mH vG ["one","other"] (spM (cC w K cl) 2 iS)):aQ P w K mg base CX0 2 f fd ["seen","name"] (spM (cC w K cl) 2 fM):=
 dO (C:=cC w K cl) (k:=1) (N:=["seen","name"]) (body:=nM) (fun _ _ _ h=>h) hbn F Bk fun cdv A outer s H E=>
 (aN (bX (s_call mI rY (aC (aA 0) (aC (fF (aC (aA 1) aH)) aH)))))
theorem G6 {f:Addr} {fd:FuncData} (hbn:∀ x∈bsL,mg x=none) (F:Fun K "known" "known" eX f fd) {dE:Addr} {eO:FuncData} (dF:Def K mg "last_of" cN dE eO ["hand","deeds"]) (dZ:aQ P w K mg base CX0 4 dE eO ["hand","deeds"] (spM (cC w K cl) 2 cX)) {jG:Addr} {rZ:FuncData} (jH:Def K mg "widened" dB jG rZ ["seen","name"]) (nU:aQ P w K mg base CX0 2 jG rZ ["seen","name"] (spM (cC w K cl) 2 fM)):aQ P w K mg base CX0 5 f fd ["hand","deeds"] (spM (cC w K cl) 2 eV):=
 dO (C:=cC w K cl) (k:=4) (N:=["hand","deeds","last"]) (body:=xP) (fun _ _ _ h=>h) hbn F Ah fun cdv A outer s H E=>
 (aF (bI (i:=2) Ah.nd (s_call dF dZ (aC (aA 0) (aC (aA 1) aH))))
 (aN (bX (C8 (cM MD (aA 2) Jv) (fF aH) (s_call jH nU (aC (bN (aA 2) aG) (aC (bN (aA 2) aG) aH)))))))
theorem Bo {f:Addr} {fd:FuncData} (hbn:∀ x∈bsL,mg x=none) (F:Fun K "_law_bound" "_law_bound" dC f fd):aQ P w K mg base CX0 1 f fd ["_law_hands_here","_law_rows"] (spM (cC w K cl) 2 fN):=
 dO (C:=cC w K cl) (k:=0) (N:=["_law_hands_here","_law_rows","_law_stamps","_law_hand","_law_mine"]) (body:=nN) (fun _ _ _ h=>h) hbn F gP fun cdv A outer s H E=>
 (aF (bI (i:=2) gP.nd (iI aH))
 (aF (oE (dM (aA 0)) (aW gP.nd)
  (aF (jB (i:=4) gP.nd rfl rfl (js:=[none,none,some 3]) (N:=lZ) rfl rfl (by rfl) (dM (aA 1)) (fun _ _ _ _=>(uB (dU (aW jX) (dU (aW jX) uA)))) (fun _ _ _ _=>(qP (SW.t (w_and (cM nD (bN (bN (aA 0) aG) aG) (aA 2)) (B1 (cM nD (bN (bN (aA 0) aG) aG) lD)))))) (fun _ _ _ _=>(aA 0)))
  (aF (oX (cM nD (aA 4) (iI aH))
   (aN (bX aG))
   eI)
  (aN (Ca (F8 PySem.F.plainAttrs_list PySem.F.slot_list_append PySem.F.type_list_append lE (aA 2) (aC (aJ bS aG (aX JD PyProof.Rows.Boot.«sum» (aC (gG (js:=[none,none]) (N:=mB) rfl rfl (by rfl) (dM (bN (bN (aA 4) (My JB aG)) aG)) (fun _ _ _ _=>(uB (dU (aW jY) (dU (aW jY) uA)))) (fun _ _ _ _=>iJ) (fun _ _ _ _=>(aA 1))) aH) (hb:=(.tail _ (.tail _ (.tail _ (.tail _ (.tail _ (.tail _ (.head _)))))))))) aH)))))))
 (aN (bX (aX Fu PyProof.Rows.Boot.«min» (aC (aA 2) aH) (hb:=(.tail _ (.tail _ (.tail _ (.tail _ (.tail _ (.tail _ (.tail _ (.head _))))))))))))))
theorem G7 {f:Addr} {fd:FuncData} (hbn:∀ x∈bsL,mg x=none) (F:Fun K "_law_right" "_law_right" gQ f fd) {kM:Addr} {mF:FuncData} (kN:Def K mg "_law_seen" iV kM mF ["_law_hands_here","_law_counts"]) (nR:aQ P w K mg base CX0 1 kM mF ["_law_hands_here","_law_counts"] (spM (cC w K cl) 2 iO)) {mJ:Addr} {vH:FuncData} (mK:Def K mg "_law_turned" eM mJ vH ["_law_deeds","_law_cell"]) (sA:aQ P w K mg base CX0 1 mJ vH ["_law_deeds","_law_cell"] (spM (cC w K cl) 2 iQ)) {gW:Addr} {iX:FuncData} (gX:Def K mg "bound" eW gW iX ["hands","deeds"]) (jI:aQ P w K mg base CX0 5 gW iX ["hands","deeds"] (spM (cC w K cl) 2 eU)) {gY:Addr} {iY:FuncData} (gZ:Def K mg "known" eX gY iY ["hand","deeds"]) (jJ:aQ P w K mg base CX0 5 gY iY ["hand","deeds"] (spM (cC w K cl) 2 eV)) {jK:Addr} {sC:FuncData} (jL:Def K mg "_law_bound" dC jK sC ["_law_hands_here","_law_rows"]) (nV:aQ P w K mg base CX0 1 jK sC ["_law_hands_here","_law_rows"] (spM (cC w K cl) 2 fN)):aQ P w K mg base CX0 6 f fd ["_law_hands_here","_law_rows","_law_cell"] (spM (cC w K cl) 3 gK):=
 dO (C:=cC w K cl) (k:=5) (N:=["_law_hands_here","_law_rows","_law_cell","_law_deeds","_law_handed","_law_hand","_law_due","_law_deed","_law_counts","_law_found"]) (body:=xQ) (fun _ _ _ h=>h) hbn F cJ fun cdv A outer s H E=>
 (aF (bI (i:=3) cJ.nd (s_call mK sA (aC (gG (js:=[none,none]) (N:=rX) rfl rfl (by rfl) (dM (aA 1)) (fun _ _ _ _=>(uB (dU (aW oO) (dU (aW oO) uA)))) (fun _ _ _ _=>iJ) (fun _ _ _ _=>(aA 0))) (aC (aA 2) aH))))
 (aF (bI (i:=4) cJ.nd (fG B2 PyProof.Rows.Boot.«list» (aC (aA 3) aH) (hb:=(.tail _ (.tail _ (.tail _ (.tail _ (.head _))))))))
 (aF (oE (dM (aA 0)) (aW cJ.nd)
  (aF (bI (i:=6) cJ.nd (fF aH))
  (aF (oE (dM (aA 1)) (uB (dU (aW cJ.nd) (dU (aW cJ.nd) uA)))
   (aN (oX (cM nD (bN (bN (aA 7) aG) aG) (aA 5))
    (aN (bI (i:=6) cJ.nd (s_call kN nR (aC (aA 0) (aC (aA 8) aH)))))
    eI)))
  (aF (bI (i:=9) cJ.nd (s_call gZ jJ (aC (aA 5) (aC (aA 4) aH))))
  (aN (oX (SW.t (w_or (F1 (C7 (aX gH PyProof.Rows.Boot.«isinstance» (aC (aA 9) (aC (AY (n:="tuple") PyProof.Rows.Boot.«tuple» (hb:=(.tail _ (.tail _ (.tail _ (.head _)))))) aH)) (hb:=(.tail _ (.tail _ (.tail _ (.tail _ (.tail _ (.tail _ (.tail _ (.tail _ (.tail _ (.head _)))))))))))))) (Jy (cM MB (aA 9) (aA 6)))))
   (aN (bX KD))
   eI))))))
 (aF (bI (i:=9) cJ.nd (s_call gX jI (aC (fG B2 PyProof.Rows.Boot.«list» (aC (aA 0) aH) (hb:=(.tail _ (.tail _ (.tail _ (.tail _ (.head _))))))) (aC (aA 4) aH))))
 (aF (oX (SW.t (w_or (F1 (C7 (aX gH PyProof.Rows.Boot.«isinstance» (aC (aA 9) (aC (AY (n:="int") PyProof.Rows.Boot.«int» (hb:=(.tail _ (.tail _ (.tail _ (.tail _ (.tail _ (.tail _ (.tail _ (.tail _ (.tail _ (.tail _ (.tail _ (.head _)))))))))))))) aH)) (hb:=(.tail _ (.tail _ (.tail _ (.tail _ (.tail _ (.tail _ (.tail _ (.tail _ (.tail _ (.head _)))))))))))))) (Jy (C7 (aX gH PyProof.Rows.Boot.«isinstance» (aC (aA 9) (aC (AY (n:="bool") PyProof.Rows.Boot.«bool» (hb:=(.tail _ (.tail _ (.tail _ (.tail _ (.tail _ (.tail _ (.tail _ (.tail _ (.tail _ (.tail _ (.head _))))))))))))) aH)) (hb:=(.tail _ (.tail _ (.tail _ (.tail _ (.tail _ (.tail _ (.tail _ (.tail _ (.tail _ (.head _))))))))))))))))
  (aN (bX KD))
  eI)
 (aN (bX (F2 (C3 nD (aA 9) (s_call jL nV (aC (aA 0) (aC (aA 1) aH)))) (Jz (C3 nD (aA 4) (aA 3)))))))))))
theorem G8 {f:Addr} {fd:FuncData} (hbn:∀ x∈bsL,mg x=none) (F:Fun K "_law_taken" "_law_taken" gU f fd):aQ P w K mg base CX0 1 f fd ["_law_rows","_law_hands_here","_law_counts"] (spM (cC w K cl) 3 lM):=
 dO (C:=cC w K cl) (k:=0) (N:=["_law_rows","_law_hands_here","_law_counts","_law_found","_law_row","_law_name"]) (body:=xR) (fun _ _ _ h=>h) hbn F mD fun cdv A outer s H E=>
 (aF (bI (i:=3) mD.nd (iI aH))
 (aF (oE (dM (aA 0)) (aW mD.nd)
  (aF (bI (i:=5) mD.nd (bN (bN (aA 4) aG) aG))
  (aN (oX (cM Ou (bN (aA 5) aG) (bN (aA 2) (F8 PySem.F.plainAttrs_list PySem.F.slot_list_index PySem.F.type_list_index IF (aA 1) (aC (bN (aA 5) aG) aH))))
   (aN (Ca (F8 PySem.F.plainAttrs_list PySem.F.slot_list_append PySem.F.type_list_append lE (aA 3) (aC (aA 4) aH))))
   eI))))
 (aN (bX (aA 3)))))
theorem Ll {f:Addr} {fd:FuncData} (hbn:∀ x∈bsL,mg x=none) (F:Fun K "law" "law" mE f fd) {pN:Addr} {Ak:FuncData} (pO:Def K mg "_law_hands" gL pN Ak ["_law_cell"]) (yA:aQ P w K mg base CX0 1 pN Ak ["_law_cell"] (spM (cC w K cl) 1 jD)) {jM:Addr} {sD:FuncData} (jN:Def K mg "_law_history" dA jM sD ["_law_script","_law_hands_here"]) (nW:aQ P w K mg base CX0 3 jM sD ["_law_script","_law_hands_here"] (spM (cC w K cl) 2 dY)) {gW:Addr} {iX:FuncData} (gX:Def K mg "bound" eW gW iX ["hands","deeds"]) (jI:aQ P w K mg base CX0 5 gW iX ["hands","deeds"] (spM (cC w K cl) 2 eU)) {gY:Addr} {iY:FuncData} (gZ:Def K mg "known" eX gY iY ["hand","deeds"]) (jJ:aQ P w K mg base CX0 5 gY iY ["hand","deeds"] (spM (cC w K cl) 2 eV)) {pP:Addr} {Al:FuncData} (mL:Def K mg "_law_right" gQ pP Al ["_law_hands_here","_law_rows","_law_cell"]) (pQ:aQ P w K mg base CX0 6 pP Al ["_law_hands_here","_law_rows","_law_cell"] (spM (cC w K cl) 3 gK)) {pR:Addr} {Am:FuncData} (pT:Def K mg "_law_taken" gU pR Am ["_law_rows","_law_hands_here","_law_counts"]) (yB:aQ P w K mg base CX0 1 pR Am ["_law_rows","_law_hands_here","_law_counts"] (spM (cC w K cl) 3 lM)):aQ P w K mg base CX0 7 f fd ["_law_script"] (spM (cC w K cl) 1 FG):=
 dO (C:=cC w K cl) (k:=6) (N:=["_law_script","_law_cell","_law_hands_here","_law_rows","_law_all_counts","_law_k"]) (body:=FF) (fun _ _ _ h=>h) hbn F kL fun cdv A outer s H E=>
 (aF (bI (i:=1) kL.nd aG)
 (aF (oX (cM KG (aX jV PyProof.Rows.Boot.«len» (aC (aA 0) aH) (hb:=(.tail _ (.head _)))) aG)
  (aN (bI (i:=1) kL.nd (bN (aA 0) aG)))
  eI)
 (aF (bI (i:=2) kL.nd (s_call pO yA (aC (aA 1) aH)))
 (aF (MI (s_call jN nW (aC (KI (aA 0) (wI aG) (wI aG)) (aC (aA 2) aH))) (uB (dU (aW kL.nd) (dU (aW kL.nd) uA))))
 (aF (oE (wJ (aC (aX jV PyProof.Rows.Boot.«len» (aC (aA 2) aH) (hb:=(.tail _ (.head _)))) aH) (hb:=(.head _))) (aW kL.nd)
  (aN (oX (F1 (C7 (s_call mL pQ (aC (aA 2) (aC (s_call pT yB (aC (aA 3) (aC (aA 2) (aC (bN (aA 4) (aA 5)) aH)))) (aC (aJ bS (aJ hJ (aA 1) aG) (aA 5)) aH))))))
   (aN (bX KD))
   eI)))
 (aN (bX (F2 (s_call mL pQ (aC (aA 2) (aC (aA 3) (aC (aJ hJ (aA 1) aG) aH)))) (F2 (C3 nD (s_call gZ jJ (aC (bN (aA 2) aG) (aC (iI aH) aH))) (fF aH)) (Jz (C3 nD (s_call gX jI (aC (aA 2) (aC (iI aH) aH))) aG)))))))))))
end
def spL (K:PySem.W.Frag):Sp:=fun vs H Q _=>∃ (a:Addr) (ns:List Int),vs=[.ref a]/\EC H/\SqL K H a (ns.map V.int)/\ns.length<=63/\∀ H',Q (.bl true) H'
@[elab_as_elim] theorem Lm {P:List Value->Prop} (us:List Value) (hl:us.length=1) (h:∀ a0,P [a0]):P us:=by
 cases us with
 | nil=>cases hl
 | cons a0 us=>
  cases us with
  | nil=>exact h a0
  | cons b us=>
   simp only [List.length_cons] at hl
   omega
@[elab_as_elim] theorem sW {P:List Value->Prop} (us:List Value) (hl:us.length=2) (h:∀ a0 a1,P [a0,a1]):P us:=by
 cases us with
 | nil=>cases hl
 | cons a0 us=>
  cases us with
  | nil=>cases hl
  | cons a1 us=>
   cases us with
   | nil=>exact h a0 a1
   | cons b us=>
    simp only [List.length_cons] at hl
    omega
@[elab_as_elim] theorem Ln {P:List Value->Prop} (us:List Value) (hl:us.length=3) (h:∀ a0 a1 a2,P [a0,a1,a2]):P us:=by
 cases us with
 | nil=>cases hl
 | cons a0 us=>
  cases us with
  | nil=>cases hl
  | cons a1 us=>
   cases us with
   | nil=>cases hl
   | cons a2 us=>
    cases us with
    | nil=>exact h a0 a1 a2
    | cons b us=>
     simp only [List.length_cons] at hl
     omega
theorem all_mk {l:PySem.W.OpenLaw} {w:World} {K:PySem.W.Frag} {h:Heap} {mg:Str->Option Value} {fa mM sE mN An fQ iZ dR fR mO mQ jA fT mR fU mS mT G9:Addr} (X:K.In h) (G:h.Ns mainGlobals mg) (hfa:mg "law" = some (.ref fa)) (hbn:∀ x∈bsL,mg x=none)
  (pN:PySem.W.nsIn K mainGlobals "_law_hands" = some (some (.ref mM)))
  {Ga Gb DG Gc vI Gd:Value} {Ge Gf:Option Addr} {DH:Array (Option Value)}
  (IX:K.lookup mM=some ⟨Ga,Ge,.func (PySem.W.fnOf "_law_hands" "_law_hands" (aU gL) (aR gL) (aE gL) .none Gb DG Gc Gf vI Gd),DH⟩)
  (IY:PySem.W.codeIn K vI "_law_hands" = true)
  (IZ:PySem.W.keepIn K (.ref mM)=true)
  (kM:PySem.W.nsIn K mainGlobals "_law_seen" = some (some (.ref sE)))
  {J0 J1 Gg J2 Ao J3:Value} {J4 J5:Option Addr} {Gh:Array (Option Value)}
  (Lo:K.lookup sE=some ⟨J0,J4,.func (PySem.W.fnOf "_law_seen" "_law_seen" (aU iV) (aR iV) (aE iV) .none J1 Gg J2 J5 Ao J3),Gh⟩)
  (Lp:PySem.W.codeIn K Ao "_law_seen" = true)
  (Lq:PySem.W.keepIn K (.ref sE)=true)
  (pJ:PySem.W.nsIn K mainGlobals "_law_mixed" = some (some (.ref mN)))
  {Gi Gj DI Gk vJ Gm:Value} {Gn Gp:Option Addr} {DJ:Array (Option Value)}
  (J6:K.lookup mN=some ⟨Gi,Gn,.func (PySem.W.fnOf "_law_mixed" "_law_mixed" (aU gM) (aR gM) (aE gM) .none Gj DI Gk Gp vJ Gm),DJ⟩)
  (J7:PySem.W.codeIn K vJ "_law_mixed" = true)
  (J8:PySem.W.keepIn K (.ref mN)=true)
  (Cy:PySem.W.nsIn K mainGlobals "_law_act" = some (some (.ref An)))
  {Lr Ls J9 Lu CA Lv:Value} {Lw Lx:Option Addr} {J':Array (Option Value)}
  (Nz:K.lookup An=some ⟨Lr,Lw,.func (PySem.W.fnOf "_law_act" "_law_act" (aU rQ) (aR rQ) (aE rQ) .none Ls J9 Lu Lx CA Lv),J'⟩)
  (NA:PySem.W.codeIn K CA "_law_act" = true)
  (NB:PySem.W.keepIn K (.ref An)=true)
  (jM:PySem.W.nsIn K mainGlobals "_law_history" = some (some (.ref fQ)))
  {Bp Bq Ap Br oP Bs:Value} {Bt Bu:Option Addr} {Aq:Array (Option Value)}
  (DK:K.lookup fQ=some ⟨Bp,Bt,.func (PySem.W.fnOf "_law_history" "_law_history" (aU dA) (aR dA) (aE dA) .none Bq Ap Br Bu oP Bs),Aq⟩)
  (DL:PySem.W.codeIn K oP "_law_history" = true)
  (DM:PySem.W.keepIn K (.ref fQ)=true)
  (mJ:PySem.W.nsIn K mainGlobals "_law_turned" = some (some (.ref iZ)))
  {DN DO Bv DP sF DQ:Value} {DR DS:Option Addr} {Bw:Array (Option Value)}
  (Gq:K.lookup iZ=some ⟨DN,DR,.func (PySem.W.fnOf "_law_turned" "_law_turned" (aU eM) (aR eM) (aE eM) .none DO Bv DP DS sF DQ),Bw⟩)
  (Gr:PySem.W.codeIn K sF "_law_turned" = true)
  (Gs:PySem.W.keepIn K (.ref iZ)=true)
  (eY:PySem.W.nsIn K mainGlobals "number_of" = some (some (.ref dR)))
  {yC yD sX yE jZ yF:Value} {yG yH:Option Addr} {sY:Array (Option Value)}
  (Ar:K.lookup dR=some ⟨yC,yG,.func (PySem.W.fnOf "number_of" "number_of" (aU cD) (aR cD) (aE cD) .none yD sX yE yH jZ yF),sY⟩)
  (As:PySem.W.codeIn K jZ "number_of" = true)
  (Au:PySem.W.keepIn K (.ref dR)=true)
  (dE:PySem.W.nsIn K mainGlobals "last_of" = some (some (.ref fR)))
  {Bx By Av Bz oQ BA:Value} {BB BC:Option Addr} {Aw:Array (Option Value)}
  (DT:K.lookup fR=some ⟨Bx,BB,.func (PySem.W.fnOf "last_of" "last_of" (aU cN) (aR cN) (aE cN) .none By Av Bz BC oQ BA),Aw⟩)
  (DU:PySem.W.codeIn K oQ "last_of" = true)
  (DV:PySem.W.keepIn K (.ref fR)=true)
  (pL:PySem.W.nsIn K mainGlobals "stamp" = some (some (.ref mO)))
  {Gu Gv DW Gw vK Gx:Value} {Gy Gz:Option Addr} {DX:Array (Option Value)}
  (Ja:K.lookup mO=some ⟨Gu,Gy,.func (PySem.W.fnOf "stamp" "stamp" (aU gO) (aR gO) (aE gO) .none Gv DW Gw Gz vK Gx),DX⟩)
  (Jb:PySem.W.codeIn K vK "stamp" = true)
  (Jc:PySem.W.keepIn K (.ref mO)=true)
  (gW:PySem.W.nsIn K mainGlobals "bound" = some (some (.ref mQ)))
  {GA GB DY GC vL GD:Value} {GE GF:Option Addr} {DZ:Array (Option Value)}
  (Jd:K.lookup mQ=some ⟨GA,GE,.func (PySem.W.fnOf "bound" "bound" (aU eW) (aR eW) (aE eW) .none GB DY GC GF vL GD),DZ⟩)
  (Je:PySem.W.codeIn K vL "bound" = true)
  (Jf:PySem.W.keepIn K (.ref mQ)=true)
  (mH:PySem.W.nsIn K mainGlobals "joined" = some (some (.ref jA)))
  {E1 E2 BD E3 sG E4:Value} {E5 E6:Option Addr} {BE:Array (Option Value)}
  (GG:K.lookup jA=some ⟨E1,E5,.func (PySem.W.fnOf "joined" "joined" (aU eN) (aR eN) (aE eN) .none E2 BD E3 E6 sG E4),BE⟩)
  (GH:PySem.W.codeIn K sG "joined" = true)
  (GI:PySem.W.keepIn K (.ref jA)=true)
  (jG:PySem.W.nsIn K mainGlobals "widened" = some (some (.ref fT)))
  {BF BG Ax BH oR BI:Value} {BJ BK:Option Addr} {Ay:Array (Option Value)}
  (E7:K.lookup fT=some ⟨BF,BJ,.func (PySem.W.fnOf "widened" "widened" (aU dB) (aR dB) (aE dB) .none BG Ax BH BK oR BI),Ay⟩)
  (E8:PySem.W.codeIn K oR "widened" = true)
  (E9:PySem.W.keepIn K (.ref fT)=true)
  (gY:PySem.W.nsIn K mainGlobals "known" = some (some (.ref mR)))
  {GJ GK Ea GL vM GM:Value} {GN GO:Option Addr} {Eb:Array (Option Value)}
  (Jg:K.lookup mR=some ⟨GJ,GN,.func (PySem.W.fnOf "known" "known" (aU eX) (aR eX) (aE eX) .none GK Ea GL GO vM GM),Eb⟩)
  (Jh:PySem.W.codeIn K vM "known" = true)
  (Ji:PySem.W.keepIn K (.ref mR)=true)
  (jK:PySem.W.nsIn K mainGlobals "_law_bound" = some (some (.ref fU)))
  {BL BM Az BN oS BO:Value} {BP BQ:Option Addr} {AA:Array (Option Value)}
  (Ec:K.lookup fU=some ⟨BL,BP,.func (PySem.W.fnOf "_law_bound" "_law_bound" (aU dC) (aR dC) (aE dC) .none BM Az BN BQ oS BO),AA⟩)
  (Ed:PySem.W.codeIn K oS "_law_bound" = true)
  (Ee:PySem.W.keepIn K (.ref fU)=true)
  (pP:PySem.W.nsIn K mainGlobals "_law_right" = some (some (.ref mS)))
  {GP GQ Ef GR vN GS:Value} {GT GU:Option Addr} {Eg:Array (Option Value)}
  (Jj:K.lookup mS=some ⟨GP,GT,.func (PySem.W.fnOf "_law_right" "_law_right" (aU gQ) (aR gQ) (aE gQ) .none GQ Ef GR GU vN GS),Eg⟩)
  (Jk:PySem.W.codeIn K vN "_law_right" = true)
  (Jl:PySem.W.keepIn K (.ref mS)=true)
  (pR:PySem.W.nsIn K mainGlobals "_law_taken" = some (some (.ref mT)))
  {GV GW Eh GX vO GY:Value} {GZ Ha:Option Addr} {Ei:Array (Option Value)}
  (Jm:K.lookup mT=some ⟨GV,GZ,.func (PySem.W.fnOf "_law_taken" "_law_taken" (aU gU) (aR gU) (aE gU) .none GW Eh GX Ha vO GY),Ei⟩)
  (Jn:PySem.W.codeIn K vO "_law_taken" = true)
  (Jo:PySem.W.keepIn K (.ref mT)=true)
  (NC:PySem.W.nsIn K mainGlobals "law" = some (some (.ref G9)))
  {Ly Hb CB Hc yI Hd:Value} {Lz He:Option Addr} {Jp:Array (Option Value)}
  (ND:K.lookup G9=some ⟨Ly,Lz,.func (PySem.W.fnOf "law" "law" (aU mE) (aR mE) (aE mE) .none Hb CB Hc He yI Hd),Jp⟩)
  (NF:PySem.W.codeIn K yI "law" = true)
  (NG:PySem.W.keepIn K (.ref G9)=true)
  : ∃ fd:FuncData,(∀ (s:Shared) (v:Value),BindsTo s fd ⟨[v],[]⟩ [("_law_script",v)])/\∀ base:Heap,K.In base->base.Ns mainGlobals mg->aQ l.prog w K mg base CX0 7 fa fd ["_law_script"] (spL K):=by
 have e:=hfa.symm.trans (PySem.W.mg_of X G NC)
 cases e
 have pO:Def K mg "_law_hands" gL mM _ ["_law_cell"]:=Def.mk' X G pN IX IY IZ (fun _ _ _ _ _ _ us hl=>Lm us hl fun _=>rfl)
 have kN:Def K mg "_law_seen" iV sE _ ["_law_hands_here","_law_counts"]:=Def.mk' X G kM Lo Lp Lq (fun _ _ _ _ _ _ us hl=>sW us hl fun _ _=>rfl)
 have pK:Def K mg "_law_mixed" gM mN _ ["_law_cell","_law_k"]:=Def.mk' X G pJ J6 J7 J8 (fun _ _ _ _ _ _ us hl=>sW us hl fun _ _=>rfl)
 have Cz:Def K mg "_law_act" rQ An _ ["_law_way","_law_many","_law_cell"]:=Def.mk' X G Cy Nz NA NB (fun _ _ _ _ _ _ us hl=>Ln us hl fun _ _ _=>rfl)
 have jN:Def K mg "_law_history" dA fQ _ ["_law_script","_law_hands_here"]:=Def.mk' X G jM DK DL DM (fun _ _ _ _ _ _ us hl=>sW us hl fun _ _=>rfl)
 have mK:Def K mg "_law_turned" eM iZ _ ["_law_deeds","_law_cell"]:=Def.mk' X G mJ Gq Gr Gs (fun _ _ _ _ _ _ us hl=>sW us hl fun _ _=>rfl)
 have eZ:Def K mg "number_of" cD dR _ ["deed"]:=Def.mk' X G eY Ar As Au (fun _ _ _ _ _ _ us hl=>Lm us hl fun _=>rfl)
 have dF:Def K mg "last_of" cN fR _ ["hand","deeds"]:=Def.mk' X G dE DT DU DV (fun _ _ _ _ _ _ us hl=>sW us hl fun _ _=>rfl)
 have pM:Def K mg "stamp" gO mO _ ["deed"]:=Def.mk' X G pL Ja Jb Jc (fun _ _ _ _ _ _ us hl=>Lm us hl fun _=>rfl)
 have gX:Def K mg "bound" eW mQ _ ["hands","deeds"]:=Def.mk' X G gW Jd Je Jf (fun _ _ _ _ _ _ us hl=>sW us hl fun _ _=>rfl)
 have mI:Def K mg "joined" eN jA _ ["one","other"]:=Def.mk' X G mH GG GH GI (fun _ _ _ _ _ _ us hl=>sW us hl fun _ _=>rfl)
 have jH:Def K mg "widened" dB fT _ ["seen","name"]:=Def.mk' X G jG E7 E8 E9 (fun _ _ _ _ _ _ us hl=>sW us hl fun _ _=>rfl)
 have gZ:Def K mg "known" eX mR _ ["hand","deeds"]:=Def.mk' X G gY Jg Jh Ji (fun _ _ _ _ _ _ us hl=>sW us hl fun _ _=>rfl)
 have jL:Def K mg "_law_bound" dC fU _ ["_law_hands_here","_law_rows"]:=Def.mk' X G jK Ec Ed Ee (fun _ _ _ _ _ _ us hl=>sW us hl fun _ _=>rfl)
 have mL:Def K mg "_law_right" gQ mS _ ["_law_hands_here","_law_rows","_law_cell"]:=Def.mk' X G pP Jj Jk Jl (fun _ _ _ _ _ _ us hl=>Ln us hl fun _ _ _=>rfl)
 have pT:Def K mg "_law_taken" gU mT _ ["_law_rows","_law_hands_here","_law_counts"]:=Def.mk' X G pR Jm Jn Jo (fun _ _ _ _ _ _ us hl=>Ln us hl fun _ _ _=>rfl)
 refine ⟨PySem.W.fnOf "law" "law" (aU mE) (aR mE) (aE mE) .none Hb CB Hc He yI Hd,fun s v=>.of_eq rfl,fun base _ _=>?_⟩
 have yA:aQ l.prog w K mg base CX0 1 mM _ ["_law_cell"] (spM (cC w K (fun z=>none)) 1 jD):=G0 (cl:=fun z=>none) hbn pO.fn
 have nR:aQ l.prog w K mg base CX0 1 sE _ ["_law_hands_here","_law_counts"] (spM (cC w K (fun z=>none)) 2 iO):=IW (cl:=fun z=>none) hbn kN.fn
 have xX:aQ l.prog w K mg base CX0 1 mN _ ["_law_cell","_law_k"] (spM (cC w K (fun z=>none)) 2 jE):=G1 (cl:=fun z=>none) hbn pK.fn
 have G3:aQ l.prog w K mg base CX0 2 An _ ["_law_way","_law_many","_law_cell"] (spM (cC w K (fun z=>none)) 3 uU):=Lk (cl:=fun z=>none) hbn Cz.fn pK xX
 have nW:aQ l.prog w K mg base CX0 3 fQ _ ["_law_script","_law_hands_here"] (spM (cC w K (fun z=>none)) 2 dY):=Bl (cl:=fun z=>none) hbn jN.fn kN nR Cz G3
 have sA:aQ l.prog w K mg base CX0 1 iZ _ ["_law_deeds","_law_cell"] (spM (cC w K (fun z=>none)) 2 iQ):=DE (cl:=fun z=>none) hbn mK.fn
 have iW:aQ l.prog w K mg base CX0 1 dR _ ["deed"] (spM (cC w K (fun z=>none)) 1 bW):=xY (cl:=fun z=>none) hbn eZ.fn
 have dZ:aQ l.prog w K mg base CX0 4 fR _ ["hand","deeds"] (spM (cC w K (fun z=>none)) 2 cX):=Bm (cl:=fun z=>none) hbn dF.fn eZ iW
 have xZ:aQ l.prog w K mg base CX0 1 mO _ ["deed"] (spM (cC w K (fun z=>none)) 1 lL):=G4 (cl:=fun z=>none) hbn pM.fn
 have jI:aQ l.prog w K mg base CX0 5 mQ _ ["hands","deeds"] (spM (cC w K (fun z=>none)) 2 eU):=G5 (cl:=fun z=>none) hbn gX.fn dF dZ pM xZ
 have rY:aQ l.prog w K mg base CX0 1 jA _ ["one","other"] (spM (cC w K (fun z=>none)) 2 iS):=DF (cl:=fun z=>none) hbn mI.fn
 have nU:aQ l.prog w K mg base CX0 2 fT _ ["seen","name"] (spM (cC w K (fun z=>none)) 2 fM):=Bn (cl:=fun z=>none) hbn jH.fn mI rY
 have jJ:aQ l.prog w K mg base CX0 5 mR _ ["hand","deeds"] (spM (cC w K (fun z=>none)) 2 eV):=G6 (cl:=fun z=>none) hbn gZ.fn dF dZ jH nU
 have nV:aQ l.prog w K mg base CX0 1 fU _ ["_law_hands_here","_law_rows"] (spM (cC w K (fun z=>none)) 2 fN):=Bo (cl:=fun z=>none) hbn jL.fn
 have pQ:aQ l.prog w K mg base CX0 6 mS _ ["_law_hands_here","_law_rows","_law_cell"] (spM (cC w K (fun z=>none)) 3 gK):=G7 (cl:=fun z=>none) hbn mL.fn kN nR mK sA gX jI gZ jJ jL nV
 have yB:aQ l.prog w K mg base CX0 1 mT _ ["_law_rows","_law_hands_here","_law_counts"] (spM (cC w K (fun z=>none)) 3 lM):=G8 (cl:=fun z=>none) hbn pT.fn
 refine (Ll (cl:=fun z=>none) hbn (AM (st:=mE) ND NF NG) pO yA jN nW gX jI gZ jJ mL pQ pT yB).imp fun vs H Q E hh=>?_
 obtain ⟨a,ns,rfl,hO,hS,hl,hq⟩:=hh
 exact KN (C:=cC w K (fun z=>none)) hO hS (main ns hl) hq
theorem walk {l:PySem.W.OpenLaw} {q:Program} {loose:List Str} {XP:(Str->Option Value)->Heap->Prop} {YP:World->Heap->Prop} {d:DefRec} {K:Params->PySem.W.Frag} (hn:l.most=some 63) (hdf:d.params.defaults=[])
  (hY:∀ (w:World) (h:Heap),YP w h->(K w.params).In h)
  (F:∀ (w:World) (mg:Str->Option Value) (fa:Addr) (h:Heap),(K w.params).In h->h.Ns mainGlobals mg->mg d.name=some (.ref fa)->
   ∃ fd:FuncData,(∀ (s:Shared) (u:Value),BindsTo s fd ⟨[u],[]⟩ [("_law_script",u)])/\∀ base:Heap,(K w.params).In base->base.Ns mainGlobals mg->aQ l.prog w (K w.params) mg base CX0 7 fa fd ["_law_script"] (spL (K w.params))):
  PySem.W.WalkO q loose XP YP l.row.toRowW d [] (fun f vs=>PySem.call f vs):=
 L2.walk_of (n:=63) (k:=7) (x:="_law_script") (CX:=fun _=>CX0) (sp:=fun w=>spL (K w.params)) hn (by decide) hdf ⟨rfl,by decide,by decide⟩ hY F (fun w H a ns hl hO hS=>⟨a,ns,rfl,hO,hS,hl,fun _=>rfl⟩) fun _ _ _ _ _ z=>z
end K76
open PySem PySem.W PyProof.Rows
set_option maxRecDepth 100000 in
set_option maxHeartbeats 0 in
theorem PySem.Challenge.cw_copymeet_k76_known_and_bound_holds : PySem.Challenge.rw_copymeet_k76_known_and_bound.Holds := by
 w_on; o_law; k_head; (case hw=>w_witness2)
 k_fill
 refine K76.walk (l:=PySem.Challenge.rw_copymeet_k76_known_and_bound) rfl rfl (fun w h Y=>PySem.W.kIn_of Y) ?F
 case F=>
  intro w mg fa h KX G hmg
  have hbn:∀ x∈K76.bsL,mg x=none:=fun x hx=>by
   rcases List.mem_cons.mp hx with rfl | hx
   ·exact PySem.W.mg_none_of KX G (by k_is)
   rcases List.mem_cons.mp hx with rfl | hx
   ·exact PySem.W.mg_none_of KX G (by k_is)
   rcases List.mem_cons.mp hx with rfl | hx
   ·exact PySem.W.mg_none_of KX G (by k_is)
   rcases List.mem_cons.mp hx with rfl | hx
   ·exact PySem.W.mg_none_of KX G (by k_is)
   rcases List.mem_cons.mp hx with rfl | hx
   ·exact PySem.W.mg_none_of KX G (by k_is)
   rcases List.mem_cons.mp hx with rfl | hx
   ·exact PySem.W.mg_none_of KX G (by k_is)
   rcases List.mem_cons.mp hx with rfl | hx
   ·exact PySem.W.mg_none_of KX G (by k_is)
   rcases List.mem_cons.mp hx with rfl | hx
   ·exact PySem.W.mg_none_of KX G (by k_is)
   rcases List.mem_cons.mp hx with rfl | hx
   ·exact PySem.W.mg_none_of KX G (by k_is)
   rcases List.mem_cons.mp hx with rfl | hx
   ·exact PySem.W.mg_none_of KX G (by k_is)
   rcases List.mem_cons.mp hx with rfl | hx
   ·exact PySem.W.mg_none_of KX G (by k_is)
   rcases List.mem_cons.mp hx with rfl | hx
   ·exact PySem.W.mg_none_of KX G (by k_is)
   cases hx
  refine' K76.all_mk KX G hmg hbn ?h0 ?h1 ?h2 ?h3 ?h4 ?h5 ?h6 ?h7 ?h8 ?h9 ?h10 ?h11 ?h12 ?h13 ?h14 ?h15 ?h16 ?h17 ?h18 ?h19 ?h20 ?h21 ?h22 ?h23 ?h24 ?h25 ?h26 ?h27 ?h28 ?h29 ?h30 ?h31 ?h32 ?h33 ?h34 ?h35 ?h36 ?h37 ?h38 ?h39 ?h40 ?h41 ?h42 ?h43 ?h44 ?h45 ?h46 ?h47 ?h48 ?h49 ?h50 ?h51 ?h52 ?h53 ?h54 ?h55 ?h56 ?h57 ?h58 ?h59 ?h60 ?h61 ?h62 ?h63 ?h64 ?h65 ?h66 ?h67
  (case h0=>k_is)
  (case h1=>k_is)
  (case h2=>k_is)
  (case h3=>k_is)
  (case h4=>k_is)
  (case h5=>k_is)
  (case h6=>k_is)
  (case h7=>k_is)
  (case h8=>k_is)
  (case h9=>k_is)
  (case h10=>k_is)
  (case h11=>k_is)
  (case h12=>k_is)
  (case h13=>k_is)
  (case h14=>k_is)
  (case h15=>k_is)
  (case h16=>k_is)
  (case h17=>k_is)
  (case h18=>k_is)
  (case h19=>k_is)
  (case h20=>k_is)
  (case h21=>k_is)
  (case h22=>k_is)
  (case h23=>k_is)
  (case h24=>k_is)
  (case h25=>k_is)
  (case h26=>k_is)
  (case h27=>k_is)
  (case h28=>k_is)
  (case h29=>k_is)
  (case h30=>k_is)
  (case h31=>k_is)
  (case h32=>k_is)
  (case h33=>k_is)
  (case h34=>k_is)
  (case h35=>k_is)
  (case h36=>k_is)
  (case h37=>k_is)
  (case h38=>k_is)
  (case h39=>k_is)
  (case h40=>k_is)
  (case h41=>k_is)
  (case h42=>k_is)
  (case h43=>k_is)
  (case h44=>k_is)
  (case h45=>k_is)
  (case h46=>k_is)
  (case h47=>k_is)
  (case h48=>k_is)
  (case h49=>k_is)
  (case h50=>k_is)
  (case h51=>k_is)
  (case h52=>k_is)
  (case h53=>k_is)
  (case h54=>k_is)
  (case h55=>k_is)
  (case h56=>k_is)
  (case h57=>k_is)
  (case h58=>k_is)
  (case h59=>k_is)
  (case h60=>k_is)
  (case h61=>k_is)
  (case h62=>k_is)
  (case h63=>k_is)
  (case h64=>k_is)
  (case h65=>k_is)
  (case h66=>k_is)
  (case h67=>k_is)
