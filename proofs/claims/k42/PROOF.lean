import PyProof.Rows.All
import Wide.All
import OpenK.AllK
import Wide.FinOn
import Lean
import PyProof.EqAt
import PyProof.EqKinds
import PyProof.TupleCall
import PyProof.NeKinds
import KE.KDictOf
import PyProof.AttrMissHeap
import PyProof.WalksMore
import PyProof.MeetsDict
import KE.KDictList
import KE.KRevIter
import PyProof.DictItemsLoops
import PyProof.DictWalks
import KE.KSortTup
import KE.KDictSum
import PyProof.SumAny
import PyProof.Conv_int_bool
import PyProof.Conv_int
import KE.KRevSl
import PyProof.MeetsStr
import PyProof.StrCalls3
import PyProof.Rows.TupDisplay
import PySem.Challenge.RW_copymeet_k42_holes_in_marks
set_option Elab.async false
set_option linter.all false
set_option maxRecDepth 100000
namespace L2
open PySem PySem.Spec PyProof.Rows
abbrev Key:=Sum Int Str
def Ax:Key->Value->Bool
 | .inl k,v=>Value.isInt k v
 | .inr x,v=>Value.isStrOf x v
def OQ (w:World):Key->Int
 | .inl k=>hashInt k
 | .inr x=>hashStr w x
theorem cG:∀ {k:Key} {v:Value},Ax k v=true->(∃ i t,k=Sum.inl i/\v=Value.int i t)\/(∃ x t,k=Sum.inr x/\v=Value.str x t)
 | .inl i,v,h=>by
  obtain ⟨t,e⟩:=Value.isInt_shape (k:=i) (v:=v) h
  exact .inl ⟨i,t,rfl,e⟩
 | .inr x,v,h=>by
  obtain ⟨t,e⟩:=Value.isStrOf_shape (x:=x) (v:=v) h
  exact .inr ⟨x,t,rfl,e⟩
theorem GX (i:Int) (t:Tok):Ax (.inl i) (.int i t)=true:=by simp [Ax,Value.isInt]
theorem GY (x:Str) (t:Tok):Ax (.inr x) (.str x t)=true:=by simp [Ax,Value.isStrOf]
theorem OR (a b:Int):decide ((Sum.inl a:Key)=Sum.inl b)=(a == b):=by
 by_cases e:a=b
 ·subst e; simp
 ·have h:¬ (Sum.inl a:Key)=Sum.inl b:=fun q=>e (Sum.inl.inj q)
  rw [decide_eq_false h]
  exact (beq_eq_false_iff_ne.mpr e).symm
theorem OS (a b:Str):decide ((Sum.inr a:Key)=Sum.inr b)=decide (a=b):=by
 by_cases e:a=b
 ·subst e; simp
 ·have h:¬ (Sum.inr a:Key)=Sum.inr b:=fun q=>e (Sum.inr.inj q)
  rw [decide_eq_false h,decide_eq_false e]
theorem OT (a:Int) (b:Str):decide ((Sum.inl a:Key)=Sum.inr b)=false:=decide_eq_false (fun q=>nomatch q)
theorem OU (a:Str) (b:Int):decide ((Sum.inr a:Key)=Sum.inl b)=false:=decide_eq_false (fun q=>nomatch q)
def cP (prog:Program) (w:World):PySem.KeyKind prog w Key where
 is:=Ax
 hash:=OQ w
 inj:=fun v a b ha hb=>by
  rcases cG ha with ⟨i,t,rfl,rfl⟩ | ⟨x,t,rfl,rfl⟩
  ·rcases cG hb with ⟨j,u,rfl,e⟩ | ⟨y,u,rfl,e⟩
   ·injection e with e1 _; rw [e1]
   ·exact nomatch e
  ·rcases cG hb with ⟨j,u,rfl,e⟩ | ⟨y,u,rfl,e⟩
   ·exact nomatch e
   ·injection e with e1 _; rw [e1]
 byValue:=fun k v h=>by
  rcases cG h with ⟨i,t,rfl,rfl⟩ | ⟨x,t,rfl,rfl⟩ <;> rfl
 pyHash:=fun hv h=>by
  rcases cG hv with ⟨i,t,rfl,rfl⟩ | ⟨x,t,rfl,rfl⟩
  ·exact wpAny_pyHash_int h
  ·exact wpAny_pyHash_str h
 eqBool:=fun hu hv h=>by
  rcases cG hu with ⟨i,t,rfl,rfl⟩ | ⟨x,t,rfl,rfl⟩
  ·rcases cG hv with ⟨j,u,rfl,rfl⟩ | ⟨y,u,rfl,rfl⟩
   ·rw [OR] at h; exact wpAny_eqBool_int h
   ·rw [OT] at h; exact SeqAt.EqAt.int_str i t y u _ _ _ _ h
  ·rcases cG hv with ⟨j,u,rfl,rfl⟩ | ⟨y,u,rfl,rfl⟩
   ·rw [OU] at h; exact SeqAt.EqAt.str_int x t j u _ _ _ _ h
   ·rw [OS] at h; exact wpAny_eqBool_str h
 «strs»:=fun k x t v h=>by
  rcases cG h with ⟨i,u,rfl,e⟩ | ⟨y,u,rfl,e⟩
  ·exact nomatch e
  ·injection e with e1 _
   subst e1
   cases v <;> rfl
theorem CN (prog:Program) (w:World) (i:Int) (t:Tok):(cP prog w).is (.inl i) (.int i t)=true:=GX i t
theorem CO (prog:Program) (w:World) (x:Str) (t:Tok):(cP prog w).is (.inr x) (.str x t)=true:=GY x t
end L2
namespace L2
open PySem PySem.Spec PyProof.Rows
inductive V where
 | non | bl (b:Bool) | int (i:Int) | str (x:Str) | byt (b:Array UInt8) | flt (b:UInt64) | ref (a:Addr) | ty (n:String)
 deriving DecidableEq
def RelV:V->Value->Prop
 | .non,u=>u=Value.none
 | .bl b,u=>u=Value.bool b
 | .int i,u=>∃ t,u=Value.int i t
 | .str x,u=>∃ t,u=Value.str x t
 | .byt b,u=>∃ t,u=Value.bytes b t
 | .flt b,u=>∃ t,u=Value.float b t
 | .ref a,u=>u=Value.ref a
 | .ty n,u=>u=Value.type n
abbrev aP:List V->List Value->Prop:=Paired RelV
theorem aP.length {xs:List V} {us:List Value} (r:aP xs us):xs.length=us.length:=Paired.length r
theorem aP.get:∀ {xs:List V} {us:List Value} {i:Nat} {x:V},aP xs us->xs[i]?=some x->∃ u,us[i]?=some u/\RelV x u
 | _,_,_,_,.nil,e=>by simp at e
 | _,_,0,_,.cons r _,e=>by simp at e; subst e; exact ⟨_,rfl,r⟩
 | _,_,i+1,x,.cons _ t,e=>by
  obtain ⟨u,h1,h2⟩:=aP.get (i:=i) (x:=x) t (by simpa using e)
  exact ⟨u,by simpa using h1,h2⟩
theorem aP.set {x:V} {u:Value} (r:RelV x u):∀ {xs:List V} {us:List Value} (i:Nat),aP xs us->aP (xs.set i x) (us.set i u)
 | _,_,_,.nil=>.nil
 | _,_,0,.cons _ t=>.cons r t
 | _,_,i+1,.cons q t=>.cons q (aP.set r i t)
theorem aP.append:∀ {xs ys:List V} {us ws:List Value},aP xs us->aP ys ws->aP (xs++ys) (us++ws)
 | _,_,_,_,.nil,s=>s
 | _,_,_,_,.cons r t,s=>.cons r (aP.append t s)
theorem aP.take:∀ {xs:List V} {us:List Value} (n:Nat),aP xs us->aP (xs.take n) (us.take n)
 | _,_,0,_=>.nil
 | _,_,_+1,.nil=>.nil
 | _,_,n+1,.cons r t=>.cons r (aP.take n t)
theorem aP.drop:∀ {xs:List V} {us:List Value} (n:Nat),aP xs us->aP (xs.drop n) (us.drop n)
 | _,_,0,r=>r
 | _,_,_+1,.nil=>.nil
 | _,_,n+1,.cons _ t=>aP.drop n t
def pB:Option V->Option Value->Prop
 | some v,some u=>RelV v u
 | none,none=>True
 | _,_=>False
def KV {κ:Type}:List (κ×V)->List (κ×Value)->Prop:=Paired fun (p:κ×V) (q:κ×Value)=>p.1=q.1/\RelV p.2 q.2
def kV:Key->V
 | .inl i=>.int i
 | .inr x=>.str x
inductive HO where
 /-- a list -/
 | lst (xs:List V)
 /-- a tuple (never changes) -/
 | tup (xs:List V)
 /-- a dict whose keys are ints and texts; one whose keys are tuples of ints and texts (the empty one is both) -/
 | dK (kvs:List (Key×V)) | dT (kvs:List (List Key×V))
 /-- a set of ints: its members,its size -/
 | set (S:Int->Bool) (n:Nat)
 /-- an instance of the class at C,its dict at dx,its attributes -/
 | ins (C dx:Addr) (fs:List (Str×V))
 /-- the dict of the instance at x -/
 | own (x:Addr)
 /-- the dict of an exception -/
 | xd (fs:List (Str×V))
 /-- a bound method,f of x -/
 | met (f x:Addr)
 /-- a range object lo,lo+1,.. below hi -/
 | rng (lo hi:Int)
 /-- a thing that is known to the object (the script; a dict while a loop walks it): read,never written while it is so -/
 | frz (o:Obj) (u:HO)
 /-- a code object's table -/
 | tbl (ps:Array Value)
 /-- any other thing,by what is true of its one object (a def of one's own: SetO a S n:=HO.ext fun h=>..) -/
 | ext (φ:Heap->Prop)
abbrev Hp:=Addr->Option HO
def upd (H:Hp) (a:Addr) (o:HO):Hp:=fun b=>if b=a then some o else H b
theorem bK {H:Hp} {a:Addr} {o:HO}:upd H a o a=some o:=by unfold upd; rw [if_pos rfl]
theorem aX {H:Hp} {a b:Addr} {o:HO} (h:b≠a):upd H a o b=H b:=by unfold upd; rw [if_neg h]
theorem R0 {H:Hp} {a b:Addr} {o u:HO} (h:H a=some o) (h':H b=some u) (d:o≠u):a≠b:=by
 intro e; subst e; rw [h] at h'; exact d (Option.some.inj h')
theorem cY {H:Hp} {a b:Addr} {o:HO} (h:H a=some o) (h':H b=none):a≠b:=by
 intro e; subst e; rw [h] at h'; cases h'
def wF (h:Heap) (a:Addr) (items:Array Value):Prop:=∃ o,h.get? a=some o/\o.cls=.type "tuple" /\ (∃ n,o.data=.seq items n)/\o.dict=none
theorem wF.is {h:Heap} {a:Addr} {items:Array Value} (x:wF h a items):PyProof.Rows.IsTup h a items:=let ⟨o,h1,h2,h3,_⟩:=x; ⟨o,h1,h2,h3⟩
theorem wF.lt {h:Heap} {a:Addr} {items:Array Value} (x:wF h a items):a < h.objs.size:=let ⟨_,h1,_⟩:=x; Heap.lt_size h1
theorem wF.new (h:Heap) (items:Array Value):wF (h.push { cls:=.type "tuple",data:=.seq items 0 }) h.objs.size items:=⟨_,Heap.get?_push_size _ rfl,rfl,⟨_,rfl⟩,rfl⟩
section
variable (P:Program) (w:World)
def cV (H:Hp) (h:Heap) (a:Addr):HO->Prop
 | .lst xs=>xs.length<=sizeLine/\∃ (its:List Value) (n:Nat),aP xs its/\h.get? a=some { cls:=.type "list",data:=.seq its.toArray n }
 | .tup xs=>xs.length<=sizeLine/\∃ its:List Value,aP xs its/\wF h a its.toArray
 | .dK kvs=>kvs.length<=sizeLine/\(a == sysModules)=false/\∃ vs,KV kvs vs/\h.DictOf (cP P w) a vs
 | .dT kvs=>kvs.length<=sizeLine/\(a == sysModules)=false/\∃ xs:List (List Key×Addr×Value),
   Paired (fun (p:List Key×V) (q:List Key×Addr×Value)=>p.1=q.1/\H q.2.1=some (.tup (p.1.map kV))/\RelV p.2 q.2.2) kvs xs/\
   ∃ o es ep,h.get? a=some o/\o.ExactDict/\o.data=.dict es ep/\es.toList=xs.map (entryOfKey (tupleKind (cP P w)))/\(xs.map (·.1)).Nodup
 | .set S n=>h.SetOf (intKind P w) a S n
 | .ins C dx fs=>H dx=some (.own a)/\fs.length<=1000/\dx≠a/\h.get? a=some (PySem.W.instObj C dx)/\
   ∃ mA,h.Ns1 dx mA/\(∀ f,pB (fs.lookup f) (mA f))/\PySem.Within mA (fs.map (·.1))
 | .own _=>∃ o,h.get? a=some o
 | .xd fs=>∃ mA,h.Ns1 a mA/\∀ f,pB (fs.lookup f) (mA f)
 | .rng lo hi=>∃ t u v,h.get? a=some { cls:=.type "range",data:=.fields #[.int lo t,.int hi u,.int 1 v] }
 | .frz o u=>h.get? a=some o/\cV H h a u
 | .tbl ps=>h.get? a=some { cls:=.none,data:=.fields ps }
 | .met f x=>h.get? a=some (PySem.W.methodObj (.ref f) (.ref x))
 | .ext φ=>φ h/\(∃ o,h.get? a=some o)/\∀ h1 h2:Heap,φ h1->(∀ o,h1.get? a=some o->h2.get? a=some o)->φ h2
def HOk (H:Hp) (h:Heap):Prop:=∀ a o,H a=some o->cV P w H h a o
end
section
variable {P:Program} {w:World} {H H':Hp} {h h':Heap} {a:Addr} {o:HO}
theorem cV.lt (x:cV P w H h a o):a < h.objs.size:=by
 cases o with
 | lst xs=>obtain ⟨_,_,_,_,e⟩:=x; exact Heap.lt_size e
 | tup xs=>obtain ⟨_,_,_,p⟩:=x; exact wF.lt p
 | dK kvs=>obtain ⟨_,_,_,_,o,_,_,e,_⟩:=x; exact Heap.lt_size e
 | dT kvs=>obtain ⟨_,_,_,_,o,_,_,e,_⟩:=x; exact Heap.lt_size e
 | set S n=>obtain ⟨o,_,_,_,e,_⟩:=x; exact Heap.lt_size e
 | ins C dx fs=>obtain ⟨_,_,_,e,_⟩:=x; exact Heap.lt_size e
 | own y=>obtain ⟨_,e⟩:=x; exact Heap.lt_size e
 | xd fs=>obtain ⟨_,⟨_,_,_,e,_⟩,_⟩:=x; exact Heap.lt_size e
 | rng lo hi=>obtain ⟨_,_,_,e⟩:=x; exact Heap.lt_size e
 | frz ob u=>obtain ⟨e,_⟩:=x; exact Heap.lt_size e
 | tbl ps=>exact Heap.lt_size (show h.get? a=some _ from x)
 | met f y=>exact Heap.lt_size (show h.get? a=some _ from x)
 | ext φ=>obtain ⟨_,⟨_,e⟩,_⟩:=x; exact Heap.lt_size e
theorem Paired.mapP {α β:Type} {F G:α->β->Prop}:∀ {l₁:List α} {l₂:List β},Paired F l₁ l₂->(∀ a b,F a b->G a b)->Paired G l₁ l₂
 | _,_,.nil,_=>.nil
 | _,_,.cons r t,f=>.cons (f _ _ r) (Paired.mapP t f)
theorem cV.stay (x:cV P w H h a o) (k:∀ b u,(b=a\/H b=some (.own a))->h.get? b=some u->h'.get? b=some u)
  (ho:∀ b,H b=some (.own a)->H' b=some (.own a)) (ht:∀ b xs,H b=some (.tup xs)->H' b=some (.tup xs)):cV P w H' h' a o:=by
 induction o with
 | lst xs=>obtain ⟨z,its,n,r,e⟩:=x; exact ⟨z,its,n,r,k _ _ (.inl rfl) e⟩
 | tup xs=>obtain ⟨z,its,r,ob,e,c⟩:=x; exact ⟨z,its,r,ob,k _ _ (.inl rfl) e,c⟩
 | dK kvs=>obtain ⟨z,y,vs,r,ob,es,ep,e,c⟩:=x; exact ⟨z,y,vs,r,ob,es,ep,k _ _ (.inl rfl) e,c⟩
 | dT kvs=>
  obtain ⟨z,y,xs,r,ob,es,ep,e,c⟩:=x
  exact ⟨z,y,xs,Paired.mapP r fun p q z=>⟨z.1,ht _ _ z.2.1,z.2.2⟩,ob,es,ep,k _ _ (.inl rfl) e,c⟩
 | set S n=>obtain ⟨ob,es,ep,t,e,c⟩:=x; exact ⟨ob,es,ep,t,k _ _ (.inl rfl) e,c⟩
 | ins C dx fs=>
  obtain ⟨d,z,ne,e,mA,⟨od,es,ep,e2,c⟩,r⟩:=x
  exact ⟨ho _ d,z,ne,k _ _ (.inl rfl) e,mA,⟨od,es,ep,k _ _ (.inr d) e2,c⟩,r⟩
 | own y=>obtain ⟨ob,e⟩:=x; exact ⟨ob,k _ _ (.inl rfl) e⟩
 | xd fs=>obtain ⟨mA,⟨od,es,ep,e,c⟩,r⟩:=x; exact ⟨mA,⟨od,es,ep,k _ _ (.inl rfl) e,c⟩,r⟩
 | rng lo hi=>obtain ⟨t,u,v,e⟩:=x; exact ⟨t,u,v,k _ _ (.inl rfl) e⟩
 | frz ob u ih=>obtain ⟨e,q⟩:=x; exact ⟨k _ _ (.inl rfl) e,ih q⟩
 | tbl ps=>
  have e:h.get? a=some { cls:=.none,data:=.fields ps }:=x
  show h'.get? a=some { cls:=.none,data:=.fields ps }
  exact k a _ (.inl rfl) e
 | met f y=>
  have e:h.get? a=some (PySem.W.methodObj (.ref f) (.ref y)):=x
  show h'.get? a=some (PySem.W.methodObj (.ref f) (.ref y))
  exact k a _ (.inl rfl) e
 | ext φ=>obtain ⟨p,⟨o,e⟩,st⟩:=x; exact ⟨st _ _ p fun o q=>k _ _ (.inl rfl) q,⟨o,k _ _ (.inl rfl) e⟩,st⟩
theorem HOk.lt (x:HOk P w H h) (e:H a=some o):a < h.objs.size:=(x a o e).lt
theorem HOk.fresh (x:HOk P w H h) (e:h.objs.size<=a):H a=none:=by
 cases q:H a with
 | none=>rfl
 | some u=>exact absurd (Nat.lt_of_lt_of_le (x.lt q) e) (Nat.lt_irrefl _)
theorem HOk.kept (x:HOk P w H h) (k:∀ b u,h.get? b=some u->h'.get? b=some u):HOk P w H h':=fun a o e=>
 (x a o e).stay (fun b u _ q=>k b u q) (fun _ q=>q) fun _ _ q=>q
theorem HOk.laid (x:HOk P w H h) (k:∀ b u,h.get? b=some u->h'.get? b=some u) (hp:h.objs.size<=a) (new:cV P w (upd H a o) h' a o):HOk P w (upd H a o) h':=fun b u e=>by
 have hn:=x.fresh hp
 by_cases hb:b=a
 ·subst hb; rw [bK] at e; cases e; exact new
 ·rw [aX hb] at e
  exact (x b u e).stay (fun c v _ q=>k c v q) (fun c q=>by rw [aX (cY q hn)]; exact q) fun c xs q=>by rw [aX (cY q hn)]; exact q
end
def Rd (H:Hp) (a:Addr) (u:HO):Prop:=H a=some u\/∃ o,H a=some (.frz o u)
theorem Rd.ok {P:Program} {w:World} {H:Hp} {h:Heap} {a:Addr} {u:HO} (r:Rd H a u) (x:HOk P w H h):cV P w H h a u:=by
 rcases r with r | ⟨o,r⟩
 ·exact x a u r
 ·obtain ⟨_,q⟩:=x a _ r
  exact q
def Mut:Option HO->Prop
 | some (.lst _)=>True
 | some (.dK _)=>True
 | some (.dT _)=>True
 | some (.set _ _)=>True
 | some (.ins _ _ _)=>True
 | some (.ext _)=>True
 | _=>False
section
variable {P:Program} {w:World} {H:Hp} {h h':Heap} {x e:Addr} {o':HO}
theorem HOk.write (ok:HOk P w H h) (mu:Mut (H x)) (he:e=x\/H e=some (.own x)) (k:∀ b u,b≠e->h.get? b=some u->h'.get? b=some u) (heo:∃ u,h'.get? e=some u)
  (new:cV P w (upd H x o') h' x o'):HOk P w (upd H x o') h':=fun b u q=>by
 have nown:∀ c y,H c=some (.own y)->c≠x:=fun c y r z=>by subst z; rw [r] at mu; exact mu
 have ntup:∀ c xs,H c=some (.tup xs)->c≠x:=fun c xs r z=>by subst z; rw [r] at mu; exact mu
 by_cases hb:b=x
 ·subst hb; rw [bK] at q; cases q; exact new
 ·rw [aX hb] at q
  by_cases hbe:b=e
  ·have q':H b=some (.own x):=by
    rcases he with z | z
    ·exact absurd (hbe.trans z) hb
    ·rw [hbe]; exact z
   rw [q] at q'; cases q'
   obtain ⟨v,hv⟩:=heo
   exact ⟨v,by rw [hbe]; exact hv⟩
  ·refine (ok b u q).stay (fun c v hc r=>k c v ?_ r) (fun c r=>by rw [aX (nown c b r)]; exact r) fun c xs r=>by rw [aX (ntup c xs r)]; exact r
   rcases hc with rfl | hc
   ·exact hbe
   ·rintro rfl
    rcases he with z | z
    ·exact nown c b hc z
    ·rw [hc] at z; cases z; exact hb rfl
end
structure Un (fs ex:List Addr) (H H':Hp) (h h':Heap):Prop where
 keep:∀ b o,h.get? b=some o->H b=none->b∉fs->b∉ex->h'.get? b=some o
 slot:∀ b o,h.get? b=some o->H b=none->b∈fs->b∉ex->∃ sl,h'.get? b=some { o with slots:=sl }
 free:∀ b o,h.get? b=some o->H b=none->b∉ex->H' b=none
 there:∀ b o,h.get? b=some o->b∉ex->∃ o',h'.get? b=some o'
 tups:∀ b xs,H b=some (.tup xs)->H' b=some (.tup xs)
 frzs:∀ b o u,H b=some (.frz o u)->H' b=some (.frz o u)
 tbls:∀ b ps,H b=some (.tbl ps)->∃ more,H' b=some (.tbl (ps++more))
section
variable {fs fs' ex ex':List Addr} {H H1 H2:Hp} {h h1 h2 h':Heap} {a x e:Addr} {o:HO}
theorem Un.any (u:Un fs ex H H1 h h1) {b:Addr} {ob:Obj} (q:h.get? b=some ob) (n:H b=none) (hx:b∉ex):∃ sl,h1.get? b=some { ob with slots:=sl }:=by
 by_cases hb:b∈fs
 ·exact u.slot b ob q n hb hx
 ·exact ⟨ob.slots,u.keep b ob q n hb hx⟩
theorem Un.kept (k:∀ b u,h.get? b=some u->h'.get? b=some u):Un fs ex H H h h':=
 ⟨fun b ob q _ _ _=>k b ob q,fun b ob q _ _ _=>⟨ob.slots,k b ob q⟩,fun _ _ _ n _=>n,fun b ob q _=>⟨ob,k b ob q⟩,fun _ _ q=>q,fun _ _ _ q=>q,fun _ ps q=>⟨#[],by rw [q]; simp⟩⟩
theorem Un.refl:Un fs ex H H h h:=Un.kept fun _ _ q=>q
theorem Un.laid (k:∀ b u,h.get? b=some u->h'.get? b=some u) (hp:h.objs.size<=a) (hn:H a=none):Un fs ex H (upd H a o) h h' where
 keep:=fun b u q _ _ _=>k b u q
 slot:=fun b u q _ _ _=>⟨u.slots,k b u q⟩
 free:=fun b u q n _=>by rw [aX (Nat.ne_of_lt (Nat.lt_of_lt_of_le (Heap.lt_size q) hp))]; exact n
 there:=fun b u q _=>⟨u,k b u q⟩
 tups:=fun b xs q=>by rw [aX (cY q hn)]; exact q
 frzs:=fun b u xs q=>by rw [aX (cY q hn)]; exact q
 tbls:=fun b ps q=>⟨#[],by rw [aX (cY q hn),q]; simp⟩
theorem Un.write (mu:Mut (H x)) (he:e=x\/H e=some (.own x)) (k:∀ b u,b≠e->h.get? b=some u->h'.get? b=some u) (heo:∃ u,h'.get? e=some u):Un fs ex H (upd H x o) h h':=by
 have hx:∀ b,H b=none->b≠x:=fun b n z=>by subst z; rw [n] at mu; exact mu
 have hb:∀ b,H b=none->b≠e:=fun b n z=>by
  subst z
  rcases he with r | r
  ·exact hx b n r
  ·rw [n] at r; cases r
 have hm:∀ b u,H b=some u->¬ Mut (some u)->b≠x:=fun b u q nm z=>by subst z; rw [q] at mu; exact nm mu
 refine ⟨fun b u q n _ _=>k b u (hb b n) q,fun b u q n _ _=>⟨u.slots,k b u (hb b n) q⟩,fun b u q n _=>by rw [aX (hx b n)]; exact n,fun b u q _=>?_,
  fun b xs q=>by rw [aX (hm b _ q fun z=>z)]; exact q,fun b u xs q=>by rw [aX (hm b _ q fun z=>z)]; exact q,fun b ps q=>⟨#[],by rw [aX (hm b _ q fun z=>z),q]; simp⟩⟩
 by_cases hbe:b=e
 ·subst hbe; exact heo
 ·exact ⟨u,k b u hbe q⟩
end
def trk (h:Heap) (H:Hp):List Addr:=(List.range h.objs.size).filter fun a=>(H a).isSome
def Bn (h:Heap) (H:Hp):Heap:=PySem.W.hideAll h (trk h H)
theorem GZ (h:Heap) (H:Hp):(Bn h H).objs.size=h.objs.size:=PySem.W.hideAll_size _ _
theorem J8 {h:Heap} {H:Hp} {b:Addr} {o:Obj} (e:h.get? b=some o) (n:H b=none):(Bn h H).get? b=some o:=
 PySem.W.hideAll_get _ e fun hm=>by
  have q:(H b).isSome=true:=(List.mem_filter.mp hm).2
  rw [n] at q; simp at q
theorem Mr {h:Heap} {H:Hp} {b:Addr} {o:Obj} (e:(Bn h H).get? b=some o):h.get? b=some o/\H b=none:=by
 have e':h.get? b=some o:=PySem.W.of_hideAll (trk h H) e
 refine ⟨e',?_⟩
 cases q:H b with
 | none=>rfl
 | some x=>
  have hm:b∈trk h H:=List.mem_filter.mpr ⟨List.mem_range.mpr (Heap.lt_size e'),by simp [q]⟩
  have z:(Bn h H).get? b=none:=PySem.W.hideAll_none (trk h H) hm
  rw [z] at e; cases e
def Mt (g h:Heap) (L:Addr):List (Addr×Obj):=(List.range h.objs.size).filterMap fun a=>if a=L\/(g.get? a).isSome=true then none else (h.get? a).map fun o=>(a,o)
def rest (g h:Heap) (L d:Addr):List (Addr×Obj):=(Mt g h L).filter fun p=>decide (p.1≠d)
end L2
namespace L2
open PySem PySem.Spec PyProof.Rows
structure Mod (K:PySem.W.Frag) (mg:Str->Option Value) (base:Heap):Prop where
 kin:K.In base
 glob:base.Ns mainGlobals mg
 blt:∃ mb,base.Ns builtinsNs mb/\∀ x:Str,x≠"__name__" -> mb x=bootBuiltins x
 nolimit:base.NoLimit
structure Cx where
 prog:Program
 w:World
 K:PySem.W.Frag
 mg:Str->Option Value
 base:Heap
 A:Around
 N:List Str
 s₀:Shared
 H₀:Hp
 env:Env
 outer:List Env
 stack:List Env
 ex:List Addr
 fn:Str->Bool
 calm:Bool
 pn:List (Addr×Obj)
 xe:Value->Shared->Prop
def frs (l:List Env):List Addr:=l.filterMap (·.frame)
abbrev Cx.fs (X:Cx):List Addr:=frs X.outer
def Vis (sc:Scope) (x:Str):Prop:=sc.names.lookup x=some .local\/sc.names.lookup x=some .cell\/sc.names.lookup x=some .free
def Loc (sc:Scope) (x:Str):Prop:=sc.names.lookup x=some .local\/sc.names.lookup x=some .cell
def Look (env:Env) (h:Heap) (m:Str->Option Value) (x:Str) (u:Value):Prop:=
 (env.kindOf x=some .local/\m x=some u)\/((env.kindOf x=some .cell\/env.kindOf x=some .free)/\∃ c,env.cells.lookup x=some c/\h.IsCell c (some u))
structure Cx.Ok (X:Cx):Prop where
 mod:Mod X.K X.mg X.base
 kind:X.env.scope.kind=.function
 glob:X.env.globals=mainGlobals
 blt:X.env.builtins=builtinsNs
 above:X.s₀.heap.objs.size<=X.env.locals
 inj:∀ x y c,X.env.cells.lookup x=some c->X.env.cells.lookup y=some c->x=y
 has:∀ x,(X.env.kindOf x=some .cell\/X.env.kindOf x=some .free)->∃ c,X.env.cells.lookup x=some c
 cab:∀ x c,X.fn x=true->X.env.cells.lookup x=some c->X.s₀.heap.objs.size<=c
 hd:X.calm=true->X.A.handled=none
 frames:X.A.frames=some X.stack
 stk:X.stack=X.outer\/(X.stack=X.env :: X.outer/\X.env.frame=some X.env.locals)
 exf:∀ b∈X.ex,b≠X.env.locals/\∀ x c,X.env.cells.lookup x=some c->c≠b
 bs:∀ b o,X.base.get? b=some o->X.s₀.heap.get? b=some o/\X.H₀ b=none
 bsz:X.base.objs.size<=X.s₀.heap.objs.size
 noex:∀ b o,X.base.get? b=some o->b∉X.ex
 exfs:∀ b∈X.ex,b∉X.fs
 funs:X.s₀.heap.FunFrames X.base X.outer
 frf:∀ b∈X.fs,X.H₀ b=none
structure Inv (X:Cx) (pins:List (Addr×Obj)) (σ:List (Option V)) (H:Hp) (s:Shared):Prop where
 ok:X.Ok
 os:s.os=X.s₀.os
 bare:AllBare s.gens
 base:Un X.fs X.ex X.H₀ H X.s₀.heap s.heap
 loc:∃ m,s.heap.Ns X.env.locals m/\∀ (i:Nat) (x:Str) (v:V),X.N[i]?=some x->σ[i]?=some (some v)->Vis X.env.scope x->∃ u,RelV v u/\Look X.env s.heap m x u
 cell:∀ x c,X.env.cells.lookup x=some c->∃ v,s.heap.IsCell c v
 free:H X.env.locals=none
 freeC:∀ x c,X.env.cells.lookup x=some c->H c=none
 pin:∀ p∈X.pn++pins,s.heap.get? p.1=some p.2/\H p.1=none/\p.1≠X.env.locals/\p.1∉X.fs/\∀ v,p.2.data≠.cell v
 hok:HOk X.prog X.w H s.heap
 len:σ.length=X.N.length
section
variable {X:Cx} {pins:List (Addr×Obj)} {σ:List (Option V)} {H H':Hp} {s:Shared} {h':Heap}
theorem Cx.Ok.nofr (ok:X.Ok) {b:Addr} {o:Obj} (e:X.base.get? b=some o):b∉X.fs:=fun hb=>by
 have:=(ok.funs.mem hb).1
 rw [e] at this; cases this
theorem Inv.bs (I:Inv X pins σ H s):∀ b o,X.base.get? b=some o->s.heap.get? b=some o/\H b=none:=fun b o e=>
 ⟨I.base.keep b o (I.ok.bs b o e).1 (I.ok.bs b o e).2 (I.ok.nofr e) (I.ok.noex b o e),I.base.free b o (I.ok.bs b o e).1 (I.ok.bs b o e).2 (I.ok.noex b o e)⟩
theorem Inv.bk (I:Inv X pins σ H s):∀ b o,X.base.get? b=some o->s.heap.get? b=some o:=fun b o e=>(I.bs b o e).1
theorem Inv.mod (I:Inv X pins σ H s):Mod X.K X.mg X.base:=I.ok.mod
theorem Inv.kIn (I:Inv X pins σ H s):X.K.In s.heap:=I.ok.mod.kin.keeps I.bk
theorem Inv.lt (I:Inv X pins σ H s):X.env.locals < s.heap.objs.size:=let ⟨_,hn,_⟩:=I.loc; hn.lt
theorem Inv.sz (I:Inv X pins σ H s):X.s₀.heap.objs.size<=s.heap.objs.size:=Nat.le_trans I.ok.above (Nat.le_of_lt I.lt)
theorem Inv.nofs (I:Inv X pins σ H s) {a:Addr} (h:s.heap.objs.size<=a):a∉X.fs:=fun hb=>by
 obtain ⟨_,o,ho,_⟩:=I.ok.funs.mem hb
 exact absurd (Nat.lt_of_lt_of_le (Heap.lt_size ho) (Nat.le_trans I.sz h)) (Nat.lt_irrefl _)
theorem Inv.cne (I:Inv X pins σ H s):∀ x c,X.env.cells.lookup x=some c->c≠X.env.locals:=fun x c e z=>by
 obtain ⟨v,o,ho,hd⟩:=I.cell x c e
 obtain ⟨m,⟨o',es,ep,ho',hd',_⟩,_⟩:=I.loc
 rw [z,ho'] at ho; cases ho; rw [hd'] at hd; cases hd
theorem Inv.funs (I:Inv X pins σ H s):s.heap.FunFrames X.base X.outer:=by
 have all:∀ (l:List Env),(∀ b∈frs l,b∈X.fs)->X.s₀.heap.FunFrames X.base l->s.heap.FunFrames X.base l:=by
  intro l
  induction l with
  | nil=>intro _ _; trivial
  | cons env r ih=>
   intro hs hl
   obtain ⟨hk,⟨L,o,hf,hn,ho,hd⟩,hr⟩:=hl
   have hL:L∈X.fs:=hs L (by unfold frs; rw [List.filterMap_cons,hf]; exact List.mem_cons_self)
   obtain ⟨sl,e⟩:=I.base.slot L o ho (I.ok.frf L hL) hL fun z=>I.ok.exfs L z hL
   exact ⟨hk,⟨L,_,hf,hn,e,hd⟩,ih (fun b hb=>hs b (by unfold frs; rw [List.filterMap_cons,hf]; exact List.mem_cons_of_mem _ hb)) hr⟩
 exact all X.outer (fun _ hb=>hb) I.ok.funs
theorem Inv.stack (I:Inv X pins σ H s):s.heap.FunFrames X.base X.stack:=by
 rcases I.ok.stk with e | ⟨e,hf⟩
 ·rw [e]; exact I.funs
 ·rw [e]
  obtain ⟨m,hn,_⟩:=I.loc
  refine .cons (by rw [I.ok.kind]; decide) hf hn ?_ I.funs
  exact Heap.get?_none_of_le (Nat.le_trans I.ok.bsz I.ok.above)
theorem Inv.stkSub (I:Inv X pins σ H s):∀ b∈frs X.stack,b∈X.env.locals :: X.fs:=fun b hb=>by
 rcases I.ok.stk with e | ⟨e,hf⟩
 ·rw [e] at hb; exact List.mem_cons_of_mem _ hb
 ·rw [e] at hb
  unfold frs at hb
  rw [List.filterMap_cons,hf] at hb
  exact hb
theorem Inv.stkFree (I:Inv X pins σ H s):∀ b∈frs X.stack,H b=none:=fun b hb=>by
 rcases List.mem_cons.mp (I.stkSub b hb) with e | hb
 ·rw [e]; exact I.free
 ·obtain ⟨_,o,ho,_⟩:=I.ok.funs.mem hb
  exact I.base.free b o ho (I.ok.frf b hb) fun z=>I.ok.exfs b z hb
theorem Inv.step {g':Array GenState} {t':Nat} {d':Drawn} {ch:List Addr} (I:Inv X pins σ H s)
  (hch:∀ b∈ch,(b∈X.ex\/X.s₀.heap.objs.size<=b)/\b≠X.env.locals/\(∀ x c,X.env.cells.lookup x=some c->c≠b)/\∀ p∈X.pn++pins,p.1≠b)
  (keep:∀ b o,b≠X.env.locals->b∉X.fs->b∉ch->s.heap.get? b=some o->H b=none->h'.get? b=some o)
  (slot:∀ b o,b≠X.env.locals->b∈X.fs->b∉ch->s.heap.get? b=some o->H b=none->∃ sl,h'.get? b=some { o with slots:=sl }) (free:∀ b o,b∉ch->s.heap.get? b=some o->H b=none->H' b=none)
  (there:∀ b o,b∉ch->s.heap.get? b=some o->∃ o',h'.get? b=some o')
  (tups:∀ b xs,H b=some (.tup xs)->H' b=some (.tup xs)) (frzs:∀ b o u,H b=some (.frz o u)->H' b=some (.frz o u)) (tbls:∀ b ps,H b=some (.tbl ps)->∃ more,H' b=some (.tbl (ps++more)))
  (ns:∀ m,s.heap.Ns X.env.locals m->h'.Ns X.env.locals m) (hok:HOk X.prog X.w H' h') (hg:AllBare g'):
  Inv X pins σ H' { s with heap:=h',gens:=g',drawn:=d',toks:=t' }:=by
 have neL:∀ b o,X.s₀.heap.get? b=some o->b≠X.env.locals:=fun b o e=>Nat.ne_of_lt (Nat.lt_of_lt_of_le (Heap.lt_size e) I.ok.above)
 have neC:∀ b o,X.s₀.heap.get? b=some o->b∉X.ex->b∉ch:=fun b o e hx hb=>by
  rcases (hch b hb).1 with z | z
  ·exact hx z
  ·exact absurd (Nat.lt_of_lt_of_le (Heap.lt_size e) z) (Nat.lt_irrefl _)
 have cellK:∀ x c,X.env.cells.lookup x=some c->∀ v,s.heap.IsCell c v->h'.IsCell c v:=fun x c e v ⟨o,ho,hd⟩=>by
  have nch:c∉ch:=fun z=>(hch c z).2.2.1 x c e rfl
  by_cases hc:c∈X.fs
  ·obtain ⟨sl,q⟩:=slot c o (I.cne x c e) hc nch ho (I.freeC x c e)
   exact ⟨_,q,hd⟩
  ·exact ⟨o,keep c o (I.cne x c e) hc nch ho (I.freeC x c e),hd⟩
 refine ⟨I.ok,I.os,hg,⟨fun b o e n hb hx=>?_,fun b o e n hb hx=>?_,fun b o e n hx=>?_,fun b o e hx=>?_,fun b xs e=>tups b xs (I.base.tups b xs e),fun b o xs e=>frzs b o xs (I.base.frzs b o xs e),fun b ps e=>?_⟩,?_,fun x c e=>?_,?_,fun x c e=>?_,fun p hp=>?_,hok,I.len⟩
 ·exact keep b o (neL b o e) hb (neC b o e hx) (I.base.keep b o e n hb hx) (I.base.free b o e n hx)
 ·obtain ⟨sl,e1⟩:=I.base.slot b o e n hb hx
  obtain ⟨sl',e2⟩:=slot b _ (neL b o e) hb (neC b o e hx) e1 (I.base.free b o e n hx)
  exact ⟨sl',e2⟩
 ·obtain ⟨o',e1⟩:=I.base.there b o e hx
  exact free b o' (neC b o e hx) e1 (I.base.free b o e n hx)
 ·obtain ⟨o',e1⟩:=I.base.there b o e hx
  exact there b o' (neC b o e hx) e1
 ·obtain ⟨m1,e1⟩:=I.base.tbls b ps e
  obtain ⟨m2,e2⟩:=tbls b _ e1
  exact ⟨m1++m2,by rw [e2,Array.append_assoc]⟩
 ·obtain ⟨m,hn,hl⟩:=I.loc
  refine ⟨m,ns m hn,fun i x v e1 e2 e3=>?_⟩
  obtain ⟨u,r,l⟩:=hl i x v e1 e2 e3
  refine ⟨u,r,?_⟩
  rcases l with l | ⟨k,c,e,z⟩
  ·exact .inl l
  ·exact .inr ⟨k,c,e,cellK x c e _ z⟩
 ·obtain ⟨v,z⟩:=I.cell x c e
  exact ⟨v,cellK x c e v z⟩
 ·obtain ⟨m,⟨o,_,_,ho,_⟩,_⟩:=I.loc
  exact free _ o (fun z=>(hch _ z).2.1 rfl) ho I.free
 ·obtain ⟨v,o,ho,hd⟩:=I.cell x c e
  exact free c o (fun z=>(hch c z).2.2.1 x c e rfl) ho (I.freeC x c e)
 ·obtain ⟨e,n,ne,nf,d⟩:=I.pin p hp
  have nch:p.1∉ch:=fun z=>(hch p.1 z).2.2.2 p hp rfl
  exact ⟨keep p.1 p.2 ne nf nch e n,free p.1 p.2 nch e n,ne,nf,d⟩
theorem Inv.un {t':Nat} (I:Inv X pins σ H s) (u:Un X.fs [] H H' s.heap h') (hok:HOk X.prog X.w H' h'):Inv X pins σ H' { s with heap:=h',toks:=t' }:=by
 obtain ⟨m,⟨o,es,ep,ho,r⟩,_⟩:=id I.loc
 obtain ⟨sl,hL⟩:=u.any ho I.free (by simp)
 exact I.step (g':=s.gens) (d':=s.drawn) (ch:=[]) (fun _ z=>nomatch z) (fun b o _ hb _ e n=>u.keep b o e n hb (by simp)) (fun b o _ hb _ e n=>u.slot b o e n hb (by simp)) (fun b o _ e n=>u.free b o e n (by simp)) (fun b o _ e=>u.there b o e (by simp)) u.tups u.frzs u.tbls (fun m' hm=>by
  obtain ⟨o',es',ep',ho',r'⟩:=hm
  rw [ho] at ho'; cases ho'
  exact ⟨_,es',ep',hL,r'⟩) hok I.bare
theorem Inv.call {g':Array GenState} {t':Nat} {d':Drawn} {ch:List Addr} (I:Inv X pins σ H s) (u:Un (frs X.stack) ch H H' s.heap h') (hok:HOk X.prog X.w H' h') (hg:AllBare g')
  (hch:∀ b∈ch,(b∈X.ex\/X.s₀.heap.objs.size<=b)/\b≠X.env.locals/\(∀ x c,X.env.cells.lookup x=some c->c≠b)/\∀ p∈X.pn++pins,p.1≠b):
  Inv X pins σ H' { s with heap:=h',gens:=g',drawn:=d',toks:=t' }:=by
 obtain ⟨m,⟨o,es,ep,ho,r⟩,_⟩:=id I.loc
 obtain ⟨sl,hL⟩:=u.any ho I.free fun z=>(hch _ z).2.1 rfl
 exact I.step (ch:=ch) hch (fun b o hL hb hc e n=>u.keep b o e n (fun z=>(List.mem_cons.mp (I.stkSub b z)).elim hL hb) hc) (fun b o _ _ hc e n=>u.any e n hc) (fun b o hc e n=>u.free b o e n hc) (fun b o hc e=>u.there b o e hc) u.tups u.frzs u.tbls (fun m' hm=>by
  obtain ⟨o',es',ep',ho',r'⟩:=hm
  rw [ho] at ho'; cases ho'
  exact ⟨_,es',ep',hL,r'⟩) hok hg
theorem Inv.turned {t':Nat} {it:Addr} (I:Inv X pins σ H s) (k:∀ b o,b≠it->s.heap.get? b=some o->h'.get? b=some o) (hn:H it=none) (hL:it≠X.env.locals)
  (h1:it∈X.ex\/X.s₀.heap.objs.size<=it) (h2:∀ x c,X.env.cells.lookup x=some c->c≠it) (h3:∀ p∈X.pn++pins,p.1≠it):Inv X pins σ H { s with heap:=h',toks:=t' }:=by
 have nit:∀ b u,H b=some u->b≠it:=fun b u e z=>by rw [z,hn] at e; cases e
 refine I.step (g':=s.gens) (d':=s.drawn) (ch:=[it]) (fun b hb=>?_) (fun b o _ _ hc e _=>k b o (fun z=>hc (by simp [z])) e) (fun b o _ _ hc e _=>⟨o.slots,k b o (fun z=>hc (by simp [z])) e⟩) (fun _ _ _ _ n=>n)
  (fun b o hc e=>⟨o,k b o (fun z=>hc (by simp [z])) e⟩) (fun _ _ e=>e) (fun _ _ _ e=>e) (fun b ps e=>⟨#[],by rw [e]; simp⟩) (fun m hm=>?_) (fun b u e=>?_) I.bare
 ·have e:b=it:=by simpa using hb
  subst e
  exact ⟨h1,hL,h2,h3⟩
 ·obtain ⟨o,es,ep,ho,r⟩:=hm
  exact ⟨o,es,ep,k _ o (Ne.symm hL) ho,r⟩
 ·refine (I.hok b u e).stay (fun c v hc q=>k c v ?_ q) (fun _ q=>q) fun _ _ q=>q
  rcases hc with z | z
  ·rw [z]; exact nit b u e
  ·exact nit c _ z
theorem Inv.tok (I:Inv X pins σ H s) (t:Nat):Inv X pins σ H { s with toks:=t }:=I.un (h':=s.heap) (t':=t) Un.refl I.hok
theorem Inv.kept {t':Nat} (I:Inv X pins σ H s) (k:∀ b u,s.heap.get? b=some u->h'.get? b=some u):Inv X pins σ H { s with heap:=h',toks:=t' }:=I.un (Un.kept k) (I.hok.kept k)
theorem Inv.laid {a:Addr} {o:HO} {t':Nat} (I:Inv X pins σ H s) (k:∀ b u,s.heap.get? b=some u->h'.get? b=some u) (hp:s.heap.objs.size<=a) (new:cV X.prog X.w (upd H a o) h' a o):
  Inv X pins σ (upd H a o) { s with heap:=h',toks:=t' }:=I.un (Un.laid k hp (I.hok.fresh hp)) (I.hok.laid k hp new)
theorem Inv.write {x e:Addr} {o:HO} {t':Nat} (I:Inv X pins σ H s) (mu:Mut (H x)) (he:e=x\/H e=some (.own x)) (k:∀ b u,b≠e->s.heap.get? b=some u->h'.get? b=some u) (heo:∃ u,h'.get? e=some u)
  (new:cV X.prog X.w (upd H x o) h' x o):Inv X pins σ (upd H x o) { s with heap:=h',toks:=t' }:=I.un (Un.write mu he k heo) (I.hok.write mu he k heo new)
theorem Inv.pins_of {pins':List (Addr×Obj)} (I:Inv X pins σ H s) (h:∀ p∈pins',s.heap.get? p.1=some p.2/\H p.1=none/\p.1≠X.env.locals/\p.1∉X.fs/\∀ v,p.2.data≠.cell v):Inv X pins' σ H s:=
 ⟨I.ok,I.os,I.bare,I.base,I.loc,I.cell,I.free,I.freeC,fun p hp=>(List.mem_append.mp hp).elim (fun z=>I.pin p (List.mem_append_left _ z)) (h p),I.hok,I.len⟩
theorem CP {N:List Str} (hN:N.Nodup) {i j:Nat} {x:Str} (a:N[i]?=some x) (b:N[j]?=some x):i=j:=by
 obtain ⟨h1,e1⟩:=List.getElem?_eq_some_iff.mp a
 obtain ⟨h2,e2⟩:=List.getElem?_eq_some_iff.mp b
 exact (List.getElem_inj hN).mp (e1.trans e2.symm)
theorem Ay {M:Model} {A:Around} {E:Value->Shared->Prop} {i:Nat} {x:Str} {v:V} {u:Value} {Q:Unit->Shared->Prop} (I:Inv X pins σ H s) (hN:X.N.Nodup) (hi:X.N[i]?=some x) (hx:Loc X.env.scope x) (r:RelV v u)
  (h:∀ s',Inv X pins (σ.set i (some v)) H s'->(∃ a,Heap.SameBut a s.heap s'.heap/\(a=X.env.locals\/X.env.cells.lookup x=some a))->Q () s') (hf:X.fn x=true\/X.env.scope.names.lookup x=some .local:=by first | exact .inl rfl | exact .inr rfl | assumption):wpAny M A (storeName X.env x u) Q E s:=by
 obtain ⟨m,hn,hl⟩:=id I.loc
 have hcls:(X.env.scope.kind == .class || (X.env.scope.kind == .module && X.env.locals != X.env.globals))=false:=by rw [I.ok.kind]; rfl
 have hiσ:i < σ.length:=by rw [I.len]; exact (List.getElem?_eq_some_iff.mp hi).1
 have cne:=I.cne
 have tracked:∀ {a:Addr} {h':Heap},(∃ o,s.heap.get? a=some o/\H a=none)->Heap.SameBut a s.heap h'->HOk X.prog X.w H h':=fun {a h'} ha hs b ob e=>by
  obtain ⟨_,_,hfree⟩:=ha
  refine (I.hok b ob e).stay (fun c w' hc q=>(hs.2 c ?_).trans q) (fun _ q=>q) fun _ _ q=>q
  rintro rfl
  rcases hc with rfl | hc
  ·rw [hfree] at e; cases e
  ·rw [hfree] at hc; cases hc
 rcases hx with hk | hk
 ·refine wpAny_storeName_local hk hn (fun h' hn' hs=>?_) hcls
  obtain ⟨oL,_,_,hoL,_⟩:=id hn
  refine h _ ⟨I.ok,I.os,I.bare,⟨fun b o e n hb hx=>?_,fun b o e n hb hx=>?_,I.base.free,fun b o e hx=>?_,I.base.tups,I.base.frzs,I.base.tbls⟩,⟨_,hn',fun j y v' e1 e2 e3=>?_⟩,fun y c e=>?_,I.free,I.freeC,fun p hp=>?_,tracked ⟨oL,hoL,I.free⟩ hs,by simpa using I.len⟩ ⟨_,hs,.inl rfl⟩
  ·exact (hs.2 b (Nat.ne_of_lt (Nat.lt_of_lt_of_le (Heap.lt_size e) I.ok.above))).trans (I.base.keep b o e n hb hx)
  ·obtain ⟨sl,e1⟩:=I.base.slot b o e n hb hx
   exact ⟨sl,(hs.2 b (Nat.ne_of_lt (Nat.lt_of_lt_of_le (Heap.lt_size e) I.ok.above))).trans e1⟩
  ·obtain ⟨o',e1⟩:=I.base.there b o e hx
   exact ⟨o',(hs.2 b (Nat.ne_of_lt (Nat.lt_of_lt_of_le (Heap.lt_size e) I.ok.above))).trans e1⟩
  ·by_cases hj:j=i
   ·subst hj
    rw [hi] at e1; cases e1
    rw [List.getElem?_set_self hiσ] at e2
    cases e2
    exact ⟨u,r,.inl ⟨hk,by simp⟩⟩
   ·rw [List.getElem?_set_ne (Ne.symm hj)] at e2
    obtain ⟨u',r',q⟩:=hl j y v' e1 e2 e3
    refine ⟨u',r',?_⟩
    rcases q with ⟨k,e⟩ | ⟨k,c,e,z⟩
    ·refine .inl ⟨k,?_⟩
     have:y≠x:=fun e=>hj (CP hN e1 (e ▸ hi))
     simp [this,e]
    ·exact .inr ⟨k,c,e,z.sameBut hs (cne y c e)⟩
  ·obtain ⟨w',z⟩:=I.cell y c e
   exact ⟨w',z.sameBut hs (cne y c e)⟩
  ·obtain ⟨e,n,ne,nf,d⟩:=I.pin p hp
   exact ⟨(hs.2 p.1 ne).trans e,n,ne,nf,d⟩
 ·have hfn:X.fn x=true:=by
   rcases hf with z | z
   ·exact z
   ·rw [z] at hk; cases hk
  obtain ⟨c,hc⟩:=I.ok.has x (.inl hk)
  obtain ⟨w',z⟩:=I.cell x c hc
  refine wpAny_storeName_cell I.ok.kind hk hc z (fun h' hc' hs=>?_)
  obtain ⟨oc,hoc,hocd⟩:=id z
  refine h { s with heap:=h' } ⟨I.ok,I.os,I.bare,⟨fun b o e n hb hx=>?_,fun b o e n hb hx=>?_,I.base.free,fun b o e hx=>?_,I.base.tups,I.base.frzs,I.base.tbls⟩,⟨m,hn.sameBut hs (Ne.symm (cne x c hc)),fun j y v' e1 e2 e3=>?_⟩,fun y c' e=>?_,I.free,I.freeC,fun p hp=>?_,tracked ⟨oc,hoc,I.freeC x c hc⟩ hs,by simpa using I.len⟩ ⟨c,hs,.inr hc⟩
  ·exact (hs.2 b (Nat.ne_of_lt (Nat.lt_of_lt_of_le (Heap.lt_size e) (I.ok.cab x c hfn hc)))).trans (I.base.keep b o e n hb hx)
  ·obtain ⟨sl,e1⟩:=I.base.slot b o e n hb hx
   exact ⟨sl,(hs.2 b (Nat.ne_of_lt (Nat.lt_of_lt_of_le (Heap.lt_size e) (I.ok.cab x c hfn hc)))).trans e1⟩
  ·obtain ⟨o',e1⟩:=I.base.there b o e hx
   exact ⟨o',(hs.2 b (Nat.ne_of_lt (Nat.lt_of_lt_of_le (Heap.lt_size e) (I.ok.cab x c hfn hc)))).trans e1⟩
  ·by_cases hj:j=i
   ·subst hj
    rw [hi] at e1; cases e1
    rw [List.getElem?_set_self hiσ] at e2
    cases e2
    exact ⟨u,r,.inr ⟨.inl hk,c,hc,hc'⟩⟩
   ·rw [List.getElem?_set_ne (Ne.symm hj)] at e2
    obtain ⟨u',r',q⟩:=hl j y v' e1 e2 e3
    refine ⟨u',r',?_⟩
    rcases q with q | ⟨k,c',e,z'⟩
    ·exact .inl q
    ·refine .inr ⟨k,c',e,z'.sameBut hs ?_⟩
     rintro rfl
     exact hj (CP hN e1 (I.ok.inj _ _ _ e hc ▸ hi))
  ·by_cases hcc:c'=c
   ·subst hcc; exact ⟨_,hc'⟩
   ·obtain ⟨w2,z2⟩:=I.cell y c' e
    exact ⟨w2,z2.sameBut hs hcc⟩
  ·obtain ⟨e,n,ne,nf,d⟩:=I.pin p hp
   refine ⟨(hs.2 p.1 ?_).trans e,n,ne,nf,d⟩
   intro q
   rw [q,hoc] at e
   have q':oc=p.2:=Option.some.inj e
   exact d w' (by rw [<- q']; exact hocd)
theorem CQ {M:Model} {A:Around} {E:Value->Shared->Prop} {i:Nat} {x:Str} {v:V} {u:Value} {Q:Unit->Shared->Prop} (I:Inv X pins σ H s) (hN:X.N.Nodup) (hi:X.N[i]?=some x) (hx:Loc X.env.scope x) (r:RelV v u)
  (h:∀ s',Inv X pins (σ.set i (some v)) H s'->Q () s') (hf:X.fn x=true\/X.env.scope.names.lookup x=some .local:=by first | exact .inl rfl | exact .inr rfl | assumption):wpAny M A (storeName X.env x u) Q E s:=
 Ay I hN hi hx r (fun s' I' _=>h s' I') hf
theorem Inv.call' {s':Shared} {ch:List Addr} (I:Inv X pins σ H s) (ho:s'.os=s.os) (u:Un (frs X.stack) ch H H' s.heap s'.heap) (hok:HOk X.prog X.w H' s'.heap) (hg:AllBare s'.gens)
  (hch:∀ b∈ch,(b∈X.ex\/X.s₀.heap.objs.size<=b)/\b≠X.env.locals/\(∀ x c,X.env.cells.lookup x=some c->c≠b)/\∀ p∈X.pn++pins,p.1≠b):Inv X pins σ H' s':=by
 obtain ⟨h',g',d',t',o'⟩:=s'
 have e:o'=s.os:=ho
 subst e
 exact I.call (g':=g') (t':=t') (d':=d') u hok hg hch
end
abbrev XK:=Value->Option Addr->Hp->Prop
abbrev St:=List (Option V)
abbrev VK:=V->Hp->Prop
abbrev TE:=St->Hp->VK->Prop
abbrev TT:=St->Hp->(Bool->Hp->Prop)->Prop
abbrev TA:=St->Hp->(List V->Hp->Prop)->Prop
structure Ends where
 nx:St->Hp->Prop
 rt:VK
 bk:St->Hp->Prop:=fun _ _=>False
 ct:St->Hp->Prop:=fun _ _=>False
abbrev TS:=Ends->St->Hp->Prop
def EP (X:Cx) (pins:List (Addr×Obj)) (σ:St) (Q:VK) (u:Value) (s':Shared):Prop:=∃ v H',Inv X pins σ H' s'/\RelV v u/\Q v H'
def TP (X:Cx) (pins:List (Addr×Obj)) (σ:St) (Q:Bool->Hp->Prop) (b:Bool) (s':Shared):Prop:=∃ H',Inv X pins σ H' s'/\Q b H'
def AP (X:Cx) (pins:List (Addr×Obj)) (σ:St) (Q:List V->Hp->Prop) (us:List Value) (s':Shared):Prop:=∃ vs H',Inv X pins σ H' s'/\aP vs us/\Q vs H'
def SP (X:Cx) (pins:List (Addr×Obj)) (D:Ends) (f:Flow) (s':Shared):Prop:=
 match f with
 | .next=>∃ σ' H',Inv X pins σ' H' s'/\D.nx σ' H'
 | .brk=>∃ σ' H',Inv X pins σ' H' s'/\D.bk σ' H'
 | .cont=>∃ σ' H',Inv X pins σ' H' s'/\D.ct σ' H'
 | .ret u=>∃ v σ' H',Inv X pins σ' H' s'/\RelV v u/\D.rt v H'
def PE (X:Cx) (e:Expr) (t:TE):Prop:=
 ∀ (pins:List (Addr×Obj)) (s:Shared) (σ:St) (H:Hp) (Q:VK),Inv X pins σ H s->t σ H Q->wpAny (model X.prog X.w) X.A (eval e X.env) (EP X pins σ Q) X.xe s
def PT (X:Cx) (e:Expr) (t:TT):Prop:=
 ∀ (pins:List (Addr×Obj)) (s:Shared) (σ:St) (H:Hp) (Q:Bool->Hp->Prop),Inv X pins σ H s->t σ H Q->wpAny (model X.prog X.w) X.A (isTrue e X.env (eval e X.env)) (TP X pins σ Q) X.xe s
def PW (X:Cx) (e:Expr) (t:TT):Prop:=
 ∀ (whole:Sem Value) (pins:List (Addr×Obj)) (s:Shared) (σ:St) (H:Hp) (Q:Bool->Hp->Prop),Inv X pins σ H s->t σ H Q->wpAny (model X.prog X.w) X.A (isTrue e X.env whole) (TP X pins σ Q) X.xe s
theorem PW.pt {X:Cx} {e:Expr} {t:TT} (h:PW X e t):PT X e t:=h _
def PA (X:Cx) (es:List Expr) (t:TA):Prop:=
 ∀ (pos:Pos) (pins:List (Addr×Obj)) (s:Shared) (σ:St) (H:Hp) (Q:List V->Hp->Prop),Inv X pins σ H s->t σ H Q->wpAny (model X.prog X.w) X.A (spliced (backTo pos (starEach es X.env))) (AP X pins σ Q) X.xe s
def PS (X:Cx) (st:Stmt) (t:TS):Prop:=
 ∀ (pins:List (Addr×Obj)) (s:Shared) (σ:St) (H:Hp) (D:Ends),Inv X pins σ H s->t D σ H->wpAny (model X.prog X.w) X.A (exec st X.env) (SP X pins D) X.xe s
def PSs (X:Cx) (st:List Stmt) (t:TS):Prop:=
 ∀ (pins:List (Addr×Obj)) (s:Shared) (σ:St) (H:Hp) (D:Ends),Inv X pins σ H s->t D σ H->wpAny (model X.prog X.w) X.A (execs st X.env) (SP X pins D) X.xe s
theorem thn {α:Type} {t:Sem α} {Q Q':α->Shared->Prop} {M:Model} {A:Around} {E:Value->Shared->Prop} {s:Shared} (h:wpAny M A t Q E s) (hQ:∀ a s,Q a s->Q' a s):wpAny M A t Q' E s:=wpAny_mono h hQ fun _ _ x=>x
end L2
namespace L2
open PySem PySem.Spec PyProof.Rows
section
variable {X:Cx}
def R1 (i:Nat):TE:=fun σ H Q=>∃ v,σ[i]?=some (some v)/\Q v H
def tC (v:V):TE:=fun _ H Q=>Q v H
theorem J9 {i:Nat} {x:Str} {pos:Pos} (hN:X.N[i]?=some x) (hv:Vis X.env.scope x) (hd:(x == ("__debug__" : Str))=false:=by decide) (hcd:(x == ("__classdict__" : Str))=false:=by decide):PE X (.Name x pos) (R1 i):=by
 intro pins s σ H Q I h
 obtain ⟨v,e,h⟩:=h
 obtain ⟨m,hn,hl⟩:=I.loc
 obtain ⟨u,r,l⟩:=hl i x v hN e hv
 have fin:EP X pins σ Q u s:=⟨v,H,I,r,h⟩
 rcases l with ⟨hk,hm⟩ | ⟨hk,c,hc,hcell⟩
 ·exact wpAny_Name (wpAny_loadName_local I.ok.kind hk hn hm fin) hd
 ·rcases hk with hk | hk
  ·exact wpAny_Name (wpAny_loadName_cell I.ok.kind hk hc hcell fin) hd
  ·exact wpAny_Name (wpAny_loadName_free I.ok.kind hk hc hcell fin hcd) hd
theorem OV {i j pos}:PE X (.Constant (.int i) j pos) (tC (.int i)):=fun _ _ _ H _ I h=>wpAny_Constant_int ⟨.int i,H,I.tok _,⟨_,rfl⟩,h⟩
theorem R3 {b j pos}:PE X (.Constant (.bool b) j pos) (tC (.bl b)):=fun _ _ _ H _ I h=>Constant_bool ⟨.bl b,H,I,rfl,h⟩
theorem OW {x j pos}:PE X (.Constant (.str x) j pos) (tC (.str x)):=fun _ _ _ H _ I h=>Calls.Constant_str ⟨.str x,H,I.tok _,⟨_,rfl⟩,h⟩
def Gl (X:Cx) (x:Str):Prop:=X.env.kindOf x=some .globalImplicit
theorem Bo {E:Value->Shared->Prop} {pins:List (Addr×Obj)} {s:Shared} {σ:St} {H:Hp} {x:Str} {u:Value} {pos:Pos} {Q:Value->Shared->Prop} (I:Inv X pins σ H s) (hg:Gl X x) (hm:X.mg x=some u) (h:Q u s)
  (hd:(x == ("__debug__" : Str))=false:=by decide):wpAny (model X.prog X.w) X.A (eval (.Name x pos) X.env) Q E s:=
 Calls.Name_function_global I.ok.kind hg (Calls.loadGlobal_global (by rw [I.ok.glob]; exact I.mod.glob.keeps I.bk) hm h) hd
theorem Bp {E:Value->Shared->Prop} {pins:List (Addr×Obj)} {s:Shared} {σ:St} {H:Hp} {x:Str} {u:Value} {pos:Pos} {Q:Value->Shared->Prop} (I:Inv X pins σ H s) (hg:Gl X x) (hm:X.mg x=none) (hv:bootBuiltins x=some u) (h:Q u s)
  (hn:x≠"__name__" := by decide) (hd:(x == ("__debug__" : Str))=false:=by decide):wpAny (model X.prog X.w) X.A (eval (.Name x pos) X.env) Q E s:=by
 obtain ⟨mb,h1,h2⟩:=I.mod.blt
 exact Calls.Name_function_global I.ok.kind hg (Calls.loadGlobal_builtin (by rw [I.ok.glob]; exact I.mod.glob.keeps I.bk) hm (by rw [I.ok.blt]; exact h1.keeps I.bk) ((h2 x hn).trans hv) h) hd
variable {a b:Expr} {ta tb:TE} {pos:Pos}
variable {tA tB':TT} {rest:List Expr}
def Tp (t u:TT):TT:=fun σ H Q=>t σ H fun c H1=>if c=true then u σ H1 Q else Q false H1
def tOr (t u:TT):TT:=fun σ H Q=>t σ H fun c H1=>if c=true then Q true H1 else u σ H1 Q
def Tq (t:TT):TT:=fun σ H Q=>t σ H fun c H1=>Q (!c) H1
theorem Mu (ha:PT X a tA):PW X (.BoolOp .And [a] pos) tA:=by
 intro wh pins s σ H Q I h
 refine isTrue_and (thn (ha pins s σ H Q I h) fun c s1 e=>?_)
 cases c with
 | true=>exact isTrue_and_nil e
 | false=>exact e
theorem OX (ha:PT X a tA):PW X (.BoolOp .Or [a] pos) tA:=by
 intro wh pins s σ H Q I h
 refine isTrue_or (thn (ha pins s σ H Q I h) fun c s1 e=>?_)
 cases c with
 | false=>exact isTrue_or_nil e
 | true=>exact e
theorem OY (ha:PT X a tA) (hb:PW X (.BoolOp .And (b :: rest) pos) tB'):PW X (.BoolOp .And (a :: b :: rest) pos) (Tp tA tB'):=by
 intro wh pins s σ H Q I h
 refine isTrue_and (thn (ha pins s σ H _ I h) fun c s1 ⟨H1,I1,q1⟩=>?_)
 cases c with
 | true=>exact hb wh pins s1 σ H1 Q I1 q1
 | false=>exact ⟨H1,I1,q1⟩
theorem R4 (ha:PT X a tA) (hb:PW X (.BoolOp .Or (b :: rest) pos) tB'):PW X (.BoolOp .Or (a :: b :: rest) pos) (tOr tA tB'):=by
 intro wh pins s σ H Q I h
 refine isTrue_or (thn (ha pins s σ H _ I h) fun c s1 ⟨H1,I1,q1⟩=>?_)
 cases c with
 | true=>exact ⟨H1,I1,q1⟩
 | false=>exact hb wh pins s1 σ H1 Q I1 q1
theorem OZ (ha:PT X a tA):PT X (.UnaryOp .Not a pos) (Tq tA):=by
 intro pins s σ H Q I h
 exact isTrue_not (ha pins s σ H (fun c H1=>Q (!c) H1) I h)
theorem P0 {op} {t:TE} (h:PE X a t):PE X (.BoolOp op [a] pos) t:=fun pins s σ H Q I hw=>BoolOp_one (h pins s σ H Q I hw)
end
end L2
namespace L2
open PySem PySem.Spec PyProof.Rows
def SqL (K:PySem.W.Frag) (H:Hp) (a:Addr) (xs:List V):Prop:=
 Rd H a (.lst xs)\/
  ∃ (o:Obj) (its:Array Value) (n:Nat),K.lookup a=some o/\o.cls=.type "list" /\ o.dict=none/\o.data=.seq its n/\its.size<=sizeLine/\aP xs its.toList
def SqT (K:PySem.W.Frag) (H:Hp) (a:Addr) (xs:List V):Prop:=
 Rd H a (.tup xs)\/
  ∃ (o:Obj) (its:Array Value) (n:Nat),K.lookup a=some o/\o.cls=.type "tuple" /\ o.data=.seq its n/\its.size<=sizeLine/\aP xs its.toList/\o.dict=none
def Tr:Value->Option V
 | .none=>some .non
 | .bool b=>some (.bl b)
 | .int i _=>some (.int i)
 | .str x _=>some (.str x)
 | .bytes b _=>some (.byt b)
 | .float b _=>some (.flt b)
 | .ref a=>some (.ref a)
 | .type n=>some (.ty n)
 | _=>none
theorem RelV.abs {x:V} {u:Value} (r:RelV x u):Tr u=some x:=by
 cases x with
 | non=>cases r; rfl
 | bl _=>cases r; rfl
 | int _=>obtain ⟨t,rfl⟩:=r; rfl
 | str _=>obtain ⟨t,rfl⟩:=r; rfl
 | byt _=>obtain ⟨t,rfl⟩:=r; rfl
 | flt _=>obtain ⟨t,rfl⟩:=r; rfl
 | ref _=>cases r; rfl
 | ty _=>cases r; rfl
theorem RelV.inj {x y:V} {u:Value} (r:RelV x u) (q:RelV y u):x=y:=Option.some.inj (r.abs.symm.trans q.abs)
theorem aP.inj:∀ {xs ys:List V} {us:List Value},aP xs us->aP ys us->xs=ys
 | _,_,_,.nil,.nil=>rfl
 | _,_,_,.cons r t,.cons r' t'=>by rw [r.inj r',aP.inj t t']
section
variable {X:Cx} {pins:List (Addr×Obj)} {σ:St} {H:Hp} {s:Shared} {a:Addr} {xs ys:List V}
theorem SqL.of {K:PySem.W.Frag} (h:H a=some (.lst xs)):SqL K H a xs:=.inl (.inl h)
theorem SqT.of {K:PySem.W.Frag} (h:H a=some (.tup xs)):SqT K H a xs:=.inl (.inl h)
theorem Inv.list (I:Inv X pins σ H s) (h:SqL X.K H a xs):∃ its:List Value,aP xs its/\PlainL s.heap a its.toArray/\xs.length<=sizeLine:=by
 rcases h with h | ⟨o,its,n,hk,hc,hd,hs,hz,r⟩
 ·obtain ⟨z,its,n,r,e⟩:=h.ok I.hok
  exact ⟨its,r,⟨_,n,e,rfl,rfl,rfl⟩,z⟩
 ·refine ⟨its.toList,r,⟨o,n,I.kIn a o hk,hc,hd,by simpa using hs⟩,?_⟩
  have e:=r.length
  simp only [Array.length_toList] at e
  omega
theorem Inv.tuple (I:Inv X pins σ H s) (h:SqT X.K H a xs):∃ its:List Value,aP xs its/\IsTup s.heap a its.toArray/\xs.length<=sizeLine:=by
 rcases h with h | ⟨o,its,n,hk,hc,hs,hz,r,_⟩
 ·obtain ⟨z,its,r,p⟩:=h.ok I.hok
  exact ⟨its,r,p.is,z⟩
 ·refine ⟨its.toList,r,⟨o,I.kIn a o hk,hc,n,by simpa using hs⟩,?_⟩
  have e:=r.length
  simp only [Array.length_toList] at e
  omega
theorem Inv.list_inj (I:Inv X pins σ H s) (h:SqL X.K H a xs) (h':SqL X.K H a ys):xs=ys:=by
 obtain ⟨its,r,⟨o,n,e,_,_,d⟩,_⟩:=I.list h
 obtain ⟨its',r',⟨o',n',e',_,_,d'⟩,_⟩:=I.list h'
 rw [e] at e'; cases e'
 rw [d] at d'
 injection d' with d1 _
 have:its=its':=by simpa using congrArg Array.toList d1
 subst this
 exact r.inj r'
theorem Inv.tuple_inj (I:Inv X pins σ H s) (h:SqT X.K H a xs) (h':SqT X.K H a ys):xs=ys:=by
 obtain ⟨its,r,⟨o,e,_,n,d⟩,_⟩:=I.tuple h
 obtain ⟨its',r',⟨o',e',_,n',d'⟩,_⟩:=I.tuple h'
 rw [e] at e'; cases e'
 rw [d] at d'
 injection d' with d1 _
 have:its=its':=by simpa using congrArg Array.toList d1
 subst this
 exact r.inj r'
end
abbrev Cx.wish (X:Cx) (E:Value->Shared->Prop):Cx:={ X with xe:=E }
abbrev Cx.nox (X:Cx):Cx:=X.wish fun _ _=>False
theorem Cx.Ok.wish {X:Cx} (ok:X.Ok) (E:Value->Shared->Prop):(X.wish E).Ok:=
 ⟨ok.mod,ok.kind,ok.glob,ok.blt,ok.above,ok.inj,ok.has,ok.cab,ok.hd,ok.frames,ok.stk,ok.exf,ok.bs,ok.bsz,ok.noex,ok.exfs,ok.funs,ok.frf⟩
theorem Cx.Ok.unwish {X:Cx} {E:Value->Shared->Prop} (ok:(X.wish E).Ok):X.Ok:=
 ⟨ok.mod,ok.kind,ok.glob,ok.blt,ok.above,ok.inj,ok.has,ok.cab,ok.hd,ok.frames,ok.stk,ok.exf,ok.bs,ok.bsz,ok.noex,ok.exfs,ok.funs,ok.frf⟩
section
variable {X:Cx} {pins:List (Addr×Obj)} {σ:St} {H:Hp} {s:Shared} {E:Value->Shared->Prop}
theorem Inv.wish (I:Inv X pins σ H s) (E:Value->Shared->Prop):Inv (X.wish E) pins σ H s:=⟨I.ok.wish E,I.os,I.bare,I.base,I.loc,I.cell,I.free,I.freeC,I.pin,I.hok,I.len⟩
theorem Inv.unwish (I:Inv (X.wish E) pins σ H s):Inv X pins σ H s:=⟨I.ok.unwish,I.os,I.bare,I.base,I.loc,I.cell,I.free,I.freeC,I.pin,I.hok,I.len⟩
theorem SP.unwish {D:Ends} {f:Flow} {s':Shared} (h:SP (X.wish E) pins D f s'):SP X pins D f s':=by
 cases f with
 | next=>obtain ⟨σ',H',I,q⟩:=h; exact ⟨σ',H',I.unwish,q⟩
 | brk=>obtain ⟨σ',H',I,q⟩:=h; exact ⟨σ',H',I.unwish,q⟩
 | cont=>obtain ⟨σ',H',I,q⟩:=h; exact ⟨σ',H',I.unwish,q⟩
 | ret u=>obtain ⟨v,σ',H',I,r,q⟩:=h; exact ⟨v,σ',H',I.unwish,r,q⟩
theorem PSs.nox {st:List Stmt} {t:TS} (h:PSs X.nox st t):PSs X st t:=fun pins s σ H D I hw=>
 wpAny_mono (h pins s σ H D (I.wish _) hw) (fun _ _ q=>q.unwish) fun _ _ z=>False.elim z
end
section
variable {X:Cx} {st:Stmt} {rest:List Stmt} {t u:TS} {e:Expr} {te:TE} {pos:Pos}
def R5:TS:=fun D σ H=>D.nx σ H
def Ts (t u:TS):TS:=fun D σ H=>t { D with nx:=u D } σ H
theorem Mv:PSs X [] R5:=fun _ _ σ H _ I h=>wpAny_execs_nil ⟨σ,H,I,h⟩
theorem J' (h1:PS X st t) (h2:PSs X rest u):PSs X (st :: rest) (Ts t u):=by
 intro pins s σ H D I h
 refine wpAny_execs_cons (thn (h1 pins s σ H { D with nx:=u D } I h) fun f s1 q=>?_)
 cases f with
 | next=>
  obtain ⟨σ',H',I',q⟩:=q
  exact h2 pins s1 σ' H' D I' q
 | ret v=>exact q
 | brk=>exact q
 | cont=>exact q
theorem Mw (h1:PS X st t):PSs X [st] t:=by
 intro pins s σ H D I h
 refine wpAny_execs_cons (thn (h1 pins s σ H D I h) fun f s1 q=>?_)
 cases f with
 | next=>exact wpAny_execs_nil q
 | ret v=>exact q
 | brk=>exact q
 | cont=>exact q
theorem Inv.quiet {pins:List (Addr×Obj)} {σ:St} {H:Hp} {s:Shared} (I:Inv X pins σ H s):interactive X.env=false:=by simp [interactive,I.ok.kind]
def R6 (te:TE):TS:=fun D σ H=>te σ H fun _ H1=>D.nx σ H1
theorem Mx (he:PE X e te) (hs:swapsWith e none pos.line X.env=pure false:=by rfl):PS X (.Expr e pos) (R6 te):=by
 intro pins s σ H D I h
 exact wpAny_Expr_any (thn (he pins s σ H _ I h) fun v s1 ⟨x,H1,I1,r1,q1⟩=>⟨σ,H1,I1,q1⟩) I.quiet hs
def Tt (te:TE):TS:=fun D σ H=>te σ H D.rt
theorem P1 (he:PE X e te):PS X (.Return (some e) pos) (Tt te):=by
 intro pins s σ H D I h
 exact wpAny_Return_some (thn (he pins s σ H _ I h) fun v s1 ⟨x,H1,I1,r1,q1⟩=>⟨x,σ,H1,I1,r1,q1⟩)
def Tu (c:TT) (t u:TS):TS:=fun D σ H=>c σ H fun b H1=>if b=true then t D σ H1 else u D σ H1
theorem R7 {c:Expr} {a b:List Stmt} {tc:TT} (hc:PT X c tc) (ha:PSs X a t) (hb:PSs X b u):PS X (.If c a b pos) (Tu tc t u):=by
 intro pins s σ H D I h
 refine wpAny_If (thn (hc pins s σ H _ I h) fun d s1 ⟨H1,I1,q1⟩=>?_)
 cases d with
 | true=>exact ha pins s1 σ H1 D I1 q1
 | false=>exact hb pins s1 σ H1 D I1 q1
end
abbrev TG:=V->St->Hp->(St->Hp->Prop)->Prop
abbrev TGs:=List V->St->Hp->(St->Hp->Prop)->Prop
def PG (X:Cx) (target:Expr) (t:TG):Prop:=
 ∀ (pins:List (Addr×Obj)) (s:Shared) (σ:St) (H:Hp) (v:V) (u:Value) (Q:St->Hp->Prop),Inv X pins σ H s->RelV v u->t v σ H Q->
  wpAny (model X.prog X.w) X.A (assign target X.env u) (fun _ s'=>∃ σ' H',Inv X pins σ' H' s'/\Q σ' H') X.xe s
def PGs (X:Cx) (ts:List Expr) (t:TGs):Prop:=
 ∀ (pins:List (Addr×Obj)) (s:Shared) (σ:St) (H:Hp) (vs:List V) (us:List Value) (Q:St->Hp->Prop),Inv X pins σ H s->aP vs us->t vs σ H Q->
  wpAny (model X.prog X.w) X.A (assignInOrder ((assignEach ts X.env).map (·.2)) us) (fun _ s'=>∃ σ' H',Inv X pins σ' H' s'/\Q σ' H') X.xe s
abbrev Tv:=V->V->V->Hp->(Hp->Prop)->Prop
def Tw (X:Cx) (t:Tv):Prop:=
 ∀ (pins:List (Addr×Obj)) (s:Shared) (σ:St) (H:Hp) (o i v:V) (ov iv u:Value) (Q:Hp->Prop),Inv X pins σ H s->RelV o ov->RelV i iv->RelV v u->t o i v H Q->
  wpAny (model X.prog X.w) X.A (setItem ov iv u) (fun _ s'=>∃ H',Inv X pins σ H' s'/\Q H') X.xe s
section
variable {X:Cx} {pos:Pos}
def Ja (i:Nat):TG:=fun v σ H Q=>Q (σ.set i (some v)) H
theorem My {i:Nat} {x:Str} (hN:X.N.Nodup) (hi:X.N[i]?=some x) (hx:Loc X.env.scope x) (hf:X.fn x=true\/X.env.scope.names.lookup x=some .local:=by first | exact .inl rfl | exact .inr rfl | assumption):PG X (.Name x pos) (Ja i):=by
 intro pins s σ H v u Q I r h
 exact wpAny_assign_Name (CQ I hN hi hx r (fun s' I'=>⟨_,H,I',h⟩) hf)
def Tx:TGs:=fun vs σ H Q=>vs=[]/\Q σ H
def R8 (t:TG) (u:TGs):TGs:=fun vs σ H Q=>∃ v r,vs=v :: r/\t v σ H fun σ' H'=>u r σ' H' Q
theorem Mz:PGs X [] Tx:=by
 intro pins s σ H vs us Q I r h
 obtain ⟨e,h⟩:=h
 subst e
 cases r
 exact assignInOrder_nil ⟨σ,H,I,h⟩
theorem Jb {e:Expr} {es:List Expr} {t:TG} {u:TGs} (h1:PG X e t) (h2:PGs X es u)
  (hs:(assignEach (e :: es) X.env).map (·.2)=assign e X.env :: (assignEach es X.env).map (·.2):=by rfl):PGs X (e :: es) (R8 t u):=by
 intro pins s σ H vs us Q I r h
 obtain ⟨v,vr,e1,h⟩:=h
 subst e1
 cases r with
 | cons r rr=>
  rw [hs]
  refine assignInOrder_cons (thn (h1 pins s σ H _ _ _ I r h) fun _ s1 ⟨σ1,H1,I1,q1⟩=>?_)
  exact h2 pins s1 σ1 H1 _ _ Q I1 rr q1
def R9 (K:PySem.W.Frag) (n:Nat) (t:TGs):TG:=fun v σ H Q=>∃ a xs,v=.ref a/\SqT K H a xs/\xs.length=n/\t xs σ H Q
theorem P2 {es:List Expr} {k:Nat} {t:TGs} {n:Nat} (hc:X.calm=true) (h:PGs X es t)
  (hn:(assignEach es X.env).length=n:=by rfl) (hst:(assignEach es X.env).findIdx? (·.1)=none:=by rfl):PG X (.Tuple es k pos) (R9 X.K n t):=by
 intro pins s σ H v u Q I r hw
 obtain ⟨a,xs,e1,hq,hl,hw⟩:=hw
 subst e1
 cases r
 obtain ⟨its,rv,ht,hz⟩:=I.tuple hq
 refine assign_Tuple_tuple (I.ok.hd hc) ht (by simp [hn,<- hl,rv.length]) hst fun h' hx=>?_
 have I1:Inv X pins σ H { s with heap:=h' }:=I.kept (t':=s.toks) fun b o e=>hx b o (Nat.ne_of_lt (Heap.lt_size e)) e
 exact h pins _ σ H xs _ Q I1 (by simpa using rv) hw
def P3 (te:TE) (g:TG):TS:=fun D σ H=>te σ H fun x H1=>g x σ H1 D.nx
theorem P4 {tg e:Expr} {te:TE} {g:TG} (he:PE X e te) (hg:PG X tg g) (hs:swapsWithSole [tg] e pos.line X.env=pure false:=by rfl) (hw:swappedStores [tg] e X.env=pure none:=by rfl)
  (h1:(assignEach [tg] X.env).map (·.2)=[assign tg X.env]:=by rfl):PS X (.Assign [tg] e pos) (P3 te g):=by
 intro pins s σ H D I h
 refine wpAny_Assign_stores (thn (he pins s σ H _ I h) fun v s1 hz=>?_) hs hw
 obtain ⟨x,H1,I1,r1,q1⟩:=hz
 rw [h1]
 exact thn (hg pins s1 σ H1 x v _ I1 r1 q1) fun _ s2 q=>q
theorem P5 {i:Nat} {x:Str} {e:Expr} {te:TE} {pos':Pos} (hN:X.N.Nodup) (hi:X.N[i]?=some x) (hx:Loc X.env.scope x) (he:PE X e te) (hs:swapsWith e (some (.Name x pos')) pos.line X.env=pure false:=by rfl) (hf:X.fn x=true\/X.env.scope.names.lookup x=some .local:=by first | exact .inl rfl | exact .inr rfl | assumption):
  PS X (.Assign [.Name x pos'] e pos) (P3 te (Ja i)):=by
 intro pins s σ H D I h
 refine wpAny_Assign_Name (thn (he pins s σ H _ I h) fun v s1 hz=>?_) hs
 obtain ⟨y,H1,I1,r1,q1⟩:=hz
 exact CQ I1 hN hi hx r1 (fun s2 I2=>⟨_,H1,I2,q1⟩) hf
end
section
variable {X:Cx} {pos:Pos}
end
structure It where
 go:Nat->Hp->Prop
 yld:Nat->Hp->V->Hp->Prop
 stop:Nat->Hp->Prop
def CS (X:Cx) (pins:List (Addr×Obj)) (H:Hp) (b:Addr):Prop:=
 H b=none/\b≠X.env.locals/\b∉X.fs/\(b∈X.ex\/X.s₀.heap.objs.size<=b)/\(∀ x c,X.env.cells.lookup x=some c->c≠b)/\∀ p∈X.pn++pins,p.1≠b
theorem Inv.fpOk {X:Cx} {pins:List (Addr×Obj)} {σ:St} {H H':Hp} {s:Shared} {b:Addr} (I:Inv X pins σ H s) (hb:s.heap.objs.size<=b) (hn:H' b=none):CS X pins H' b:=by
 refine ⟨hn,Nat.ne_of_gt (Nat.lt_of_lt_of_le I.lt hb),I.nofs hb,.inr (Nat.le_trans I.sz hb),fun x c e z=>?_,fun p hp z=>?_⟩
 ·obtain ⟨v,q⟩:=I.cell x c e
  exact absurd (Nat.lt_of_lt_of_le q.lt (by rw [z]; exact hb)) (Nat.lt_irrefl _)
 ·exact absurd (Nat.lt_of_lt_of_le (Heap.lt_size (I.pin p hp).1) (by rw [z]; exact hb)) (Nat.lt_irrefl _)
structure Turn (P:Program) (w:World) (K:PySem.W.Frag) (tg:Expr) (J:It) (fp:List Addr) (it:Addr) (tn:Nat->Heap->Prop):Prop where
 mem:it∈fp
 obj:∀ i h,tn i h->∀ b∈fp,∃ o,h.get? b=some o/\∀ v,o.data≠.cell v
 keep:∀ i h h',tn i h->(∀ b∈fp,∀ o,h.get? b=some o->h'.get? b=some o)->tn i h'
 item:∀ (X:Cx),X.prog=P->X.w=w->X.K=K->X.calm=true->∀ (i:Nat) (pins:List (Addr×Obj)) (s:Shared) (σ:St) (H:Hp) (E:Value->Shared->Prop),Inv X pins σ H s->(∀ b∈fp,CS X pins H b)->tn i s.heap->J.go i H->
  wpAny (model P w) X.A (pyNext (.ref it)) (fun r s1=>∃ u,r=some u/\
   wpAny (model P w) X.A (letOwnedTupleGo tg (.ref it) u) (fun _ s2=>∃ x H',Inv X pins σ H' s2/\RelV x u/\J.yld i H x H'/\tn (i+1) s2.heap/\∀ b∈fp,H' b=none) E s1) E s
 done:∀ (X:Cx),X.prog=P->X.w=w->X.K=K->X.calm=true->∀ (i:Nat) (pins:List (Addr×Obj)) (s:Shared) (σ:St) (H:Hp) (E:Value->Shared->Prop),Inv X pins σ H s->(∀ b∈fp,CS X pins H b)->tn i s.heap->J.stop i H->
  wpAny (model P w) X.A (pyNext (.ref it)) (fun r s1=>r=none/\Inv X pins σ H s1) E s
 self:∀ (A:Around) (i:Nat) (s:Shared) (Q:Value->Shared->Prop) (E:Value->Shared->Prop),tn i s.heap->Q (.ref it) s->wpAny (model P w) A (pyIter (.ref it)) Q E s
abbrev TI:=St->Hp->(It->Hp->Prop)->Prop
def PIE (X:Cx) (pins:List (Addr×Obj)) (σ:St) (tg:Expr) (R:It->Hp->Prop) (itv:Value) (s2:Shared):Prop:=
 ∃ (it:Addr) (fp:List Addr) (tn:Nat->Heap->Prop) (J:It) (H':Hp),itv=.ref it/\Inv X pins σ H' s2/\Turn X.prog X.w X.K tg J fp it tn/\tn 0 s2.heap/\(∀ b∈fp,CS X pins H' b)/\R J H'
def PI (X:Cx) (tg iter:Expr) (wi:TI):Prop:=
 ∀ (pins:List (Addr×Obj)) (s:Shared) (σ:St) (H:Hp) (R:It->Hp->Prop),Inv X pins σ H s->wi σ H R->
  wpAny (model X.prog X.w) X.A (eval iter X.env) (fun v s1=>wpAny (model X.prog X.w) X.A (pyIter v) (PIE X pins σ tg R) X.xe s1) X.xe s
theorem Jc {M:Model} {A:Around} {E:Value->Shared->Prop} {s:Shared} {tg:Expr} {it:Addr} {u:Value} {o:Obj} {n:String} {vs:Array Value} {Q:Unit->Shared->Prop} (ho:s.heap.get? it=some o) (hc:o.cls=.type n) (hd:o.data=.fields vs)
  (hn:["enumerate","zip","dict_itemiterator","dict_reverseitemiterator","odict_iterator","itertools.zip_longest","itertools.pairwise"].contains n=false) (hQ:Q () s):wpAny M A (letOwnedTupleGo tg (.ref it) u) Q E s:=by
 unfold letOwnedTupleGo
 cases tg <;> first
  | exact wpAny_pure hQ
  | (cases u <;> first
    | exact wpAny_pure hQ
    | (refine wpAny_bind (wpAny_load ho ?_)
       rw [hc,hd]
       show wpAny M A (if (["enumerate","zip","dict_itemiterator","dict_reverseitemiterator","odict_iterator","itertools.zip_longest","itertools.pairwise"].contains n && vs[0]? == some (rawInt _))=true then _ else _) Q E s
       rw [if_neg (by intro h; rw [hn,Bool.false_and] at h; cases h)]
       exact wpAny_pure hQ))
def Itl (K:PySem.W.Frag) (a:Addr):It:=
 ⟨fun i H=>∃ xs x,SqL K H a xs/\xs[i]?=some x,fun i H x H'=>H'=H/\∀ xs,SqL K H a xs->xs[i]?=some x,fun i H=>∃ xs,SqL K H a xs/\xs.length<=i⟩
def Itt (K:PySem.W.Frag) (a:Addr):It:=
 ⟨fun i H=>∃ xs x,SqT K H a xs/\xs[i]?=some x,fun i H x H'=>H'=H/\∀ xs,SqT K H a xs->xs[i]?=some x,fun i H=>∃ xs,SqT K H a xs/\xs.length<=i⟩
def Itr (lo:Int) (n:Nat):It:=⟨fun i _=>i < n,fun i H x H'=>H'=H/\x=.int (lo+i),fun i _=>n<=i⟩
theorem Az {P:Program} {w:World} {K:PySem.W.Frag} {tg:Expr} (a it:Addr):Turn P w K tg (Itl K a) [it] it (fun i h=>h.IsListIter it a i) where
 mem:=by simp
 obj:=fun i h st b hb=>by
  have e:b=it:=by simpa using hb
  subst e
  obtain ⟨o,e,c,d⟩:=st
  exact ⟨o,e,fun v z=>by rw [d] at z; cases z⟩
 keep:=fun i h h' st k=>st.at fun o e=>k it (by simp) o e
 item:=by
  intro X hP hw hK hc i pins s σ H E I hf st hg
  subst hP hw hK
  obtain ⟨xs,x,hq,hx⟩:=hg
  obtain ⟨its,rv,p,hz⟩:=I.list hq
  obtain ⟨u,hu,ru⟩:=rv.get hx
  obtain ⟨f0,f1,f2,f3,f4,f5⟩:=hf it (by simp)
  refine wpAny_pyNext_list_item st p.isList (x:=u) (by simpa using hu) fun h' st' sb=>?_
  have I1:Inv X pins σ H { s with heap:=h' }:=I.turned (t':=s.toks) (fun b o hb e=>(sb.2 b hb).trans e) f0 f1 f3 f4 f5
  obtain ⟨o,e,c,d⟩:=id st'
  exact ⟨u,rfl,Jc (s:={ s with heap:=h' }) e c d (by decide) ⟨x,H,I1,ru,⟨rfl,fun ys hy=>by rw [I.list_inj hy hq]; exact hx⟩,st',fun b hb=>(hf b hb).1⟩⟩
 done:=by
  intro X hP hw hK hc i pins s σ H E I hf st hg
  subst hP hw hK
  obtain ⟨xs,hq,hx⟩:=hg
  obtain ⟨its,rv,p,hz⟩:=I.list hq
  obtain ⟨f0,f1,f2,f3,f4,f5⟩:=hf it (by simp)
  have hl:=rv.length
  exact wpAny_pyNext_list_end (I.ok.hd hc) st p.isList (by simp; omega) fun h' eb=>⟨rfl,I.turned (t':=s.toks) (fun b o hb e=>eb b o hb e) f0 f1 f3 f4 f5⟩
 self:=fun _ _ _ _ _ st h=>wpAny_pyIter_listiter st h
theorem EA {P:Program} {w:World} {K:PySem.W.Frag} {tg:Expr} (a it:Addr):Turn P w K tg (Itt K a) [it] it (fun i h=>h.IsTupleIter it a i) where
 mem:=by simp
 obj:=fun i h st b hb=>by
  have e:b=it:=by simpa using hb
  subst e
  obtain ⟨o,e,c,d⟩:=st
  exact ⟨o,e,fun v z=>by rw [d] at z; cases z⟩
 keep:=fun i h h' st k=>st.at fun o e=>k it (by simp) o e
 item:=by
  intro X hP hw hK hc i pins s σ H E I hf st hg
  subst hP hw hK
  obtain ⟨xs,x,hq,hx⟩:=hg
  obtain ⟨its,rv,p,hz⟩:=I.tuple hq
  obtain ⟨u,hu,ru⟩:=rv.get hx
  obtain ⟨f0,f1,f2,f3,f4,f5⟩:=hf it (by simp)
  refine wpAny_pyNext_tuple_item st (show s.heap.IsTuple a its.toArray from p) (x:=u) (by simpa using hu) fun h' st' sb=>?_
  have I1:Inv X pins σ H { s with heap:=h' }:=I.turned (t':=s.toks) (fun b o hb e=>(sb.2 b hb).trans e) f0 f1 f3 f4 f5
  obtain ⟨o,e,c,d⟩:=id st'
  exact ⟨u,rfl,Jc (s:={ s with heap:=h' }) e c d (by decide) ⟨x,H,I1,ru,⟨rfl,fun ys hy=>by rw [I.tuple_inj hy hq]; exact hx⟩,st',fun b hb=>(hf b hb).1⟩⟩
 done:=by
  intro X hP hw hK hc i pins s σ H E I hf st hg
  subst hP hw hK
  obtain ⟨xs,hq,hx⟩:=hg
  obtain ⟨its,rv,p,hz⟩:=I.tuple hq
  obtain ⟨f0,f1,f2,f3,f4,f5⟩:=hf it (by simp)
  have hl:=rv.length
  exact wpAny_pyNext_tuple_end (I.ok.hd hc) st (show s.heap.IsTuple a its.toArray from p) (by simp; omega) fun h' eb=>⟨rfl,I.turned (t':=s.toks) (fun b o hb e=>eb b o hb e) f0 f1 f3 f4 f5⟩
 self:=fun _ _ _ _ _ st h=>wpAny_pyIter_tupleiter st h
theorem EB {P:Program} {w:World} {K:PySem.W.Frag} {tg:Expr} (it:Addr) (lo:Int) (n:Nat):Turn P w K tg (Itr lo n) [it] it (fun i h=>IsRangeIter h it (lo+(i:Nat)*1) ((n:Int) - (i:Nat)) 1) where
 mem:=by simp
 obj:=fun i h st b hb=>by
  have e:b=it:=by simpa using hb
  subst e
  exact ⟨_,st,fun v z=>by
   have z':Data.fields _=Data.cell v:=z
   cases z'⟩
 keep:=fun i h h' st k=>k it (by simp) _ st
 item:=by
  intro X hP hw hK hc i pins s σ H E I hf st hg
  subst hP hw hK
  obtain ⟨f0,f1,f2,f3,f4,f5⟩:=hf it (by simp)
  have W:=Walks.range (prog:=X.prog) (w:=X.w) (I.ok.hd hc) it lo 1 n
  refine W.item i s _ _ hg st fun v h' tk hv st' kk=>?_
  obtain ⟨t,rfl⟩:=hv
  have I1:Inv X pins σ H { s with heap:=h',toks:=tk }:=I.turned (fun b o hb e=>kk b o (by simpa using hb) e) f0 f1 f3 f4 f5
  refine ⟨_,rfl,Jc (s:={ s with heap:=h',toks:=tk }) (n:="range_iterator") st' rfl rfl (by decide) ⟨.int (lo+i),H,I1,⟨t,?_⟩,⟨rfl,rfl⟩,st',fun b hb=>(hf b hb).1⟩⟩
  rw [Int.mul_one]
 done:=by
  intro X hP hw hK hc i pins s σ H E I hf st hg
  subst hP hw hK
  obtain ⟨f0,f1,f2,f3,f4,f5⟩:=hf it (by simp)
  exact wpAny_pyNext_range_end (I.ok.hd hc) st (by have:n<=i:=hg; omega) fun h' eb=>⟨rfl,I.turned (t':=s.toks) (fun b o hb e=>eb b o hb e) f0 f1 f3 f4 f5⟩
 self:=fun _ _ _ _ _ st h=>wpAny_pyIter_rangeiter st h
end L2
namespace L2
open PySem PySem.Spec PyProof.Rows
section
variable {X:Cx} {tg:Expr}
theorem Jd {pins:List (Addr×Obj)} {σ:St} {H:Hp} {s:Shared} {R:It->Hp->Prop} {E:Value->Shared->Prop} {lo hi:Int} {t u v:Tok} {tk:Nat} (I:Inv X pins σ H s) (h1:-(2 ^ 62)<=lo) (h2:lo < 2 ^ 62) (h3:-(2 ^ 62)<=hi) (h4:hi < 2 ^ 62)
  (q:R (Itr lo (hi - lo).toNat) H):wpAny (model X.prog X.w) X.A (pyIter (.ref s.heap.objs.size)) (PIE X pins σ tg R) E { s with heap:=s.heap.push { cls:=.type "range",data:=.fields #[.int lo t,.int hi u,.int 1 v] },toks:=tk }:=by
 refine wpAny_pyIter_range (IsRange.new ..) (small_one h1 h2 h3 h4) ?_
 have I1:Inv X pins σ H { s with heap:=s.heap.push { cls:=.type "range",data:=.fields #[.int lo t,.int hi u,.int 1 v] },toks:=tk }:=I.kept fun b o e=>Heap.get?_push_of_some _ e
 refine ⟨(s.heap.push { cls:=.type "range",data:=.fields #[.int lo t,.int hi u,.int 1 v] }).objs.size,[(s.heap.push { cls:=.type "range",data:=.fields #[.int lo t,.int hi u,.int 1 v] }).objs.size],_,_,H,rfl,
  I1.kept (t':=tk) fun b o e=>Heap.get?_push_of_some _ e,EB _ lo (hi - lo).toNat,?_,fun b hb=>?_,q⟩
 ·have e1:lo+((0:Nat):Int)*1=lo:=by simp
  have e2:(((hi - lo).toNat:Nat):Int) - ((0:Nat):Int)=Builtin.Range.rangeSize lo hi 1:=by rw [rangeSize_one]; split <;> omega
  show IsRangeIter _ _ (lo+((0:Nat):Int)*1) ((((hi - lo).toNat:Nat):Int) - ((0:Nat):Int)) 1
  rw [e1,e2]
  exact Heap.get?_push_size _ rfl
 ·have e:b=(s.heap.push { cls:=.type "range",data:=.fields #[.int lo t,.int hi u,.int 1 v] }).objs.size:=by simpa using hb
  subst e
  exact I1.fpOk (Nat.le_refl _) (I1.hok.fresh (Nat.le_refl _))
def Tz (wi:TI) (g:TG) (tb:TS):TS:=fun D σ H=>wi σ H fun J H1=>∃ W:Nat->Nat->St->Hp->Prop,(∃ m,W 0 m σ H1)/\∀ i m σ H,W i m σ H->
 (J.stop i H/\D.nx σ H)\/(J.go i H/\∃ N:St->Hp->Prop,(∀ σ' H',N σ' H'->∃ m',m' < m/\W (i+1) m' σ' H')/\∀ x H',J.yld i H x H'->g x σ H' fun σ2 H2=>tb { D with nx:=N,ct:=N,bk:=D.nx } σ2 H2)
def wG (fp:List Addr) (h:Heap):List (Addr×Obj):=fp.filterMap fun b=>(h.get? b).map fun o=>(b,o)
theorem kZ {fp:List Addr} {h:Heap} {b:Addr} {o:Obj} (hb:b∈fp) (e:h.get? b=some o):(b,o)∈wG fp h:=List.mem_filterMap.mpr ⟨b,hb,by rw [e]; rfl⟩
theorem Ha {fp:List Addr} {h:Heap} {p:Addr×Obj} (hp:p∈wG fp h):p.1∈fp/\h.get? p.1=some p.2:=by
 obtain ⟨b,hb,e⟩:=List.mem_filterMap.mp hp
 cases q:h.get? b with
 | none=>rw [q] at e; cases e
 | some o=>
  rw [q] at e
  have e':(b,o)=p:=Option.some.inj e
  subst e'
  exact ⟨hb,q⟩
theorem Inv.pinned {pins:List (Addr×Obj)} {σ:St} {H:Hp} {s:Shared} {fp:List Addr} (I:Inv X pins σ H s) (hf:∀ b∈fp,CS X pins H b) (ho:∀ b∈fp,∃ o,s.heap.get? b=some o/\∀ v,o.data≠.cell v):Inv X (pins++wG fp s.heap) σ H s:=
 I.pins_of fun p hp=>(List.mem_append.mp hp).elim (fun z=>I.pin p (List.mem_append_right _ z)) fun z=>by
  obtain ⟨hb,e⟩:=Ha z
  obtain ⟨f0,f1,f2,_⟩:=hf p.1 hb
  obtain ⟨o,e',d⟩:=ho p.1 hb
  rw [e] at e'; cases e'
  exact ⟨e,f0,f1,f2,d⟩
theorem Inv.unpinned {pins pl:List (Addr×Obj)} {σ:St} {H:Hp} {s:Shared} (I:Inv X (pins++pl) σ H s):Inv X pins σ H s:=I.pins_of fun p hp=>I.pin p (List.mem_append_right _ (List.mem_append_left _ hp))
theorem P6 {iter:Expr} {body:List Stmt} {wi:TI} {g:TG} {tb:TS} {pos:Pos} (hp:PassesOwn (model X.prog X.w) X.A X.env X.xe) (hc:X.calm=true) (hi:PI X tg iter wi) (hg:PG X tg g) (hb:PSs X body tb)
  (hs:∀ x,foldedSetIterable iter X.env x=pure x:=by intro _; rfl):PS X (.For tg iter body [] pos) (Tz wi g tb):=by
 intro pins s σ H D I h
 refine wpAny_For (thn (hi pins s σ H _ I h) fun v s1 h1=>thn h1 fun itv s2 h2=>?_) hs
 obtain ⟨it,fp,tn,J,H2,e,I2,T,st2,f2,W,⟨m0,w0⟩,turn⟩:=h2
 subst e
 -- what stays true of the iterator's objects through the loop
 have stat:∀ {H':Hp},(∀ b∈fp,H' b=none)->∀ b∈fp,CS X pins H' b:=fun hn b hb=>⟨hn b hb,(f2 b hb).2⟩
 refine codeAny_forLoop_any (fun n s'=>∃ i σ' H',Inv X pins σ' H' s'/\tn i s'.heap/\(∀ b∈fp,H' b=none)/\W i n σ' H') ?_ m0 ⟨0,σ,H2,I2,st2,fun b hb=>(f2 b hb).1,w0⟩
 rintro n s3 ⟨i,σ3,H3,I3,st3,fr3,w3⟩
 rcases turn i n σ3 H3 w3 with ⟨stop,qn⟩ | ⟨go,N,hN,step⟩
 ·refine wpAny_passesOwn hp (thn (T.done X rfl rfl rfl hc i pins s3 σ3 H3 X.xe I3 (stat fr3) st3 stop) fun r s4 ⟨hr,I4⟩=>?_)
  subst hr
  exact wpAny_execs_nil ⟨σ3,H3,I4,qn⟩
 ·refine wpAny_passesOwn hp (thn (T.item X rfl rfl rfl hc i pins s3 σ3 H3 X.xe I3 (stat fr3) st3 go) fun r s4 ⟨u,hr,h4⟩=>?_)
  subst hr
  refine wpAny_passesOwn hp (thn h4 fun _ s5 hz=>?_)
  obtain ⟨x,H5,I5,r5,y5,st5,fr5⟩:=hz
  have I5':=I5.pinned (stat fr5) (T.obj _ _ st5)
  refine wpAny_passesOwn hp (thn (hg _ s5 σ3 H5 x u _ I5' r5 (step x H5 y5)) fun _ s6 ⟨σ6,H6,I6,q6⟩=>?_)
  refine wpAny_passesOwn hp (thn (hb _ s6 σ6 H6 _ I6 q6) fun f s7 q7=>?_)
  have again:∀ {σ7:St} {H7:Hp},Inv X (pins++wG fp s5.heap) σ7 H7 s7->N σ7 H7->∃ m,m < n/\∃ i σ' H',Inv X pins σ' H' s7/\tn i s7.heap/\(∀ b∈fp,H' b=none)/\W i m σ' H':=fun {σ7 H7} I7 n7=>by
   obtain ⟨m',hm,w7⟩:=hN σ7 H7 n7
   refine ⟨m',hm,i+1,σ7,H7,I7.unpinned,T.keep _ _ _ st5 fun b hb o e=>(I7.pin (b,o) (List.mem_append_right _ (List.mem_append_right _ (kZ hb e)))).1,fun b hb=>?_,w7⟩
   obtain ⟨o,e,d⟩:=T.obj _ _ st5 b hb
   exact (I7.pin (b,o) (List.mem_append_right _ (List.mem_append_right _ (kZ hb e)))).2.1
  cases f with
  | next=>obtain ⟨σ7,H7,I7,n7⟩:=q7; exact again I7 n7
  | cont=>obtain ⟨σ7,H7,I7,n7⟩:=q7; exact again I7 n7
  | brk=>obtain ⟨σ7,H7,I7,q7⟩:=q7; exact ⟨σ7,H7,I7.unpinned,q7⟩
  | ret v=>obtain ⟨x7,σ7,H7,I7,r7,q7⟩:=q7; exact ⟨x7,σ7,H7,I7.unpinned,r7,q7⟩
end
end L2
namespace L2
open PySem PySem.Spec PyProof.Rows
abbrev R2:=V->V->Hp->VK->Prop
def OpR (X:Cx) (f:Value->Value->Sem Value) (r:R2):Prop:=
 ∀ (pins:List (Addr×Obj)) (s:Shared) (σ:St) (H:Hp) (x y:V) (v u:Value) (Q:VK),Inv X pins σ H s->RelV x v->RelV y u->r x y H Q->
  wpAny (model X.prog X.w) X.A (f v u) (EP X pins σ Q) X.xe s
def bT (X:Cx) (f:Value) (r:List V->Hp->VK->Prop):Prop:=
 ∀ (pins:List (Addr×Obj)) (s:Shared) (σ:St) (H:Hp) (xs:List V) (us:List Value) (Q:VK),Inv X pins σ H s->aP xs us->r xs H Q->
  wpAny (model X.prog X.w) X.A (call f us) (EP X pins σ Q) X.xe s
def TB (X:Cx) (r:V->Hp->(Bool->Hp->Prop)->Prop):Prop:=
 ∀ (pins:List (Addr×Obj)) (s:Shared) (σ:St) (H:Hp) (x:V) (v:Value) (Q:Bool->Hp->Prop),Inv X pins σ H s->RelV x v->r x H Q->
  wpAny (model X.prog X.w) X.A (truthy v) (TP X pins σ Q) X.xe s
def tOp (r:R2) (ta tb:TE):TE:=fun σ H Q=>ta σ H fun x H1=>tb σ H1 fun y H2=>r x y H2 Q
def rI (C:Int->Int->Prop) (g:Int->Int->V):R2:=fun x y H Q=>∃ i j,x=.int i/\y=.int j/\C i j/\Q (g i j) H
def rI0 (g:Int->Int->V):R2:=fun x y H Q=>∃ i j,x=.int i/\y=.int j/\Q (g i j) H
section
variable {X:Cx} {a b c:Expr} {ta tb tc:TE} {pos:Pos}
theorem P7 (ha:PE X a ta) (hb:PE X b tb) {pins:List (Addr×Obj)} {s:Shared} {σ:St} {H:Hp} {R:V->V->Hp->Prop} (I:Inv X pins σ H s)
  (h:ta σ H fun x H1=>tb σ H1 fun y H2=>R x y H2) {Q:Value->Shared->Prop} {f:Value->Value->Sem Value}
  (hf:∀ v u s2 x y H2,Inv X pins σ H2 s2->RelV x v->RelV y u->R x y H2->wpAny (model X.prog X.w) X.A (f v u) Q X.xe s2):
  wpAny (model X.prog X.w) X.A (eval a X.env) (fun v s₁=>wpAny (model X.prog X.w) X.A (eval b X.env) (fun u s₂=>wpAny (model X.prog X.w) X.A (f v u) Q X.xe s₂) X.xe s₁) X.xe s:=by
 refine thn (ha pins s σ H _ I h) fun v s1 hz=>?_
 obtain ⟨x,H1,I1,r1,q1⟩:=hz
 refine thn (hb pins s1 σ H1 _ I1 q1) fun u s2 hz=>?_
 obtain ⟨y,H2,I2,r2,q2⟩:=hz
 exact hf v u s2 x y H2 I2 r1 r2 q2
theorem R' {op:Operator} {r:R2} (ho:OpR X (binaryOp op) r) (ha:PE X a ta) (hb:PE X b tb):PE X (.BinOp a op b pos) (tOp r ta tb):=by
 intro pins s σ H Q I h
 exact wpAny_BinOp (P7 ha hb I h fun v u s2 x y H2 I2 rx ry q=>ho pins s2 σ H2 x y v u Q I2 rx ry q)
theorem opI {f:Value->Value->Sem Value} {C:Int->Int->Prop} {g:Int->Int->Int}
  (rule:∀ (i j:Int) (t u:Tok) (s:Shared) (Q:Value->Shared->Prop) (E:Value->Shared->Prop),C i j->Q (.int (g i j) s.toks) { s with toks:=s.toks+1 }->wpAny (model X.prog X.w) X.A (f (.int i t) (.int j u)) Q E s):
  OpR X f (rI C fun i j=>.int (g i j)):=by
 intro pins s σ H x y v u Q I rx ry h
 obtain ⟨i,j,rfl,rfl,hc,q⟩:=h
 obtain ⟨t,rfl⟩:=rx
 obtain ⟨t',rfl⟩:=ry
 exact rule i j t t' s _ _ hc ⟨.int (g i j),H,I.tok _,⟨_,rfl⟩,q⟩
theorem Ra {f:Value->Value->Sem Value} {g:Int->Int->Int}
  (rule:∀ (i j:Int) (t u:Tok) (s:Shared) (Q:Value->Shared->Prop) (E:Value->Shared->Prop),Q (.int (g i j) s.toks) { s with toks:=s.toks+1 }->wpAny (model X.prog X.w) X.A (f (.int i t) (.int j u)) Q E s):
  OpR X f (rI0 fun i j=>.int (g i j)):=by
 intro pins s σ H x y v u Q I rx ry h
 obtain ⟨i,j,rfl,rfl,q⟩:=h
 obtain ⟨t,rfl⟩:=rx
 obtain ⟨t',rfl⟩:=ry
 exact rule i j t t' s _ _ ⟨.int (g i j),H,I.tok _,⟨_,rfl⟩,q⟩
theorem MA {f:Value->Value->Sem Value} {g:Int->Int->Bool}
  (rule:∀ (i j:Int) (t u:Tok) (s:Shared) (Q:Value->Shared->Prop) (E:Value->Shared->Prop),Q (.bool (g i j)) s->wpAny (model X.prog X.w) X.A (f (.int i t) (.int j u)) Q E s):
  OpR X f (rI0 fun i j=>.bl (g i j)):=by
 intro pins s σ H x y v u Q I rx ry h
 obtain ⟨i,j,rfl,rfl,q⟩:=h
 obtain ⟨t,rfl⟩:=rx
 obtain ⟨t',rfl⟩:=ry
 exact rule i j t t' s _ _ ⟨.bl (g i j),H,I,rfl,q⟩
def Je (i j:Int):Prop:=0 < j/\j < 1073741824
def Hb (i j:Int):Prop:=0<=j/\j<=1000000/\i.natAbs < 2 ^ 64
def CT (i j:Int):Prop:=(-(2 ^ 64) < i/\i < 2 ^ 64)\/(-(2 ^ 64) < j/\j < 2 ^ 64)
theorem CT.ok {i j:Int} (h:CT i j):IntMulOk i j:=by
 rcases h with ⟨h1,h2⟩ | ⟨h1,h2⟩
 ·exact .of_left (intBits_le_64 h1 h2)
 ·exact .of_right (intBits_le_64 h1 h2)
theorem P8:OpR X (binaryOp .Add) (rI0 fun i j=>.int (i+j)):=Ra fun _ _ _ _ _ _ _ q=>add_int q
theorem P9:OpR X (binaryOp .Sub) (rI0 fun i j=>.int (i - j)):=Ra fun _ _ _ _ _ _ _ q=>sub_int q
theorem P':OpR X (binaryOp .Mult) (rI CT fun i j=>.int (i*j)):=opI fun _ _ _ _ _ _ _ hc q=>mul_int q hc.ok
theorem MB:OpR X (binaryOp .FloorDiv) (rI Je fun i j=>.int (i / j)):=opI fun i j _ _ _ _ _ hc q=>by
 have h1:(0:Int) < j:=hc.1
 have h2:j < 1073741824:=hc.2
 exact floordiv_int (by omega) (by rw [Int.fdiv_eq_ediv_of_nonneg i (by omega)]; exact q) (.inl (PyProof.noPylong_small (by omega)))
theorem Pa:OpR X (binaryOp .Mod) (rI (fun _ j=>0 < j) fun i j=>.int (i % j)):=opI fun i j _ _ _ _ _ hc q=>by
 have h1:(0:Int) < j:=hc
 exact mod_int' (by omega) (by rw [Int.fmod_eq_emod_of_nonneg i (by omega)]; exact q)
theorem Pb:OpR X (binaryOp .Pow) (rI Hb fun i j=>.int (i ^ j.toNat)):=opI fun _ _ _ _ _ _ _ hc q=>pow_int_small hc.1 hc.2.1 hc.2.2 q
end
section
variable {X:Cx} {a b c:Expr} {ta tb tc:TE} {pos:Pos}
theorem Bq {pins:List (Addr×Obj)} {σ:St} {H:Hp} {s:Shared} {Q:VK} {k k':Bool} (I:Inv X pins σ H s) (q:Q (.bl k) H) (e:k=k'):EP X pins σ Q (.bool k') s:=by
 subst e
 exact ⟨.bl k,H,I,rfl,q⟩
theorem Rb:OpR X (compareOp .Lt) (rI0 fun i j=>.bl (decide (i < j))):=MA fun _ _ _ _ _ _ _ q=>lt_int q
theorem Rc:OpR X (compareOp .LtE) (rI0 fun i j=>.bl (decide (i<=j))):=MA fun _ _ _ _ _ _ _ q=>le_int q
theorem Re:OpR X (compareOp .Gt) (rI0 fun i j=>.bl (decide (j < i))):=MA fun _ _ _ _ _ _ _ q=>gt_int q
theorem Rf:OpR X (compareOp .GtE) (rI0 fun i j=>.bl (decide (j<=i))):=MA fun _ _ _ _ _ _ _ q=>ge_int q
theorem Hc:OpR X (compareOp .Lt) (fun x y H Q=>∃ i j,x=.str i/\y=.str j/\Q (.bl (decide (i.cps.toList < j.cps.toList))) H):=by
 intro pins s σ H x y v u Q I rx ry h
 obtain ⟨i,j,rfl,rfl,q⟩:=h
 obtain ⟨t,rfl⟩:=rx
 obtain ⟨t',rfl⟩:=ry
 exact lt_str (Bq I q rfl)
theorem OpR.or {f:Value->Value->Sem Value} {r r':R2} (h:OpR X f r) (h':OpR X f r'):OpR X f (fun x y H Q=>r x y H Q\/r' x y H Q):=by
 intro pins s σ H x y v u Q I rx ry q
 rcases q with q | q
 ·exact h pins s σ H x y v u Q I rx ry q
 ·exact h' pins s σ H x y v u Q I rx ry q
theorem Jf (b:Expr) {op:CmpOp} (h:op≠.In:=by decide) (h2:op≠.NotIn:=by decide):behindInMarks op b=false:=by
 have e1:(op == CmpOp.In)=false:=by cases op <;> first | rfl | exact absurd rfl h
 have e2:(op == CmpOp.NotIn)=false:=by cases op <;> first | rfl | exact absurd rfl h2
 cases b <;> simp [behindInMarks,e1,e2]
theorem MD {op:CmpOp} {r:R2} (ho:OpR X (compareOp op) r) (ha:PE X a ta) (hb:PE X b tb) (hm:behindInMarks op b=false):PE X (.Compare a [op] [b] pos) (tOp r ta tb):=by
 intro pins s σ H Q I h
 exact wpAny_Compare1 (P7 ha hb I h fun v u s2 x y H2 I2 rx ry q=>ho pins s2 σ H2 x y v u Q I2 rx ry q) hm
def Jg (r r':R2) (ta tb tc:TE):TE:=fun σ H Q=>ta σ H fun x H1=>tb σ H1 fun y H2=>r x y H2 fun z H3=>∃ k,z=.bl k/\
 (if k=true then tc σ H3 fun w' H4=>r' y w' H4 Q else Q (.bl false) H3)
theorem Jh {op op':CmpOp} {r r':R2} (ho:OpR X (compareOp op) r) (ho':OpR X (compareOp op') r') (ha:PE X a ta) (hb:PE X b tb) (hc:PE X c tc)
  (hm:lastMarks [op,op'] [b,c]=false:=by with_unfolding_all rfl):PE X (.Compare a [op,op'] [b,c] pos) (Jg r r' ta tb tc):=by
 intro pins s σ H Q I h
 refine Compare_chain (thn (ha pins s σ H _ I h) fun v s1 ⟨x,H1,I1,r1,q1⟩=>chain_link (thn (hb pins s1 σ H1 _ I1 q1) fun u s2 ⟨y,H2,I2,r2,q2⟩=>
  thn (ho pins s2 σ H2 x y v u _ I2 r1 r2 q2) fun d s3 ⟨z,H3,I3,r3,k,e,q3⟩=>?_)) hm
 subst e
 cases r3
 refine wpAny_truthy_bool ?_
 cases k with
 | false=>exact ite_ff ⟨.bl false,H3,I3,rfl,q3⟩
 | true=>exact ite_tt (chain_last (thn (hc pins s3 σ H3 _ I3 q3) fun w' s4 ⟨z',H4,I4,r4,q4⟩=>ho' pins s4 σ H4 y z' u w' Q I4 r2 r4 q4))
def ME (K:PySem.W.Frag) (x:V) (H:Hp) (k:Bool):Prop:=
 match x with
 | .non=>k=false
 | .bl b=>k=b
 | .int i=>k=(i != 0)
 | .str y=>y.length<=sizeLine/\k=((y.length:Int) != 0)
 | .byt y=>y.size<=sizeLine/\k=((y.size:Int) != 0)
 | .ref p=>(∃ xs,SqL K H p xs/\k=!xs.isEmpty)\/(∃ xs,SqT K H p xs/\k=!xs.isEmpty)\/∃ kvs,H p=some (.dK kvs)/\k=!kvs.isEmpty
 | _=>False
theorem EC {κ:Type} {kvs:List (κ×V)} {vs:List (κ×Value)} (r:KV kvs vs):(!vs.isEmpty)=!kvs.isEmpty:=by
 cases r <;> rfl
theorem wH {xs:List V} {its:List Value} (r:aP xs its):(!its.toArray.isEmpty)=!xs.isEmpty:=by
 cases r <;> simp
theorem pP:(sizeLine:Nat) < 2 ^ 63:=by rw [sizeLine_eq]; decide
theorem Ji:TB X (fun x H Q=>∃ k,ME X.K x H k/\Q k H):=by
 intro pins s σ H x v Q I rx h
 obtain ⟨k,e,q⟩:=h
 have hl:=pP
 have hs:sizeLine=16777216:=sizeLine_eq
 cases x with
 | non=>
  cases rx
  have e':k=false:=e
  subst e'
  exact truthy_none ⟨H,I,q⟩
 | bl b=>
  cases rx
  have e':k=b:=e
  subst e'
  exact wpAny_truthy_bool ⟨H,I,q⟩
 | int i=>
  obtain ⟨t,rfl⟩:=rx
  have e':k=(i != 0):=e
  subst e'
  exact PySem.P.truthy_int ⟨H,I,q⟩
 | str y=>
  obtain ⟨t,rfl⟩:=rx
  obtain ⟨hy,e'⟩:y.length<=sizeLine/\k=((y.length:Int) != 0):=e
  subst e'
  exact PySem.P.truthy_str (by omega) ⟨H,I.tok _,q⟩
 | byt y=>
  obtain ⟨t,rfl⟩:=rx
  obtain ⟨hy,e'⟩:y.size<=sizeLine/\k=((y.size:Int) != 0):=e
  subst e'
  exact PySem.W.truthy_bytes (by omega) ⟨H,I.tok _,q⟩
 | ref p=>
  cases rx
  have e':(∃ xs,SqL X.K H p xs/\k=!xs.isEmpty)\/(∃ xs,SqT X.K H p xs/\k=!xs.isEmpty)\/∃ kvs,H p=some (.dK kvs)/\k=!kvs.isEmpty:=e
  rcases e' with ⟨xs,hx,e'⟩ | ⟨xs,hx,e'⟩ | ⟨kvs,hx,e'⟩
  ·subst e'
   obtain ⟨its,r,pl,hz⟩:=I.list hx
   have hlen:=r.length
   exact wpAny_truthy_list pl.isList (by simp only [List.size_toArray]; omega) ⟨H,I.tok _,by rw [wH r]; exact q⟩
  ·subst e'
   obtain ⟨its,r,pl,hz⟩:=I.tuple hx
   have hlen:=r.length
   exact truthy_tuple pl (by simp only [List.size_toArray]; omega) ⟨H,I.tok _,by rw [wH r]; exact q⟩
  ·subst e'
   obtain ⟨hz,hS,vs,r,m⟩:kvs.length<=sizeLine/\(p == sysModules)=false/\∃ vs,KV kvs vs/\s.heap.DictOf (cP X.prog X.w) p vs:=I.hok p _ hx
   have hlen:kvs.length=vs.length:=Paired.length r
   exact wpAny_truthy_dict hS m (by omega) ⟨H,I.tok _,by rw [EC r]; exact q⟩
 | _=>exact (show False from e).elim
theorem Jj (ha:PE X a ta) (he:∀ whole,isTrue a X.env whole=(do let v <- whole; standAt a.pos; holding [v] (truthy v))):
  PT X a (fun σ H Q=>ta σ H fun x H'=>∃ k,ME X.K x H' k/\Q k H'):=by
 intro pins s σ H Q I h
 exact isTrue_plain (thn (ha pins s σ H _ I h) fun v s1 ⟨x,H1,I1,r1,q1⟩=>Ji pins s1 σ H1 x v Q I1 r1 q1) (he _)
theorem EE:OpR X (binaryOp .Add) (fun x y H Q=>∃ i j,x=.str i/\y=.str j/\i.length+j.length<=sizeLine/\Q (.str (i++j)) H):=by
 intro pins s σ H x y v u Q I rx ry h
 obtain ⟨i,j,rfl,rfl,hz,q⟩:=h
 obtain ⟨t,rfl⟩:=rx
 obtain ⟨t',rfl⟩:=ry
 exact add_str (fun t' tk=>⟨.str (i++j),H,I.tok _,⟨_,rfl⟩,q⟩) hz
theorem vals1 {x:V} {us:List Value} (r:aP [x] us):∃ u,us=[u]/\RelV x u:=by
 cases r with
 | cons r1 r2=>cases r2; exact ⟨_,rfl,r1⟩
theorem vals2 {x y:V} {us:List Value} (r:aP [x,y] us):∃ u w',us=[u,w']/\RelV x u/\RelV y w':=by
 cases r with
 | cons r1 r2=>
  cases r2 with
  | cons r3 r4=>cases r4; exact ⟨_,_,rfl,r1,r3⟩
theorem Hd (hc:X.calm=true):bT X (.builtin "min") (fun xs H Q=>∃ i j,xs=[.int i,.int j]/\Q (.int (if j < i then j else i)) H):=by
 intro pins s σ H xs us Q I r h
 obtain ⟨i,j,rfl,q⟩:=h
 obtain ⟨u,w',rfl,⟨t,rfl⟩,⟨t',rfl⟩⟩:=vals2 r
 refine min_two_ints (I.ok.hd hc) fun h' tk k=>⟨_,H,I.kept k,?_,q⟩
 by_cases hj:j < i
 ·rw [if_pos hj,if_pos hj]; exact ⟨_,rfl⟩
 ·rw [if_neg hj,if_neg hj]; exact ⟨_,rfl⟩
def TC (K:PySem.W.Frag) (x:V) (H:Hp) (n:Nat):Prop:=
 match x with
 | .str y=>y.length<=sizeLine/\n=y.length
 | .byt y=>y.size<=sizeLine/\n=y.size
 | .ref p=>(∃ xs,SqL K H p xs/\n=xs.length)\/∃ xs,SqT K H p xs/\n=xs.length
 | _=>False
theorem Jk:bT X (.builtin "len") (fun xs H Q=>∃ x n,xs=[x]/\TC X.K x H n/\Q (.int n) H):=by
 intro pins s σ H xs us Q I r h
 obtain ⟨x,n,rfl,e,q⟩:=h
 obtain ⟨u,rfl,rx⟩:=vals1 r
 have hl:=pP
 have hs:sizeLine=16777216:=sizeLine_eq
 cases x with
 | str y=>
  obtain ⟨t,rfl⟩:=rx
  obtain ⟨hy,e'⟩:y.length<=sizeLine/\n=y.length:=e
  subst e'
  exact len_str (by omega) ⟨.int _,H,I.tok _,⟨_,rfl⟩,q⟩
 | byt y=>
  obtain ⟨t,rfl⟩:=rx
  obtain ⟨hy,e'⟩:y.size<=sizeLine/\n=y.size:=e
  subst e'
  exact PySem.W.len_bytes (by omega) ⟨.int _,H,I.tok _,⟨_,rfl⟩,q⟩
 | ref p=>
  cases rx
  have e':(∃ xs,SqL X.K H p xs/\n=xs.length)\/∃ xs,SqT X.K H p xs/\n=xs.length:=e
  rcases e' with ⟨xs,hx,e'⟩ | ⟨xs,hx,e'⟩
  ·subst e'
   obtain ⟨its,r',pl,hz⟩:=I.list hx
   have hlen:=r'.length
   exact Calls.call_len_list pl.isList (by simp only [List.size_toArray]; omega) ⟨.int xs.length,H,I.tok _,⟨_,by simp only [List.size_toArray]; rw [hlen]⟩,q⟩
  ·subst e'
   obtain ⟨its,r',pl,hz⟩:=I.tuple hx
   have hlen:=r'.length
   exact len_tuple pl (by simp only [List.size_toArray]; omega) ⟨.int xs.length,H,I.tok _,⟨_,by simp only [List.size_toArray]; rw [hlen]⟩,q⟩
 | _=>exact (show False from e).elim
end
end L2
namespace L2
open PySem PySem.Spec PyProof.Rows
structure EF (h:Heap) (x dx C:Addr) (mA:Str->Option Value):Prop where
 obj:h.get? x=some (PySem.W.instObj C dx)
 ns:h.Ns1 dx mA
 ne:dx≠x
theorem He {h:Heap} {dx:Addr} {mA:Str->Option Value} (n:h.Ns1 dx mA):∃ od,h.get? dx=some od/\∀ name,PySem.W.lookIn name od=some (mA name):=by
 obtain ⟨o,es,ep,ho,hd,hk,_,hm⟩:=n
 refine ⟨o,ho,fun name=>?_⟩
 have e:=hm name
 unfold nsFind findBy at e
 rw [<- Array.find?_toList] at e
 unfold PySem.W.lookIn
 rw [hd]
 dsimp only
 split
 ·rename_i y q
  rw [q] at e
  exact congrArg some e
 ·rename_i q
  rw [q] at e
  have a:es.toList.any (·.refKey)=false:=by
   rw [List.any_eq_false]
   intro y hy
   obtain ⟨z,t,hkey⟩:=hk y (Array.mem_toList_iff.mp hy)
   simp [DictEntry.refKey,hkey]
  have a':¬ es.toList.any (·.refKey)=true:=by rw [a]; exact Bool.false_ne_true
  rw [if_neg a']
  exact congrArg some e
theorem EF.look {h:Heap} {x dx C:Addr} {mA:Str->Option Value} (I:EF h x dx C mA):∃ od,PySem.W.InstAt h x (PySem.W.instObj C dx) C (some od)/\∀ name,PySem.W.lookIn name od=some (mA name):=
 let ⟨od,ho,hl⟩:=He I.ns
 ⟨od,⟨I.obj,rfl,rfl,ho⟩,hl⟩
section
variable {prog:Program} {w:World} {A:Around} {E:Value->Shared->Prop} {s:Shared} {K:PySem.W.Frag} {x dx C f:Addr} {mA:Str->Option Value} {name:Str} {v:Value}
theorem get_map {expr:Bool} {Q:Value->Shared->Prop} (X:K.In s.heap) (I:EF s.heap x dx C mA) (hg:PySem.W.plainGet K C name=true) (hh:PySem.W.hasDictIn K C=true)
  (ha:PySem.W.findIn K (.ref C) name=some none) (hv:mA name=some v) (hv':PySem.W.handedIn v=true) (h:Q v { s with toks:=s.toks+1 }):
  wpAny (model prog w) A (getAttr (.ref x) name expr) Q E s:=by
 obtain ⟨od,J,hl⟩:=I.look
 exact PySem.W.get_value X J (PySem.W.plainGet_of hg).1 (PySem.W.findObj_own hh ha rfl (by rw [hl,hv])) hv' h
theorem Jl {pl:Sem Bool} {Q:Value×List Value->Shared->Prop} (X:K.In s.heap) (I:EF s.heap x dx C mA) (hg:PySem.W.plainGet K C name=true)
  (hf:PySem.W.findIn K (.ref C) name=some (some (.ref f))) (ht:PySem.W.isFn K (.ref f)=true) (hv:mA name=none) (h:Q (.ref f,[.ref x]) s):
  wpAny (model prog w) A (getMethod (.ref x) name pl) Q E s:=by
 obtain ⟨od,J,hl⟩:=I.look
 exact PySem.W.method_fn X J (PySem.W.plainGet_of hg).1 (PySem.W.plainGet_of hg).2 hf (beq_iff_eq.mp ht) (by show (PySem.W.lookIn name od).map (·.isSome)=some false; rw [hl,hv]; rfl) h
theorem MF {ns:List Str} {Q:Unit->Shared->Prop} (X:K.In s.heap) (I:EF s.heap x dx C mA)
  (hs:PySem.W.findIn K (.ref C) "__setattr__" = some (some (.builtin "object.__setattr__"))) (hp:PySem.W.plainOver K C=true) (ht:PySem.W.takerIn K C name=some none) (hh:PySem.W.hasDictIn K C=true)
  (hw:PySem.Within mA ns) (hsz:ns.length<=sizeLine)
  (h:∀ h',EF h' x dx C (fun y=>if y=name then some v else mA y)->Heap.SameBut dx s.heap h'->Q () { s with heap:=h',toks:=s.toks+2 }):
  wpAny (model prog w) A (setAttr (.ref x) name v) Q E s:=by
 obtain ⟨od,J,hl⟩:=I.look
 refine PySem.W.set_plain X J hs (PySem.W.osa_open (s:={ s with toks:=s.toks+1 }) (r:=none) X J hp ht fun b=>?_)
 obtain ⟨cd,hc,hd'⟩:=PySem.W.any_some hh
 have hx:s.heap.get? x=some ⟨.ref C,some dx,.plain,#[]⟩:=I.obj
 refine wpAny_bind (wpAny_pure (wpAny_bind (wpAny_bind (wpAny_loadPart hx (wpAny_bind (PySem.W.Looks.here (s:={ s with toks:=s.toks+1 }) (PySem.W.looks_clsIn X hc) ?_))))))
 rw [hd']
 refine wpAny_pure (a:=some dx) (wpAny_bind (wpAny_pure (wpAny_bind ?_)))
 refine wpAny_nsSet1 (s:={ s with toks:=s.toks+1 }) I.ns fun h' hn2 hs2=>?_
 obtain ⟨oD,esD,epD,hoD,hdD,hcD⟩:=hn2.count (PySem.Within.cons name v hw)
 refine wpAny_bind (wpAny_lookBehind hoD (by rw [hdD]; exact pastItsLine_dict (Nat.le_trans hcD (by rw [List.length_cons]; omega))) ?_)
 exact wpAny_pure (h _ ⟨(hs2.2 _ (Ne.symm I.ne)).trans I.obj,hn2,I.ne⟩ hs2)
theorem Jm {R:Result->Shared->Prop} {vs:List Value} {kw:List (Str×Value)} (X:K.In s.heap) (hm:PySem.W.makesIn K C=true)
  (hi:PySem.W.findIn K (.ref C) "__init__" = some (some (.ref f))) (hf:PySem.W.typeIn K (.ref f)=some (.type "function"))
  (h:codeAny (model prog w) (A.under (.builtin "type.__call__" ⟨.ref C :: vs,kw⟩)) (.call (.ref f) ⟨.ref (s.heap.objs.size+1) :: vs,kw⟩) (PySem.W.InitBack (s.heap.objs.size+1) R)
   { s with heap:=(s.heap.push PySem.W.emptyDict).push (PySem.W.instObj C s.heap.objs.size) }):
  codeAny (model prog w) A (.call (.ref C) ⟨vs,kw⟩) R s:=by
 obtain ⟨hh,g,d,t,os⟩:=s
 exact PySem.W.make_core (PySem.W.makes_of X hm) (PySem.W.looks_findIn X hi) (fun self=>PySem.W.bind_fn X self hf) (.inl rfl) h
end
def kA (f:Str) (v:V):List (Str×V)->List (Str×V)
 | []=>[(f,v)]
 | (g,x) :: r=>if g=f then (g,v) :: r else (g,x) :: kA f v r
theorem uN (f g:Str) (v:V):∀ fs:List (Str×V),(kA f v fs).lookup g=if g=f then some v else fs.lookup g
 | []=>by
  show List.lookup g [(f,v)]=_
  by_cases h:g=f
  ·have hb:(g == f)=true:=beq_iff_eq.mpr h
   simp only [List.lookup,hb,if_pos h]
  ·have hb:(g == f)=false:=beq_eq_false_iff_ne.mpr h
   simp only [List.lookup,hb,if_neg h]
 | (k,x) :: r=>by
  have ih:=uN f g v r
  rw [show kA f v ((k,x) :: r)=(if k=f then (k,v) :: r else (k,x) :: kA f v r) from rfl]
  by_cases hk:k=f
  ·rw [if_pos hk]
   by_cases h:g=k
   ·have hb:(g == k)=true:=beq_iff_eq.mpr h
    simp only [List.lookup,hb,if_pos (h.trans hk)]
   ·have hb:(g == k)=false:=beq_eq_false_iff_ne.mpr h
    simp only [List.lookup,hb,if_neg (fun e:g=f=>h (e.trans hk.symm))]
  ·rw [if_neg hk]
   by_cases h:g=k
   ·have hb:(g == k)=true:=beq_iff_eq.mpr h
    simp only [List.lookup,hb,if_neg (fun e:g=f=>hk (h.symm.trans e))]
   ·have hb:(g == k)=false:=beq_eq_false_iff_ne.mpr h
    simp only [List.lookup,hb]
    exact ih
theorem tK (f:Str) (v:V):∀ fs:List (Str×V),f∈(kA f v fs).map (·.1)/\∀ g,g∈fs.map (·.1)->g∈(kA f v fs).map (·.1)
 | []=>⟨by simp [kA],fun g h=>by simp at h⟩
 | (k,x) :: r=>by
  obtain ⟨i1,i2⟩:=tK f v r
  rw [show kA f v ((k,x) :: r)=(if k=f then (k,v) :: r else (k,x) :: kA f v r) from rfl]
  by_cases hk:k=f
  ·rw [if_pos hk]
   subst hk
   exact ⟨by simp,fun g h=>by simpa using h⟩
  ·rw [if_neg hk]
   refine ⟨?_,fun g h=>?_⟩
   ·rw [List.map_cons]
    exact List.mem_cons_of_mem _ i1
   ·rw [List.map_cons] at h ⊢
    rcases List.mem_cons.mp h with e | e
    ·exact List.mem_cons.mpr (.inl e)
    ·exact List.mem_cons_of_mem _ (i2 g e)
theorem uO (f:Str) (v:V):∀ fs:List (Str×V),(kA f v fs).length<=fs.length+1
 | []=>by simp [kA]
 | (k,x) :: r=>by
  have ih:=uO f v r
  rw [show kA f v ((k,x) :: r)=(if k=f then (k,v) :: r else (k,x) :: kA f v r) from rfl]
  by_cases hk:k=f
  ·rw [if_pos hk,List.length_cons,List.length_cons]; omega
  ·rw [if_neg hk,List.length_cons,List.length_cons]; omega
theorem pB.some_of {v:V} {o:Option Value} (r:pB (some v) o):∃ u,o=some u/\RelV v u:=by
 cases o with
 | none=>exact (show False from r).elim
 | some u=>exact ⟨u,rfl,r⟩
theorem pB.none_of {o:Option Value} (r:pB none o):o=none:=by
 cases o with
 | none=>rfl
 | some u=>exact (show False from r).elim
theorem Hf {v:V} {u:Value} (r:RelV v u):PySem.W.handedIn u=true:=by
 cases v with
 | non=>cases (show u=Value.none from r); rfl
 | bl b=>cases (show u=Value.bool b from r); rfl
 | int i=>obtain ⟨t,e⟩:=(show ∃ t,u=Value.int i t from r); cases e; rfl
 | str x=>obtain ⟨t,e⟩:=(show ∃ t,u=Value.str x t from r); cases e; rfl
 | byt b=>obtain ⟨t,e⟩:=(show ∃ t,u=Value.bytes b t from r); cases e; rfl
 | flt b=>obtain ⟨t,e⟩:=(show ∃ t,u=Value.float b t from r); cases e; rfl
 | ref a=>cases (show u=Value.ref a from r); rfl
 | ty n=>cases (show u=Value.type n from r); rfl
section
variable {P:Program} {w:World} {H H':Hp} {h h':Heap} {a C dx:Addr} {fs fs':List (Str×V)}
theorem Br (hok:HOk P w H h) (e:H a=some (.ins C dx fs)):∃ mA,EF h a dx C mA/\(∀ f,pB (fs.lookup f) (mA f))/\PySem.Within mA (fs.map (·.1))/\fs.length<=1000/\H dx=some (.own a):=by
 obtain ⟨d,z,ne,ob,mA,n,r,q⟩:=(show cV P w H h a (.ins C dx fs) from hok a _ e)
 exact ⟨mA,⟨ob,n,ne⟩,r,q,z,d⟩
end
structure Cls (K:PySem.W.Frag) (C:Addr):Prop where
 pg:PySem.W.plainGet K C Str.empty=true
 hd:PySem.W.hasDictIn K C=true
 po:PySem.W.plainOver K C=true
 sa:PySem.W.findIn K (.ref C) "__setattr__" = some (some (.builtin "object.__setattr__"))
theorem Cls.get {K:PySem.W.Frag} {C:Addr} (c:Cls K C) (f:Str):PySem.W.plainGet K C f=true:=c.pg
def mW (K:PySem.W.Frag) (C:Addr) (f:Str):Prop:=PySem.W.findIn K (.ref C) f=some none
theorem mW.taker {K:PySem.W.Frag} {C:Addr} {f:Str} (n:mW K C f):PySem.W.takerIn K C f=some none:=by
 unfold PySem.W.takerIn
 rw [show PySem.W.findIn K (.ref C) f=some none from n]
 rfl
structure Con (K:PySem.W.Frag) (C:Addr) (f:Str) (v:V) (u:Value):Prop where
 at_:PySem.W.findIn K (.ref C) f=some (some u)
 rel:RelV v u
 get:PySem.W.specialIn K u "__get__" = some none
 cp:PySem.W.copiedNames.contains f=false
structure lG (K:PySem.W.Frag) (C:Addr) (m:Str) (f:Addr):Prop where
 at_:PySem.W.findIn K (.ref C) m=some (some (.ref f))
 fn:PySem.W.isFn K (.ref f)=true
 kp:PySem.W.keepIn K (.ref f)=true
section
variable {X:Cx} {pins:List (Addr×Obj)} {σ:St} {H:Hp} {s:Shared} {a C dx:Addr} {fs:List (Str×V)} {f:Str} {v:V} {A:Around} {E:Value->Shared->Prop}
theorem EG {b:Bool} {Q:Value->Shared->Prop} (I:Inv X pins σ H s) (e:H a=some (.ins C dx fs)) (c:Cls X.K C) (n:mW X.K C f) (l:fs.lookup f=some v)
  (h:∀ u s',Inv X pins σ H s'->RelV v u->Q u s'):wpAny (model X.prog X.w) A (getAttr (.ref a) f b) Q E s:=by
 obtain ⟨mA,O,r,_,_,_⟩:=Br I.hok e
 obtain ⟨u,hu,ru⟩:=pB.some_of (v:=v) (o:=mA f) (by rw [<- l]; exact r f)
 exact get_map I.kIn O (c.get f) c.hd n hu (Hf ru) (h u _ (I.tok _) ru)
theorem wI {m:Str} {g:Addr} {pl:Sem Bool} {Q:Value×List Value->Shared->Prop} (I:Inv X pins σ H s) (e:H a=some (.ins C dx fs)) (c:Cls X.K C) (k:lG X.K C m g) (l:fs.lookup m=none)
  (h:Q (.ref g,[.ref a]) s):wpAny (model X.prog X.w) A (getMethod (.ref a) m pl) Q E s:=by
 obtain ⟨mA,O,r,_,_,_⟩:=Br I.hok e
 have hn:mA m=none:=pB.none_of (by rw [<- l]; exact r m)
 exact Jl I.kIn O (c.get m) k.at_ k.fn hn h
theorem EH {y:V} {u:Value} {Q:Unit->Shared->Prop} (I:Inv X pins σ H s) (e:H a=some (.ins C dx fs)) (c:Cls X.K C) (n:mW X.K C f) (hl:fs.length < 1000) (ry:RelV y u)
  (h:∀ s',Inv X pins σ (upd H a (.ins C dx (kA f y fs))) s'->Q () s'):wpAny (model X.prog X.w) A (setAttr (.ref a) f u) Q E s:=by
 obtain ⟨mA,O,r,wi,_,ho⟩:=Br I.hok e
 have hz:(fs.map (·.1)).length<=sizeLine:=by rw [List.length_map,sizeLine_eq]; omega
 refine MF I.kIn O c.sa c.po n.taker c.hd wi hz fun h' O' sb=>h _ ?_
 have hd:∃ o,h'.get? dx=some o:=let ⟨o,_,_,e',_⟩:=O'.ns; ⟨o,e'⟩
 refine I.write (x:=a) (e:=dx) (by rw [e]; exact True.intro) (.inr ho) (fun b q hb z=>(sb.2 b hb).trans z) hd ?_
 refine ⟨by rw [aX O.ne]; exact ho,?_,O.ne,O'.obj,_,O'.ns,fun g=>?_,fun g hg=>?_⟩
 ·have:=uO f y fs; omega
 ·show pB ((kA f y fs).lookup g) (if g=f then some u else mA g)
  rw [uN]
  by_cases q:g=f
  ·rw [if_pos q,if_pos q]; exact ry
  ·rw [if_neg q,if_neg q]; exact r g
 ·by_cases q:g=f
  ·rw [q]; exact (tK f y fs).1
  ·refine (tK f y fs).2 g (wi g fun z=>hg ?_)
   show (if g=f then some u else mA g)=none
   rw [if_neg q]; exact z
theorem Inv.made (I:Inv X pins σ H s):Inv X pins σ (upd (upd H s.heap.objs.size (.own (s.heap.objs.size+1))) (s.heap.objs.size+1) (.ins C s.heap.objs.size []))
  { s with heap:=(s.heap.push PySem.W.emptyDict).push (PySem.W.instObj C s.heap.objs.size) }:=by
 have e1:(s.heap.push PySem.W.emptyDict).get? s.heap.objs.size=some PySem.W.emptyDict:=Heap.get?_push_size s.heap rfl
 have e2:((s.heap.push PySem.W.emptyDict).push (PySem.W.instObj C s.heap.objs.size)).get? (s.heap.objs.size+1)=some (PySem.W.instObj C s.heap.objs.size):=by
  have:=Heap.get?_push_size (s.heap.push PySem.W.emptyDict) (o:=PySem.W.instObj C s.heap.objs.size) rfl
  rwa [Heap.size_push] at this
 have e3:(s.heap.push PySem.W.emptyDict).Ns s.heap.objs.size (fun _=>none):=⟨PySem.W.emptyDict,#[],_,e1,rfl,(fun e he=>absurd he (by simp)),fun _=>rfl⟩
 have I1:=I.laid (a:=s.heap.objs.size) (o:=.own (s.heap.objs.size+1)) (h':=s.heap.push PySem.W.emptyDict) (t':=s.toks) (fun b u q=>Heap.get?_push_of_some _ q) (Nat.le_refl _) ⟨_,e1⟩
 refine I1.laid (a:=s.heap.objs.size+1) (o:=.ins C s.heap.objs.size []) (t':=s.toks) (fun b u q=>Heap.get?_push_of_some _ q) (Nat.le_of_eq (Heap.size_push _ _)) ?_
 have ne:s.heap.objs.size≠s.heap.objs.size+1:=Nat.ne_of_lt (Nat.lt_succ_self _)
 refine ⟨by rw [aX ne,bK],Nat.zero_le _,ne,e2,fun _=>none,(Heap.Ns1.of_empty e3).at fun o q=>Heap.get?_push_of_some _ q,fun _=>True.intro,fun y hy=>absurd rfl hy⟩
theorem MG {prog:Program} {w:World} {env:Env} {e:Expr} {f:Str} {pos:Pos} {s:Shared} {Q:Value->Shared->Prop} (hb:attributeBase e f env (eval e env)=eval e env)
  (h:wpAny (model prog w) A (eval e env) (fun o s₁=>wpAny (model prog w) A (getAttr o f true) Q E s₁) E s):wpAny (model prog w) A (eval (.Attribute e f pos) env) Q E s:=
 Attribute_any_ h (by rw [arm_eval_Attribute,hb])
end
def TF (K:PySem.W.Frag) (ta:TE) (f:Str):TE:=fun σ H Q=>ta σ H fun x H1=>∃ a C dx fs v,x=.ref a/\H1 a=some (.ins C dx fs)/\Cls K C/\mW K C f/\fs.lookup f=some v/\Q v H1
def TH (K:PySem.W.Frag) (ta tv:TE) (f:Str):TS:=fun D σ H=>tv σ H fun y H1=>ta σ H1 fun x H2=>∃ a C dx fs,x=.ref a/\H2 a=some (.ins C dx fs)/\Cls K C/\mW K C f/\fs.length < 1000/\
 D.nx σ (upd H2 a (.ins C dx (kA f y fs)))
section
variable {X:Cx} {o e value:Expr} {f:Str} {pos pos' tpos:Pos} {ta tv:TE}
theorem Pc (he:PE X e ta) (hb:attributeBase e f X.env (eval e X.env)=eval e X.env):PE X (.Attribute e f pos) (TF X.K ta f):=by
 intro pins s σ H Q I h
 refine MG hb (thn (he pins s σ H _ I h) fun u s1 hz=>?_)
 obtain ⟨x,H1,I1,rx,a,C,dx,fs,v,ex,ea,c,n,l,q⟩:=hz
 subst ex
 obtain rfl:u=Value.ref a:=rx
 exact EG I1 ea c n l fun u' s2 I2 ru=>⟨v,H1,I2,ru,q⟩
theorem Pd (ha:PE X o ta) (hv:PE X value tv) (hs:swapsWith value (some (.Attribute o f pos')) pos.line X.env=pure false):PS X (.Assign [.Attribute o f pos'] value pos) (TH X.K ta tv f):=by
 intro pins s σ H D I h
 refine plainObj_wpAny_Assign_Attribute (thn (hv pins s σ H _ I h) fun u s1 ⟨y,H1,I1,ry,q⟩=>thn (ha pins s1 σ H1 _ I1 q) fun ov s2 hz=>?_) hs
 obtain ⟨x,H2,I2,rx,a,C,dx,fs,ex,ea,c,n,l,q2⟩:=hz
 subst ex
 obtain rfl:ov=Value.ref a:=rx
 exact EH I2 ea c n l ry fun s3 I3=>⟨σ,_,I3,q2⟩
end
section
variable {X:Cx} {pins:List (Addr×Obj)} {σ:St} {H:Hp} {s:Shared} {A:Around} {E:Value->Shared->Prop} {Q:Value->Shared->Prop} {c:Value} {b:Bool}
inductive wJ (K:PySem.W.Frag) (H:Hp):V->Value->Prop where
 | non:wJ K H .non (.type "NoneType")
 | bl (x:Bool):wJ K H (.bl x) (.type "bool")
 | int (i:Int):wJ K H (.int i) (.type "int")
 | str (x:Str):wJ K H (.str x) (.type "str")
 | flt (x:UInt64):wJ K H (.flt x) (.type "float")
 | lst {a:Addr} {xs:List V} (e:H a=some (.lst xs)):wJ K H (.ref a) (.type "list")
 | frz {a:Addr} {o:Obj} {xs:List V} (e:H a=some (.frz o (.lst xs))):wJ K H (.ref a) (.type "list")
 | tup {a:Addr} {xs:List V} (e:H a=some (.tup xs)):wJ K H (.ref a) (.type "tuple")
 | dK {a:Addr} {kvs:List (Key×V)} (e:H a=some (.dK kvs)):wJ K H (.ref a) (.type "dict")
 | dT {a:Addr} {kvs:List (List Key×V)} (e:H a=some (.dT kvs)):wJ K H (.ref a) (.type "dict")
 | ins {a C dx:Addr} {fs:List (Str×V)} (e:H a=some (.ins C dx fs)) (cl:Cls K C) (ha:PySem.W.findIn K (.ref C) "__class__" = some (some (.builtin "object.__class__")))
   (hn:PySem.W.specialIn K (.builtin "object.__class__") "__get__" = some (some (.builtin "getset_descriptor.__get__"))) (htk:PySem.W.takesIn K (.builtin "object.__class__")=some true)
   (hm:PySem.W.mroIn K C (.type "object")=some true):wJ K H (.ref a) (.ref C)
end
end L2
namespace L2
open PySem PySem.Spec PyProof.Rows
structure fG (k:Nat) (A:Around):Prop where
 hd:A.handled=none
 dp:A.depth+3*k+5 < recursionLimit
 un:A.units+16*k+200 < cLine
theorem fG.mono {j k:Nat} {A:Around} (r:fG k A) (h:j<=k):fG j A:=⟨r.hd,by have:=r.dp; omega,by have:=r.un; omega⟩
theorem fG.deeper {k:Nat} {A:Around} (r:fG (k+1) A) (env:Env):fG k (A.deeper env):=
 ⟨r.hd,by have:=r.dp; show A.depth+1+3*k+5 < _; omega,by have:=r.un; show A.units+3+16*k+200 < _; omega⟩
theorem fG.in1 {k:Nat} {A:Around} (r:fG (k+1) A):fG k A.in1:=
 ⟨r.hd,by have:=r.dp; show A.depth+3*k+5 < _; omega,by have:=r.un; show A.units+1+16*k+200 < _; omega⟩
theorem EI {A:Around} {C:Addr} {us:List Value} {kw:List (Str×Value)}:(A.under (.builtin "type.__call__" ⟨.ref C :: us,kw⟩)).depth=A.depth+1:=by
 first | rfl | simp [Around.under,Code.weight,Code.isCreation,Code.isGuard,Code.isCaller,Code.frames,Code.isFrame,guardIds]
theorem EJ {A:Around} {C:Addr} {us:List Value} {kw:List (Str×Value)}:(A.under (.builtin "type.__call__" ⟨.ref C :: us,kw⟩)).units=A.units+1:=by
 first | rfl | simp [Around.under,Code.cUnits,Code.frames,Code.isFrame]
theorem fG.make {k:Nat} {A:Around} (r:fG (k+1) A) (C:Addr) (us:List Value) (kw:List (Str×Value)):fG k (A.under (.builtin "type.__call__" ⟨.ref C :: us,kw⟩)):=
 ⟨r.hd,by have:=r.dp; rw [EI]; omega,by have:=r.un; rw [EJ]; omega⟩
theorem fG.depth {k:Nat} {A:Around} (r:fG k A):A.depth < recursionLimit:=by have:=r.dp; omega
theorem fG.units {k:Nat} {A:Around} (r:fG k A):A.units+64 < cLine:=by have:=r.un; omega
def Pe:TA:=fun _ H Q=>Q [] H
def Ox (ta:TE) (tr:TA):TA:=fun σ H Q=>ta σ H fun x H1=>tr σ H1 fun xs H2=>Q (x :: xs) H2
section
variable {X:Cx} {e:Expr} {es:List Expr} {te:TE} {t:TA} {pos:Pos}
theorem Bs:PA X [] Pe:=fun _ _ _ _ H Q I h=>Calls.spliced_nil ⟨[],H,I,.nil,h⟩
theorem vN (ha:PE X e te) (hr:PA X es t) (hs:starEach (e :: es) X.env=(false,eval e X.env) :: starEach es X.env:=by rfl):PA X (e :: es) (Ox te t):=by
 intro pos pins s σ H Q I h
 rw [hs]
 show wpAny _ _ (spliced ((false,eval e X.env) :: backTo pos (starEach es X.env))) _ _ s
 refine Calls.spliced_cons (thn (ha pins s σ H _ I h) fun u s1 hz=>?_)
 obtain ⟨x,H1,I1,r1,q1⟩:=hz
 exact thn (hr pos pins s1 σ H1 _ I1 q1) fun us s2 ⟨xs,H2,I2,r2,q2⟩=>⟨x :: xs,H2,I2,.cons r1 r2,q2⟩
def TJ (t:TA):TE:=fun σ H Q=>t σ H fun xs H1=>xs.length<=sizeLine/\∀ p,H1 p=none->Q (.ref p) (upd H1 p (.tup xs))
def TK (t:TA):TE:=fun σ H Q=>t σ H fun xs H1=>xs.length<=sizeLine/\∀ p,H1 p=none->Q (.ref p) (upd H1 p (.lst xs))
theorem Pf {x1} (h:PA X es t):PE X (.Tuple es x1 pos) (TJ t):=by
 intro pins s σ H Q I hq
 refine wpAny_Tuple_spliced (thn (h pos pins s σ H _ I hq) fun us s1 ⟨xs,H1,I1,r,z,q⟩=>⟨by rw [<- r.length]; exact z,?_⟩)
 have hf:H1 s1.heap.objs.size=none:=I1.hok.fresh (Nat.le_refl _)
 refine ⟨.ref s1.heap.objs.size,upd H1 s1.heap.objs.size (.tup xs),I1.laid (t':=s1.toks) (fun b u e=>Heap.get?_push_of_some _ e) (Nat.le_refl _) ?_,rfl,q _ hf⟩
 exact ⟨z,us,r,⟨_,Heap.get?_push_size _ rfl,rfl,⟨_,rfl⟩,rfl⟩⟩
theorem Pg (h:PA X es t):PE X (.List es pos) (TK t):=by
 intro pins s σ H Q I hq
 refine wpAny_List_spliced (thn (h pos pins s σ H _ I hq) fun us s1 ⟨xs,H1,I1,r,z,q⟩=>⟨by rw [<- r.length]; exact z,?_⟩)
 have hf:H1 s1.heap.objs.size=none:=I1.hok.fresh (Nat.le_refl _)
 refine ⟨.ref s1.heap.objs.size,upd H1 s1.heap.objs.size (.lst xs),I1.laid (t':=s1.toks) (fun b u e=>Heap.get?_push_of_some _ e) (Nat.le_refl _) ?_,rfl,q _ hf⟩
 exact ⟨z,us,0,r,Heap.get?_push_size _ rfl⟩
end
abbrev Sp:=List V->Hp->VK->XK->Prop
abbrev CXT:=List Env->Hp->Shared->XK->Value->Shared->Prop
structure zU (P:Program) (w:World) (K:PySem.W.Frag) (mg:Str->Option Value) (base:Heap) (A:Around) (outer:List Env) (s:Shared) (H:Hp):Prop where
 frames:A.frames=some outer
 mod:Mod K mg base
 bs:∀ b o,base.get? b=some o->s.heap.get? b=some o/\H b=none
 bsz:base.objs.size<=s.heap.objs.size
 funs:s.heap.FunFrames base outer
 frf:∀ b∈frs outer,H b=none
 hok:HOk P w H s.heap
 bare:AllBare s.gens
def CE (outer:List Env) (P:Program) (w:World) (H:Hp) (s:Shared) (Q:VK) (u:Value) (s':Shared):Prop:=
 ∃ v H',s'.os=s.os/\AllBare s'.gens/\Un (frs outer) [] H H' s.heap s'.heap/\HOk P w H' s'.heap/\RelV v u/\Q v H'
def CR (CX:CXT) (outer:List Env) (P:Program) (w:World) (H:Hp) (s:Shared) (Q:VK) (E:XK) (r:Result) (s':Shared):Prop:=
 match r with
 | .ok (.ret u)=>CE outer P w H s Q u s'
 | .ok _=>False
 | .error e=>CX outer H s E e s'
structure aM (P:Program) (w:World) (K:PySem.W.Frag) (mg:Str->Option Value) (base:Heap) (CX:CXT) (k:Nat) (f:Addr) (fd:FuncData) (ps:List Str) (sp:Sp):Prop where
 len:∀ vs H Q E,sp vs H Q E->vs.length=ps.length
 run:∀ (A:Around) (outer:List Env) (s:Shared) (H:Hp) (args:Args) (us:List Value) (vs:List V) (Q:VK) (E:XK),fG k A->zU P w K mg base A outer s H->BindsTo s fd args (ps.zip us)->aP vs us->sp vs H Q E->
  codeAny (model P w) A (.call (.ref f) args) (CR CX outer P w H s Q E) s
theorem aM.imp {P:Program} {w:World} {K:PySem.W.Frag} {mg:Str->Option Value} {base:Heap} {CX:CXT} {k:Nat} {f:Addr} {fd:FuncData} {ps:List Str} {sp sp':Sp} (F:aM P w K mg base CX k f fd ps sp)
  (h:∀ vs H Q E,sp' vs H Q E->sp vs H Q E):aM P w K mg base CX k f fd ps sp':=
 ⟨fun vs H Q E q=>F.len vs H Q E (h _ _ _ _ q),fun A outer s H args us vs Q E hr he hb hv hs=>F.run A outer s H args us vs Q E hr he hb hv (h _ _ _ _ hs)⟩
theorem zU.make {P:Program} {w:World} {K:PySem.W.Frag} {mg:Str->Option Value} {base:Heap} {A:Around} {outer:List Env} {s:Shared} {H:Hp} (e:zU P w K mg base A outer s H) (C:Addr) (us:List Value) (kw:List (Str×Value)):
  zU P w K mg base (A.under (.builtin "type.__call__" ⟨.ref C :: us,kw⟩)) outer s H:=⟨by first | exact e.frames | (simpa [Around.under,Code.envs,Code.isFrame,pushEnvs] using e.frames),e.mod,e.bs,e.bsz,e.funs,e.frf,e.hok,e.bare⟩
theorem zU.in1 {P:Program} {w:World} {K:PySem.W.Frag} {mg:Str->Option Value} {base:Heap} {A:Around} {outer:List Env} {s:Shared} {H:Hp} (e:zU P w K mg base A outer s H):
  zU P w K mg base A.in1 outer s H:=⟨e.frames,e.mod,e.bs,e.bsz,e.funs,e.frf,e.hok,e.bare⟩
section
variable {X:Cx} {pins:List (Addr×Obj)} {σ:St} {H:Hp} {s s':Shared}
theorem Inv.env0 (I:Inv X pins σ H s):zU X.prog X.w X.K X.mg X.base X.A X.stack s H:=
 ⟨I.ok.frames,I.ok.mod,I.bs,Nat.le_trans I.ok.bsz I.sz,I.stack,I.stkFree,I.hok,I.bare⟩
theorem Inv.after {Q:VK} {u:Value} (I:Inv X pins σ H s) (h:CE X.stack X.prog X.w H s Q u s'):EP X pins σ Q u s':=by
 obtain ⟨v,H',os,bare,un,hok,r,q⟩:=h
 obtain ⟨hh,g,d,t,os'⟩:=s'
 obtain rfl:os'=s.os:=os
 exact ⟨v,H',I.call (h':=hh) (g':=g) (d':=d) (t':=t) (ch:=[]) un hok bare (fun b z=>absurd z (by simp)),r,q⟩
end
def Oy (sp:Sp) (dvs:List V) (E:XK) (t:TA):TE:=fun σ H Q=>t σ H fun vs H1=>sp (vs++dvs) H1 Q E
def Rg (C:Addr) (sp:Sp) (dvs:List V) (E:XK) (t:TA):TE:=fun σ H Q=>t σ H fun vs H1=>∀ x dx,H1 x=none->H1 dx=none->dx≠x->
 sp (.ref x :: (vs++dvs)) (upd (upd H1 dx (.own x)) x (.ins C dx [])) (fun v H2=>v=.non/\Q (.ref x) H2) E
def Binds (K:PySem.W.Frag) (fd:FuncData) (ps:List Str) (ds:List Value):Prop:=
 ∀ (s:Shared) (us:List Value),K.In s.heap->(us++ds).length=ps.length->BindsTo s fd ⟨us,[]⟩ (ps.zip (us++ds))
theorem Binds.all {K:PySem.W.Frag} {fd:FuncData} {ps:List Str} (h:∀ us:List Value,us.length=ps.length->bindArgs fd ⟨us,[]⟩=pure (ps.zip us)):Binds K fd ps []:=fun s us _ hl=>by
 rw [List.append_nil] at hl ⊢
 exact .of_eq (h us hl)
def wK (CX:CXT) (X:Cx) (E:XK):Prop:=∀ (pins:List (Addr×Obj)) (σ:St) (H:Hp) (s:Shared) (e:Value) (s':Shared),Inv X pins σ H s->CX X.stack H s E e s'->X.xe e s'
section
variable {X:Cx} {CX:CXT} {k:Nat} {f C:Addr} {fd:FuncData} {ps:List Str} {sp:Sp} {dvs:List V} {ds:List Value} {E:XK} {x m:Str} {p pos apos:Pos} {e o:Expr} {es:List Expr} {ta:TE} {t:TA}
theorem EK {pins:List (Addr×Obj)} {σ:St} {H:Hp} {s:Shared} {Q:VK} {us:List Value} {vs:List V} (F:aM X.prog X.w X.K X.mg X.base CX k f fd ps sp) (hr:fG k X.A) (hb:Binds X.K fd ps ds) (hd:aP dvs ds) (hx:wK CX X E)
  (I:Inv X pins σ H s) (r:aP vs us) (h:sp (vs++dvs) H Q E):wpAny (model X.prog X.w) X.A (call (.ref f) us) (EP X pins σ Q) X.xe s:=by
 have r2:aP (vs++dvs) (us++ds):=r.append hd
 have hl:(us++ds).length=ps.length:=by rw [<- r2.length]; exact F.len _ _ _ _ h
 refine wpAny_call (codeAny_mono (F.run X.A X.stack s H ⟨us,[]⟩ (us++ds) (vs++dvs) Q E hr I.env0 (hb s us I.kIn hl) r2 h) fun r s' hq=>?_)
 cases r with
 | error e=>exact hx pins σ H s e s' I hq
 | ok fl=>
  cases fl with
  | ret u=>exact I.after hq
  | next=>exact False.elim hq
  | brk=>exact False.elim hq
  | cont=>exact False.elim hq
theorem MH (F:aM X.prog X.w X.K X.mg X.base CX k f fd ps sp) (hr:fG k X.A) (hg:Gl X x) (hm:X.mg x=some (.ref f)) (hk:PySem.W.keepIn X.K (.ref f)=true) (hb:Binds X.K fd ps ds) (hd:aP dvs ds) (hx:wK CX X E)
  (ha:PA X (e :: es) t) (hdb:(x == ("__debug__" : Str))=false:=by decide) (he:starEach (e :: es) X.env=(false,eval e X.env) :: starEach es X.env:=by rfl) (hpl:(backTo pos (starEach es X.env)).any (·.1)=false:=by rfl):
  PE X (.Call (.Name x p) (e :: es) [] pos) (Oy sp dvs E t):=by
 intro pins s σ H Q I h
 refine wpAny_Call_Name_kw (Bo I hg hm ?_ hdb)
 refine PySem.W.callWith_K (h₀:=X.base) I.ok.mod.kin hk (thn (ha pos pins s σ H _ I h) fun us s1 ⟨vs,H1,I1,r,q⟩=>⟨I1.kIn,?_⟩) he hpl
 exact EK F hr hb hd hx I1 r q
structure Mk (K:PySem.W.Frag) (C f:Addr):Prop where
 makes:PySem.W.makesIn K C=true
 init:PySem.W.findIn K (.ref C) "__init__" = some (some (.ref f))
 fn:PySem.W.isFn K (.ref f)=true
 kp:PySem.W.keepIn K (.ref C)=true
theorem Jn {pins:List (Addr×Obj)} {σ:St} {H:Hp} {s:Shared} {Q:VK} {us:List Value} {vs:List V} (M:Mk X.K C f) (F:aM X.prog X.w X.K X.mg X.base CX k f fd ps sp) (hr:fG (k+1) X.A) (hb:Binds X.K fd ps ds) (hd:aP dvs ds)
  (hx:wK CX X E) (I:Inv X pins σ H s) (r:aP vs us)
  (h:∀ x dx,H x=none->H dx=none->dx≠x->sp (.ref x :: (vs++dvs)) (upd (upd H dx (.own x)) x (.ins C dx [])) (fun v H2=>v=.non/\Q (.ref x) H2) E):
  wpAny (model X.prog X.w) X.A (call (.ref C) us) (EP X pins σ Q) X.xe s:=by
 have hq:=h (s.heap.objs.size+1) s.heap.objs.size (I.hok.fresh (Nat.le_succ _)) (I.hok.fresh (Nat.le_refl _)) (Nat.ne_of_lt (Nat.lt_succ_self _))
 have I2:=Inv.made (C:=C) I
 have r2:aP (V.ref (s.heap.objs.size+1) :: (vs++dvs)) (Value.ref (s.heap.objs.size+1) :: (us++ds)):=.cons rfl (r.append hd)
 have hl:(Value.ref (s.heap.objs.size+1) :: us++ds).length=ps.length:=by
  have e:=r2.length
  rw [F.len _ _ _ _ hq] at e
  exact e.symm
 refine wpAny_call (Jm (f:=f) I.kIn M.makes M.init (beq_iff_eq.mp M.fn) (codeAny_mono (F.run _ X.stack _ _ ⟨Value.ref (s.heap.objs.size+1) :: us,[]⟩ (Value.ref (s.heap.objs.size+1) :: (us++ds)) _ _ E (hr.make C us [])
  (I2.env0.make C us []) (hb _ (Value.ref (s.heap.objs.size+1) :: us) I2.kIn hl) r2 hq) fun r s' hq'=>?_))
 cases r with
 | error e=>exact hx pins σ _ _ e s' I2 hq'
 | ok fl=>
  cases fl with
  | ret u=>
   obtain ⟨v,H',I3,rv,ev,q3⟩:=I2.after hq'
   subst ev
   exact ⟨rv,⟨V.ref (s.heap.objs.size+1),H',I3,rfl,q3⟩⟩
  | next=>exact False.elim hq'
  | brk=>exact False.elim hq'
  | cont=>exact False.elim hq'
theorem Jo (M:Mk X.K C f) (F:aM X.prog X.w X.K X.mg X.base CX k f fd ps sp) (hr:fG (k+1) X.A) (hg:Gl X x) (hm:X.mg x=some (.ref C)) (hb:Binds X.K fd ps ds) (hd:aP dvs ds) (hx:wK CX X E)
  (hdb:(x == ("__debug__" : Str))=false:=by decide):PE X (.Call (.Name x p) [] [] pos) (Rg C sp dvs E Pe):=by
 intro pins s σ H Q I h
 refine wpAny_Call_Name_kw (Bo I hg hm ?_ hdb)
 exact PySem.W.callWith_K0 I.kIn M.kp (Jn (us:=[]) M F hr hb hd hx I .nil h)
end
section
variable {X:Cx} {CX:CXT} {k:Nat} {f C:Addr} {fd:FuncData} {ps ks:List Str} {sp:Sp} {E:XK} {x m:Str} {p pos apos kpos:Pos} {e o:Expr} {es:List Expr} {kws:List Keyword} {te ta:TE} {t tk:TA} {nm:Option Str}
structure TL (K:PySem.W.Frag) (fd:FuncData) (ps ks:List Str) (g:List Value->List Value->List Value) (gV:List V->List V->List V):Prop where
 to:∀ (s:Shared) (us ws:List Value),K.In s.heap->(g us ws).length=ps.length->BindsTo s fd ⟨us,ks.zip ws⟩ (ps.zip (g us ws))
 rel:∀ {vs:List V} {us:List Value} {zs:List V} {ws:List Value},aP vs us->aP zs ws->aP (gV vs zs) (g us ws)
variable {g:List Value->List Value->List Value} {gV:List V->List V->List V}
end
structure aZ (N P:List Str) (sc:Scope):Prop where
 kind:sc.kind=.function
 co:sc.isCoroutine=false
 gen:sc.isGenerator=false
 nd:N.Nodup
 pre:N.take P.length=P
 par:∀ x∈P,sc.names.lookup x=some .local\/sc.names.lookup x=some .cell
 nofree:∀ y∈sc.names,y.2≠.free
theorem AA {kindOf:Str->Option NameKind} {x:Str}:∀ {binds:List (Str×Value)} {m:Str->Option Value},(∀ v,(x,v)∉binds)->bindL kindOf binds m x=m x
 | [],_,_=>rfl
 | (n,v) :: r,m,h=>by
  unfold bindL
  rw [AA fun w hw=>h w (List.mem_cons_of_mem _ hw)]
  split
  ·have:x≠n:=by rintro rfl; exact h v List.mem_cons_self
   simp [this]
  ·rfl
theorem AB {kindOf:Str->Option NameKind} {x:Str}:∀ {binds:List (Str×Value)} {m:Str->Option Value},(∀ v,(x,v)∉binds)->bindC kindOf binds m x=m x
 | [],_,_=>rfl
 | (n,v) :: r,m,h=>by
  unfold bindC
  rw [AB fun w hw=>h w (List.mem_cons_of_mem _ hw)]
  split
  ·rfl
  ·have:x≠n:=by rintro rfl; exact h v List.mem_cons_self
   simp [this]
theorem AC {kindOf:Str->Option NameKind} {x:Str} {v:Value}:∀ {P:List Str} {vs:List Value} {i:Nat} {m:Str->Option Value},P.Nodup->P[i]?=some x->vs[i]?=some v->kindOf x=some .local->
  bindL kindOf (P.zip vs) m x=some v
 | [],_,_,_,_,h,_,_=>by simp at h
 | _ :: _,[],_,_,_,_,h,_=>by simp at h
 | p :: P,w :: vs,0,m,nd,h1,h2,hk=>by
  simp at h1 h2; subst h1; subst h2
  show bindL kindOf ((p,w) :: P.zip vs) m p=_
  unfold bindL
  rw [AA fun v hv=>(List.nodup_cons.mp nd).1 (List.of_mem_zip hv).1,if_pos hk]
  simp
 | p :: P,w :: vs,i+1,m,nd,h1,h2,hk=>by
  show bindL kindOf ((p,w) :: P.zip vs) m x=_
  unfold bindL
  exact AC (i:=i) (List.nodup_cons.mp nd).2 (by simpa using h1) (by simpa using h2) hk
theorem AD {kindOf:Str->Option NameKind} {x:Str} {v:Value}:∀ {P:List Str} {vs:List Value} {i:Nat} {m:Str->Option Value},P.Nodup->P[i]?=some x->vs[i]?=some v->kindOf x≠some .local->
  bindC kindOf (P.zip vs) m x=some v
 | [],_,_,_,_,h,_,_=>by simp at h
 | _ :: _,[],_,_,_,_,h,_=>by simp at h
 | p :: P,w :: vs,0,m,nd,h1,h2,hk=>by
  simp at h1 h2; subst h1; subst h2
  show bindC kindOf ((p,w) :: P.zip vs) m p=_
  unfold bindC
  rw [AB fun v hv=>(List.nodup_cons.mp nd).1 (List.of_mem_zip hv).1,if_neg hk]
  simp
 | p :: P,w :: vs,i+1,m,nd,h1,h2,hk=>by
  show bindC kindOf ((p,w) :: P.zip vs) m x=_
  unfold bindC
  exact AD (i:=i) (List.nodup_cons.mp nd).2 (by simpa using h1) (by simpa using h2) hk
def start (N:List Str) (vs:List V):St:=vs.map some++List.replicate (N.length - vs.length) none
def EL (CX:CXT) (P:Program) (w:World) (K:PySem.W.Frag) (mg:Str->Option Value) (base:Heap) (N:List Str) (qual:Str) (scope:Scope) (f:Addr) (cd:Value) (A:Around) (outer:List Env) (s:Shared) (H:Hp) (E:XK):Cx where
 prog:=P
 w:=w
 K:=K
 mg:=mg
 base:=base
 A:=A.deeper (envOfC qual scope s.heap.objs.size f cd)
 N:=N
 s₀:=s
 H₀:=H
 env:=envOfC qual scope s.heap.objs.size f cd
 outer:=outer
 stack:=envOfC qual scope s.heap.objs.size f cd :: outer
 ex:=[]
 calm:=true
 fn:=fun _=>true
 pn:=[]
 xe:=fun e s'=>wpAny (model P w) (A.deeper (envOfC qual scope s.heap.objs.size f cd)) (leaving (envOfC qual scope s.heap.objs.size f cd) e) (fun _ s''=>CX outer H s E e s'') (fun e' s''=>CX outer H s E e' s'') s'
theorem CU {sc:Scope} {n:Nat} {x:Str} (h:sc.names.lookup x=some .cell):∃ c,(cellsFrom n sc.names []).lookup x=some c:=by
 have q:=PySem.W.cellsFrom_some sc.names n [] (.inl h)
 exact Option.isSome_iff_exists.mp q
theorem Hg {CX:CXT} {P:Program} {w:World} {K:PySem.W.Frag} {mg:Str->Option Value} {base:Heap} {N ps:List Str} {qual:Str} {scope:Scope} {f:Addr} {cd:Value} {A:Around} {outer:List Env} {s s1:Shared} {H:Hp} {E:XK} {us:List Value} {vs:List V}
  (S:aZ N ps scope) (hd:A.handled=none) (e0:zU P w K mg base A outer s H) (hl:vs.length=ps.length) (r:aP vs us)
  (x:InCallC s s.heap.objs.size (bindL (envOfC qual scope s.heap.objs.size f cd).kindOf (ps.zip us) fun _=>none) (cellsFrom (s.heap.objs.size+1) scope.names []) (bindC (envOfC qual scope s.heap.objs.size f cd).kindOf (ps.zip us) fun _=>none) s1):
  Inv (EL CX P w K mg base N qual scope f cd A outer s H E) [] (start N vs) H s1:=by
 have hpl:ps.length<=N.length:=by have:=congrArg List.length S.pre; rw [List.length_take] at this; omega
 obtain ⟨h1,tk,rfl,hk⟩:=x.done
 have noA:∀ b:Addr,b∉(EL CX P w K mg base N qual scope f cd A outer s H E).ex:=fun b z=>absurd (show b∈([]:List Addr) from z) (by simp)
 refine ⟨⟨e0.mod,S.kind,rfl,rfl,Nat.le_refl _,fun y z c h1 h2=>?_,fun y hy=>?_,fun y c _ h=>?_,fun _=>hd,Around.frames_deeper e0.frames,.inr ⟨rfl,rfl⟩,fun b z=>absurd z (noA b),e0.bs,e0.bsz,fun b _ _=>noA b,fun b z=>absurd z (noA b),e0.funs,e0.frf⟩,
  rfl,e0.bare,Un.kept hk,⟨_,x.toInCall.ns,fun i y v h1 h2 h3=>?_⟩,fun y c h=>⟨_,x.cell y c h⟩,e0.hok.fresh (Nat.le_refl _),fun y c h=>?_,fun p hp=>absurd (show p∈([]:List (Addr×Obj)) from hp) (by simp),e0.hok.kept hk,?_⟩
 ·exact name_of_addr x.apart (PySem.mem_of_lookup h1) (PySem.mem_of_lookup h2)
 ·have hy:scope.names.lookup y=some .cell\/scope.names.lookup y=some .free:=hy
  rcases hy with hy | hy
  ·exact CU hy
  ·exact absurd rfl (S.nofree _ (PySem.mem_of_lookup hy))
 ·exact Nat.le_of_lt (x.above y c (PySem.mem_of_lookup h))
 ·have hi:i < vs.length:=by
   unfold start at h2
   by_cases hi:i < vs.length
   ·exact hi
   ·rw [List.getElem?_append_right (by simpa using hi)] at h2
    rw [List.getElem?_replicate] at h2
    split at h2 <;> cases h2
  have ha:vs[i]?=some v:=by
   unfold start at h2
   rw [List.getElem?_append_left (by simpa using hi),List.getElem?_map] at h2
   cases e:vs[i]? with
   | none=>rw [e] at h2; cases h2
   | some a=>rw [e] at h2; cases h2; rfl
  obtain ⟨u,hu,rv⟩:=r.get ha
  have hp:ps[i]?=some y:=by
   rw [<- S.pre,List.getElem?_take_of_lt (by omega)]; exact h1
  have ndP:ps.Nodup:=by rw [<- S.pre]; exact S.nd.sublist (List.take_sublist _ _)
  refine ⟨u,rv,?_⟩
  rcases S.par y (List.mem_of_getElem? hp) with k | k
  ·exact .inl ⟨k,AC ndP hp hu k⟩
  ·obtain ⟨c,e⟩:=CU (n:=s.heap.objs.size+1) k
   refine .inr ⟨.inl k,c,e,?_⟩
   have q:=x.cell y c e
   rw [AD ndP hp hu (by show scope.names.lookup y≠_; rw [k]; decide)] at q
   exact q
 ·exact e0.hok.fresh (Nat.le_of_lt (x.above y c (PySem.mem_of_lookup h)))
 ·unfold start
  show _=N.length
  rw [List.length_append,List.length_map,List.length_replicate]
  omega
theorem Rh {CX:CXT} {P:Program} {w:World} {K:PySem.W.Frag} {mg:Str->Option Value} {base:Heap} {k:Nat} {f:Addr} {name qual:Str} {params:Arguments} {body:List Stmt} {scope:Scope} {dV kV doc pm cdv ct oc:Value} {an od:Option Addr}
  {osl:Array (Option Value)} {N ps:List Str} {sp:Sp} (lk:K.lookup f=some ⟨oc,od,.func (PySem.W.fnOf name qual params body scope dV kV doc pm an cdv ct),osl⟩) (hcd:PySem.W.codeIn K cdv qual=true) (S:aZ N ps scope)
  (len:∀ vs H Q E,sp vs H Q E->vs.length=ps.length)
  (hbody:∀ (A:Around) (outer:List Env) (s:Shared) (H:Hp) (vs:List V) (Q:VK) (E:XK),fG k (A.deeper (envOfC qual scope s.heap.objs.size f cdv))->sp vs H Q E->
   ∃ t,PSs (EL CX P w K mg base N qual scope f cdv A outer s H E) body t/\t { nx:=fun _ H'=>Q .non H',rt:=Q } (start N vs) H):
  aM P w K mg base CX (k+1) f (PySem.W.fnOf name qual params body scope dV kV doc pm an cdv ct) ps sp:=by
 refine ⟨len,fun A outer s H args us vs Q E hr e0 hb r hsp=>?_⟩
 have hl:=len _ _ _ _ hsp
 have KX:K.In s.heap:=e0.mod.kin.keeps fun b o e=>(e0.bs b o e).1
 have lim:s.heap.NoLimit:=e0.mod.nolimit.keeps fun b o e=>(e0.bs b o e).1
 have hkind:∀ y∈ps.zip us,scope.names.lookup y.1=some .local\/(scope.names.lookup y.1=some .cell/\((cellsFrom (s.heap.objs.size+1) scope.names []).lookup y.1).isSome=true):=fun ⟨n,v⟩ hy=>by
  rcases S.par n (List.of_mem_zip hy).1 with q | q
  ·exact .inl q
  ·exact .inr ⟨q,PySem.W.cellsFrom_some _ _ _ (.inl q)⟩
 refine codeAny_call_function hr.depth (KX _ _ lk) rfl S.co S.gen rfl (PySem.W.codeRec_of KX hcd) (hb _ _ _ _ ?_)
 refine wpAny_newFunctionEnv_cells S.kind hkind fun env he s1 x=>?_
 subst he
 refine ⟨lim.keeps x.toInCall.keep,codeAny_func ?_⟩
 obtain ⟨t,ht,hq⟩:=hbody A outer s H vs Q E (hr.deeper _) hsp
 have I:Inv (EL CX P w K mg base N qual scope f cdv A outer s H E) [] (start N vs) H s1:=Hg S hr.hd e0 hl r x
 refine wpAny_mono (ht [] s1 (start N vs) H _ I hq) (fun fl s' hs=>?_) fun e s' hs=>hs
 have fin:∀ {σ':St} {H':Hp} {v:V} {u:Value},Inv (EL CX P w K mg base N qual scope f cdv A outer s H E) [] σ' H' s'->RelV v u->Q v H'->CE outer P w H s Q u s':=
  fun {σ' H' v u} J rv q=>⟨v,H',J.os,J.bare,J.base,J.hok,rv,q⟩
 cases fl with
 | ret u=>
  obtain ⟨v,σ',H',J,rv,q⟩:=hs
  exact fin J rv q
 | next=>
  obtain ⟨σ',H',J,q⟩:=hs
  exact fin (v:=V.non) (u:=Value.none) J rfl q
 | brk=>
  obtain ⟨_,_,_,q⟩:=hs
  exact False.elim q
 | cont=>
  obtain ⟨_,_,_,q⟩:=hs
  exact False.elim q
end L2
namespace L2
open PySem PySem.Spec PyProof.Rows
section
variable {X:Cx} {x:Str} {p pos:Pos} {e:Expr} {es:List Expr} {t:TA} {id T:String} {r:List V->Hp->VK->Prop}
def tCB (r:List V->Hp->VK->Prop) (t:TA):TE:=fun σ H Q=>t σ H fun vs H1=>r vs H1 Q
theorem CV (hc:bT X (.builtin id) r) (hg:Gl X x) (hm:X.mg x=none) (hv:bootBuiltins x=some (.builtin id)) (ha:PA X (e :: es) t) (hn:x≠"__name__" := by decide) (hdb:(x == ("__debug__" : Str))=false:=by decide)
  (he:starEach (e :: es) X.env=(false,eval e X.env) :: starEach es X.env:=by rfl) (hpl:(backTo pos (starEach es X.env)).any (·.1)=false:=by rfl):PE X (.Call (.Name x p) (e :: es) [] pos) (tCB r t):=by
 intro pins s σ H Q I h
 refine wpAny_Call_Name_kw (Bp I hg hm hv ?_ hn hdb)
 exact PyProof.Rows.callWith_builtin1 (thn (ha pos pins s σ H _ I h) fun us s1 ⟨vs,H1,I1,r1,q1⟩=>hc pins s1 σ H1 vs us Q I1 r1 q1) he hpl
theorem AE (hc:bT X (.type T) r) (hg:Gl X x) (hm:X.mg x=none) (hv:bootBuiltins x=some (.type T)) (ha:PA X (e :: es) t) (hn:x≠"__name__" := by decide) (hdb:(x == ("__debug__" : Str))=false:=by decide)
  (he:starEach (e :: es) X.env=(false,eval e X.env) :: starEach es X.env:=by rfl) (hpl:(backTo pos (starEach es X.env)).any (·.1)=false:=by rfl):PE X (.Call (.Name x p) (e :: es) [] pos) (tCB r t):=by
 intro pins s σ H Q I h
 refine wpAny_Call_Name_kw (Bp I hg hm hv ?_ hn hdb)
 exact PyProof.Rows.callWith_type1 (thn (ha pos pins s σ H _ I h) fun us s1 ⟨vs,H1,I1,r1,q1⟩=>hc pins s1 σ H1 vs us Q I1 r1 q1) he hpl
end
end L2
namespace HT
open PySem PyProof.Rows
section
open PySem.SeqAt
open PySem.AutoSeq1 (wpAny_loadPart')
open PySem.MeetsSeq PySem.MeetsSeq2 PySem.MeetsSeq3
end
section
variable {prog:Program} {w:World} {A:Around} {E:Value->Shared->Prop} {s:Shared}
theorem cat_tup {t b:Addr} {vs ws:List Value} {Q:Value->Shared->Prop} (ht:IsTup s.heap t vs.toArray) (hb:IsTup s.heap b ws.toArray) (hv:vs≠[])
  (h1:ws=[]->Q (.ref t) s) (h2:ws≠[]->Q (.ref s.heap.objs.size) { s with heap:=s.heap.push { cls:=.type "tuple",data:=.seq (vs++ws).toArray } })
  (hsz:vs.length+ws.length<=sizeLine):wpAny (model prog w) A (binaryOp .Add (.ref t) (.ref b)) Q E s:=by
 obtain ⟨⟨cls,dd,data,sl⟩,ho,hc,n,hd⟩:=id ht
 obtain ⟨⟨cls2,dd2,data2,sl2⟩,ho2,hc2,n2,hd2⟩:=id hb
 simp only at hc hd hc2 hd2
 subst hc hd hc2 hd2
 have e:vs.toArray++ws.toArray=(vs++ws).toArray:=by simp
 by_cases hw:ws=[]
 ·exact concat_meets ⟨_,ho,rfl⟩ ⟨_,ho2,rfl⟩ noFill_tuple_add seq_tuple_add PySem.F.slot_tuple_add PySem.F.entry_tuple_add (PySem.F.args_tuple_add_2 _ _)
   (tuple_addW1 t b vs.toArray ws.toArray n n2 dd dd2 sl sl2 (by simpa using hv) (by simp [hw])) ⟨ho,ho2,h1 hw⟩
 ·refine concat_meets ⟨_,ho,rfl⟩ ⟨_,ho2,rfl⟩ noFill_tuple_add seq_tuple_add PySem.F.slot_tuple_add PySem.F.entry_tuple_add (PySem.F.args_tuple_add_2 _ _)
   (tuple_addW2 t b vs.toArray ws.toArray n n2 dd dd2 sl sl2 (by simpa using hv) (by simpa using hw) (by rw [List.size_toArray,List.size_toArray]; exact hsz)) ⟨ho,ho2,?_⟩
  rw [e]
  exact h2 hw
def sIx (n d:Nat):Option Int->Nat
 | none=>d
 | some v=>if v < 0 then (v+(n:Int)).toNat else min v.toNat n
theorem G0 (n d k:Nat):sIx n d (some (k:Int))=min k n:=by
 show (if (k:Int) < 0 then ((k:Int)+(n:Int)).toNat else min (k:Int).toNat n)=min k n
 rw [if_neg (by omega),Int.toNat_natCast]
theorem Ph (n d:Nat) (hd:d<=n) (o:Option Int):sIx n d o<=n:=by
 cases o with
 | none=>exact hd
 | some v=>
  show (if v < 0 then (v+(n:Int)).toNat else min v.toNat n)<=n
  by_cases hv:v < 0
  ·rw [if_pos hv]; omega
  ·rw [if_neg hv]; exact Nat.min_le_right _ _
theorem G1 (v:Int) (n d:Nat):(if v < 0 then max (v+(n:Int)) 0 else min v (n:Int))=((sIx n d (some v):Nat):Int):=by
 show (if v < 0 then max (v+(n:Int)) 0 else min v (n:Int))=(((if v < 0 then (v+(n:Int)).toNat else min v.toNat n):Nat):Int)
 by_cases hv:v < 0
 ·simp only [if_pos hv]; omega
 ·simp only [if_neg hv]; omega
theorem EM (lo hi:Option Int) (n:Nat):Builtin.Slice.sliceAdjust lo hi 1 (n:Int)=(((sIx n 0 lo:Nat):Int),((sIx n n hi:Nat):Int)):=by
 have h1:¬ ((1:Int) < 0):=by omega
 unfold Builtin.Slice.sliceAdjust
 simp only [h1,if_false]
 refine Prod.ext ?_ ?_
 ·cases lo with
  | none=>rfl
  | some v=>exact G1 v n 0
 ·cases hi with
  | none=>rfl
  | some v=>exact G1 v n n
theorem EO (i j:Nat):Builtin.Slice.slicePlaces (i:Int) (j:Int) 1=j - i:=by
 unfold Builtin.Slice.slicePlaces
 have h1:(1:Int) > 0:=by omega
 simp only [h1,if_true,Int.ediv_one]
 split <;> omega
theorem wL {v:Value} {o:Option Int} {Q:Option Int->Shared->Prop} (p:IsPart v o) (h:Q o s):wpAny (model prog w) A (Builtin.Slice.slicePartIndex v) Q E s:=by
 cases p with
 | none=>exact slicePart_none h
 | int i t=>exact slicePart_int h
theorem sliceApplied_gen {sl:Addr} {vl vu:Value} {lo hi:Option Int} {n:Nat} {Q:Int×Int×Nat->Shared->Prop} (hs:s.heap.IsSliceOf sl vl vu .none) (pl:IsPart vl lo) (pu:IsPart vu hi)
  (h:Q (((sIx n 0 lo:Nat):Int),1,sIx n n hi - sIx n 0 lo) s):wpAny (model prog w) A (Builtin.Slice.sliceApplied (.ref sl) (pure (n:Int))) Q E s:=by
 obtain ⟨os,hos,hcs,hds⟩:=id hs
 unfold Builtin.Slice.sliceApplied Builtin.Slice.sliceFields
 refine wpAny_bind (wpAny_bind (wpAny_field hos hds (x:=vl) rfl (wpAny_bind (wpAny_field hos hds (x:=vu) rfl (wpAny_bind (wpAny_field hos hds (x:=.none) rfl (wpAny_pure ?_)))))))
 refine wpAny_bind (slicePart_none ?_)
 show wpAny _ _ (if ((1:Int) == 0)=true then _ else _) _ _ s
 rw [if_neg (by decide)]
 refine wpAny_bind (wL pl (wpAny_bind (wL pu (wpAny_bind (wpAny_pure ?_)))))
 show wpAny _ _ (match Builtin.Slice.sliceAdjust lo hi 1 (n:Int) with | (lo,hi)=>pure (lo,(1:Int),Builtin.Slice.slicePlaces lo hi 1)) _ _ s
 rw [EM lo hi n]
 show wpAny _ _ (pure (((sIx n 0 lo:Nat):Int),(1:Int),Builtin.Slice.slicePlaces ((sIx n 0 lo:Nat):Int) ((sIx n n hi:Nat):Int) 1)) _ _ s
 rw [EO]
 exact wpAny_pure h
theorem Jp (xs:Array Value) (i k:Nat):((List.range k).filterMap fun (m:Nat)=>xs[((i:Int)+(m:Int)*1).toNat]?).toArray=((xs.toList.drop i).take k).toArray:=by
 have e:(fun (m:Nat)=>xs[((i:Int)+(m:Int)*1).toNat]?)=fun m=>xs[i+m]?:=by
  funext m
  have:((i:Int)+(m:Int)*1).toNat=i+m:=by omega
  rw [this]
 rw [e]
 have:=pick_run xs i k
 rw [List.filterMap_map] at this
 have e2:((fun x=>xs[x]?) ∘ fun x=>i+x)=fun m=>xs[i+m]?:=rfl
 rw [e2] at this
 rw [this]
theorem getItem_tuple_cut {t sl:Addr} {items:Array Value} {vl vu:Value} {lo hi:Option Int} {Q:Value->Shared->Prop} (ht:IsTup s.heap t items) (hs:s.heap.IsSliceOf sl vl vu .none) (pl:IsPart vl lo) (pu:IsPart vu hi)
  (hw:¬ (sIx items.size 0 lo=0/\sIx items.size items.size hi=items.size))
  (h:Q (.ref s.heap.objs.size) { s with heap:=s.heap.push { cls:=.type "tuple",data:=.seq ((items.toList.drop (sIx items.size 0 lo)).take (sIx items.size items.size hi - sIx items.size 0 lo)).toArray } })
  (hsz:items.size<=sizeLine):wpAny (model prog w) A (getItem (.ref t) (.ref sl)) Q E s:=by
 have htake:sizeOk (.seq ((items.toList.drop (sIx items.size 0 lo)).take (sIx items.size items.size hi - sIx items.size 0 lo)).toArray):=by
  show ((items.toList.drop (sIx items.size 0 lo)).take (sIx items.size items.size hi - sIx items.size 0 lo)).toArray.size<=sizeLine
  rw [List.size_toArray,List.length_take,List.length_drop,Array.length_toList]
  omega
 have hj:sIx items.size items.size hi<=items.size:=Ph _ _ (Nat.le_refl _) hi
 obtain ⟨os,hos,hcs,hds⟩:=id hs
 have hTs:s.TypeIs (.ref sl) "slice" := ⟨os,hos,hcs⟩
 unfold getItem
 try with_reducible refine wpAny_holding ?_
 first | refine wpAny_bind (wpAny_pure ?_) | skip
 refine wpAny_bind (wpAny_sequenceKey ht.typeIs (by decide) ?_)
 refine wpAny_bind (wpAny_callSpecial?_slot (name:=Str.ofString "__getitem__") ht.typeIs PyProof.Rows.slot_tuple_getitem
  (wpAny_call_entry PyProof.Rows.slot_tuple_getitem ht.typeIs entry_tuple_getitem ?_ (args_tuple_getitem _ _)))
 show wpAny _ _ (Builtin.Tuple.tupleItemsOf (.ref t) >>= _) _ _ s
 refine wpAny_bind (tupleItemsOf_ ht ?_)
 refine wpAny_bind (wpAny_typeOf hTs ?_)
 rw [if_pos (by decide)]
 refine wpAny_bind (sliceApplied_gen hs pl pu ?_)
 have hno:¬ ((((sIx items.size 0 lo:Nat):Int) == 0 && (1:Int) == 1 && (sIx items.size items.size hi - sIx items.size 0 lo) == items.size)=true):=by
  intro q
  rw [Bool.and_eq_true,Bool.and_eq_true] at q
  have q1:((sIx items.size 0 lo:Nat):Int)=0:=eq_of_beq q.1.1
  have q2:sIx items.size items.size hi - sIx items.size 0 lo=items.size:=eq_of_beq q.2
  exact hw ⟨by omega,by omega⟩
 show wpAny _ _ (if (((sIx items.size 0 lo:Nat):Int) == 0 && (1:Int) == 1 && (sIx items.size items.size hi - sIx items.size 0 lo) == items.size)=true then _ else _) _ _ s
 rw [if_neg hno,Jp]
 first
  | exact wpAny_bind (m:=Builtin.Tuple.tupleExact _) (wpAny_newObj_type (wpAny_pure ⟨_,rfl,wpAny_pure h⟩) htake)
  | exact wpAny_bind (m:=Builtin.Tuple.tupleExact _) (wpAny_newObj_type (wpAny_bind (wpAny_pure (wpAny_pure ⟨_,rfl,wpAny_pure h⟩))) htake)
  | exact wpAny_bind (wpAny_bind (m:=Builtin.Tuple.tupleExact _) (wpAny_newObj_type (wpAny_pure (wpAny_pure ⟨_,rfl,wpAny_pure h⟩)) htake))
  | exact wpAny_bind (wpAny_bind (m:=Builtin.Tuple.tupleExact _) (wpAny_newObj_type (wpAny_pure ⟨_,rfl,wpAny_pure h⟩) htake))
end
end HT
namespace L2
open PySem PySem.Spec PyProof.Rows
abbrev TO:=St->Hp->(Option Int->Hp->Prop)->Prop
def PO (X:Cx) (e:Option Expr) (t:TO):Prop:=
 ∀ (pins:List (Addr×Obj)) (s:Shared) (σ:St) (H:Hp) (Q:Option Int->Hp->Prop),Inv X pins σ H s->t σ H Q->
  wpAny (model X.prog X.w) X.A (evalPart e X.env) (fun u s'=>∃ o H',Inv X pins σ H' s'/\IsPart u o/\Q o H') X.xe s
def MI:TO:=fun _ H Q=>Q none H
theorem intsAre_of {ns:List Int}:∀ {us:List Value},aP (ns.map V.int) us->IntsAre us ns:=by
 induction ns with
 | nil=>intro us r; rw [List.map_nil] at r; cases r; exact .nil
 | cons n ns ih=>
  intro us r
  rw [List.map_cons] at r
  cases r with
  | cons r1 r2=>
   obtain ⟨t,e⟩:=r1
   subst e
   exact .cons n t (ih r2)
section
variable {X:Cx} {e:Expr} {te:TE} {lo hi:Option Expr} {tl th:TO} {pos p2:Pos}
theorem MK:PO X none MI:=by
 intro pins s σ H Q I h
 rw [evalPart_none]
 exact wpAny_pure ⟨none,H,I,.none,h⟩
def SlR (X:Cx) (r:V->Option Int->Option Int->Hp->VK->Prop):Prop:=
 ∀ (pins:List (Addr×Obj)) (s:Shared) (σ:St) (H:Hp) (x:V) (v vl vu:Value) (lo hi:Option Int) (sl:Addr) (Q:VK),Inv X pins σ H s->RelV x v->s.heap.IsSliceOf sl vl vu .none->IsPart vl lo->IsPart vu hi->r x lo hi H Q->
  ∃ T id,typeLookup (.type T) "__getitem__" = pure (some (.builtin id))/\s.TypeIs v T/\wpAny (model X.prog X.w) X.A (getItem v (.ref sl)) (EP X pins σ Q) X.xe s
theorem SlR.or {r r':V->Option Int->Option Int->Hp->VK->Prop} (h:SlR X r) (h':SlR X r'):SlR X (fun x lo hi H Q=>r x lo hi H Q\/r' x lo hi H Q):=by
 intro pins s σ H x v vl vu lo hi sl Q I rx hs pl pu q
 rcases q with q | q
 ·exact h pins s σ H x v vl vu lo hi sl Q I rx hs pl pu q
 ·exact h' pins s σ H x v vl vu lo hi sl Q I rx hs pl pu q
def tSl (r:V->Option Int->Option Int->Hp->VK->Prop) (te:TE) (tl th:TO):TE:=fun σ H Q=>te σ H fun x H1=>tl σ H1 fun l H2=>th σ H2 fun u H3=>r x l u H3 Q
theorem Jq {r:V->Option Int->Option Int->Hp->VK->Prop} (hr:SlR X r) (he:PE X e te) (hl:PO X lo tl) (hu:PO X hi th):PE X (.Subscript e (.Slice lo hi none p2) pos) (tSl r te tl th):=by
 intro pins s σ H Q I h
 refine Subscript_ (thn (he pins s σ H _ I h) fun v s1 hz=>?_)
 obtain ⟨x,H1,I1,r1,q1⟩:=hz
 refine wpAny_Slice (thn (hl pins s1 σ H1 _ I1 q1) fun vl s2 ⟨l,H2,I2,pl,q2⟩=>thn (hu pins s2 σ H2 _ I2 q2) fun vu s3 hz=>?_)
 obtain ⟨u,H3,I3,pu,q3⟩:=hz
 rw [evalPart_none]
 refine wpAny_pure ?_
 have I4:Inv X pins σ H3 { s3 with heap:=s3.heap.push { cls:=.type "slice",data:=.fields #[vl,vu,.none] } }:=I3.kept (t':=s3.toks) fun b ob q=>Heap.get?_push_of_some _ q
 obtain ⟨T,id,hT,ht,hg⟩:=hr pins { s3 with heap:=s3.heap.push { cls:=.type "slice",data:=.fields #[vl,vu,.none] } } σ H3 x v vl vu l u s3.heap.objs.size Q I4 r1 (Heap.IsSliceOf.new ..) pl pu q3
 show wpAny (model X.prog X.w) X.A (subscriptTail e (.Slice lo hi none p2) v (.ref s3.heap.objs.size)) (EP X pins σ Q) X.xe { s3 with heap:=s3.heap.push { cls:=.type "slice",data:=.fields #[vl,vu,.none] } }
 exact tail_any (ops:=[.ref s3.heap.objs.size,v]) ht hT hg (by with_unfolding_all rfl)
def CW (xs:List V) (lo hi:Option Int):List V:=(xs.drop (HT.sIx xs.length 0 lo)).take (HT.sIx xs.length xs.length hi - HT.sIx xs.length 0 lo)
theorem uP (xs:List V) (lo hi:Option Int):(CW xs lo hi).length<=xs.length:=by
 unfold CW
 rw [List.length_take,List.length_drop]
 omega
def Ri (K:PySem.W.Frag):V->Option Int->Option Int->Hp->VK->Prop:=fun x lo hi H Q=>∃ a xs,x=.ref a/\SqT K H a xs/\
 ¬ (HT.sIx xs.length 0 lo=0/\HT.sIx xs.length xs.length hi=xs.length)/\∀ p,H p=none->Q (.ref p) (upd H p (.tup (CW xs lo hi)))
theorem Pi:SlR X (Ri X.K):=by
 intro pins s σ H x v vl vu lo hi sl Q I rx hs pl pu h
 obtain ⟨a,xs,rfl,hx,hw,q⟩:=h
 cases rx
 obtain ⟨its,r,ht,hz⟩:=I.tuple hx
 have hlen:its.toArray.size=xs.length:=by rw [List.size_toArray]; exact r.length.symm
 refine ⟨"tuple",_,PyProof.Rows.slot_tuple_getitem.lookup,ht.typeIs,?_⟩
 refine HT.getItem_tuple_cut ht hs pl pu (by rw [hlen]; exact hw) ?_ (by rw [hlen]; exact hz)
 rw [hlen]
 refine ⟨.ref s.heap.objs.size,_,I.laid (t':=s.toks) (o:=.tup (CW xs lo hi)) (fun b ob q=>Heap.get?_push_of_some _ q) (Nat.le_refl _) ?_,rfl,q _ (I.hok.fresh (Nat.le_refl _))⟩
 exact ⟨Nat.le_trans (uP xs lo hi) hz,_,(r.drop (HT.sIx xs.length 0 lo)).take (HT.sIx xs.length xs.length hi - HT.sIx xs.length 0 lo),wF.new _ _⟩
def Oz (K:PySem.W.Frag):R2:=fun x y H Q=>∃ a b xs ys,x=.ref a/\y=.ref b/\SqT K H a xs/\SqT K H b ys/\xs≠[]/\xs.length+ys.length<=sizeLine/\
 (ys=[]->Q (.ref a) H)/\(ys≠[]->∀ p,H p=none->Q (.ref p) (upd H p (.tup (xs++ys))))
theorem aP.nil_iff {xs:List V} {us:List Value} (r:aP xs us):us=[] ↔ xs=[]:=by
 cases r with
 | nil=>simp
 | cons _ _=>simp
theorem ML:OpR X (binaryOp .Add) (Oz X.K):=by
 intro pins s σ H x y v u Q I rx ry h
 obtain ⟨a,b,xs,ys,rfl,rfl,ha,hb,hx,hz,q1,q2⟩:=h
 cases rx
 cases ry
 obtain ⟨its,r1,p1,_⟩:=I.tuple ha
 obtain ⟨its2,r2,p2,_⟩:=I.tuple hb
 refine HT.cat_tup p1 p2 (fun z=>hx (r1.nil_iff.mp z)) (fun z=>⟨.ref a,H,I,rfl,q1 (r2.nil_iff.mp z)⟩) (fun z=>?_) (by rw [<- r1.length,<- r2.length]; exact hz)
 refine ⟨.ref s.heap.objs.size,_,I.laid (t':=s.toks) (o:=.tup (xs++ys)) (fun b ob q=>Heap.get?_push_of_some _ q) (Nat.le_refl _) ?_,rfl,q2 (fun w=>z (r2.nil_iff.mpr w)) _ (I.hok.fresh (Nat.le_refl _))⟩
 exact ⟨by rw [List.length_append]; exact hz,_,r1.append r2,wF.new _ _⟩
end
end L2
namespace L2
open PySem PySem.Spec PyProof.Rows
def ixN (n:Nat) (i:Int):Option Nat:=if 0<=i then (if i < n then some i.toNat else none) else if -(n:Int)<=i then some (i+n).toNat else none
def atI {α:Type} (xs:List α) (i:Int):Option α:=(ixN xs.length i).bind fun j=>xs[j]?
theorem G2 {n:Nat} {i:Int} {j:Nat} (h:ixN n i=some j):seqIndex? i n=some j/\j < n/\-(n:Int)<=i/\i < n:=by
 unfold ixN at h
 by_cases h0:0<=i
 ·rw [if_pos h0] at h
  by_cases h1:i < n
  ·rw [if_pos h1] at h
   have e:i.toNat=j:=Option.some.inj h
   exact ⟨by rw [seqIndex_of h0 h1,e],by omega,by omega,h1⟩
  ·rw [if_neg h1] at h; cases h
 ·rw [if_neg h0] at h
  by_cases h1:-(n:Int)<=i
  ·rw [if_pos h1] at h
   have e:(i+n).toNat=j:=Option.some.inj h
   exact ⟨by rw [seqIndex_neg (by omega) h1,e],by omega,h1,by omega⟩
  ·rw [if_neg h1] at h; cases h
theorem Bt {α:Type} {xs:List α} {i:Int} {v:α} (h:atI xs i=some v):∃ j,seqIndex? i xs.length=some j/\xs[j]?=some v/\j < xs.length/\-(xs.length:Int)<=i/\i < xs.length:=by
 unfold atI at h
 cases e:ixN xs.length i with
 | none=>rw [e] at h; cases h
 | some j=>
  rw [e] at h
  obtain ⟨h1,h2,h3,h4⟩:=G2 e
  exact ⟨j,h1,h,h2,h3,h4⟩
def G3 (b:Expr):Prop:=∀ o i,subscripted b false o i=operate [o,i] (getItem o i)
def IxR (X:Cx) (r:R2):Prop:=
 ∀ (value slice:Expr) (pins:List (Addr×Obj)) (s:Shared) (σ:St) (H:Hp) (x y:V) (v u:Value) (Q:VK),Inv X pins σ H s->RelV x v->RelV y u->r x y H Q->
  subscripted slice false v u=operate [v,u] (getItem v u)->wpAny (model X.prog X.w) X.A (subscriptTail value slice v u) (EP X pins σ Q) X.xe s
def MtR (X:Cx) (id:String) (r:V->List V->Hp->VK->Prop):Prop:=
 ∀ (pins:List (Addr×Obj)) (s:Shared) (σ:St) (H:Hp) (x:V) (xs:List V) (v:Value) (us:List Value) (Q:VK),Inv X pins σ H s->RelV x v->aP xs us->r x xs H Q->
  wpAny (model X.prog X.w) X.A (call (.builtin id) (v :: us)) (EP X pins σ Q) X.xe s
section
variable {X:Cx} {a b:Expr} {ta tb:TE} {pos:Pos}
theorem IxR.or {r r':R2} (h:IxR X r) (h':IxR X r'):IxR X (fun x y H Q=>r x y H Q\/r' x y H Q):=by
 intro value slice pins s σ H x y v u Q I rx ry q hs
 rcases q with q | q
 ·exact h value slice pins s σ H x y v u Q I rx ry q hs
 ·exact h' value slice pins s σ H x y v u Q I rx ry q hs
theorem Rj {r:R2} (hr:IxR X r) (ha:PE X a ta) (hb:PE X b tb) (hs:G3 b):PE X (.Subscript a b pos) (tOp r ta tb):=by
 intro pins s σ H Q I h
 exact Subscript_ (P7 ha hb I h fun v u s2 x y H2 I2 rx ry q=>hr a b pins s2 σ H2 x y v u Q I2 rx ry q (hs _ _))
def TM (K:PySem.W.Frag):R2:=fun x y H Q=>∃ p xs i v,x=.ref p/\y=.int i/\SqL K H p xs/\atI xs i=some v/\Q v H
def TN (K:PySem.W.Frag):R2:=fun x y H Q=>∃ p xs i v,x=.ref p/\y=.int i/\SqT K H p xs/\atI xs i=some v/\Q v H
def TQ:R2:=fun x y H Q=>∃ z i c,x=.str z/\y=.int i/\z.length<=sizeLine/\atI z.cps.toList i=some c/\Q (.str ⟨#[c]⟩) H
theorem MM:IxR X (TM X.K):=by
 intro value slice pins s σ H x y v u Q I rx ry h hs
 obtain ⟨p,xs,i,z,rfl,rfl,hq,he,q⟩:=h
 cases rx
 obtain ⟨t,rfl⟩:=ry
 obtain ⟨its,r,pl,hz⟩:=I.list hq
 obtain ⟨j,h1,h2,h3,h4,h5⟩:=Bt he
 obtain ⟨w,ew,rw'⟩:=r.get h2
 have hl:=r.length
 have hn:=pP
 have fin:EP X pins σ Q w s:=⟨z,H,I,rw',q⟩
 by_cases h0:0<=i
 ·have hj:i.toNat=j:=by
   rw [seqIndex_of h0 h5] at h1
   exact Option.some.inj h1
  exact item_listR pl.isList h0 (by omega) (by rw [hj]; simpa using ew) fin hs
 ·have hj:(i+(its.toArray.size:Int)).toNat=j:=by
   rw [seqIndex_neg (by omega) h4] at h1
   rw [List.size_toArray,<- hl]
   exact Option.some.inj h1
  exact subscriptTail_builtinR (x:=w) pl.isList.typeIs slot_list_getitem.lookup
   (wpAny_getItem_list_neg (Q:=fun r s'=>r=w/\EP X pins σ Q r s') pl.isList (by omega) (by rw [List.size_toArray] <;> omega) (by omega) (by rw [hj]; simpa using ew) ⟨rfl,fin⟩) hs
theorem Pj:IxR X (TN X.K):=by
 intro value slice pins s σ H x y v u Q I rx ry h hs
 obtain ⟨p,xs,i,z,rfl,rfl,hq,he,q⟩:=h
 cases rx
 obtain ⟨t,rfl⟩:=ry
 obtain ⟨its,r,pl,hz⟩:=I.tuple hq
 obtain ⟨j,h1,h2,h3,h4,h5⟩:=Bt he
 obtain ⟨w,ew,rw'⟩:=r.get h2
 have hl:=r.length
 have hn:=pP
 have fin:EP X pins σ Q w s:=⟨z,H,I,rw',q⟩
 exact subscriptTail_builtinR (x:=w) pl.typeIs slot_tuple_getitem.lookup
  (getItem_tuple (j:=j) (Q:=fun r s'=>r=w/\EP X pins σ Q r s') pl (by omega) (by omega) (by rw [List.size_toArray,<- hl]; exact h1) (by simpa using ew) ⟨rfl,fin⟩) hs
theorem Pk:IxR X TQ:=by
 intro value slice pins s σ H x y v u Q I rx ry h hs
 obtain ⟨z,i,c,rfl,rfl,hz,he,q⟩:=h
 obtain ⟨t,rfl⟩:=rx
 obtain ⟨t',rfl⟩:=ry
 obtain ⟨j,h1,h2,h3,h4,h5⟩:=Bt he
 have hl:z.cps.toList.length=z.length:=by simp [Str.length]
 rw [hl] at h1 h4 h5
 have hn:=pP
 exact tail_any (typeIs_str s z t) slot_str_getitem.lookup (getItem_str (c:=c) (by
  have e1:decide (i < -(2 ^ 63:Int))=false:=decide_eq_false (by omega)
  have e2:decide (i >= 2 ^ 63)=false:=decide_eq_false (by omega)
  rw [e1,e2,Bool.or_false]) (by rw [h1]; simpa using h2) ⟨.str ⟨#[c]⟩,H,I.tok _,⟨_,rfl⟩,q⟩) hs
theorem ER (its:List Value) (n j:Nat) (u:Value):Obj.mapSeq (·.setIfInBounds j u) { cls:=.type "list",data:=.seq its.toArray n }={ cls:=.type "list",data:=.seq (its.set j u).toArray n }:=by
 simp [Obj.mapSeq]
theorem Inv.lst {pins:List (Addr×Obj)} {σ:St} {H:Hp} {s:Shared} {p:Addr} {xs:List V} (I:Inv X pins σ H s) (h:H p=some (.lst xs)):
  ∃ (its:List Value) (n:Nat),aP xs its/\s.heap.get? p=some { cls:=.type "list",data:=.seq its.toArray n }/\xs.length<=sizeLine:=by
 obtain ⟨z,its,n,r,e⟩:=I.hok p _ h
 exact ⟨its,n,r,e,z⟩
theorem Inv.lstUpd {pins:List (Addr×Obj)} {σ:St} {H:Hp} {s:Shared} {p:Addr} {xs ys:List V} {its its':List Value} {n n':Nat} {f:Obj->Obj} (I:Inv X pins σ H s) (h:H p=some (.lst xs))
  (ho:s.heap.get? p=some { cls:=.type "list",data:=.seq its.toArray n }) (hf:f { cls:=.type "list",data:=.seq its.toArray n }={ cls:=.type "list",data:=.seq its'.toArray n' }) (r:aP ys its') (hz:ys.length<=sizeLine) (t:Nat):
  Inv X pins σ (upd H p (.lst ys)) { s with heap:=s.heap.update p f,toks:=t }:=by
 have e:(s.heap.update p f).get? p=some { cls:=.type "list",data:=.seq its'.toArray n' }:=by
  rw [Heap.get?_update_self f ho (by rw [hf] <;> rfl),hf]
 refine I.write (x:=p) (e:=p) (by rw [h]; trivial) (.inl rfl) (fun b u hb q=>(Heap.get?_update_other _ _ (Ne.symm hb)).trans q) ⟨_,e⟩ ?_
 exact ⟨hz,its',n',r,e⟩
def Rk:V->V->V->Hp->(Hp->Prop)->Prop:=fun o i v H Q=>∃ p xs k j,o=.ref p/\i=.int k/\H p=some (.lst xs)/\ixN xs.length k=some j/\Q (upd H p (.lst (xs.set j v)))
theorem set_list:Tw X Rk:=by
 intro pins s σ H o i v ov iv u Q I ro ri rv h
 obtain ⟨p,xs,k,j,rfl,rfl,hp,hj,q⟩:=h
 cases ro
 obtain ⟨t,rfl⟩:=ri
 obtain ⟨its,n,r,ho,hz⟩:=I.lst hp
 obtain ⟨h1,h2,h3,h4⟩:=G2 hj
 have hl:=r.length
 have hn:=pP
 have I':Inv X pins σ (upd H p (.lst (xs.set j v))) { s with heap:=s.heap.update p (Obj.mapSeq (·.setIfInBounds j u)) }:=
  I.lstUpd hp ho (ER its n j u) (r.set rv j) (by rw [List.length_set]; exact hz) s.toks
 by_cases h0:0<=k
 ·have hk:k.toNat=j:=by
   rw [seqIndex_of h0 h4] at h1
   exact Option.some.inj h1
  exact PySem.W.ki_setAt ho h0 (by omega) (by rw [List.size_toArray,<- hl]; exact h4) (by rw [hk]; exact ⟨_,I',q⟩)
 ·have hk:(k+(its.toArray.size:Int)).toNat=j:=by
   rw [seqIndex_neg (by omega) h3] at h1
   rw [List.size_toArray,<- hl]
   exact Option.some.inj h1
  exact PySem.W.ki_setBack ho (by omega) (by rw [List.size_toArray,<- hl]; exact h3) (by omega) (by rw [hk]; exact ⟨_,I',q⟩)
theorem Bu (lo hi:Option Int) (n:Nat):(sliceBounds lo hi none n).1=((HT.sIx n 0 lo:Nat):Int)/\(sliceBounds lo hi none n).2.1=((HT.sIx n n hi:Nat):Int)/\(sliceBounds lo hi none n).2.2=1:=by
 refine ⟨?_,?_,rfl⟩
 ·cases lo with
  | none=>simp [sliceBounds,HT.sIx]
  | some i=>
   simp only [sliceBounds,HT.sIx,Option.getD_none,show (1:Int) > 0 by decide,if_true]
   by_cases h:i < 0
   ·simp only [h,if_true] <;> omega
   ·simp only [h,if_false] <;> omega
 ·cases hi with
  | none=>simp [sliceBounds,HT.sIx]
  | some i=>
   simp only [sliceBounds,HT.sIx,Option.getD_none,show (1:Int) > 0 by decide,if_true]
   by_cases h:i < 0
   ·simp only [h,if_true] <;> omega
   ·simp only [h,if_false] <;> omega
theorem zV (its:List Value) (lo hi:Option Int):slicePick its.toArray lo hi none=((its.drop (HT.sIx its.length 0 lo)).take (HT.sIx its.length its.length hi - HT.sIx its.length 0 lo)).toArray:=by
 obtain ⟨h1,h2,h3⟩:=Bu lo hi its.toArray.size
 unfold slicePick
 rw [h1,h2,h3]
 simp only [sliceRange_one,pick_run,List.size_toArray] <;> rfl
def Rl (K:PySem.W.Frag):V->Option Int->Option Int->Hp->VK->Prop:=fun x lo hi H Q=>∃ a xs,x=.ref a/\SqL K H a xs/\∀ p,H p=none->Q (.ref p) (upd H p (.lst (CW xs lo hi)))
theorem MN:SlR X (Rl X.K):=by
 intro pins s σ H x v vl vu lo hi sl Q I rx hs pl pu h
 obtain ⟨a,xs,rfl,hx,q⟩:=h
 cases rx
 obtain ⟨its,r,ht,hz⟩:=I.list hx
 have hlen:=r.length
 refine ⟨"list",_,slot_list_getitem.lookup,ht.isList.typeIs,?_⟩
 refine wpAny_getItem_list_slice ht.isList hs pl pu .none (by simp) ?_ (by rw [List.size_toArray] <;> omega)
 rw [zV,<- hlen]
 refine ⟨.ref s.heap.objs.size,_,I.laid (t':=s.toks) (o:=.lst (CW xs lo hi)) (fun b ob q=>Heap.get?_push_of_some _ q) (Nat.le_refl _) ?_,rfl,q _ (I.hok.fresh (Nat.le_refl _))⟩
 exact ⟨Nat.le_trans (uP xs lo hi) hz,_,0,(r.drop (HT.sIx xs.length 0 lo)).take (HT.sIx xs.length xs.length hi - HT.sIx xs.length 0 lo),Heap.get?_push_size _ rfl⟩
def uQ:V->Bool
 | .non=>true
 | .bl _=>true
 | .int _=>true
 | .str _=>true
 | _=>false
def eqV:V->V->Bool
 | .non,.non=>true
 | .bl a,.bl b=>a == b
 | .bl a,.int b=>(if a then 1 else 0) == b
 | .int a,.bl b=>a == (if b then 1 else 0)
 | .int a,.int b=>a == b
 | .str a,.str b=>a == b
 | _,_=>false
theorem Pl {A:Around} {s:Shared} {y x:V} {u v:Value} (ry:RelV y u) (rx:RelV x v) (fy:uQ y=true) (fx:uQ x=true):SeqAt.EqAt A s u v (eqV y x):=by
 cases y with
 | non=>
  cases ry
  cases x with
  | non=>cases rx; exact SeqAt.EqAt.same _
  | bl b=>cases rx; exact SeqAt.EqAt.none_bool b
  | int b=>obtain ⟨t,rfl⟩:=rx; exact SeqAt.EqAt.none_int b t
  | str b=>obtain ⟨t,rfl⟩:=rx; exact SeqAt.EqAt.none_str b t
  | _=>exact absurd (show false=true from fx) Bool.false_ne_true
 | bl a=>
  cases ry
  cases x with
  | non=>cases rx; exact SeqAt.EqAt.bool_none a
  | bl b=>cases rx; exact SeqAt.EqAt.bool_bool a b
  | int b=>obtain ⟨t,rfl⟩:=rx; exact SeqAt.EqAt.bool_int a b t
  | str b=>obtain ⟨t,rfl⟩:=rx; exact SeqAt.EqAt.bool_str a b t
  | _=>exact absurd (show false=true from fx) Bool.false_ne_true
 | int a=>
  obtain ⟨t',rfl⟩:=ry
  cases x with
  | non=>cases rx; exact SeqAt.EqAt.int_none a t'
  | bl b=>cases rx; exact SeqAt.EqAt.int_bool a t' b
  | int b=>obtain ⟨t,rfl⟩:=rx; exact SeqAt.EqAt.int_int a t' b t
  | str b=>obtain ⟨t,rfl⟩:=rx; exact SeqAt.EqAt.int_str a t' b t
  | _=>exact absurd (show false=true from fx) Bool.false_ne_true
 | str a=>
  obtain ⟨t',rfl⟩:=ry
  cases x with
  | non=>cases rx; exact SeqAt.EqAt.str_none a t'
  | bl b=>cases rx; exact SeqAt.EqAt.str_bool a t' b
  | int b=>obtain ⟨t,rfl⟩:=rx; exact SeqAt.EqAt.str_int a t' b t
  | str b=>obtain ⟨t,rfl⟩:=rx; exact SeqAt.EqAt.str_str a t' b t
  | _=>exact absurd (show false=true from fx) Bool.false_ne_true
 | _=>exact absurd (show false=true from fy) Bool.false_ne_true
def eqU (x:V) (u:Value):Bool:=match u with
 | .none=>eqV .non x
 | .bool b=>eqV (.bl b) x
 | .int i _=>eqV (.int i) x
 | .str z _=>eqV (.str z) x
 | _=>false
theorem Jr {x y:V} {u:Value} (r:RelV y u) (f:uQ y=true):eqU x u=eqV y x:=by
 cases y with
 | non=>cases r; rfl
 | bl b=>cases r; rfl
 | int i=>obtain ⟨t,rfl⟩:=r; rfl
 | str z=>obtain ⟨t,rfl⟩:=r; rfl
 | _=>exact absurd (show false=true from f) Bool.false_ne_true
theorem Bv {x:V}:∀ {xs:List V} {us:List Value},aP xs us->xs.all uQ=true->us.any (eqU x)=xs.any fun y=>eqV y x
 | _,_,.nil,_=>rfl
 | y :: xs,u :: us,.cons r t,f=>by
  rw [List.all_cons,Bool.and_eq_true] at f
  rw [List.any_cons,List.any_cons,Jr r f.1,Bv t f.2]
theorem wM {A:Around} {s:Shared} {x:V} {v:Value} (rx:RelV x v) (fx:uQ x=true):∀ {xs:List V} {us:List Value},aP xs us->xs.all uQ=true->∀ u∈us,SeqAt.EqAt A s u v (eqU x u)
 | _,_,.nil,_=>fun u hu=>by cases hu
 | y :: xs,u :: us,.cons r t,f=>fun u' hu=>by
  rw [List.all_cons,Bool.and_eq_true] at f
  rcases List.mem_cons.mp hu with rfl | hu
  ·rw [Jr r f.1]; exact Pl r rx f.1 fx
  ·exact wM rx fx t f.2 u' hu
def inV (x:V) (xs:List V):Bool:=xs.any fun y=>eqV y x
def rIn (K:PySem.W.Frag) (neg:Bool):R2:=fun x y H Q=>∃ p xs,y=.ref p/\(SqL K H p xs\/SqT K H p xs)/\uQ x=true/\xs.all uQ=true/\Q (.bl (if neg then !inV x xs else inV x xs)) H
theorem Bw:OpR X (compareOp .NotIn) (rIn X.K true):=by
 intro pins s σ H x y v u Q I rx ry h
 obtain ⟨p,xs,rfl,hq,fx,fs,q⟩:=h
 cases ry
 rcases hq with hq | hq
 ·obtain ⟨its,r,pl,hz⟩:=I.list hq
  refine SeqAt.notIn_listAt (eqU x) pl.isList (fun w hw=>wM rx fx r fs w (by simpa using hw)) ⟨.bl _,H,I,rfl,?_⟩
  rw [show its.toArray.any (eqU x)=its.any (eqU x) by simp,Bv r fs]
  exact q
 ·obtain ⟨its,r,pl,hz⟩:=I.tuple hq
  refine SeqAt.notIn_tupleAt (eqU x) pl (fun w hw=>wM rx fx r fs w (by simpa using hw)) ⟨.bl _,H,I,rfl,?_⟩
  rw [show its.toArray.any (eqU x)=its.any (eqU x) by simp,Bv r fs]
  exact q
theorem Bx:bT X (.builtin "len") (fun xs H Q=>∃ p ys,xs=[.ref p]/\(SqL X.K H p ys\/SqT X.K H p ys)/\Q (.int ys.length) H):=by
 intro pins s σ H xs us Q I r h
 obtain ⟨p,ys,rfl,hq,q⟩:=h
 obtain ⟨u,rfl,rx⟩:=vals1 r
 cases rx
 have hn:=pP
 rcases hq with hq | hq
 ·obtain ⟨its,r',pl,hz⟩:=I.list hq
  have hlen:=r'.length
  exact Calls.call_len_list pl.isList (by simp only [List.size_toArray] <;> omega) ⟨.int ys.length,H,I.tok _,⟨s.toks+1,by rw [List.size_toArray,hlen]⟩,q⟩
 ·obtain ⟨its,r',pl,hz⟩:=I.tuple hq
  have hlen:=r'.length
  exact len_tuple pl (by simp only [List.size_toArray] <;> omega) ⟨.int ys.length,H,I.tok _,⟨s.toks+1,by rw [List.size_toArray,hlen]⟩,q⟩
theorem bT.or {f:Value} {r r':List V->Hp->VK->Prop} (h:bT X f r) (h':bT X f r'):bT X f (fun xs H Q=>r xs H Q\/r' xs H Q):=by
 intro pins s σ H xs us Q I rs q
 rcases q with q | q
 ·exact h pins s σ H xs us Q I rs q
 ·exact h' pins s σ H xs us Q I rs q
theorem By:bT X (.type "list") (fun xs H Q=>∃ p ys,xs=[.ref p]/\(SqL X.K H p ys\/SqT X.K H p ys)/\∀ l,H l=none->Q (.ref l) (upd H l (.lst ys))):=by
 intro pins s σ H xs us Q I r h
 obtain ⟨p,ys,rfl,hq,q⟩:=h
 obtain ⟨u,rfl,rx⟩:=vals1 r
 cases rx
 have fin:∀ (its:List Value),aP ys its->ys.length<=sizeLine->∀ (h':Heap) (c':Nat),(∀ b o',s.heap.get? b=some o'->h'.get? b=some o')->
   h'.get? s.heap.objs.size=some { cls:=.type "list",dict:=none,data:=.seq its.toArray c',slots:=#[] }->EP X pins σ Q (.ref s.heap.objs.size) { s with heap:=h' }:=fun its r' hz h' c' kp e=>
  ⟨.ref s.heap.objs.size,_,I.laid (t':=s.toks) kp (Nat.le_refl _) (show cV X.prog X.w _ h' _ (.lst ys) from ⟨hz,its,c',r',e⟩),rfl,q _ (I.hok.fresh (Nat.le_refl _))⟩
 rcases hq with hq | hq
 ·obtain ⟨its,r',pl,hz⟩:=I.list hq
  have hlen:=r'.length
  obtain ⟨o,ho,hc,n,hd⟩:=pl.isList
  exact call_list_seq p (.inl rfl) ho hc hd (fun h' c' kp e=>fin its r' hz h' c' kp e) (by simp only [List.size_toArray] <;> omega)
 ·obtain ⟨its,r',pl,hz⟩:=I.tuple hq
  have hlen:=r'.length
  obtain ⟨o,ho,hc,n,hd⟩:=pl
  exact call_list_seq p (.inr rfl) ho hc hd (fun h' c' kp e=>fin its r' hz h' c' kp e) (by simp only [List.size_toArray] <;> omega)
theorem zW:bT X (.type "tuple") (fun xs H Q=>∃ p ys,xs=[.ref p]/\((SqL X.K H p ys/\∀ l,H l=none->Q (.ref l) (upd H l (.tup ys)))\/(SqT X.K H p ys/\Q (.ref p) H))):=by
 intro pins s σ H xs us Q I r h
 obtain ⟨p,ys,rfl,h⟩:=h
 obtain ⟨u,rfl,rx⟩:=vals1 r
 cases rx
 rcases h with ⟨hq,q⟩ | ⟨hq,q⟩
 ·obtain ⟨its,r',pl,hz⟩:=I.list hq
  have hlen:=r'.length
  refine call_tuple_list pl.isList (fun h' kp=>?_) (by simp only [List.size_toArray] <;> omega)
  have I1:Inv X pins σ H { s with heap:=h' }:=I.kept (t':=s.toks) kp
  have I2:Inv X pins σ (upd H h'.objs.size (.tup ys)) { s with heap:=h'.push { cls:=.type "tuple",data:=.seq its.toArray } }:=
   I1.laid (t':=s.toks) (fun b o e=>Heap.get?_push_of_some _ e) (Nat.le_refl _) (show cV X.prog X.w _ _ _ (.tup ys) from ⟨hz,its,r',wF.new _ _⟩)
  exact ⟨.ref h'.objs.size,_,I2,rfl,q _ (I1.hok.fresh (Nat.le_refl _))⟩
 ·obtain ⟨its,r',pl,hz⟩:=I.tuple hq
  exact call_tuple_same pl ⟨.ref p,H,I,rfl,q⟩
def tyV (K:PySem.W.Frag) (T:String) (x:V) (H:Hp):Prop:=match x with
 | .str _=>T="str"
 | .int _=>T="int"
 | .ref p=>(T="list" /\ ∃ xs,SqL K H p xs)\/(T="tuple" /\ ∃ o,K.lookup p=some o/\o.cls=.type "tuple" /\ o.dict=none)\/
   (T="dict" /\ ((∃ kvs,H p=some (.dK kvs))\/∃ kvs,H p=some (.dT kvs)))\/(T="set" /\ ∃ S n,H p=some (.set S n))
 | _=>False
theorem Js {pins:List (Addr×Obj)} {σ:St} {H:Hp} {s:Shared} {T:String} {x:V} {v:Value} (I:Inv X pins σ H s) (r:RelV x v) (ty:tyV X.K T x H):
  s.TypeIs v T/\∀ a,v=.ref a->∃ ob,s.heap.get? a=some ob/\ob.dict=none:=by
 cases x with
 | str z=>
  obtain ⟨t,rfl⟩:=r
  cases (show T="str" from ty)
  exact ⟨typeIs_str s z t,fun _ e=>nomatch e⟩
 | int i=>
  obtain ⟨t,rfl⟩:=r
  cases (show T="int" from ty)
  exact ⟨typeIs_int s i t,fun _ e=>nomatch e⟩
 | ref p=>
  cases r
  rcases ty with ⟨rfl,xs,hq⟩ | ⟨rfl,o,hk,hc,hd⟩ | ⟨rfl,hk⟩ | ⟨rfl,S,n,hk⟩
  ·obtain ⟨its,_,pl,_⟩:=I.list hq
   refine ⟨pl.isList.typeIs,fun a e=>?_⟩
   cases e
   obtain ⟨o,n,e,c,hd,_⟩:=pl
   exact ⟨o,e,hd⟩
  ·refine ⟨⟨o,I.kIn p o hk,hc⟩,fun a e=>?_⟩
   cases e
   exact ⟨o,I.kIn _ o hk,hd⟩
  ·have z:∃ o,s.heap.get? p=some o/\o.ExactDict:=by
    rcases hk with ⟨kvs,hk⟩ | ⟨kvs,hk⟩
    ·obtain ⟨_,_,_,_,o,_,_,e,ex,_⟩:=I.hok p _ hk
     exact ⟨o,e,ex⟩
    ·obtain ⟨_,_,_,_,o,_,_,e,ex,_⟩:=I.hok p _ hk
     exact ⟨o,e,ex⟩
   obtain ⟨o,e,ex⟩:=z
   refine ⟨⟨o,e,ex.1⟩,fun a e2=>?_⟩
   cases e2
   exact ⟨o,e,ex.2.1⟩
  ·obtain ⟨o,_,_,_,e,ex,_⟩:=I.hok p _ hk
   refine ⟨⟨o,e,ex.1⟩,fun a e2=>?_⟩
   cases e2
   exact ⟨o,e,ex.2.1⟩
 | _=>exact False.elim ty
def TR (K:PySem.W.Frag) (T:String) (r:V->List V->Hp->VK->Prop) (to:TE):TE:=fun σ H Q=>to σ H fun x H1=>tyV K T x H1/\r x [] H1 Q
def tBM (K:PySem.W.Frag) (T:String) (r:V->List V->Hp->VK->Prop) (to:TE) (t:TA):TE:=fun σ H Q=>to σ H fun x H1=>tyV K T x H1/\t σ H1 fun xs H2=>r x xs H2 Q
variable {o e:Expr} {es:List Expr} {to:TE} {t:TA} {name:Str} {apos cpos:Pos} {T id:String} {r:V->List V->Hp->VK->Prop}
theorem Pm (pa:PlainAttrs T) (slot:Slot T name id) (hty:typeOf (.builtin id)=pure (.type "method_descriptor")) (hm:MtR X id r) (ho:PE X o to)
  (hbase:attributeBase o name X.env (eval o X.env)=eval o X.env:=by rfl) (hline:(apos.endLine == cpos.line)=true:=by rfl):PE X (.Call (.Attribute o name apos) [] [] cpos) (TR X.K T r to):=by
 intro pins s σ H Q I h
 refine wpAny_Call_method0_late hbase hline (thn (ho pins s σ H _ I h) fun v s1 hz=>?_)
 obtain ⟨x,H1,I1,r1,ty,q1⟩:=hz
 obtain ⟨h1,h2⟩:=Js I1 r1 ty
 exact ⟨T,id,pa,slot,hty,h1,h2,Calls.callWith_builtin rfl (PySem.evalArgs_none (hm pins s1 σ H1 x [] v [] Q I1 r1 .nil q1))⟩
theorem Rm (pa:PlainAttrs T) (slot:Slot T name id) (hty:typeOf (.builtin id)=pure (.type "method_descriptor")) (hm:MtR X id r) (ho:PE X o to) (ha:PA X (e :: es) t)
  (hbase:attributeBase o name X.env (eval o X.env)=eval o X.env:=by rfl)
  (hfew:((backTo cpos (starEach (e :: es) X.env)).all (fun x=>!x.1) && (backToKw cpos (keywordEach [] X.env)).all (fun x=>x.1.isSome)
   && decide ((e :: es).length+([]:List Keyword).length+(if ([]:List Keyword).isEmpty then 0 else 1) < 30))=true:=by rfl)
  (hline:(apos.endLine == cpos.line)=true:=by rfl) (hs:starEach (e :: es) X.env=(false,eval e X.env) :: starEach es X.env:=by rfl) (hplain:(backTo cpos (starEach es X.env)).any (·.1)=false:=by rfl):
  PE X (.Call (.Attribute o name apos) (e :: es) [] cpos) (tBM X.K T r to t):=by
 intro pins s σ H Q I h
 refine wpAny_Call_method_late hbase hfew hline rfl (thn (ho pins s σ H _ I h) fun v s1 hz=>?_)
 obtain ⟨x,H1,I1,r1,ty,q1⟩:=hz
 obtain ⟨h1,h2⟩:=Js I1 r1 ty
 refine ⟨T,id,pa,slot,hty,h1,h2,?_⟩
 have hA:=ha cpos pins s1 σ H1 _ I1 q1
 rw [hs] at hA ⊢
 refine Calls.callWith_builtin (by show (false || (backTo cpos (starEach es X.env)).any (·.1))=false; rw [hplain] <;> rfl) (Calls.evalArgs_plain ?_)
 exact thn hA fun us s2 ⟨vs,H2,I2,r2,q2⟩=>hm pins s2 σ H2 x vs v us Q I2 r1 r2 q2
end
end L2
namespace L2
open PySem PySem.Spec PyProof.Rows
def MtM (X:Cx) (id:String) (r:V->List V->Hp->VK->Prop):Prop:=
 ∀ (pins:List (Addr×Obj)) (s:Shared) (σ:St) (H:Hp) (x:V) (xs:List V) (v:Value) (us:List Value) (Q:VK),Inv X pins σ H s->RelV x v->aP xs us->r x xs H Q->
  wpAny (model X.prog X.w) X.A (call (.builtin id) (v :: us)) (EP X pins σ Q) X.xe s
theorem aP.one:∀ {x:V} {us:List Value},aP [x] us->∃ u,us=[u]/\RelV x u
 | _,_,.cons r .nil=>⟨_,rfl,r⟩
theorem aP.zero:∀ {us:List Value},aP [] us->us=[]
 | _,.nil=>rfl
section
variable {X:Cx} {pins:List (Addr×Obj)} {σ:St} {H:Hp} {s:Shared} {l b:Addr} {xs ys zs:List V}
theorem Inv.lset {its its':List Value} {n:Nat} {f:Array Value->Array Value} {t':Nat} (I:Inv X pins σ H s) (hH:H l=some (.lst xs))
  (e:s.heap.get? l=some { cls:=.type "list",data:=.seq its.toArray n }) (hf:f its.toArray=its'.toArray) (hv:aP ys its') (hz:ys.length<=sizeLine):
  Inv X pins σ (upd H l (.lst ys)) { s with heap:=s.heap.update l (Obj.mapSeq f),toks:=t' }:=by
 have q:=PySem.IsL.update e f
 rw [hf] at q
 refine I.write (x:=l) (e:=l) (by rw [hH]; exact trivial) (.inl rfl) (fun b' u hb hu=>(Heap.get?_update_other s.heap (Obj.mapSeq f) (Ne.symm hb)).trans hu) ⟨_,q⟩ ?_
 exact ⟨hz,its',_,hv,q⟩
theorem Inv.lnew {its:List Value} {t':Nat} (I:Inv X pins σ H s) (hv:aP ys its) (hz:ys.length<=sizeLine):
  Inv X pins σ (upd H s.heap.objs.size (.lst ys)) { s with heap:=s.heap.push { cls:=.type "list",data:=.seq its.toArray },toks:=t' }:=
 I.laid (fun _ _ q=>Heap.get?_push_of_some _ q) (Nat.le_refl _) ⟨hz,its,0,hv,Heap.get?_push_size _ rfl⟩
theorem Inv.fresh (I:Inv X pins σ H s):H s.heap.objs.size=none:=I.hok.fresh (Nat.le_refl _)
theorem Inv.lstM (I:Inv X pins σ H s) (hH:H l=some (.lst xs)):xs.length<=sizeLine/\∃ (its:List Value) (n:Nat),aP xs its/\xs.length=its.length/\s.heap.get? l=some { cls:=.type "list",data:=.seq its.toArray n }:=by
 obtain ⟨z,its,n,r,e⟩:=I.hok l _ hH
 exact ⟨z,its,n,r,r.length,e⟩
end
section
variable {X:Cx}
def G4:V->List V->Hp->VK->Prop:=fun x vs H Q=>∃ l xs y,x=.ref l/\vs=[y]/\H l=some (.lst xs)/\xs.length < sizeLine/\Q .non (upd H l (.lst (xs++[y])))
theorem AF:MtM X "list.append" G4:=by
 intro pins s σ H x vs v us Q I rx rv h
 obtain ⟨l,xs,y,rfl,rfl,hH,hz,q⟩:=h
 cases rx
 obtain ⟨u,rfl,ru⟩:=rv.one
 obtain ⟨z,its,n,r,hl,e⟩:=I.lstM hH
 refine call_meets F.slot_list_append ⟨_,e,rfl⟩ F.entry_list_append (F.args_list_append_2 _ _) (PySem.list_append l its.toArray n u (by rw [List.size_toArray]; omega)) ⟨e,?_⟩
 refine ⟨.non,_,I.lset (its':=its++[u]) hH e (by simp) (r.append (.cons ru .nil)) ?_,rfl,q⟩
 rw [List.length_append,List.length_singleton]
 omega
def Jt:V->List V->Hp->VK->Prop:=fun x vs H Q=>∃ l xs,x=.ref l/\vs=[]/\H l=some (.lst xs)/\Q .non (upd H l (.lst []))
theorem Ju:MtM X "list.clear" Jt:=by
 intro pins s σ H x vs v us Q I rx rv h
 obtain ⟨l,xs,rfl,rfl,hH,q⟩:=h
 cases rx
 have hus:=rv.zero
 subst hus
 obtain ⟨z,its,n,r,hl,e⟩:=I.lstM hH
 refine call_meets F.slot_list_clear ⟨_,e,rfl⟩ F.entry_list_clear (F.args_list_clear_1 _) (AutoSeq1.list_clear_list_0 l its.toArray n (by rw [List.size_toArray]; omega)) ⟨e,?_⟩
 exact ⟨.non,_,I.lset (its':=[]) (ys:=[]) hH e rfl .nil (Nat.zero_le _),rfl,q⟩
def Rn:R2:=fun x y H Q=>∃ l b xs zs,x=.ref l/\y=.ref b/\H l=some (.lst xs)/\H b=some (.lst zs)/\xs.length+zs.length<=sizeLine/\∀ p,H p=none->Q (.ref p) (upd H p (.lst (xs++zs)))
theorem Pn:OpR X (binaryOp .Add) Rn:=by
 intro pins s σ H x y v u Q I rx ry h
 obtain ⟨l,b,xs,zs,rfl,rfl,hH,hB,hz,q⟩:=h
 cases rx
 cases ry
 obtain ⟨z,its,n,r,hl,e⟩:=I.lstM hH
 obtain ⟨z2,its2,n2,r2,hl2,e2⟩:=I.lstM hB
 refine PySem.P.add_list e e2 ?_ (by rw [List.size_toArray,List.size_toArray]; omega)
 have ea:its.toArray++its2.toArray=(its++its2).toArray:=by simp
 rw [ea]
 exact ⟨.ref _,_,I.lnew (t':=s.toks) (r.append r2) (by rw [List.length_append]; omega),rfl,q _ I.fresh⟩
end
section
variable {prog:Program} {w:World} {A:Around} {E:Value->Shared->Prop} {s:Shared}
end
section
variable {X:Cx}
end
end L2
namespace Att
open PySem PySem.W PySem.Calls PyProof.Rows
theorem vF {P:Params} {h:Heap}:∀ (ns:List Int) (vs:List Value),WellAll P h vs (ns.map WData.int)->IntsAre vs ns:=by
 intro ns
 induction ns with
 | nil=>
  intro vs w
  rw [List.map_nil] at w
  cases w
  exact .nil
 | cons n ns ih=>
  intro vs w
  rw [List.map_cons] at w
  cases w with
  | cons a b=>
   cases a
   exact .cons _ _ (ih _ b)
theorem Hh {l:OpenLaw} {n:Nat} (hn:l.most=some n) {P:Params} {h:Heap} {args:List WData} {vals:List Value}
  (hpre:l.row.toRowW.claim.pre args=true) (hwl:WellAll P h vals args):
  ∃ a vs ns,vals=[Value.ref a]/\args=[WData.list (ns.map WData.int)]/\h.get? a=some { cls:=.type "list",data:=.seq vs.toArray }/\IntsAre vs ns/\ns.length<=n:=by
 have hsh:WShape.hasAll [] args [.list .int]=true:=(pre_splitW hpre).1
 have hc:l.pre.holds [] { args:=args }=true:=(pre_splitW hpre).2
 obtain ⟨d,r,rfl,h1,h2⟩:=hasAllW_cons hsh
 obtain rfl:=hasAllW_nil h2
 obtain ⟨xs,rfl,h3⟩:=hasW_list h1
 obtain ⟨ns,rfl⟩:=items_int h3
 have hlen:ns.length<=n:=by
  unfold OpenLaw.pre at hc
  have h4:(WTm.not (.lt (.lit (.int (n:Int))) (.len (.arg 0)))).holds [] { args:=[.list (ns.map .int)] }=true:=by
   have h4:=(holds_andW hc).1
   rw [hn] at h4
   exact h4
  have h5:=condW_of h4 (w_not (w_lt w_lit (w_len_list (w_arg rfl))))
  rw [List.length_map] at h5
  refine Nat.le_of_not_lt fun q=>?_
  have q':(n:Int) < ((ns.length:Nat):Int):=by omega
  first
   | (rw [decide_eq_true q'] at h5; exact absurd h5 (by decide))
   | (simp at h5; omega)
 cases hwl with
 | cons w1 w2=>
  cases w2
  cases w1 with
  | list ho hall=>exact ⟨_,_,ns,rfl,rfl,ho,vF ns _ hall,hlen⟩
theorem Hi (l:OpenLaw) (args:List WData):l.row.toRowW.claim.post args (.bool true) args=true:=
 postW_of (r:=l.row.toRowW) (X:=(true == true))
  (show WShape.has [] (.bool true) .bool=true by first | rfl | decide | simp [WShape.has,WShape.arms,WShape.armsAll])
  (show (WTm.eq .res (.lit (.bool true))).value [] { args:=args,res:=some (.bool true),after:=args }=some (.bool (true == true)) from w_eq_bool (w_res rfl) w_lit) rfl
theorem attach_call {l:OpenLaw} {n:Nat} {q:Program} {loose:List Str} {XP:(Str->Option Value)->Heap->Prop} {YP:World->Heap->Prop} {d:DefRec}
  (hn:l.most=some n) (hdf:d.params.defaults=[])
  (call:∀ (w:World) (s₀ s₁:Shared) (mg mb:Str->Option Value) (fa:Addr) (o:Obj) (pm cd doc:Value) (a:Addr) (vs:List Value) (ns:List Int),
   Ground q loose [] XP w s₀ mg mb s₁.heap->YP w s₁.heap->
   s₁.heap.get? fa=some o->o.data=.func (docDef d.name d.params d.body d.scope pm cd doc)->s₁.heap.CodeRec cd d.name->mg d.name=some (.ref fa)->
   s₁.heap.get? a=some { cls:=.type "list",data:=.seq vs.toArray }->IntsAre vs ns->ns.length<=n->s₁.gens=#[]->
   codeAny (model l.prog w) callerA (.call (.ref fa) ⟨[.ref a],[]⟩) (fun r s'=>r=.ok (.ret (.bool true))/\OldK s₁.heap s'.heap/\s'.os=s₁.os/\AllBare s'.gens) s₁):
  WalkO q loose XP YP l.row.toRowW d [] (fun f vs=>PySem.call f vs):=by
 intro w s₀ s₁ mg mb G Y fa o pm cd doc dV kV ho hd hcd hD hmg hg args vals as hpre hlay hrd hwl hlo
 obtain rfl:dV=.none:=Dflts.none hD hdf
 obtain rfl:kV=.none:=Dflts.noKw hD
 obtain ⟨a,vs,ns,rfl,rfl,hobj,hints,hlen⟩:=Hh hn hpre hwl
 refine enter_call (codeAny_mono (call w s₀ s₁ mg mb fa o pm cd doc a vs ns G Y ho (fd_plain hd) hcd hmg hobj hints hlen hg) fun r s' hq=>?_)
 obtain ⟨rfl,h2,h3,h4⟩:=hq
 exact ⟨.inl ⟨.bool true,.bool true,[],rfl,fun _=>rfl,.bool true,Hi l _,fun _=>⟨List.Pairwise.nil,fun _ hm=>(nomatch hm)⟩⟩,h2,h3,h4⟩
section
variable {prog:Program} {w:World} {A:Around} {E:Value->Shared->Prop} {s:Shared} {K:Frag}
end
end Att
namespace L2
open PySem PySem.Spec PyProof.Rows
theorem AG:∀ {vs:List Value} {ns:List Int},IntsAre vs ns->aP (ns.map V.int) vs
 | _,_,.nil=>.nil
 | _,_,.cons n t h=>.cons ⟨t,rfl⟩ (AG h)
def Jv (H:Hp):Prop:=∀ b,H b=none\/∃ o xs,H b=some (.frz o (.lst xs))
theorem Jw {P:Program} {w:World} {K:PySem.W.Frag} {mg mb:Str->Option Value} {CX:CXT} {k:Nat} {fa a:Addr} {fd:FuncData} {x:Str} {sp:Sp} {s₁:Shared} {vs:List Value} {ns:List Int}
  (KX:K.In s₁.heap) (hns:s₁.heap.Ns mainGlobals mg) (hb:s₁.heap.Ns builtinsNs mb) (hbb:∀ x:Str,x≠"__name__" -> mb x=bootBuiltins x) (hlim:s₁.heap.NoLimit) (hg:s₁.gens=#[])
  (ha:s₁.heap.get? a=some { cls:=.type "list",data:=.seq vs.toArray }) (hi:IntsAre vs ns) (hl:ns.length<=sizeLine) (hr:fG k callerA)
  (F:∀ base:Heap,K.In base->base.Ns mainGlobals mg->aM P w K mg base CX k fa fd [x] sp) (hbind:∀ (s:Shared) (u:Value),BindsTo s fd ⟨[u],[]⟩ [(x,u)])
  (hsp:∀ H:Hp,Jv H->SqL K H a (ns.map V.int)->sp [.ref a] H (fun v _=>v=.bl true) fun _ _ _=>False)
  (hCX:∀ H e s',CX [] H s₁ (fun _ _ _=>False) e s'->False):
  codeAny (model P w) callerA (.call (.ref fa) ⟨[.ref a],[]⟩) (fun r s'=>r=.ok (.ret (.bool true))/\OldK s₁.heap s'.heap/\s'.os=s₁.os/\AllBare s'.gens) s₁:=by
 have rv:=AG hi
 have lenV:=hi.length
 -- from an abstract heap in which nothing but the script may be tracked
 have core:∀ H:Hp,Jv H->SqL K H a (ns.map V.int)->HOk P w H s₁.heap->(∀ b,H b≠none->b=a)->(H a≠none->K.lookup a=none)->
   codeAny (model P w) callerA (.call (.ref fa) ⟨[.ref a],[]⟩) (fun r s'=>r=.ok (.ret (.bool true))/\OldK s₁.heap s'.heap/\s'.os=s₁.os/\AllBare s'.gens) s₁:=by
  intro H hO hS hok hA hK
  have base_of:∀ {b:Addr} {o:Obj},s₁.heap.get? b=some o->H b=none->(Bn s₁.heap H).get? b=some o:=fun e n=>J8 e n
  have noA:∀ {b:Addr} {o:Obj} {es:Array DictEntry} {ep:Nat},s₁.heap.get? b=some o->o.data=.dict es ep->H b=none:=fun {b o es ep} e d=>by
   cases q:H b with
   | none=>rfl
   | some u=>
    have e':b=a:=hA b (by rw [q]; simp)
    subst e'
    rw [ha] at e; cases e
    have d':Data.seq vs.toArray _=Data.dict es ep:=d
    cases d'
  have nsK:∀ {b:Addr} {m:Str->Option Value},s₁.heap.Ns b m->(Bn s₁.heap H).Ns b m:=fun {b m} ⟨o,es,ep,e,d,r⟩=>⟨o,es,ep,base_of e (noA e d),d,r⟩
  have hKb:K.In (Bn s₁.heap H):=fun b o e=>base_of (KX b o e) (by
   cases q:H b with
   | none=>rfl
   | some u=>
    have e':b=a:=hA b (by rw [q]; simp)
    subst e'
    rw [hK (by rw [q]; simp)] at e; cases e)
  have hM:Mod K mg (Bn s₁.heap H):=⟨hKb,nsK hns,⟨mb,nsK hb,hbb⟩,let ⟨mc,h1,h2⟩:=hlim; ⟨mc,nsK h1,h2⟩⟩
  have e0:zU P w K mg (Bn s₁.heap H) callerA [] s₁ H:=⟨rfl,hM,fun b o e=>Mr e,Nat.le_of_eq (GZ _ _),trivial,fun b hb=>absurd (show b∈([]:List Addr) from hb) (by simp),hok,.of_eq hg⟩
  refine codeAny_mono ((F _ hKb (nsK hns)).run callerA [] s₁ H ⟨[.ref a],[]⟩ [.ref a] [.ref a] _ _ hr e0 (hbind s₁ (.ref a)) (.cons rfl .nil) (hsp H hO hS)) fun r s' h=>?_
  cases r with
  | error e=>exact (hCX H e s' h).elim
  | ok fl=>
   cases fl with
   | next=>exact False.elim h
   | brk=>exact False.elim h
   | cont=>exact False.elim h
   | ret u=>
    obtain ⟨v,H',os,bare,un,hok',r',q⟩:=h
    have q':v=.bl true:=q
    subst q'
    obtain rfl:u=Value.bool true:=r'
    refine ⟨rfl,OldK.of_keep fun b o e=>?_,os,bare⟩
    cases q:H b with
    | none=>exact un.keep b o e q (by intro z; exact absurd (show b∈([]:List Addr) from z) (by simp)) (by simp)
    | some u=>
     rcases hO b with z | ⟨ob,xs,z⟩
     ·rw [q] at z; cases z
     ·have z2:=un.frzs b ob _ z
      obtain ⟨e1,_⟩:=hok b _ z
      obtain ⟨e2,_⟩:=hok' b _ z2
      rw [e] at e1; cases e1
      exact e2
 cases hk:K.lookup a with
 | some o=>
  -- the script is one of the module's own objects
  have e:=KX a o hk
  rw [ha] at e
  cases e
  refine core (fun _=>none) (fun _=>.inl rfl) (.inr ⟨_,vs.toArray,_,hk,rfl,rfl,rfl,by rw [List.size_toArray,lenV]; exact hl,by simpa using rv⟩) (fun b u z=>by have z':(none:Option HO)=some u:=z; cases z') (fun b z=>absurd rfl z) fun z=>absurd rfl z
 | none=>
  refine core (fun b=>if b=a then some (.frz { cls:=.type "list",data:=.seq vs.toArray } (.lst (ns.map V.int))) else none) (fun b=>?_) (.inl (.inr ⟨{ cls:=.type "list",data:=.seq vs.toArray },if_pos rfl⟩)) (fun b u z=>?_) (fun b z=>?_) fun _=>hk
  ·by_cases hb:b=a
   ·exact .inr ⟨_,_,if_pos hb⟩
   ·exact .inl (if_neg hb)
  ·by_cases hb:b=a
   ·have z':=(if_pos hb).symm.trans z
    cases z'
    subst hb
    exact ⟨ha,by rw [List.length_map]; exact hl,vs,_,rv,ha⟩
   ·have z':=(if_neg hb).symm.trans z
    cases z'
  ·by_cases hb:b=a
   ·exact hb
   ·exact absurd (if_neg hb) z
end L2
namespace L2
open PySem PySem.Spec PyProof.Rows
theorem walk_of {l:PySem.W.OpenLaw} {n k:Nat} {q:Program} {loose:List Str} {XP:(Str->Option Value)->Heap->Prop} {YP:World->Heap->Prop} {d:DefRec} {K:Params->PySem.W.Frag} {CX:World->CXT} {sp:World->Sp} {x:Str}
  (hn:l.most=some n) (hn2:n<=sizeLine) (hdf:d.params.defaults=[]) (hr:fG k callerA)
  (hY:∀ (w:World) (h:Heap),YP w h->(K w.params).In h)
  (F:∀ (w:World) (mg:Str->Option Value) (fa:Addr) (h:Heap),(K w.params).In h->h.Ns mainGlobals mg->mg d.name=some (.ref fa)->
   ∃ fd:FuncData,(∀ (s:Shared) (u:Value),BindsTo s fd ⟨[u],[]⟩ [(x,u)])/\
    ∀ base:Heap,(K w.params).In base->base.Ns mainGlobals mg->aM l.prog w (K w.params) mg base (CX w) k fa fd [x] (sp w))
  (hsp:∀ (w:World) (H:Hp) (a:Addr) (ns:List Int),ns.length<=n->Jv H->SqL (K w.params) H a (ns.map V.int)->sp w [.ref a] H (fun v _=>v=.bl true) fun _ _ _=>False)
  (hCX:∀ (w:World) (H:Hp) (s:Shared) (e:Value) (s':Shared),CX w [] H s (fun _ _ _=>False) e s'->False):
  PySem.W.WalkO q loose XP YP l.row.toRowW d [] (fun f vs=>PySem.call f vs):=by
 refine Att.attach_call hn hdf fun w s₀ s₁ mg mb fa o pm cd doc a vs ns G Y ho hd hcd hmg hobj hints hlen hg=>?_
 have KX:=hY w _ Y
 obtain ⟨fd,hb,hF⟩:=F w mg fa _ KX G.T.g hmg
 exact Jw KX G.T.g G.T.b G.T.builtins G.T.nolimit hg hobj hints (Nat.le_trans hlen hn2) hr hF hb (fun H hO hS=>hsp w H a ns hlen hO hS) fun H e s'=>hCX w H s₁ e s'
end L2
namespace L2
open PySem PySem.Spec PyProof.Rows
def inClass (s:Stmt) (j:Nat):Stmt:=match s with
 | .ClassDef _ _ _ body _ _ _ _ _ _ _=>body.getD j (.Pass ⟨0,0,0,0⟩)
 | _=>.Pass ⟨0,0,0,0⟩
def aU (s:Stmt):Arguments:=match s with
 | .FunctionDef _ a _ _ _ _ _ _ _ _=>a
 | _=>{ posonlyargs:=[],args:=[],vararg:=none,kwonlyargs:=[],kw_defaults:=[],kwarg:=none,defaults:=[] }
def aR (s:Stmt):List Stmt:=match s with
 | .FunctionDef _ _ b _ _ _ _ _ _ _=>b
 | _=>[]
def aF (s:Stmt):Scope:=match s with
 | .FunctionDef _ _ _ _ _ _ sc _ _ _=>sc
 | _=>{ kind:=.function,names:=[],isGenerator:=false,isCoroutine:=false }
abbrev CX0:CXT:=fun _ _ _ _ _ _=>False
abbrev E0:XK:=fun _ _ _=>False
theorem G5 {X:Cx}:wK CX0 X E0:=fun _ _ _ _ _ _ _ h=>h.elim
structure Fun (K:PySem.W.Frag) (x qual:Str) (st:Stmt) (f:Addr) (fd:FuncData):Prop where
 ex:∃ (oc:Value) (od:Option Addr) (kV doc pm:Value) (an:Option Addr) (cdv ct:Value) (osl:Array (Option Value)),
  fd=PySem.W.fnOf x qual (aU st) (aR st) (aF st) .none kV doc pm an cdv ct/\K.lookup f=some ⟨oc,od,.func fd,osl⟩/\PySem.W.codeIn K cdv qual=true
 kp:PySem.W.keepIn K (.ref f)=true
section
variable {P:Program} {w:World} {K:PySem.W.Frag} {mg:Str->Option Value} {base:Heap}
theorem Fun.ok {x qual:Str} {st:Stmt} {f:Addr} {fd:FuncData} {N ps:List Str} {k:Nat} {sp:Sp} (F:Fun K x qual st f fd) (S:aZ N ps (aF st)) (len:∀ vs H Q E,sp vs H Q E->vs.length=ps.length)
  (hbody:∀ (cdv:Value) (A:Around) (outer:List Env) (s:Shared) (H:Hp) (vs:List V) (Q:VK) (E:XK),fG k (A.deeper (envOfC qual (aF st) s.heap.objs.size f cdv))->sp vs H Q E->
   ∃ t,PSs (EL CX0 P w K mg base N qual (aF st) f cdv A outer s H E).nox (aR st) t/\t { nx:=fun _ H'=>Q .non H',rt:=Q } (start N vs) H):aM P w K mg base CX0 (k+1) f fd ps sp:=by
 obtain ⟨oc,od,kV,doc,pm,an,cdv,ct,osl,rfl,lk,hcd⟩:=F.ex
 refine Rh lk hcd S len fun A outer s H vs Q E hr hsp=>?_
 obtain ⟨t,h,q⟩:=hbody cdv A outer s H vs Q E hr hsp
 exact ⟨t,h.nox,q⟩
theorem Fun.binds {x qual:Str} {st:Stmt} {f:Addr} {fd:FuncData} {ps:List Str} (F:Fun K x qual st f fd)
  (h:∀ (kV doc pm:Value) (an:Option Addr) (cdv ct:Value) (us:List Value),us.length=ps.length->bindArgs (PySem.W.fnOf x qual (aU st) (aR st) (aF st) .none kV doc pm an cdv ct) ⟨us,[]⟩=pure (ps.zip us)):Binds K fd ps []:=by
 obtain ⟨oc,od,kV,doc,pm,an,cdv,ct,osl,rfl,lk,hcd⟩:=F.ex
 exact .all (h kV doc pm an cdv ct)
theorem jO {x qual:Str} {st:Stmt} {f:Addr} {oc:Value} {od an:Option Addr} {osl:Array (Option Value)} {kV doc pm cdv ct:Value} (l:K.lookup f=some ⟨oc,od,.func (PySem.W.fnOf x qual (aU st) (aR st) (aF st) .none kV doc pm an cdv ct),osl⟩)
  (c:PySem.W.codeIn K cdv qual=true) (k:PySem.W.keepIn K (.ref f)=true):Fun K x qual st f (PySem.W.fnOf x qual (aU st) (aR st) (aF st) .none kV doc pm an cdv ct):=⟨⟨oc,od,kV,doc,pm,an,cdv,ct,osl,rfl,l,c⟩,k⟩
end
theorem Ro {A:Around} {k:Nat} (hr:fG k A):A.units+1 < cLine:=Nat.lt_of_le_of_lt (Nat.add_le_add_left (by decide:1<=64) _) hr.units
section
variable {X:Cx}
theorem pv (i:Nat) {x:Str} {pos:Pos} (hN:X.N[i]?=some x:=by rfl) (hv:Vis X.env.scope x:=by first | exact Or.inl rfl | exact Or.inr (Or.inl rfl) | exact Or.inr (Or.inr rfl)) (hd:(x == ("__debug__" : Str))=false:=by decide)
  (hcd:(x == ("__classdict__" : Str))=false:=by decide):PE X (.Name x pos) (R1 i):=J9 hN hv hd hcd
end
theorem Hj {A B:Prop} (h:B):if false=true then A else B:=by
 rw [if_neg Bool.false_ne_true]
 exact h
theorem Hk {A B:Prop} (h:A):if true=true then A else B:=by
 rw [if_pos rfl]
 exact h
def ES (H H':Hp):Prop:=∀ b o,H b=some o->H' b=some o
end L2
namespace L2
open PySem PySem.Spec PyProof.Rows
section
variable {κ:Type} [DecidableEq κ]
def kB (kvs:List (κ×V)) (k:κ):Option V:=(kvs.find? fun kv=>decide (kv.1=k)).map (·.2)
def putK (kvs:List (κ×V)) (k:κ) (v:V):List (κ×V):=
 if (kvs.any fun kv=>decide (kv.1=k))=true then kvs.map (fun kv=>if kv.1=k then (kv.1,v) else kv) else kvs++[(k,v)]
theorem qP {p:κ×V} {r:List (κ×V)} {k:κ} (e:p.1=k):kB (p :: r) k=some p.2:=by simp [kB,List.find?_cons,e]
theorem qQ {p:κ×V} {r:List (κ×V)} {k:κ} (e:¬ p.1=k):kB (p :: r) k=kB r k:=by simp [kB,List.find?_cons,e]
theorem wN (k:κ):∀ kvs:List (κ×V),(kvs.any fun kv=>decide (kv.1=k))=(kB kvs k).isSome
 | []=>rfl
 | p :: r=>by
  rw [List.any_cons]
  by_cases e:p.1=k
  ·simp only [qP e,decide_eq_true e,Bool.true_or,Option.isSome_some]
  ·rw [qQ e,decide_eq_false e,Bool.false_or]; exact wN k r
theorem mX (kvs:List (κ×V)) (k:κ) (v:V):(putK kvs k v).length<=kvs.length+1:=by
 unfold putK
 split
 ·rw [List.length_map]; omega
 ·rw [List.length_append,List.length_cons,List.length_nil]; omega
theorem pB.isSome_eq {o:Option V} {u:Option Value} (r:pB o u):o.isSome=u.isSome:=by
 cases o with
 | none=>cases u with
  | none=>rfl
  | some _=>exact (show False from r).elim
 | some _=>cases u with
  | none=>exact (show False from r).elim
  | some _=>rfl
theorem KV.val {kvs:List (κ×V)} {vs:List (κ×Value)} (r:KV kvs vs) (k:κ):pB (kB kvs k) (valueAt vs k):=by
 unfold KV at r
 induction r with
 | nil=>exact True.intro
 | @cons p q ps qs h t ih=>
  obtain ⟨h1,h2⟩:=h
  by_cases e:p.1=k
  ·have e':q.1=k:=h1.symm.trans e
   have b:valueAt (q :: qs) k=some q.2:=by simp [valueAt,List.find?_cons,e']
   rw [qP e,b]; exact h2
  ·have e':¬ q.1=k:=fun z=>e (h1.trans z)
   have b:valueAt (q :: qs) k=valueAt qs k:=by simp [valueAt,List.find?_cons,e']
   rw [qQ e,b]; exact ih
theorem KV.any {kvs:List (κ×V)} {vs:List (κ×Value)} (r:KV kvs vs) (k:κ):(kvs.any fun kv=>decide (kv.1=k))=vs.any fun kv=>decide (kv.1=k):=by
 unfold KV at r
 induction r with
 | nil=>rfl
 | cons h t ih=>rw [List.any_cons,List.any_cons,ih,h.1]
theorem KV.repl {kvs:List (κ×V)} {vs:List (κ×Value)} (r:KV kvs vs) (k:κ) {y:V} {u:Value} (ry:RelV y u):
  KV (kvs.map fun kv=>if kv.1=k then (kv.1,y) else kv) (vs.map fun kv=>if kv.1=k then (kv.1,u) else kv):=by
 unfold KV at r ⊢
 induction r with
 | nil=>exact .nil
 | @cons p q ps qs h t ih=>
  rw [List.map_cons,List.map_cons]
  refine .cons ?_ ih
  obtain ⟨h1,h2⟩:=h
  by_cases e:p.1=k
  ·rw [if_pos e,if_pos (h1.symm.trans e)]; exact ⟨h1,ry⟩
  ·rw [if_neg e,if_neg (fun z=>e (h1.trans z))]; exact ⟨h1,h2⟩
theorem KV.put {kvs:List (κ×V)} {vs:List (κ×Value)} (r:KV kvs vs) (k:κ) {y:V} {u:Value} (ry:RelV y u):KV (putK kvs k y) (stored vs k u):=by
 unfold putK stored
 rw [r.any k]
 by_cases e:(vs.any fun kv=>decide (kv.1=k))=true
 ·rw [if_pos e,if_pos e]; exact r.repl k ry
 ·rw [if_neg e,if_neg e]; exact Paired.snoc r ⟨rfl,ry⟩
theorem KV.length {kvs:List (κ×V)} {vs:List (κ×Value)} (r:KV kvs vs):kvs.length=vs.length:=Paired.length r
end
theorem CY {P:Program} {w:World} {k:Key} {u:Value} (r:RelV (kV k) u):(cP P w).is k u=true:=by
 cases k with
 | inl i=>obtain ⟨t,e⟩:=(show ∃ t,u=Value.int i t from r); subst e; exact CN P w i t
 | inr x=>obtain ⟨t,e⟩:=(show ∃ t,u=Value.str x t from r); subst e; exact CO P w x t
theorem AH {P:Program} {w:World}:∀ {ks:List Key} {us:List Value},aP (ks.map kV) us->ItemsAre (cP P w) ks us
 | [],_,r=>by rw [List.map_nil] at r; cases r; exact .nil
 | k :: ks,_,r=>by
  rw [List.map_cons] at r
  cases r with
  | cons h t=>exact .cons (CY h) (AH t)
abbrev KT (H:Hp):List (List Key×V)->List (List Key×Addr×Value)->Prop:=Paired fun p q=>p.1=q.1/\H q.2.1=some (.tup (p.1.map kV))/\RelV p.2 q.2.2
theorem KT.val {H:Hp} {kvs:List (List Key×V)} {xs:List (List Key×Addr×Value)} (r:KT H kvs xs) (k:List Key):pB (kB kvs k) ((atKey xs k).map (·.2)):=by
 induction r with
 | nil=>exact True.intro
 | @cons p q ps qs h t ih=>
  obtain ⟨h1,_,h2⟩:=h
  by_cases e:p.1=k
  ·have e':q.1=k:=h1.symm.trans e
   have b:atKey (q :: qs) k=some q.2:=by simp [atKey,List.find?_cons,e']
   rw [qP e,b]; exact h2
  ·have e':¬ q.1=k:=fun z=>e (h1.trans z)
   have b:atKey (q :: qs) k=atKey qs k:=by simp [atKey,List.find?_cons,e']
   rw [qQ e,b]; exact ih
theorem KT.repl {H:Hp} {kvs:List (List Key×V)} {xs:List (List Key×Addr×Value)} (r:KT H kvs xs) (k:List Key) {y:V} {u:Value} (ry:RelV y u):
  KT H (kvs.map fun kv=>if kv.1=k then (kv.1,y) else kv) (xs.map (putAt k u)):=by
 induction r with
 | nil=>exact .nil
 | @cons p q ps qs h t ih=>
  rw [List.map_cons,List.map_cons]
  refine .cons ?_ ih
  obtain ⟨h1,h2,h3⟩:=h
  unfold putAt
  by_cases e:p.1=k
  ·rw [if_pos e,if_pos (h1.symm.trans e)]; exact ⟨h1,h2,ry⟩
  ·rw [if_neg e,if_neg (fun z=>e (h1.trans z))]; exact ⟨h1,h2,h3⟩
theorem KT.put {H:Hp} {kvs:List (List Key×V)} {xs:List (List Key×Addr×Value)} (r:KT H kvs xs) (k:List Key) {b:Addr} {y:V} {u:Value} (hb:H b=some (.tup (k.map kV))) (ry:RelV y u):
  KT H (putK kvs k y) (storedH xs k b u):=by
 have e:(kvs.any fun kv=>decide (kv.1=k))=(atKey xs k).isSome:=by
  rw [wN,(r.val k).isSome_eq,Option.isSome_map]
 unfold putK storedH
 rw [e]
 by_cases q:(atKey xs k).isSome=true
 ·rw [if_pos q,if_pos q]; exact r.repl k ry
 ·rw [if_neg q,if_neg q]; exact Paired.snoc r ⟨rfl,hb,ry⟩
theorem KT.keeps {H H':Hp} {kvs:List (List Key×V)} {xs:List (List Key×Addr×Value)} (r:KT H kvs xs) (ht:∀ b ys,H b=some (.tup ys)->H' b=some (.tup ys)):KT H' kvs xs:=
 Paired.mapP r fun _ _ z=>⟨z.1,ht _ _ z.2.1,z.2.2⟩
section
variable {P:Program} {w:World} {H:Hp} {h:Heap} {a:Addr}
theorem OA {u:HO} (ok:HOk P w H h) (e:Rd H a u):cV P w H h a u:=e.ok ok
theorem CZ {kvs:List (Key×V)} (ok:HOk P w H h) (e:Rd H a (.dK kvs)):kvs.length<=sizeLine/\(a == sysModules)=false/\∃ vs,KV kvs vs/\h.DictOf (cP P w) a vs:=
 show cV P w H h a (.dK kvs) from OA ok e
theorem D0 {kvs:List (Key×V)} (ok:HOk P w H h) (e:H a=some (.dK kvs)):kvs.length<=sizeLine/\(a == sysModules)=false/\∃ vs,KV kvs vs/\h.DictOf (cP P w) a vs:=CZ ok (.inl e)
theorem Bz {ks:List Key} (ok:HOk P w H h) (e:H a=some (.tup (ks.map kV))):(tupleKind (cP P w)).is h ks a:=by
 obtain ⟨_,its,r,o,h1,h2,⟨n,h3⟩,_⟩:=(show cV P w H h a (.tup (ks.map kV)) from ok a _ e)
 exact ⟨o,its.toArray,n,h1,h2,h3,by simpa using AH r⟩
theorem G6 {kvs:List (List Key×V)} (ok:HOk P w H h) (e:Rd H a (.dT kvs)):kvs.length<=sizeLine/\(a == sysModules)=false/\
  ∃ xs,KT H kvs xs/\h.DictOfH (tupleKind (cP P w)) a xs:=by
 obtain ⟨z,y,xs,r,o,es,ep,h1,h2,h3,h4,h5⟩:=(show cV P w H h a (.dT kvs) from OA ok e)
 refine ⟨z,y,xs,r,o,es,ep,h1,h2,h3,h4,fun x hx=>?_,h5⟩
 have all:∀ {l:List (List Key×V)} {m:List (List Key×Addr×Value)},KT H l m->∀ x∈m,(tupleKind (cP P w)).is h x.1 x.2.1:=by
  intro l m q
  induction q with
  | nil=>intro x hx; exact nomatch hx
  | @cons p q ps qs hq t ih=>
   intro x hx
   rcases List.mem_cons.mp hx with e | hx
   ·subst e
    exact Bz ok (by rw [<- hq.1]; exact hq.2.1)
   ·exact ih x hx
 exact all r x hx
theorem Rp {kvs:List (List Key×V)} (ok:HOk P w H h) (e:H a=some (.dT kvs)):kvs.length<=sizeLine/\(a == sysModules)=false/\
  ∃ xs,KT H kvs xs/\h.DictOfH (tupleKind (cP P w)) a xs:=G6 ok (.inl e)
end
def wO (H:Hp) (a:Addr) (y:V) (r:Option V):Prop:=
 (∃ kvs k,Rd H a (.dK kvs)/\y=kV k/\r=kB kvs k)\/∃ kvs k b,Rd H a (.dT kvs)/\y=.ref b/\H b=some (.tup (k.map kV))/\r=kB kvs k
def Po (H:Hp) (a:Addr) (y v:V) (H':Hp):Prop:=
 (∃ kvs k,H a=some (.dK kvs)/\y=kV k/\kvs.length < sizeLine/\H'=upd H a (.dK (putK kvs k v)))\/
 ∃ kvs k b,H a=some (.dT kvs)/\y=.ref b/\H b=some (.tup (k.map kV))/\kvs.length < sizeLine/\H'=upd H a (.dT (putK kvs k v))
theorem wO.k {H:Hp} {a:Addr} {kvs:List (Key×V)} {k:Key} (e:H a=some (.dK kvs)):wO H a (kV k) (kB kvs k):=.inl ⟨kvs,k,.inl e,rfl,rfl⟩
theorem Po.k {H:Hp} {a:Addr} {kvs:List (Key×V)} {k:Key} {v:V} (e:H a=some (.dK kvs)) (hl:kvs.length < sizeLine):Po H a (kV k) v (upd H a (.dK (putK kvs k v))):=.inl ⟨kvs,k,e,rfl,hl,rfl⟩
section
variable {X:Cx} {pins:List (Addr×Obj)} {σ:St} {H:Hp} {s:Shared} {a:Addr} {y v:V} {u r:Value} {o:Option V} {A:Around} {E:Value->Shared->Prop}
theorem Inv.big (I:Inv X pins σ H s):sysModules < s.heap.objs.size:=by
 have h:mainGlobals < s.heap.objs.size:=(I.mod.glob.keeps I.bk).lt
 exact Nat.lt_trans (by decide) h
theorem Hl {Q:Value->Shared->Prop} (hu:A.units+1 < cLine) (I:Inv X pins σ H s) (g:wO H a y (some v)) (ry:RelV y u) (h:∀ w' s',Inv X pins σ H s'->RelV v w'->Q w' s'):
  wpAny (model X.prog X.w) A (getItem (.ref a) u) Q E s:=by
 rcases g with ⟨kvs,k,e,ey,l⟩ | ⟨kvs,k,b,e,ey,eb,l⟩
 ·subst ey
  obtain ⟨z,hd,vs,rel,dd⟩:=CZ I.hok e
  obtain ⟨w',hw,rw'⟩:=pB.some_of (v:=v) (o:=valueAt vs k) (by rw [l]; exact rel.val k)
  exact wpAny_getItem_of (CY ry) dd.mapOf hw (h w' _ (I.tok _) rw')
 ·subst ey
  cases (show u=Value.ref b from ry)
  obtain ⟨z,hd,xs,rel,dd⟩:=G6 I.hok e
  obtain ⟨w',hw,rw'⟩:=pB.some_of (v:=v) (o:=(atKey xs k).map (·.2)) (by rw [l]; exact rel.val k)
  obtain ⟨p,hp,hp2⟩:=Option.map_eq_some_iff.mp hw
  refine wpAny_getItem_heap (tupleKind_room_in1 hu) (Bz I.hok eb) dd hp ?_
  rw [hp2]
  exact h w' _ (I.tok _) rw'
theorem MP {Q:Value->Shared->Prop} (hu:A.units+1 < cLine) (I:Inv X pins σ H s) (g:wO H a y o) (ry:RelV y u) (h:∀ s',Inv X pins σ H s'->Q (.bool (!o.isSome)) s'):
  wpAny (model X.prog X.w) A (compareOp .NotIn u (.ref a)) Q E s:=by
 rcases g with ⟨kvs,k,e,ey,l⟩ | ⟨kvs,k,b,e,ey,eb,l⟩
 ·subst ey
  obtain ⟨z,hd,vs,rel,dd⟩:=CZ I.hok e
  refine wpAny_notIn_of (CY ry) hd dd.mapOf ?_
  rw [<- (rel.val k).isSome_eq,<- l]
  exact h _ (I.tok _)
 ·subst ey
  cases (show u=Value.ref b from ry)
  obtain ⟨z,hd,xs,rel,dd⟩:=G6 I.hok e
  refine wpAny_notIn_heap (tupleKind_room_in1 hu) (Bz I.hok eb) hd dd ?_
  have q:=(rel.val k).isSome_eq
  rw [Option.isSome_map] at q
  rw [<- q,<- l]
  exact h _ (I.tok _)
theorem qR {h':Heap} {t':Nat} {ob:HO} (I:Inv X pins σ H s) (mu:Mut (H a)) (hs:Heap.SameBut a s.heap h') (he:∃ q,h'.get? a=some q) (new:cV X.prog X.w (upd H a ob) h' a ob):
  Inv X pins σ (upd H a ob) { s with heap:=h',toks:=t' }:=
 I.write (x:=a) (e:=a) mu (.inl rfl) (fun b q hb z=>(hs.2 b hb).trans z) he new
theorem Jx {P:Program} {w:World} {H':Hp} {h':Heap} {kvs:List (Key×V)} {vs:List (Key×Value)} (z:kvs.length<=sizeLine) (hd:(a == sysModules)=false) (rel:KV kvs vs) (dd:h'.DictOf (cP P w) a vs):
  cV P w H' h' a (.dK kvs):=⟨z,hd,vs,rel,dd⟩
theorem Hm {H':Hp} {Q:Unit->Shared->Prop} (hu:A.units+1 < cLine) (I:Inv X pins σ H s) (g:Po H a y v H') (ry:RelV y u) (rv:RelV v r) (h:∀ s',Inv X pins σ H' s'->Q () s'):
  wpAny (model X.prog X.w) A (setItem (.ref a) u r) Q E s:=by
 rcases g with ⟨kvs,k,e,ey,l,eH⟩ | ⟨kvs,k,b,e,ey,eb,l,eH⟩
 ·subst ey eH
  obtain ⟨z,hd,vs,rel,dd⟩:=D0 I.hok e
  have hz:vs.length<=sizeLine:=by rw [<- rel.length]; exact z
  have hl:(putK kvs k v).length<=sizeLine:=by have:=mX kvs k v; omega
  refine wpAny_setItem_pairs (hsz:=hz) (CY ry) dd fun h' dd' hs=>h _ ?_
  have he:∃ q,h'.get? a=some q:=let ⟨q,_,_,hq,_⟩:=dd'; ⟨q,hq⟩
  exact qR I (by rw [e]; exact True.intro) hs he (Jx hl hd (rel.put k rv) dd')
 ·subst ey eH
  cases (show u=Value.ref b from ry)
  obtain ⟨z,hd,xs,rel,dd⟩:=Rp I.hok e
  have hz:xs.length<=sizeLine:=by rw [<- Paired.length rel]; exact z
  have hl:(putK kvs k v).length<=sizeLine:=by have:=mX kvs k v; omega
  refine wpAny_setItem_heap (hsz:=hz) (tupleKind_room_in1 hu) (Bz I.hok eb) dd fun h' dd' hs=>h _ ?_
  obtain ⟨q,es,ep,hq,h2,h3,h4,_,h5⟩:=dd'
  refine qR I (by rw [e]; exact True.intro) hs ⟨q,hq⟩ ⟨hl,hd,_,(rel.put k eb rv).keeps fun c ys ec=>?_,q,es,ep,hq,h2,h3,h4,h5⟩
  rw [aX (R0 ec e (fun z=>nomatch z))]
  exact ec
end
section
variable {X:Cx} {pins:List (Addr×Obj)} {σ:St} {H:Hp} {s:Shared} {a:Addr} {kvs:List (Key×V)} {k:Key} {u:Value} {A:Around} {E:Value->Shared->Prop}
theorem Rq {Q:Value->Shared->Prop} (I:Inv X pins σ H s) (e:Rd H a (.dK kvs)) (h:∀ t s',Inv X pins σ H s'->Q (.int kvs.length t) s'):wpAny (model X.prog X.w) A (call (.builtin "len") [.ref a]) Q E s:=by
 obtain ⟨z,hd,vs,rel,dd⟩:=CZ I.hok e
 refine call_len_dict hd dd (by rw [<- rel.length]; rw [sizeLine_eq] at z; omega) ?_
 rw [<- rel.length]
 exact h _ _ (I.tok _)
end
theorem D1 {X:Cx} {pins:List (Addr×Obj)} {σ:St} {H:Hp} {s:Shared} {a:Addr} {y:V} {o:Option V} (I:Inv X pins σ H s) (g:wO H a y o):s.TypeIs (.ref a) "dict" := by
 rcases g with ⟨kvs,k,e,_,_⟩ | ⟨kvs,k,b,e,_,_,_⟩
 ·obtain ⟨_,_,vs,_,dd⟩:=CZ I.hok e
  exact dd.typeIs
 ·obtain ⟨_,_,xs,_,dd⟩:=G6 I.hok e
  exact dd.typeIs
section
variable {X:Cx} {o i e value:Expr} {pos pos' tpos:Pos} {td ty tv:TE}
end
theorem Jy {P:Program} {w:World} {H:Hp} (h:Heap) (hb:sysModules < h.objs.size):cV P w H (h.push { cls:=.type "dict",data:=.dict #[] }) h.objs.size (.dK []):=
 ⟨Nat.zero_le _,beq_eq_false_iff_ne.mpr (Ne.symm (Nat.ne_of_lt hb)),[],.nil,Heap.DictOf.new h⟩
def Pp:TE:=fun _ H Q=>∀ p,H p=none->Q (.ref p) (upd H p (.dK []))
section
variable {X:Cx} {pos:Pos}
theorem Jz:PE X (.Dict [] [] pos) Pp:=fun pins s σ H Q I h=>
 wpAny_Dict_empty ⟨.ref s.heap.objs.size,_,I.laid (a:=s.heap.objs.size) (o:=.dK []) (t':=s.toks) (fun _ _ q=>Heap.get?_push_of_some _ q) (Nat.le_refl _) (Jy s.heap I.big),rfl,h _ (I.hok.fresh (Nat.le_refl _))⟩
end
structure M1 (X:Cx) (o:Expr) (m:Str) (apos:Pos) (e:Expr) (cpos:Pos):Prop where
 base:attributeBase o m X.env (eval o X.env)=eval o X.env
 few:((backTo cpos (starEach [e] X.env)).all (fun x=>!x.1) && (backToKw cpos (keywordEach [] X.env)).all (fun x=>x.1.isSome)
  && decide (([e]:List Expr).length+([]:List Keyword).length+(if ([]:List Keyword).isEmpty then 0 else 1) < 30))=true
 line:(apos.endLine == cpos.line)=true
 trees:backTo cpos (starEach [e] X.env)=[(false,eval e X.env)]
structure M2 (X:Cx) (o:Expr) (m:Str) (apos:Pos) (e f:Expr) (cpos:Pos):Prop where
 base:attributeBase o m X.env (eval o X.env)=eval o X.env
 few:((backTo cpos (starEach [e,f] X.env)).all (fun x=>!x.1) && (backToKw cpos (keywordEach [] X.env)).all (fun x=>x.1.isSome)
  && decide (([e,f]:List Expr).length+([]:List Keyword).length+(if ([]:List Keyword).isEmpty then 0 else 1) < 30))=true
 line:(apos.endLine == cpos.line)=true
 trees:backTo cpos (starEach [e,f] X.env)=[(false,eval e X.env),(false,eval f X.env)]
section
variable {X:Cx} {pins:List (Addr×Obj)} {σ:St} {H:Hp} {s:Shared} {a:Addr} {y d:V} {u r:Value} {o:Option V} {A:Around} {E:Value->Shared->Prop}
end
section
variable {X:Cx} {o e f:Expr} {apos cpos:Pos} {td ty tx:TE}
end
section
variable {X:Cx} {pins:List (Addr×Obj)} {σ:St} {H:Hp} {s:Shared} {a:Addr} {kvs:List (Key×V)} {A:Around} {E:Value->Shared->Prop}
end
section
variable {X:Cx} {pins:List (Addr×Obj)} {σ:St} {H:Hp} {s:Shared} {a:Addr} {y:V} {u:Value} {A:Around} {E:Value->Shared->Prop}
end
end L2
namespace L2
open PySem PySem.Spec PyProof.Rows
section
variable {X:Cx}
theorem Hn:bT X (.builtin "len") (fun xs H Q=>∃ a kvs,xs=[V.ref a]/\H a=some (.dK kvs)/\Q (.int kvs.length) H):=by
 intro pins s σ H xs us Q I r h
 obtain ⟨a,kvs,rfl,ha,q⟩:=h
 obtain ⟨u,rfl,ru⟩:=vals1 r
 cases ru
 exact Rq I (.inl ha) fun t s' I'=>⟨.int kvs.length,H,I',⟨t,rfl⟩,q⟩
end
section
variable {κ:Type} [DecidableEq κ]
end
end L2
set_option Elab.async false
set_option linter.all false
set_option maxRecDepth 100000
namespace L2
open PySem PySem.Spec PyProof.Rows
section
variable {prog:Program} {w:World} {A:Around} {R:Result->Shared->Prop} {s:Shared}
def G7 (ifs:List Expr) (env:Env):Sem Bool:=forIn ifs true fun c r=>if r=true then do let ok <- isTrue c env (eval c env); pure (ForInStep.yield ok) else pure (ForInStep.yield r)
theorem BA {elt target iter:Expr} {ifs:List Expr} {scope:Scope} {pos:Pos} {it acc:Value} {env:Env} (I:Nat->Shared->Prop)
  (turn:∀ n s,I n s->wpAny (model prog w) A (pyNext it) (fun r s₁=>match r with
   | none=>R (.ok .next) s₁
   | some v=>wpAny (model prog w) A (letOwnedTupleGo target it v) (fun _ s₁'=>wpAny (model prog w) A (assign target env v) (fun _ s₂=>
     wpAny (model prog w) A (G7 ifs env) (fun ok s₃=>
      if ok=true then wpAny (model prog w) A (eval elt env) (fun x s₄=>
       wpAny (model prog w) A (call (.builtin "list.append") [acc,x]) (fun _ s₅=>∃ m,m < n/\I m s₅) (fun _ _=>False) s₄) (fun _ _=>False) s₃
      else ∃ m,m < n/\I m s₃) (fun _ _=>False) s₂) (fun _ _=>False) s₁') (fun _ _=>False) s₁) (fun _ _=>False) s)
  (n:Nat) (h:I n s):
  codeAny (model prog w) A (.compLoop (.ListComp elt [⟨target,iter,ifs,0⟩] scope pos) 0 it acc env) R s:=by
 refine codeAny_loop rfl I (fun n s hI=>?_) n h
 show wpAny _ A ((compTurn (.ListComp elt [⟨target,iter,ifs,0⟩] scope pos) 0 it acc env).onRaise (fun x=>do noteFrame x env; theTreesLotGoes x)) _ _ s
 refine wpAny_noted ?_
 rw [compTurn_list]
 refine wpAny_bind (wpAny_standAt (wpAny_bind (wpAny_mono (turn n s hI) (fun r s₁ h₁=>?_) fun _ _ h'=>h'.elim)))
 cases r with
 | none=>exact wpAny_pure h₁
 | some v=>
  refine wpAny_bind (wpAny_mono h₁ (fun _ s₁' h₁'=>?_) fun _ _ h'=>h'.elim)
  refine wpAny_bind (wpAny_mono h₁' (fun _ s₂ h₂=>wpAny_bind (wpAny_mono h₂ (fun ok s₃ h₃=>?_) fun _ _ h'=>h'.elim)) fun _ _ h'=>h'.elim)
  cases ok with
  | false=>exact wpAny_pure ⟨rfl,h₃⟩
  | true=>
   exact wpAny_bind (wpAny_bind (wpAny_mono h₃ (fun x s₄ h₄=>wpAny_bind (wpAny_mono h₄ (fun _ s₅ h₅=>wpAny_pure (wpAny_pure ⟨rfl,h₅⟩)) fun _ _ h'=>h'.elim)) fun _ _ h'=>h'.elim))
end
def mY (cells:List (Str×Addr)):List (Str×NameKind)->List (Str×Addr)->List (Str×Addr)
 | [],cs=>cs
 | (n,k) :: r,cs=>mY cells r (if (k == NameKind.free)=true then (n,(cells.lookup n).getD 0) :: cs else cs)
theorem zX {scope:Scope} {env:Env} (h:∀ y∈scope.names,y.2=NameKind.free->∃ c,env.cells.lookup y.1=some c):closureFor scope env=pure (mY env.cells scope.names []):=by
 have go:∀ (names:List (Str×NameKind)) (cs:List (Str×Addr)),(∀ y∈names,y.2=NameKind.free->∃ c,env.cells.lookup y.1=some c)->
   (forIn names cs fun (x:Str×NameKind) (r:List (Str×Addr))=>match x with
    | (name,kind)=>if (kind == NameKind.free)=true then (do let y <- cellOf env name; pure (ForInStep.yield ((name,y) :: r))) else (pure (ForInStep.yield r):Sem _))=(pure (mY env.cells names cs):Sem _):=by
  intro names
  induction names with
  | nil=>intro cs _; rfl
  | cons y r ih=>
   intro cs hy
   obtain ⟨n,k⟩:=y
   rw [List.forIn_cons]
   have ih':=fun cs'=>ih cs' fun y hm=>hy y (List.mem_cons_of_mem _ hm)
   by_cases hk:(k == NameKind.free)=true
   ·obtain ⟨c,hc⟩:=hy (n,k) List.mem_cons_self (by simpa using hk)
    have e1:cellOf env n=pure c:=by unfold cellOf; rw [show env.cells.lookup n=some c from hc]
    have e2:mY env.cells ((n,k) :: r) cs=mY env.cells r ((n,c) :: cs):=by
     show mY env.cells r (if (k == NameKind.free)=true then _ else _)=_
     rw [if_pos hk,show env.cells.lookup n=some c from hc]; rfl
    rw [e2,<- ih' ((n,c) :: cs)]
    simp only [hk,if_true,e1,pure_bind]
   ·have e2:mY env.cells ((n,k) :: r) cs=mY env.cells r cs:=by
     show mY env.cells r (if (k == NameKind.free)=true then _ else _)=_
     rw [if_neg hk]
    rw [e2,<- ih' cs]
    simp only [hk,if_false,pure_bind]
    try rfl
 have:=go scope.names [] h
 unfold closureFor
 simpa using this
theorem uR {cells:List (Str×Addr)} {x:Str} {c:Addr}:∀ (names:List (Str×NameKind)) (cs:List (Str×Addr)),(mY cells names cs).lookup x=some c->cs.lookup x=some c\/(∃ y∈names,y.1=x/\y.2=NameKind.free/\c=(cells.lookup x).getD 0)
 | [],_,h=>.inl h
 | (n,k) :: r,cs,h=>by
  rcases uR r _ h with h1 | ⟨y,hy,e⟩
  ·by_cases hk:(k == NameKind.free)=true
   ·rw [if_pos hk] at h1
    by_cases hx:x=n
    ·subst hx
     simp only [List.lookup_cons,beq_self_eq_true] at h1
     exact .inr ⟨(x,k),List.mem_cons_self,rfl,by simpa using hk,(Option.some.inj h1).symm⟩
    ·have:(x == n)=false:=by simpa using hx
     simp only [List.lookup_cons,this] at h1
     exact .inl h1
   ·rw [if_neg hk] at h1
    exact .inl h1
  ·exact .inr ⟨y,List.mem_cons_of_mem _ hy,e⟩
theorem wQ {cells:List (Str×Addr)} {x:Str}:∀ (names:List (Str×NameKind)) (cs:List (Str×Addr)),((∃ c,cs.lookup x=some c)\/∃ y∈names,y.1=x/\y.2=NameKind.free)->∃ c,(mY cells names cs).lookup x=some c
 | [],_,h=>by
  rcases h with h | ⟨y,hy,_⟩
  ·exact h
  ·cases hy
 | (n,k) :: r,cs,h=>by
  refine wQ r _ ?_
  rcases h with ⟨c,h⟩ | ⟨y,hy,e1,e2⟩
  ·left
   by_cases hk:(k == NameKind.free)=true
   ·rw [if_pos hk]
    by_cases hx:x=n
    ·subst hx; simp [List.lookup_cons]
    ·have:(x == n)=false:=by simpa using hx
     exact ⟨c,by simp only [List.lookup_cons,this]; exact h⟩
   ·rw [if_neg hk]; exact ⟨c,h⟩
  ·rcases List.mem_cons.mp hy with rfl | hy
   ·left
    have hk:(k == NameKind.free)=true:=by simpa using e2
    rw [if_pos hk]
    have hx:n=x:=e1
    subst hx
    simp [List.lookup_cons]
   ·exact .inr ⟨y,hy,e1,e2⟩
def pQ (os:Scope) (oN:List Str) (sc:Scope) (N:List Str) (js:List (Option Nat)):Bool:=
 (match sc.kind with | .function=>true | _=>false) && sc.names.all (fun y=>match y.2 with | .cell=>false | _=>true) &&
 sc.names.all (fun y=>match y.2 with
  | .local=>(match sc.names.lookup y.1 with | some .local=>true | _=>false)
  | .free=>(match sc.names.lookup y.1,os.names.lookup y.1 with | some .free,some .cell=>true | some .free,some .free=>true | _,_=>false)
  | _=>true) &&
 js.length == N.length && (js.zip N).all (fun p=>match p.1 with
  | none=>true
  | some j=>(match oN[j]? with | some x=>decide (x=p.2) | none=>false) && (match sc.names.lookup p.2 with | some .free=>true | _=>false))
structure Pq (os:Scope) (oN:List Str) (sc:Scope) (N:List Str) (js:List (Option Nat)):Prop where
 kind:sc.kind=.function
 nocell:∀ y∈sc.names,y.2≠.cell
 nm:∀ y∈sc.names,y.2=.local->sc.names.lookup y.1=some .local
 fr:∀ y∈sc.names,y.2=.free->os.names.lookup y.1=some .cell\/os.names.lookup y.1=some .free
 len:js.length=N.length
 cap:∀ (i j:Nat),js[i]?=some (some j)->∃ x,N[i]?=some x/\oN[j]?=some x/\sc.names.lookup x=some .free
theorem Ho {os:Scope} {oN:List Str} {sc:Scope} {N:List Str} {js:List (Option Nat)} (h:pQ os oN sc N js=true):Pq os oN sc N js:=by
 unfold pQ at h
 simp only [Bool.and_eq_true] at h
 obtain ⟨⟨⟨⟨h1,h2⟩,h3⟩,h4⟩,h5⟩:=h
 refine ⟨?_,fun y hy e=>?_,fun y hy e=>?_,fun y hy e=>?_,by simpa using h4,fun i j e=>?_⟩
 ·cases hk:sc.kind <;> rw [hk] at h1 <;> first | rfl | exact absurd h1 Bool.false_ne_true
 ·have:=List.all_eq_true.mp h2 y hy
  rw [e] at this
  exact absurd this Bool.false_ne_true
 ·have:=List.all_eq_true.mp h3 y hy
  rw [e] at this
  dsimp only at this
  cases hl:sc.names.lookup y.1 with
  | none=>rw [hl] at this; exact absurd this Bool.false_ne_true
  | some k=>cases k <;> rw [hl] at this <;> first | rfl | exact absurd this Bool.false_ne_true
 ·have:=List.all_eq_true.mp h3 y hy
  rw [e] at this
  dsimp only at this
  cases hl:sc.names.lookup y.1 with
  | none=>rw [hl] at this; exact absurd this Bool.false_ne_true
  | some k=>
   rw [hl] at this
   cases ho:os.names.lookup y.1 with
   | none=>rw [ho] at this; cases k <;> exact absurd this Bool.false_ne_true
   | some k'=>rw [ho] at this; cases k <;> cases k' <;> first | exact .inl rfl | exact .inr rfl | exact absurd this Bool.false_ne_true
 ·have hlen:js.length=N.length:=by simpa using h4
  obtain ⟨hi,ej⟩:=List.getElem?_eq_some_iff.mp e
  have hN:i < N.length:=by omega
  have hz:(js.zip N)[i]?=some (some j,N[i]):=by
   rw [List.getElem?_zip_eq_some]
   exact ⟨e,by simp [hN]⟩
  have:=List.all_eq_true.mp h5 _ (List.mem_of_getElem? hz)
  simp only [Bool.and_eq_true] at this
  obtain ⟨t1,t2⟩:=this
  refine ⟨N[i],by simp [hN],?_,?_⟩
  ·cases ho:oN[j]? with
   | none=>rw [ho] at t1; exact absurd t1 Bool.false_ne_true
   | some x=>rw [ho] at t1; rw [of_decide_eq_true t1]
  ·cases hl:sc.names.lookup N[i] with
   | none=>rw [hl] at t2; exact absurd t2 Bool.false_ne_true
   | some k=>rw [hl] at t2; cases k <;> first | rfl | exact absurd t2 Bool.false_ne_true
theorem cZ {κ:Type} {x:Str} {k:κ}:∀ {l:List (Str×κ)},l.lookup x=some k->(x,k)∈l
 | [],h=>by simp at h
 | (n,v) :: r,h=>by
  by_cases hx:x=n
  ·subst hx
   simp only [List.lookup_cons,beq_self_eq_true] at h
   cases h
   exact List.mem_cons_self
  ·have:(x == n)=false:=by simpa using hx
   simp only [List.lookup_cons,this] at h
   exact List.mem_cons_of_mem _ (cZ h)
theorem mZ {sc:Scope} {env:Env}:∀ {names:List (Str×NameKind)} {x:Str} {k:NameKind},(names.map fun (n,k)=>if (k == NameKind.free && env.scope.kind == .function && env.kindOf n == some .cell) then (n,NameKind.cell) else (n,k)).lookup x=some k->
  names.lookup x=some k\/(k=.cell/\names.lookup x=some .free)
 | [],_,_,h=>by simp at h
 | (n,q) :: r,x,k,h=>by
  have ih:=@mZ sc env r x k
  by_cases hc:(q == NameKind.free && env.scope.kind == .function && env.kindOf n == some .cell)=true
  ·simp only [List.map_cons] at h
   rw [if_pos hc] at h
   have hq:q=.free:=by
    simp only [Bool.and_eq_true] at hc
    simpa using hc.1.1
   by_cases hx:x=n
   ·subst hx
    simp only [List.lookup_cons,beq_self_eq_true] at h ⊢
    exact .inr ⟨(Option.some.inj h).symm,by rw [hq]⟩
   ·have e:(x == n)=false:=by simpa using hx
    simp only [List.lookup_cons,e] at h ⊢
    exact ih h
  ·simp only [List.map_cons] at h
   rw [if_neg hc] at h
   by_cases hx:x=n
   ·subst hx
    simp only [List.lookup_cons,beq_self_eq_true] at h ⊢
    exact .inl h
   ·have e:(x == n)=false:=by simpa using hx
    simp only [List.lookup_cons,e] at h ⊢
    exact ih h
theorem qS {env:Env}:∀ {names:List (Str×NameKind)} {x:Str},names.lookup x=some .free->
  (names.map fun (n,k)=>if (k == NameKind.free && env.scope.kind == .function && env.kindOf n == some .cell) then (n,NameKind.cell) else (n,k)).lookup x=some .free\/
  (names.map fun (n,k)=>if (k == NameKind.free && env.scope.kind == .function && env.kindOf n == some .cell) then (n,NameKind.cell) else (n,k)).lookup x=some .cell
 | [],_,h=>by simp at h
 | (n,q) :: r,x,h=>by
  have ih:=@qS env r x
  by_cases hc:(q == NameKind.free && env.scope.kind == .function && env.kindOf n == some .cell)=true
  ·simp only [List.map_cons]
   rw [if_pos hc]
   by_cases hx:x=n
   ·subst hx
    simp only [List.lookup_cons,beq_self_eq_true]
    first | exact .inr rfl | exact .inr trivial
   ·have e:(x == n)=false:=by simpa using hx
    simp only [List.lookup_cons,e] at h ⊢
    exact ih h
  ·simp only [List.map_cons]
   rw [if_neg hc]
   by_cases hx:x=n
   ·subst hx
    simp only [List.lookup_cons,beq_self_eq_true] at h ⊢
    exact .inl h
   ·have e:(x == n)=false:=by simpa using hx
    simp only [List.lookup_cons,e] at h ⊢
    exact ih h
def Cx.comp (X:Cx) (sc:Scope) (N:List Str) (C:Addr) (fp:List Addr) (s₀:Shared) (H₀:Hp):Cx:=
 { X with N:=N,s₀:=s₀,H₀:=H₀,env:=compEnvC sc (mY X.env.cells sc.names []) C X.env,outer:=X.stack,ex:=fp,fn:=fun _=>false,pn:=[],xe:=fun _ _=>False }
def JA:St->Nat->Option V
 | [],_=>none
 | x :: _,0=>x
 | _ :: r,n+1=>JA r n
theorem D2:∀ {σ:St} {i:Nat} {v:V},JA σ i=some v->σ[i]?=some (some v)
 | [],_,_,h=>by cases h
 | x :: _,0,v,h=>by
  have h':x=some v:=h
  simp [h']
 | _ :: r,n+1,v,h=>by
  rw [List.getElem?_cons_succ]
  exact D2 (σ:=r) (i:=n) h
def lH (js:List (Option Nat)) (σ:St):St:=js.map fun o=>match o with
 | none=>none
 | some j=>JA σ j
theorem MQ {js:List (Option Nat)} {σ:St} {i:Nat} {v:V} (h:(lH js σ)[i]?=some (some v)):∃ j,js[i]?=some (some j)/\σ[j]?=some (some v):=by
 unfold lH at h
 rw [List.getElem?_map] at h
 cases e:js[i]? with
 | none=>rw [e] at h; cases h
 | some o=>
  rw [e] at h
  cases o with
  | none=>cases h
  | some j=>exact ⟨j,rfl,D2 (Option.some.inj h)⟩
def PTs (X:Cx) (ifs:List Expr) (t:TT):Prop:=
 ∀ (pins:List (Addr×Obj)) (s:Shared) (σ:St) (H:Hp) (Q:Bool->Hp->Prop),Inv X pins σ H s->t σ H Q->wpAny (model X.prog X.w) X.A (G7 ifs X.env) (TP X pins σ Q) X.xe s
def Rr:TT:=fun _ H Q=>Q true H
theorem MR {X:Cx}:PTs X [] Rr:=fun _ _ _ H _ I h=>wpAny_tests_nil ⟨H,I,h⟩
theorem MS {X:Cx} {c:Expr} {t:TT} (h:PT X c t):PTs X [c] t:=fun pins s σ H Q I q=>wpAny_tests_one (h pins s σ H Q I q)
def OB (js:List (Option Nat)) (g:TG) (tt:TT) (te:TE) (σ:St) (acc:Addr) (x:V) (H:Hp) (N:Hp->Prop):Prop:=g x (lH js σ) H fun σ2 H4=>tt σ2 H4 fun b H5=>
   if b=true then te σ2 H5 fun v H6=>∃ ys,H6 acc=some (.lst ys)/\ys.length < sizeLine/\N (upd H6 acc (.lst (ys++[v]))) else N H5
def G8 (js:List (Option Nat)) (wi:TI) (g:TG) (tt:TT) (te:TE):TE:=fun σ H Q=>wi σ H fun J H1=>∀ acc,H1 acc=none->
 ∃ W:Nat->Nat->Hp->Prop,(∃ m,W 0 m (upd H1 acc (.lst [])))/\∀ i m H2,W i m H2->
  (J.stop i H2/\Q (.ref acc) H2)\/(J.go i H2/\∃ N:Hp->Prop,(∀ H',N H'->∃ m',m' < m/\W (i+1) m' H')/\∀ x H3,J.yld i H2 x H3->OB js g tt te σ acc x H3 N)
section
variable {X:Cx} {elt iter tg:Expr} {ifs:List Expr} {sc:Scope} {pos:Pos} {os:Scope} {oN N:List Str} {js:List (Option Nat)} {wi:TI} {g:TG} {tt:TT} {te:TE}
structure Off (X:Cx) (pins:List (Addr×Obj)) (H:Hp) (C:Addr) (s:Shared):Prop where
 ns:∃ m,s.heap.Ns C m
 none:H C=none
 loc:C≠X.env.locals
 new:X.s₀.heap.objs.size<=C
 cells:∀ x c,X.env.cells.lookup x=some c->c≠C
 pins:∀ p∈X.pn++pins,p.1≠C
theorem Off.go {pins:List (Addr×Obj)} {σ:St} {H:Hp} {C:Addr} {s:Shared} {h':Heap} (o:Off X pins H C s) (I:Inv X pins σ H s) (hs:Heap.SameBut C s.heap h'):Inv X pins σ H { s with heap:=h' }:=
 I.turned (t':=s.toks) (fun b ob hb e=>(hs.2 b hb).trans e) o.none o.loc (.inr o.new) o.cells o.pins
theorem AI {use:Option (Value->Sem Unit)} {Q0:Value->Shared->Prop} (hc:X.calm=true) (hes:X.env.scope=os) (heN:X.N=oN) (ok:pQ os oN sc N js=true) (hi:PI X tg iter wi)
  (hg:∀ C fp s₀ H₀,PG (X.comp sc N C fp s₀ H₀) tg g) (ht:∀ C fp s₀ H₀,PTs (X.comp sc N C fp s₀ H₀) ifs tt) (he:∀ C fp s₀ H₀,PE (X.comp sc N C fp s₀ H₀) elt te)
  {pins:List (Addr×Obj)} {s:Shared} {σ:St} {H:Hp} {Q:VK} (I:Inv X pins σ H s) (h:G8 js wi g tt te σ H Q)
  (hfin:∀ acc C s6 H6,Inv X pins σ H6 s6->Off X pins H6 C s6->Q (.ref acc) H6->compPost (model X.prog X.w) X.A X.xe use Q0 (.ref acc) C (.ok .next) s6)
  (hs:∀ x,foldedSetIterable iter X.env x=pure x:=by intro _; rfl):
  wpAny (model X.prog X.w) X.A (comprehension (.ListComp elt [⟨tg,iter,ifs,0⟩] sc pos) sc X.env (firstIterPos [⟨tg,iter,ifs,0⟩] pos) (newList []) false (eval iter X.env) use) Q0 X.xe s:=by
 have S:=Ho ok
 subst hes heN
 have hcl:∀ y∈sc.names,y.2=NameKind.free->∃ c,X.env.cells.lookup y.1=some c:=fun y hy e=>I.ok.has y.1 (S.fr y hy e)
 have clsub:∀ x c,(mY X.env.cells sc.names []).lookup x=some c->X.env.cells.lookup x=some c:=fun x c e=>by
  rcases uR _ _ e with z | ⟨y,hy,e1,e2,e3⟩
  ·cases z
  ·obtain ⟨d,hd⟩:=hcl y hy e2
   rw [e1] at hd
   rw [hd] at e3
   rw [hd,e3]; rfl
 refine wpAny_comprehension_free (use:=use) rfl hs (zX hcl) S.kind S.nm (thn (hi pins s σ H _ I h) fun v s1 h1=>thn h1 fun itv s2 h2=>?_)
 obtain ⟨it,fp,tn,J,H2,e,I2,T,st2,f2,q⟩:=h2
 subst e
 obtain ⟨W,⟨m0,w0⟩,turn⟩:=q s2.heap.objs.size I2.fresh
 refine wpAny_newObj_type (wpAny_newFunctionEnv S.nocell (by intro y hy; simp at hy) (fun h₁ hns₁ hsb₁=>?_) S.kind)
 have I3:Inv X pins σ (upd H2 s2.heap.objs.size (.lst [])) { s2 with heap:=s2.heap.push { cls:=.type "list",data:=.seq ([]:List Value).toArray },toks:=s2.toks }:=I2.lnew (its:=[]) (ys:=[]) .nil (Nat.zero_le _)
 generalize hH3:upd H2 s2.heap.objs.size (HO.lst [])=H3 at w0 I3
 generalize hs3:({ s2 with heap:=s2.heap.push { cls:=.type "list",data:=.seq ([]:List Value).toArray },toks:=s2.toks }:Shared)=s3 at I3
 have es3:({ s2 with heap:=s2.heap.push { cls:=.type "list",dict:=none,data:=.seq ([]:List Value).toArray } }:Shared)=s3:=hs3
 have eh3:s2.heap.push { cls:=.type "list",dict:=none,data:=.seq ([]:List Value).toArray }=s3.heap:=by rw [<- es3]
 dsimp only at hns₁ hsb₁ ⊢
 (try rw [eh3] at hns₁); (try rw [eh3] at hsb₁); (try rw [eh3])
 have hC:∀ b o,s3.heap.get? b=some o->b≠s3.heap.objs.size:=fun b o e=>Nat.ne_of_lt (Heap.lt_size e)
 have old:∀ b o,s3.heap.get? b=some o->h₁.get? b=some o:=fun b o e=>hsb₁.extBut b o (hC b o e) (Heap.get?_push_of_some _ e)
 have st3:tn 0 s3.heap:=T.keep 0 _ _ st2 fun b hb o e=>by
  rw [<- eh3]; exact Heap.get?_push_of_some _ e
 have fobj:∀ b∈fp,∃ o,s3.heap.get? b=some o/\∀ v,o.data≠.cell v:=T.obj 0 _ st3
 have f3:∀ b∈fp,CS X pins H3 b:=fun b hb=>by
  obtain ⟨o,ho,_⟩:=T.obj 0 _ st2 b hb
  refine ⟨?_,(f2 b hb).2⟩
  rw [<- hH3,aX (Nat.ne_of_lt (Heap.lt_size ho))]
  exact (f2 b hb).1
 -- the block's context
 have Xok:(X.comp sc N s3.heap.objs.size fp s3 H3).Ok:=by
  refine ⟨I.ok.mod,S.kind,I.ok.glob,I.ok.blt,Nat.le_refl _,fun x y c e1 e2=>I.ok.inj x y c (clsub x c e1) (clsub y c e2),fun x hx=>?_,fun _ _ z=>absurd z Bool.false_ne_true,I.ok.hd,I.ok.frames,.inl rfl,fun b hb=>?_,I3.bs,
   Nat.le_trans I.ok.bsz I3.sz,fun b o e hb=>?_,fun b hb hf=>?_,I3.stack,I3.stkFree⟩
  ·refine wQ _ _ (.inr ?_)
   have fin:∀ {k},(relabel sc X.env).names.lookup x=some k->(k=.cell\/k=.free)->∃ y∈sc.names,y.1=x/\y.2=NameKind.free:=fun {k} e hk=>by
    rcases mZ (sc:=sc) e with z | ⟨_,z⟩
    ·rcases hk with rfl | rfl
     ·exact absurd rfl (S.nocell _ (cZ z))
     ·exact ⟨_,cZ z,rfl,rfl⟩
    ·exact ⟨_,cZ z,rfl,rfl⟩
   rcases hx with hx | hx
   ·exact fin hx (.inl rfl)
   ·exact fin hx (.inr rfl)
  ·obtain ⟨o,ho,_⟩:=fobj b hb
   exact ⟨hC b o ho,fun x c e=>(f3 b hb).2.2.2.2.1 x c (clsub x c e)⟩
  ·rcases (f3 b hb).2.2.2.1 with z | z
   ·exact I.ok.noex b o e z
   ·exact absurd (Nat.lt_of_lt_of_le (Heap.lt_size e) (Nat.le_trans I.ok.bsz z)) (Nat.lt_irrefl _)
  ·rcases List.mem_cons.mp (I3.stkSub b hf) with z | z
   ·exact (f3 b hb).2.1 z
   ·exact (f3 b hb).2.2.1 z
 -- what the block takes from around it
 have capt:∀ (i:Nat) (x:Str) (v:V),N[i]?=some x->(lH js σ)[i]?=some (some v)->∃ u c o,RelV v u/\((compEnvC sc (mY X.env.cells sc.names []) s3.heap.objs.size X.env).kindOf x=some .cell\/(compEnvC sc (mY X.env.cells sc.names []) s3.heap.objs.size X.env).kindOf x=some .free)/\
   (mY X.env.cells sc.names []).lookup x=some c/\s3.heap.get? c=some o/\o.data=.cell (some u)/\H3 c=none/\c∉fp:=by
  intro i x v hN hv
  obtain ⟨j,hj,hσ⟩:=MQ hv
  obtain ⟨x',hx',ho,hf⟩:=S.cap i j hj
  rw [hN] at hx'; cases hx'
  obtain ⟨m,hn,hl⟩:=I3.loc
  have hvis:Vis X.env.scope x:=by
   rcases S.fr _ (cZ hf) rfl with z | z
   ·exact .inr (.inl z)
   ·exact .inr (.inr z)
  obtain ⟨u,r,l⟩:=hl j x v ho hσ hvis
  obtain ⟨c,hcl'⟩:=wQ (cells:=X.env.cells) (x:=x) sc.names [] (.inr ⟨_,cZ hf,rfl,rfl⟩)
  have hcx:=clsub x c hcl'
  have hcell:s3.heap.IsCell c (some u):=by
   rcases l with ⟨k,_⟩ | ⟨_,c',e,z⟩
   ·exfalso
    rcases S.fr _ (cZ hf) rfl with z | z
    ·have k':X.env.scope.names.lookup x=some .local:=k
     rw [z] at k'; cases k'
    ·have k':X.env.scope.names.lookup x=some .local:=k
     rw [z] at k'; cases k'
   ·rw [hcx] at e; cases e; exact z
  obtain ⟨o,ho',hd⟩:=hcell
  refine ⟨u,c,o,r,?_,hcl',ho',hd,I3.freeC x c hcx,fun hb=>(f3 c hb).2.2.2.2.1 x c hcx rfl⟩
  exact (qS (env:=X.env) hf).symm
 -- at any state of the block,its names as at its start
 have recap:∀ {pins':List (Addr×Obj)} {σ8:St} {H8:Hp} {s8:Shared},Inv (X.comp sc N s3.heap.objs.size fp s3 H3) pins' σ8 H8 s8->Inv (X.comp sc N s3.heap.objs.size fp s3 H3) [] (lH js σ) H8 s8:=fun {pins' σ8 H8 s8} I8=>by
  refine ⟨I8.ok,I8.os,I8.bare,I8.base,?_,I8.cell,I8.free,I8.freeC,fun p hp=>by simp [Cx.comp] at hp,I8.hok,?_⟩
  ·obtain ⟨m,hn,_⟩:=I8.loc
   refine ⟨m,hn,fun i x v hN hv _=>?_⟩
   obtain ⟨u,c,o,r,k,hl,ho,hd,hn3,hnf⟩:=capt i x v hN hv
   refine ⟨u,r,.inr ⟨k,c,hl,?_⟩⟩
   obtain ⟨sl,e⟩:=I8.base.any ho hn3 hnf
   exact ⟨_,e,hd⟩
  ·show (lH js σ).length=N.length
   unfold lH
   rw [List.length_map,S.len]
 have I4:Inv (X.comp sc N s3.heap.objs.size fp s3 H3) [] (lH js σ) H3 { s3 with heap:=h₁,toks:=s3.toks+([]:List (Str×Value)).length }:=by
  refine ⟨Xok,rfl,I3.bare,Un.kept old,⟨_,hns₁,fun i x v hN hv _=>?_⟩,fun x c e=>?_,I3.fresh,fun x c e=>I3.freeC x c (clsub x c e),fun p hp=>by simp [Cx.comp] at hp,I3.hok.kept old,?_⟩
  ·obtain ⟨u,c,o,r,k,hl,ho,hd,_,_⟩:=capt i x v hN hv
   exact ⟨u,r,.inr ⟨k,c,hl,o,old c o ho,hd⟩⟩
  ·obtain ⟨v,o,ho,hd⟩:=I3.cell x c (clsub x c e)
   exact ⟨v,o,old c o ho,hd⟩
  ·show (lH js σ).length=N.length
   unfold lH
   rw [List.length_map,S.len]
 have st4:tn 0 h₁:=T.keep 0 _ _ st3 fun b hb o e=>old b o e
 have fpok:∀ {H':Hp},(∀ b∈fp,H' b=none)->∀ b∈fp,CS (X.comp sc N s3.heap.objs.size fp s3 H3) [] H' b:=fun {H'} hn b hb=>
  ⟨hn b hb,(Xok.exf b hb).1,Xok.exfs b hb,.inl hb,(Xok.exf b hb).2,fun p hp=>by simp [Cx.comp] at hp⟩
 have fin:∀ (s6:Shared) (H6:Hp),Inv (X.comp sc N s3.heap.objs.size fp s3 H3) [] (lH js σ) H6 s6->Q (.ref s2.heap.objs.size) H6->compPost (model X.prog X.w) X.A X.xe use Q0 (.ref s2.heap.objs.size) s3.heap.objs.size (.ok .next) s6:=fun s6 H6 I6 q6=>by
  have I7:Inv X pins σ H6 s6:=I3.call' (ch:=fp) I6.os I6.base I6.hok I6.bare fun b hb=>⟨(f3 b hb).2.2.2.1,(f3 b hb).2.1,(f3 b hb).2.2.2.2.1,(f3 b hb).2.2.2.2.2⟩
  refine hfin _ _ _ _ I7 ⟨let ⟨m,hn,_⟩:=I6.loc; ⟨m,hn⟩,I6.free,Nat.ne_of_gt I3.lt,I3.sz,fun x c e=>?_,fun p hp=>?_⟩ q6
  ·obtain ⟨v,z⟩:=I3.cell x c e
   exact Nat.ne_of_lt z.lt
  ·exact Nat.ne_of_lt (Heap.lt_size (I3.pin p hp).1)
 have loop:codeAny (model X.prog X.w) X.A (.compLoop (.ListComp elt [⟨tg,iter,ifs,0⟩] sc pos) 0 (.ref it) (.ref s2.heap.objs.size) (compEnvC sc (mY X.env.cells sc.names []) s3.heap.objs.size X.env))
   (compPost (model X.prog X.w) X.A X.xe use Q0 (.ref s2.heap.objs.size) s3.heap.objs.size) { s3 with heap:=h₁,toks:=s3.toks+([]:List (Str×Value)).length }:=by
  refine BA (fun n s'=>∃ i H',Inv (X.comp sc N s3.heap.objs.size fp s3 H3) [] (lH js σ) H' s'/\tn i s'.heap/\(∀ b∈fp,H' b=none)/\W i n H') ?_ m0 ⟨0,H3,I4,st4,fun b hb=>(f3 b hb).1,w0⟩
  rintro n s5 ⟨i,H5,I5,st5,fr5,w5⟩
  rcases turn i n H5 w5 with ⟨stop,qn⟩ | ⟨go,Nn,hN,step⟩
  ·refine thn (T.done (X.comp sc N s3.heap.objs.size fp s3 H3) rfl rfl rfl hc i [] s5 (lH js σ) H5 (fun _ _=>False) I5 (fpok fr5) st5 stop) fun r s6 ⟨hr,I6⟩=>?_
   subst hr
   exact fin s6 H5 I6 qn
  ·refine thn (T.item (X.comp sc N s3.heap.objs.size fp s3 H3) rfl rfl rfl hc i [] s5 (lH js σ) H5 (fun _ _=>False) I5 (fpok fr5) st5 go) fun r s6 ⟨u,hr,h6⟩=>?_
   subst hr
   refine thn h6 fun _ s7 hz=>?_
   obtain ⟨x,H7,I7,r7,y7,st7,fr7⟩:=hz
   have I7':=I7.pinned (fpok fr7) (T.obj _ _ st7)
   refine thn (hg _ _ _ _ _ s7 _ H7 x u _ I7' r7 (step x H7 y7)) fun _ s8 ⟨σ8,H8,I8,q8⟩=>?_
   refine thn (ht _ _ _ _ _ s8 σ8 H8 _ I8 q8) fun b s9 ⟨H9,I9,q9⟩=>?_
   have again:∀ {σ':St} {H':Hp} {s':Shared},Inv (X.comp sc N s3.heap.objs.size fp s3 H3) ([]++wG fp s7.heap) σ' H' s'->Nn H'->∃ m,m < n/\∃ i H',Inv (X.comp sc N s3.heap.objs.size fp s3 H3) [] (lH js σ) H' s'/\tn i s'.heap/\(∀ b∈fp,H' b=none)/\W i m H':=fun {σ' H' s'} I' n'=>by
    obtain ⟨m',hm,w'⟩:=hN H' n'
    refine ⟨m',hm,i+1,H',recap I',T.keep _ _ _ st7 fun b hb o e=>(I'.pin (b,o) (List.mem_append_right _ (List.mem_append_right _ (kZ hb e)))).1,fun b hb=>?_,w'⟩
    obtain ⟨o,e,d⟩:=T.obj _ _ st7 b hb
    exact (I'.pin (b,o) (List.mem_append_right _ (List.mem_append_right _ (kZ hb e)))).2.1
   cases b with
   | false=>exact again I9 q9
   | true=>
    refine thn (he _ _ _ _ _ s9 σ8 H9 _ I9 q9) fun u' s10 ⟨v,H10,I10,rv,ys,hacc,hz,n10⟩=>?_
    refine thn (AF (X:=X.comp sc N s3.heap.objs.size fp s3 H3) _ s10 σ8 H10 (.ref s2.heap.objs.size) [v] (.ref s2.heap.objs.size) [u'] (fun _ H'=>Nn H') I10 rfl (.cons rv .nil) ⟨_,ys,v,rfl,rfl,hacc,hz,n10⟩) fun _ s11 ⟨_,H11,I11,_,n11⟩=>?_
    exact again I11 n11
 exact codeAny_compStart_list loop (T.self X.A 0 _ _ _ st4 loop)
theorem MT (hc:X.calm=true) (hes:X.env.scope=os) (heN:X.N=oN) (ok:pQ os oN sc N js=true) (hi:PI X tg iter wi)
  (hg:∀ C fp s₀ H₀,PG (X.comp sc N C fp s₀ H₀) tg g) (ht:∀ C fp s₀ H₀,PTs (X.comp sc N C fp s₀ H₀) ifs tt) (he:∀ C fp s₀ H₀,PE (X.comp sc N C fp s₀ H₀) elt te)
  (hs:∀ x,foldedSetIterable iter X.env x=pure x:=by intro _; rfl):PE X (.ListComp elt [⟨tg,iter,ifs,0⟩] sc pos) (G8 js wi g tt te):=by
 intro pins s σ H Q I h
 rw [eval_ListComp]
 refine AI (use:=none) hc hes heN ok hi hg ht he I h (fun acc C s6 H6 I6 o q=>?_) hs
 exact ⟨o.ns.choose,o.ns.choose_spec,fun h' hs'=>⟨.ref acc,H6,o.go I6 hs',rfl,q⟩⟩
theorem ET {i:Nat} {x:Str} {pos' spos:Pos} (hN:X.N.Nodup) (hx':X.N[i]?=some x) (hloc:X.env.scope.names.lookup x=some .local) (hc:X.calm=true) (hes:X.env.scope=os) (heN:X.N=oN) (ok:pQ os oN sc N js=true) (hi:PI X tg iter wi)
  (hg:∀ C fp s₀ H₀,PG (X.comp sc N C fp s₀ H₀) tg g) (ht:∀ C fp s₀ H₀,PTs (X.comp sc N C fp s₀ H₀) ifs tt) (he:∀ C fp s₀ H₀,PE (X.comp sc N C fp s₀ H₀) elt te)
  (hsw:swapsWith (.ListComp elt [⟨tg,iter,ifs,0⟩] sc pos) (some (.Name x pos')) spos.line X.env=pure true:=by rfl)
  (hs:∀ x,foldedSetIterable iter X.env x=pure x:=by intro _; rfl):PS X (.Assign [.Name x pos'] (.ListComp elt [⟨tg,iter,ifs,0⟩] sc pos) spos) (P3 (G8 js wi g tt te) (Ja i)):=by
 intro pins s σ H D I h
 rw [exec_Assign_Name_used _ _ _ _ hsw]
 refine wpAny_bind (wpAny_standAt (wpAny_bind ?_))
 show wpAny _ X.A (do let _ <- comprehension (.ListComp elt [⟨tg,iter,ifs,0⟩] sc pos) sc X.env _ (newList []) false (eval iter X.env) (some (assign (.Name x pos') X.env))) _ _ s
 refine wpAny_bind (thn (AI (use:=some (assign (.Name x pos') X.env)) (Q0:=fun _ s'=>SP X pins D .next s') hc hes heN ok hi hg ht he I h (fun acc C s6 H6 I6 o q=>?_) hs) fun _ s' hq=>wpAny_pure (wpAny_pure hq))
 show wpAny _ X.A (assign (.Name x pos') X.env (.ref acc)) _ _ _
 refine wpAny_assign_Name (Ay I6 hN hx' (.inl hloc) (v:=.ref acc) rfl (fun s7 I7 ⟨a,hs7,ha⟩=>?_) (.inr hloc))
 have hCa:C≠a:=by
  rcases ha with rfl | ha
  ·exact o.loc
  ·exact fun e=>o.cells x a ha e.symm
 obtain ⟨m,hn⟩:=o.ns
 have o7:Off X pins H6 C s7:=⟨⟨m,hn.sameBut hs7 hCa⟩,o.none,o.loc,o.new,o.cells,o.pins⟩
 exact ⟨m,hn.sameBut hs7 hCa,fun h' hs'=>⟨_,H6,o7.go I7 hs',q⟩⟩
end
section
variable {K:PySem.W.Frag} {js:List (Option Nat)} {g:TG} {tt:TT} {te:TE} {σ:St} {H:Hp} {R:Hp->Prop} {acc a:Addr}
end
end L2
set_option Elab.async false
set_option linter.all false
set_option maxRecDepth 100000
namespace L2
open PySem PySem.Spec PyProof.Rows
section
variable {X:Cx}
def Rt:V->Option Int->Option Int->Hp->VK->Prop:=fun x lo hi H Q=>∃ z,x=.str z/\z.length<=sizeLine/\Q (.str (Txt.slice z lo hi)) H
theorem part_of {v:Value} {o:Option Int} (h:IsPart v o):∃ p:Option (Int×Tok),v=partValue p/\p.map (·.1)=o:=by
 cases h with
 | none=>exact ⟨none,rfl,rfl⟩
 | int i t=>exact ⟨some (i,t),rfl,rfl⟩
theorem Pr:SlR X Rt:=by
 intro pins s σ H x v vl vu lo hi sl Q I rx hs pl pu h
 obtain ⟨z,rfl,hz,q⟩:=h
 obtain ⟨t,rfl⟩:=rx
 obtain ⟨l,rfl,rfl⟩:=part_of pl
 obtain ⟨u,rfl,rfl⟩:=part_of pu
 obtain ⟨o,ho,hc,hd⟩:=hs
 refine ⟨"str",_,PySem.F.slot_str_getitem.lookup,typeIs_str s z t,?_⟩
 refine wpAny_getItem_str_slice (l:=l) (u:=u) (st:=none) ⟨o,ho,hc,hd⟩ rfl ?_
 have e:sliceMade z t l u none=if ((1:Int) == 1 && (Builtin.Str.strSliceIndices (l.map (·.1)) (u.map (·.1)) 1 z.length).length == z.length)=true then Made.val (.str z t) else Made.str ⟨((Builtin.Str.strSliceIndices (l.map (·.1)) (u.map (·.1)) 1 z.length).filterMap (z.cps[·]?)).toArray⟩:=rfl
 have hle:=Txt.slice_le z (l.map (·.1)) (u.map (·.1))
 unfold Txt.slice at q hle
 rw [e]
 by_cases hc':((1:Int) == 1 && (Builtin.Str.strSliceIndices (l.map (·.1)) (u.map (·.1)) 1 z.length).length == z.length)=true
 ·rw [if_pos hc'] at q ⊢
  exact ⟨.str z,H,I,⟨t,rfl⟩,q⟩
 ·rw [if_neg hc'] at q hle ⊢
  exact ⟨Nat.le_trans hle hz,.str _,H,I.tok _,⟨_,rfl⟩,q⟩
theorem pR:∀ {ss:List Str} {us:List Value},aP (ss.map V.str) us->StrsAre us ss
 | [],_,r=>by cases r; exact .nil
 | x :: ss,_,r=>by
  cases r with
  | cons h t=>
   obtain ⟨tk,rfl⟩:=h
   exact .cons x tk (pR t)
theorem AJ:∀ {us:List Value} {ss:List Str},StrsAre us ss->aP (ss.map V.str) us
 | _,_,.nil=>.nil
 | _,_,.cons x t h=>.cons ⟨t,rfl⟩ (AJ h)
theorem tL:bT X (.builtin "sorted") (fun xs H Q=>∃ p ss,xs=[.ref p]/\SqL X.K H p (ss.map V.str)/\ss.length < 64/\
  ∀ l ss',H l=none->ss'.Perm ss->sortedS ss'=true->Q (.ref l) (upd H l (.lst (ss'.map V.str)))):=by
 intro pins s σ H xs us Q I r h
 obtain ⟨p,ss,rfl,hq,h64,q⟩:=h
 obtain ⟨u,rfl,ru⟩:=vals1 r
 cases ru
 obtain ⟨its,rv,pl,hz⟩:=I.list hq
 have hlen:=rv.length
 rw [List.length_map] at hlen
 refine sorted_strs pl.isList (pR rv) (by omega) fun out ss' a1 a2 a3=>?_
 obtain ⟨e,he⟩:=sortedAll_at s.heap its out
 refine ⟨.ref (s.heap.objs.size+1),_,I.laid (t':=s.toks) (o:=.lst (ss'.map V.str)) (fun b ob h=>sortedAll_old h) (Nat.le_succ _) ?_,rfl,q _ ss' (I.hok.fresh (Nat.le_succ _)) a2 a3⟩
 refine ⟨?_,out.toList,e,AJ a1,by rw [he]⟩
 rw [List.length_map,a2.length_eq]
 exact Nat.le_of_lt (Nat.lt_trans h64 (by decide))
theorem gT {es:List Expr} {k:Nat} {t:TGs} {n:Nat} {pos:Pos} (K:PySem.W.Frag) (hK:X.K=K) (hc:X.calm=true) (h:PGs X es t)
  (hn:(assignEach es X.env).length=n:=by rfl) (hst:(assignEach es X.env).findIdx? (·.1)=none:=by rfl):PG X (.Tuple es k pos) (R9 K n t):=by subst hK; exact P2 hc h hn hst
end
end L2
set_option Elab.async false
set_option linter.all false
set_option maxRecDepth 100000
namespace L2
open PySem PySem.Spec PyProof.Rows
section
variable {X:Cx} {e a b:Expr} {t t' ta tb:TE} {pos:Pos}
theorem PE.imp (h:PE X e t) (i:∀ σ H Q,t' σ H Q->t σ H Q):PE X e t':=fun pins s σ H Q I q=>h pins s σ H Q I (i σ H Q q)
theorem PT.imp {t t':TT} (h:PT X e t) (i:∀ σ H Q,t' σ H Q->t σ H Q):PT X e t':=fun pins s σ H Q I q=>h pins s σ H Q I (i σ H Q q)
theorem OpR.imp {f:Value->Value->Sem Value} {r r':R2} (h:OpR X f r) (i:∀ x y H Q,r' x y H Q->r x y H Q):OpR X f r':=fun pins s σ H x y v u Q I rx ry q=>h pins s σ H x y v u Q I rx ry (i x y H Q q)
theorem bT.imp {f:Value} {r r':List V->Hp->VK->Prop} (h:bT X f r) (i:∀ xs H Q,r' xs H Q->r xs H Q):bT X f r':=fun pins s σ H xs us Q I rx q=>h pins s σ H xs us Q I rx (i xs H Q q)
def Ru (K:PySem.W.Frag):R2:=fun x y H Q=>match x,y with
 | .int i,.int j=>Q (.int (i+j)) H
 | .str i,.str j=>i.length+j.length<=sizeLine/\Q (.str (i++j)) H
 | .ref _,.ref _=>Rn x y H Q\/Oz K x y H Q
 | _,_=>False
theorem MU (K:PySem.W.Frag) (hK:X.K=K):OpR X (binaryOp .Add) (Ru K):=by
 subst hK
 refine (P8.or (EE.or (Pn.or ML))).imp fun x y H Q h=>?_
 cases x <;> cases y <;> first
  | exact .inl ⟨_,_,rfl,rfl,h⟩
  | exact .inr (.inl ⟨_,_,rfl,rfl,h.1,h.2⟩)
  | exact .inr (.inr h)
  | exact h.elim
def AK (C:Int->Int->Prop) (f:Int->Int->Int):R2:=fun x y H Q=>match x,y with
 | .int i,.int j=>C i j/\Q (.int (f i j)) H
 | _,_=>False
def JB (f:Int->Int->Int):R2:=fun x y H Q=>match x,y with
 | .int i,.int j=>Q (.int (f i j)) H
 | _,_=>False
theorem vO {f:Value->Value->Sem Value} {C:Int->Int->Prop} {g:Int->Int->Int} (h:OpR X f (rI C fun i j=>.int (g i j))):OpR X f (AK C g):=
 h.imp fun x y H Q q=>by cases x <;> cases y <;> first | exact ⟨_,_,rfl,rfl,q.1,q.2⟩ | exact q.elim
theorem JC {f:Value->Value->Sem Value} {g:Int->Int->Int} (h:OpR X f (rI0 fun i j=>.int (g i j))):OpR X f (JB g):=
 h.imp fun x y H Q q=>by cases x <;> cases y <;> first | exact ⟨_,_,rfl,rfl,q⟩ | exact q.elim
theorem MV:OpR X (binaryOp .Sub) (JB fun i j=>i - j):=JC P9
theorem MW:OpR X (binaryOp .Mult) (AK CT fun i j=>i*j):=vO P'
theorem MX:OpR X (binaryOp .FloorDiv) (AK Je fun i j=>i / j):=vO MB
theorem MY:OpR X (binaryOp .Mod) (AK (fun _ j=>0 < j) fun i j=>i % j):=vO Pa
theorem MZ:OpR X (binaryOp .Pow) (AK Hb fun i j=>i ^ j.toNat):=vO Pb
def AL (f:Int->Int->Bool) (g:List Nat->List Nat->Bool):R2:=fun x y H Q=>match x,y with
 | .int i,.int j=>Q (.bl (f i j)) H
 | .str i,.str j=>Q (.bl (g i.cps.toList j.cps.toList)) H
 | _,_=>False
theorem vP {f:Value->Value->Sem Value} {p:Int->Int->Bool} {g:List Nat->List Nat->Bool} (h1:OpR X f (rI0 fun i j=>.bl (p i j)))
  (h2:OpR X f (fun x y H Q=>∃ i j,x=.str i/\y=.str j/\Q (.bl (g i.cps.toList j.cps.toList)) H)):OpR X f (AL p g):=
 (h1.or h2).imp fun x y H Q q=>by cases x <;> cases y <;> first | exact .inl ⟨_,_,rfl,rfl,q⟩ | exact .inr ⟨_,_,rfl,rfl,q⟩ | exact q.elim
theorem Pt:OpR X (compareOp .Lt) (AL (fun i j=>decide (i < j)) fun i j=>decide (i < j)):=vP Rb Hc
theorem Pu:OpR X (compareOp .Gt) (AL (fun i j=>decide (j < i)) fun i j=>decide (j < i)):=vP Re fun pins s σ H x y v u Q I rx ry h=>by
 obtain ⟨i,j,rfl,rfl,q⟩:=h
 obtain ⟨t,rfl⟩:=rx
 obtain ⟨t',rfl⟩:=ry
 exact PySem.P.gt_str (Bq I q rfl)
theorem Pv:OpR X (compareOp .LtE) (AL (fun i j=>decide (i<=j)) fun i j=>!decide (j < i)):=vP Rc fun pins s σ H x y v u Q I rx ry h=>by
 obtain ⟨i,j,rfl,rfl,q⟩:=h
 obtain ⟨t,rfl⟩:=rx
 obtain ⟨t',rfl⟩:=ry
 exact PySem.P.le_str (Bq I q rfl)
theorem Pw:OpR X (compareOp .GtE) (AL (fun i j=>decide (j<=i)) fun i j=>!decide (i < j)):=vP Rf fun pins s σ H x y v u Q I rx ry h=>by
 obtain ⟨i,j,rfl,rfl,q⟩:=h
 obtain ⟨t,rfl⟩:=rx
 obtain ⟨t',rfl⟩:=ry
 exact PySem.P.ge_str (Bq I q rfl)
end
structure UO (t:TE):Prop where
 go:∀ σ H (Q Q':VK),(∀ v H1,Q v H1->Q' v H1)->t σ H Q->t σ H Q'
section
variable {X:Cx} {e a b:Expr} {t t' ta tb:TE} {pos:Pos}
theorem OC {x:V} {Q:Bool->Prop} (h:match x with | .bl c=>Q c | _=>False):∃ c,x=.bl c/\Q c:=by
 cases x <;> first | exact ⟨_,rfl,h⟩ | exact h.elim
def TU (ta tb:TE):TE:=fun σ H Q=>ta σ H fun x H1=>match x with
 | .bl c=>if c=true then tb σ H1 Q else Q (.bl false) H1
 | _=>False
def TV (ta:TE):TE:=fun σ H Q=>ta σ H fun x H1=>match x with
 | .bl c=>Q (.bl (!c)) H1
 | _=>False
theorem N0 {rest:List Expr} (ha:PE X a ta) (hb:PE X (.BoolOp .And (b :: rest) pos) tb):PE X (.BoolOp .And (a :: b :: rest) pos) (TU ta tb):=by
 intro pins s σ H Q I h
 refine BoolOp_and (thn (ha pins s σ H _ I h) fun v s1 hz=>?_)
 obtain ⟨x,H1,I1,r1,q1⟩:=hz
 obtain ⟨c,rfl,q1⟩:=OC q1
 cases r1
 refine wpAny_truthy_bool ?_
 cases c with
 | true=>exact hb pins s1 σ H1 Q I1 q1
 | false=>exact ⟨.bl false,H1,I1,rfl,q1⟩
theorem N1 (ha:PE X a ta):PE X (.UnaryOp .Not a pos) (TV ta):=by
 intro pins s σ H Q I h
 refine UnaryOp_ (thn (ha pins s σ H _ I h) fun v s1 hz=>?_)
 obtain ⟨x,H1,I1,r1,q1⟩:=hz
 obtain ⟨c,rfl,q1⟩:=OC q1
 cases r1
 exact not_of (wpAny_truthy_bool ⟨.bl (!c),H1,I1,rfl,q1⟩)
theorem N2 (hu:X.A.units+1 < cLine):IxR X (fun x y H Q=>∃ p v,x=.ref p/\wO H p y (some v)/\Q v H):=by
 intro value slice pins s σ H x y v u Q I rx ry h hs
 obtain ⟨p,w,rfl,g,q⟩:=h
 cases rx
 have hT:=D1 I g
 unfold subscriptTail
 refine wpAny_bind ?_
 rw [getitemInPython_of_ne hT.not_modules]
 refine wpAny_bind (wpAny_specialOf hT PySem.F.slot_dict_getitem.lookup ?_)
 have fin:wpAny (model X.prog X.w) X.A (subscripted slice false (.ref p) u) (fun r s₃=>wpAny (model X.prog X.w) X.A (letTemporaryGo value (.ref p) r >>= fun _=>pure r) (EP X pins σ Q) X.xe s₃) X.xe s:=by
  rw [hs]
  exact wpAny_operating (Hl hu I g ry fun w' s3 I3 rw'=>wpAny_bind (wpAny_letTemporaryGo (wpAny_pure ⟨w,H,I3,rw',q⟩)))
 first
  | exact wpAny_pure (wpAny_bind fin)
  | exact wpAny_bind (wpAny_pure (wpAny_bind fin))
  | exact wpAny_bind fin
def Rv (K:PySem.W.Frag):R2:=fun x y H Q=>match x with
 | .str z=>(match y with
  | .int i=>z.length<=sizeLine/\∃ c,atI z.cps.toList i=some c/\Q (.str ⟨#[c]⟩) H
  | _=>False)
 | .ref p=>(∃ xs i v,y=.int i/\(SqL K H p xs\/SqT K H p xs)/\atI xs i=some v/\Q v H)\/∃ v,wO H p y (some v)/\Q v H
 | _=>False
theorem IxR.imp {r r':R2} (h:IxR X r) (i:∀ x y H Q,r' x y H Q->r x y H Q):IxR X r':=fun a b pins s σ H x y v u Q I rx ry q hs=>h a b pins s σ H x y v u Q I rx ry (i x y H Q q) hs
theorem ixC (hu:X.A.units+1 < cLine) (K:PySem.W.Frag) (hK:X.K=K):IxR X (Rv K):=by
 subst hK
 refine (MM.or (Pj.or (Pk.or (N2 hu)))).imp fun x y H Q h=>?_
 cases x with
 | str z=>
  cases y with
  | int i=>obtain ⟨h1,c,h2,h3⟩:=h; exact .inr (.inr (.inl ⟨z,i,c,rfl,rfl,h1,h2,h3⟩))
  | _=>exact h.elim
 | ref p=>
  rcases h with ⟨xs,i,v,rfl,hs | hs,ha,hq⟩ | ⟨v,g,hq⟩
  ·exact .inl ⟨p,xs,i,v,rfl,rfl,hs,ha,hq⟩
  ·exact .inr (.inl ⟨p,xs,i,v,rfl,rfl,hs,ha,hq⟩)
  ·exact .inr (.inr (.inr ⟨p,v,rfl,g,hq⟩))
 | _=>exact h.elim
theorem Hq (hu:X.A.units+1 < cLine) (K:PySem.W.Frag) (hK:X.K=K):OpR X (compareOp .NotIn) (fun x y H Q=>rIn K true x y H Q\/∃ a o,y=.ref a/\wO H a x o/\Q (.bl (!o.isSome)) H):=by
 subst hK
 refine Bw.or fun pins s σ H x y v u Q I rx ry h=>?_
 obtain ⟨a,o,rfl,g,q⟩:=h
 cases ry
 exact MP hu I g rx fun s' I'=>⟨.bl (!o.isSome),H,I',rfl,q⟩
def Rw (K:PySem.W.Frag):List V->Hp->VK->Prop:=fun xs H Q=>match xs with
 | [.str y]=>y.length<=sizeLine/\Q (.int y.length) H
 | [.ref p]=>(∃ xs,(SqL K H p xs\/SqT K H p xs)/\Q (.int xs.length) H)\/∃ kvs,H p=some (.dK kvs)/\Q (.int kvs.length) H
 | _=>False
theorem Hr (K:PySem.W.Frag) (hK:X.K=K):bT X (.builtin "len") (Rw K):=by
 subst hK
 intro pins s σ H xs us Q I r h
 match xs,h with
 | [.str y],h=>exact Jk pins s σ H _ us Q I r ⟨_,_,rfl,⟨h.1,rfl⟩,h.2⟩
 | [.ref p],h=>
  rcases h with ⟨ys,hs,q⟩ | ⟨kvs,hs,q⟩
  ·exact Bx pins s σ H _ us Q I r ⟨p,ys,rfl,hs,q⟩
  ·exact Hn pins s σ H _ us Q I r ⟨p,kvs,rfl,hs,q⟩
theorem EU (K:PySem.W.Frag) (hK:X.K=K):bT X (.type "list") (fun xs H Q=>∃ p ys,xs=[.ref p]/\(SqL K H p ys\/SqT K H p ys)/\∀ l,H l=none->Q (.ref l) (upd H l (.lst ys))):=by subst hK; exact By
theorem D3 (K:PySem.W.Frag) (hK:X.K=K):bT X (.type "tuple") (fun xs H Q=>∃ p ys,xs=[.ref p]/\((SqL K H p ys/\∀ l,H l=none->Q (.ref l) (upd H l (.tup ys)))\/(SqT K H p ys/\Q (.ref p) H))):=by subst hK; exact zW
def Rx (ta:TA):TI:=fun σ H R=>ta σ H fun vs H1=>match vs with
 | [.int j]=>(-(2 ^ 62)<=j/\j < 2 ^ 62)/\R (Itr 0 j.toNat) H1
 | _=>False
theorem N3 {vs:List V} {Q:Int->Prop} (h:match vs with | [.int i]=>Q i | _=>False):∃ i,vs=[.int i]/\Q i:=by
 split at h
 · exact ⟨_,rfl,h⟩
 · exact h.elim
theorem pr1 {x:Expr} {ta:TA} {tg:Expr} {p pos:Pos} (hg:Gl X "range") (hm:X.mg "range" = none) (ha:PA X [x] ta) (hs:starEach [x] X.env=[(false,eval x X.env)]:=by rfl):PI X tg (.Call (.Name "range" p) [x] [] pos) (Rx ta):=by
 intro pins s σ H R I h
 refine Call_ (Bp I hg hm boot_range (PyProof.Rows.callWith_type1 (thn (ha pos pins s σ H _ I h) fun us s1 hz=>?_) hs rfl))
 obtain ⟨vs,H1,I1,r1,q1⟩:=hz
 obtain ⟨j,rfl,⟨h1,h2⟩,q⟩:=N3 q1
 obtain ⟨u,rfl,t,rfl⟩:=vals1 r1
 exact call_range_1 (Jd I1 (by omega) (by omega) h1 h2 (by simpa using q))
def Ry (t:TE):TO:=fun σ H Q=>t σ H fun x H1=>match x with
 | .int i=>Q (some i) H1
 | _=>False
theorem JD {x:Expr} {te:TE} (h:PE X x te):PO X (some x) (Ry te):=by
 intro pins s σ H Q I hw
 rw [evalPart_some]
 refine thn (h pins s σ H _ I hw) fun u s1 hz=>?_
 obtain ⟨x,H1,I1,r1,q1⟩:=hz
 cases x with
 | int i=>
  obtain ⟨t,rfl⟩:=r1
  exact ⟨some i,H1,I1,.int i t,q1⟩
 | _=>exact q1.elim
end
end L2
namespace L2
open PySem PySem.Spec PyProof.Rows
structure Def (K:PySem.W.Frag) (mg:Str->Option Value) (x:Str) (st:Stmt) (f:Addr) (fd:FuncData) (ps:List Str):Prop where
 fn:Fun K x x st f fd
 mg:mg x=some (.ref f)
 bd:Binds K fd ps []
section
variable {X:Cx}
theorem Rz {x:Str} {st:Stmt} {f:Addr} {fd:FuncData} {ps:List Str} {k:Nat} {sp:Sp} {e:Expr} {es:List Expr} {t:TA} {p pos:Pos} (D:Def X.K X.mg x st f fd ps) (G:aM X.prog X.w X.K X.mg X.base CX0 k f fd ps sp) (hr:fG k X.A) (ha:PA X (e :: es) t)
  (hg:Gl X x:=by rfl) (hdb:(x == ("__debug__" : Str))=false:=by decide) (he:starEach (e :: es) X.env=(false,eval e X.env) :: starEach es X.env:=by rfl) (hpl:(backTo pos (starEach es X.env)).any (·.1)=false:=by rfl):
  PE X (.Call (.Name x p) (e :: es) [] pos) (Oy sp [] E0 t):=MH G hr hg D.mg D.fn.kp D.bd .nil G5 ha hdb he hpl
end
theorem Px {α:Type} {xs:List α} {i:Int} (h0:0<=i) (h1:i < xs.length):∃ v,atI xs i=some v/\xs[i.toNat]?=some v:=by
 have h2:i.toNat < xs.length:=by omega
 refine ⟨xs[i.toNat],?_,by simp [h2]⟩
 unfold atI ixN
 rw [if_pos h0,if_pos h1]
 simp [h2]
theorem pS {α:Type} {xs:List α} {i:Nat} {v:α} (h:xs[i]?=some v):atI xs (i:Int)=some v:=by
 have h1:=(List.getElem?_eq_some_iff.mp h).1
 unfold atI ixN
 rw [if_pos (by omega),if_pos (by omega)]
 simpa using h
theorem ES.upd {H:Hp} {a:Addr} {o:HO} (h:H a=none):ES H (upd H a o):=fun b u e=>by
 rw [aX (cY e h)]; exact e
theorem Def.mk' {K:PySem.W.Frag} {mg:Str->Option Value} {h:Heap} {x:Str} {st:Stmt} {f:Addr} {ps:List Str} {oc:Value} {od an:Option Addr} {osl:Array (Option Value)} {kV doc pm cdv ct:Value} (X:K.In h) (G:h.Ns mainGlobals mg)
  (a:PySem.W.nsIn K mainGlobals x=some (some (.ref f))) (l:K.lookup f=some ⟨oc,od,.func (PySem.W.fnOf x x (aU st) (aR st) (aF st) .none kV doc pm an cdv ct),osl⟩)
  (c:PySem.W.codeIn K cdv x=true) (k:PySem.W.keepIn K (.ref f)=true)
  (b:∀ (kV doc pm:Value) (an:Option Addr) (cdv ct:Value) (us:List Value),us.length=ps.length->bindArgs (PySem.W.fnOf x x (aU st) (aR st) (aF st) .none kV doc pm an cdv ct) ⟨us,[]⟩=pure (ps.zip us)):
  Def K mg x st f (PySem.W.fnOf x x (aU st) (aR st) (aF st) .none kV doc pm an cdv ct) ps:=
 ⟨jO l c k,PySem.W.mg_of X G a,(jO (st:=st) l c k).binds b⟩
end L2
set_option Elab.async false
set_option linter.all false
set_option maxRecDepth 100000
namespace L2
open PySem PySem.Spec PyProof.Rows PySem.SeqAt
inductive D where
 | non | bl (b:Bool) | int (i:Int) | str (x:Str) | tup (xs:List D)
mutual
def D.depth:D->Nat
 | .tup xs=>D.depths xs+1
 | _=>0
def D.depths:List D->Nat
 | []=>0
 | x :: xs=>max (D.depth x) (D.depths xs)
end
theorem D.depths_le:∀ {xs:List D} {i:Nat} {d:D},xs[i]?=some d->d.depth<=D.depths xs
 | [],_,_,h=>by simp at h
 | x :: xs,0,d,h=>by
  have:x=d:=by simpa using h
  subst this
  show x.depth<=max x.depth (D.depths xs)
  omega
 | x :: xs,i+1,d,h=>by
  have:=D.depths_le (xs:=xs) (i:=i) (d:=d) (by simpa using h)
  show d.depth<=max x.depth (D.depths xs)
  omega
mutual
/-- the value x is the datum,in the heap H -/
def Rep (K:PySem.W.Frag) (H:Hp):D->V->Prop
 | .non,v=>v=.non
 | .bl b,v=>v=.bl b
 | .int i,v=>v=.int i
 | .str x,v=>v=.str x
 | .tup ds,v=>∃ a vs,v=.ref a/\SqT K H a vs/\fK K H ds vs
def fK (K:PySem.W.Frag) (H:Hp):List D->List V->Prop
 | [],[]=>True
 | d :: ds,v :: vs=>Rep K H d v/\fK K H ds vs
 | [],_ :: _=>False
 | _ :: _,[]=>False
end
mutual
/-- == -/
def eqD:D->D->Bool
 | .non,.non=>true
 | .bl a,.bl b=>a == b
 | .bl a,.int b=>(if a then 1 else 0) == b
 | .int a,.bl b=>a == (if b then 1 else 0)
 | .int a,.int b=>a == b
 | .str a,.str b=>a == b
 | .tup xs,.tup ys=>eG xs ys
 | _,_=>false
def eG:List D->List D->Bool
 | [],[]=>true
 | x :: xs,y :: ys=>eqD x y && eG xs ys
 | [],_ :: _=>false
 | _ :: _,[]=>false
end
mutual
/-- < (none: an error) -/
def ltD:D->D->Option Bool
 | .int a,.int b=>some (decide (a < b))
 | .str a,.str b=>some (decide (a.cps.toList < b.cps.toList))
 | .tup xs,.tup ys=>jE xs ys
 | _,_=>none
def jE:List D->List D->Option Bool
 | [],[]=>some false
 | [],_ :: _=>some true
 | _ :: _,[]=>some false
 | x :: xs,y :: ys=>if eqD x y=true then jE xs ys else ltD x y
end
mutual
theorem kC:∀ d:D,eqD d d=true
 | .non=>rfl
 | .bl b=>by simp [eqD]
 | .int i=>by simp [eqD]
 | .str x=>by simp [eqD]
 | .tup xs=>by simp only [eqD]; exact AM xs
theorem AM:∀ ds:List D,eG ds ds=true
 | []=>rfl
 | d :: ds=>by simp only [eG,kC d,AM ds,Bool.and_self]
end
def lJ (H H':Hp):Prop:=∀ a xs,Rd H a (.tup xs)->Rd H' a (.tup xs)
theorem lJ.refl (H:Hp):lJ H H:=fun _ _ h=>h
theorem lJ.trans {H H1 H2:Hp} (a:lJ H H1) (b:lJ H1 H2):lJ H H2:=fun c xs h=>b c xs (a c xs h)
theorem lJ.same {H H':Hp} (s:ES H H'):lJ H H':=fun a xs h=>by
 rcases h with h | ⟨o,h⟩
 ·exact .inl (s _ _ h)
 ·exact .inr ⟨o,s _ _ h⟩
def D4:Option HO->Prop
 | some (.tup _)=>False
 | some (.frz _ _)=>False
 | _=>True
theorem lJ.upd {H:Hp} {p:Addr} {o:HO} (h:D4 (H p)):lJ H (upd H p o):=fun a xs q=>by
 have ne:a≠p:=by
  rintro rfl
  rcases q with q | ⟨ob,q⟩
  ·rw [q] at h; exact h
  ·rw [q] at h; exact h
 rcases q with q | ⟨ob,q⟩
 ·exact .inl (by rw [aX ne]; exact q)
 ·exact .inr ⟨ob,by rw [aX ne]; exact q⟩
theorem lJ.sq {K:PySem.W.Frag} {H H':Hp} {a:Addr} {xs:List V} (t:lJ H H') (h:SqT K H a xs):SqT K H' a xs:=by
 rcases h with h | h
 ·exact .inl (t a xs h)
 ·exact .inr h
section
variable {K:PySem.W.Frag} {H H':Hp}
mutual
theorem Rep.tp (t:lJ H H'):∀ {d:D} {v:V},Rep K H d v->Rep K H' d v
 | .non,_,h=>h
 | .bl _,_,h=>h
 | .int _,_,h=>h
 | .str _,_,h=>h
 | .tup ds,_,⟨a,vs,e,q,r⟩=>⟨a,vs,e,t.sq q,fK.tp t r⟩
theorem fK.tp (t:lJ H H'):∀ {ds:List D} {vs:List V},fK K H ds vs->fK K H' ds vs
 | [],[],_=>trivial
 | _ :: _,_ :: _,⟨h,r⟩=>⟨Rep.tp t h,fK.tp t r⟩
 | [],_ :: _,h=>h.elim
 | _ :: _,[],h=>h.elim
end
theorem fK.length:∀ {ds:List D} {vs:List V},fK K H ds vs->ds.length=vs.length
 | [],[],_=>rfl
 | _ :: _,_ :: _,⟨_,r⟩=>by simp [fK.length r]
 | [],_ :: _,h=>h.elim
 | _ :: _,[],h=>h.elim
theorem fK.get:∀ {ds:List D} {vs:List V} {i:Nat} {v:V},fK K H ds vs->vs[i]?=some v->∃ d,ds[i]?=some d/\Rep K H d v
 | [],[],_,_,_,e=>by simp at e
 | d :: _,w :: _,0,v,⟨h,_⟩,e=>by
  have:w=v:=by simpa using e
  subst this
  exact ⟨d,rfl,h⟩
 | _ :: ds,_ :: vs,i+1,v,⟨_,r⟩,e=>by
  obtain ⟨d,h1,h2⟩:=fK.get (ds:=ds) (vs:=vs) (i:=i) (v:=v) r (by simpa using e)
  exact ⟨d,by simpa using h1,h2⟩
 | [],_ :: _,_,_,h,_=>h.elim
 | _ :: _,[],_,_,h,_=>h.elim
theorem fK.at:∀ {ds:List D} {vs:List V} {i:Nat} {d:D},fK K H ds vs->ds[i]?=some d->∃ v,vs[i]?=some v/\Rep K H d v
 | [],[],_,_,_,e=>by simp at e
 | d :: _,w :: _,0,d',⟨h,_⟩,e=>by
  have:d=d':=by simpa using e
  subst this
  exact ⟨w,rfl,h⟩
 | _ :: ds,_ :: vs,i+1,d,⟨_,r⟩,e=>by
  obtain ⟨v,h1,h2⟩:=fK.at (ds:=ds) (vs:=vs) (i:=i) (d:=d) r (by simpa using e)
  exact ⟨v,by simpa using h1,h2⟩
 | [],_ :: _,_,_,h,_=>h.elim
 | _ :: _,[],_,_,h,_=>h.elim
end
section
variable {X:Cx} {pins:List (Addr×Obj)} {σ:St} {H:Hp} {s:Shared}
theorem fL {A:Around} {s:Shared} {v u:Value} {b:Bool} (h:RcAt A s v u b) (hs:v=u->b=true) (hf:∀ f t,v≠.float f t):EqAt A s v u b:=fun prog w E Q hq=>by
 unfold eqBool
 refine wpAny_holding ?_
 refine wpAny_ite_split (fun hab=>?_) (fun _=>?_)
 ·have e:=hs (eq_of_beq hab)
  subst e
  exact wpAny_bind (wpAny_rule (wpAny_pure hq))
 ·cases v <;> first | exact absurd rfl (hf _ _) | exact wpAny_bind (h prog w E _ (wpAny_truthy_bool hq)) | (cases u <;> exact wpAny_bind (h prog w E _ (wpAny_truthy_bool hq)))
theorem AN {K:PySem.W.Frag} {H:Hp} {d:D} {x:V} {v:Value} (h:Rep K H d x) (r:RelV x v):∀ f t,v≠.float f t:=fun f t e=>by
 subst e
 cases d with
 | non=>cases h; cases r
 | bl b=>cases h; cases r
 | int b=>cases h; obtain ⟨_,z⟩:=r; cases z
 | str b=>cases h; obtain ⟨_,z⟩:=r; cases z
 | tup ds=>obtain ⟨_,_,rfl,_⟩:=h; cases r
theorem oO (I:Inv X pins σ H s):∀ (n:Nat) (d e:D) (v:V),d.depth<=n->Rep X.K H d v->Rep X.K H e v->d=e
 | n,.non,e,v,_,h,h'=>by
  cases h
  cases e <;> first | (obtain ⟨_,_,z,_⟩:=h'; exact absurd z (by intro q; cases q)) | rfl | exact absurd h' (by intro z; cases z)
 | n,.bl b,e,v,_,h,h'=>by
  cases h
  cases e <;> first | (obtain ⟨_,_,z,_⟩:=h'; exact absurd z (by intro q; cases q)) | (cases h'; rfl) | exact absurd h' (by intro z; cases z)
 | n,.int i,e,v,_,h,h'=>by
  cases h
  cases e <;> first | (obtain ⟨_,_,z,_⟩:=h'; exact absurd z (by intro q; cases q)) | (cases h'; rfl) | exact absurd h' (by intro z; cases z)
 | n,.str x,e,v,_,h,h'=>by
  cases h
  cases e <;> first | (obtain ⟨_,_,z,_⟩:=h'; exact absurd z (by intro q; cases q)) | (cases h'; rfl) | exact absurd h' (by intro z; cases z)
 | 0,.tup ds,e,v,hd,h,h'=>absurd hd (by show ¬ D.depths ds+1<=0; omega)
 | n+1,.tup ds,e,v,hd,h,h'=>by
  obtain ⟨a,vs,rfl,q,r⟩:=h
  cases e with
  | tup es=>
   obtain ⟨a',vs',ea,q',r'⟩:=h'
   cases ea
   have:=I.tuple_inj q q'
   subst this
   have hd':D.depths ds+1<=n+1:=hd
   have:ds=es:=by
    apply List.ext_getElem?
    intro i
    cases hi:ds[i]? with
    | none=>
     have h1:=r.length
     have h2:=r'.length
     have:ds.length<=i:=List.getElem?_eq_none_iff.mp hi
     exact (List.getElem?_eq_none_iff.mpr (by omega)).symm
    | some d=>
     obtain ⟨v,hv,hr⟩:=r.at hi
     obtain ⟨e,he,hr'⟩:=r'.get hv
     rw [he,oO I n d e v (by have:=D.depths_le hi; omega) hr hr']
   rw [this]
  | _=>cases h'
theorem qT {xs ys:List D}:((List.range (min xs.length ys.length)).all (fun j=>match xs[j]?,ys[j]? with | some x,some y=>eqD x y | _,_=>false) && xs.length == ys.length)=eG xs ys:=by
 induction xs generalizing ys with
 | nil=>
  cases ys with
  | nil=>rfl
  | cons y ys=>simp [eG]
 | cons x xs ih=>
  cases ys with
  | nil=>simp [eG]
  | cons y ys=>
   have:=ih (ys:=ys)
   have e:min (x :: xs).length (y :: ys).length=min xs.length ys.length+1:=by simp only [List.length_cons]; omega
   rw [e,List.range_succ_eq_map,List.all_cons,List.all_map]
   simp only [List.getElem?_cons_zero,Function.comp_def,List.getElem?_cons_succ,List.length_cons,eG]
   rw [<- this]
   have e2:(xs.length+1 == ys.length+1)=(xs.length == ys.length):=by simp
   rw [e2,Bool.and_assoc]
theorem RB (I:Inv X pins σ H s):∀ (n:Nat) (d e:D) (A:Around) (x y:V) (v u:Value),d.depth<=n->A.units+n < cLine->Rep X.K H d x->Rep X.K H e y->RelV x v->RelV y u->RcAt A s v u (eqD d e):=by
 intro n
 induction n with
 | zero=>
  intro d e A x y v u hd hu hx hy rx ry
  cases d with
  | tup ds=>exact absurd hd (by show ¬ D.depths ds+1<=0; omega)
  | non=>
   cases hx; cases rx
   cases e with
   | non=>cases hy; cases ry; exact RcAt.none_none
   | bl b=>cases hy; cases ry; exact RcAt.none_bool b
   | int b=>cases hy; obtain ⟨t,rfl⟩:=ry; exact RcAt.none_int b t
   | str b=>cases hy; obtain ⟨t,rfl⟩:=ry; exact RcAt.none_str b t
   | tup es=>obtain ⟨a,vs,rfl,q,r⟩:=hy; cases ry; obtain ⟨its,_,p,_⟩:=I.tuple q; exact RcAt.none_tuple p (by omega)
  | bl a=>
   cases hx; cases rx
   cases e with
   | non=>cases hy; cases ry; exact RcAt.bool_none a
   | bl b=>cases hy; cases ry; exact RcAt.bool_bool a b
   | int b=>cases hy; obtain ⟨t,rfl⟩:=ry; exact RcAt.bool_int a b t
   | str b=>cases hy; obtain ⟨t,rfl⟩:=ry; exact RcAt.bool_str a b t
   | tup es=>obtain ⟨a',vs,rfl,q,r⟩:=hy; cases ry; obtain ⟨its,_,p,_⟩:=I.tuple q; exact RcAt.bool_tuple a p (by omega)
  | int a=>
   cases hx; obtain ⟨t',rfl⟩:=rx
   cases e with
   | non=>cases hy; cases ry; exact RcAt.int_none a t'
   | bl b=>cases hy; cases ry; exact RcAt.int_bool a t' b
   | int b=>cases hy; obtain ⟨t,rfl⟩:=ry; exact RcAt.int_int a t' b t
   | str b=>cases hy; obtain ⟨t,rfl⟩:=ry; exact RcAt.int_str a t' b t
   | tup es=>obtain ⟨a',vs,rfl,q,r⟩:=hy; cases ry; obtain ⟨its,_,p,_⟩:=I.tuple q; exact RcAt.int_tuple a t' p (by omega)
  | str a=>
   cases hx; obtain ⟨t',rfl⟩:=rx
   cases e with
   | non=>cases hy; cases ry; exact RcAt.str_none a t'
   | bl b=>cases hy; cases ry; exact RcAt.str_bool a t' b
   | int b=>cases hy; obtain ⟨t,rfl⟩:=ry; exact RcAt.str_int a t' b t
   | str b=>cases hy; obtain ⟨t,rfl⟩:=ry; exact RcAt.str_str a t' b t
   | tup es=>obtain ⟨a',vs,rfl,q,r⟩:=hy; cases ry; obtain ⟨its,_,p,_⟩:=I.tuple q; exact RcAt.str_tuple a t' p (by omega)
 | succ n ih=>
  intro d e A x y v u hd hu hx hy rx ry
  by_cases h0:d.depth<=n
  ·exact ih d e A x y v u h0 (by omega) hx hy rx ry
  ·cases d with
   | non=>exact absurd (show D.depth .non<=n from Nat.zero_le n) h0
   | bl b=>exact absurd (show D.depth (.bl b)<=n from Nat.zero_le n) h0
   | int b=>exact absurd (show D.depth (.int b)<=n from Nat.zero_le n) h0
   | str b=>exact absurd (show D.depth (.str b)<=n from Nat.zero_le n) h0
   | tup ds=>
    have hds:D.depths ds<=n:=by have:D.depths ds+1<=n+1:=hd; omega
    obtain ⟨a,vs,rfl,q,r⟩:=hx
    cases rx
    obtain ⟨its,rv,p,_⟩:=I.tuple q
    cases e with
    | non=>cases hy; cases ry; exact RcAt.tuple_none p (by omega)
    | bl b=>cases hy; cases ry; exact RcAt.tuple_bool b p (by omega)
    | int b=>cases hy; obtain ⟨t,rfl⟩:=ry; exact RcAt.tuple_int b t p (by omega)
    | str b=>cases hy; obtain ⟨t,rfl⟩:=ry; exact RcAt.tuple_str b t p (by omega)
    | tup es=>
     obtain ⟨a',vs',rfl,q',r'⟩:=hy
     cases ry
     obtain ⟨its',rv',p',_⟩:=I.tuple q'
     have l1:=r.length
     have l2:=r'.length
     have l3:=rv.length
     have l4:=rv'.length
     have key:=RcAt.tuples (A:=A) (e:=fun j=>match ds[j]?,es[j]? with | some x,some y=>eqD x y | _,_=>false) p p' (by omega) (fun j h1 h2=>by
      have h1':j < ds.length:=by simp at h1; omega
      have h2':j < es.length:=by simp at h2; omega
      have g1:ds[j]?=some ds[j]:=by simp [h1']
      have g2:es[j]?=some es[j]:=by simp [h2']
      obtain ⟨xv,hxv,hrx⟩:=r.at g1
      obtain ⟨yv,hyv,hry⟩:=r'.at g2
      obtain ⟨xu,hxu,hru⟩:=rv.get hxv
      obtain ⟨yu,hyu,hru'⟩:=rv'.get hyv
      have e1:its.toArray[j]=xu:=by
       have:its[j]?=some xu:=hxu
       simpa using (List.getElem?_eq_some_iff.mp this).2
      have e2:its'.toArray[j]=yu:=by
       have:its'[j]?=some yu:=hyu
       simpa using (List.getElem?_eq_some_iff.mp this).2
      rw [e1,e2]
      simp only [g1,g2]
      have hdj:=D.depths_le g1
      refine fL (ih ds[j] es[j] A.in1 xv yv xu yu (by omega) (by show A.units+1+n < cLine; omega) hrx hry hru hru') (fun ev=>by
      subst ev
      have exy:xv=yv:=RelV.inj hru hru'
      subst exy
      rw [oO I n ds[j] es[j] xv (by omega) hrx hry]
      exact kC _) (AN hrx hru))
     have sz:((List.range (min its.toArray.size its'.toArray.size)).all (fun j=>match ds[j]?,es[j]? with | some x,some y=>eqD x y | _,_=>false) && its.toArray.size == its'.toArray.size)=eqD (.tup ds) (.tup es):=by
      have a1:its.toArray.size=ds.length:=by simp; omega
      have a2:its'.toArray.size=es.length:=by simp; omega
      rw [a1,a2]
      simp only [eqD]
      exact qT
     rw [<- sz]
     exact key
theorem Hs (I:Inv X pins σ H s) {n:Nat} {d e:D} {A:Around} {x y:V} {v u:Value} (hd:d.depth<=n) (hu:A.units+n < cLine) (hx:Rep X.K H d x) (hy:Rep X.K H e y) (rx:RelV x v) (ry:RelV y u):EqAt A s v u (eqD d e):=
 fL (RB I n d e A x y v u hd hu hx hy rx ry) (fun ev=>by
  subst ev
  have exy:x=y:=RelV.inj rx ry
  subst exy
  rw [oO I n d e x hd hx hy]
  exact kC _) (AN hx rx)
theorem Py (I:Inv X pins σ H s):∀ (n:Nat) (d e:D) (A:Around) (x y:V) (v u:Value),d.depth<=n->A.units+n < cLine->Rep X.K H d x->Rep X.K H e y->RelV x v->RelV y u->RcNeAt A s v u (!eqD d e):=by
 intro n
 induction n with
 | zero=>
  intro d e A x y v u hd hu hx hy rx ry
  cases d with
  | tup ds=>exact absurd hd (by show ¬ D.depths ds+1<=0; omega)
  | non=>
   cases hx; cases rx
   cases e with
   | non=>cases hy; cases ry; exact RcNeAt.none_none
   | bl b=>cases hy; cases ry; exact RcNeAt.none_bool b
   | int b=>cases hy; obtain ⟨t,rfl⟩:=ry; exact RcNeAt.none_int b t
   | str b=>cases hy; obtain ⟨t,rfl⟩:=ry; exact RcNeAt.none_str b t
   | tup es=>obtain ⟨a,vs,rfl,q,r⟩:=hy; cases ry; obtain ⟨its,_,p,_⟩:=I.tuple q; exact RcNeAt.none_tuple p (by omega)
  | bl a=>
   cases hx; cases rx
   cases e with
   | non=>cases hy; cases ry; exact RcNeAt.bool_none a
   | bl b=>cases hy; cases ry; exact RcNeAt.bool_bool a b
   | int b=>cases hy; obtain ⟨t,rfl⟩:=ry; exact RcNeAt.bool_int a b t
   | str b=>cases hy; obtain ⟨t,rfl⟩:=ry; exact RcNeAt.bool_str a b t
   | tup es=>obtain ⟨a',vs,rfl,q,r⟩:=hy; cases ry; obtain ⟨its,_,p,_⟩:=I.tuple q; exact RcNeAt.bool_tuple a p (by omega)
  | int a=>
   cases hx; obtain ⟨t',rfl⟩:=rx
   cases e with
   | non=>cases hy; cases ry; exact RcNeAt.int_none a t'
   | bl b=>cases hy; cases ry; exact RcNeAt.int_bool a t' b
   | int b=>cases hy; obtain ⟨t,rfl⟩:=ry; exact RcNeAt.int_int a t' b t
   | str b=>cases hy; obtain ⟨t,rfl⟩:=ry; exact RcNeAt.int_str a t' b t
   | tup es=>obtain ⟨a',vs,rfl,q,r⟩:=hy; cases ry; obtain ⟨its,_,p,_⟩:=I.tuple q; exact RcNeAt.int_tuple a t' p (by omega)
  | str a=>
   cases hx; obtain ⟨t',rfl⟩:=rx
   cases e with
   | non=>cases hy; cases ry; exact RcNeAt.str_none a t'
   | bl b=>cases hy; cases ry; exact RcNeAt.str_bool a t' b
   | int b=>cases hy; obtain ⟨t,rfl⟩:=ry; exact RcNeAt.str_int a t' b t
   | str b=>cases hy; obtain ⟨t,rfl⟩:=ry; exact RcNeAt.str_str a t' b t
   | tup es=>obtain ⟨a',vs,rfl,q,r⟩:=hy; cases ry; obtain ⟨its,_,p,_⟩:=I.tuple q; exact RcNeAt.str_tuple a t' p (by omega)
 | succ n ih=>
  intro d e A x y v u hd hu hx hy rx ry
  by_cases h0:d.depth<=n
  ·exact ih d e A x y v u h0 (by omega) hx hy rx ry
  ·cases d with
   | non=>exact absurd (show D.depth .non<=n from Nat.zero_le n) h0
   | bl b=>exact absurd (show D.depth (.bl b)<=n from Nat.zero_le n) h0
   | int b=>exact absurd (show D.depth (.int b)<=n from Nat.zero_le n) h0
   | str b=>exact absurd (show D.depth (.str b)<=n from Nat.zero_le n) h0
   | tup ds=>
    have hds:D.depths ds<=n:=by have:D.depths ds+1<=n+1:=hd; omega
    obtain ⟨a,vs,rfl,q,r⟩:=hx
    cases rx
    obtain ⟨its,rv,p,_⟩:=I.tuple q
    cases e with
    | non=>cases hy; cases ry; exact RcNeAt.tuple_none p (by omega)
    | bl b=>cases hy; cases ry; exact RcNeAt.tuple_bool b p (by omega)
    | int b=>cases hy; obtain ⟨t,rfl⟩:=ry; exact RcNeAt.tuple_int b t p (by omega)
    | str b=>cases hy; obtain ⟨t,rfl⟩:=ry; exact RcNeAt.tuple_str b t p (by omega)
    | tup es=>
     obtain ⟨a',vs',rfl,q',r'⟩:=hy
     cases ry
     obtain ⟨its',rv',p',_⟩:=I.tuple q'
     have l1:=r.length
     have l2:=r'.length
     have l3:=rv.length
     have l4:=rv'.length
     have key:=RcNeAt.tuples (A:=A) (e:=fun j=>match ds[j]?,es[j]? with | some x,some y=>eqD x y | _,_=>false) p p' (by omega) (fun j h1 h2=>by
      have h1':j < ds.length:=by simp at h1; omega
      have h2':j < es.length:=by simp at h2; omega
      have g1:ds[j]?=some ds[j]:=by simp [h1']
      have g2:es[j]?=some es[j]:=by simp [h2']
      obtain ⟨xv,hxv,hrx⟩:=r.at g1
      obtain ⟨yv,hyv,hry⟩:=r'.at g2
      obtain ⟨xu,hxu,hru⟩:=rv.get hxv
      obtain ⟨yu,hyu,hru'⟩:=rv'.get hyv
      have e1:its.toArray[j]=xu:=by
       have:its[j]?=some xu:=hxu
       simpa using (List.getElem?_eq_some_iff.mp this).2
      have e2:its'.toArray[j]=yu:=by
       have:its'[j]?=some yu:=hyu
       simpa using (List.getElem?_eq_some_iff.mp this).2
      rw [e1,e2]
      simp only [g1,g2]
      have hdj:=D.depths_le g1
      exact Hs I (n:=n) (by omega) (by show A.units+1+n < cLine; omega) hrx hry hru hru')
     have sz:(!((List.range (min its.toArray.size its'.toArray.size)).all (fun j=>match ds[j]?,es[j]? with | some x,some y=>eqD x y | _,_=>false) && its.toArray.size == its'.toArray.size))=(!eqD (.tup ds) (.tup es)):=by
      have a1:its.toArray.size=ds.length:=by simp; omega
      have a2:its'.toArray.size=es.length:=by simp; omega
      rw [a1,a2]
      simp only [eqD]
      rw [qT]
     rw [<- sz]
     exact key
def TX (K:PySem.W.Frag):R2:=fun x y H Q=>∃ d e,Rep K H d x/\Rep K H e y/\d.depth<=40/\Q (.bl (eqD d e)) H
def TY (K:PySem.W.Frag):R2:=fun x y H Q=>∃ d e,Rep K H d x/\Rep K H e y/\d.depth<=40/\Q (.bl (!eqD d e)) H
theorem Pz (hu:X.A.units+64 < cLine) (K:PySem.W.Frag) (hK:X.K=K):OpR X (compareOp .Eq) (TX K):=by
 subst hK
 intro pins s σ H x y v u Q I rx ry h
 obtain ⟨d,e,hx,hy,hd,q⟩:=h
 exact RB I 40 d e X.A x y v u hd (by omega) hx hy rx ry X.prog X.w X.xe _ ⟨.bl _,H,I,rfl,q⟩
theorem PB (hu:X.A.units+64 < cLine) (K:PySem.W.Frag) (hK:X.K=K):OpR X (compareOp .NotEq) (TY K):=by
 subst hK
 intro pins s σ H x y v u Q I rx ry h
 obtain ⟨d,e,hx,hy,hd,q⟩:=h
 exact Py I 40 d e X.A x y v u hd (by omega) hx hy rx ry X.prog X.w X.xe _ ⟨.bl _,H,I,rfl,q⟩
def D5 (K:PySem.W.Frag) (H:Hp) (ds:List D) (v:V):Prop:=∃ a vs,v=.ref a/\SqL K H a vs/\fK K H ds vs
theorem tM {xs ys:List D} (h:xs.length=ys.length):(List.range xs.length).all (fun j=>match xs[j]?,ys[j]? with | some x,some y=>eqD x y | _,_=>false)=eG xs ys:=by
 have:=qT (xs:=xs) (ys:=ys)
 rw [h,Nat.min_self,beq_self_eq_true,Bool.and_true] at this
 rw [h]
 exact this
theorem wR {xs ys:List D} (h:eG xs ys=true):xs.length=ys.length:=by
 rw [<- qT,Bool.and_eq_true] at h
 exact eq_of_beq h.2
theorem pT {I:Inv X pins σ H s} {A:Around} {ds es:List D} {vs vs':List V} {its its':List Value} (r:fK X.K H ds vs) (r':fK X.K H es vs') (rv:aP vs its) (rv':aP vs' its') (hd:D.depths ds<=40) (hu:A.units+42 < cLine):
  ∀ j (h1:j < its.toArray.size) (h2:j < its'.toArray.size),EqAt A.in1 s its.toArray[j] its'.toArray[j] (match ds[j]?,es[j]? with | some x,some y=>eqD x y | _,_=>false):=fun j h1 h2=>by
 have l1:=r.length
 have l2:=r'.length
 have l3:=rv.length
 have l4:=rv'.length
 have h1':j < ds.length:=by simp at h1; omega
 have h2':j < es.length:=by simp at h2; omega
 have g1:ds[j]?=some ds[j]:=by simp [h1']
 have g2:es[j]?=some es[j]:=by simp [h2']
 obtain ⟨xv,hxv,hrx⟩:=r.at g1
 obtain ⟨yv,hyv,hry⟩:=r'.at g2
 obtain ⟨xu,hxu,hru⟩:=rv.get hxv
 obtain ⟨yu,hyu,hru'⟩:=rv'.get hyv
 have e1:its.toArray[j]=xu:=by simpa using (List.getElem?_eq_some_iff.mp hxu).2
 have e2:its'.toArray[j]=yu:=by simpa using (List.getElem?_eq_some_iff.mp hyu).2
 rw [e1,e2]
 simp only [g1,g2]
 have hdj:=D.depths_le g1
 exact Hs I (n:=40) (by omega) (by show A.units+1+40 < cLine; omega) hrx hry hru hru'
def TZ (K:PySem.W.Frag):R2:=fun x y H Q=>∃ ds es,D5 K H ds x/\D5 K H es y/\D.depths ds<=40/\Q (.bl (eG ds es)) H
def U0 (K:PySem.W.Frag):R2:=fun x y H Q=>∃ ds es,D5 K H ds x/\D5 K H es y/\D.depths ds<=40/\Q (.bl (!eG ds es)) H
theorem PC (hu:X.A.units+64 < cLine) (K:PySem.W.Frag) (hK:X.K=K):OpR X (compareOp .Eq) (TZ K):=by
 subst hK
 intro pins s σ H x y v u Q I rx ry h
 obtain ⟨ds,es,⟨a,vs,rfl,q,r⟩,⟨b,vs',rfl,q',r'⟩,hd,k⟩:=h
 cases rx; cases ry
 obtain ⟨its,rv,p,_⟩:=I.list q
 obtain ⟨its',rv',p',_⟩:=I.list q'
 have l1:=r.length
 have l2:=r'.length
 have l3:=rv.length
 have l4:=rv'.length
 by_cases hl:ds.length=es.length
 ·refine eq_listAt p.isList p'.isList (by simp; omega) (by omega) (pT (I:=I) r r' rv rv' hd (by omega)) ⟨.bl _,H,I,rfl,?_⟩
  have e1:its.toArray.size=ds.length:=by simp; omega
  rw [e1,tM hl]
  exact k
 ·refine eq_list_lengthsAt p.isList p'.isList (by simp; omega) (by omega) ⟨.bl false,H,I,rfl,?_⟩
  have e:eG ds es=false:=by
   cases h:eG ds es with
   | false=>rfl
   | true=>exact absurd (wR h) hl
  rw [e] at k
  exact k
theorem PD (hu:X.A.units+64 < cLine) (K:PySem.W.Frag) (hK:X.K=K):OpR X (compareOp .NotEq) (U0 K):=by
 subst hK
 intro pins s σ H x y v u Q I rx ry h
 obtain ⟨ds,es,⟨a,vs,rfl,q,r⟩,⟨b,vs',rfl,q',r'⟩,hd,k⟩:=h
 cases rx; cases ry
 obtain ⟨its,rv,p,_⟩:=I.list q
 obtain ⟨its',rv',p',_⟩:=I.list q'
 have l1:=r.length
 have l2:=r'.length
 have l3:=rv.length
 have l4:=rv'.length
 by_cases hl:ds.length=es.length
 ·refine RcNeAt.lists p.isList p'.isList (by simp; omega) (by omega) (pT (I:=I) r r' rv rv' hd (by omega)) X.prog X.w X.xe _ ⟨.bl _,H,I,rfl,?_⟩
  have e1:its.toArray.size=ds.length:=by simp; omega
  rw [e1,tM hl]
  exact k
 ·refine RcNeAt.lists_lengths p.isList p'.isList (by simp; omega) (by omega) X.prog X.w X.xe _ ⟨.bl true,H,I,rfl,?_⟩
  have e:eG ds es=false:=by
   cases h:eG ds es with
   | false=>rfl
   | true=>exact absurd (wR h) hl
  rw [e] at k
  exact k
def U1 (K:PySem.W.Frag) (neg:Bool):R2:=fun x y H Q=>∃ d p ds vs,y=.ref p/\(SqL K H p vs\/SqT K H p vs)/\Rep K H d x/\fK K H ds vs/\D.depths ds<=40/\Q (.bl (if neg then !ds.any (fun e=>eqD e d) else ds.any (fun e=>eqD e d))) H
noncomputable def isD (K:PySem.W.Frag) (H:Hp) (d:D) (u:Value):Bool:=@decide (∃ e x,RelV x u/\Rep K H e x/\e.depth<=40/\eqD e d=true) (Classical.propDecidable _)
theorem JE (I:Inv X pins σ H s) {d e:D} {x:V} {u:Value} (r:RelV x u) (h:Rep X.K H e x) (hd:e.depth<=40):isD X.K H d u=eqD e d:=by
 unfold isD
 cases q:eqD e d with
 | true=>exact @decide_eq_true _ (Classical.propDecidable _) ⟨e,x,r,h,hd,q⟩
 | false=>
  refine @decide_eq_false _ (Classical.propDecidable _) ?_
  rintro ⟨e',x',r',h',hd',q'⟩
  have ex:x'=x:=RelV.inj r' r
  subst ex
  rw [oO I 40 e' e x' hd' h' h] at q'
  rw [q] at q'
  cases q'
theorem BB (I:Inv X pins σ H s) {d:D}:∀ {ds:List D} {vs:List V} {us:List Value},fK X.K H ds vs->aP vs us->D.depths ds<=40->us.any (isD X.K H d)=ds.any fun e=>eqD e d
 | [],[],_,_,.nil,_=>rfl
 | e :: ds,_ :: _,_,⟨h,r⟩,.cons rv rvs,hd=>by
  have h1:e.depth<=40/\D.depths ds<=40:=by
   have:max e.depth (D.depths ds)<=40:=hd
   omega
  rw [List.any_cons,List.any_cons,JE I rv h h1.1,BB I r rvs h1.2]
 | [],_ :: _,_,h,_,_=>h.elim
 | _ :: _,[],_,h,_,_=>h.elim
theorem BC (I:Inv X pins σ H s) {A:Around} {d:D} {x:V} {v:Value} (hx:Rep X.K H d x) (rx:RelV x v) (hu:A.units+42 < cLine):∀ {ds:List D} {vs:List V} {us:List Value},fK X.K H ds vs->aP vs us->D.depths ds<=40->∀ u∈us,EqAt A.in1 s u v (isD X.K H d u)
 | [],[],_,_,.nil,_=>fun u hu=>by cases hu
 | e :: ds,_ :: _,_,⟨h,r⟩,.cons rv rvs,hd=>fun u hm=>by
  have h1:e.depth<=40/\D.depths ds<=40:=by
   have:max e.depth (D.depths ds)<=40:=hd
   omega
  rcases List.mem_cons.mp hm with rfl | hm
  ·rw [JE I rv h h1.1]
   exact Hs I (n:=40) h1.1 (by show A.units+1+40 < cLine; omega) h hx rv rx
  ·exact BC I hx rx hu r rvs h1.2 u hm
 | [],_ :: _,_,h,_,_=>h.elim
 | _ :: _,[],_,h,_,_=>h.elim
theorem Ht (hu:X.A.units+64 < cLine) (K:PySem.W.Frag) (hK:X.K=K):OpR X (compareOp .NotIn) (U1 K true):=by
 subst hK
 intro pins s σ H x y v u Q I rx ry h
 obtain ⟨d,p,ds,vs,rfl,hq,hx,hr,hd,k⟩:=h
 cases ry
 rcases hq with hq | hq
 ·obtain ⟨its,r,pl,hz⟩:=I.list hq
  refine SeqAt.notIn_listAt (isD X.K H d) pl.isList (fun w hw=>BC I hx rx (by omega) hr r hd w (by simpa using hw)) ⟨.bl _,H,I,rfl,?_⟩
  rw [show its.toArray.any (isD X.K H d)=its.any (isD X.K H d) by simp,BB I hr r hd]
  exact k
 ·obtain ⟨its,r,pl,hz⟩:=I.tuple hq
  refine SeqAt.notIn_tupleAt (isD X.K H d) pl (fun w hw=>BC I hx rx (by omega) hr r hd w (by simpa using hw)) ⟨.bl _,H,I,rfl,?_⟩
  rw [show its.toArray.any (isD X.K H d)=its.any (isD X.K H d) by simp,BB I hr r hd]
  exact k
end
end L2
set_option Elab.async false
set_option linter.all false
set_option maxRecDepth 100000
namespace L2
open PySem
def keyLt:Sum Int Str->Sum Int Str->Bool
 | .inl a,.inl b=>decide (a < b)
 | .inr a,.inr b=>decide (a.cps.toList < b.cps.toList)
 | _,_=>false
def iE:List (Sum Int Str)->List (Sum Int Str)->Bool
 | [],[]=>false
 | [],_ :: _=>true
 | _ :: _,[]=>false
 | x :: xs,y :: ys=>if x=y then iE xs ys else keyLt x y
def kD:Sum Int Str->Bool
 | .inl _=>true
 | .inr _=>false
abbrev shape (ks:List (Sum Int Str)):List Bool:=ks.map kD
theorem G9 {a b:Str} (h:a.cps.toList=b.cps.toList):a=b:=by
 cases a; cases b
 congr
 exact Array.toList_inj.mp h
theorem JF {a b:Sum Int Str} (h:keyLt a b=true):keyLt b a=false:=by
 cases a <;> cases b <;> first | rfl | skip
 ·have:_ < _:=of_decide_eq_true h
  exact decide_eq_false (by omega)
 ·exact decide_eq_false (List.lt_asymm (of_decide_eq_true h))
theorem AO {a b:Sum Int Str} (k:kD a=kD b) (h:keyLt a b=false) (h':keyLt b a=false):a=b:=by
 cases a <;> cases b <;> first | cases k | skip
 ·have h1:=of_decide_eq_false h
  have h2:=of_decide_eq_false h'
  congr 1
  omega
 ·have h1:=of_decide_eq_false h
  have h2:=of_decide_eq_false h'
  congr 1
  exact G9 (List.le_antisymm (List.not_lt.mp h2) (List.not_lt.mp h1))
theorem JG:∀ {a b c:Sum Int Str},kD a=kD b->kD b=kD c->keyLt b a=false->keyLt c b=false->keyLt c a=false
 | .inl a,.inl b,.inl c,_,_,h,h'=>by
  have h1:¬ b < a:=of_decide_eq_false h
  have h2:¬ c < b:=of_decide_eq_false h'
  exact decide_eq_false (by omega)
 | .inr a,.inr b,.inr c,_,_,h,h'=>by
  have h1:a.cps.toList<=b.cps.toList:=List.not_lt.mp (of_decide_eq_false h)
  have h2:b.cps.toList<=c.cps.toList:=List.not_lt.mp (of_decide_eq_false h')
  exact decide_eq_false (List.not_lt.mpr (List.le_trans h1 h2))
 | .inl _,.inr _,_,k,_,_,_=>by cases k
 | .inr _,.inl _,_,k,_,_,_=>by cases k
 | .inl _,.inl _,.inr _,_,k,_,_=>by cases k
 | .inr _,.inr _,.inl _,_,k,_,_=>by cases k
theorem Ga:∀ {a b:List (Sum Int Str)},iE a b=true->iE b a=false
 | [],[],_=>rfl
 | [],_ :: _,_=>rfl
 | _ :: _,[],h=>by cases h
 | x :: xs,y :: ys,h=>by
  unfold iE at h ⊢
  by_cases e:x=y
  ·subst e
   rw [if_pos rfl] at h ⊢
   exact Ga h
  ·rw [if_neg e] at h
   rw [if_neg fun z=>e z.symm]
   exact JF h
theorem D6:∀ {a b:List (Sum Int Str)},shape a=shape b->iE a b=false->iE b a=false->a=b
 | [],[],_,_,_=>rfl
 | [],_ :: _,s,_,_=>by cases s
 | _ :: _,[],s,_,_=>by cases s
 | x :: xs,y :: ys,s,h,h'=>by
  have s1:kD x=kD y:=by simpa using congrArg List.head? s
  have s2:shape xs=shape ys:=by simpa using congrArg List.tail s
  unfold iE at h h'
  by_cases e:x=y
  ·subst e
   rw [if_pos rfl] at h h'
   rw [D6 s2 h h']
  ·rw [if_neg e] at h
   rw [if_neg fun z=>e z.symm] at h'
   exact absurd (AO s1 h h') e
theorem BD:∀ {a b c:List (Sum Int Str)},shape a=shape b->shape b=shape c->iE b a=false->iE c b=false->iE c a=false
 | [],[],[],_,_,_,_=>rfl
 | [],[],_ :: _,_,s',_,_=>by cases s'
 | [],_ :: _,_,s,_,_,_=>by cases s
 | _ :: _,[],_,s,_,_,_=>by cases s
 | _ :: _,_ :: _,[],_,s',_,_=>by cases s'
 | x :: xs,y :: ys,z :: zs,s,s',h,h'=>by
  have s1:kD x=kD y:=by simpa using congrArg List.head? s
  have s2:shape xs=shape ys:=by simpa using congrArg List.tail s
  have s3:kD y=kD z:=by simpa using congrArg List.head? s'
  have s4:shape ys=shape zs:=by simpa using congrArg List.tail s'
  unfold iE at h h' ⊢
  by_cases e:y=x
  ·subst e
   rw [if_pos rfl] at h
   by_cases e':z=y
   ·subst e'
    rw [if_pos rfl] at h' ⊢
    exact BD s2 s4 h h'
   ·rw [if_neg e'] at h' ⊢
    exact h'
  ·rw [if_neg e] at h
   by_cases e':z=y
   ·subst e'
    rw [if_neg e]
    exact h
   ·rw [if_neg e'] at h'
    by_cases e2:z=x
    ·subst e2
     exfalso
     exact e (AO s3 h h')
    ·rw [if_neg e2]
     exact JG s1 s3 h h'
end L2
namespace L2
open PySem PySem.W PyProof.Rows
section
variable (lt:Nat->Nat->Bool)
def evT {α:Type}:KasT α->α
 | .ret a=>a
 | .ask i j k=>evT (k (lt i j))
theorem kF {α β:Type} (f:α->KasT β):∀ t:KasT α,evT lt (t.bind f)=evT lt (f (evT lt t))
 | .ret _=>rfl
 | .ask i j k=>kF f (k (lt i j))
abbrev pa' (p:Array Nat) (i:Nat):Nat:=p.getD i 0
def STo (p:Array Nat) (k:Nat):Prop:=∀ i j,i<=j->j < k->lt (pa' p j) (pa' p i)=false
def NIc (p:Array Nat) (k:Nat):Prop:=∀ i j,i<=j->j < k->lt (pa' p i) (pa' p j)=false
end
theorem iL {p:Array Nat} {i:Nat}:pa' p i=(p[i]?).getD 0:=by
 unfold pa'
 simp [Array.getD_eq_getD_getElem?]
structure JH (lt:Nat->Nat->Bool) (p:Array Nat) (n f:Nat) (r:Array Nat×Nat×Nat):Prop where
 perm:r.1.Perm p
 lo:n<=r.2.1
 hi:r.2.1<=n+f
 q:r.2.2+1<=r.2.1
 ni:NIc lt r.1 r.2.1
 eq:∀ i j,r.2.1 - (r.2.2+1)<=i->i < r.2.1->r.2.1 - (r.2.2+1)<=j->j < r.2.1->lt (pa' r.1 i) (pa' r.1 j)=false
section
variable {lt:Nat->Nat->Bool} (tr:∀ i j k,lt j i=false->lt k j=false->lt k i=false) (as:∀ i j,lt i j=true->lt j i=false)
include as in
theorem hV (i:Nat):lt i i=false:=by
 cases h:lt i i with
 | false=>rfl
 | true=>have:=as i i h; rw [h] at this; exact this
include tr as
theorem EV (p:Array Nat):∀ f n,1<=n->STo lt p n->n<=evT lt (kas_asc p f n)/\evT lt (kas_asc p f n)<=n+f/\STo lt p (evT lt (kas_asc p f n))
 | 0,n,_,h=>⟨Nat.le_refl _,Nat.le_refl _,h⟩
 | f+1,n,h1,h=>by
  have e:evT lt (kas_asc p (f+1) n)=evT lt (if lt (p.getD n 0) (p.getD (n - 1) 0)=true then KasT.ret n else kas_asc p f (n+1)):=rfl
  rw [e]
  by_cases c:lt (p.getD n 0) (p.getD (n - 1) 0)=true
  ·rw [if_pos c]
   exact ⟨Nat.le_refl _,Nat.le_add_right _ _,h⟩
  ·rw [if_neg c]
   have c':lt (p.getD n 0) (p.getD (n - 1) 0)=false:=by simpa using c
   have h2:STo lt p (n+1):=fun i j hij hj=>by
    rcases Nat.lt_or_eq_of_le (Nat.le_of_lt_succ hj) with hj | rfl
    ·exact h i j hij hj
    ·rcases Nat.lt_or_eq_of_le hij with hi | rfl
     ·exact tr _ _ _ (h i (j - 1) (by omega) (by omega)) c'
     ·exact hV as _
   obtain ⟨a,b,c⟩:=EV p f (n+1) (by omega) h2
   exact ⟨by omega,by omega,c⟩
theorem rev_eq {p:Array Nat} {a n:Nat} (hn:n<=p.size) (eq:∀ i j,a<=i->i < n->a<=j->j < n->lt (pa' p i) (pa' p j)=false) (i j:Nat):
  lt (pa' (kas_rev p a n) i) (pa' (kas_rev p a n) j)=lt (pa' p i) (pa' p j):=by
 have g:∀ k,pa' (kas_rev p a n) k=if a<=k/\k < n then pa' p (a+n - 1 - k) else pa' p k:=fun k=>by
  rw [iL,iL,iL]
  unfold kas_rev
  rw [getElem?_mirror_all hn]
  split <;> rfl
 have sim:∀ k,∃ k',pa' (kas_rev p a n) k=pa' p k'/\lt (pa' p k) (pa' p k')=false/\lt (pa' p k') (pa' p k)=false:=fun k=>by
  rw [g]
  by_cases h:a<=k/\k < n
  ·rw [if_pos h]
   exact ⟨_,rfl,eq _ _ h.1 h.2 (by omega) (by omega),eq _ _ (by omega) (by omega) h.1 h.2⟩
  ·rw [if_neg h]
   exact ⟨k,rfl,hV as _,hV as _⟩
 obtain ⟨i',ei,i1,i2⟩:=sim i
 obtain ⟨j',ej,j1,j2⟩:=sim j
 rw [ei,ej]
 cases h1:lt (pa' p i) (pa' p j) with
 | false=>exact tr _ _ _ j1 (tr _ _ _ h1 i2)
 | true=>
  cases h2:lt (pa' p i') (pa' p j') with
  | true=>rfl
  | false=>
   have:=tr _ _ _ j2 (tr _ _ _ h2 i1)
   rw [h1] at this
   exact this.symm
theorem BE:∀ f (p:Array Nat) n q,n+f<=p.size->q+1<=n->NIc lt p n->(∀ i j,n - (q+1)<=i->i < n->n - (q+1)<=j->j < n->lt (pa' p i) (pa' p j)=false)->JH lt p n f (evT lt (kas_desc f p n q))
 | 0,p,n,q,_,hq,hN,hE=>⟨Array.Perm.refl _,Nat.le_refl _,Nat.le_refl _,hq,hN,hE⟩
 | f+1,p,n,q,hs,hq,hN,hE=>by
  have e:evT lt (kas_desc (f+1) p n q)=evT lt (if lt (p.getD n 0) (p.getD (n - 1) 0)=true then (if q > 0 then kas_desc f (kas_rev p (n - (q+1)) n) (n+1) 0 else kas_desc f p (n+1) 0)
    else .ask (p.getD (n - 1) 0) (p.getD n 0) fun d=>if d=true then .ret (p,n,q) else kas_desc f p (n+1) (q+1)):=rfl
  by_cases c:lt (p.getD n 0) (p.getD (n - 1) 0)=true
  ·have down:∀ p':Array Nat,p'.Perm p->(∀ i j,lt (pa' p' i) (pa' p' j)=lt (pa' p i) (pa' p j))->evT lt (kas_desc (f+1) p n q)=evT lt (kas_desc f p' (n+1) 0)->JH lt p n (f+1) (evT lt (kas_desc (f+1) p n q)):=fun p' hp hl hev=>by
    have hN':NIc lt p' (n+1):=fun i j hij hj=>by
     rw [hl]
     rcases Nat.lt_or_eq_of_le (Nat.le_of_lt_succ hj) with hj | rfl
     ·exact hN i j hij hj
     ·rcases Nat.lt_or_eq_of_le hij with hi | rfl
      ·exact tr _ _ _ (as _ _ c) (hN i (j - 1) (by omega) (by omega))
      ·exact hV as _
    have hE':∀ i j,n+1 - (0+1)<=i->i < n+1->n+1 - (0+1)<=j->j < n+1->lt (pa' p' i) (pa' p' j)=false:=fun i j h1 h2 h3 h4=>by
     have:i=j:=by omega
     subst this
     exact hV as _
    have ih:=BE f p' (n+1) 0 (by rw [hp.size_eq]; omega) (by omega) hN' hE'
    rw [<- hev] at ih
    obtain ⟨a1,a2,a3,a4,a5,a6⟩:=ih
    exact ⟨a1.trans hp,by omega,by omega,a4,a5,a6⟩
   rw [if_pos c] at e
   by_cases hq0:q > 0
   ·rw [if_pos hq0] at e
    exact down _ (mirror_perm _ _ _ _) (rev_eq tr as (by omega) hE) e
   ·rw [if_neg hq0] at e
    exact down p (Array.Perm.refl _) (fun _ _=>rfl) e
  ·rw [if_neg c] at e
   have c':lt (p.getD n 0) (p.getD (n - 1) 0)=false:=by simpa using c
   have e2:evT lt (kas_desc (f+1) p n q)=evT lt (if lt (p.getD (n - 1) 0) (p.getD n 0)=true then KasT.ret (p,n,q) else kas_desc f p (n+1) (q+1)):=e
   by_cases d:lt (p.getD (n - 1) 0) (p.getD n 0)=true
   ·rw [if_pos d] at e2
    rw [e2]
    exact ⟨Array.Perm.refl _,Nat.le_refl _,Nat.le_add_right _ _,hq,hN,hE⟩
   ·rw [if_neg d] at e2
    have d':lt (p.getD (n - 1) 0) (p.getD n 0)=false:=by simpa using d
    have hN':NIc lt p (n+1):=fun i j hij hj=>by
     rcases Nat.lt_or_eq_of_le (Nat.le_of_lt_succ hj) with hj | rfl
     ·exact hN i j hij hj
     ·rcases Nat.lt_or_eq_of_le hij with hi | rfl
      ·exact tr _ _ _ d' (hN i (j - 1) (by omega) (by omega))
      ·exact hV as _
    have hE':∀ i j,n+1 - (q+1+1)<=i->i < n+1->n+1 - (q+1+1)<=j->j < n+1->lt (pa' p i) (pa' p j)=false:=fun i j h1 h2 h3 h4=>by
     by_cases hi:i=n
     ·by_cases hj:j=n
      ·rw [hi,hj]; exact hV as _
      ·rw [hi]
       exact tr _ _ _ (hE (n - 1) j (by omega) (by omega) (by omega) (by omega)) c'
     ·by_cases hj:j=n
      ·rw [hj]
       exact tr _ _ _ d' (hE i (n - 1) (by omega) (by omega) (by omega) (by omega))
      ·exact hE i j (by omega) (by omega) (by omega) (by omega)
    have ih:=BE f p (n+1) (q+1) (by omega) (by omega) hN' hE'
    rw [<- e2] at ih
    obtain ⟨a1,a2,a3,a4,a5,a6⟩:=ih
    exact ⟨a1,by omega,by omega,a4,a5,a6⟩
theorem D7 {n nrem:Nat} {p:Array Nat} (h1:1<=n) (hn:n<=nrem) (hz:nrem<=p.size) (hN:NIc lt p n):
  n<=(evT lt (kas_tail3 n nrem p)).1/\(evT lt (kas_tail3 n nrem p)).1<=nrem/\(evT lt (kas_tail3 n nrem p)).2.Perm p/\STo lt (evT lt (kas_tail3 n nrem p)).2 (evT lt (kas_tail3 n nrem p)).1:=by
 have e:evT lt (kas_tail3 n nrem p)=(evT lt (kas_asc (kas_rev p 0 n) (nrem - n) n),kas_rev p 0 n):=by
  unfold kas_tail3
  rw [kF]; rfl
 have g:∀ k,k < n->pa' (kas_rev p 0 n) k=pa' p (n - 1 - k):=fun k hk=>by
  rw [iL,iL]
  unfold kas_rev
  rw [getElem?_mirror_all (by omega),if_pos (by omega)]
  congr 2
  omega
 have hS:STo lt (kas_rev p 0 n) n:=fun i j hij hj=>by
  rw [g i (by omega),g j hj]
  exact hN _ _ (by omega) (by omega)
 obtain ⟨a,b,c⟩:=EV tr as (kas_rev p 0 n) (nrem - n) n h1 hS
 rw [e]
 exact ⟨a,by show evT lt (kas_asc (kas_rev p 0 n) (nrem - n) n)<=nrem; omega,mirror_perm _ _ _ _,c⟩
theorem uS {n nrem:Nat} {p:Array Nat} (h1:1<=n) (hn:n+1<=nrem) (hz:nrem<=p.size) (hN:NIc lt p n) (hd:lt (pa' p n) (pa' p (n - 1))=true):
  1<=(evT lt (kas_descPart n nrem p)).1/\(evT lt (kas_descPart n nrem p)).1<=nrem/\(evT lt (kas_descPart n nrem p)).2.Perm p/\STo lt (evT lt (kas_descPart n nrem p)).2 (evT lt (kas_descPart n nrem p)).1:=by
 have hN':NIc lt p (n+1):=fun i j hij hj=>by
  rcases Nat.lt_or_eq_of_le (Nat.le_of_lt_succ hj) with hj | rfl
  ·exact hN i j hij hj
  ·rcases Nat.lt_or_eq_of_le hij with hi | rfl
   ·exact tr _ _ _ (as _ _ hd) (hN i (j - 1) (by omega) (by omega))
   ·exact hV as _
 have hE':∀ i j,n+1 - (0+1)<=i->i < n+1->n+1 - (0+1)<=j->j < n+1->lt (pa' p i) (pa' p j)=false:=fun i j h1 h2 h3 h4=>by
  have:i=j:=by omega
  subst this
  exact hV as _
 have D:=BE tr as (nrem - (n+1)) p (n+1) 0 (by omega) (by omega) hN' hE'
 have e:evT lt (kas_descPart n nrem p)=evT lt (if (evT lt (kas_desc (nrem - (n+1)) p (n+1) 0)).2.2 > 0 then kas_tail3 (evT lt (kas_desc (nrem - (n+1)) p (n+1) 0)).2.1 nrem (kas_rev (evT lt (kas_desc (nrem - (n+1)) p (n+1) 0)).1 ((evT lt (kas_desc (nrem - (n+1)) p (n+1) 0)).2.1 - ((evT lt (kas_desc (nrem - (n+1)) p (n+1) 0)).2.2+1)) (evT lt (kas_desc (nrem - (n+1)) p (n+1) 0)).2.1) else kas_tail3 (evT lt (kas_desc (nrem - (n+1)) p (n+1) 0)).2.1 nrem (evT lt (kas_desc (nrem - (n+1)) p (n+1) 0)).1):=by
  unfold kas_descPart
  rw [kF]
 generalize evT lt (kas_desc (nrem - (n+1)) p (n+1) 0)=r at D e
 obtain ⟨a1,a2,a3,a4,a5,a6⟩:=D
 have sz:r.1.size=p.size:=a1.size_eq
 rw [e]
 by_cases hq:r.2.2 > 0
 ·rw [if_pos hq]
  have hl:=rev_eq tr as (p:=r.1) (a:=r.2.1 - (r.2.2+1)) (n:=r.2.1) (by omega) a6
  obtain ⟨b1,b2,b3,b4⟩:=D7 tr as (n:=r.2.1) (nrem:=nrem) (p:=kas_rev r.1 (r.2.1 - (r.2.2+1)) r.2.1) (by omega) (by omega) (by unfold kas_rev; rw [mirror_size]; omega) (fun i j hij hj=>by rw [hl]; exact a5 i j hij hj)
  exact ⟨by omega,b2,(b3.trans (mirror_perm _ _ _ _)).trans a1,b4⟩
 ·rw [if_neg hq]
  obtain ⟨b1,b2,b3,b4⟩:=D7 tr as (n:=r.2.1) (nrem:=nrem) (p:=r.1) (by omega) (by omega) (by omega) a5
  exact ⟨by omega,b2,b3.trans a1,b4⟩
theorem wU (p:Array Nat):∀ f n,1<=n->evT lt (kas_asc p f n) < n+f->lt (pa' p (evT lt (kas_asc p f n))) (pa' p (evT lt (kas_asc p f n) - 1))=true
 | 0,n,_,h=>absurd h (Nat.lt_irrefl _)
 | f+1,n,h1,h=>by
  have e:evT lt (kas_asc p (f+1) n)=evT lt (if lt (p.getD n 0) (p.getD (n - 1) 0)=true then KasT.ret n else kas_asc p f (n+1)):=rfl
  rw [e] at h ⊢
  by_cases c:lt (p.getD n 0) (p.getD (n - 1) 0)=true
  ·rw [if_pos c]
   exact c
  ·rw [if_neg c] at h ⊢
   exact wU p f (n+1) (by omega) (by omega)
theorem JI {nrem:Nat} {p:Array Nat} (h1:1<=nrem) (hz:nrem<=p.size):
  1<=(evT lt (kas_count nrem p)).1/\(evT lt (kas_count nrem p)).1<=nrem/\(evT lt (kas_count nrem p)).2.Perm p/\STo lt (evT lt (kas_count nrem p)).2 (evT lt (kas_count nrem p)).1:=by
 have h0:STo lt p 1:=fun i j hij hj=>by
  have:i=j:=by omega
  subst this
  exact hV as _
 obtain ⟨a,b,c⟩:=EV tr as p (nrem - 1) 1 (Nat.le_refl _) h0
 have stop:=wU tr as p (nrem - 1) 1 (Nat.le_refl _)
 have e:evT lt (kas_count nrem p)=evT lt (if (evT lt (kas_asc p (nrem - 1) 1) == nrem)=true then .ret (evT lt (kas_asc p (nrem - 1) 1),p) else if evT lt (kas_asc p (nrem - 1) 1) > 1 then .ask (p.getD 0 0) (p.getD (evT lt (kas_asc p (nrem - 1) 1) - 1) 0) fun c=>if c=true then .ret (evT lt (kas_asc p (nrem - 1) 1),p) else kas_descPart (evT lt (kas_asc p (nrem - 1) 1)) nrem (kas_rev p 0 (evT lt (kas_asc p (nrem - 1) 1))) else kas_descPart (evT lt (kas_asc p (nrem - 1) 1)) nrem p):=by
  unfold kas_count
  rw [kF]
 generalize evT lt (kas_asc p (nrem - 1) 1)=n at a b c e stop
 rw [e]
 by_cases hn:(n == nrem)=true
 ·rw [if_pos hn]
  exact ⟨a,by show n<=nrem; omega,Array.Perm.refl _,c⟩
 ·rw [if_neg hn]
  have hn':n≠nrem:=by simpa using hn
  have st:=stop (by omega)
  by_cases h2:n > 1
  ·rw [if_pos h2]
   have e2:∀ k:Bool->KasT (Nat×Array Nat),evT lt (.ask (p.getD 0 0) (p.getD (n - 1) 0) k)=evT lt (k (lt (p.getD 0 0) (p.getD (n - 1) 0))):=fun _=>rfl
   rw [e2]
   by_cases h3:lt (p.getD 0 0) (p.getD (n - 1) 0)=true
   ·rw [if_pos h3]
    exact ⟨a,by show n<=nrem; omega,Array.Perm.refl _,c⟩
   ·rw [if_neg h3]
    have h3':lt (pa' p 0) (pa' p (n - 1))=false:=by simpa using h3
    have eq:∀ i j,0<=i->i < n->0<=j->j < n->lt (pa' p i) (pa' p j)=false:=fun i j _ hi _ hj=>by
     exact tr _ _ _ (c j (n - 1) (by omega) (by omega)) (tr _ _ _ h3' (c 0 i (by omega) hi))
    have hl:=rev_eq tr as (p:=p) (a:=0) (n:=n) (by omega) eq
    have g:pa' (kas_rev p 0 n) n=pa' p n:=by
     rw [iL,iL]
     unfold kas_rev
     rw [getElem?_mirror_all (by omega),if_neg (by omega)]
    obtain ⟨b1,b2,b3,b4⟩:=uS tr as (n:=n) (nrem:=nrem) (p:=kas_rev p 0 n) a (by omega) (by unfold kas_rev; rw [mirror_size]; omega) (fun i j hij hj=>by rw [hl]; exact eq i j (by omega) (by omega) (by omega) hj) (by rw [hl]; exact st)
    exact ⟨b1,b2,b3.trans (mirror_perm _ _ _ _),b4⟩
  ·rw [if_neg h2]
   have hn1:n=1:=by omega
   subst hn1
   exact uS tr as (n:=1) (nrem:=nrem) (p:=p) (Nat.le_refl _) (by omega) hz (fun i j hij hj=>by
    have:i=j:=by omega
    subst this
    exact hV as _) st
theorem wV (p:Array Nat) (k:Nat) (hS:STo lt p k):∀ f l r,r - l<=f->l<=r->r<=k->(∀ i,i < l->lt (pa' p k) (pa' p i)=false)->(∀ i,r<=i->i < k->lt (pa' p k) (pa' p i)=true)->
  l<=evT lt (kas_place p k f l r)/\evT lt (kas_place p k f l r)<=k/\(∀ i,i < evT lt (kas_place p k f l r)->lt (pa' p k) (pa' p i)=false)/\(∀ i,evT lt (kas_place p k f l r)<=i->i < k->lt (pa' p k) (pa' p i)=true)
 | 0,l,r,hf,hl,hr,h1,h2=>by
  have:l=r:=by omega
  subst this
  exact ⟨Nat.le_refl _,hr,h1,h2⟩
 | f+1,l,r,hf,hl,hr,h1,h2=>by
  have e:evT lt (kas_place p k (f+1) l r)=evT lt (if l >= r then .ret l else .ask (p.getD k 0) (p.getD ((l+r) / 2) 0) fun c=>if c=true then kas_place p k f l ((l+r) / 2) else kas_place p k f ((l+r) / 2+1) r):=rfl
  rw [e]
  by_cases hge:l >= r
  ·rw [if_pos hge]
   have:l=r:=by omega
   subst this
   exact ⟨Nat.le_refl _,hr,h1,h2⟩
  ·rw [if_neg hge]
   have e2:∀ q:Bool->KasT Nat,evT lt (.ask (p.getD k 0) (p.getD ((l+r) / 2) 0) q)=evT lt (q (lt (p.getD k 0) (p.getD ((l+r) / 2) 0))):=fun _=>rfl
   rw [e2]
   by_cases c:lt (p.getD k 0) (p.getD ((l+r) / 2) 0)=true
   ·rw [if_pos c]
    refine wV p k hS f l ((l+r) / 2) (by omega) (by omega) (by omega) h1 fun i hi hk=>?_
    cases q:lt (pa' p k) (pa' p i) with
    | true=>rfl
    | false=>
     have:=tr _ _ _ (hS ((l+r) / 2) i hi hk) q
     rw [show lt (pa' p k) (pa' p ((l+r) / 2))=true from c] at this
     exact this.symm
   ·rw [if_neg c]
    have c':lt (pa' p k) (pa' p ((l+r) / 2))=false:=by simpa using c
    obtain ⟨b1,b2,b3,b4⟩:=wV p k hS f ((l+r) / 2+1) r (by omega) (by omega) hr (fun i hi=>by
     cases q:lt (pa' p k) (pa' p i) with
     | false=>rfl
     | true=>
      exfalso
      have s1:=hS i ((l+r) / 2) (by omega) (by omega)
      have s2:=as _ _ q
      have:lt (pa' p k) (pa' p i)=false:=by
       -- p[mid]<=p[k] (c'),p[i]<=p[mid]
       exact tr _ _ _ s1 c'
      rw [q] at this
      cases this) h2
    exact ⟨by omega,b2,b3,b4⟩
theorem JJ:∀ f (p:Array Nat) k,1<=k->k+f<=p.size->STo lt p k->(evT lt (kas_bin f p k)).Perm p/\STo lt (evT lt (kas_bin f p k)) (k+f)
 | 0,p,k,_,_,h=>⟨Array.Perm.refl _,h⟩
 | f+1,p,k,h1,hz,h=>by
  have e:evT lt (kas_bin (f+1) p k)=evT lt (kas_bin f (bubble p k (k - evT lt (kas_place p k k 0 k))) (k+1)):=by
   show evT lt ((kas_place p k k 0 k).bind fun l=>kas_bin f (bubble p k (k - l)) (k+1))=_
   rw [kF]
  obtain ⟨b1,b2,b3,b4⟩:=wV tr as p k h k 0 k (by omega) (Nat.zero_le _) (Nat.le_refl _) (fun i hi=>absurd hi (Nat.not_lt_zero _)) (fun i hi hk=>absurd hk (by omega))
  generalize evT lt (kas_place p k k 0 k)=l at e b1 b2 b3 b4
  have g:∀ i,pa' (bubble p k (k - l)) i=if i=l then pa' p k else if l < i/\i<=k then pa' p (i - 1) else pa' p i:=fun i=>by
   rw [iL,iL,iL,iL,getElem?_bubble (by omega) _ (by omega)]
   have el:k - (k - l)=l:=by omega
   rw [el]
   split
   ·rfl
   ·split <;> rfl
  have hS:STo lt (bubble p k (k - l)) (k+1):=fun i j hij hj=>by
   rw [g i,g j]
   by_cases hj1:j=l
   ·by_cases hi1:i=l
    ·rw [if_pos hj1,if_pos hi1]; exact hV as _
    ·rw [if_pos hj1,if_neg hi1,if_neg (by omega)]
     exact b3 i (by omega)
   ·rw [if_neg hj1]
    by_cases hi1:i=l
    ·rw [if_pos hi1,if_pos (by omega)]
     exact as _ _ (b4 (j - 1) (by omega) (by omega))
    ·rw [if_neg hi1]
     by_cases hj2:l < j/\j<=k
     ·rw [if_pos hj2]
      by_cases hi2:l < i/\i<=k
      ·rw [if_pos hi2]; exact h _ _ (by omega) (by omega)
      ·rw [if_neg hi2]; exact h _ _ (by omega) (by omega)
     ·rw [if_neg hj2,if_neg (by omega)]
      exact h _ _ hij (by omega)
  have ih:=JJ f (bubble p k (k - l)) (k+1) (by omega) (by rw [bubble_size]; omega) hS
  rw [e]
  exact ⟨ih.1.trans (bubble_perm _ _ _),by rw [show k+(f+1)=k+1+f by omega]; exact ih.2⟩
theorem N4 {n:Nat} (h1:1<=n):(evT lt (kas_sort n)).toList.Perm (List.range n)/\(evT lt (kas_sort n)).toList.Pairwise (fun i j=>lt j i=false):=by
 have e:evT lt (kas_sort n)=evT lt (if (evT lt (kas_count n (List.toArray (List.range n)))).1 < n then kas_bin (n - max (evT lt (kas_count n (List.toArray (List.range n)))).1 1) (evT lt (kas_count n (List.toArray (List.range n)))).2 (max (evT lt (kas_count n (List.toArray (List.range n)))).1 1) else .ret (evT lt (kas_count n (List.toArray (List.range n)))).2):=by
  unfold kas_sort
  rw [kF]
 obtain ⟨a1,a2,a3,a4⟩:=JI tr as (nrem:=n) (p:=List.toArray (List.range n)) h1 (by simp)
 generalize evT lt (kas_count n (List.toArray (List.range n)))=r at e a1 a2 a3 a4
 have fin:∀ p:Array Nat,p.Perm (List.toArray (List.range n))->STo lt p n->p.toList.Perm (List.range n)/\p.toList.Pairwise (fun i j=>lt j i=false):=fun p hp hs=>by
  have hsz:p.size=n:=by rw [hp.size_eq]; simp
  refine ⟨by simpa using Array.perm_iff_toList_perm.mp hp,?_⟩
  rw [List.pairwise_iff_getElem]
  intro i j hi hj hij
  have hi':i < p.size:=by simpa using hi
  have hj':j < p.size:=by simpa using hj
  have:=hs i j (Nat.le_of_lt hij) (by omega)
  simpa [pa',Array.getD,hi',hj'] using this
 rw [e]
 by_cases hlt:r.1 < n
 ·rw [if_pos hlt]
  have hm:max r.1 1=r.1:=by omega
  rw [hm]
  obtain ⟨b1,b2⟩:=JJ tr as (n - r.1) r.2 r.1 a1 (by rw [a3.size_eq]; simp; omega) a4
  refine fin _ (b1.trans a3) ?_
  rw [show r.1+(n - r.1)=n by omega] at b2
  exact b2
 ·rw [if_neg hlt]
  have:r.1=n:=by omega
  exact fin _ a3 (this ▸ a4)
end
end L2
set_option Elab.async false
set_option linter.all false
set_option maxRecDepth 100000
namespace L2
open PySem PySem.Spec PyProof.Rows PySem.SeqAt PySem.W
def InP {α:Type} (n:Nat) (P:α->Prop):KasT α->Prop
 | .ret a=>P a
 | .ask i j k=>i < n/\j < n/\∀ b,InP n P (k b)
theorem InP.bind {α β:Type} {n:Nat} {P:α->Prop} {Q:β->Prop} {f:α->KasT β}:∀ {t:KasT α},InP n P t->(∀ a,P a->InP n Q (f a))->InP n Q (t.bind f)
 | .ret a,h,hf=>hf a h
 | .ask i j k,⟨h1,h2,h3⟩,hf=>⟨h1,h2,fun b=>InP.bind (h3 b) hf⟩
theorem InP.mono {α:Type} {n:Nat} {P Q:α->Prop} (hq:∀ a,P a->Q a):∀ {t:KasT α},InP n P t->InP n Q t
 | .ret a,h=>hq a h
 | .ask i j k,⟨h1,h2,h3⟩=>⟨h1,h2,fun b=>InP.mono hq (h3 b)⟩
def AllLt (n:Nat) (p:Array Nat):Prop:=∀ k,p.getD k 0 < n
theorem AllLt.of {n:Nat} {p q:Array Nat} (h:AllLt n p) (g:∀ k:Nat,q[k]?=none\/∃ k':Nat,q[k]?=p[k']?) (hn:0 < n):AllLt n q:=fun k=>by
 have e:∀ (r:Array Nat) k,r.getD k 0=(r[k]?).getD 0:=fun r k=>by simp [Array.getD_eq_getD_getElem?]
 rw [e]
 rcases g k with h1 | ⟨k',h1⟩
 ·rw [h1]; exact hn
 ·rw [h1,<- e]; exact h k'
theorem AllLt.perm {n:Nat} {p q:Array Nat} (h:AllLt n p) (hp:q.Perm p) (hn:0 < n):AllLt n q:=by
 refine AllLt.of h (fun k=>?_) hn
 cases e:q[k]? with
 | none=>exact .inl rfl
 | some v=>
  right
  have hm:v∈q.toList:=by
   have:q.toList[k]?=some v:=by simpa using e
   exact List.mem_of_getElem? this
  have hm':v∈p.toList:=(Array.perm_iff_toList_perm.mp hp).mem_iff.mp hm
  obtain ⟨k',hk⟩:=List.mem_iff_getElem?.mp hm'
  exact ⟨k',by rw [<- hk]; simp⟩
section
variable {n:Nat} (hn:0 < n)
include hn
theorem BF {p:Array Nat} (h:AllLt n p):∀ f m,InP n (fun _=>True) (kas_asc p f m)
 | 0,m=>trivial
 | f+1,m=>⟨h _,h _,fun b=>by
  cases b with
  | true=>exact trivial
  | false=>exact BF h f (m+1)⟩
theorem qU:∀ f (p:Array Nat) m q,AllLt n p->InP n (fun r=>AllLt n r.1) (kas_desc f p m q)
 | 0,p,m,q,h=>h
 | f+1,p,m,q,h=>⟨h _,h _,fun b=>by
  cases b with
  | true=>
   show InP n _ (if q > 0 then kas_desc f (kas_rev p (m - (q+1)) m) (m+1) 0 else kas_desc f p (m+1) 0)
   by_cases hq:q > 0
   ·rw [if_pos hq]; exact qU f _ _ _ (h.perm (mirror_perm _ _ _ _) hn)
   ·rw [if_neg hq]; exact qU f _ _ _ h
  | false=>exact ⟨h _,h _,fun d=>by
    cases d with
    | true=>exact h
    | false=>exact qU f _ _ _ h⟩⟩
theorem AQ {p:Array Nat} (h:AllLt n p) (m r:Nat):InP n (fun x=>AllLt n x.2) (kas_tail3 m r p):=by
 unfold kas_tail3
 exact InP.bind (BF hn (h.perm (mirror_perm _ _ _ _) hn) _ _) fun a _=>h.perm (mirror_perm _ _ _ _) hn
theorem qV {p:Array Nat} (h:AllLt n p) (m r:Nat):InP n (fun x=>AllLt n x.2) (kas_descPart m r p):=by
 unfold kas_descPart
 refine InP.bind (qU hn _ _ _ _ h) fun a ha=>?_
 by_cases hq:a.2.2 > 0
 ·rw [if_pos hq]; exact AQ hn (ha.perm (mirror_perm _ _ _ _) hn) _ _
 ·rw [if_neg hq]; exact AQ hn ha _ _
theorem Hu {p:Array Nat} (h:AllLt n p) (r:Nat):InP n (fun x=>AllLt n x.2) (kas_count r p):=by
 unfold kas_count
 refine InP.bind (BF hn h _ _) fun a _=>?_
 by_cases h1:(a == r)=true
 ·rw [if_pos h1]; exact h
 ·rw [if_neg h1]
  by_cases h2:a > 1
  ·rw [if_pos h2]
   exact ⟨h _,h _,fun b=>by
    cases b with
    | true=>exact h
    | false=>exact qV hn (h.perm (mirror_perm _ _ _ _) hn) _ _⟩
  ·rw [if_neg h2]; exact qV hn h _ _
theorem tN {p:Array Nat} (h:AllLt n p) (k:Nat):∀ f l r,InP n (fun _=>True) (kas_place p k f l r)
 | 0,l,r=>trivial
 | f+1,l,r=>by
  show InP n _ (if l >= r then .ret l else .ask (p.getD k 0) (p.getD ((l+r) / 2) 0) fun c=>if c=true then kas_place p k f l ((l+r) / 2) else kas_place p k f ((l+r) / 2+1) r)
  by_cases hl:l >= r
  ·rw [if_pos hl]; exact trivial
  ·rw [if_neg hl]
   exact ⟨h _,h _,fun b=>by
    cases b with
    | true=>exact tN h k f _ _
    | false=>exact tN h k f _ _⟩
theorem Gb:∀ f (p:Array Nat) k,AllLt n p->InP n (fun _=>True) (kas_bin f p k)
 | 0,p,k,_=>trivial
 | f+1,p,k,h=>InP.bind (tN hn h k _ _ _) fun l _=>Gb f _ _ (h.perm (bubble_perm _ _ _) hn)
theorem wW:InP n (fun _=>True) (kas_sort n):=by
 have h0:AllLt n (List.toArray (List.range n)):=fun k=>by
  by_cases hk:k < n
  ·simp [Array.getD,hk]
  ·simp [Array.getD,hk,hn]
 unfold kas_sort
 refine InP.bind (Hu hn h0 n) fun r hr=>?_
 by_cases h:r.1 < n
 ·rw [if_pos h]; exact Gb hn _ _ _ hr
 ·rw [if_neg h]; exact trivial
end
theorem wX {α:Type} {n:Nat} {cmp:Nat->Nat->(Bool->Shared->Prop)->Shared->Prop} {lt:Nat->Nat->Bool} {s:Shared} (hc:∀ i j C,i < n->j < n->C (lt i j) s->cmp i j C s) {Q:α->Shared->Prop} {P:α->Prop}:
  ∀ {t:KasT α},InP n P t->Q (evT lt t) s->t.kasWp cmp Q s
 | .ret _,_,h=>h
 | .ask i j k,⟨h1,h2,h3⟩,h=>hc i j _ h1 h2 (wX hc (h3 _) h)
def ltX (n:Nat) (lt:Nat->Nat->Bool) (i j:Nat):Bool:=if i < n then (if j < n then lt i j else true) else false
theorem PF {n:Nat} {lt:Nat->Nat->Bool} (tr:∀ i j k,i < n->j < n->k < n->lt j i=false->lt k j=false->lt k i=false) (i j k:Nat) (h1:ltX n lt j i=false) (h2:ltX n lt k j=false):ltX n lt k i=false:=by
 unfold ltX at*
 by_cases hi:i < n <;> by_cases hj:j < n <;> by_cases hk:k < n <;> simp only [hi,hj,hk,if_true,if_false] at h1 h2 ⊢ <;> first | exact tr i j k hi hj hk h1 h2 | exact absurd h2 (by decide) | exact absurd h1 (by decide) | rfl
theorem PJ {n:Nat} {lt:Nat->Nat->Bool} (as:∀ i j,i < n->j < n->lt i j=true->lt j i=false) (i j:Nat) (h:ltX n lt i j=true):ltX n lt j i=false:=by
 unfold ltX at*
 by_cases hi:i < n <;> by_cases hj:j < n <;> simp only [hi,hj,if_true,if_false] at h ⊢ <;> first | exact as i j hi hj h | exact absurd h (by decide) | rfl
theorem AR {α:Type} {n:Nat} {lt lt':Nat->Nat->Bool} (h:∀ i j,i < n->j < n->lt i j=lt' i j) {P:α->Prop}:∀ {t:KasT α},InP n P t->evT lt t=evT lt' t
 | .ret _,_=>rfl
 | .ask i j k,⟨h1,h2,h3⟩=>by
  show evT lt (k (lt i j))=evT lt' (k (lt' i j))
  rw [h i j h1 h2]
  exact AR h (h3 _)
theorem D8 {n:Nat} {lt:Nat->Nat->Bool} (tr:∀ i j k,i < n->j < n->k < n->lt j i=false->lt k j=false->lt k i=false) (as:∀ i j,i < n->j < n->lt i j=true->lt j i=false) (h1:1<=n):
  (evT lt (kas_sort n)).toList.Perm (List.range n)/\(evT lt (kas_sort n)).toList.Pairwise (fun i j=>lt j i=false):=by
 have e:evT lt (kas_sort n)=evT (ltX n lt) (kas_sort n):=AR (fun i j hi hj=>by unfold ltX; rw [if_pos hi,if_pos hj]) (wW (by omega))
 obtain ⟨a,b⟩:=N4 (lt:=ltX n lt) (PF tr) (PJ as) h1
 rw [e]
 refine ⟨a,b.imp_of_mem fun {i j} hi hj h=>?_⟩
 have hi':i < n:=by simpa using a.mem_iff.mp hi
 have hj':j < n:=by simpa using a.mem_iff.mp hj
 unfold ltX at h
 rw [if_pos hj',if_pos hi'] at h
 exact h
section
variable {prog:Program} {w:World} {A:Around} {E:Value->Shared->Prop} {s:Shared}
theorem vG {a:Addr} {vs:List Value} {n:Nat} {κ:SortKind} {P:PySem.Fin->Shared->Prop} (lt:Nat->Nat->Bool) (tr:∀ i j k,i < vs.length->j < vs.length->k < vs.length->lt j i=false->lt k j=false->lt k i=false) (as:∀ i j,i < vs.length->j < vs.length->lt i j=true->lt j i=false)
  (ho:s.heap.get? a=some (seqObj "list" vs.toArray n)) (h64:vs.length < 64)
  (hk:∀ s':Shared,(∀ b o,b≠a->s.heap.get? b=some o->s'.heap.get? b=some o)->∀ Q:SortKind->Shared->Prop,Q κ s'->wpAny (model prog w) A (keyKind' vs.toArray) Q E s')
  (hlt:∀ s':Shared,(∀ b o,b≠a->s.heap.get? b=some o->s'.heap.get? b=some o)->∀ i j,i < vs.length->j < vs.length->∀ Q:Bool->Shared->Prop,Q (lt i j) s'->wpAny (model prog w) A (keyLt' κ (vs.getD i Value.none) (vs.getD j Value.none)) Q (fun _ _=>False) s')
  (h:∀ p:List Nat,p.Perm (List.range vs.length)->p.Pairwise (fun i j=>lt j i=false)->P (.done (.ret .none)) { s with heap:=sortedHeap s.heap a vs (p.map fun i=>vs.getD i Value.none).toArray }):
  wpAny (model prog w) A (Builtin.«list.sort» ⟨[.ref a],[]⟩) P E s:=by
 rw [list_sort_plain]
 have ha:a < s.heap.objs.size:=Heap.lt_size ho
 refine wpAny_bind (listItems_at ho rfl ?_)
 refine wpAny_bind (listUpdate_at ho rfl ?_ (by rw [List.size_toArray,sizeLine_eq]; omega) (Nat.zero_le _))
 obtain ⟨e1,ho1⟩:∃ e1,(s.heap.update a (Obj.mapSeq fun _=>#[])).get? a=some (seqObj "list" #[] e1):=⟨_,get?_update_seq ho (fun _=>#[])⟩
 refine wpAny_bind (seqEpoch_at ho1 rfl ?_)
 refine wpAny_bind (wpAny_newTuple ?_ (by show vs.length<=_; rw [sizeLine_eq]; omega))
 refine wpAny_bind (wpAny_newList ?_ (Nat.zero_le _))
 refine wpAny_holding ?_
 have ho6:(((s.heap.update a (Obj.mapSeq fun _=>#[])).push (seqObj "tuple" vs.toArray 0)).push (seqObj "list" #[] 0)).get? a=some (seqObj "list" #[] e1):=by
  rw [Heap.get?_push_ne _ _ _ (by rw [size_push',Heap.size_update]; exact Nat.ne_of_lt (Nat.lt_succ_of_lt ha)),Heap.get?_push_ne _ _ _ (by rw [Heap.size_update]; exact Nat.ne_of_lt ha)]
  exact ho1
 have kept:∀ b o,b≠a->s.heap.get? b=some o->(((s.heap.update a (Obj.mapSeq fun _=>#[])).push (seqObj "tuple" vs.toArray 0)).push (seqObj "list" #[] 0)).get? b=some o:=fun b o hb e=>
  Heap.get?_push_of_some _ (Heap.get?_push_of_some _ ((Heap.get?_update_other s.heap (Obj.mapSeq fun _=>#[]) (Ne.symm hb)).trans e))
 show wpAny (model prog w) A _ P E { s with heap:=((s.heap.update a (Obj.mapSeq fun _=>#[])).push (seqObj "tuple" vs.toArray 0)).push (seqObj "list" #[] 0) }
 dsimp only
 have hsz:vs.toArray.size=vs.length:=by simp
 by_cases h2:vs.toArray.size < 2
 ·rw [if_pos h2,if_pos h2]
  refine wpAny_bind (wpAny_pure ?_)
  rw [StateT.run_pure]
  refine wpAny_bind (wpAny_pure ?_)
  dsimp only
  refine wpAny_bind (seqEpoch_at ho6 rfl ?_)
  refine wpAny_bind (listUpdate_at ho6 rfl ?_ (Nat.zero_le _) (hsz2:=by rw [Array.size_map]; show (pairsOf vs).size<=_; rw [pairsOf_size,sizeLine_eq]; omega))
  simp only [bne_self_eq_false,Bool.false_eq_true,if_false]
  have e:(vs.toArray.zip vs.toArray).map (·.2)=((List.range vs.length).map fun i=>vs.getD i Value.none).toArray:=by
   apply Array.toList_inj.mp
   apply List.ext_getElem?
   intro i
   by_cases hi:i < vs.length
   ·simp [hi]
   ·simp [hi]
  have key:=h (List.range vs.length) (List.Perm.refl _) (by
   rw [List.pairwise_iff_getElem]
   intro i j hi hj hij
   simp only [List.length_range] at hi hj
   omega)
  rw [<- e] at key
  exact wpAny_pure key
 ·rw [if_neg h2,if_neg h2]
  have h2':2<=vs.length:=by omega
  refine wpAny_bind (hk _ kept _ ?_)
  refine wpAny_bind (wpAny_mono (kat_run (ks:=vs) (vs:=vs) (E:=E) (Q:=fun st' s'=>s'={ s with heap:=((s.heap.update a (Obj.mapSeq fun _=>#[])).push (seqObj "tuple" vs.toArray 0)).push (seqObj "list" #[] 0) }/\arrOf st'=(evT lt (kas_sort vs.length)).map (kas_item (vs.toArray.zip vs.toArray))/\failedOf st'=none)
   (G:=fun p s'=>p=evT lt (kas_sort vs.length)/\s'={ s with heap:=((s.heap.update a (Obj.mapSeq fun _=>#[])).push (seqObj "tuple" vs.toArray 0)).push (seqObj "list" #[] 0) }) rfl h2' h64 (fun p st' s' _ a2 a3 a4=>⟨a4.2,by rw [a2,a4.1],a3⟩)
   (wX (n:=vs.length) (lt:=lt) (fun i j C hi hj hC=>hlt _ kept i j hi hj C hC) (wW (by omega)) ⟨rfl,rfl⟩)) ?_ fun _ _ e=>e)
  rintro ⟨⟨⟩,st'⟩ s' ⟨rfl,har,hf⟩
  dsimp only
  have hout:=kat_snds (ks:=vs) (vs:=vs) rfl har
  obtain ⟨c1,c2⟩:=D8 tr as (by omega)
  refine wpAny_bind (seqEpoch_at ho6 rfl ?_)
  refine wpAny_bind (listUpdate_at ho6 rfl ?_ (Nat.zero_le _) (hsz2:=by
   have:(Array.map (fun x=>x.snd) (arrOf st')).size<=sizeLine:=by
    rw [hout,List.size_toArray,List.length_map,c1.length_eq,List.length_range,sizeLine_eq]
    omega
   first | exact this | exact Nat.le_succ_of_le this))
  rw [hf]
  simp only [bne_self_eq_false,Bool.false_eq_true,if_false]
  have key:=h _ c1 c2
  rw [<- hout] at key
  exact wpAny_pure key
end
end L2
set_option Elab.async false
set_option linter.all false
set_option maxRecDepth 100000
namespace L2
open PySem PySem.Spec PyProof.Rows PySem.SeqAt PySem.W
section
variable {prog:Program} {w:World} {A:Around} {E:Value->Shared->Prop} {s:Shared}
theorem tO {a:Addr} {n:Nat} {P:PySem.Fin->Shared->Prop} (ho:s.heap.get? a=some (seqObj "list" ([]:List Value).toArray n)) (h:P (.done (.ret .none)) { s with heap:=sortedHeap s.heap a [] #[] }):wpAny (model prog w) A (Builtin.«list.sort» ⟨[.ref a],[]⟩) P E s:=by
 rw [list_sort_plain]
 refine wpAny_bind (listItems_at ho rfl ?_)
 refine wpAny_bind (listUpdate_at ho rfl ?_ (Nat.zero_le _) (Nat.zero_le _))
 have ha:a < s.heap.objs.size:=Heap.lt_size ho
 obtain ⟨e1,ho1⟩:∃ e1,(s.heap.update a (Obj.mapSeq fun _=>#[])).get? a=some (seqObj "list" #[] e1):=⟨_,get?_update_seq ho (fun _=>#[])⟩
 refine wpAny_bind (seqEpoch_at ho1 rfl ?_)
 refine wpAny_bind (wpAny_newTuple ?_ (Nat.zero_le _))
 refine wpAny_bind (wpAny_newList ?_ (Nat.zero_le _))
 refine wpAny_holding ?_
 have ho6:(((s.heap.update a (Obj.mapSeq fun _=>#[])).push (seqObj "tuple" ([]:List Value).toArray 0)).push (seqObj "list" #[] 0)).get? a=some (seqObj "list" #[] e1):=by
  rw [Heap.get?_push_ne _ _ _ (by rw [size_push',Heap.size_update]; exact Nat.ne_of_lt (Nat.lt_succ_of_lt ha)),Heap.get?_push_ne _ _ _ (by rw [Heap.size_update]; exact Nat.ne_of_lt ha)]
  exact ho1
 show wpAny (model prog w) A _ P E { s with heap:=((s.heap.update a (Obj.mapSeq fun _=>#[])).push (seqObj "tuple" ([]:List Value).toArray 0)).push (seqObj "list" #[] 0) }
 dsimp only
 rw [if_pos (by decide),if_pos (by decide)]
 refine wpAny_bind (wpAny_pure ?_)
 rw [StateT.run_pure]
 refine wpAny_bind (wpAny_pure ?_)
 dsimp only
 refine wpAny_bind (seqEpoch_at ho6 rfl ?_)
 have e0:(Array.map (fun x=>x.snd) (arrOf (SortSt.mk' general' ((#[]:Array Value).zip (#[]:Array Value)) #[] 7 none)))=(#[]:Array Value):=by
  show Array.map (fun x=>x.snd) ((#[]:Array Value).zip (#[]:Array Value))=#[]
  simp
 refine wpAny_bind (listUpdate_at ho6 rfl ?_ (Nat.zero_le _) (hsz2:=by
  have e1:(Array.map (fun x=>x.snd) (arrOf (SortSt.mk' general' ((#[]:Array Value).zip (#[]:Array Value)) #[] 7 none))).size=0:=by rw [e0]; rfl
  first | exact Nat.le_trans (Nat.le_of_eq e1) (Nat.zero_le _) | (show _<=_; omega)))
 simp only [bne_self_eq_false,Bool.false_eq_true,if_false]
 refine wpAny_pure ?_
 show P (.done (.ret .none)) { s with heap:=(((s.heap.update a (Obj.mapSeq fun x=>#[])).push (seqObj "tuple" ([]:List Value).toArray 0)).push (seqObj "list" #[] 0)).update a (Obj.mapSeq fun x=>Array.map (fun x=>x.snd) (arrOf (SortSt.mk' general' ((#[]:Array Value).zip (#[]:Array Value)) #[] 7 none))) }
 rw [e0]
 exact h
theorem Hv {v:Value} {Q:Value->Shared->Prop} {κ:SortKind} (Col:List Value->Shared->Prop) (hc:wpAny (model prog w) A.in1 (collect v) Col E s)
  (h:∀ vs s1,Col vs s1->vs.length < 64/\∃ lt:Nat->Nat->Bool,(∀ i j k,i < vs.length->j < vs.length->k < vs.length->lt j i=false->lt k j=false->lt k i=false)/\(∀ i j,i < vs.length->j < vs.length->lt i j=true->lt j i=false)/\
   (∀ (A':Around) (s':Shared),(∀ b o,s1.heap.get? b=some o->s'.heap.get? b=some o)->0 < vs.length->∀ (Q:SortKind->Shared->Prop) E',Q κ s'->wpAny (model prog w) A' (keyKind' vs.toArray) Q E' s')/\
   (∀ (s':Shared),(∀ b o,s1.heap.get? b=some o->s'.heap.get? b=some o)->∀ i j,i < vs.length->j < vs.length->∀ Q:Bool->Shared->Prop,Q (lt i j) s'->wpAny (model prog w) A.in1.in1 (keyLt' κ (vs.getD i Value.none) (vs.getD j Value.none)) Q (fun _ _=>False) s')/\
   ∀ (p:List Nat) (h':Heap) (e:Nat),p.Perm (List.range vs.length)->p.Pairwise (fun i j=>lt j i=false)->(∀ b o,s1.heap.get? b=some o->h'.get? b=some o)->h'.get? s1.heap.objs.size=some (seqObj "list" (p.map fun i=>vs.getD i Value.none).toArray e)->Q (.ref s1.heap.objs.size) { s1 with heap:=h' }):
  wpAny (model prog w) A (call (.builtin "sorted") [v]) Q E s:=by
 refine Calls.call_function_entry kind_sorted plain_sorted entry_sorted (args_sorted1 _) ?_
 unfold Builtin.«sorted»
 refine wpAny_bind (m:=checkCount "sorted" 1 1 _) (wpAny_pure ?_)
 refine wpAny_bind (wpAny_mono hc (fun vs s1 c=>?_) fun _ _ x=>x)
 obtain ⟨h64,lt,tr,as,hk,hlt,fin⟩:=h vs s1 c
 refine wpAny_bind (wpAny_newList ?_ (by rw [sizeLine_eq]; omega))
 have hoL:(s1.heap.push (seqObj "list" vs.toArray 0)).get? s1.heap.objs.size=some (seqObj "list" vs.toArray 0):=Heap.get?_push_size _ rfl
 have keep:∀ b o,s1.heap.get? b=some o->b≠s1.heap.objs.size/\(s1.heap.push (seqObj "list" vs.toArray 0)).get? b=some o:=fun b o q=>⟨Nat.ne_of_lt (Heap.lt_size q),Heap.get?_push_of_some _ q⟩
 show wpAny _ _ _ _ _ { s1 with heap:=s1.heap.push (seqObj "list" vs.toArray 0) }
 refine wpAny_bind (wpAny_holding (wpAny_call_entry slot_list_sort ⟨_,hoL,rfl⟩ entry_list_sort ?_ (args_list_sort _)))
 have tree:wpAny (model prog w) A.in1.in1 (Builtin.«list.sort» ⟨[.ref s1.heap.objs.size],[]⟩) (fun r s'=>∃ p:List Nat,r=.done (.ret .none)/\p.Perm (List.range vs.length)/\p.Pairwise (fun i j=>lt j i=false)/\s'={ s1 with heap:=sortedHeap (s1.heap.push (seqObj "list" vs.toArray 0)) s1.heap.objs.size vs (p.map fun i=>vs.getD i Value.none).toArray }) E { s1 with heap:=s1.heap.push (seqObj "list" vs.toArray 0) }:=by
  by_cases h0:0 < vs.length
  ·exact vG (κ:=κ) lt tr as hoL h64 (fun s' kp Q hq=>hk _ s' (fun b o e=>kp b o (keep b o e).1 (keep b o e).2) h0 Q _ hq) (fun s' kp i j hi hj Q hq=>hlt s' (fun b o e=>kp b o (keep b o e).1 (keep b o e).2) i j hi hj Q hq) fun p a1 a2=>⟨p,rfl,a1,a2,rfl⟩
  ·have e0:vs=[]:=List.length_eq_zero_iff.mp (by omega)
   subst e0
   exact tO hoL ⟨[],rfl,List.Perm.refl _,List.Pairwise.nil,rfl⟩
 refine wpAny_mono tree (fun r s' hr=>?_) fun _ _ x=>x
 obtain ⟨p,rfl,a1,a2,rfl⟩:=hr
 refine ⟨_,rfl,wpAny_pure ⟨_,rfl,?_⟩⟩
 obtain ⟨e,he⟩:=sortedHeap_at (h:=s1.heap.push (seqObj "list" vs.toArray 0)) (out:=(p.map fun i=>vs.getD i Value.none).toArray) hoL
 exact fin p _ e a1 a2 (fun b o q=>(sortedHeap_old (keep b o q).1 (by rw [size_push']; exact Nat.lt_succ_of_lt (Heap.lt_size q))).trans (keep b o q).2) he
end
end L2
set_option Elab.async false
set_option linter.all false
set_option maxRecDepth 100000
namespace L2
open PySem PySem.Spec PyProof.Rows PySem.SeqAt PySem.W
section
variable {X:Cx} {pins:List (Addr×Obj)} {σ:St} {H:Hp} {s:Shared} {h':Heap}
end
section
variable {X:Cx}
theorem Hw {α:Type} {xs:List α} {d:α} {p:List Nat} (h:p.Perm (List.range xs.length)):(p.map fun i=>xs.getD i d).Perm xs:=by
 have e:(List.range xs.length).map (fun i=>xs.getD i d)=xs:=by
  apply List.ext_getElem?
  intro i
  by_cases hi:i < xs.length
  ·simp [hi]
  ·simp [hi]
 have:=h.map fun i=>xs.getD i d
 rwa [e] at this
theorem AS {vs:List V} {us:List Value} (r:aP vs us):∀ {p:List Nat},(∀ i∈p,i < vs.length)->aP (p.map fun i=>vs.getD i .non) (p.map fun i=>us.getD i Value.none)
 | [],_=>.nil
 | i :: p,h=>by
  have hi:=h i List.mem_cons_self
  have g:vs[i]?=some (vs.getD i .non):=by simp [hi]
  obtain ⟨u,hu,hr⟩:=r.get g
  have e:us.getD i Value.none=u:=by simp [List.getD_eq_getElem?_getD,hu]
  refine .cons ?_ (AS r fun j hj=>h j (List.mem_cons_of_mem _ hj))
  show RelV (vs.getD i .non) (us.getD i Value.none)
  rw [e]
  exact hr
end
end L2
set_option Elab.async false
set_option linter.all false
set_option maxRecDepth 100000
namespace L2
open PySem PySem.Spec PyProof.Rows
section
variable {prog:Program} {w:World} {K:Type} [DecidableEq K] {knd:KeyKind prog w K} {A:Around} {R:Result->Shared->Prop}
end
end L2
set_option Elab.async false
set_option linter.all false
set_option maxRecDepth 100000
namespace L2
open PySem PySem.Spec PyProof.Rows
section
variable {prog:Program} {w:World} {K:Type} [DecidableEq K] {A:Around} {E:Value->Shared->Prop} {s:Shared}
theorem vH {knd:HeapKind prog w K} {d a:Addr} {xs:List (K×Addr×Value)} {k:K} {x:Value} {Q:Value->Shared->Prop} (hu:knd.room A) (hkey:knd.is s.heap k a) (hm:s.heap.DictOfH knd d xs) (hz:xs.length<=sizeLine)
  (there:∀ p,atKey xs k=some p->Q p.2 { s with toks:=s.toks+knd.draws k })
  (new:atKey xs k=none->∀ h',h'.DictOfH knd d (storedH xs k a x)->Heap.SameBut d s.heap h'->Q x { s with heap:=h',toks:=s.toks+knd.draws k }):wpAny (model prog w) A (dictSetDefault d (.ref a) x) Q E s:=by
 obtain ⟨o,es,ep,ho,hc,hd,he,his,hn⟩:=hm
 unfold dictSetDefault
 refine wpAny_holding (wpAny_bind (knd.pyHash hu hkey ?_))
 refine wpAny_bind (wpAny_dictFind_heap (s:={ s with toks:=s.toks+knd.draws k }) hu hkey ho hd he his hn (fun hno=>?_) (fun j p hj=>?_))
 ·have hat:=atKey_none_of_get hno
  have fresh:=not_mem_keys_of_get hno
  refine wpAny_bind (wpAny_rule (wpAny_bind (wpAny_updateDictKeys (hz:=by have e:=size_of_entries he; omega) (s:={ s with toks:=s.toks+knd.draws k }) ho hd (wpAny_pure (new hat _ ⟨_,_,ep+1,Heap.get?_update_self _ ho (Obj.isFreed_of_dict (Obj.data_mapDictKeys hd _)),hc.mapDictKeys _,Obj.data_mapDictKeys hd _,?_,?_,?_⟩ (Heap.SameBut.update ..))))))
  ·rw [storedH_new hat,Array.toList_push,he,List.map_append]; rfl
  ·rw [storedH_new hat]
   intro z hz'
   rcases List.mem_append.mp hz' with q | q
   ·exact knd.keeps (his z q) ho hd (Heap.SameBut.update ..)
   ·rw [List.mem_singleton.mp q]
    exact knd.keeps hkey ho hd (Heap.SameBut.update ..)
  ·rw [storedH_new hat,List.map_append,List.nodup_append]
   refine ⟨hn,by simp,fun u hu' v hv e=>fresh ?_⟩
   have:v=k:=by simpa using hv
   rw [<- this,<- e]
   exact hu'
 ·have hat:atKey xs k=some p:=atKey_of_get hn hj
  refine wpAny_bind (wpAny_dictEntries (s:={ s with toks:=s.toks+knd.draws k }) ho hd ?_)
  rw [entry_at he j,hj]
  exact wpAny_bind (wpAny_rule (wpAny_pure (there p hat)))
theorem tP {knd:KeyKind prog w K} {d:Addr} {kvs:List (K×Value)} {k:K} {key x:Value} {Q:Value->Shared->Prop} (hkey:knd.is k key=true) (hm:s.heap.DictOf knd d kvs) (hz:kvs.length<=sizeLine)
  (there:∀ v,valueAt kvs k=some v->Q v { s with toks:=s.toks+1 })
  (new:valueAt kvs k=none->∀ h',h'.DictOf knd d (stored kvs k x)->Heap.SameBut d s.heap h'->Q x { s with heap:=h',toks:=s.toks+1 }):wpAny (model prog w) A (dictSetDefault d key x) Q E s:=by
 have hmap:=hm.mapOf
 obtain ⟨o,es,ep,ho,hc,hd,hk,hp,hn⟩:=id hm
 have hes:es.size<=sizeLine:=by
  have e1:=hp.length
  rw [Array.length_toList] at e1
  omega
 unfold dictSetDefault
 refine wpAny_holding (wpAny_bind (knd.pyHash hkey (wpAny_bind (wpAny_dictFind_of (s:={ s with toks:=s.toks+1 }) hkey ho hd hk ?_))))
 have hidx:(es.findIdx? fun e=>knd.is k e.key)=kvs.findIdx? fun kv=>decide (kv.1=k):=by rw [<- hp.findIdx k]; obtain ⟨l⟩:=es; simp
 cases hi:es.findIdx? fun e=>knd.is k e.key with
 | some i=>
  refine wpAny_bind (wpAny_dictEntries (s:={ s with toks:=s.toks+1 }) ho hd ?_)
  obtain ⟨o',es',ep',ho',_,hd',_,hf⟩:=hmap
  obtain rfl:o=o':=Option.some.inj (ho.symm.trans ho')
  have ees:es=es':=by rw [hd] at hd'; injection hd'
  subst ees
  have hfk:valueAt kvs k=(es[i]?).map (·.val):=by rw [<- hf k,findBy_of_findIdx?,hi]
  have hlt:i < es.size:=(Array.findIdx?_eq_some_iff_findIdx_eq.mp hi).1
  rw [Array.getElem?_eq_getElem hlt] at hfk ⊢
  exact wpAny_bind (wpAny_rule (wpAny_pure (there _ hfk)))
 | none=>
  have fresh:k∉kvs.map (·.1):=not_mem_of_findIdx_none (hidx ▸ hi)
  have hany:¬ (kvs.any fun kv=>decide (kv.1=k))=true:=by
   rw [List.any_eq_true]
   rintro ⟨kv,q1,q2⟩
   exact fresh (List.mem_map.mpr ⟨kv,q1,of_decide_eq_true q2⟩)
  have hv:valueAt kvs k=none:=by
   obtain ⟨o',es',ep',ho',_,hd',_,hf⟩:=hmap
   obtain rfl:o=o':=Option.some.inj (ho.symm.trans ho')
   have ees:es=es':=by rw [hd] at hd'; injection hd'
   subst ees
   rw [<- hf k,findBy_of_findIdx?,hi]
  refine wpAny_bind (wpAny_rule (wpAny_bind (wpAny_updateDictKeys (hz:=hes) (s:={ s with toks:=s.toks+1 }) ho hd (wpAny_pure (new hv _ ⟨_,_,ep+1,Heap.get?_update_self _ ho (Obj.isFreed_of_dict (Obj.data_mapDictKeys hd _)),hc.mapDictKeys _,Obj.data_mapDictKeys hd _,hk.push hkey _,?_,?_⟩ (Heap.SameBut.update ..))))))
  ·rw [stored,if_neg hany]
   have q:=hp.append hkey (knd.hash k) x
   obtain ⟨l⟩:=es
   simpa using q
  ·rw [stored,if_neg hany,List.map_append,List.nodup_append]
   refine ⟨hn,by simp,fun u hu' v hv' e=>fresh ?_⟩
   have:v=k:=by simpa using hv'
   rw [<- this,<- e]
   exact hu'
end
section
variable {prog:Program} {w:World} {K:Type} [DecidableEq K]
theorem mS (knd:HeapKind prog w K) (d a:Addr) (hd:(d == sysModules)=false) (x:Value):
  MeetsIn prog w (Builtin.«dict.setdefault» ⟨[.ref d,.ref a,x],[]⟩) (fun A R s=>knd.room A.in1/\∃ k xs,knd.is s.heap k a/\s.heap.DictOfH knd d xs/\xs.length<=sizeLine/\(∀ p,atKey xs k=some p->R (.ok (.ret p.2)) { s with toks:=s.toks+knd.draws k })/\
   (atKey xs k=none->∀ h',h'.DictOfH knd d (storedH xs k a x)->Heap.SameBut d s.heap h'->R (.ok (.ret x)) { s with heap:=h',toks:=s.toks+knd.draws k })):=
 .of_wp fun A R s ⟨hu,k,xs,hkey,hm,hz,r1,r2⟩=>by
  unfold Builtin.«dict.setdefault»
  refine wpAny_bind ?_; unfold Builtin.Dict.keyAndDefault
  refine wpAny_bind (wpAny_notOrdered_dict hm.typeIs (show wpAny _ _ (pure (d,Value.ref a,some x)) _ _ s from wpAny_pure ?_))
  show wpAny _ _ (if (d == sysModules)=true then _ else (dictSetDefault d (.ref a) x >>= _)) _ _ s
  rw [if_neg (show ¬ _ from by rw [hd]; decide)]
  exact wpAny_bind (vH hu hkey hm hz (fun p e=>wpAny_pure ⟨p.2,rfl,r1 p e⟩) fun e h' q1 q2=>wpAny_pure ⟨x,rfl,r2 e h' q1 q2⟩)
theorem lK (knd:KeyKind prog w K) (d:Addr) (hd:(d == sysModules)=false) {k:K} {key:Value} (hkey:knd.is k key=true) (x:Value):
  MeetsIn prog w (Builtin.«dict.setdefault» ⟨[.ref d,key,x],[]⟩) (fun A R s=>∃ kvs,s.heap.DictOf knd d kvs/\kvs.length<=sizeLine/\(∀ v,valueAt kvs k=some v->R (.ok (.ret v)) { s with toks:=s.toks+1 })/\
   (valueAt kvs k=none->∀ h',h'.DictOf knd d (stored kvs k x)->Heap.SameBut d s.heap h'->R (.ok (.ret x)) { s with heap:=h',toks:=s.toks+1 })):=
 .of_wp fun A R s ⟨kvs,hm,hz,r1,r2⟩=>by
  unfold Builtin.«dict.setdefault»
  refine wpAny_bind ?_; unfold Builtin.Dict.keyAndDefault
  refine wpAny_bind (wpAny_notOrdered_dict hm.typeIs (show wpAny _ _ (pure (d,key,some x)) _ _ s from wpAny_pure ?_))
  show wpAny _ _ (if (d == sysModules)=true then _ else (dictSetDefault d key x >>= _)) _ _ s
  rw [if_neg (show ¬ _ from by rw [hd]; decide)]
  exact wpAny_bind (tP hkey hm hz (fun v e=>wpAny_pure ⟨v,rfl,r1 v e⟩) fun e h' q1 q2=>wpAny_pure ⟨x,rfl,r2 e h' q1 q2⟩)
end
end L2
set_option Elab.async false
set_option linter.all false
set_option maxRecDepth 100000
namespace L2
open PySem PySem.Spec PyProof.Rows
section
variable {prog:Program} {w:World} {A:Around} {E:Value->Shared->Prop} {s:Shared} {v dc it:Addr} {oc:Obj} {es:Array DictEntry} {ep:Nat}
theorem Hx {Q:Value->Shared->Prop} (hv:s.heap.IsValuesView v dc) (h1:s.heap.get? dc=some oc) (h2:oc.data=.dict es ep)
  (q:Q (.ref s.heap.objs.size) { s with heap:=s.heap.push { cls:=.type "dict_valueiterator",data:=.fields #[.ref dc,.int 0 0,.int es.size 0,.int ep 0] } }):wpAny (model prog w) A (pyIter (.ref v)) Q E s:=by
 obtain ⟨ov,g1,g2,g3⟩:=id hv
 refine wpAny_pyIter_slot hv.typeIs F.slot_dict_values_iter (wpAny_call_entry F.slot_dict_values_iter hv.typeIs F.entry_dict_values_iter (show wpAny _ _ (Builtin.«dict_values.__iter__» _) _ _ _ from ?_) (F.args_dict_values_iter_1 _))
 unfold Builtin.«dict_values.__iter__»
 refine wpAny_bind (wpAny_pure (wpAny_bind ?_)); unfold Builtin.Dict_items.dictOf
 refine wpAny_bind (wpAny_field g1 g3 (x:=.ref dc) rfl (wpAny_pure (wpAny_bind ?_))); unfold Builtin.Dict_items.newIterator
 refine wpAny_bind (wpAny_dictEntries h1 h2 (wpAny_bind (wpAny_dictEpoch h1 h2 ?_)))
 rw [show Builtin.Dict_items.ownsTuple "dict_valueiterator" = false by decide]; simp only [Bool.false_eq_true,if_false]
 refine wpAny_newObj_type (wpAny_pure ⟨_,rfl,"dict_valueiterator",_,⟨_,Heap.get?_push_size _ rfl,rfl⟩,F.slot_dict_valueiterator_next.lookup,(by simpa [rawInt] using q)⟩)
theorem JK {i:Nat} {Q:Option Value->Shared->Prop} (hI:s.heap.IsValIter it dc i es.size ep) (h1:s.heap.get? dc=some oc) (h2:oc.data=.dict es ep) (hlt:i < es.size)
  (q:∀ h',h'.IsValIter it dc (i+1) es.size ep->Heap.SameBut it s.heap h'->Q (some es[i].val) { s with heap:=h' }):wpAny (model prog w) A (pyNext (.ref it)) Q E s:=by
 obtain ⟨oi,g1,g2,g3⟩:=id hI
 unfold pyNext
 refine wpAny_bind (wpAny_attempt (wpAny_callSpecial?_slot (name:=Str.ofString "__next__") hI.typeIs F.slot_dict_valueiterator_next (wpAny_call_entry F.slot_dict_valueiterator_next hI.typeIs F.entry_dict_valueiterator_next ?_ (F.args_dict_valueiterator_next_1 _))))
 refine wpAny_bind (wpAny_pure (wpAny_bind (wpAny_bind ?_)))
 first | refine wpAny_bind (wpAny_typeNameOfWhole_valiter hI.typeIs (wpAny_pure ?_)) | refine wpAny_bind (wpAny_typeNameOf_valiter hI.typeIs (wpAny_pure ?_))
 refine wpAny_bind (wpAny_fieldsOf g1 g3 ?_)
 rw [show Builtin.Dict_items.ownsTuple "dict_valueiterator" = false by decide]; simp only [Bool.false_eq_true,if_false]
 show wpAny _ _ (if (Value.ref dc == Value.none)=true then _ else _) _ _ s
 rw [if_neg (show ¬ ((Value.ref dc == Value.none)=true) from Bool.false_ne_true)]
 refine wpAny_bind (wpAny_pure (wpAny_bind (wpAny_dictEntries h1 h2 ?_)))
 rw [if_neg (show ¬ _ by simp)]
 refine wpAny_bind (wpAny_pure (wpAny_bind (wpAny_dictEpoch h1 h2 ?_)))
 rw [if_neg (show ¬ _ by simp)]
 refine wpAny_pure ?_
 simp only [show ¬ ((i:Int) < 0) by omega,if_false,Int.toNat_natCast,Array.getElem?_eq_getElem hlt]
 refine wpAny_bind ?_
 first | refine wpAny_bind (wpAny_typeNameOfWhole_valiter hI.typeIs (wpAny_pure ?_)) | refine wpAny_bind (wpAny_typeNameOf_valiter hI.typeIs (wpAny_pure ?_))
 refine wpAny_bind (wpAny_isOneOf_valiter hI.typeIs (show wpAny _ _ (setField (.ref it) 1 (rawInt ((i:Int)+1)) >>= _) _ _ s from wpAny_bind (wpAny_setField g1 g3 (by simp) ?_)))
 have hI':(s.heap.update it (Obj.mapFields (·.setIfInBounds 1 (rawInt ((i:Int)+1))))).IsValIter it dc (i+1) es.size ep:=
  ⟨_,Heap.get?_update_self _ g1 (Obj.isFreed_of_fields (Obj.data_mapFields g3 _)),(Obj.cls_mapFields ..).trans g2,by rw [Obj.data_mapFields g3]; simp [rawInt]⟩
 have ty':({ s with heap:=s.heap.update it (Obj.mapFields (·.setIfInBounds 1 (rawInt ((i:Int)+1)))) }:Shared).TypeIs (.ref it) "dict_valueiterator" := hI'.typeIs
 refine wpAny_bind (wpAny_holding (wpAny_bind (wpAny_isOneOf_valiter ty' (wpAny_bind (wpAny_isOneOf_valiter ty' ?_)))))
 show wpAny _ _ (pure es[i].val) _ _ _
 exact wpAny_pure (wpAny_pure ⟨_,rfl,wpAny_pure (q _ hI' (Heap.SameBut.update ..))⟩)
theorem JL {i:Nat} {Q:Option Value->Shared->Prop} (hh:A.handled=none) (hI:s.heap.IsValIter it dc i es.size ep) (h1:s.heap.get? dc=some oc) (h2:oc.data=.dict es ep) (hge:es.size<=i)
  (q:∀ h',Heap.ExtBut it s.heap h'->Q none { s with heap:=h' }):wpAny (model prog w) A (pyNext (.ref it)) Q E s:=by
 obtain ⟨oi,g1,g2,g3⟩:=id hI
 unfold pyNext
 refine wpAny_bind (wpAny_attempt (wpAny_callSpecial?_slot (name:=Str.ofString "__next__") hI.typeIs F.slot_dict_valueiterator_next (wpAny_call_entry F.slot_dict_valueiterator_next hI.typeIs F.entry_dict_valueiterator_next ?_ (F.args_dict_valueiterator_next_1 _))))
 refine wpAny_bind (wpAny_pure (wpAny_bind (wpAny_bind ?_)))
 first | refine wpAny_bind (wpAny_typeNameOfWhole_valiter hI.typeIs (wpAny_pure ?_)) | refine wpAny_bind (wpAny_typeNameOf_valiter hI.typeIs (wpAny_pure ?_))
 refine wpAny_bind (wpAny_fieldsOf g1 g3 ?_)
 rw [show Builtin.Dict_items.ownsTuple "dict_valueiterator" = false by decide]; simp only [Bool.false_eq_true,if_false]
 show wpAny _ _ (if (Value.ref dc == Value.none)=true then _ else _) _ _ s
 rw [if_neg (show ¬ ((Value.ref dc == Value.none)=true) from Bool.false_ne_true)]
 refine wpAny_bind (wpAny_pure (wpAny_bind (wpAny_dictEntries h1 h2 ?_)))
 rw [if_neg (show ¬ _ by simp)]
 refine wpAny_bind (wpAny_pure (wpAny_bind (wpAny_dictEpoch h1 h2 ?_)))
 rw [if_neg (show ¬ _ by simp)]
 refine wpAny_pure ?_
 simp only [show ¬ ((i:Int) < 0) by omega,if_false,Int.toNat_natCast,Array.getElem?_eq_none hge]
 refine wpAny_bind ?_
 first | refine wpAny_bind (wpAny_typeNameOfWhole_valiter hI.typeIs (wpAny_pure ?_)) | refine wpAny_bind (wpAny_typeNameOf_valiter hI.typeIs (wpAny_pure ?_))
 refine (show wpAny _ _ (setField (.ref it) 0 .none >>= _) _ _ s from wpAny_bind (wpAny_setField g1 g3 (by simp) ?_))
 refine (show wpAny _ _ (newExc (.type "StopIteration") [] >>= _) _ _ _ from wpAny_bind ?_); simp only [newExc,newTuple]
 refine wpAny_bind (wpAny_newObj_type (wpAny_bind (m:=firstArgMember _ _) (wpAny_of_eq (a:=Value.none) (by first | rfl | (simp only [firstArgMember]; rfl)) (wpAny_newObj_type ?_ (by size_fits)))) (by size_fits))
 simp only [raiseNew]
 refine wpAny_bind (wpAny_handled ?_); rw [show A.in1.handled=none from hh]
 refine wpAny_bind (wpAny_pure (wpAny_throw ?_)); refine wpAny_bind (wpAny_isInstance (T:="StopIteration") (b:=true) ⟨_,Heap.get?_push_size _ rfl,rfl⟩ isSubtype_stop ?_)
 exact wpAny_pure (q _ (((Heap.SameBut.update ..).extBut.push _).push _))
theorem EW (hh:A.handled=none) (I dc:Addr) (hne:dc≠I) (oc:Obj) (es:Array DictEntry) (ep:Nat) (h2:oc.data=.dict es ep):
  Walks prog w A I [I,dc] [I] es.size (fun i v=>∃ e,es[i]?=some e/\v=e.val) (fun i h=>h.IsValIter I dc i es.size ep/\h.get? dc=some oc) where
 sub:=fun b hb=>by rw [List.mem_singleton.mp hb]; exact List.mem_cons_self
 frame:=fun _ _ _ st hk=>⟨let ⟨o,e,r⟩:=st.1; ⟨o,hk I List.mem_cons_self o e,r⟩,hk dc (List.mem_cons_of_mem _ List.mem_cons_self) _ st.2⟩
 item:=fun i s Q E hi st hQ=>JK st.1 st.2 h2 hi fun h' hit' hs'=>hQ _ h' s.toks ⟨es[i],by simp [hi],rfl⟩ ⟨hit',(hs'.2 dc hne).trans st.2⟩ fun b o hb e=>(hs'.2 b fun z=>hb (by rw [z]; exact List.mem_cons_self)).trans e
 done:=fun s Q E st hQ=>JL hh st.1 st.2 h2 (Nat.le_refl _) fun h' he'=>hQ h' s.toks fun b o hb e=>he' b o (fun z=>hb (by rw [z]; exact List.mem_cons_self)) e
 self:=fun _ _ _ _ st hQ=>wpAny_pyIter_valiter st.1 hQ
theorem JM {r:Addr} (h2:oc.data=.dict es ep):PySem.W.KdlSrc prog w "dict_values" r dc es.size (fun i v=>∃ e,es[i]?=some e/\v=e.val) (fun h=>h.IsValuesView r dc/\h.get? dc=some oc) where
 type:=fun _ hm=>hm.1.typeIs
 there:=fun _ hm=>⟨let ⟨_,ho,_⟩:=hm.1; Heap.lt_size ho,Heap.lt_size hm.2⟩
 keep:=fun _ _ hm hk=>⟨let ⟨o,ho,x⟩:=hm.1; ⟨o,hk r (.inl rfl) o ho,x⟩,hk dc (.inr rfl) _ hm.2⟩
 notList:=by decide
 notTuple:=by decide
 hint:=fun _ _ _ _ hm hq=>PySem.W.kdl_hint_values hm.1.typeIs hq
 iter:=fun _ _ hh hm=>⟨_,_,(fun _ _ hq=>Hx hm.1 hm.2 h2 hq),EW hh _ dc (Nat.ne_of_lt (Heap.lt_size hm.2)) oc es ep h2,⟨⟨_,Heap.get?_push_size _ rfl,rfl,rfl⟩,Heap.get?_push_of_some _ hm.2⟩⟩
end
end L2
set_option Elab.async false
set_option linter.all false
set_option maxRecDepth 100000
namespace L2
open PySem PySem.Spec PyProof.Rows
namespace FR
end FR
section
variable {prog:Program} {w:World} {A:Around} {E:Value->Shared->Prop} {s:Shared} {it l:Addr} {items:Array Value}
end
end L2
set_option Elab.async false
set_option linter.all false
set_option maxRecDepth 100000
namespace L2
open PySem PySem.Spec PyProof.Rows
section
variable {prog:Program} {w:World} {A:Around} {E:Value->Shared->Prop} {s:Shared} {v dc it:Addr} {oc:Obj} {es:Array DictEntry} {ep:Nat} {ok ov:Value}
end
end L2
set_option Elab.async false
set_option linter.all false
set_option maxRecDepth 1000000
set_option maxHeartbeats 4000000
namespace L2
open PySem PySem.Spec PyProof.Rows
section
variable {prog:Program} {w:World} {A:Around} {E:Value->Shared->Prop} {s:Shared} {v dc it:Addr} {oc:Obj} {es:Array DictEntry} {ep:Nat}
end
end L2
set_option Elab.async false
set_option linter.all false
set_option maxRecDepth 1000000
set_option maxHeartbeats 4000000
namespace L2
open PySem PySem.Spec PyProof.Rows
theorem JN (xs:Array Nat) (j:Nat):∀ (fuel lo hi:Nat),hi - lo<=fuel->lo<=hi->hi<=xs.size->(∀ i (h:i < xs.size),i < lo->xs[i] < j)->(∀ i (h:i < xs.size),hi<=i->¬ xs[i] < j)->
  (xs.toList.Pairwise (· < ·))->SetTable.below.go xs j fuel lo hi<=xs.size/\(∀ i (h:i < xs.size),(xs[i] < j ↔ i < SetTable.below.go xs j fuel lo hi)):=by
 intro fuel
 induction fuel with
 | zero=>
  intro lo hi hf hl hs ha hb _
  have:lo=hi:=by omega
  subst this
  show lo<=_/\∀ i (h:i < xs.size),(xs[i] < j ↔ i < lo)
  refine ⟨hs,fun i h=>⟨fun h1=>Decidable.byContradiction fun h2=>hb i h (by omega) h1,fun h1=>ha i h h1⟩⟩
 | succ fuel ih=>
  intro lo hi hf hl hs ha hb hp
  show (if lo < hi then _ else lo)<=_/\∀ i (h:i < xs.size),(xs[i] < j ↔ i < (if lo < hi then _ else lo))
  by_cases h:lo < hi
  ·simp only [if_pos h]
   have hm:(lo+hi) / 2 < xs.size:=by omega
   have mono:∀ a b (ha:a < xs.size) (hb:b < xs.size),a < b->xs[a] < xs[b]:=fun a b h1 h2 h3=>by
    have:=(List.pairwise_iff_getElem.mp hp) a b (by simpa using h1) (by simpa using h2) h3
    simpa using this
   show (if xs.getD ((lo+hi) / 2) j < j then _ else _)<=_/\∀ i (h:i < xs.size),(xs[i] < j ↔ i < (if xs.getD ((lo+hi) / 2) j < j then _ else _))
   have e:xs.getD ((lo+hi) / 2) j=xs[(lo+hi) / 2]:=by simp [Array.getD,hm]
   rw [e]
   by_cases hc:xs[(lo+hi) / 2] < j
   ·simp only [if_pos hc]
    exact ih _ _ (by omega) (by omega) hs (fun i h1 h2=>by
     by_cases h3:i=(lo+hi) / 2
     ·subst h3; exact hc
     ·have:=mono i _ h1 hm (by omega); omega) hb hp
   ·simp only [if_neg hc]
    exact ih _ _ (by omega) (by omega) (by omega) ha (fun i h1 h2=>by
     by_cases h3:i=(lo+hi) / 2
     ·subst h3; exact hc
     ·have:=mono _ i hm h1 (by omega); omega) hp
  ·simp only [if_neg h]
   have:lo=hi:=by omega
   subst this
   exact ⟨hs,fun i h=>⟨fun h1=>Decidable.byContradiction fun h2=>hb i h (by omega) h1,fun h1=>ha i h h1⟩⟩
theorem wY {xs:Array Nat} (hp:xs.toList.Pairwise (· < ·)) (j:Nat):SetTable.below xs j<=xs.size/\(∀ i (h:i < xs.size),(xs[i] < j ↔ i < SetTable.below xs j)):=
 JN xs j xs.size 0 xs.size (by omega) (by omega) (by omega) (fun i h h1=>by omega) (fun i h h1=>by omega) hp
theorem zY {xs:Array Nat} (hp:xs.toList.Pairwise (· < ·)) {j:Nat} (hj:xs[SetTable.below xs j]?≠some j):(SetTable.insertAt xs (SetTable.below xs j) j).toList.Pairwise (· < ·):=by
 obtain ⟨h1,h2⟩:=wY hp j
 generalize SetTable.below xs j=p at h1 h2 hj
 have e:(SetTable.insertAt xs p j).toList=xs.toList.take p++[j]++xs.toList.drop p:=by
  simp [SetTable.insertAt,List.take_of_length_le]
 rw [e]
 rw [List.append_assoc,List.pairwise_append,List.singleton_append,List.pairwise_cons]
 refine ⟨hp.sublist (List.take_sublist ..),⟨fun a ha=>?_,hp.sublist (List.drop_sublist ..)⟩,fun a ha b hb=>?_⟩
 ·obtain ⟨i,hi,rfl⟩:=List.mem_iff_getElem.mp ha
  rw [List.getElem_drop]
  have hlt:p+i < xs.size:=by simp at hi; omega
  have hn:=mt (h2 (p+i) hlt).mp (by omega)
  have hne:xs[p+i]≠j:=by
   intro he
   by_cases hi0:i=0
   ·subst hi0; apply hj; rw [Array.getElem?_eq_getElem (by omega)]; exact congrArg some he
   ·have:=(List.pairwise_iff_getElem.mp hp) p (p+i) (by simp; omega) (by simpa using hlt) (by omega)
    have h3:=mt (h2 p (by omega)).mp (by omega)
    simp at this
    omega
  simp
  omega
 ·obtain ⟨i,hi,rfl⟩:=List.mem_iff_getElem.mp ha
  rw [List.getElem_take]
  have hi':i < p:=by simp at hi; omega
  have hlt:i < xs.size:=by omega
  have hx:=(h2 i hlt).mpr hi'
  rcases List.mem_cons.mp hb with rfl | hb
  ·simpa using hx
  ·obtain ⟨k,hk,rfl⟩:=List.mem_iff_getElem.mp hb
   rw [List.getElem_drop]
   have hlt2:p+k < xs.size:=by simp at hk; omega
   have:=(List.pairwise_iff_getElem.mp hp) i (p+k) (by simpa using hlt) (by simpa using hlt2) (by omega)
   simpa using this
structure TOk (bt:Bool) (t:SetTable):Prop where
 dum:t.dummies=#[]
 led:bt=false->t.led=true
 ris:t.plain=true->t.place.toList.Pairwise (· < ·)
theorem TOk.standIn {bt:Bool} {t:SetTable} (h:TOk bt t) (n:Nat):TOk bt (t.standIn n):=⟨rfl,h.led,fun e=>by cases e⟩
theorem TOk.off {bt:Bool} {t:SetTable} (h:TOk bt t):TOk bt { t with plain:=false }:=⟨h.dum,h.led,fun e=>by cases e⟩
theorem BG {t:SetTable} (h:t.dummies=#[]) (j:Nat):t.slot j≠.dummy:=by
 unfold SetTable.slot
 simp only [h,show SetTable.has #[] j=false from by simp [SetTable.has]]
 split <;> simp
theorem EX {t:SetTable} {j:Nat} (h:t.slot j=.empty):t.place[SetTable.below t.place j]?≠some j:=by
 unfold SetTable.slot at h
 intro e
 simp [e] at h
theorem Hy (t:SetTable) (p:SetTable.Probe):(t.advance p).dummy=p.dummy:=by
 unfold SetTable.advance
 split
 ·rfl
 ·rfl
theorem JO {t:SetTable} (hd:t.dummies=#[]) (f:Nat->Int) (h:Int):∀ (fuel:Nat) (p:SetTable.Probe),p.dummy=none->∀ j d,SetTable.probe.go t f h fuel p=some (.empty j d)->d=none/\t.slot j=.empty:=by
 intro fuel
 induction fuel with
 | zero=>intro p _ j d e; cases e
 | succ fuel ih=>
  intro p hp j d e
  unfold SetTable.probe.go at e
  split at e
  ·rename_i he
   cases e
   exact ⟨hp,he⟩
  ·rename_i he
   exact (BG hd _ he).elim
  ·split at e
   ·cases e
   ·exact ih _ (by rw [Hy]; exact hp) j d e
theorem Hz {t:SetTable} (hd:t.dummies=#[]) {h:Int} {j:Nat} {b:Bool} (e:t.freeSlot h=some (j,b)):t.slot j=.empty:=by
 unfold SetTable.freeSlot at e
 split at e
 ·rename_i j' d he
  obtain ⟨h1,h2⟩:=JO hd _ _ _ _ rfl _ _ he
  subst h1
  cases e
  exact h2
 ·cases e
theorem TOk.put {bt:Bool} {t:SetTable} (h:TOk bt t) {j:Nat} (he:t.slot j=.empty):TOk bt (t.put j).1:=by
 refine ⟨?_,h.led,fun e=>zY (h.ris e) (EX he)⟩
 simp [SetTable.put,h.dum,SetTable.has]
theorem TOk.orSt {bt:Bool} {t:SetTable} (h:TOk bt t) (n:Nat):TOk bt (t.orStandIn n):=by
 unfold SetTable.orStandIn
 split
 ·exact h
 ·exact h.standIn n
theorem TOk.lay {bt:Bool} {t:SetTable} (h:TOk bt t) (es:Array (Int×Value)) (k:Int) (x:Value):TOk bt (layNew t es k x).2.1:=by
 unfold layNew
 split
 ·rename_i slot wd e
  exact (h.put (Hz h.dum e)).orSt _
 ·exact h.standIn _
theorem HA (f:Nat->Option Nat):∀ n,((List.filterMap (fun j=>Option.map (fun x=>(j,x)) (f j)) (List.range n)).map (·.1)).Pairwise (· < ·):=by
 intro n
 have h1:(List.range n).Pairwise (· < ·):=List.pairwise_lt_range
 have h2:((List.filterMap (fun j=>Option.map (fun x=>(j,x)) (f j)) (List.range n)).map (·.1)).Sublist (List.range n):=by
  induction List.range n with
  | nil=>simp
  | cons a l ih=>
   simp only [List.filterMap_cons]
   cases f a with
   | none=>exact ih.cons _
   | some x=>exact ih.cons₂ _
 exact h1.sublist h2
theorem TOk.relay {bt:Bool} {t:SetTable} (h:TOk bt t) (es:Array (Int×Value)) (n:Nat):TOk bt (relayAll t es n).2.1:=by
 unfold relayAll
 split
 ·rename_i t' order e
  have ht':TOk bt t':=by
   unfold SetTable.relaid SetTable.laid at e
   simp only [Option.bind_eq_bind] at e
   cases ho:SetTable.layClean (SetTable.sizeAbove n - 1) (Array.map (fun x=>x.fst) es) with
   | none=>rw [ho] at e; cases e
   | some owner=>
    rw [ho] at e
    have e2:=Option.some.inj e
    have e3:_=t':=congrArg Prod.fst e2
    subst e3
    refine ⟨rfl,h.led,fun _=>?_⟩
    exact HA (fun j=>owner.getD j none) _
  dsimp only
  split
  ·exact ht'
  ·exact h.standIn _
 ·exact h.standIn _
end L2
set_option Elab.async false
set_option linter.all false
set_option maxRecDepth 1000000
set_option maxHeartbeats 4000000
namespace L2
open PySem PySem.Spec PyProof.Rows
def cU (w:World):Bool:=w.params.followText "set-order"
section
variable {prog:Program} {w:World} {A:Around} {E:Value->Shared->Prop} {s:Shared} {a:Addr}
theorem Gc {h:Heap} {o:Obj} {es es':Array (Int×Value)} {ep:Nat} {t t':SetTable} (ho:h.get? a=some o) (hd:o.data=.set es ep t):
  (h.update a (Obj.putSet es' t')).get? a=some { o with data:=.set es' (ep+1) t' }:=by
 obtain ⟨c,d,da,sl⟩:=o
 cases hd
 rw [Heap.get?_update_self _ ho (by rfl)]
 rfl
end
end L2
set_option Elab.async false
set_option linter.all false
set_option maxRecDepth 1000000
set_option maxHeartbeats 4000000
namespace L2
open PySem PySem.Spec PyProof.Rows
section
variable {prog:Program} {w:World} {A:Around} {E:Value->Shared->Prop} {s:Shared} {a:Addr}
theorem code_set_new (x:Value) {Q₁:Value->Shared->Prop} (q:Q₁ (.ref s.heap.objs.size) { s with heap:=s.heap.push { cls:=.type "set",data:=.set #[] 0 (SetTable.fresh 0 0 !cU w) } }):
  codeAny (model prog w) A (.call (.builtin "set.__new__") ⟨[.type "set",x],[]⟩) (wants Q₁ E) s:=by
 refine codeAny_of_tree ?_
 refine wpAny_bind (wpAny_of_eq (F.newCall_set_1 x) (wpAny_pure ⟨plainId_quiet F.plain_set_new _,codeAny_builtin F.entry_set_new ?_⟩))
 rw [Around.under_plainId F.plain_set_new]
 unfold Builtin.«set.__new__»
 refine wpAny_bind ?_
 unfold Builtin.Frozenset.newClass
 refine (show wpAny _ _ (isType (.type "set") >>= _) _ _ s from wpAny_bind (wpAny_pure ?_))
 rw [if_neg (by decide)]
 refine wpAny_bind (wpAny_of_eq sub_set_self ?_)
 rw [if_neg (by decide)]
 refine wpAny_pure (wpAny_bind ?_)
 unfold newSet setsByText
 refine wpAny_bind (wpAny_bind (wpAny_askSetting (wpAny_pure ?_)))
 exact wpAny_newObj_type (wpAny_pure q)
end
end L2
set_option Elab.async false
set_option linter.all false
set_option maxRecDepth 1000000
set_option maxHeartbeats 4000000
namespace L2
open PySem PySem.Spec PyProof.Rows
theorem bD:Slot "set_iterator" (Str.ofString "__next__") "set_iterator.__next__" := Slot.of (owner:="set_iterator") (n:="__next__")
 (by rw [typeLookup_type,builtinLookup_eq_fast]; rfl) (by decide +kernel) (by decide +kernel) (by decide +kernel) (.inl (by decide +kernel)) (by rw [isSubtype_type]; rfl) (by decide +kernel)
theorem qW:Slot "set_iterator" (Str.ofString "__iter__") "set_iterator.__iter__" := Slot.of (owner:="set_iterator") (n:="__iter__")
 (by rw [typeLookup_type,builtinLookup_eq_fast]; rfl) (by decide +kernel) (by decide +kernel) (by decide +kernel) (.inl (by decide +kernel)) (by rw [isSubtype_type]; rfl) (by decide +kernel)
theorem fX:entryFor table "set_iterator.__next__" = some Builtin.«set_iterator.__next__»:=entryFor_of_tree (by rfl)
theorem wZ:entryFor table "set.__iter__" = some Builtin.«frozenset.__iter__»:=entryFor_alias (id:="set.__iter__") (id':="frozenset.__iter__") (by first | rfl | decide +kernel) (by first | rfl | decide +kernel) (by decide +kernel) (by rfl)
theorem D9:List.lookup (String.ofList ['r','o','t','a','r','e','t','i','_','t','e','s'].reverse) Manifest.owners=some Manifest.sig_set_iterator:=by rfl
theorem iF (a:Value):argsOk "set_iterator.__next__" ⟨[a],[]⟩:=by
 have e:=signature?_of (id:="set_iterator.__next__") (n:=['_','_','t','x','e','n','_','_']) (o:=['r','o','t','a','r','e','t','i','_','t','e','s']) (by rfl) D9
 unfold argsOk
 rw [e]
 rfl
section
variable {prog:Program} {w:World} {A:Around} {E:Value->Shared->Prop} {s:Shared} {a it:Addr} {o:Obj} {es:Array (Int×Value)} {ep:Nat} {t:SetTable}
theorem pU {α:Type}:∀ {l:List α} {i:Nat} (h:i < l.length),(l[i] :: l.eraseIdx i).Perm l
 | [],i,h=>by simp at h
 | x :: l,0,h=>by simp
 | x :: l,i+1,h=>by
  simp only [List.getElem_cons_succ,List.eraseIdx_cons_succ]
  exact (List.Perm.swap _ _ _).trans (List.Perm.cons _ (pU (by simpa using h)))
theorem wp_choose {M:Model} {src:Source} {n:Nat} {Q:Nat->Shared->Prop} (hn:n≠0) (h:∀ i d,i < n->Q i { s with drawn:=d }):wpAny M A (choose src n) Q E s:=fun Γ p _=>by
 unfold choose
 unfold Sem.wp
 exact ⟨hn,h _ _ (Nat.mod_lt _ (Nat.pos_of_ne_zero hn))⟩
theorem N5 {α:Type} {M:Model}:∀ (n:Nat) (xs:List α) (s:Shared) (Q:List α->Shared->Prop),xs.length=n->(∀ ys d,ys.Perm xs->Q ys { s with drawn:=d })->wpAny M A (drawOrder n xs) Q E s:=by
 intro n
 induction n with
 | zero=>
  intro xs s Q hl h
  have:xs=[]:=List.eq_nil_of_length_eq_zero hl
  subst this
  exact wpAny_pure (h [] s.drawn (List.Perm.refl _))
 | succ n ih=>
  intro xs s Q hl h
  cases xs with
  | nil=>simp at hl
  | cons x l=>
   refine (show wpAny _ _ (choose Source.order (x :: l).length >>= _) _ _ _ from wpAny_bind (wp_choose (by simp) fun i d hi=>?_))
   have e:(x :: l)[i]?=some (x :: l)[i]:=List.getElem?_eq_getElem hi
   rw [e]
   refine wpAny_bind (ih _ _ _ (by rw [List.length_eraseIdx_of_lt hi]; simp at hl ⊢; omega) fun ys d' hp=>wpAny_pure (h _ _ ?_))
   exact (List.Perm.cons _ hp).trans (pU hi)
theorem N6 {α:Type} (next:Nat->Nat):∀ (fuel k:Nat) (left:List α) (out:Array α),left.length=fuel->(pickOrder.go next fuel k left out).toList.Perm (out.toList++left):=by
 intro fuel
 induction fuel with
 | zero=>
  intro k left out hl
  have:left=[]:=List.eq_nil_of_length_eq_zero hl
  subst this
  simp [pickOrder.go]
 | succ fuel ih=>
  intro k left out hl
  have hi:next k % left.length < left.length:=Nat.mod_lt _ (by omega)
  show (match left[next k % left.length]? with | some x=>pickOrder.go next fuel (k+1) (left.eraseIdx (next k % left.length)) (out.push x) | none=>out).toList.Perm _
  rw [List.getElem?_eq_getElem hi]
  dsimp only
  refine (ih _ _ _ (by rw [List.length_eraseIdx_of_lt hi]; omega)).trans ?_
  rw [Array.toList_push,List.append_assoc]
  exact List.Perm.append_left _ (pU hi)
theorem HB {α:Type} (next:Nat->Nat) (xs:Array α):(pickOrder next xs).toList.Perm xs.toList:=by
 have:=N6 next xs.size 0 xs.toList #[] (by simp)
 unfold pickOrder
 simpa using this
def kG (w:World) (a:Addr) (ep:Nat) (es:Array (Int×Value)):Array (Int×Value):=if cU w=true then pickOrder (w.params.setOrder a ep) es else es
theorem lL:(kG w a ep es).toList.Perm es.toList:=by
 unfold kG
 split
 ·exact HB _ _
 ·exact List.Perm.refl _
def slotAt (w:World) (t:SetTable) (i:Nat):Nat:=if cU w=true then 0 else if i=0 then 0 else t.place.getD (i - 1) 0+1
theorem PK (ht:TOk (cU w) t) (hf:t.fits es.size=true) (hnd:cU w=true\/(!t.plain && decide (es.size > 1))=false) (hb:cU w=false):t.place.toList.Pairwise (· < ·):=by
 rcases hnd with h | h
 ·rw [hb] at h; cases h
 ·cases hp:t.plain with
  | true=>exact ht.ris hp
  | false=>
   rw [hp] at h
   have:es.size<=1:=by simpa using h
   have hs:t.place.size=es.size:=by
    have:=hf
    simp [SetTable.fits] at this
    exact this.1
   have:t.place.toList.length<=1:=by simp; omega
   match hl:t.place.toList with
   | []=>exact List.Pairwise.nil
   | [x]=>exact List.pairwise_singleton _ _
   | x :: y :: r=>rw [hl] at this; simp at this
theorem Da {i:Nat} {Q:Option (Value×Nat)->Shared->Prop} (ho:s.heap.get? a=some o) (hd:o.data=.set es ep t) (ht:TOk (cU w) t) (hf:t.fits es.size=true) (hnd:cU w=true\/(!t.plain && decide (es.size > 1))=false) (hi:i<=es.size)
  (q:Q ((kG w a ep es)[i]?.map fun e=>(e.2,slotAt w t (i+1))) s):wpAny (model prog w) A (setNext a (slotAt w t i) i ep) Q E s:=by
 unfold setNext
 refine wpAny_bind (wpAny_setState_of ho hd hf ?_)
 unfold setsByText
 refine wpAny_bind (wpAny_bind (wpAny_askSetting (wpAny_pure ?_)))
 show wpAny _ _ (if cU w=true then _ else _) _ _ _
 by_cases hb:cU w=true
 ·rw [if_pos hb]
  refine wpAny_ite_false (show decide _=false from by simp) ?_
  unfold setWalk
  refine wpAny_bind (wpAny_bind (wpAny_setState_of ho hd hf ?_))
  unfold setsByText
  refine wpAny_bind (wpAny_bind (wpAny_askSetting (wpAny_pure ?_)))
  show wpAny _ _ (if cU w=true then _ else _) _ _ _
  rw [if_pos hb]
  refine wpAny_bind (wpAny_askSetting (wpAny_pure (wpAny_pure ?_)))
  have e1:kG w a ep es=pickOrder (w.params.setOrder a ep) es:=if_pos hb
  have e2:∀ j,slotAt w t j=0:=fun j=>if_pos hb
  rw [e1,e2] at q
  rw [e2]
  exact q
 ·have hb':cU w=false:=by simpa using hb
  rw [if_neg hb]
  have hr:=PK ht hf hnd hb'
  have hnd':(!t.plain && decide (es.size > 1))=false:=by
   rcases hnd with h | h
   ·exact (hb h).elim
   ·exact h
  refine wpAny_ite_false (show decide ((!t.plain && decide (es.size > 1))=true)=false from by rw [hnd']; rfl) ?_
  have hled:=ht.led hb'
  refine wpAny_bind (wpAny_of_eq (a:=()) (show (if (!t.led && !es.isEmpty)=true then _ else pure ())=pure () from by rw [hled]; rfl) (wpAny_pure ?_))
  have hs:t.place.size=es.size:=by
   have:=hf
   simp [SetTable.fits] at this
   exact this.1
  have hbel:SetTable.below t.place (slotAt w t i)=i:=by
   obtain ⟨h1,h2⟩:=wY hr (slotAt w t i)
   generalize hp:SetTable.below t.place (slotAt w t i)=p at h1 h2
   have mono:∀ x y (hx:x < t.place.size) (hy:y < t.place.size),x < y->t.place[x] < t.place[y]:=fun x y hx hy hxy=>by
    have:=(List.pairwise_iff_getElem.mp hr) x y (by simpa using hx) (by simpa using hy) hxy
    simpa using this
   have es1:slotAt w t i=if i=0 then 0 else t.place.getD (i - 1) 0+1:=if_neg hb
   rw [es1] at h2
   by_cases h0:i=0
   ·subst h0
    rcases Nat.eq_zero_or_pos p with h | h
    ·exact h
    ·have:=(h2 0 (by omega)).mpr h
     simp at this
   ·rw [if_neg h0] at h2
    have hil:i - 1 < t.place.size:=by omega
    have eg:t.place.getD (i - 1) 0=t.place[i - 1]:=by simp [Array.getD,hil]
    rw [eg] at h2
    have l1:i - 1 < p:=(h2 (i - 1) hil).mp (by omega)
    rcases Nat.lt_or_ge i p with h | h
    ·have:=(h2 i (by omega)).mpr h
     have:=mono (i - 1) i hil (by omega) (by omega)
     omega
    ·omega
  rw [hbel]
  have e1:kG w a ep es=es:=if_neg hb
  rw [e1] at q
  by_cases hlt:i < es.size
  ·rw [Array.getElem?_eq_getElem hlt] at q ⊢
   rw [Array.getElem?_eq_getElem (show i < t.place.size by omega)]
   have e2:slotAt w t (i+1)=t.place[i]+1:=by
    have:slotAt w t (i+1)=if i+1=0 then 0 else t.place.getD (i+1 - 1) 0+1:=if_neg hb
    rw [this]
    simp [Array.getD,show i < t.place.size by omega]
   simpa [e2] using q
  ·rw [Array.getElem?_eq_none (by omega)] at q ⊢
   simpa using q
end
end L2
set_option Elab.async false
set_option linter.all false
set_option maxRecDepth 1000000
set_option maxHeartbeats 4000000
namespace L2
open PySem PySem.Spec PyProof.Rows
section
variable {prog:Program} {w:World} {A:Around} {E:Value->Shared->Prop} {s:Shared} {a it:Addr} {o:Obj} {es:Array (Int×Value)} {ep:Nat} {t:SetTable}
def siO (a:Addr) (first:Value) (i n ep:Nat):Obj:={ cls:=.type "set_iterator",data:=.fields #[first,.int i 0,.ref a,.int n 0,.int ep 0] }
theorem JP {Q:Value->Shared->Prop} (ho:s.heap.get? a=some o) (hx:o.ExactSet) (hd:o.data=.set es ep t) (hf:t.fits es.size=true) (hz:es.size<=sizeLine)
  (q1:(cU w=true\/(!t.plain && decide (es.size > 1))=false)->Q (.ref s.heap.objs.size) { s with heap:=s.heap.push (siO a (.int 0 0) 0 es.size ep) })
  (q2:∀ (ys:List Nat) d,ys.Perm (List.range es.size)->Q (.ref (s.heap.objs.size+1)) { s with heap:=(s.heap.push { cls:=.type "tuple",data:=.seq (ys.map fun i=>Value.int (i:Nat) 0).toArray }).push (siO a (.ref s.heap.objs.size) 0 es.size ep),drawn:=d }):
  wpAny (model prog w) A (pyIter (.ref a)) Q E s:=by
 have hT:s.TypeIs (.ref a) "set" := ⟨o,ho,hx.1⟩
 refine wpAny_pyIter_slot hT F.slot_set_iter (wpAny_call_entry F.slot_set_iter hT wZ (show wpAny _ _ (Builtin.«frozenset.__iter__» _) _ _ _ from ?_) (F.args_set_iter_1 _))
 unfold Builtin.«frozenset.__iter__» Builtin.Frozenset.slot0
 refine wpAny_bind (wpAny_bind (wpAny_pure (wpAny_pure ?_)))
 unfold Builtin.Frozenset.sizeOf
 refine wpAny_bind (wpAny_bind (wpAny_setEntries_of ho hd hf (wpAny_pure ?_)))
 unfold setDrawn setsByText
 refine wpAny_bind (wpAny_bind (wpAny_setState_of ho hd hf (wpAny_bind (wpAny_bind (wpAny_askSetting (wpAny_pure (wpAny_pure ?_)))))))
 show wpAny _ _ (if (!(cU w) && (!t.plain && decide (es.size > 1)))=true then _ else _) _ _ _
 by_cases hc:(!(cU w) && (!t.plain && decide (es.size > 1)))=true
 ·rw [if_pos hc]
  refine wpAny_bind (N5 _ _ _ _ (by simp) fun ys d hp=>?_)
  unfold newTuple newFields
  refine wpAny_bind (wpAny_newObj_type ?_ ?_)
  ·refine wpAny_bind (wpAny_setEpoch_of (o:=o) (Heap.get?_push_of_some _ ho) hd hf ?_)
   refine wpAny_bind (wpAny_newObj_type (wpAny_pure ⟨_,rfl,"set_iterator",_,⟨_,Heap.get?_push_size _ rfl,rfl⟩,bD.lookup,?_⟩))
   have:=q2 ys d hp
   rw [<- Heap.size_push s.heap { cls:=.type "tuple",data:=.seq (ys.map fun i=>Value.int (i:Nat) 0).toArray }] at this
   exact this
  ·show (List.map (fun i=>rawInt ((i:Nat):Int)) ys).toArray.size<=sizeLine
   have:=hp.length_eq
   simp at this ⊢
   omega
 ·rw [if_neg hc]
  refine wpAny_bind (wpAny_pure ?_)
  refine wpAny_bind (wpAny_setEpoch_of ho hd hf ?_)
  unfold newFields
  refine wpAny_bind (wpAny_newObj_type (wpAny_pure ⟨_,rfl,"set_iterator",_,⟨_,Heap.get?_push_size _ rfl,rfl⟩,bD.lookup,q1 ?_⟩))
  simp at hc
  cases hb:cU w with
  | true=>exact .inl rfl
  | false=>
   refine .inr ?_
   have:=hc hb
   simpa using this
theorem oP {h1:Heap} {fs:Array Value} {j:Nat} {x:Value} {α:Type} {f:Unit->Sem α} {R:α->Shared->Prop} {E':Value->Shared->Prop} (g:h1.get? it=some { cls:=.type "set_iterator",data:=.fields fs }) (hj:j < fs.size)
  (k:∀ h2:Heap,h2.get? it=some { cls:=.type "set_iterator",data:=.fields (fs.setIfInBounds j x) }->(∀ (b:Addr),b≠it->h2.get? b=h1.get? b)->Heap.ExtBut it h1 h2->wpAny (model prog w) A (f ()) R E' { s with heap:=h2 }):
  wpAny (model prog w) A (setField (.ref it) j x >>= f) R E' { s with heap:=h1 }:=by
 refine wpAny_bind (wpAny_setField (s:={ s with heap:=h1 }) g rfl hj ?_)
 refine k _ ?_ (fun b hb=>(Heap.SameBut.update ..).2 b hb) (Heap.SameBut.update ..).extBut
 rw [Heap.get?_update_self _ g (Obj.isFreed_of_fields (Obj.data_mapFields rfl _))]
 simp [Obj.mapFields]
theorem Dc {first:Value} {i n:Nat} (hI:s.heap.get? it=some (siO a first i n ep)):s.TypeIs (.ref it) "set_iterator" := ⟨_,hI,rfl⟩
theorem HC {i:Nat} {Q:Option Value->Shared->Prop} (hI:s.heap.get? it=some (siO a (.int (slotAt w t i) 0) i es.size ep)) (ho:s.heap.get? a=some o) (hd:o.data=.set es ep t) (ht:TOk (cU w) t) (hf:t.fits es.size=true)
  (hnd:cU w=true\/(!t.plain && decide (es.size > 1))=false) (hlt:i < es.size) (hl2:i < (kG w a ep es).size)
  (q:∀ h',h'.get? it=some (siO a (.int (slotAt w t (i+1)) 0) (i+1) es.size ep)->(∀ (b:Addr),b≠it->h'.get? b=s.heap.get? b)->Q (some (kG w a ep es)[i].2) { s with heap:=h' }):wpAny (model prog w) A (pyNext (.ref it)) Q E s:=by
 have hT:=Dc hI
 unfold pyNext
 refine wpAny_bind (wpAny_attempt (wpAny_callSpecial?_slot (name:=Str.ofString "__next__") hT bD (wpAny_call_entry bD hT fX ?_ (iF _))))
 refine wpAny_bind (wpAny_pure (wpAny_bind (wpAny_fieldsOf hI rfl ?_)))
 refine (show wpAny _ _ (setEntries a >>= _) _ _ s from wpAny_bind (wpAny_setEntries_of ho hd hf ?_))
 refine wpAny_ite_false (show decide _=false from by simp) ?_
 refine (show wpAny _ _ (setNext a (slotAt w t i) i ep >>= _) _ _ s from wpAny_bind (Da ho hd ht hf hnd (Nat.le_of_lt hlt) ?_))
 rw [Array.getElem?_eq_getElem hl2]
 refine (show wpAny _ _ (setField (.ref it) 0 _ >>= _) _ _ { s with heap:=s.heap } from oP hI (by simp [siO]) fun h2 g2 k2 _=>?_)
 refine oP g2 (by simp) fun h3 g3 k3 _=>?_
 refine wpAny_pure ⟨_,rfl,wpAny_pure (q h3 ?_ fun b hb=>by rw [k3 b hb,k2 b hb])⟩
 rw [g3]
 simp [siO,rawInt]
theorem JQ {Q:Option Value->Shared->Prop} (hh:A.handled=none) (hI:s.heap.get? it=some (siO a (.int (slotAt w t es.size) 0) es.size es.size ep)) (ho:s.heap.get? a=some o) (hd:o.data=.set es ep t) (ht:TOk (cU w) t) (hf:t.fits es.size=true)
  (hnd:cU w=true\/(!t.plain && decide (es.size > 1))=false)
  (q:∀ h',Heap.ExtBut it s.heap h'->Q none { s with heap:=h' }):wpAny (model prog w) A (pyNext (.ref it)) Q E s:=by
 have hT:=Dc hI
 have hsz:(kG w a ep es).size=es.size:=by have:=(lL (w:=w) (a:=a) (ep:=ep) (es:=es)).length_eq; simpa using this
 unfold pyNext
 refine wpAny_bind (wpAny_attempt (wpAny_callSpecial?_slot (name:=Str.ofString "__next__") hT bD (wpAny_call_entry bD hT fX ?_ (iF _))))
 refine wpAny_bind (wpAny_pure (wpAny_bind (wpAny_fieldsOf hI rfl ?_)))
 refine (show wpAny _ _ (setEntries a >>= _) _ _ s from wpAny_bind (wpAny_setEntries_of ho hd hf ?_))
 refine wpAny_ite_false (show decide _=false from by simp) ?_
 refine (show wpAny _ _ (setNext a (slotAt w t es.size) es.size ep >>= _) _ _ s from wpAny_bind (Da ho hd ht hf hnd (Nat.le_refl _) ?_))
 rw [Array.getElem?_eq_none (by omega)]
 refine (show wpAny _ _ (setField (.ref it) 2 _ >>= _) _ _ { s with heap:=s.heap } from oP hI (by simp [siO]) fun h2 g2 k2 x2=>?_)
 refine (show wpAny _ _ (newExc (.type "StopIteration") [] >>= _) _ _ _ from wpAny_bind ?_); simp only [newExc,newTuple]
 refine wpAny_bind (wpAny_newObj_type (wpAny_bind (m:=firstArgMember _ _) (wpAny_of_eq (a:=Value.none) (by first | rfl | (simp only [firstArgMember]; rfl)) (wpAny_newObj_type ?_ (by size_fits)))) (by size_fits))
 simp only [raiseNew]
 refine wpAny_bind (wpAny_handled ?_); rw [show A.in1.handled=none from hh]
 refine wpAny_bind (wpAny_pure (wpAny_throw ?_)); refine wpAny_bind (wpAny_isInstance (T:="StopIteration") (b:=true) ⟨_,Heap.get?_push_size _ rfl,rfl⟩ isSubtype_stop ?_)
 exact wpAny_pure (q _ ((x2.push _).push _))
def zZ (ys:List Nat):Obj:={ cls:=.type "tuple",data:=.seq (ys.map fun i=>Value.int (i:Nat) 0).toArray }
theorem HE {i tp p:Nat} {e:Int×Value} {ys:List Nat} {Q:Option Value->Shared->Prop} (hI:s.heap.get? it=some (siO a (.ref tp) i es.size ep)) (htp:s.heap.get? tp=some (zZ ys)) (ho:s.heap.get? a=some o) (hd:o.data=.set es ep t) (hf:t.fits es.size=true)
  (hp:ys[i]?=some p) (he:es[p]?=some e)
  (q:∀ h',h'.get? it=some (siO a (.ref tp) (i+1) es.size ep)->(∀ (b:Addr),b≠it->h'.get? b=s.heap.get? b)->Q (some e.2) { s with heap:=h' }):wpAny (model prog w) A (pyNext (.ref it)) Q E s:=by
 have hT:=Dc hI
 unfold pyNext
 refine wpAny_bind (wpAny_attempt (wpAny_callSpecial?_slot (name:=Str.ofString "__next__") hT bD (wpAny_call_entry bD hT fX ?_ (iF _))))
 refine wpAny_bind (wpAny_pure (wpAny_bind (wpAny_fieldsOf hI rfl ?_)))
 refine (show wpAny _ _ (setEntries a >>= _) _ _ s from wpAny_bind (wpAny_setEntries_of ho hd hf ?_))
 refine wpAny_ite_false (show decide _=false from by simp) ?_
 unfold seqItems?
 refine (show wpAny _ _ ((load tp >>= _) >>= _) _ _ s from wpAny_bind (wpAny_bind (wpAny_load htp (show wpAny _ _ (pure (some _)) _ _ s from wpAny_pure ?_))))
 have e1:(ys.map fun i=>Value.int (i:Nat) 0).toArray[((i:Nat):Int).toNat]?=some (.int p 0):=by simp [hp]
 refine (show wpAny _ _ (match (ys.map fun i=>Value.int (i:Nat) 0).toArray[((i:Nat):Int).toNat]? with | some (Value.int place tok)=>_ | some val=>_ | none=>_) _ _ s from ?_)
 rw [e1]
 unfold setNextDrawn
 refine wpAny_bind (wpAny_bind (wpAny_setState_of ho hd hf ?_))
 refine wpAny_ite_false (show decide _=false from by simp) ?_
 refine (show wpAny _ _ (match es[p]? with | some (fst,x)=>pure x | x=>_) _ _ s from ?_)
 rw [he]
 refine wpAny_pure ?_
 refine (show wpAny _ _ (setField (.ref it) 1 _ >>= _) _ _ { s with heap:=s.heap } from oP hI (by simp [siO]) fun h2 g2 k2 _=>?_)
 refine wpAny_pure ⟨_,rfl,wpAny_pure (q h2 ?_ k2)⟩
 rw [g2]
 simp [siO,rawInt]
theorem JR {tp:Nat} {ys:List Nat} {Q:Option Value->Shared->Prop} (hh:A.handled=none) (hI:s.heap.get? it=some (siO a (.ref tp) es.size es.size ep)) (htp:s.heap.get? tp=some (zZ ys)) (ho:s.heap.get? a=some o) (hd:o.data=.set es ep t) (hf:t.fits es.size=true)
  (hy:ys.length=es.size) (q:∀ h',Heap.ExtBut it s.heap h'->Q none { s with heap:=h' }):wpAny (model prog w) A (pyNext (.ref it)) Q E s:=by
 have hT:=Dc hI
 unfold pyNext
 refine wpAny_bind (wpAny_attempt (wpAny_callSpecial?_slot (name:=Str.ofString "__next__") hT bD (wpAny_call_entry bD hT fX ?_ (iF _))))
 refine wpAny_bind (wpAny_pure (wpAny_bind (wpAny_fieldsOf hI rfl ?_)))
 refine (show wpAny _ _ (setEntries a >>= _) _ _ s from wpAny_bind (wpAny_setEntries_of ho hd hf ?_))
 refine wpAny_ite_false (show decide _=false from by simp) ?_
 unfold seqItems?
 refine (show wpAny _ _ ((load tp >>= _) >>= _) _ _ s from wpAny_bind (wpAny_bind (wpAny_load htp (show wpAny _ _ (pure (some _)) _ _ s from wpAny_pure ?_))))
 have e1:(ys.map fun i=>Value.int (i:Nat) 0).toArray[((es.size:Nat):Int).toNat]?=none:=by simp [hy]
 refine (show wpAny _ _ (match (ys.map fun i=>Value.int (i:Nat) 0).toArray[((es.size:Nat):Int).toNat]? with | some (Value.int place tok)=>_ | some val=>_ | none=>_) _ _ s from ?_)
 rw [e1]
 refine (show wpAny _ _ (setField (.ref it) 0 _ >>= _) _ _ { s with heap:=s.heap } from oP hI (by simp [siO]) fun h1 g1 k1 x1=>?_)
 refine oP g1 (by simp) fun h2 g2 k2 x2=>?_
 refine (show wpAny _ _ (newExc (.type "StopIteration") [] >>= _) _ _ _ from wpAny_bind ?_); simp only [newExc,newTuple]
 refine wpAny_bind (wpAny_newObj_type (wpAny_bind (m:=firstArgMember _ _) (wpAny_of_eq (a:=Value.none) (by first | rfl | (simp only [firstArgMember]; rfl)) (wpAny_newObj_type ?_ (by size_fits)))) (by size_fits))
 simp only [raiseNew]
 refine wpAny_bind (wpAny_handled ?_); rw [show A.in1.handled=none from hh]
 refine wpAny_bind (wpAny_pure (wpAny_throw ?_)); refine wpAny_bind (wpAny_isInstance (T:="StopIteration") (b:=true) ⟨_,Heap.get?_push_size _ rfl,rfl⟩ isSubtype_stop ?_)
 exact wpAny_pure (q _ (((x1.trans x2).push _).push _))
end
end L2
set_option Elab.async false
set_option linter.all false
set_option maxRecDepth 1000000
set_option maxHeartbeats 4000000
namespace L2
open PySem PySem.Spec PyProof.Rows
theorem BH:typeLookup (Value.type "set") (Str.ofString "__len__")=pure (some (Value.builtin "set.__len__")):=by
 rw [typeLookup_type,builtinLookup_eq_fast]; rfl
theorem A0:entryFor table "set_iterator.__iter__" = some Builtin.«dict_keyiterator.__iter__»:=entryFor_alias (id:="set_iterator.__iter__") (id':="dict_keyiterator.__iter__") (by first | rfl | decide +kernel) (by first | rfl | decide +kernel) (by decide +kernel) (by rfl)
theorem BI (a:Value):argsOk "set_iterator.__iter__" ⟨[a],[]⟩:=by
 have e:=signature?_of (id:="set_iterator.__iter__") (n:=['_','_','r','e','t','i','_','_']) (o:=['r','o','t','a','r','e','t','i','_','t','e','s']) (by rfl) D9
 unfold argsOk
 rw [e]
 rfl
section
variable {prog:Program} {w:World} {A:Around} {E:Value->Shared->Prop} {s:Shared} {a it:Addr} {o:Obj} {es:Array (Int×Value)} {ep:Nat} {t:SetTable}
theorem JS {Q:Bool->Shared->Prop} (hT:s.TypeIs (.ref a) "set") (q:Q false s):wpAny (model prog w) A (Builtin.List.listLengthHint (.ref a)) Q E s:=by
 unfold Builtin.List.listLengthHint
 refine wpAny_bind (wpAny_specialOf hT BH ?_)
 dsimp only
 rw [show splitId "set.__len__" = some ("set","__len__") by decide +kernel]
 refine wpAny_bind (wpAny_isInstance hT sub_set_self ?_)
 refine wpAny_ite_split (fun h=>absurd h (by decide)) fun _=>?_
 refine wpAny_ite_split (fun _=>wpAny_bind (wpAny_typeOf hT (wpAny_pure q))) fun h=>?_
 exact absurd (by decide) h
theorem De {first:Value} {i n:Nat} {Q:Value->Shared->Prop} (hI:s.heap.get? it=some (siO a first i n ep)) (q:Q (.ref it) s):wpAny (model prog w) A (pyIter (.ref it)) Q E s:=by
 have hT:=Dc hI
 refine wpAny_pyIter_slot hT qW (wpAny_call_entry qW hT A0 (show wpAny _ _ (Builtin.«dict_keyiterator.__iter__» _) _ _ _ from ?_) (BI _))
 unfold Builtin.«dict_keyiterator.__iter__»
 refine wpAny_bind (wpAny_pure ?_)
 exact wpAny_pure ⟨_,rfl,"set_iterator",_,hT,bD.lookup,q⟩
theorem EY (hh:A.handled=none) (hne:a≠it) (hd:o.data=.set es ep t) (ht:TOk (cU w) t) (hf:t.fits es.size=true) (hnd:cU w=true\/(!t.plain && decide (es.size > 1))=false):
  Walks prog w A it [it,a] [it] es.size (fun i v=>(kG w a ep es)[i]?.map (·.2)=some v) (fun i h=>h.get? it=some (siO a (.int (slotAt w t i) 0) i es.size ep)/\h.get? a=some o):=by
 have hsz:(kG w a ep es).size=es.size:=by have:=(lL (w:=w) (a:=a) (ep:=ep) (es:=es)).length_eq; simpa using this
 refine ⟨fun b hb=>by simp at hb; simp [hb],fun i h h' hs k=>⟨k it (by simp) _ hs.1,k a (by simp) _ hs.2⟩,fun i s Q E hi hs q=>?_,fun s Q E hs q=>?_,fun i s Q E hs q=>?_⟩
 ·have hl:i < (kG w a ep es).size:=by omega
  refine HC hs.1 hs.2 hd ht hf hnd hi hl fun h' g k=>q _ h' s.toks (by rw [Array.getElem?_eq_getElem hl]; rfl) ⟨g,by rw [k a hne]; exact hs.2⟩ fun b o' hb e=>by rw [k b (by simpa using hb)]; exact e
 ·exact JQ hh hs.1 hs.2 hd ht hf hnd fun h' k=>q h' s.toks fun b o' hb e=>k b o' (by simpa using hb) e
 ·exact De hs.1 q
theorem EZ {tp:Nat} {ys:List Nat} (hh:A.handled=none) (hne:a≠it) (hnt:tp≠it) (hd:o.data=.set es ep t) (hf:t.fits es.size=true) (hy:ys.Perm (List.range es.size)):
  Walks prog w A it [it,tp,a] [it] es.size (fun i v=>∃ p e,ys[i]?=some p/\es[p]?=some e/\v=e.2) (fun i h=>h.get? it=some (siO a (.ref tp) i es.size ep)/\h.get? tp=some (zZ ys)/\h.get? a=some o):=by
 have hl:ys.length=es.size:=by have:=hy.length_eq; simpa using this
 refine ⟨fun b hb=>by simp at hb; simp [hb],fun i h h' hs k=>⟨k it (by simp) _ hs.1,k tp (by simp) _ hs.2.1,k a (by simp) _ hs.2.2⟩,fun i s Q E hi hs q=>?_,fun s Q E hs q=>?_,fun i s Q E hs q=>?_⟩
 ·have h1:i < ys.length:=by omega
  have e1:ys[i]?=some ys[i]:=List.getElem?_eq_getElem h1
  have h2:ys[i] < es.size:=by have:=hy.mem_iff.mp (List.getElem_mem h1); simpa using this
  have e2:es[ys[i]]?=some es[ys[i]]:=Array.getElem?_eq_getElem h2
  exact HE hs.1 hs.2.1 hs.2.2 hd hf e1 e2 fun h' g k=>q _ h' s.toks ⟨_,_,e1,e2,rfl⟩ ⟨g,by rw [k tp hnt]; exact hs.2.1,by rw [k a hne]; exact hs.2.2⟩ fun b o' hb e=>by rw [k b (by simpa using hb)]; exact e
 ·exact JR hh hs.1 hs.2.1 hs.2.2 hd hf hl fun h' k=>q h' s.toks fun b o' hb e=>k b o' (by simpa using hb) e
 ·exact De hs.1 q
theorem F0 {R:Result->Shared->Prop} (hh:A.handled=none) (ho:s.heap.get? a=some o) (hx:o.ExactSet) (hd:o.data=.set es ep t) (ht:TOk (cU w) t) (hf:t.fits es.size=true) (hz:es.size<=sizeLine) (S:Addr) (hSa:S≠a) (res:Value) (c₀:Nat)
  (hS:s.heap.get? S=some { cls:=.type "list",data:=.seq #[] c₀ })
  (hR:∀ h' d tk (acc:Array Value) c',(∀ b o,b≠S->s.heap.get? b=some o->h'.get? b=some o)->h'.get? S=some { cls:=.type "list",data:=.seq acc c' }->acc.toList.Perm (es.toList.map (·.2))->R (.ok (.ret res)) { s with heap:=h',drawn:=d,toks:=tk }):
  wpAny (model prog w) A.in1 (Builtin.List.listExtendWith (.ref S) (.ref a) res) (fun fin s'=>match fin with | .done f=>R (.ok f) s' | .again c'=>c'.quiet=true/\codeAny (model prog w) A c' R s') (fun e s'=>R (.error e) s') s:=by
 have hT:s.TypeIs (.ref a) "set" := ⟨o,ho,hx.1⟩
 have hla:=Heap.lt_size ho
 have hlS:=Heap.lt_size hS
 unfold Builtin.List.listExtendWith
 refine wpAny_bind (wpAny_typeOf hT ?_)
 have hc:(Builtin.List.listSameRef (.ref S) (.ref a) || Value.type "set" == Value.type "list" || Value.type "set" == Value.type "tuple")=false:=by
  have:Builtin.List.listSameRef (.ref S) (.ref a)=false:=by simp [Builtin.List.listSameRef,hSa]
  rw [this]
  decide
 rw [hc,if_neg Bool.false_ne_true]
 have tail:∀ {s1:Shared} {I:Addr} {fp:List Addr} {P:Nat->Value->Prop} {St:Nat->Heap->Prop},Walks prog w A.in1 I fp [I] es.size P St->S∉fp->St 0 s1.heap->I≠S->s1.heap.get? S=some { cls:=.type "list",data:=.seq #[] c₀ }->s1.TypeIs (.ref a) "set" -> s1.gens=s.gens->s1.os=s.os->
   (∀ b o,s.heap.get? b=some o->s1.heap.get? b=some o)->s.heap.objs.size<=I->(∀ acc,ItemsOf P acc es.size->acc.toList.Perm (es.toList.map (·.2)))->
   ∀ {f:Bool->Sem PySem.Fin},(∀ b,f b=(if (b || false)=true then (do rule "list.extend.makes-room"; Builtin.List.listTouch (.ref S); again (.builtin "list.extend.loop" ⟨[.ref S,.ref I,res],[]⟩)) else again (.builtin "list.extend.loop" ⟨[.ref S,.ref I,res],[]⟩))\/
    f b=(do rule "list.extend.makes-room"; Builtin.List.listTouch (.ref S); again (.builtin "list.extend.loop" ⟨[.ref S,.ref I,res],[]⟩)))->
   wpAny (model prog w) A.in1 (holding [Value.ref I] (Builtin.List.listLengthHint (.ref a)) >>= f) (fun fin s'=>match fin with | .done f=>R (.ok f) s' | .again c'=>c'.quiet=true/\codeAny (model prog w) A c' R s') (fun e s'=>R (.error e) s') s1:=by
  intro s1 I fp P St W hSf hst hIS hS1 hT1 hg hos kp hI hit f hf'
  have key:∀ h c₁ tk,St 0 h->(∀ b o,b≠S->s1.heap.get? b=some o->h.get? b=some o)->h.get? S=some { cls:=.type "list",data:=.seq #[] c₁ }->codeAny (model prog w) A (.builtin "list.extend.loop" ⟨[.ref S,.ref I,res],[]⟩) R { s1 with heap:=h,toks:=tk }:=by
   intro h c₁ tk hst' hk hS2
   refine codeAny_extend_loopS (Walks.toS W) hz S hSf res es.size 0 _ #[] c₁ (Nat.sub_zero _) (Nat.zero_le _) hst' hS2 (ItemsOf.nil P) fun s' acc c' hm hS' hacc=>?_
   have e:=Moved.eq_with hm
   rw [e]
   have:=hR s'.heap s1.drawn s'.toks acc c' (fun b o hb e=>hm.heap b o (fun z=>?_) (hk b o hb (kp b o e))) hS' (hit acc hacc)
   ·rw [<- hg,<- hos] at this
    exact this
   ·rcases List.mem_cons.mp z with z | z
    ·exact hb z
    ·have h1:=Heap.lt_size e
     exact absurd (List.mem_singleton.mp z ▸ h1) (Nat.not_lt.mpr hI)
  refine wpAny_bind (wpAny_holding (JS hT1 ?_))
  have touch:wpAny (model prog w) A.in1 (do rule "list.extend.makes-room"; Builtin.List.listTouch (.ref S); again (.builtin "list.extend.loop" ⟨[.ref S,.ref I,res],[]⟩)) (fun fin s'=>match fin with | .done f=>R (.ok f) s' | .again c'=>c'.quiet=true/\codeAny (model prog w) A c' R s') (fun e s'=>R (.error e) s') s1:=by
   refine wpAny_bind (wpAny_rule (wpAny_bind ?_))
   unfold Builtin.List.listTouch
   refine wpAny_bind (wpAny_updateSeq hS1 rfl ?_)
   have hS₂:=Heap.get?_update_self (Obj.mapSeq fun x=>x.push Value.none) hS1 rfl
   refine wpAny_updateSeq hS₂ rfl ?_
   have hS₃:=Heap.get?_update_self (Obj.mapSeq fun x=>x.pop) hS₂ rfl
   refine wpAny_pure ⟨plainId_quiet F.plain_extend_loop _,key _ _ _ (W.frame 0 s1.heap _ hst fun b hb o e=>?_) (fun b o hb e=>?_) hS₃⟩
   ·have hbS:b≠S:=fun h=>hSf (h ▸ hb)
    exact (Heap.get?_update_other _ _ (Ne.symm hbS)).trans ((Heap.get?_update_other _ _ (Ne.symm hbS)).trans e)
   ·exact (Heap.get?_update_other _ _ (Ne.symm hb)).trans ((Heap.get?_update_other _ _ (Ne.symm hb)).trans e)
  rcases hf' false with h | h
  ·rw [h,if_neg (by decide)]
   exact wpAny_pure ⟨plainId_quiet F.plain_extend_loop _,key s1.heap _ s1.toks hst (fun b o _ e=>e) hS1⟩
  ·rw [h]
   exact touch
 refine wpAny_bind (JP ho hx hd hf hz (fun hnd=>?_) fun ys d hp=>?_)
 ·refine tail (s1:={ s with heap:=s.heap.push (siO a (.int 0 0) 0 es.size ep) }) (EY (A:=A.in1) hh (Nat.ne_of_lt hla) hd ht hf hnd) ?_ ⟨?_,Heap.get?_push_of_some _ ho⟩ (Nat.ne_of_gt hlS) (Heap.get?_push_of_some _ hS) ⟨o,Heap.get?_push_of_some _ ho,hx.1⟩ rfl rfl (fun b o e=>Heap.get?_push_of_some _ e) (Nat.le_refl _) (fun acc ha=>?_) (fun b=>?_)
  ·intro z
   rcases List.mem_cons.mp z with z | z
   ·exact Nat.ne_of_lt hlS z
   ·exact hSa (List.mem_singleton.mp z)
  ·have e0:slotAt w t 0=0:=by unfold slotAt; split <;> rfl
   rw [e0]
   exact Heap.get?_push_size _ rfl
  ·have hsz:(kG w a ep es).size=es.size:=by have:=(lL (w:=w) (a:=a) (ep:=ep) (es:=es)).length_eq; simpa using this
   have:acc.toList=(kG w a ep es).toList.map (·.2):=by
    apply List.ext_getElem?
    intro i
    rw [List.getElem?_map,Array.getElem?_toList,Array.getElem?_toList]
    by_cases hi:i < acc.size
    ·have e:=ha.2 i acc[i] (Array.getElem?_eq_getElem hi)
     rw [Array.getElem?_eq_getElem hi]
     exact e.symm
    ·have h1:=ha.1
     rw [Array.getElem?_eq_none (by omega),Array.getElem?_eq_none (by omega)]
     rfl
   rw [this]
   exact lL.map _
  ·cases b <;> first | exact Or.inl rfl | exact Or.inr rfl
 ·have hp1:(s.heap.push (zZ ys)).objs.size=s.heap.objs.size+1:=Heap.size_push ..
  have gS:(s.heap.push (zZ ys)).get? S=some { cls:=.type "list",data:=.seq #[] c₀ }:=Heap.get?_push_of_some _ hS
  have ga:(s.heap.push (zZ ys)).get? a=some o:=Heap.get?_push_of_some _ ho
  have gt:(s.heap.push (zZ ys)).get? s.heap.objs.size=some (zZ ys):=Heap.get?_push_size _ rfl
  refine tail (s1:={ s with heap:=(s.heap.push (zZ ys)).push (siO a (.ref s.heap.objs.size) 0 es.size ep),drawn:=d }) (EZ (A:=A.in1) (it:=s.heap.objs.size+1) (tp:=s.heap.objs.size) hh (Nat.ne_of_lt (Nat.lt_succ_of_lt hla)) (Nat.ne_of_lt (Nat.lt_succ_self _)) hd hf hp) ?_ ⟨?_,Heap.get?_push_of_some _ gt,Heap.get?_push_of_some _ ga⟩ (Nat.ne_of_gt (Nat.lt_succ_of_lt hlS)) (Heap.get?_push_of_some _ gS) ⟨o,Heap.get?_push_of_some _ ga,hx.1⟩ rfl rfl (fun b o e=>Heap.get?_push_of_some _ (Heap.get?_push_of_some _ e)) (Nat.le_succ _) (fun acc ha=>?_) (fun b=>?_)
  ·intro z
   rcases List.mem_cons.mp z with z | z
   ·exact Nat.ne_of_lt (Nat.lt_succ_of_lt hlS) z
   rcases List.mem_cons.mp z with z | z
   ·exact Nat.ne_of_lt hlS z
   ·exact hSa (List.mem_singleton.mp z)
  ·have:=Heap.get?_push_size (s.heap.push (zZ ys)) (o:=siO a (.ref s.heap.objs.size) 0 es.size ep) rfl
   rw [hp1] at this
   exact this
  ·have hl:ys.length=es.size:=by have:=hp.length_eq; simpa using this
   have:acc.toList=ys.map fun p=>(es.toList.map (·.2)).getD p .none:=by
    apply List.ext_getElem?
    intro i
    rw [List.getElem?_map,Array.getElem?_toList]
    by_cases hi:i < acc.size
    ·obtain ⟨p,e,h1,h2,h3⟩:=ha.2 i acc[i] (Array.getElem?_eq_getElem hi)
     rw [Array.getElem?_eq_getElem hi,h1,h3]
     simp [h2]
    ·have h1:=ha.1
     rw [Array.getElem?_eq_none (by omega),List.getElem?_eq_none (by omega)]
     rfl
   rw [this]
   refine (hp.map _).trans ?_
   have e2:(List.range es.size).map (fun p=>(es.toList.map (·.2)).getD p .none)=es.toList.map (·.2):=by
    apply List.ext_getElem
    ·simp
    ·intro i h1 h2
     simp at h1 h2
     simp [h2]
   rw [e2]
  ·cases b <;> first | exact Or.inl rfl | exact Or.inr rfl
end
end L2
set_option Elab.async false
set_option linter.all false
set_option maxRecDepth 1000000
set_option maxHeartbeats 4000000
namespace L2
open PySem PySem.Spec PyProof.Rows
def xH (e:Int×Value):Str:=match e.2 with | .str k _=>k | _=>""
def dW (w:World) (h:Heap) (a:Addr) (ks:List Str):Prop:=∃ o es ep t,h.get? a=some o/\o.ExactSet/\o.data=.set es ep t/\TOk (cU w) t/\t.fits es.size=true/\
 (∀ e∈es.toList,∃ k tk,e=(hashStr w k,Value.str k tk))/\(es.toList.map xH).Perm ks
theorem Df (k:Str) (tk:Tok):Value.isStrOf k (.str k tk)=true:=by first | rfl | simp [Value.isStrOf]
section
variable {prog:Program} {w:World} {A:Around} {E:Value->Shared->Prop} {s:Shared} {a:Addr}
theorem HF {es:Array (Int×Value)} (h:∀ e∈es.toList,∃ k tk,e=(hashStr w k,Value.str k tk)):ElemsOf (strKind prog w) es.toList:=fun e he=>by
 obtain ⟨k,tk,rfl⟩:=h e he
 exact ⟨⟨k,Df k tk,rfl⟩,rfl⟩
theorem add_str {ks:List Str} {k:Str} {tk:Tok} {Q:Bool->Shared->Prop} (hS:dW w s.heap a ks) (hb:ks.length+1 < scanBound)
  (h:∀ b h',Heap.SameBut a s.heap h'->dW w h' a (if k∈ks then ks else ks++[k])->Q b { s with heap:=h' }):wpAny (model prog w) A (setAddHashed a (Value.str k tk) (hashStr w k)) Q E s:=by
 obtain ⟨o,es,ep,t,ho,hx,hd,ht,hf,hel,hp⟩:=hS
 have hlen:es.size=ks.length:=by have:=hp.length_eq; simpa using this
 have hE:ElemsOf (strKind prog w) es.toList:=HF hel
 unfold setAddHashed
 refine wpAny_holding ?_
 rw [setAddHashedIn.eq_def]
 refine wpAny_bind (wpAny_setState_of ho hd hf ?_)
 dsimp only
 rw [byScan_of (prog:=prog) (w:=w) (knd:=strKind prog w) (show (Value.str k tk).scannable=true from rfl) (by omega) hE,if_pos rfl]
 refine wpAny_bind ?_
 unfold setAddByScan
 refine wpAny_bind (wpAny_rule (wpAny_bind (wpAny_setScan_of (knd:=strKind prog w) (Df k tk) ho hd hf hE ?_)))
 cases hi:List.findIdx? (fun e=>(strKind prog w).is k e.snd) es.toList with
 | some j=>
  have hm:k∈ks:=by
   obtain ⟨hj,h1,_⟩:=List.findIdx?_eq_some_iff_getElem.mp hi
   have hin:=List.getElem_mem hj
   obtain ⟨k',tk',e⟩:=hel _ hin
   rw [e] at h1
   have:k=k':=(strKind prog w).inj _ _ _ h1 (Df k' tk')
   subst this
   refine hp.mem_iff.mp (List.mem_map.mpr ⟨_,hin,?_⟩)
   rw [e]; rfl
  refine wpAny_pure (wpAny_pure (h _ s.heap (Heap.SameBut.refl ..) ?_))
  rw [if_pos hm]
  exact ⟨o,es,ep,t,ho,hx,hd,ht,hf,hel,hp⟩
 | none=>
  have hm:k∉ks:=by
   intro hk
   obtain ⟨e,he,hke⟩:=List.mem_map.mp (hp.mem_iff.mpr hk)
   obtain ⟨k',tk',rfl⟩:=hel _ he
   have h1:=List.findIdx?_eq_none_iff.mp hi _ he
   have h2:k'=k:=hke
   subst h2
   have h3:Value.isStrOf k' (.str k' tk')=false:=h1
   rw [Df k' tk'] at h3
   cases h3
  have pe:=layNew_perm t es (hashStr w k) (Value.str k tk)
  have fi:=layNew_fits t es (hashStr w k) (Value.str k tk)
  have tl:=ht.lay es (hashStr w k) (Value.str k tk)
  generalize layNew t es (hashStr w k) (Value.str k tk)=L at pe fi tl
  obtain ⟨es1,t1,wd,gave⟩:=L
  dsimp only at pe fi tl ⊢
  have hsz:es1.size < scanBound:=by have:=pe.length_eq; simp at this; omega
  have fin:∀ h' es' ep' t',Heap.SameBut a s.heap h'->h'.get? a=some { o with data:=.set es' ep' t' }->es'.toList.Perm es1.toList->TOk (cU w) t'->t'.fits es'.size=true->Q true { s with heap:=h' }:=fun h' es' ep' t' h1 h2 h3 h4 h5=>by
   have p2:es'.toList.Perm (es.toList++[(hashStr w k,Value.str k tk)]):=h3.trans (by simpa using pe)
   refine h _ _ h1 ?_
   rw [if_neg hm]
   refine ⟨_,_,_,_,h2,⟨hx.1,hx.2.1,hx.2.2⟩,rfl,h4,h5,fun e he=>?_,?_⟩
   ·rcases List.mem_append.mp (p2.mem_iff.mp he) with h6 | h6
    ·exact hel e h6
    ·exact ⟨k,tk,List.mem_singleton.mp h6⟩
   ·refine (p2.map xH).trans ?_
    rw [List.map_append]
    exact hp.append (List.Perm.refl _)
  refine wpAny_bind ?_
  refine wpAny_mono (Q:=fun _ s'=>s'=s) ?_ (fun _ s' e=>?_) (fun _ _ e=>e)
  ·cases gave
   ·exact wpAny_pure rfl
   ·exact wpAny_rule rfl
  subst e
  have stp:∀ {m:Sem Bool},m=pure true->∀ {f:Bool->Sem (Option Bool)} {R:Option Bool->Shared->Prop},wpAny (model prog w) A (f true) R E s'->wpAny (model prog w) A (m >>= f) R E s':=fun e _ _ hq=>by subst e; exact wpAny_bind (wpAny_pure hq)
  have stpF:∀ {m:Sem Bool},m=pure false->∀ {f:Bool->Sem (Option Bool)} {R:Option Bool->Shared->Prop},wpAny (model prog w) A (f false) R E s'->wpAny (model prog w) A (m >>= f) R E s':=fun e _ _ hq=>by subst e; exact wpAny_bind (wpAny_pure hq)
  by_cases hpl:t1.plain=true
  rw [if_pos hpl]
  refine stpF (hashByValue_scannable 8 (show (Value.str k tk).scannable=true from rfl)) ?_
  rw [if_neg Bool.false_ne_true]
  have tl:=tl.off
  have fi:SetTable.fits { t1 with plain:=false } es1.size=true:=fi
  generalize ({ t1 with plain:=false }:SetTable)=t1 at tl fi ⊢
  rotate_left
  rw [if_neg hpl]
  refine stp rfl ?_
  rw [if_pos rfl]
  all_goals
   have sto:∀ {f:Unit->Sem (Option Bool)} {R:Option Bool->Shared->Prop},wpAny (model prog w) A (f ()) R E { s' with heap:=s'.heap.update a (Obj.putSet es1 t1) }->wpAny (model prog w) A (storeSet a es1 t1 >>= f) R E s':=fun hq=>
    wpAny_bind (wpAny_storeSet_of ho hd hq (fits_of_scanBound hsz))
   have g1:=Gc (es':=es1) (t':=t1) ho hd
   have sb:=Heap.SameBut.update s'.heap a (Obj.putSet es1 t1)
   refine sto ?_
   by_cases hc:(!wd && t1.tooFull)=true
   ·rw [if_pos hc]
    have pe2:=relayAll_perm t1 es1 (SetTable.grown es1.size)
    have fi2:=relayAll_fits t1 es1 (SetTable.grown es1.size)
    have tr:=tl.relay es1 (SetTable.grown es1.size)
    have hl:(relayAll t1 es1 (SetTable.grown es1.size)).fst.size=es1.size:=by have:=pe2.length_eq; simpa using this
    generalize relayAll t1 es1 (SetTable.grown es1.size)=L at pe2 fi2 tr hl
    obtain ⟨es2,t2,g2⟩:=L
    refine wpAny_bind (wpAny_mono (Q:=fun _ s2=>s2={ s' with heap:=s'.heap.update a (Obj.putSet es1 t1) }) ?_ (fun _ s2 e2=>?_) (fun _ _ e=>e))
    ·cases g2
     ·exact wpAny_pure rfl
     ·exact wpAny_rule rfl
    ·subst e2
     refine wpAny_bind (wpAny_storeSet_of (s:={ s' with heap:=s'.heap.update a (Obj.putSet es1 t1) }) g1 rfl ?_ (by rw [hl]; exact fits_of_scanBound hsz))
     exact wpAny_pure (wpAny_pure (fin _ _ _ _ (sb.trans (Heap.SameBut.update _ _ _)) (Gc (h:=s'.heap.update a (Obj.putSet es1 t1)) (o:={ o with data:=.set es1 (ep+1) t1 }) g1 rfl) pe2 tr fi2))
   ·rw [if_neg hc]
    exact wpAny_pure (wpAny_pure (fin _ _ _ _ sb g1 (List.Perm.refl _) tl fi))
end
end L2
set_option Elab.async false
set_option linter.all false
set_option maxRecDepth 1000000
set_option maxHeartbeats 4000000
namespace L2
open PySem PySem.Spec PyProof.Rows
section
variable {prog:Program} {w:World} {A:Around} {E:Value->Shared->Prop} {s:Shared} {a:Addr}
theorem dW.kept {h h':Heap} {ks:List Str} (H:dW w h a ks) (k:∀ o,h.get? a=some o->h'.get? a=some o):dW w h' a ks:=by
 obtain ⟨o,es,ep,t,ho,r⟩:=H
 exact ⟨o,es,ep,t,k o ho,r⟩
def fmT (val:Nat->Str):Nat->List Str
 | 0=>[]
 | i+1=>if val i∈fmT val i then fmT val i else fmT val i++[val i]
theorem BJ (val:Nat->Str):∀ i,(fmT val i).length<=i
 | 0=>Nat.le_refl _
 | i+1=>by
  have:=BJ val i
  unfold fmT
  split
  ·omega
  ·simp; omega
theorem Gd (val:Nat->Str) (x:Str):∀ i,x∈fmT val i ↔ ∃ j,j < i/\val j=x
 | 0=>by simp [fmT]
 | i+1=>by
  have ih:=Gd val x i
  have key:x∈fmT val (i+1) ↔ x∈fmT val i\/x=val i:=by
   show x∈(if val i∈fmT val i then fmT val i else fmT val i++[val i]) ↔ _
   split
   ·rename_i h
    constructor
    ·exact .inl
    ·rintro (h1 | h1)
     ·exact h1
     ·rw [h1]; exact h
   ·simp
  rw [key,ih]
  constructor
  ·rintro (⟨j,h1,h2⟩ | h)
   ·exact ⟨j,by omega,h2⟩
   ·exact ⟨i,by omega,h.symm⟩
  ·rintro ⟨j,h1,h2⟩
   by_cases e:j=i
   ·right; rw [<- h2,e]
   ·left; exact ⟨j,by omega,h2⟩
theorem JT (val:Nat->Str):∀ i,(fmT val i).Nodup
 | 0=>List.nodup_nil
 | i+1=>by
  have ih:=JT val i
  unfold fmT
  split
  ·exact ih
  ·rename_i h
   rw [List.nodup_append]
   refine ⟨ih,by simp,fun a ha b hb=>?_⟩
   simp at hb
   subst hb
   intro e
   subst e
   exact h ha
theorem HG {R:Result->Shared->Prop} {I:Addr} {fp wr:List Addr} {G:Array GenState->Array GenState->Prop} {n:Nat} {P:Nat->Value->Prop} {St:Nat->Shared->Prop} (W:WalksS prog w A.in1 I fp wr G n P St) (S:Addr) (hSf:S∉fp)
  (val:Nat->Str) (hval:∀ i v,P i v->∃ t,v=Value.str (val i) t) (hb:n+1 < scanBound):∀ (k i:Nat) (s:Shared),n - i=k->i<=n->St i s->dW w s.heap S (fmT val i)->
   (∀ s',Moved (S :: wr) G s s'->dW w s'.heap S (fmT val n)->R (.ok (.ret .none)) s')->codeAny (model prog w) A (.builtin "set.update.loop" ⟨[.ref S,.ref I],[]⟩) R s:=by
 have hSw:S∉wr:=fun h=>hSf (W.sub S h)
 have hsub:∀ b∈wr,b∈S :: wr:=fun b hb=>List.mem_cons_of_mem S hb
 intro k
 induction k with
 | zero=>
  intro i s hk hi hst hS hR
  have:i=n:=by omega
  subst this
  refine codeAny_builtin PyProof.Rows.F.entry_set_update_loop ?_
  rw [Around.under_plainId PyProof.Rows.F.plain_set_update_loop]
  refine (show wpAny _ _ (pyNext (.ref I) >>= _) _ _ s from wpAny_bind (W.done s _ _ hst fun s' hm=>?_))
  exact wpAny_pure (hR s' (hm.mono hsub) (hS.kept fun o ho=>hm.heap S o hSw ho))
 | succ k ih=>
  intro i s hk hi hst hS hR
  have hlt:i < n:=by omega
  refine codeAny_builtin PyProof.Rows.F.entry_set_update_loop ?_
  rw [Around.under_plainId PyProof.Rows.F.plain_set_update_loop]
  refine (show wpAny _ _ (pyNext (.ref I) >>= _) _ _ s from wpAny_bind (W.item i s _ _ hlt hst fun v s' hP hst' hm=>?_))
  obtain ⟨t,rfl⟩:=hval i v hP
  have hS':dW w s'.heap S (fmT val i):=hS.kept fun o ho=>hm.heap S o hSw ho
  refine (show wpAny _ _ (holding [Value.str (val i) t] (setAdd S (.str (val i) t)) >>= _) _ _ s' from wpAny_bind (wpAny_holding ?_))
  unfold setAdd
  refine wpAny_holding (wpAny_bind ((strKind prog w).pyHash (Df (val i) t) ?_))
  have hl:=BJ val i
  refine add_str (s:={ s' with toks:=s'.toks+1 }) hS' (by omega) fun b h' hsb hS2=>?_
  have hS2:dW w h' S (fmT val (i+1)):=hS2
  refine wpAny_pure ⟨plainId_quiet PyProof.Rows.F.plain_set_update_loop _,ih (i+1) _ (by omega) hlt (W.frame (i+1) s' h' (s'.toks+1) hst' (Nat.le_succ _) fun b hb o e=>?_) hS2 fun s'' hm'' hS''=>hR s'' ?_ hS''⟩
  ·rw [hsb.2 b fun h=>hSf (h ▸ hb)]; exact e
  ·refine Moved.trans W.gtrans (Moved.then_heap (hm.mono hsub) (Nat.le_succ _) fun b o hb e=>?_) hm''
   rw [hsb.2 b fun h=>hb (h ▸ List.mem_cons_self)]; exact e
theorem N7 {vs:List Value} {ns:List Str} (h:StrsAre vs ns) (i:Nat) (v:Value) (hv:vs[i]?=some v):∃ t,v=Value.str (ns.getD i "") t:=by
 obtain ⟨y,t,e,hy⟩:=StrsAre.item h i v hv
 exact ⟨t,by rw [e]; simp [List.getD_eq_getElem?_getD,hy]⟩
theorem HH {l:Addr} {items:Array Value} {ns:List Str} {Q:Value->Shared->Prop} (hh:A.handled=none) (hl:s.heap.IsList l items) (hi:StrsAre items.toList ns) (hb:items.size+1 < scanBound)
  (h:∀ h' tk,dW w h' s.heap.objs.size (fmT (fun i=>ns.getD i "") items.size)->(∀ b o,s.heap.get? b=some o->h'.get? b=some o)->Q (.ref s.heap.objs.size) { s with heap:=h',toks:=tk }):
  wpAny (model prog w) A (call (.type "set") [.ref l]) Q E s:=by
 obtain ⟨c,tl,hmro⟩:=F.called_set.mro
 have hmade:=F.called_set.made
 have hsub:=F.called_set.sub
 refine wpAny_call (codeAny_of_tree (show wpAny _ _ _ _ _ _ from wpAny_pure ⟨Code.quiet_builtin _ (by simp),codeAny_builtin F.entry_type_call ?_⟩))
 rw [show A.under (Code.builtin "type.__call__" ⟨Value.type "set" :: [Value.ref l],[]⟩)=A.in1 from Around.under_plain (weight_type_call_type "set" [Value.ref l] []) rfl]
 unfold Builtin.«type.__call__»
 dsimp only
 have h1:=F.called_set.notType
 have h2:=F.called_set.canCreate
 refine wpAny_ite_false (show decide _=false from rfl) ?_
 refine wpAny_ite_false (show decide _=false from rfl) ?_
 refine wpAny_bind (wpAny_of_eq (F.typeCall_set_1 (Value.ref l)) ?_)
 refine wpAny_bind (wpAny_of_eq hmro ?_)
 refine wpAny_ite_false (show decide _=false from rfl) ?_
 refine wpAny_bind (wpAny_of_eq hmade ?_)
 refine wpAny_bind (wpAny_pure ?_)
 refine wpAny_bind (wpAny_holding (wpAny_call (codeAny_mono (code_set_new (E:=E) (Q₁:=fun obj s₁=>obj=.ref s.heap.objs.size/\s₁={ s with heap:=s.heap.push { cls:=.type "set",data:=.set #[] 0 (SetTable.fresh 0 0 !cU w) } }) (Value.ref l) ⟨rfl,rfl⟩) fun r s₁ hr=>?_)))
 cases r with
 | error e=>exact hr
 | ok fl=>
 cases fl with
 | next=>exact hr.elim
 | brk=>exact hr.elim
 | cont=>exact hr.elim
 | ret obj=>
  obtain ⟨rfl,rfl⟩:=hr
  have hT:({ s with heap:=s.heap.push { cls:=.type "set",data:=.set #[] 0 (SetTable.fresh 0 0 !cU w) } }:Shared).TypeIs (.ref s.heap.objs.size) "set" := ⟨_,Heap.get?_push_size _ rfl,rfl⟩
  refine (show wpAny _ _ _ _ _ _ from wpAny_bind (wpAny_isInstance hT hsub ?_))
  rw [if_neg (by decide)]
  refine wpAny_bind (wpAny_holding (wpAny_callSpecial?_slot (name:=Str.ofString "__init__") hT F.called_set.init ?_))
  refine wpAny_call (codeAny_call_builtin F.called_set.init.plain F.entry_set_init (check_set_init_1 hT ?_))
  have ho:(s.heap.push { cls:=.type "set",data:=.set #[] 0 (SetTable.fresh 0 0 !cU w) }).get? s.heap.objs.size=some { cls:=.type "set",data:=.set #[] 0 (SetTable.fresh 0 0 !cU w) }:=Heap.get?_push_size _ rfl
  have hl':(s.heap.push { cls:=.type "set",data:=.set #[] 0 (SetTable.fresh 0 0 !cU w) }).IsList l items:=by
   obtain ⟨o,e,r⟩:=hl
   exact ⟨o,Heap.get?_push_of_some _ e,r⟩
  have hTl:({ s with heap:=s.heap.push { cls:=.type "set",data:=.set #[] 0 (SetTable.fresh 0 0 !cU w) } }:Shared).TypeIs (.ref l) "list" := by
   obtain ⟨o,e,r,_⟩:=hl'
   exact ⟨o,e,r⟩
  have hS0:dW w (s.heap.push { cls:=.type "set",data:=.set #[] 0 (SetTable.fresh 0 0 !cU w) }) s.heap.objs.size []:=
   ⟨_,_,_,_,ho,⟨rfl,rfl,rfl⟩,rfl,⟨rfl,fun e=>by simp [SetTable.fresh,e],fun _=>List.Pairwise.nil⟩,rfl,fun e he=>(by cases he),List.Perm.refl _⟩
  unfold Builtin.«set.__init__»
  refine wpAny_bind (show wpAny _ _ (pure ()) _ _ _ from wpAny_pure ?_)
  refine (show wpAny _ _ (typeNameOfCut 200 (Value.ref s.heap.objs.size) >>= _) _ _ _ from wpAny_bind ?_)
  unfold typeNameOfCut shownTypeOf
  refine wpAny_bind (wpAny_bind (wpAny_typeOf hT ?_))
  rw [if_neg (by decide)]
  refine wpAny_pure (wpAny_of_eq (a:="set") (by rfl) ?_)
  refine wpAny_bind (wpAny_of_eq (a:=()) (by rfl) ?_)
  refine wpAny_bind (wpAny_pure ?_)
  unfold setUsed
  refine wpAny_bind (wpAny_bind (wpAny_setState_of ho rfl rfl (wpAny_pure ?_)))
  refine wpAny_ite_false (show decide _=false from by cases cU w <;> rfl) ?_
  refine (show wpAny _ _ (Builtin.Frozenset.updateFrom "set.__init__" s.heap.objs.size (.ref l) >>= _) _ _ _ from wpAny_bind ?_)
  unfold Builtin.Frozenset.updateFrom Builtin.Frozenset.isAnySet
  refine wpAny_bind ?_
  refine wpAny_bind (wpAny_isInstance hTl F.sub_list_set ?_)
  refine wpAny_isInstance hTl F.sub_list_frozenset ?_
  rw [if_neg (by decide)]
  refine wpAny_bind (wpAny_typeOf hTl ?_)
  rw [if_neg (by decide)]
  refine wpAny_bind (wpAny_pyIter_list hl' ?_)
  refine wpAny_bind (wpAny_runValue ?_)
  have ne1:s.heap.objs.size≠(s.heap.push { cls:=.type "set",data:=.set #[] 0 (SetTable.fresh 0 0 !cU w) }).objs.size:=Nat.ne_of_lt (Heap.lt_size ho)
  have hll:l < s.heap.objs.size:=by obtain ⟨o,e,_⟩:=hl; exact Heap.lt_size e
  have ne2:s.heap.objs.size≠l:=Nat.ne_of_gt hll
  have kp0:∀ b o,s.heap.get? b=some o->(s.heap.push { cls:=.type "set",data:=.set #[] 0 (SetTable.fresh 0 0 !cU w) }).get? b=some o:=fun b o e=>Heap.get?_push_of_some _ e
  have hsz:s.heap.objs.size < (s.heap.push { cls:=.type "set",data:=.set #[] 0 (SetTable.fresh 0 0 !cU w) }).objs.size:=Heap.lt_size ho
  clear hT hTl ho
  generalize s.heap.push { cls:=.type "set",data:=.set #[] 0 (SetTable.fresh 0 0 !cU w) }=h0 at*
  refine HG (A:=A.in1.in1) (Walks.toS (Walks.list (A:=A.in1.in1.in1) hh h0.objs.size l (Nat.ne_of_lt (Nat.lt_trans hll hsz)) items)) s.heap.objs.size ?_ (fun i=>ns.getD i "") (fun i v hv=>N7 hi i v (by simpa using hv)) hb items.size 0 _ (Nat.sub_zero _) (Nat.zero_le _) ⟨⟨_,Heap.get?_push_size _ rfl,rfl,rfl⟩,?_⟩ (hS0.kept fun o e=>Heap.get?_push_of_some _ e) fun s' hm hS=>?_
  ·intro z
   rcases List.mem_cons.mp z with z | z
   ·exact ne1 z
   ·exact ne2 (List.mem_singleton.mp z)
  ·obtain ⟨o,e,r⟩:=hl'
   exact ⟨o,Heap.get?_push_of_some _ e,r⟩
  ·refine wpAny_pure (wpAny_pure (wpAny_pure ?_))
   have e:=Moved.eq_with hm
   rw [e]
   refine h s'.heap s'.toks hS fun b o e=>hm.heap b o (fun z=>?_) (Heap.get?_push_of_some _ (kp0 b o e))
   rcases List.mem_cons.mp z with z | z
   ·exact Nat.ne_of_lt (Heap.lt_size e) z
   ·exact Nat.ne_of_lt (Nat.lt_trans (Heap.lt_size e) hsz) (List.mem_singleton.mp z)
end
end L2
set_option Elab.async false
set_option linter.all false
set_option maxRecDepth 100000
namespace L2
open PySem PySem.Spec PyProof.Rows PySem.SeqAt PySem.W
def cW (b:Bool) (n i:Nat):Nat:=if b then n - 1 - i else i
def Dg (b:Bool) (n:Nat) (p:List Nat):List Nat:=katRev b (p.map (cW b n))
theorem nB {α:Type} (b:Bool) {l:List α} {d:α} {i:Nat} (hi:i < l.length):(katRev b l).getD i d=l.getD (cW b l.length i) d:=by
 cases b with
 | false=>rfl
 | true=>
  show l.reverse.getD i d=l.getD (l.length - 1 - i) d
  rw [List.getD_eq_getElem?_getD,List.getD_eq_getElem?_getD,List.getElem?_reverse hi]
theorem iM {b:Bool} {n i:Nat} (h:i < n):cW b n i < n:=by
 unfold cW; split <;> omega
theorem F1 {b:Bool} {n:Nat} {p:List Nat} (h:p.Perm (List.range n)):(Dg b n p).Perm (List.range n):=by
 cases b with
 | false=>
  have e:Dg false n p=p:=by
   show p.map (fun i=>cW false n i)=p
   have:(fun i=>cW false n i)=id:=by funext i; rfl
   rw [this,List.map_id]
  rw [e]; exact h
 | true=>
  have e:(List.range n).map (cW true n)=(List.range n).reverse:=by
   apply List.ext_getElem
   ·simp
   ·intro i h1 h2
    simp [cW]
  show ((p.map (cW true n)).reverse).Perm _
  refine (List.reverse_perm _).trans ((h.map _).trans ?_)
  rw [e]
  exact List.reverse_perm _
theorem F2 {b:Bool} {n:Nat} {p:List Nat} {lt:Nat->Nat->Bool} (h:p.Pairwise (fun i j=>lt (cW b n j) (cW b n i)=false)):(Dg b n p).Pairwise (fun i j=>(if b then lt i j else lt j i)=false):=by
 have h1:(p.map (cW b n)).Pairwise (fun i j=>lt j i=false):=List.pairwise_map.mpr h
 cases b with
 | false=>exact h1
 | true=>
  show ((p.map (cW true n)).reverse).Pairwise _
  rw [List.pairwise_reverse]
  exact h1
theorem HI {b:Bool} {vs:List Value} {p:List Nat} (h:∀ i∈p,i < vs.length):katRev b (p.map fun i=>(katRev b vs).getD i Value.none)=(Dg b vs.length p).map fun i=>vs.getD i Value.none:=by
 have e:(p.map fun i=>(katRev b vs).getD i Value.none)=(p.map (cW b vs.length)).map fun i=>vs.getD i Value.none:=by
  rw [List.map_map]
  exact List.map_congr_left fun i hi=>nB b (h i hi)
 rw [e]
 unfold Dg katRev
 split
 ·rw [List.map_reverse]
 ·rfl
theorem F3 {α:Type} (b:Bool) (l:List α):katRev b (katRev b l)=l:=by
 unfold katRev; split <;> simp
theorem range_getD (vs:List Value):((List.range vs.length).map fun i=>vs.getD i Value.none)=vs:=by
 apply List.ext_getElem?
 intro i
 by_cases hi:i < vs.length
 ·simp [hi]
 ·simp [hi]
section
variable {prog:Program} {w:World} {A:Around} {E:Value->Shared->Prop} {s:Shared} {a kS:Addr} {b:Bool} {vs ks:List Value}
theorem OD {st:SortSt} {e e1:Nat} {out:List Value} {P:PySem.Fin->Shared->Prop} (hout:(arrOf st).map (·.2)=out.toArray) (hz:out.length < 64) (hkz:ks.length < 64) (hf:failedOf st=none) (hka:kS≠a)
  (gk:s.heap.get? kS=some (seqObj "list" ks.toArray e)) (ga:s.heap.get? a=some (seqObj "list" #[] e1))
  (h:∀ (h':Heap) (c:Nat),(∀ x o,x≠a->x≠kS->s.heap.get? x=some o->h'.get? x=some o)->h'.get? a=some (seqObj "list" (katRev b out).toArray c)->(∃ o,h'.get? kS=some o)->P (.done (.ret .none)) { s with heap:=h' }):
  wpAny (model prog w) A (ksk_tail a b e1 (.ref kS) st) P E s:=by
 have w1:=Heap.SameBut.update s.heap kS (Obj.mapSeq fun _=>(#[]:Array Value))
 obtain ⟨ck,hck⟩:∃ ck,(s.heap.update kS (Obj.mapSeq fun _=>(#[]:Array Value))).get? kS=some (seqObj "list" #[] ck):=⟨_,get?_update_seq gk fun _=>#[]⟩
 have ga1:=(w1.2 a hka.symm).trans ga
 have w2:=Heap.SameBut.update (s.heap.update kS (Obj.mapSeq fun _=>(#[]:Array Value))) a (Obj.mapSeq fun _=>(katRev b out).toArray)
 obtain ⟨c2,hc2⟩:∃ c2,((s.heap.update kS (Obj.mapSeq fun _=>(#[]:Array Value))).update a (Obj.mapSeq fun _=>(katRev b out).toArray)).get? a=some (seqObj "list" (katRev b out).toArray c2):=⟨_,get?_update_seq ga1 fun _=>(katRev b out).toArray⟩
 have hsz:(katRev b out).toArray.size=out.length:=by rw [List.size_toArray,kat_len]
 unfold ksk_tail
 try dsimp only
 rw [hout,kat_outs]
 refine wpAny_bind (listUpdate_at gk rfl ?_ (by rw [List.size_toArray,sizeLine_eq]; omega) (Nat.zero_le _))
 refine wpAny_bind (wpAny_letGo (wpAny_bind (seqEpoch_at ga1 rfl ?_)))
 refine wpAny_bind (listUpdate_at ga1 rfl ?_ (Nat.zero_le _) (Nat.le_trans (Nat.le_of_eq hsz) (by rw [sizeLine_eq]; omega)))
 rw [hf]
 simp only [bne_self_eq_false,Bool.false_eq_true,if_false]
 exact wpAny_pure (h _ c2 (fun x o h1 h2 q=>(w2.2 x h1).trans ((w1.2 x h2).trans q)) hc2 ⟨_,(w2.2 kS hka).trans hck⟩)
theorem U2 {e e1:Nat} {κ:SortKind} {P:PySem.Fin->Shared->Prop} (lt:Nat->Nat->Bool) (hl:ks.length=vs.length) (h64:vs.length < 64) (hka:kS≠a)
  (tr:∀ i j k,i < vs.length->j < vs.length->k < vs.length->lt j i=false->lt k j=false->lt k i=false) (as:∀ i j,i < vs.length->j < vs.length->lt i j=true->lt j i=false)
  (gk:s.heap.get? kS=some (seqObj "list" ks.toArray e)) (ga:s.heap.get? a=some (seqObj "list" #[] e1))
  (hk:2<=vs.length->∀ (Q:SortKind->Shared->Prop) E',Q κ s->wpAny (model prog w) A (keyKind' ks.toArray) Q E' s)
  (hlt:∀ i j,i < vs.length->j < vs.length->∀ Q:Bool->Shared->Prop,Q (lt i j) s->wpAny (model prog w) A (keyLt' κ (ks.getD i Value.none) (ks.getD j Value.none)) Q (fun _ _=>False) s)
  (h:∀ (p:List Nat) (h':Heap) (c:Nat),p.Perm (List.range vs.length)->p.Pairwise (fun i j=>(if b then lt i j else lt j i)=false)->(∀ x o,x≠a->x≠kS->s.heap.get? x=some o->h'.get? x=some o)->
   h'.get? a=some (seqObj "list" (p.map fun i=>vs.getD i Value.none).toArray c)->(∃ o,h'.get? kS=some o)->P (.done (.ret .none)) { s with heap:=h' }):
  wpAny (model prog w) A (ksk_end a b vs.toArray e1 (.ref kS) ks.toArray) P E s:=by
 have skip:∀ t:Sem PySem.Fin,wpAny (model prog w) A t P E s->wpAny (model prog w) A (if b=true then (do let _ <- rule "list.sort.reverse"; t) else t) P E s:=fun t ht=>by
  split
  ·exact wpAny_bind (wpAny_rule ht)
  ·exact ht
 have hlr:(katRev b ks).length=(katRev b vs).length:=by rw [kat_len,kat_len,hl]
 unfold ksk_end
 try dsimp only
 refine skip _ ?_
 rw [kat_pairs b hl]
 by_cases h2:vs.toArray.size < 2
 ·rw [if_pos h2,if_pos h2]
  rw [List.size_toArray] at h2
  refine wpAny_bind (wpAny_pure ?_)
  rw [StateT.run_pure]
  refine wpAny_bind (wpAny_pure ?_)
  try dsimp only
  refine OD (st:=SortSt.mk' general' ((katRev b ks).toArray.zip (katRev b vs).toArray) #[] 7 none) (out:=katRev b vs) (ks:=ks) ?_ (by rw [kat_len]; exact h64) (by omega) rfl hka gk ga fun h' c k1 k2 k3=>?_
  ·show ((katRev b ks).toArray.zip (katRev b vs).toArray).map (·.2)=(katRev b vs).toArray
   apply Array.toList_inj.mp
   rw [Array.toList_map,ksk_zip]
   show (List.zip _ _).map Prod.snd=_
   rw [List.map_snd_zip (by rw [hlr]; exact Nat.le_refl _)]
  ·rw [F3] at k2
   refine h (List.range vs.length) h' c (List.Perm.refl _) ?_ k1 (by rw [range_getD]; exact k2) k3
   rw [List.pairwise_iff_getElem]
   intro i j hi hj hij
   simp only [List.length_range] at hi hj
   omega
 ·rw [if_neg h2,if_neg h2]
  rw [List.size_toArray] at h2
  refine wpAny_bind (hk (by omega) _ _ ?_)
  have hkas:(kas_sort (katRev b vs).length).kasWp (kas_ask prog w A κ (katRev b ks)) (fun p s''=>p=evT (fun i j=>lt (cW b vs.length i) (cW b vs.length j)) (kas_sort vs.length)/\s''=s) s:=by
   rw [kat_len]
   refine wX (n:=vs.length) (lt:=fun i j=>lt (cW b vs.length i) (cW b vs.length j)) (fun i j C hi hj hC=>?_) (wW (by omega)) ⟨rfl,rfl⟩
   show wpAny (model prog w) A (keyLt' κ ((katRev b ks).getD i Value.none) ((katRev b ks).getD j Value.none)) C (fun _ _=>False) s
   rw [nB b (by omega),nB b (by omega),hl]
   exact hlt _ _ (iM hi) (iM hj) C hC
  refine wpAny_bind (wpAny_mono (kat_run (ks:=katRev b ks) (vs:=katRev b vs) (E:=E) (Q:=fun st' s'=>s'=s/\arrOf st'=(evT (fun i j=>lt (cW b vs.length i) (cW b vs.length j)) (kas_sort vs.length)).map (kas_item ((katRev b ks).toArray.zip (katRev b vs).toArray))/\failedOf st'=none)
   hlr (by rw [kat_len]; omega) (by rw [kat_len]; exact h64) (fun p st' s' _ a2 a3 a4=>⟨a4.2,by rw [a2,a4.1],a3⟩) hkas) ?_ fun _ _ x=>x)
  rintro ⟨⟨⟩,st'⟩ s' ⟨rfl,har,hf⟩
  try dsimp only
  obtain ⟨c1,c2⟩:=D8 (n:=vs.length) (lt:=fun i j=>lt (cW b vs.length i) (cW b vs.length j)) (fun i j k hi hj hk=>tr _ _ _ (iM hi) (iM hj) (iM hk)) (fun i j hi hj=>as _ _ (iM hi) (iM hj)) (by omega)
  have hin:∀ i∈(evT (fun i j=>lt (cW b vs.length i) (cW b vs.length j)) (kas_sort vs.length)).toList,i < vs.length:=fun i hi=>by simpa using c1.mem_iff.mp hi
  refine OD (ks:=ks) (kat_snds hlr har) (by rw [List.length_map,c1.length_eq,List.length_range]; exact h64) (by omega) hf hka gk ga fun h' c k1 k2 k3=>?_
  rw [HI hin] at k2
  exact h _ h' c (F1 c1) (F2 c2) k1 k2 k3
theorem F4 {f:Value} {n:Nat} {κ:SortKind} {P:PySem.Fin->Shared->Prop} (ho:s.heap.get? a=some (seqObj "list" vs.toArray n)) (h64:vs.length < 64) (J:Addr->Nat->List Value->Nat->Shared->Prop)
  (h0:∀ (kS e1:Nat) (h':Heap),(∀ x o,x≠a->s.heap.get? x=some o->h'.get? x=some o)->s.heap.objs.size<=kS->h'.get? a=some (seqObj "list" #[] e1)->h'.get? kS=some (seqObj "list" #[] 0)->J kS e1 [] 0 { s with heap:=h' })
  (hget:∀ kS e1 ks e s',J kS e1 ks e s'->kS≠a/\s'.heap.get? a=some (seqObj "list" #[] e1)/\s'.heap.get? kS=some (seqObj "list" ks.toArray e))
  (turn:∀ kS e1 ks e s' x,vs[ks.length]?=some x->J kS e1 ks e s'->wpAny (model prog w) A (call f [x]) (fun v s''=>s''.heap.get? kS=some (seqObj "list" ks.toArray e)/\∀ (h':Heap) e',Heap.SameBut kS s''.heap h'->h'.get? kS=some (seqObj "list" (ks++[v]).toArray e')->J kS e1 (ks++[v]) e' { s'' with heap:=h' }) (fun _ _=>False) s')
  (fin:∀ kS e1 ks e s',ks.length=vs.length->J kS e1 ks e s'->∃ lt:Nat->Nat->Bool,(∀ i j k,i < vs.length->j < vs.length->k < vs.length->lt j i=false->lt k j=false->lt k i=false)/\(∀ i j,i < vs.length->j < vs.length->lt i j=true->lt j i=false)/\
   (2<=vs.length->∀ (Q:SortKind->Shared->Prop) E',Q κ s'->wpAny (model prog w) A (keyKind' ks.toArray) Q E' s')/\
   (∀ i j,i < vs.length->j < vs.length->∀ Q:Bool->Shared->Prop,Q (lt i j) s'->wpAny (model prog w) A (keyLt' κ (ks.getD i Value.none) (ks.getD j Value.none)) Q (fun _ _=>False) s')/\
   ∀ (p:List Nat) (h':Heap) (c:Nat),p.Perm (List.range vs.length)->p.Pairwise (fun i j=>(if b then lt i j else lt j i)=false)->(∀ x o,x≠a->x≠kS->s'.heap.get? x=some o->h'.get? x=some o)->
   h'.get? a=some (seqObj "list" (p.map fun i=>vs.getD i Value.none).toArray c)->(∃ o,h'.get? kS=some o)->P (.done (.ret .none)) { s' with heap:=h' }):
  wpAny (model prog w) A (ksk_tree a f b) P E s:=by
 have ha:a < s.heap.objs.size:=Heap.lt_size ho
 have w1:=Heap.SameBut.update s.heap a (Obj.mapSeq fun _=>(#[]:Array Value))
 obtain ⟨e1,ho1⟩:∃ e1,(s.heap.update a (Obj.mapSeq fun _=>(#[]:Array Value))).get? a=some (seqObj "list" #[] e1):=⟨_,get?_update_seq ho fun _=>#[]⟩
 unfold ksk_tree
 refine wpAny_bind (listItems_at ho rfl (wpAny_bind (listUpdate_at ho rfl ?_ (by rw [List.size_toArray,sizeLine_eq]; omega) (Nat.zero_le _))))
 refine wpAny_bind (seqEpoch_at ho1 rfl (wpAny_bind (wpAny_newTuple ?_ (by show vs.length<=_; rw [sizeLine_eq]; omega))))
 refine wpAny_bind (wpAny_newList (wpAny_holding ?_) (Nat.zero_le _))
 have hk1:((s.heap.update a (Obj.mapSeq fun _=>(#[]:Array Value))).push (seqObj "tuple" vs.toArray 0)).objs.size=s.heap.objs.size+1:=by rw [size_push',Heap.size_update]
 have J0:=h0 ((s.heap.update a (Obj.mapSeq fun _=>(#[]:Array Value))).push (seqObj "tuple" vs.toArray 0)).objs.size e1 (((s.heap.update a (Obj.mapSeq fun _=>(#[]:Array Value))).push (seqObj "tuple" vs.toArray 0)).push (seqObj "list" #[] 0))
  (fun x o hx q=>Heap.get?_push_of_some _ (Heap.get?_push_of_some _ ((w1.2 x hx).trans q))) (by rw [hk1]; exact Nat.le_succ _) (Heap.get?_push_of_some _ (Heap.get?_push_of_some _ ho1)) (Heap.get?_push_size _ rfl)
 show wpAny (model prog w) A (ksk_rest a f b vs.toArray e1 (.ref ((s.heap.update a (Obj.mapSeq fun _=>(#[]:Array Value))).push (seqObj "tuple" vs.toArray 0)).objs.size)) P E { s with heap:=((s.heap.update a (Obj.mapSeq fun _=>(#[]:Array Value))).push (seqObj "tuple" vs.toArray 0)).push (seqObj "list" #[] 0) }
 generalize ((s.heap.update a (Obj.mapSeq fun _=>(#[]:Array Value))).push (seqObj "tuple" vs.toArray 0)).objs.size=kS at J0
 revert J0
 generalize ({ s with heap:=((s.heap.update a (Obj.mapSeq fun _=>(#[]:Array Value))).push (seqObj "tuple" vs.toArray 0)).push (seqObj "list" #[] 0) }:Shared)=s0
 intro J0
 unfold ksk_rest
 refine wpAny_bind (wpAny_rule ?_)
 first
  | rw [List.forIn_toArray]
  | (rw [<- Array.forIn_toList]; simp only [List.toList_toArray])
 refine wpAny_bind (ksk_fold (fun i s'=>∃ ks e,ks.length=i/\J kS e1 ks e s') vs 0 s0 ⟨[],0,rfl,J0⟩ ?step ?done)
 case step=>
  rintro j x s' hx ⟨ks,e,hl,hJ⟩
  have hj:j < vs.length:=(List.getElem?_eq_some_iff.mp hx).1
  have hl':ks.length=j:=by omega
  refine wpAny_bind (wpAny_attempt (wpAny_mono (turn kS e1 ks e s' x (by rw [hl']; exact hx) hJ) (fun v s'' q=>?_) fun _ _ z=>z.elim))
  obtain ⟨gk,nxt⟩:=q
  try dsimp only
  have w2:=Heap.SameBut.update s''.heap kS (Obj.mapSeq (·.push v))
  obtain ⟨c2,hc2⟩:∃ c2,(s''.heap.update kS (Obj.mapSeq (·.push v))).get? kS=some (seqObj "list" (ks.toArray.push v) c2):=⟨_,get?_update_seq gk (·.push v)⟩
  refine wpAny_bind (listUpdate_at gk rfl ?_ (by rw [List.size_toArray,sizeLine_eq]; omega) (Nat.le_trans (Nat.le_of_eq (Array.size_push ..)) (by rw [List.size_toArray,sizeLine_eq]; omega)))
  refine wpAny_pure ⟨rfl,ks++[v],c2,by simp; omega,nxt _ c2 w2 ?_⟩
  rw [hc2]
  simp
 case done=>
  rintro s' ⟨ks,e,hl,hJ⟩
  have hl':ks.length=vs.length:=by omega
  obtain ⟨hka,ga,gk⟩:=hget kS e1 ks e s' hJ
  obtain ⟨lt,tr,as,hk,hlt,h⟩:=fin kS e1 ks e s' hl' hJ
  try dsimp only
  refine wpAny_bind (listItems_at gk rfl ?_)
  exact U2 (κ:=κ) lt hl' h64 hka tr as gk ga hk hlt h
end
end L2
set_option Elab.async false
set_option linter.all false
set_option maxRecDepth 100000
namespace L2
open PySem PySem.Spec PyProof.Rows PySem.SeqAt
inductive PV where
 | non | bl (b:Bool) | int (i:Int) | str (x:Str) | tup (xs:List PV) | ref (n:Nat) | ty (n:String) | fl (xs:List PV)
mutual
def PV.beq:PV->PV->Bool
 | .non,.non=>true
 | .bl a,.bl b=>a == b
 | .int a,.int b=>a == b
 | .str a,.str b=>a == b
 | .tup a,.tup b=>PV.beqs a b
 | .ref a,.ref b=>a == b
 | .ty a,.ty b=>a == b
 | .fl a,.fl b=>PV.beqs a b
 | _,_=>false
def PV.beqs:List PV->List PV->Bool
 | [],[]=>true
 | x :: xs,y :: ys=>PV.beq x y && PV.beqs xs ys
 | _,_=>false
end
mutual
theorem PV.beq_self:∀ x:PV,PV.beq x x=true
 | .non=>rfl
 | .bl a=>by simp [PV.beq]
 | .int a=>by simp [PV.beq]
 | .str a=>by simp [PV.beq]
 | .tup a=>by simp only [PV.beq]; exact PV.beqs_self a
 | .ref a=>by simp [PV.beq]
 | .ty a=>by simp [PV.beq]
 | .fl a=>by simp only [PV.beq]; exact PV.beqs_self a
theorem PV.beqs_self:∀ x:List PV,PV.beqs x x=true
 | []=>rfl
 | x :: xs=>by simp only [PV.beqs,PV.beq_self x,PV.beqs_self xs,Bool.and_self]
end
mutual
theorem PV.beq_eq:∀ {x y:PV},PV.beq x y=true->x=y
 | .non,y,h=>by cases y <;> first | rfl | (simp [PV.beq] at h)
 | .bl a,y,h=>by cases y <;> first | (simp [PV.beq] at h; rw [h]) | (simp [PV.beq] at h)
 | .int a,y,h=>by cases y <;> first | (simp [PV.beq] at h; rw [h]) | (simp [PV.beq] at h)
 | .str a,y,h=>by cases y <;> first | (simp [PV.beq] at h; rw [h]) | (simp [PV.beq] at h)
 | .tup a,y,h=>by
  cases y with
  | tup b=>simp only [PV.beq] at h; rw [PV.beqs_eq h]
  | _=>simp [PV.beq] at h
 | .ref a,y,h=>by cases y <;> first | (simp [PV.beq] at h; rw [h]) | (simp [PV.beq] at h)
 | .ty a,y,h=>by cases y <;> first | (simp [PV.beq] at h; rw [h]) | (simp [PV.beq] at h)
 | .fl a,y,h=>by
  cases y with
  | fl b=>simp only [PV.beq] at h; rw [PV.beqs_eq h]
  | _=>simp [PV.beq] at h
theorem PV.beqs_eq:∀ {x y:List PV},PV.beqs x y=true->x=y
 | [],y,h=>by cases y <;> first | rfl | (simp [PV.beqs] at h)
 | x :: xs,y,h=>by
  cases y with
  | nil=>simp [PV.beqs] at h
  | cons y ys=>
   simp only [PV.beqs,Bool.and_eq_true] at h
   rw [PV.beq_eq h.1,PV.beqs_eq h.2]
end
instance:DecidableEq PV:=fun x y=>match h:PV.beq x y with
 | true=>isTrue (PV.beq_eq h)
 | false=>isFalse fun e=>by rw [e,PV.beq_self] at h; cases h
def PV.ky:Nat->PV->Bool
 | _,.int _=>true
 | _,.str _=>true
 | n+1,.tup xs=>xs.all (PV.ky n)
 | _,_=>false
section
variable (w:World)
mutual
def hsh:PV->Int
 | .int i=>OQ w (.inl i)
 | .str x=>OQ w (.inr x)
 | .tup xs=>reduceHash (Builtin.Tuple.tupleHashOf (vI xs))
 | _=>0
def vI:List PV->List Int
 | []=>[]
 | x :: xs=>hsh x :: vI xs
end
end
mutual
def drw:PV->Nat
 | .tup xs=>Dh xs+1
 | _=>1
def Dh:List PV->Nat
 | []=>0
 | x :: xs=>drw x+Dh xs
end
mutual
/-- the raw value is the key -/
def HR (h:Heap):PV->Value->Prop
 | .int i,v=>∃ t,v=.int i t
 | .str x,v=>∃ t,v=.str x t
 | .tup ps,v=>∃ a its,v=.ref a/\IsTup h a its.toArray/\HRs h ps its
 | _,_=>False
def HRs (h:Heap):List PV->List Value->Prop
 | [],[]=>True
 | p :: ps,v :: vs=>HR h p v/\HRs h ps vs
 | [],_ :: _=>False
 | _ :: _,[]=>False
end
theorem HRs.length {h:Heap}:∀ {ps:List PV} {vs:List Value},HRs h ps vs->ps.length=vs.length
 | [],[],_=>rfl
 | _ :: _,_ :: _,r=>congrArg (·+1) (HRs.length r.2)
 | [],_ :: _,r=>r.elim
 | _ :: _,[],r=>r.elim
theorem HRs.at {h:Heap}:∀ {ps:List PV} {vs:List Value} {j:Nat} {p:PV},HRs h ps vs->ps[j]?=some p->∃ v,vs[j]?=some v/\HR h p v
 | [],[],_,_,_,e=>by simp at e
 | q :: _,v :: _,0,p,r,e=>by
  have:q=p:=by simpa using e
  subst this
  exact ⟨v,rfl,r.1⟩
 | _ :: ps,_ :: vs,j+1,p,r,e=>by
  obtain ⟨v,h1,h2⟩:=HRs.at (ps:=ps) (vs:=vs) (j:=j) (p:=p) r.2 (by simpa using e)
  exact ⟨v,by simpa using h1,h2⟩
 | [],_ :: _,_,_,r,_=>r.elim
 | _ :: _,[],_,_,r,_=>r.elim
theorem HJ {h:Heap} {a:Addr} {x y:Array Value} (p:IsTup h a x) (q:IsTup h a y):x=y:=by
 obtain ⟨o,ho,_,n,hd⟩:=p
 obtain ⟨o',ho',_,n',hd'⟩:=q
 obtain rfl:o=o':=Option.some.inj (ho.symm.trans ho')
 rw [hd] at hd'
 injection hd'
mutual
theorem HR.one {h:Heap}:∀ {p q:PV} {v:Value},HR h p v->HR h q v->p=q
 | .int i,q,v,r,r'=>by
  obtain ⟨t,rfl⟩:=r
  cases q with
  | int j=>obtain ⟨t',e⟩:=r'; injection e with e; rw [e]
  | str j=>obtain ⟨t',e⟩:=r'; cases e
  | tup j=>obtain ⟨_,_,e,_⟩:=r'; cases e
  | _=>exact r'.elim
 | .str i,q,v,r,r'=>by
  obtain ⟨t,rfl⟩:=r
  cases q with
  | int j=>obtain ⟨t',e⟩:=r'; cases e
  | str j=>obtain ⟨t',e⟩:=r'; injection e with e; rw [e]
  | tup j=>obtain ⟨_,_,e,_⟩:=r'; cases e
  | _=>exact r'.elim
 | .tup ps,q,v,r,r'=>by
  obtain ⟨a,its,rfl,p,rs⟩:=r
  cases q with
  | int j=>obtain ⟨t',e⟩:=r'; cases e
  | str j=>obtain ⟨t',e⟩:=r'; cases e
  | tup qs=>
   obtain ⟨b,its',e,p',rs'⟩:=r'
   cases e
   have:its=its':=by simpa using congrArg Array.toList (HJ p p')
   subst this
   rw [HRs.one rs rs']
  | _=>exact r'.elim
 | .non,_,_,r,_=>r.elim
 | .bl _,_,_,r,_=>r.elim
 | .ref _,_,_,r,_=>r.elim
 | .ty _,_,_,r,_=>r.elim
 | .fl _,_,_,r,_=>r.elim
theorem HRs.one {h:Heap}:∀ {ps qs:List PV} {vs:List Value},HRs h ps vs->HRs h qs vs->ps=qs
 | [],[],[],_,_=>rfl
 | p :: ps,q :: qs,v :: vs,r,r'=>by rw [HR.one r.1 r'.1,HRs.one r.2 r'.2]
 | [],_ :: _,[],_,r=>r.elim
 | [],_,_ :: _,r,_=>r.elim
 | _ :: _,_,[],r,_=>r.elim
 | _ :: _,[],_ :: _,_,r=>r.elim
end
theorem F5 {h h':Heap} {a d:Addr} {o:Obj} {es ep} {x:Array Value} (p:IsTup h a x) (ho:h.get? d=some o) (hd:o.data=.dict es ep) (hs:Heap.SameBut d h h'):IsTup h' a x:=by
 obtain ⟨q,hq,hc,n,hdt⟩:=p
 have ne:a≠d:=by
  rintro rfl
  obtain rfl:q=o:=Option.some.inj (hq.symm.trans ho)
  rw [hd] at hdt
  cases hdt
 exact ⟨q,(hs.2 a ne).trans hq,hc,n,hdt⟩
mutual
theorem HR.keep {h h':Heap} (k:∀ a x,IsTup h a x->IsTup h' a x):∀ {p:PV} {v:Value},HR h p v->HR h' p v
 | .int i,v,r=>r
 | .str i,v,r=>r
 | .tup ps,v,⟨a,its,e,p,rs⟩=>⟨a,its,e,k _ _ p,HRs.keep k rs⟩
 | .non,_,r=>r.elim
 | .bl _,_,r=>r.elim
 | .ref _,_,r=>r.elim
 | .ty _,_,r=>r.elim
 | .fl _,_,r=>r.elim
theorem HRs.keep {h h':Heap} (k:∀ a x,IsTup h a x->IsTup h' a x):∀ {ps:List PV} {vs:List Value},HRs h ps vs->HRs h' ps vs
 | [],[],_=>trivial
 | _ :: _,_ :: _,r=>⟨HR.keep k r.1,HRs.keep k r.2⟩
 | [],_ :: _,r=>r.elim
 | _ :: _,[],r=>r.elim
end
section
variable {prog:Program} {w:World}
theorem JU:∀ (n:Nat) {A:Around} {E:Value->Shared->Prop} {s:Shared} {p:PV} {v:Value} {Q:Int->Shared->Prop},p.ky n=true->A.units+n < cLine->HR s.heap p v->Q (hsh w p) { s with toks:=s.toks+drw p }->
  wpAny (model prog w) A (pyHash v) Q E s:=by
 intro n
 induction n with
 | zero=>
  intro A E s p v Q hk hu r h
  cases p with
  | int i=>obtain ⟨t,rfl⟩:=r; exact wpAny_pyHash_int h
  | str i=>obtain ⟨t,rfl⟩:=r; exact wpAny_pyHash_str h
  | _=>cases hk
 | succ n ih=>
  intro A E s p v Q hk hu r h
  cases p with
  | int i=>obtain ⟨t,rfl⟩:=r; exact wpAny_pyHash_int h
  | str i=>obtain ⟨t,rfl⟩:=r; exact wpAny_pyHash_str h
  | tup ps=>
   obtain ⟨a,its,rfl,⟨o,ho,hc,m,hd⟩,rs⟩:=r
   have hk':∀ q∈ps,q.ky n=true:=List.all_eq_true.mp hk
   have hT:s.TypeIs (.ref a) "tuple" := ⟨o,ho,hc⟩
   unfold pyHash; unfold pyHashByItsType
   refine wpAny_bind (wpAny_cRoomFor_or (.inr (show A.units < cLine by omega)) (wpAny_bind (wpAny_specialOf hT F.slot_tuple_hash.lookup ?_)))
   show wpAny _ _ (if ((some (Value.builtin "tuple.__hash__"):Option Value) == some Value.none)=true then _ else _) Q E s
   rw [if_neg (show ¬ _ from by rw [beq_builtin_none]; decide)]
   refine wpAny_bind (wpAny_specialOf hT F.slot_tuple_hash.lookup (show wpAny _ _ (callSpecialIfBoundUnlessNone? (.ref a) "__hash__" _ >>= _) Q E s from ?_))
   refine wpAny_bind (wpAny_callSpecialIfBoundUnlessNone?_slot hT F.slot_tuple_hash (wpAny_call_entry F.slot_tuple_hash hT F.entry_tuple_hash (show wpAny _ _ (Builtin.Tuple.tupleItemsOf (.ref a) >>= _) _ _ s from ?_) (F.args_tuple_hash_1 _)))
   refine wpAny_bind (wpAny_tupleItemsOf ho hd (wpAny_bind ?_)); rw [<- Array.forIn_toList]
   refine wpAny_forIn_list _ (fun rest (b:Array Int) s'=>∃ left,HRs s.heap left rest/\(∀ q∈left,q.ky n=true)/\b.toList++vI w left=vI w ps/\s'.heap=s.heap/\s'={ s with toks:=s'.toks }/\s'.toks+Dh left=s.toks+Dh ps) _ ?turn ?stop _ _ ⟨ps,rs,hk',rfl,rfl,rfl,rfl⟩
   case turn=>
    rintro x rest b s' ⟨left,rl,kl,eb,eh,es,et⟩
    cases left with
    | nil=>exact rl.elim
    | cons q left=>
     have r1:HR s'.heap q x:=by rw [eh]; exact rl.1
     refine wpAny_bind (ih (kl q List.mem_cons_self) (show A.units+1+n < cLine by omega) r1 (wpAny_pure ?_))
     refine ⟨left,rl.2,fun z hz=>kl z (List.mem_cons_of_mem _ hz),?_,eh,?_,?_⟩
     ·rw [<- eb]; simp [vI]
     ·rw [es]
     ·rw [<- et]
      show s'.toks+drw q+Dh left=s'.toks+(drw q+Dh left)
      omega
   case stop=>
    rintro b s' ⟨left,rl,kl,eb,eh,es,et⟩
    cases left with
    | cons q left=>exact rl.elim
    | nil=>
     have eb':b.toList=vI w ps:=by rw [<- eb]; simp [vI]
     have et':s'.toks=s.toks+Dh ps:=et
     show wpAny _ _ (retInt (Builtin.Tuple.tupleHashOf b.toList)) _ _ _
     rw [eb',es]
     refine wpAny_ret_mkInt ?_
     show wpAny _ _ (if (decide (-(2:Int) ^ 63<=Builtin.Tuple.tupleHashOf (vI w ps)) && decide (Builtin.Tuple.tupleHashOf (vI w ps) < 2 ^ 63))=true then _ else _) Q E _
     have h':Q (reduceHash (Builtin.Tuple.tupleHashOf (vI w ps))) { s with toks:=s.toks+(Dh ps+1) }:=h
     unfold reduceHash at h'
     rw [et']
     by_cases hr:(decide (-(2:Int) ^ 63<=Builtin.Tuple.tupleHashOf (vI w ps)) && decide (Builtin.Tuple.tupleHashOf (vI w ps) < 2 ^ 63))=true
     ·rw [if_pos hr] at h' ⊢
      exact wpAny_pure (by simpa [Nat.add_assoc] using h')
     ·rw [if_neg hr] at h' ⊢
      exact wpAny_bind (wpAny_rule (wpAny_pure (by simpa [Nat.add_assoc] using h')))
  | _=>cases hk
theorem PL:∀ (n:Nat) {A:Around} {s:Shared} {p q:PV} {v u:Value},p.ky n=true->q.ky n=true->A.units+n < cLine->HR s.heap p v->HR s.heap q u->RcAt A s v u (decide (p=q)):=by
 intro n
 induction n with
 | zero=>
  intro A s p q v u hp hq hu r r'
  cases p with
  | int i=>
   obtain ⟨t,rfl⟩:=r
   cases q with
   | int j=>obtain ⟨t',rfl⟩:=r'; have:=RcAt.int_int (A:=A) (s:=s) i t j t'; rwa [show decide (PV.int i=PV.int j)=(i == j) by simp [Bool.beq_eq_decide_eq]]
   | str j=>obtain ⟨t',rfl⟩:=r'; exact RcAt.int_str i t j t'
   | _=>cases hq
  | str i=>
   obtain ⟨t,rfl⟩:=r
   cases q with
   | int j=>obtain ⟨t',rfl⟩:=r'; exact RcAt.str_int i t j t'
   | str j=>obtain ⟨t',rfl⟩:=r'; have:=RcAt.str_str (A:=A) (s:=s) i t j t'; rwa [show decide (PV.str i=PV.str j)=(i == j) by simp [Bool.beq_eq_decide_eq]]
   | _=>cases hq
  | _=>cases hp
 | succ n ih=>
  intro A s p q v u hp hq hu r r'
  cases p with
  | int i=>
   obtain ⟨t,rfl⟩:=r
   cases q with
   | int j=>obtain ⟨t',rfl⟩:=r'; have:=RcAt.int_int (A:=A) (s:=s) i t j t'; rwa [show decide (PV.int i=PV.int j)=(i == j) by simp [Bool.beq_eq_decide_eq]]
   | str j=>obtain ⟨t',rfl⟩:=r'; exact RcAt.int_str i t j t'
   | tup js=>obtain ⟨b,its,rfl,p',_⟩:=r'; exact RcAt.int_tuple i t p' (by omega)
   | _=>cases hq
  | str i=>
   obtain ⟨t,rfl⟩:=r
   cases q with
   | int j=>obtain ⟨t',rfl⟩:=r'; exact RcAt.str_int i t j t'
   | str j=>obtain ⟨t',rfl⟩:=r'; have:=RcAt.str_str (A:=A) (s:=s) i t j t'; rwa [show decide (PV.str i=PV.str j)=(i == j) by simp [Bool.beq_eq_decide_eq]]
   | tup js=>obtain ⟨b,its,rfl,p',_⟩:=r'; exact RcAt.str_tuple i t p' (by omega)
   | _=>cases hq
  | tup ps=>
   obtain ⟨a,its,rfl,ta,rs⟩:=r
   cases q with
   | int j=>obtain ⟨t',rfl⟩:=r'; exact RcAt.tuple_int j t' ta (by omega)
   | str j=>obtain ⟨t',rfl⟩:=r'; exact RcAt.tuple_str j t' ta (by omega)
   | tup qs=>
    obtain ⟨b,its',rfl,tb,rs'⟩:=r'
    have kp:∀ z∈ps,z.ky n=true:=List.all_eq_true.mp hp
    have kq:∀ z∈qs,z.ky n=true:=List.all_eq_true.mp hq
    have l1:=rs.length
    have l2:=rs'.length
    have key:=RcAt.tuples (A:=A) (e:=fun j=>match ps[j]?,qs[j]? with | some x,some y=>decide (x=y) | _,_=>false) ta tb (by omega) (fun j h1 h2=>by
     have h1':j < ps.length:=by simp at h1; omega
     have h2':j < qs.length:=by simp at h2; omega
     have g1:ps[j]?=some ps[j]:=by simp [h1']
     have g2:qs[j]?=some qs[j]:=by simp [h2']
     obtain ⟨xu,hxu,hru⟩:=rs.at g1
     obtain ⟨yu,hyu,hru'⟩:=rs'.at g2
     have e1:its.toArray[j]=xu:=by simpa using (List.getElem?_eq_some_iff.mp hxu).2
     have e2:its'.toArray[j]=yu:=by simpa using (List.getElem?_eq_some_iff.mp hyu).2
     rw [e1,e2]
     simp only [g1,g2]
     refine fL (ih (kp _ (List.getElem_mem h1')) (kq _ (List.getElem_mem h2')) (show A.units+1+n < cLine by omega) hru hru') (fun ev=>?_) (fun f t e=>?_)
     ·subst ev
      rw [HR.one hru hru']
      exact decide_eq_true rfl
     ·subst e
      generalize ps[j]=z at hru
      cases z with
      | int i=>obtain ⟨_,e⟩:=hru; cases e
      | str i=>obtain ⟨_,e⟩:=hru; cases e
      | tup i=>obtain ⟨_,_,e,_⟩:=hru; cases e
      | _=>exact hru.elim)
    have sz:((List.range (min its.toArray.size its'.toArray.size)).all (fun j=>match ps[j]?,qs[j]? with | some x,some y=>decide (x=y) | _,_=>false) && its.toArray.size == its'.toArray.size)=decide (PV.tup ps=PV.tup qs):=by
     have a1:its.toArray.size=ps.length:=by simp; omega
     have a2:its'.toArray.size=qs.length:=by simp; omega
     rw [a1,a2,Bool.eq_iff_iff]
     simp only [Bool.and_eq_true,List.all_eq_true,List.mem_range,beq_iff_eq,decide_eq_true_eq,PV.tup.injEq]
     constructor
     ·rintro ⟨hall,hlen⟩
      apply List.ext_getElem hlen
      intro i hi hi'
      have:=hall i (by omega)
      simpa [hi,hi'] using this
     ·rintro rfl
      refine ⟨fun x hx=>?_,rfl⟩
      have:x < ps.length:=by omega
      simp [this]
    rw [<- sz]
    exact key
   | _=>cases hq
  | _=>cases hp
theorem HR.noflt {h:Heap} {p:PV} {v:Value} (r:HR h p v):∀ f t,v≠.float f t:=fun f t e=>by
 subst e
 cases p with
 | int i=>obtain ⟨_,e⟩:=r; cases e
 | str i=>obtain ⟨_,e⟩:=r; cases e
 | tup i=>obtain ⟨_,_,e,_⟩:=r; cases e
 | _=>exact r.elim
theorem F6 {n:Nat} {A:Around} {s:Shared} {p q:PV} {v u:Value} (hp:p.ky n=true) (hq:q.ky n=true) (hu:A.units+n < cLine) (r:HR s.heap p v) (r':HR s.heap q u):EqAt A s v u (decide (p=q)):=
 fL (PL n hp hq hu r r') (fun ev=>by subst ev; rw [HR.one r r']; exact decide_eq_true rfl) r.noflt
theorem HK:∀ (n m:Nat) {A:Around} {E:Value->Shared->Prop} {s:Shared} {p:PV} {v:Value} {Q:Bool->Shared->Prop},p.ky n=true->n<=m->HR s.heap p v->Q true s->wpAny (model prog w) A (eqIsQuiet m v) Q E s:=by
 intro n
 induction n with
 | zero=>
  intro m A E s p v Q hk hm r h
  cases p with
  | int i=>obtain ⟨t,rfl⟩:=r; rw [eqIsQuiet_byValue _ rfl]; exact wpAny_pure h
  | str i=>obtain ⟨t,rfl⟩:=r; rw [eqIsQuiet_byValue _ rfl]; exact wpAny_pure h
  | _=>cases hk
 | succ n ih=>
  intro m A E s p v Q hk hm r h
  cases p with
  | int i=>obtain ⟨t,rfl⟩:=r; rw [eqIsQuiet_byValue _ rfl]; exact wpAny_pure h
  | str i=>obtain ⟨t,rfl⟩:=r; rw [eqIsQuiet_byValue _ rfl]; exact wpAny_pure h
  | tup ps=>
   obtain ⟨a,its,rfl,⟨o,ho,hc,m',hd⟩,rs⟩:=r
   have hk':∀ q∈ps,q.ky n=true:=List.all_eq_true.mp hk
   have hT:s.TypeIs (.ref a) "tuple" := ⟨o,ho,hc⟩
   obtain ⟨m,rfl⟩:∃ j,m=j+1:=⟨m - 1,by omega⟩
   unfold eqIsQuiet
   refine wpAny_bind (wpAny_specialOf hT F.slot_tuple_eq.lookup (show wpAny _ _ (isInstance (.ref a) (.type "tuple") >>= _) _ _ s from ?_))
   refine wpAny_bind (wpAny_isInstance hT isSubtype_tuple_tuple ?_); simp only [Bool.not_true,Bool.false_eq_true,if_false]
   refine wpAny_bind (wpAny_seqItems ho hd (wpAny_bind (show wpAny _ _ (forIn its.toArray _ _) _ _ s from ?_))); rw [<- Array.forIn_toList]
   refine wpAny_forIn_list _ (fun rest r s'=>r.1=none/\s'=s/\∃ left,HRs s.heap left rest/\∀ q∈left,q.ky n=true) _ ?_ ?_ _ _ ⟨rfl,rfl,ps,rs,hk'⟩
   ·rintro v rest r s' ⟨hr,rfl,left,rl,kl⟩
    cases left with
    | nil=>exact rl.elim
    | cons q left=>
     refine wpAny_bind (ih m (kl q List.mem_cons_self) (by omega) rl.1 ?_); simp only [Bool.not_true,Bool.false_eq_true,if_false]
     exact wpAny_pure ⟨rfl,rfl,left,rl.2,fun z hz=>kl z (List.mem_cons_of_mem _ hz)⟩
   ·rintro ⟨r1,r2⟩ s' ⟨hr,rfl,_⟩; simp only at hr; subst hr
    exact wpAny_pure h
  | _=>cases hk
def Di (prog:Program) (w:World):HeapKind prog w PV where
 is:=fun h p a=>p.ky 6=true/\HR h p (.ref a)
 hash:=hsh w
 draws:=drw
 room:=fun A=>A.units+6 < cLine
 inj:=fun x y=>HR.one x.2 y.2
 keeps:=fun x ho hd hs=>⟨x.1,HR.keep (fun a it p=>F5 p ho hd hs) x.2⟩
 pyHash:=fun hu x h=>JU 6 x.1 hu x.2 h
 eqBool:=fun hu x y h=>F6 x.1 y.1 hu x.2 y.2 _ _ _ _ h
 quiet:=fun x h=>HK 6 8 x.1 (by omega) x.2 h
end
def dDO (w:World) (a:Addr) (ks:List (PV×Addr×V)):HO:=.ext fun h=>ks.length<=sizeLine/\(a == sysModules)=false/\∃ xs:List (PV×Addr×Value),
 Paired (fun (p:PV×Addr×V) (q:PV×Addr×Value)=>p.1=q.1/\p.2.1=q.2.1/\RelV p.2.2 q.2.2) ks xs/\
 ∃ o es ep,h.get? a=some o/\o.ExactDict/\o.data=.dict es ep/\es.toList=xs.map (fun x=>(⟨hsh w x.1,.ref x.2.1,x.2.2⟩:DictEntry))/\(xs.map (·.1)).Nodup
def RC (kd:Nat) (v d:Addr):HO:=.ext fun h=>match kd with
 | 0=>h.IsItemsView v d
 | 1=>h.IsValuesView v d
 | _=>∃ o,h.get? v=some o/\o.cls=.type "dict_keys" /\ o.data=.fields #[.ref d]
end L2
set_option Elab.async false
set_option linter.all false
set_option maxRecDepth 100000
namespace L2
open PySem PySem.Spec PyProof.Rows
inductive MO where
 | lst (xs:List PV)
 | dK (kvs:List (Key×PV))
 | ins (C:Str) (fs:List (Str×PV))
 | dD (kvs:List (PV×PV))
 | vw (kd d:Nat)
 | fz (o:MO)
abbrev PH:=List MO
abbrev Ev:=List (Option PV)
structure PX where
 cls:Str
 fs:List (Str×PV)
inductive Rs (α:Type) where
 | ok (a:α) (h:PH)
 | exc (x:PX) (h:PH)
 | bad
inductive Fl where
 | nx (δ:Ev) (h:PH)
 | rt (p:PV) (h:PH)
 | bk (δ:Ev) (h:PH)
 | ct (δ:Ev) (h:PH)
 | exc (x:PX) (h:PH)
 | bad
abbrev Me:=Ev->PH->Rs PV
abbrev Ms:=Ev->PH->Fl
abbrev Fn:=List PV->PH->Rs PV
def Rs.bind {α β:Type} (r:Rs α) (f:α->PH->Rs β):Rs β:=match r with
 | .ok a h=>f a h
 | .exc x h=>.exc x h
 | .bad=>.bad
@[simp] theorem Rs.bind_ok {α β:Type} (a:α) (h:PH) (f:α->PH->Rs β):(Rs.ok a h).bind f=f a h:=rfl
@[simp] theorem Rs.bind_exc {α β:Type} (x:PX) (h:PH) (f:α->PH->Rs β):(Rs.exc x h:Rs α).bind f=.exc x h:=rfl
@[simp] theorem Rs.bind_bad {α β:Type} (f:α->PH->Rs β):(Rs.bad:Rs α).bind f=.bad:=rfl
structure MC where
 K:PySem.W.Frag
 cl:Str->Option Addr
 bs:List Str
 ex:List Addr->Hp->PX->Prop
 w:World
def SqF (K:PySem.W.Frag) (H:Hp) (a:Addr) (xs:List V):Prop:=
 (∃ o,H a=some (.frz o (.lst xs)))\/
  ∃ (o:Obj) (its:Array Value) (n:Nat),K.lookup a=some o/\o.cls=.type "list" /\ o.dict=none/\o.data=.seq its n/\its.size<=sizeLine/\aP xs its.toList
theorem SqF.sq {K:PySem.W.Frag} {H:Hp} {a:Addr} {xs:List V} (h:SqF K H a xs):SqL K H a xs:=by
 rcases h with ⟨o,h⟩ | h
 ·exact .inl (.inr ⟨o,h⟩)
 ·exact .inr h
def Kp (H H':Hp):Prop:=lJ H H'/\∀ a o u,H a=some (.frz o u)->H' a=some (.frz o u)
theorem Kp.refl (H:Hp):Kp H H:=⟨lJ.refl H,fun _ _ _ h=>h⟩
theorem Kp.trans {H H1 H2:Hp} (a:Kp H H1) (b:Kp H1 H2):Kp H H2:=⟨a.1.trans b.1,fun c o u h=>b.2 c o u (a.2 c o u h)⟩
theorem Kp.same {H H':Hp} (s:ES H H'):Kp H H':=⟨lJ.same s,fun _ _ _ h=>s _ _ h⟩
theorem Kp.new {H:Hp} {a:Addr} {o:HO} (h:H a=none):Kp H (upd H a o):=Kp.same (ES.upd h)
theorem Kp.upd {H:Hp} {p:Addr} {o:HO} (h:D4 (H p)):Kp H (upd H p o):=⟨lJ.upd h,fun a ob u q=>by
 have ne:a≠p:=by
  rintro rfl
  rw [q] at h; exact h
 rw [aX ne]; exact q⟩
theorem Kp.lst {H:Hp} {p:Addr} {o:HO} {xs:List V} (h:H p=some (.lst xs)):Kp H (L2.upd H p o):=Kp.upd (by rw [h]; trivial)
theorem Kp.dK {H:Hp} {p:Addr} {o:HO} {xs:List (Key×V)} (h:H p=some (.dK xs)):Kp H (L2.upd H p o):=Kp.upd (by rw [h]; trivial)
theorem Kp.sq {K:PySem.W.Frag} {H H':Hp} {a:Addr} {xs:List V} (t:Kp H H') (h:SqT K H a xs):SqT K H' a xs:=t.1.sq h
theorem Kp.sf {K:PySem.W.Frag} {H H':Hp} {a:Addr} {xs:List V} (t:Kp H H') (h:SqF K H a xs):SqF K H' a xs:=by
 rcases h with ⟨o,h⟩ | h
 ·exact .inl ⟨o,t.2 _ _ _ h⟩
 ·exact .inr h
section
variable (C:MC) (φ:List Addr) (H:Hp)
mutual
def RV:PV->V->Prop
 | .non,v=>v=.non
 | .bl b,v=>v=.bl b
 | .int i,v=>v=.int i
 | .str x,v=>v=.str x
 | .ty n,v=>v=.ty n
 | .tup ps,v=>∃ a vs,v=.ref a/\SqT C.K H a vs/\RVs ps vs
 | .ref n,v=>∃ a,v=.ref a/\φ[n]?=some a
 | .fl ps,v=>∃ a vs,v=.ref a/\SqF C.K H a vs/\RVs ps vs
def RVs:List PV->List V->Prop
 | [],[]=>True
 | p :: ps,v :: vs=>RV p v/\RVs ps vs
 | [],_ :: _=>False
 | _ :: _,[]=>False
end
def RKv {κ:Type}:List (κ×PV)->List (κ×V)->Prop:=Paired fun p q=>p.1=q.1/\RV C φ H p.2 q.2
def RKd:List (PV×PV)->List (PV×Addr×V)->Prop:=Paired fun p q=>p.1=q.1/\p.1.ky 6=true/\RV C φ H p.1 (.ref q.2.1)/\RV C φ H p.2 q.2.2
def RO (a:Addr):MO->Prop
 | .lst ps=>∃ vs,H a=some (.lst vs)/\RVs C φ H ps vs
 | .dK kvs=>∃ ks,H a=some (.dK ks)/\RKv C φ H kvs ks
 | .ins n fs=>∃ c dx ks,C.cl n=some c/\H a=some (.ins c dx ks)/\RKv C φ H fs ks
 | .dD kvs=>∃ ks,H a=some (dDO C.w a ks)/\RKd C φ H kvs ks
 | .vw kd d=>∃ b,φ[d]?=some b/\H a=some (RC kd a b)
 | .fz (.dK kvs)=>∃ ob ks,H a=some (.frz ob (.dK ks))/\RKv C φ H kvs ks
 | .fz (.dD kvs)=>∃ ob ks,H a=some (.frz ob (dDO C.w a ks))/\RKd C φ H kvs ks
 | .fz _=>False
structure RH (h:PH):Prop where
 len:φ.length=h.length
 nd:φ.Nodup
 at':∀ (n:Nat) (a:Addr) (o:MO),φ[n]?=some a->h[n]?=some o->RO C φ H a o
def RE (δ:Ev) (σ:St):Prop:=δ.length=σ.length/\∀ (i:Nat) (p:PV),δ[i]?=some (some p)->∃ v,σ[i]?=some (some v)/\RV C φ H p v
end
section
variable {C:MC} {φ φ':List Addr} {H H':Hp}
theorem oQ {α:Type} {l l':List α} (p:l<+:l') {n:Nat} {a:α} (h:l[n]?=some a):l'[n]?=some a:=by
 obtain ⟨t,rfl⟩:=p
 have:=(List.getElem?_eq_some_iff.mp h).1
 rw [List.getElem?_append_left this]
 exact h
def Kq (H H':Hp):Prop:=lJ H H'/\∀ a o xs,H a=some (.frz o (.lst xs))->H' a=some (.frz o (.lst xs))
theorem Kp.q (t:Kp H H'):Kq H H':=⟨t.1,fun a o xs h=>t.2 a o _ h⟩
theorem Kq.sq {K:PySem.W.Frag} {a:Addr} {xs:List V} (t:Kq H H') (h:SqT K H a xs):SqT K H' a xs:=t.1.sq h
theorem Kq.sf {K:PySem.W.Frag} {a:Addr} {xs:List V} (t:Kq H H') (h:SqF K H a xs):SqF K H' a xs:=by
 rcases h with ⟨o,h⟩ | h
 ·exact .inl ⟨o,t.2 _ _ _ h⟩
 ·exact .inr h
mutual
theorem RV.monoQ (p:φ<+:φ') (t:Kq H H'):∀ {x:PV} {v:V},RV C φ H x v->RV C φ' H' x v
 | .non,_,h=>h
 | .bl _,_,h=>h
 | .int _,_,h=>h
 | .str _,_,h=>h
 | .ty _,_,h=>h
 | .tup _,_,⟨a,vs,e,q,r⟩=>⟨a,vs,e,t.sq q,RVs.monoQ p t r⟩
 | .ref _,_,⟨a,e,q⟩=>⟨a,e,oQ p q⟩
 | .fl _,_,⟨a,vs,e,q,r⟩=>⟨a,vs,e,t.sf q,RVs.monoQ p t r⟩
theorem RVs.monoQ (p:φ<+:φ') (t:Kq H H'):∀ {xs:List PV} {vs:List V},RVs C φ H xs vs->RVs C φ' H' xs vs
 | [],[],_=>trivial
 | _ :: _,_ :: _,⟨h,r⟩=>⟨RV.monoQ p t h,RVs.monoQ p t r⟩
 | [],_ :: _,h=>h.elim
 | _ :: _,[],h=>h.elim
end
theorem RV.mono (p:φ<+:φ') (t:Kp H H') {x:PV} {v:V} (h:RV C φ H x v):RV C φ' H' x v:=RV.monoQ p t.q h
theorem RVs.mono (p:φ<+:φ') (t:Kp H H') {xs:List PV} {vs:List V} (h:RVs C φ H xs vs):RVs C φ' H' xs vs:=RVs.monoQ p t.q h
theorem RVs.length:∀ {xs:List PV} {vs:List V},RVs C φ H xs vs->xs.length=vs.length
 | [],[],_=>rfl
 | _ :: _,_ :: _,⟨_,r⟩=>by simp [RVs.length r]
 | [],_ :: _,h=>h.elim
 | _ :: _,[],h=>h.elim
theorem RVs.get:∀ {xs:List PV} {vs:List V} {i:Nat} {v:V},RVs C φ H xs vs->vs[i]?=some v->∃ x,xs[i]?=some x/\RV C φ H x v
 | [],[],_,_,_,e=>by simp at e
 | x :: _,w :: _,0,v,⟨h,_⟩,e=>by
  have:w=v:=by simpa using e
  subst this
  exact ⟨x,rfl,h⟩
 | _ :: xs,_ :: vs,i+1,v,⟨_,r⟩,e=>by
  obtain ⟨x,h1,h2⟩:=RVs.get (xs:=xs) (vs:=vs) (i:=i) (v:=v) r (by simpa using e)
  exact ⟨x,by simpa using h1,h2⟩
 | [],_ :: _,_,_,h,_=>h.elim
 | _ :: _,[],_,_,h,_=>h.elim
theorem RVs.at:∀ {xs:List PV} {vs:List V} {i:Nat} {x:PV},RVs C φ H xs vs->xs[i]?=some x->∃ v,vs[i]?=some v/\RV C φ H x v
 | [],[],_,_,_,e=>by simp at e
 | x :: _,w :: _,0,x',⟨h,_⟩,e=>by
  have:x=x':=by simpa using e
  subst this
  exact ⟨w,rfl,h⟩
 | _ :: xs,_ :: vs,i+1,x,⟨_,r⟩,e=>by
  obtain ⟨v,h1,h2⟩:=RVs.at (xs:=xs) (vs:=vs) (i:=i) (x:=x) r (by simpa using e)
  exact ⟨v,by simpa using h1,h2⟩
 | [],_ :: _,_,_,h,_=>h.elim
 | _ :: _,[],_,_,h,_=>h.elim
theorem RVs.append:∀ {xs ys:List PV} {vs us:List V},RVs C φ H xs vs->RVs C φ H ys us->RVs C φ H (xs++ys) (vs++us)
 | [],_,[],_,_,h=>h
 | _ :: _,_,_ :: _,_,⟨h,r⟩,h'=>⟨h,RVs.append r h'⟩
 | [],_,_ :: _,_,h,_=>h.elim
 | _ :: _,_,[],_,h,_=>h.elim
theorem RVs.snoc {xs:List PV} {vs:List V} {x:PV} {v:V} (r:RVs C φ H xs vs) (h:RV C φ H x v):RVs C φ H (xs++[x]) (vs++[v]):=r.append ⟨h,trivial⟩
theorem RVs.drop:∀ {xs:List PV} {vs:List V} (n:Nat),RVs C φ H xs vs->RVs C φ H (xs.drop n) (vs.drop n)
 | _,_,0,h=>h
 | [],[],_+1,_=>trivial
 | _ :: _,_ :: _,n+1,⟨_,r⟩=>RVs.drop n r
 | [],_ :: _,_+1,h=>h.elim
 | _ :: _,[],_+1,h=>h.elim
theorem RVs.take:∀ {xs:List PV} {vs:List V} (n:Nat),RVs C φ H xs vs->RVs C φ H (xs.take n) (vs.take n)
 | [],[],0,_=>trivial
 | _ :: _,_ :: _,0,_=>trivial
 | [],[],_+1,_=>trivial
 | _ :: _,_ :: _,n+1,⟨h,r⟩=>⟨h,RVs.take n r⟩
 | [],_ :: _,_,h=>h.elim
 | _ :: _,[],_,h=>h.elim
theorem RVs.set {x:PV} {v:V} (h:RV C φ H x v):∀ {xs:List PV} {vs:List V} (n:Nat),RVs C φ H xs vs->RVs C φ H (xs.set n x) (vs.set n v)
 | [],[],_,_=>trivial
 | _ :: _,_ :: _,0,⟨_,r⟩=>⟨h,r⟩
 | _ :: _,_ :: _,n+1,⟨q,r⟩=>⟨q,RVs.set h n r⟩
 | [],_ :: _,_,h=>h.elim
 | _ :: _,[],_,h=>h.elim
theorem RKv.monoQ {κ:Type} (p:φ<+:φ') (t:Kq H H') {x:List (κ×PV)} {v:List (κ×V)} (h:RKv C φ H x v):RKv C φ' H' x v:=Paired.mapP h fun _ _ q=>⟨q.1,q.2.monoQ p t⟩
theorem RKd.monoQ (p:φ<+:φ') (t:Kq H H') {x:List (PV×PV)} {v:List (PV×Addr×V)} (h:RKd C φ H x v):RKd C φ' H' x v:=Paired.mapP h fun _ _ q=>⟨q.1,q.2.1,q.2.2.1.monoQ p t,q.2.2.2.monoQ p t⟩
theorem RKv.mono {κ:Type} (p:φ<+:φ') (t:Kp H H') {x:List (κ×PV)} {v:List (κ×V)} (h:RKv C φ H x v):RKv C φ' H' x v:=Paired.mapP h fun _ _ q=>⟨q.1,q.2.mono p t⟩
theorem RKd.mono (p:φ<+:φ') (t:Kp H H') {x:List (PV×PV)} {v:List (PV×Addr×V)} (h:RKd C φ H x v):RKd C φ' H' x v:=Paired.mapP h fun _ _ q=>⟨q.1,q.2.1,q.2.2.1.mono p t,q.2.2.2.mono p t⟩
theorem RE.mono (p:φ<+:φ') (t:Kp H H') {δ:Ev} {σ:St} (h:RE C φ H δ σ):RE C φ' H' δ σ:=⟨h.1,fun i x e=>let ⟨v,q,r⟩:=h.2 i x e; ⟨v,q,r.mono p t⟩⟩
theorem RE.set {δ:Ev} {σ:St} {x:PV} {v:V} (h:RE C φ H δ σ) (r:RV C φ H x v) (i:Nat):RE C φ H (δ.set i (some x)) (σ.set i (some v)):=by
 refine ⟨by rw [List.length_set,List.length_set]; exact h.1,fun j p e=>?_⟩
 by_cases hj:i=j
 ·subst hj
  by_cases hl:i < δ.length
  ·rw [List.getElem?_set_self hl] at e
   cases e
   exact ⟨v,by rw [List.getElem?_set_self (by rw [<- h.1]; exact hl)],r⟩
  ·rw [List.getElem?_eq_none (by rw [List.length_set]; omega)] at e
   cases e
 ·rw [List.getElem?_set_ne hj] at e
  rw [List.getElem?_set_ne hj]
  exact h.2 j p e
theorem RO.stayQ {a:Addr} {o:MO} (p:φ<+:φ') (t:Kq H H') (e:H' a=H a) (h:RO C φ H a o):RO C φ' H' a o:=by
 cases o with
 | lst ps=>obtain ⟨vs,q,r⟩:=h; exact ⟨vs,e.trans q,r.monoQ p t⟩
 | dK ps=>obtain ⟨vs,q,r⟩:=h; exact ⟨vs,e.trans q,r.monoQ p t⟩
 | ins n fs=>obtain ⟨c,dx,ks,hc,q,r⟩:=h; exact ⟨c,dx,ks,hc,e.trans q,r.monoQ p t⟩
 | dD kvs=>obtain ⟨ks,q,r⟩:=h; exact ⟨ks,e.trans q,r.monoQ p t⟩
 | vw kd d=>obtain ⟨b,hb,q⟩:=h; exact ⟨b,oQ p hb,e.trans q⟩
 | fz o=>
  cases o with
  | dK kvs=>obtain ⟨ob,ks,q,r⟩:=h; exact ⟨ob,ks,e.trans q,r.monoQ p t⟩
  | dD kvs=>obtain ⟨ob,ks,q,r⟩:=h; exact ⟨ob,ks,e.trans q,r.monoQ p t⟩
  | _=>exact h.elim
theorem RO.stay {a:Addr} {o:MO} (p:φ<+:φ') (t:Kp H H') (e:H' a=H a) (h:RO C φ H a o):RO C φ' H' a o:=h.stayQ p t.q e
theorem RO.some {a:Addr} {o:MO} (h:RO C φ H a o):∃ u,H a=some u:=by
 cases o with
 | lst ps=>obtain ⟨vs,q,r⟩:=h; exact ⟨_,q⟩
 | dK ps=>obtain ⟨vs,q,r⟩:=h; exact ⟨_,q⟩
 | ins n fs=>obtain ⟨c,dx,ks,hc,q,r⟩:=h; exact ⟨_,q⟩
 | dD kvs=>obtain ⟨ks,q,r⟩:=h; exact ⟨_,q⟩
 | vw kd d=>obtain ⟨b,hb,q⟩:=h; exact ⟨_,q⟩
 | fz o=>
  cases o with
  | dK kvs=>obtain ⟨ob,ks,q,r⟩:=h; exact ⟨_,q⟩
  | dD kvs=>obtain ⟨ob,ks,q,r⟩:=h; exact ⟨_,q⟩
  | _=>exact h.elim
theorem RH.get {h:PH} (r:RH C φ H h) {n:Nat} {o:MO} (e:h[n]?=some o):∃ a,φ[n]?=some a/\RO C φ H a o:=by
 have hn:=(List.getElem?_eq_some_iff.mp e).1
 have:n < φ.length:=by rw [r.len]; exact hn
 exact ⟨φ[n],by simp [this],r.at' n _ o (by simp [this]) e⟩
theorem RH.tracked {h:PH} (r:RH C φ H h) {n:Nat} {a:Addr} (e:φ[n]?=some a):∃ u,H a=some u:=by
 have hn:=(List.getElem?_eq_some_iff.mp e).1
 have:n < h.length:=by rw [<- r.len]; exact hn
 exact (r.at' n a h[n] e (by simp [this])).some
theorem RH.aside {h:PH} (r:RH C φ H h) {a:Addr} {o:HO} (e:H a=none):RH C φ (upd H a o) h:=
 ⟨r.len,r.nd,fun n b ob h1 h2=>by
  have q:=r.at' n b ob h1 h2
  obtain ⟨u,hu⟩:=q.some
  exact q.stay (List.prefix_rfl) (Kp.new e) (aX (cY hu e))⟩
theorem RH.new {h:PH} (r:RH C φ H h) {a:Addr} {u:HO} {o:MO} (e:H a=none) (q:RO C (φ++[a]) (upd H a u) a o):RH C (φ++[a]) (upd H a u) (h++[o]):=by
 refine ⟨by simp [r.len],?_,fun n b ob h1 h2=>?_⟩
 ·rw [List.nodup_append]
  refine ⟨r.nd,by simp,fun x hx y hy z=>?_⟩
  rw [List.mem_singleton] at hy
  subst hy z
  obtain ⟨n,hn⟩:=List.mem_iff_getElem?.mp hx
  obtain ⟨u',hu⟩:=r.tracked hn
  rw [e] at hu; cases hu
 ·by_cases hn:n < φ.length
  ·rw [List.getElem?_append_left hn] at h1
   rw [List.getElem?_append_left (by rw [<- r.len]; exact hn)] at h2
   have q':=r.at' n b ob h1 h2
   obtain ⟨u',hu⟩:=q'.some
   exact q'.stay (List.prefix_append _ _) (Kp.new e) (aX (cY hu e))
  ·have hn':n=φ.length:=by
    have:=(List.getElem?_eq_some_iff.mp h1).1
    simp at this
    omega
   subst hn'
   rw [List.getElem?_append_right (Nat.le_refl _),Nat.sub_self] at h1
   rw [r.len,List.getElem?_append_right (Nat.le_refl _),Nat.sub_self] at h2
   cases h1
   cases h2
   exact q
theorem RH.write {h:PH} (r:RH C φ H h) {n:Nat} {a:Addr} {u:HO} {o:MO} (e:φ[n]?=some a) (t:D4 (H a)) (q:RO C φ (upd H a u) a o):RH C φ (upd H a u) (h.set n o):=by
 refine ⟨by rw [List.length_set]; exact r.len,r.nd,fun m b ob h1 h2=>?_⟩
 by_cases hm:n=m
 ·subst hm
  rw [e] at h1; cases h1
  have hl:n < h.length:=by rw [<- r.len]; exact (List.getElem?_eq_some_iff.mp e).1
  rw [List.getElem?_set_self hl] at h2
  cases h2
  exact q
 ·rw [List.getElem?_set_ne hm] at h2
  have hb:b≠a:=fun z=>by
   subst z
   exact hm ((List.getElem?_inj (List.getElem?_eq_some_iff.mp e).1 r.nd).mp (e.trans h1.symm))
  exact (r.at' m b ob h1 h2).stay List.prefix_rfl (Kp.upd t) (aX hb)
end
section
variable (C:MC) (φ:List Addr) (H:Hp)
def post (r:Rs PV) (Q:VK):Prop:=match r with
 | .ok p h=>∀ φ' v H',φ<+:φ'->Kp H H'->RH C φ' H' h->RV C φ' H' p v->Q v H'
 | .exc x h=>∀ φ' H',φ<+:φ'->Kp H H'->RH C φ' H' h->C.ex φ' H' x
 | .bad=>False
def cF (r:Rs Bool) (Q:Bool->Hp->Prop):Prop:=match r with
 | .ok b h=>∀ φ' H',φ<+:φ'->Kp H H'->RH C φ' H' h->Q b H'
 | .exc x h=>∀ φ' H',φ<+:φ'->Kp H H'->RH C φ' H' h->C.ex φ' H' x
 | .bad=>False
def postA (r:Rs (List PV)) (Q:List V->Hp->Prop):Prop:=match r with
 | .ok ps h=>∀ φ' vs H',φ<+:φ'->Kp H H'->RH C φ' H' h->RVs C φ' H' ps vs->Q vs H'
 | .exc x h=>∀ φ' H',φ<+:φ'->Kp H H'->RH C φ' H' h->C.ex φ' H' x
 | .bad=>False
def cK (r:Fl) (D:Ends):Prop:=match r with
 | .nx δ h=>∀ φ' σ H',φ<+:φ'->Kp H H'->RH C φ' H' h->RE C φ' H' δ σ->D.nx σ H'
 | .rt p h=>∀ φ' v H',φ<+:φ'->Kp H H'->RH C φ' H' h->RV C φ' H' p v->D.rt v H'
 | .bk δ h=>∀ φ' σ H',φ<+:φ'->Kp H H'->RH C φ' H' h->RE C φ' H' δ σ->D.bk σ H'
 | .ct δ h=>∀ φ' σ H',φ<+:φ'->Kp H H'->RH C φ' H' h->RE C φ' H' δ σ->D.ct σ H'
 | .exc x h=>∀ φ' H',φ<+:φ'->Kp H H'->RH C φ' H' h->C.ex φ' H' x
 | .bad=>False
end
section
variable {C:MC} {φ φ1:List Addr} {H H1:Hp}
theorem post.weak {r:Rs PV} {Q:VK} (p:φ<+:φ1) (t:Kp H H1) (h:post C φ H r Q):post C φ1 H1 r Q:=by
 cases r with
 | ok a h'=>exact fun φ' v H' p' t'=>h φ' v H' (p.trans p') (t.trans t')
 | exc a h'=>exact fun φ' H' p' t'=>h φ' H' (p.trans p') (t.trans t')
 | bad=>exact h
theorem cF.weak {r:Rs Bool} {Q:Bool->Hp->Prop} (p:φ<+:φ1) (t:Kp H H1) (h:cF C φ H r Q):cF C φ1 H1 r Q:=by
 cases r with
 | ok a h'=>exact fun φ' H' p' t'=>h φ' H' (p.trans p') (t.trans t')
 | exc a h'=>exact fun φ' H' p' t'=>h φ' H' (p.trans p') (t.trans t')
 | bad=>exact h
theorem postA.weak {r:Rs (List PV)} {Q:List V->Hp->Prop} (p:φ<+:φ1) (t:Kp H H1) (h:postA C φ H r Q):postA C φ1 H1 r Q:=by
 cases r with
 | ok a h'=>exact fun φ' v H' p' t'=>h φ' v H' (p.trans p') (t.trans t')
 | exc a h'=>exact fun φ' H' p' t'=>h φ' H' (p.trans p') (t.trans t')
 | bad=>exact h
theorem cK.weak {r:Fl} {D:Ends} (p:φ<+:φ1) (t:Kp H H1) (h:cK C φ H r D):cK C φ1 H1 r D:=by
 cases r with
 | nx a h'=>exact fun φ' v H' p' t'=>h φ' v H' (p.trans p') (t.trans t')
 | rt a h'=>exact fun φ' v H' p' t'=>h φ' v H' (p.trans p') (t.trans t')
 | bk a h'=>exact fun φ' v H' p' t'=>h φ' v H' (p.trans p') (t.trans t')
 | ct a h'=>exact fun φ' v H' p' t'=>h φ' v H' (p.trans p') (t.trans t')
 | exc a h'=>exact fun φ' H' p' t'=>h φ' H' (p.trans p') (t.trans t')
 | bad=>exact h
theorem post.imp {r:Rs PV} {Q Q':VK} (h:post C φ H r Q) (i:∀ v H',Q v H'->Q' v H'):post C φ H r Q':=by
 cases r with
 | ok a h'=>exact fun φ' v H' p t rh rv=>i v H' (h φ' v H' p t rh rv)
 | exc a h'=>exact h
 | bad=>exact h
theorem post.bind {r:Rs PV} {f:PV->PH->Rs PV} {Q:VK} (h:post C φ H (r.bind f) Q):post C φ H r fun v H1=>∃ φ1 p h1,φ<+:φ1/\Kp H H1/\RH C φ1 H1 h1/\RV C φ1 H1 p v/\post C φ1 H1 (f p h1) Q:=by
 cases r with
 | ok a h'=>exact fun φ' v H' p t rh rv=>⟨φ',a,h',p,t,rh,rv,post.weak p t h⟩
 | exc a h'=>exact h
 | bad=>exact h
theorem post.bindB {r:Rs PV} {f:PV->PH->Rs Bool} {Q:Bool->Hp->Prop} (h:cF C φ H (r.bind f) Q):post C φ H r fun v H1=>∃ φ1 p h1,φ<+:φ1/\Kp H H1/\RH C φ1 H1 h1/\RV C φ1 H1 p v/\cF C φ1 H1 (f p h1) Q:=by
 cases r with
 | ok a h'=>exact fun φ' v H' p t rh rv=>⟨φ',a,h',p,t,rh,rv,cF.weak p t h⟩
 | exc a h'=>exact h
 | bad=>exact h
theorem cF.bind {r:Rs Bool} {f:Bool->PH->Rs PV} {Q:VK} (h:post C φ H (r.bind f) Q):cF C φ H r fun b H1=>∃ φ1 h1,φ<+:φ1/\Kp H H1/\RH C φ1 H1 h1/\post C φ1 H1 (f b h1) Q:=by
 cases r with
 | ok a h'=>exact fun φ' H' p t rh=>⟨φ',h',p,t,rh,post.weak p t h⟩
 | exc a h'=>exact h
 | bad=>exact h
theorem cF.bindB {r:Rs Bool} {f:Bool->PH->Rs Bool} {Q:Bool->Hp->Prop} (h:cF C φ H (r.bind f) Q):cF C φ H r fun b H1=>∃ φ1 h1,φ<+:φ1/\Kp H H1/\RH C φ1 H1 h1/\cF C φ1 H1 (f b h1) Q:=by
 cases r with
 | ok a h'=>exact fun φ' H' p t rh=>⟨φ',h',p,t,rh,cF.weak p t h⟩
 | exc a h'=>exact h
 | bad=>exact h
theorem postA.bind {r:Rs (List PV)} {f:List PV->PH->Rs PV} {Q:VK} (h:post C φ H (r.bind f) Q):postA C φ H r fun vs H1=>∃ φ1 ps h1,φ<+:φ1/\Kp H H1/\RH C φ1 H1 h1/\RVs C φ1 H1 ps vs/\post C φ1 H1 (f ps h1) Q:=by
 cases r with
 | ok a h'=>exact fun φ' v H' p t rh rv=>⟨φ',a,h',p,t,rh,rv,post.weak p t h⟩
 | exc a h'=>exact h
 | bad=>exact h
theorem postA.bindA {r:Rs (List PV)} {f:List PV->PH->Rs (List PV)} {Q:List V->Hp->Prop} (h:postA C φ H (r.bind f) Q):postA C φ H r fun vs H1=>∃ φ1 ps h1,φ<+:φ1/\Kp H H1/\RH C φ1 H1 h1/\RVs C φ1 H1 ps vs/\postA C φ1 H1 (f ps h1) Q:=by
 cases r with
 | ok a h'=>exact fun φ' v H' p t rh rv=>⟨φ',a,h',p,t,rh,rv,postA.weak p t h⟩
 | exc a h'=>exact h
 | bad=>exact h
theorem post.bindA {r:Rs PV} {f:PV->PH->Rs (List PV)} {Q:List V->Hp->Prop} (h:postA C φ H (r.bind f) Q):post C φ H r fun v H1=>∃ φ1 p h1,φ<+:φ1/\Kp H H1/\RH C φ1 H1 h1/\RV C φ1 H1 p v/\postA C φ1 H1 (f p h1) Q:=by
 cases r with
 | ok a h'=>exact fun φ' v H' p t rh rv=>⟨φ',a,h',p,t,rh,rv,postA.weak p t h⟩
 | exc a h'=>exact h
 | bad=>exact h
theorem post.val {p:PV} {v:V} {h:PH} {Q:VK} (q:post C φ H (.ok p h) Q) (rh:RH C φ H h) (rv:RV C φ H p v):Q v H:=q φ v H List.prefix_rfl (Kp.refl H) rh rv
end
end L2
set_option Elab.async false
set_option linter.all false
set_option maxRecDepth 100000
namespace L2
open PySem PySem.Spec PyProof.Rows
structure Cxt (C:MC) (k:Nat) (X:Cx):Prop where
 K:X.K=C.K
 calm:X.calm=true
 room:fG k X.A
 bn:∀ x∈C.bs,X.mg x=none
 w:X.w=C.w
theorem Cxt.hu {C:MC} {k:Nat} {X:Cx} (c:Cxt C k X):X.A.units+1 < cLine:=Ro c.room
theorem Cxt.hu64 {C:MC} {k:Nat} {X:Cx} (c:Cxt C k X):X.A.units+64 < cLine:=c.room.units
theorem Cxt.comp {C:MC} {k:Nat} {X:Cx} (c:Cxt C k X) (sc:Scope) (N:List Str) (a:Addr) (fp:List Addr) (s:Shared) (H:Hp):Cxt C k (X.comp sc N a fp s H):=⟨c.K,c.calm,c.room,c.bn,c.w⟩
section
variable (C:MC)
def rd (m:Me):TE:=fun σ H Q=>∃ φ δ h,RH C φ H h/\RE C φ H δ σ/\post C φ H (m δ h) Q
def rdB (m:Ev->PH->Rs Bool):TT:=fun σ H Q=>∃ φ δ h,RH C φ H h/\RE C φ H δ σ/\cF C φ H (m δ h) Q
def rdA (m:Ev->PH->Rs (List PV)):TA:=fun σ H Q=>∃ φ δ h,RH C φ H h/\RE C φ H δ σ/\postA C φ H (m δ h) Q
def rdS (m:Ms):TS:=fun D σ H=>∃ φ δ h,RH C φ H h/\RE C φ H δ σ/\cK C φ H (m δ h) D
def r2 (g:PV->PV->PH->Rs PV):R2:=fun x y H Q=>∃ φ h p q,RH C φ H h/\RV C φ H p x/\RV C φ H q y/\post C φ H (g p q h) Q
def r1 (g:PV->PH->Rs PV):V->Hp->VK->Prop:=fun x H Q=>∃ φ h p,RH C φ H h/\RV C φ H p x/\post C φ H (g p h) Q
def rL (g:List PV->PH->Rs PV):List V->Hp->VK->Prop:=fun xs H Q=>∃ φ h ps,RH C φ H h/\RVs C φ H ps xs/\post C φ H (g ps h) Q
end
variable {C:MC} {k:Nat} {X:Cx}
def SE (C:MC) (k:Nat) (X:Cx) (e:Expr) (m:Me):Prop:=Cxt C k X->PE X e (rd C m)
def ST (C:MC) (k:Nat) (X:Cx) (e:Expr) (m:Ev->PH->Rs Bool):Prop:=Cxt C k X->PT X e (rdB C m)
def SA (C:MC) (k:Nat) (X:Cx) (es:List Expr) (m:Ev->PH->Rs (List PV)):Prop:=Cxt C k X->PA X es (rdA C m)
def SSt (C:MC) (k:Nat) (X:Cx) (st:Stmt) (m:Ms):Prop:=Cxt C k X->PS X st (rdS C m)
def SSs (C:MC) (k:Nat) (X:Cx) (st:List Stmt) (m:Ms):Prop:=Cxt C k X->PSs X st (rdS C m)
def OpS (C:MC) (k:Nat) (X:Cx) (f:Value->Value->Sem Value) (g:PV->PV->PH->Rs PV):Prop:=Cxt C k X->OpR X f (r2 C g)
def nD (C:MC) (k:Nat) (X:Cx) (f:Value) (g:List PV->PH->Rs PV):Prop:=Cxt C k X->bT X f (rL C g)
def BK:Ev->Nat->Option PV
 | [],_=>none
 | x :: _,0=>x
 | _ :: r,n+1=>BK r n
@[simp] theorem QN (x:Option PV) (r:Ev):BK (x :: r) 0=x:=(rfl)
@[simp] theorem QO (x:Option PV) (r:Ev) (n:Nat):BK (x :: r) (n+1)=BK r n:=(rfl)
theorem xK:∀ {δ:Ev} {i:Nat} {p:PV},BK δ i=some p->δ[i]?=some (some p)
 | [],_,_,h=>by cases h
 | x :: _,0,p,h=>by
  have h':x=some p:=h
  simp [h']
 | _ :: r,n+1,p,h=>by
  rw [List.getElem?_cons_succ]
  exact xK (δ:=r) (i:=n) h
def mV (i:Nat):Me:=fun δ h=>match BK δ i with
 | some p=>.ok p h
 | none=>.bad
def mC (p:PV):Me:=fun _ h=>.ok p h
theorem aA (i:Nat) {x:Str} {pos:Pos} (hN:X.N[i]?=some x:=by rfl) (hv:Vis X.env.scope x:=by first | exact Or.inl rfl | exact Or.inr (Or.inl rfl) | exact Or.inr (Or.inr rfl)) (hd:(x == ("__debug__" : Str))=false:=by decide)
  (hcd:(x == ("__classdict__" : Str))=false:=by decide):SE C k X (.Name x pos) (mV i):=fun _=>by
 refine (J9 hN hv hd hcd).imp fun σ H Q h=>?_
 obtain ⟨φ,δ,h,rh,re,p⟩:=h
 unfold mV at p
 cases e:BK δ i with
 | none=>rw [e] at p; exact p.elim
 | some x=>
  rw [e] at p
  obtain ⟨v,hv,rv⟩:=re.2 i x (xK e)
  exact ⟨v,hv,p.val rh rv⟩
theorem aE {i j pos}:SE C k X (.Constant (.int i) j pos) (mC (.int i)):=fun _=>OV.imp fun σ H Q ⟨φ,δ,h,rh,re,p⟩=>p.val rh rfl
theorem JV {i j pos}:SE C k X (.Constant (.bool i) j pos) (mC (.bl i)):=fun _=>R3.imp fun σ H Q ⟨φ,δ,h,rh,re,p⟩=>p.val rh rfl
theorem iN {i j pos}:SE C k X (.Constant (.str i) j pos) (mC (.str i)):=fun _=>OW.imp fun σ H Q ⟨φ,δ,h,rh,re,p⟩=>p.val rh rfl
def aD (g:PV->PV->PH->Rs PV) (ma mb:Me):Me:=fun δ h=>(ma δ h).bind fun x h1=>(mb δ h1).bind fun y h2=>g x y h2
theorem Ge {g:PV->PV->PH->Rs PV} {ma mb:Me} {σ:St} {H:Hp} {Q:VK} (h:rd C (aD g ma mb) σ H Q):tOp (r2 C g) (rd C ma) (rd C mb) σ H Q:=by
 obtain ⟨φ,δ,h,rh,re,p⟩:=h
 refine ⟨φ,δ,h,rh,re,(post.bind p).imp ?_⟩
 rintro v H1 ⟨φ1,x,h1,p1,t1,rh1,rv1,q1⟩
 refine ⟨φ1,δ,h1,rh1,re.mono p1 t1,(post.bind q1).imp ?_⟩
 rintro u H2 ⟨φ2,y,h2,p2,t2,rh2,rv2,q2⟩
 exact ⟨φ2,h2,x,y,rh2,rv1.mono p2 t2,rv2,q2⟩
section
variable {a b e:Expr} {ma mb:Me} {g:PV->PV->PH->Rs PV} {pos:Pos}
theorem aJ {op:Operator} (ho:OpS C k X (binaryOp op) g) (ha:SE C k X a ma) (hb:SE C k X b mb):SE C k X (.BinOp a op b pos) (aD g ma mb):=fun c=>
 (R' (ho c) (ha c) (hb c)).imp fun σ H Q h=>Ge h
theorem JW {op:CmpOp} (ho:OpS C k X (compareOp op) g) (ha:SE C k X a ma) (hb:SE C k X b mb) (hm:behindInMarks op b=false:=by first | exact Jf _ | rfl):SE C k X (.Compare a [op] [b] pos) (aD g ma mb):=fun c=>
 (MD (ho c) (ha c) (hb c) hm).imp fun σ H Q h=>Ge h
def mUn (g:PV->PH->Rs PV) (ma:Me):Me:=fun δ h=>(ma δ h).bind g
end
def aS (h:PH) (n:Nat):Option (List PV):=match h[n]? with
 | some (.lst xs)=>some xs
 | _=>none
theorem cH {φ:List Addr} {H:Hp} {h:PH} {n:Nat} {xs:List PV} (rh:RH C φ H h) (e:aS h n=some xs):∃ a vs,φ[n]?=some a/\SqL C.K H a vs/\RVs C φ H xs vs:=by
 unfold aS at e
 cases q:h[n]? with
 | none=>rw [q] at e; cases e
 | some o=>
  rw [q] at e
  obtain ⟨a,ha,ro⟩:=rh.get q
  cases o with
  | lst ys=>cases e; obtain ⟨vs,q',r⟩:=ro; exact ⟨a,vs,ha,SqL.of q',r⟩
  | _=>cases e
def fA (h:PH) (n:Nat):Option (List PV):=match h[n]? with
 | some (.lst xs)=>some xs
 | _=>none
theorem kH {h:PH} {n:Nat} {xs:List PV} (e:fA h n=some xs):h[n]?=some (.lst xs):=by
 unfold fA at e
 cases q:h[n]? with
 | none=>rw [q] at e; cases e
 | some o=>
  rw [q] at e
  cases o with
  | lst ys=>cases e; rfl
  | _=>cases e
def eI (x:PV) (h:PH):Option (List PV):=match x with
 | .ref n=>aS h n
 | .fl xs=>some xs
 | _=>none
theorem iO {φ:List Addr} {H:Hp} {h:PH} {x:PV} {v:V} {xs:List PV} (rh:RH C φ H h) (rv:RV C φ H x v) (e:eI x h=some xs):∃ a vs,v=.ref a/\SqL C.K H a vs/\RVs C φ H xs vs:=by
 cases x with
 | ref n=>
  obtain ⟨a,rfl,ha⟩:=rv
  obtain ⟨a2,vs,ha2,sa,ra⟩:=cH rh e
  rw [ha] at ha2; cases ha2
  exact ⟨a,vs,rfl,sa,ra⟩
 | fl ys=>
  cases e
  obtain ⟨a,vs,rfl,sa,ra⟩:=rv
  exact ⟨a,vs,rfl,sa.sq,ra⟩
 | _=>cases e
def OE:List PV->Bool
 | []=>true
 | _ :: _=>false
def JX:PV->PV->PH->Rs PV:=fun x y h=>match x,y with
 | .int i,.int j=>.ok (.int (i+j)) h
 | .str i,.str j=>if i.length+j.length<=sizeLine then .ok (.str (i++j)) h else .bad
 | .tup xs,.tup ys=>if OE xs=false/\xs.length+ys.length<=sizeLine then .ok (.tup (xs++ys)) h else .bad
 | .ref a,.ref b=>match fA h a,fA h b with
  | some xs,some ys=>if xs.length+ys.length<=sizeLine then .ok (.ref h.length) (h++[.lst (xs++ys)]) else .bad
  | _,_=>.bad
 | _,_=>.bad
theorem post.ite {φ:List Addr} {H:Hp} {c:Prop} [Decidable c] {r:Rs PV} {Q:VK} (h:post C φ H (if c then r else .bad) Q):c/\post C φ H r Q:=by
 by_cases hc:c
 ·rw [if_pos hc] at h; exact ⟨hc,h⟩
 ·rw [if_neg hc] at h; exact h.elim
theorem post.lnew {φ:List Addr} {H:Hp} {h:PH} {xs:List PV} {vs:List V} {Q:VK} (q:post C φ H (.ok (.ref h.length) (h++[.lst xs])) Q) (rh:RH C φ H h) (r:RVs C φ H xs vs) {p:Addr} (hp:H p=none):Q (.ref p) (upd H p (.lst vs)):=
 q (φ++[p]) (.ref p) _ (List.prefix_append _ _) (Kp.new hp) (rh.new hp ⟨vs,bK,r.mono (List.prefix_append _ _) (Kp.new hp)⟩) ⟨p,rfl,by rw [<- rh.len]; simp⟩
theorem post.tnew {φ:List Addr} {H:Hp} {h:PH} {xs:List PV} {vs:List V} {Q:VK} (q:post C φ H (.ok (.tup xs) h) Q) (rh:RH C φ H h) (r:RVs C φ H xs vs) {p:Addr} (hp:H p=none):Q (.ref p) (upd H p (.tup vs)):=
 q φ (.ref p) _ List.prefix_rfl (Kp.new hp) (rh.aside hp) ⟨p,vs,rfl,SqT.of bK,r.mono List.prefix_rfl (Kp.new hp)⟩
theorem post.lset {φ:List Addr} {H:Hp} {h:PH} {n:Nat} {a:Addr} {p:PV} {v:V} {xs:List PV} {ws vs:List V} {Q:VK} (q:post C φ H (.ok p (h.set n (.lst xs))) Q) (rh:RH C φ H h) (e:φ[n]?=some a) (hl:H a=some (.lst ws)) (r:RVs C φ H xs vs) (rv:RV C φ H p v):Q v (upd H a (.lst vs)):=
 q φ v _ List.prefix_rfl (Kp.lst hl) (rh.write e (by rw [hl]; trivial) ⟨vs,bK,r.mono List.prefix_rfl (Kp.lst hl)⟩) (rv.mono List.prefix_rfl (Kp.lst hl))
theorem JY {xs:List PV} {vs:List V} {φ:List Addr} {H:Hp} (r:RVs C φ H xs vs) (h:OE xs=false):vs≠[]:=by
 cases xs with
 | nil=>cases h
 | cons x xs=>
  cases vs with
  | nil=>exact r.elim
  | cons=>intro z; cases z
theorem RD:OpS C k X (binaryOp .Add) JX:=fun c=>(MU C.K c.K).imp fun x y H Q h=>by
 obtain ⟨φ,h,p,q,rh,rx,ry,po⟩:=h
 unfold JX at po
 cases p with
 | int i=>
  cases q with
  | int j=>cases rx; cases ry; exact po.val rh rfl
  | _=>exact po.elim
 | str i=>
  cases q with
  | str j=>cases rx; cases ry; exact ⟨po.ite.1,po.ite.2.val rh rfl⟩
  | _=>exact po.elim
 | tup xs=>
  cases q with
  | tup ys=>
   obtain ⟨a,vs,rfl,sa,ra⟩:=rx
   obtain ⟨b,us,rfl,sb,rb⟩:=ry
   obtain ⟨⟨h1,h2⟩,po⟩:=po.ite
   refine .inr ⟨a,b,vs,us,rfl,rfl,sa,sb,JY ra h1,by rw [<- ra.length,<- rb.length]; exact h2,fun z=>?_,fun z p hp=>po.tnew rh (ra.append rb) hp⟩
   subst z
   have e:ys=[]:=List.eq_nil_of_length_eq_zero rb.length
   subst e
   exact po.val rh ⟨a,vs,rfl,sa,by rw [List.append_nil]; exact ra⟩
  | _=>exact po.elim
 | ref n=>
  cases q with
  | ref m=>
   obtain ⟨a,rfl,ha⟩:=rx
   obtain ⟨b,rfl,hb⟩:=ry
   dsimp only at po
   cases e1:fA h n with
   | none=>rw [e1] at po; exact po.elim
   | some xs=>
    cases e2:fA h m with
    | none=>rw [e1,e2] at po; exact po.elim
    | some ys=>
     rw [e1,e2] at po
     obtain ⟨vs,h1,r1⟩:=rh.at' n a _ ha (kH e1)
     obtain ⟨us,h2,r2⟩:=rh.at' m b _ hb (kH e2)
     obtain ⟨hz,po⟩:=po.ite
     exact .inl ⟨a,b,vs,us,rfl,rfl,h1,h2,by rw [<- r1.length,<- r2.length]; exact hz,fun p hp=>po.lnew rh (r1.append r2) hp⟩
  | _=>exact po.elim
 | _=>exact po.elim
def vInt (P:Int->Int->Prop) [∀ i j,Decidable (P i j)] (f:Int->Int->Int):PV->PV->PH->Rs PV:=fun x y h=>match x,y with
 | .int i,.int j=>if P i j then .ok (.int (f i j)) h else .bad
 | _,_=>.bad
theorem Gf {f:Value->Value->Sem Value} {P:Int->Int->Prop} [∀ i j,Decidable (P i j)] {g:Int->Int->Int} (ho:OpR X f (AK P g)):OpS C k X f (vInt P g):=fun c=>ho.imp fun x y H Q h=>by
 obtain ⟨φ,h,p,q,rh,rx,ry,po⟩:=h
 unfold vInt at po
 cases p with
 | int i=>
  cases q with
  | int j=>cases rx; cases ry; exact ⟨po.ite.1,po.ite.2.val rh rfl⟩
  | _=>exact po.elim
 | _=>exact po.elim
noncomputable instance (i j:Int):Decidable (CT i j):=Classical.propDecidable _
noncomputable instance (i j:Int):Decidable (Je i j):=Classical.propDecidable _
noncomputable instance (i j:Int):Decidable (Hb i j):=Classical.propDecidable _
def BL:PV->PV->PH->Rs PV:=fun x y h=>match x,y with
 | .int i,.int j=>.ok (.int (i - j)) h
 | _,_=>.bad
theorem Dj:OpS C k X (binaryOp .Sub) BL:=fun c=>MV.imp fun x y H Q h=>by
 obtain ⟨φ,h,p,q,rh,rx,ry,po⟩:=h
 unfold BL at po
 cases p with
 | int i=>
  cases q with
  | int j=>cases rx; cases ry; exact po.val rh rfl
  | _=>exact po.elim
 | _=>exact po.elim
noncomputable abbrev BM:=vInt CT fun i j=>i*j
noncomputable abbrev gG:=vInt Je fun i j=>i / j
abbrev eN:=vInt (fun _ j=>0 < j) fun i j=>i % j
noncomputable abbrev PM:=vInt Hb fun i j=>i ^ j.toNat
theorem AU:OpS C k X (binaryOp .Mult) BM:=Gf MW
theorem gH:OpS C k X (binaryOp .FloorDiv) gG:=Gf MX
theorem eJ:OpS C k X (binaryOp .Mod) eN:=Gf MY
theorem RF:OpS C k X (binaryOp .Pow) PM:=Gf MZ
def U3:PV->PH->Rs PV:=fun x h=>match x with
 | .int i=>.ok (.int (-i)) h
 | _=>.bad
end L2
set_option Elab.async false
set_option linter.all false
set_option maxRecDepth 100000
namespace L2
open PySem PySem.Spec PyProof.Rows
variable {C:MC} {k:Nat} {X:Cx}
def Dk (f:Int->Int->Bool) (g:List Nat->List Nat->Bool):PV->PV->PH->Rs PV:=fun x y h=>match x,y with
 | .int i,.int j=>.ok (.bl (f i j)) h
 | .str i,.str j=>.ok (.bl (g i.cps.toList j.cps.toList)) h
 | _,_=>.bad
theorem Gg {f:Value->Value->Sem Value} {p:Int->Int->Bool} {g:List Nat->List Nat->Bool} (ho:OpR X f (AL p g)):OpS C k X f (Dk p g):=fun c=>ho.imp fun x y H Q h=>by
 obtain ⟨φ,h,p,q,rh,rx,ry,po⟩:=h
 unfold Dk at po
 cases p with
 | int i=>
  cases q with
  | int j=>cases rx; cases ry; exact po.val rh rfl
  | _=>exact po.elim
 | str i=>
  cases q with
  | str j=>cases rx; cases ry; exact po.val rh rfl
  | _=>exact po.elim
 | _=>exact po.elim
abbrev vLt:=Dk (fun i j=>decide (i < j)) fun i j=>decide (i < j)
abbrev vGt:=Dk (fun i j=>decide (j < i)) fun i j=>decide (j < i)
abbrev vLe:=Dk (fun i j=>decide (i<=j)) fun i j=>!decide (j < i)
abbrev vGe:=Dk (fun i j=>decide (j<=i)) fun i j=>!decide (i < j)
theorem U4:OpS C k X (compareOp .Lt) vLt:=Gg Pt
theorem JZ:OpS C k X (compareOp .Gt) vGt:=Gg Pu
theorem U5:OpS C k X (compareOp .LtE) vLe:=Gg Pv
theorem U6:OpS C k X (compareOp .GtE) vGe:=Gg Pw
mutual
def PV.d:PV->Option D
 | .non=>some .non
 | .bl b=>some (.bl b)
 | .int i=>some (.int i)
 | .str x=>some (.str x)
 | .tup xs=>match PV.ds xs with
  | some ds=>some (.tup ds)
  | none=>none
 | .ref _=>none
 | .ty _=>none
 | .fl _=>none
def PV.ds:List PV->Option (List D)
 | []=>some []
 | x :: xs=>match PV.d x,PV.ds xs with
  | some d,some ds=>some (d :: ds)
  | _,_=>none
end
section
variable {φ:List Addr} {H:Hp}
mutual
theorem RV.rep:∀ {x:PV} {d:D} {v:V},RV C φ H x v->x.d=some d->Rep C.K H d v
 | .non,_,_,h,e=>by cases e; exact h
 | .bl _,_,_,h,e=>by cases e; exact h
 | .int _,_,_,h,e=>by cases e; exact h
 | .str _,_,_,h,e=>by cases e; exact h
 | .tup xs,d,v,⟨a,vs,e1,q,r⟩,e=>by
  unfold PV.d at e
  cases e2:PV.ds xs with
  | none=>rw [e2] at e; cases e
  | some ds=>
   rw [e2] at e
   cases e
   exact ⟨a,vs,e1,q,RVs.reps r e2⟩
 | .ref _,_,_,_,e=>by cases e
 | .ty _,_,_,_,e=>by cases e
 | .fl _,_,_,_,e=>by cases e
theorem RVs.reps:∀ {xs:List PV} {ds:List D} {vs:List V},RVs C φ H xs vs->PV.ds xs=some ds->fK C.K H ds vs
 | [],_,[],_,e=>by cases e; trivial
 | x :: xs,_,v :: vs,⟨h,r⟩,e=>by
  unfold PV.ds at e
  cases e1:PV.d x with
  | none=>rw [e1] at e; cases e
  | some d=>
   cases e2:PV.ds xs with
   | none=>rw [e1,e2] at e; cases e
   | some ds=>
    rw [e1,e2] at e
    cases e
    exact ⟨RV.rep h e1,RVs.reps r e2⟩
 | [],_,_ :: _,h,_=>h.elim
 | _ :: _,_,[],h,_=>h.elim
end
end
def jP (x y:PV) (h:PH):Option Bool:=match x.d,y.d with
 | some d,some e=>if d.depth<=40 then some (eqD d e) else none
 | _,_=>match eI x h,eI y h with
   | some xs,some ys=>match PV.ds xs,PV.ds ys with
    | some ds,some es=>if D.depths ds<=40 then some (eG ds es) else none
    | _,_=>none
   | _,_=>none
def ofB (o:Option Bool) (h:PH):Rs PV:=match o with
 | some b=>.ok (.bl b) h
 | none=>.bad
def vEq:PV->PV->PH->Rs PV:=fun x y h=>ofB (jP x y h) h
def vNe:PV->PV->PH->Rs PV:=fun x y h=>ofB ((jP x y h).map not) h
theorem lM {φ:List Addr} {H:Hp} {h:PH} {p q:PV} {x y:V} {b:Bool} (rh:RH C φ H h) (rx:RV C φ H p x) (ry:RV C φ H q y) (e:jP p q h=some b):
  (∃ d e,Rep C.K H d x/\Rep C.K H e y/\d.depth<=40/\b=eqD d e)\/(∃ ds es,D5 C.K H ds x/\D5 C.K H es y/\D.depths ds<=40/\b=eG ds es):=by
 unfold jP at e
 split at e
 ·rename_i d e' h1 h2
  split at e
  ·rename_i hd
   cases e
   exact .inl ⟨d,e',rx.rep h1,ry.rep h2,hd,rfl⟩
  ·cases e
 ·split at e
  ·rename_i xs ys h1 h2
   split at e
   ·rename_i ds es h3 h4
    split at e
    ·rename_i hd
     cases e
     obtain ⟨a',vs,rfl,sa,ra⟩:=iO rh rx h1
     obtain ⟨b'',us,rfl,sb,rb⟩:=iO rh ry h2
     exact .inr ⟨ds,es,⟨a',vs,rfl,sa,ra.reps h3⟩,⟨b'',us,rfl,sb,rb.reps h4⟩,hd,rfl⟩
    ·cases e
   ·cases e
  ·cases e
theorem post.ofB {φ:List Addr} {H:Hp} {h:PH} {o:Option Bool} {Q:VK} (q:post C φ H (ofB o h) Q):∃ b,o=some b/\post C φ H (.ok (.bl b) h) Q:=by
 cases o with
 | none=>exact q.elim
 | some b=>exact ⟨b,rfl,q⟩
theorem tQ:OpS C k X (compareOp .Eq) vEq:=fun c=>((Pz c.hu64 C.K c.K).or (PC c.hu64 C.K c.K)).imp fun x y H Q h=>by
 obtain ⟨φ,h,p,q,rh,rx,ry,po⟩:=h
 obtain ⟨b,e,po⟩:=po.ofB
 rcases lM rh rx ry e with ⟨d,e',h1,h2,h3,rfl⟩ | ⟨d,e',h1,h2,h3,rfl⟩
 ·exact .inl ⟨d,e',h1,h2,h3,po.val rh rfl⟩
 ·exact .inr ⟨d,e',h1,h2,h3,po.val rh rfl⟩
theorem N8:OpS C k X (compareOp .NotEq) vNe:=fun c=>((PB c.hu64 C.K c.K).or (PD c.hu64 C.K c.K)).imp fun x y H Q h=>by
 obtain ⟨φ,h,p,q,rh,rx,ry,po⟩:=h
 obtain ⟨b,e,po⟩:=po.ofB
 cases e0:jP p q h with
 | none=>rw [e0] at e; cases e
 | some b'=>
  rw [e0] at e
  cases e
  rcases lM rh rx ry e0 with ⟨d,e',h1,h2,h3,rfl⟩ | ⟨d,e',h1,h2,h3,rfl⟩
  ·exact .inl ⟨d,e',h1,h2,h3,po.val rh rfl⟩
  ·exact .inr ⟨d,e',h1,h2,h3,po.val rh rfl⟩
def F7:PV->Option Key
 | .int i=>some (.inl i)
 | .str x=>some (.inr x)
 | _=>none
def bU {κ:Type} [DecidableEq κ]:List (κ×PV)->κ->Option PV
 | [],_=>none
 | (a,p) :: r,b=>if a=b then some p else bU r b
def HL (h:PH) (n:Nat) (x:PV):Option (Option PV):=match h[n]? with
 | some (.dK kvs)=>match F7 x with
  | some key=>some (bU kvs key)
  | none=>none
 | _=>none
def xM (x:PV) (ys:List PV):Option Bool:=match x.d,PV.ds ys with
 | some d,some ds=>if D.depths ds<=40 then some (ds.any fun e=>eqD e d) else none
 | _,_=>none
def HM (x y:PV) (h:PH):Option Bool:=match y with
 | .tup ys=>xM x ys
 | .ref n=>match aS h n with
  | some ys=>xM x ys
  | none=>(HL h n x).map Option.isSome
 | .fl ys=>xM x ys
 | _=>none
def vIn:PV->PV->PH->Rs PV:=fun x y h=>ofB (HM x y h) h
def xN:PV->PV->PH->Rs PV:=fun x y h=>ofB ((HM x y h).map not) h
theorem F8 {φ:List Addr} {H:Hp} {x:PV} {v:V} {key:Key} (r:RV C φ H x v) (e:F7 x=some key):v=kV key:=by
 cases x <;> first | (cases e; exact r) | cases e
theorem tR {φ:List Addr} {H:Hp} {κ:Type} [DecidableEq κ] {kvs:List (κ×PV)} {ks:List (κ×V)} (r:RKv C φ H kvs ks) (a:κ):match bU kvs a,kB ks a with
  | some p,some v=>RV C φ H p v
  | none,none=>True
  | _,_=>False:=by
 unfold RKv at r
 induction r with
 | nil=>trivial
 | @cons p q ps qs h t ih=>
  obtain ⟨h1,h2⟩:=h
  obtain ⟨pk,pv⟩:=p
  by_cases e:pk=a
  ·have e':q.1=a:=h1.symm.trans e
   rw [qP e']
   unfold bU
   rw [if_pos e]
   exact h2
  ·have e':¬ q.1=a:=fun z=>e (h1.trans z)
   rw [qQ e']
   unfold bU
   rw [if_neg e]
   exact ih
theorem xO {φ:List Addr} {H:Hp} {h:PH} {n:Nat} {a:Addr} {x:PV} {v:V} {o:Option PV} (rh:RH C φ H h) (ha:φ[n]?=some a) (rv:RV C φ H x v) (e:HL h n x=some o):
  ∃ o',wO H a v o'/\o.isSome=o'.isSome/\∀ p,o=some p->∃ w,o'=some w/\RV C φ H p w:=by
 unfold HL at e
 split at e
 ·rename_i kvs hk
  split at e
  ·rename_i key hkey
   cases e
   obtain ⟨ks,hH,rk⟩:=rh.at' n a _ ha hk
   have q:=tR rk key
   rw [F8 rv hkey]
   refine ⟨kB ks key,wO.k hH,?_,fun p hp=>?_⟩
   ·cases e1:bU kvs key <;> cases e2:kB ks key <;> rw [e1,e2] at q <;> first | rfl | exact q.elim
   ·rw [hp] at q
    cases e2:kB ks key with
    | none=>rw [e2] at q; exact q.elim
    | some w=>rw [e2] at q; exact ⟨w,rfl,q⟩
  ·cases e
 ·cases e
theorem F9 {φ:List Addr} {H:Hp} {h:PH} {p q:PV} {x y:V} {b:Bool} (rh:RH C φ H h) (rx:RV C φ H p x) (ry:RV C φ H q y) (e:HM p q h=some b):
  (∃ d a ds vs,y=.ref a/\(SqL C.K H a vs\/SqT C.K H a vs)/\Rep C.K H d x/\fK C.K H ds vs/\D.depths ds<=40/\b=ds.any fun e=>eqD e d)\/∃ a o,y=.ref a/\wO H a x o/\b=o.isSome:=by
 have go:∀ {a:Addr} {vs:List V} {ys:List PV},(SqL C.K H a vs\/SqT C.K H a vs)->RVs C φ H ys vs->xM p ys=some b->∃ d a' ds vs,V.ref a=.ref a'/\(SqL C.K H a' vs\/SqT C.K H a' vs)/\Rep C.K H d x/\fK C.K H ds vs/\D.depths ds<=40/\b=ds.any fun e=>eqD e d:=by
  intro a vs ys hs hr he
  unfold xM at he
  split at he
  ·rename_i d ds h1 h2
   split at he
   ·rename_i hd
    cases he
    exact ⟨d,a,ds,vs,rfl,hs,rx.rep h1,hr.reps h2,hd,rfl⟩
   ·cases he
  ·cases he
 unfold HM at e
 split at e
 ·obtain ⟨a,vs,rfl,sa,ra⟩:=ry
  exact .inl (go (.inr sa) ra e)
 ·rename_i n
  obtain ⟨a,rfl,ha⟩:=ry
  split at e
  ·rename_i ys hl
   obtain ⟨a2,vs,ha2,sa,ra⟩:=cH rh hl
   rw [ha] at ha2; cases ha2
   exact .inl (go (.inl sa) ra e)
  ·cases e':HL h n p with
   | none=>rw [e'] at e; cases e
   | some o=>
    rw [e'] at e
    cases e
    obtain ⟨o',g,i,_⟩:=xO rh ha rx e'
    exact .inr ⟨a,o',rfl,g,i⟩
 ·obtain ⟨a,vs,rfl,sa,ra⟩:=ry
  exact .inl (go (.inl sa.sq) ra e)
 ·cases e
theorem N9:OpS C k X (compareOp .NotIn) xN:=fun c=>((Ht c.hu64 C.K c.K).or (Hq c.hu C.K c.K)).imp fun x y H Q h=>by
 obtain ⟨φ,h,p,q,rh,rx,ry,po⟩:=h
 obtain ⟨b,e,po⟩:=po.ofB
 cases e':HM p q h with
 | none=>rw [e'] at e; cases e
 | some b'=>
  rw [e'] at e
  cases e
  rcases F9 rh rx ry e' with ⟨d,a,ds,vs,rfl,h1,h2,h3,h4,rfl⟩ | ⟨a,o,rfl,g,rfl⟩
  ·exact .inl ⟨d,a,ds,vs,rfl,h1,h2,h3,h4,po.val rh rfl⟩
  ·exact .inr (.inr ⟨a,o,rfl,g,po.val rh rfl⟩)
def tS:PV->Bool
 | .non=>true
 | _=>false
def vIs:PV->PV->PH->Rs PV:=fun x y h=>match y with
 | .non=>.ok (.bl (tS x)) h
 | .bl b=>match x with
  | .bl a=>.ok (.bl (a == b)) h
  | _=>.bad
 | _=>.bad
def K0:PV->PV->PH->Rs PV:=fun x y h=>match y with
 | .non=>.ok (.bl (!tS x)) h
 | .bl b=>match x with
  | .bl a=>.ok (.bl (!(a == b))) h
  | _=>.bad
 | _=>.bad
def tru (x:PV) (h:PH):Rs Bool:=match x with
 | .non=>.ok false h
 | .bl b=>.ok b h
 | .int i=>.ok (i != 0) h
 | .str y=>if y.length<=sizeLine then .ok ((y.length:Int) != 0) h else .bad
 | .tup xs=>.ok (!xs.isEmpty) h
 | .ref n=>match aS h n with
  | some xs=>.ok (!xs.isEmpty) h
  | none=>match h[n]? with
   | some (.dK kvs)=>.ok (!kvs.isEmpty) h
   | _=>.bad
 | .fl xs=>.ok (!xs.isEmpty) h
 | .ty _=>.bad
theorem RVs.isEmpty {φ:List Addr} {H:Hp} {xs:List PV} {vs:List V} (r:RVs C φ H xs vs):(!vs.isEmpty)=!xs.isEmpty:=by
 cases xs <;> cases vs <;> first | rfl | exact r.elim
theorem cF.ite {φ:List Addr} {H:Hp} {c:Prop} [Decidable c] {r:Rs Bool} {Q:Bool->Hp->Prop} (h:cF C φ H (if c then r else .bad) Q):c/\cF C φ H r Q:=by
 by_cases hc:c
 ·rw [if_pos hc] at h; exact ⟨hc,h⟩
 ·rw [if_neg hc] at h; exact h.elim
theorem cF.val {φ:List Addr} {H:Hp} {b:Bool} {h:PH} {Q:Bool->Hp->Prop} (q:cF C φ H (.ok b h) Q) (rh:RH C φ H h):Q b H:=q φ H List.prefix_rfl (Kp.refl H) rh
theorem HN {φ:List Addr} {H:Hp} {h:PH} {p:PV} {v:V} {Q:Bool->Hp->Prop} (rh:RH C φ H h) (rv:RV C φ H p v) (po:cF C φ H (tru p h) Q):∃ b,ME C.K v H b/\Q b H:=by
 unfold tru at po
 cases p with
 | non=>cases rv; exact ⟨_,rfl,po.val rh⟩
 | bl b=>cases rv; exact ⟨_,rfl,po.val rh⟩
 | int i=>cases rv; exact ⟨_,rfl,po.val rh⟩
 | str y=>cases rv; exact ⟨_,⟨po.ite.1,rfl⟩,po.ite.2.val rh⟩
 | tup xs=>
  obtain ⟨a,vs,rfl,sa,ra⟩:=rv
  exact ⟨_,.inr (.inl ⟨vs,sa,rfl⟩),by rw [ra.isEmpty]; exact po.val rh⟩
 | ref n=>
  obtain ⟨a,rfl,ha⟩:=rv
  dsimp only at po
  cases e:aS h n with
  | some xs=>
   rw [e] at po
   obtain ⟨a2,vs,ha2,sa,ra⟩:=cH rh e
   rw [ha] at ha2; cases ha2
   exact ⟨_,.inl ⟨vs,sa,rfl⟩,by rw [ra.isEmpty]; exact po.val rh⟩
  | none=>
   rw [e] at po
   dsimp only at po
   split at po
   ·rename_i kvs hk
    obtain ⟨ks,hH,rk⟩:=rh.at' n a _ ha hk
    refine ⟨_,.inr (.inr ⟨ks,hH,rfl⟩),?_⟩
    have:(!ks.isEmpty)=!kvs.isEmpty:=by cases rk <;> rfl
    rw [this]
    exact po.val rh
   ·exact po.elim
 | fl xs=>
  obtain ⟨a,vs,rfl,sa,ra⟩:=rv
  exact ⟨_,.inl ⟨vs,sa.sq,rfl⟩,by rw [ra.isEmpty]; exact po.val rh⟩
 | ty n=>exact po.elim
end L2
set_option Elab.async false
set_option linter.all false
set_option maxRecDepth 100000
namespace L2
open PySem PySem.Spec PyProof.Rows
variable {C:MC} {k:Nat} {X:Cx}
def bL (m:Me):Ev->PH->Rs Bool:=fun δ h=>(m δ h).bind tru
theorem K1 {m:Me} {σ:St} {H:Hp} {Q:Bool->Hp->Prop} (h:rdB C (bL m) σ H Q):rd C m σ H fun v H1=>∃ b,ME C.K v H1 b/\Q b H1:=by
 obtain ⟨φ,δ,h,rh,re,p⟩:=h
 refine ⟨φ,δ,h,rh,re,(post.bindB p).imp ?_⟩
 rintro v H1 ⟨φ1,x,h1,p1,t1,rh1,rv1,q1⟩
 exact HN rh1 rv1 q1
section
variable {a b e c':Expr} {ma mb mc m:Me} {g g':PV->PV->PH->Rs PV} {pos:Pos} {ta tb:Ev->PH->Rs Bool}
theorem AV (h:SE C k X e m) (he:∀ whole,isTrue e X.env whole=(do let v <- whole; standAt e.pos; holding [v] (truthy v)):=by intro _; rfl):ST C k X e (bL m):=fun c=>
 (Jj (h c) he).imp fun σ H Q q=>by rw [c.K]; exact K1 q
theorem cM {op:CmpOp} (ho:OpS C k X (compareOp op) g) (ha:SE C k X a ma) (hb:SE C k X b mb) (hm:behindInMarks op b=false:=by first | exact Jf _ | rfl):ST C k X (.Compare a [op] [b] pos) (bL (aD g ma mb)):=fun c=>by
 intro pins s σ H Q I h
 have h:=Ge (K1 h)
 refine wpAny_isTrue_Compare1 (thn (ha c pins s σ H _ I h) fun v s1 ⟨x,H1,I1,r1,q1⟩=>thn (hb c pins s1 σ H1 _ I1 q1) fun u s2 ⟨y,H2,I2,r2,q2⟩=>
  thn (ho c pins s2 σ H2 x y v u _ I2 r1 r2 q2) fun w s3 ⟨z,H3,I3,r3,q3⟩=>?_) hm
 rw [<- c.K] at q3
 exact Ji pins s3 σ H3 z w Q I3 r3 q3
def K2 (z:PV) (h:PH):Rs PV:=match z with
 | .bl b=>.ok (.bl b) h
 | _=>.bad
def Fb (g g':PV->PV->PH->Rs PV) (ma mb mc:Me):Me:=fun δ h=>(ma δ h).bind fun x h1=>(mb δ h1).bind fun y h2=>(g x y h2).bind fun z h3=>match z with
 | .bl true=>(mc δ h3).bind fun w h4=>(g' y w h4).bind K2
 | .bl false=>.ok (.bl false) h3
 | _=>.bad
theorem PN {σ:St} {H:Hp} {Q:VK} (h:rd C (Fb g g' ma mb mc) σ H Q):Jg (r2 C g) (r2 C g') (rd C ma) (rd C mb) (rd C mc) σ H fun v H1=>∃ b,v=.bl b/\Q v H1:=by
 obtain ⟨φ,δ,h,rh,re,p⟩:=h
 refine ⟨φ,δ,h,rh,re,(post.bind p).imp ?_⟩
 rintro v H1 ⟨φ1,x,h1,p1,t1,rh1,rv1,q1⟩
 refine ⟨φ1,δ,h1,rh1,re.mono p1 t1,(post.bind q1).imp ?_⟩
 rintro u H2 ⟨φ2,y,h2,p2,t2,rh2,rv2,q2⟩
 refine ⟨φ2,h2,x,y,rh2,rv1.mono p2 t2,rv2,(post.bind q2).imp ?_⟩
 rintro w H3 ⟨φ3,z,h3,p3,t3,rh3,rv3,q3⟩
 cases z with
 | bl b=>
  cases rv3
  refine ⟨b,rfl,?_⟩
  cases b with
  | false=>exact Hj ⟨false,rfl,q3.val rh3 rfl⟩
  | true=>
   refine Hk ⟨φ3,δ,h3,rh3,re.mono ((p1.trans p2).trans p3) ((t1.trans t2).trans t3),(post.bind q3).imp ?_⟩
   rintro w4 H4 ⟨φ4,z4,h4,p4,t4,rh4,rv4,q4⟩
   refine ⟨φ4,h4,y,z4,rh4,rv2.mono (p3.trans p4) (t3.trans t4),rv4,(post.bind q4).imp ?_⟩
   rintro w5 H5 ⟨φ5,z5,h5,p5,t5,rh5,rv5,q5⟩
   cases z5 with
   | bl b=>cases rv5; exact ⟨b,rfl,q5.val rh5 rfl⟩
   | _=>exact q5.elim
 | _=>exact q3.elim
theorem OF {op op':CmpOp} (ho:OpS C k X (compareOp op) g) (ho':OpS C k X (compareOp op') g') (ha:SE C k X a ma) (hb:SE C k X b mb) (hc:SE C k X c' mc) (hm:lastMarks [op,op'] [b,c']=false:=by with_unfolding_all rfl):
  SE C k X (.Compare a [op,op'] [b,c'] pos) (Fb g g' ma mb mc):=fun c=>by
 intro pins s σ H Q I h
 refine wpAny_mono (Jh (ho c) (ho' c) (ha c) (hb c) (hc c) hm pins s σ H _ I (PN h)) (fun v s1 ⟨x,H1,I1,r1,b,e,q⟩=>⟨x,H1,I1,r1,q⟩) fun _ _ z=>z
def Gh (t:Ev->PH->Rs Bool):Ev->PH->Rs Bool:=fun δ h=>(t δ h).bind fun b h1=>.ok (!b) h1
def eK (ta tb:Ev->PH->Rs Bool):Ev->PH->Rs Bool:=fun δ h=>(ta δ h).bind fun b h1=>match b with
 | true=>tb δ h1
 | false=>.ok false h1
def Dl (ta tb:Ev->PH->Rs Bool):Ev->PH->Rs Bool:=fun δ h=>(ta δ h).bind fun b h1=>match b with
 | true=>.ok true h1
 | false=>tb δ h1
theorem cF.imp {φ:List Addr} {H:Hp} {r:Rs Bool} {Q Q':Bool->Hp->Prop} (h:cF C φ H r Q) (i:∀ v H',Q v H'->Q' v H'):cF C φ H r Q':=by
 cases r with
 | ok a h'=>exact fun φ' H' p t rh=>i a H' (h φ' H' p t rh)
 | exc a h'=>exact h
 | bad=>exact h
theorem RG (h:ST C k X e ta):ST C k X (.UnaryOp .Not e pos) (Gh ta):=fun c=>(OZ (h c)).imp fun σ H Q q=>by
 obtain ⟨φ,δ,h,rh,re,p⟩:=q
 refine ⟨φ,δ,h,rh,re,(cF.bindB p).imp ?_⟩
 rintro b H1 ⟨φ1,h1,p1,t1,rh1,q1⟩
 exact q1.val rh1
def SW (C:MC) (k:Nat) (X:Cx) (e:Expr) (m:Ev->PH->Rs Bool):Prop:=Cxt C k X->PW X e (rdB C m)
theorem SW.t (h:SW C k X e ta):ST C k X e ta:=fun c=>(h c).pt
theorem PW.imp {t t':TT} (h:PW X e t) (i:∀ σ H Q,t' σ H Q->t σ H Q):PW X e t':=fun w pins s σ H Q I q=>h w pins s σ H Q I (i σ H Q q)
theorem lN (ha:ST C k X a ta):SW C k X (.BoolOp .And [a] pos) ta:=fun c=>Mu (ha c)
theorem OG (ha:ST C k X a ta):SW C k X (.BoolOp .Or [a] pos) ta:=fun c=>OX (ha c)
theorem w_and {rest:List Expr} (ha:ST C k X a ta) (hb:SW C k X (.BoolOp .And (b :: rest) pos) tb):SW C k X (.BoolOp .And (a :: b :: rest) pos) (eK ta tb):=fun c=>PW.imp (OY (ha c) (hb c)) fun σ H Q q=>by
 obtain ⟨φ,δ,h,rh,re,p⟩:=q
 refine ⟨φ,δ,h,rh,re,(cF.bindB p).imp ?_⟩
 rintro b H1 ⟨φ1,h1,p1,t1,rh1,q1⟩
 cases b with
 | true=>exact Hk ⟨φ1,δ,h1,rh1,re.mono p1 t1,q1⟩
 | false=>exact Hj (q1.val rh1)
theorem w_or {rest:List Expr} (ha:ST C k X a ta) (hb:SW C k X (.BoolOp .Or (b :: rest) pos) tb):SW C k X (.BoolOp .Or (a :: b :: rest) pos) (Dl ta tb):=fun c=>PW.imp (R4 (ha c) (hb c)) fun σ H Q q=>by
 obtain ⟨φ,δ,h,rh,re,p⟩:=q
 refine ⟨φ,δ,h,rh,re,(cF.bindB p).imp ?_⟩
 rintro b H1 ⟨φ1,h1,p1,t1,rh1,q1⟩
 cases b with
 | true=>exact Hk (q1.val rh1)
 | false=>exact Hj ⟨φ1,δ,h1,rh1,re.mono p1 t1,q1⟩
def Gi (ma mb:Me):Me:=fun δ h=>(ma δ h).bind fun x h1=>match x with
 | .bl true=>mb δ h1
 | .bl false=>.ok (.bl false) h1
 | _=>.bad
def Gj (ma:Me):Me:=fun δ h=>(ma δ h).bind fun x h1=>match x with
 | .bl b=>.ok (.bl (!b)) h1
 | _=>.bad
theorem RI {op} (h:SE C k X a ma):SE C k X (.BoolOp op [a] pos) ma:=fun c=>P0 (h c)
theorem RJ {rest:List Expr} (ha:SE C k X a ma) (hb:SE C k X (.BoolOp .And (b :: rest) pos) mb):SE C k X (.BoolOp .And (a :: b :: rest) pos) (Gi ma mb):=fun c=>(N0 (ha c) (hb c)).imp fun σ H Q q=>by
 obtain ⟨φ,δ,h,rh,re,p⟩:=q
 refine ⟨φ,δ,h,rh,re,(post.bind p).imp ?_⟩
 rintro v H1 ⟨φ1,x,h1,p1,t1,rh1,rv,q1⟩
 cases x with
 | bl b=>
  cases rv
  cases b with
  | true=>exact Hk ⟨φ1,δ,h1,rh1,re.mono p1 t1,q1⟩
  | false=>exact Hj (q1.val rh1 rfl)
 | _=>exact q1.elim
theorem RK (ha:SE C k X a ma):SE C k X (.UnaryOp .Not a pos) (Gj ma):=fun c=>(N1 (ha c)).imp fun σ H Q q=>by
 obtain ⟨φ,δ,h,rh,re,p⟩:=q
 refine ⟨φ,δ,h,rh,re,(post.bind p).imp ?_⟩
 rintro v H1 ⟨φ1,x,h1,p1,t1,rh1,rv,q1⟩
 cases x with
 | bl b=>cases rv; exact q1.val rh1 rfl
 | _=>exact q1.elim
end
theorem RVs.atI {φ:List Addr} {H:Hp} {xs:List PV} {vs:List V} {i:Int} {x:PV} (r:RVs C φ H xs vs) (e:L2.atI xs i=some x):∃ v,L2.atI vs i=some v/\RV C φ H x v:=by
 unfold L2.atI at e ⊢
 rw [<- r.length]
 cases q:ixN xs.length i with
 | none=>rw [q] at e; cases e
 | some j=>
  rw [q] at e
  exact r.at e
def ofO (o:Option PV) (h:PH):Rs PV:=match o with
 | some p=>.ok p h
 | none=>.bad
def vIx:PV->PV->PH->Rs PV:=fun x y h=>match x with
 | .str z=>(match y with
  | .int i=>if z.length<=sizeLine then ofO ((atI z.cps.toList i).map fun c=>.str ⟨#[c]⟩) h else .bad
  | _=>.bad)
 | .tup xs=>(match y with
  | .int i=>ofO (atI xs i) h
  | _=>.bad)
 | .fl xs=>(match y with
  | .int i=>ofO (atI xs i) h
  | _=>.bad)
 | .ref n=>(match aS h n with
  | some xs=>(match y with
   | .int i=>ofO (atI xs i) h
   | _=>.bad)
  | none=>(match HL h n y with
   | some o=>ofO o h
   | none=>.bad))
 | _=>.bad
theorem post.ofO {φ:List Addr} {H:Hp} {h:PH} {o:Option PV} {Q:VK} (q:post C φ H (ofO o h) Q):∃ p,o=some p/\post C φ H (.ok p h) Q:=by
 cases o with
 | none=>exact q.elim
 | some b=>exact ⟨b,rfl,q⟩
theorem RL {x y:V} {H:Hp} {Q:VK} (h:r2 C vIx x y H Q):Rv C.K x y H Q:=by
 obtain ⟨φ,h,p,q,rh,rx,ry,po⟩:=h
 unfold vIx at po
 cases p with
 | str z=>
  cases rx
  cases q with
  | int i=>
   cases ry
   obtain ⟨hz,po⟩:=po.ite
   obtain ⟨p,e,po⟩:=po.ofO
   cases e':atI z.cps.toList i with
   | none=>rw [e'] at e; cases e
   | some c=>rw [e'] at e; cases e; exact ⟨hz,c,e',po.val rh rfl⟩
  | _=>exact po.elim
 | tup xs=>
  obtain ⟨a,vs,rfl,sa,ra⟩:=rx
  cases q with
  | int i=>
   cases ry
   obtain ⟨p,e,po⟩:=po.ofO
   obtain ⟨v,hv,rv⟩:=ra.atI e
   exact .inl ⟨vs,i,v,rfl,.inr sa,hv,po.val rh rv⟩
  | _=>exact po.elim
 | fl xs=>
  obtain ⟨a,vs,rfl,sa,ra⟩:=rx
  cases q with
  | int i=>
   cases ry
   obtain ⟨p,e,po⟩:=po.ofO
   obtain ⟨v,hv,rv⟩:=ra.atI e
   exact .inl ⟨vs,i,v,rfl,.inl sa.sq,hv,po.val rh rv⟩
  | _=>exact po.elim
 | ref n=>
  obtain ⟨a,rfl,ha⟩:=rx
  dsimp only at po
  cases e:aS h n with
  | some xs=>
   rw [e] at po
   obtain ⟨a2,vs,ha2,sa,ra⟩:=cH rh e
   rw [ha] at ha2; cases ha2
   cases q with
   | int i=>
    cases ry
    obtain ⟨p,e,po⟩:=po.ofO
    obtain ⟨v,hv,rv⟩:=ra.atI e
    exact .inl ⟨vs,i,v,rfl,.inl sa,hv,po.val rh rv⟩
   | _=>exact po.elim
  | none=>
   rw [e] at po
   dsimp only at po
   cases e':HL h n q with
   | none=>rw [e'] at po; exact po.elim
   | some o=>
    rw [e'] at po
    obtain ⟨p,eo,po⟩:=po.ofO
    obtain ⟨o',g,_,hp⟩:=xO rh ha ry e'
    obtain ⟨w,rfl,rw'⟩:=hp p eo
    exact .inr ⟨w,g,po.val rh rw'⟩
 | _=>exact po.elim
theorem pC {prog:Program} {w:World} {A:Around} {E:Value->Shared->Prop} {s:Shared} {t sl:Addr} {items:Array Value} {vl vu:Value} {lo hi:Option Int} {Q:Value->Shared->Prop} (ht:IsTup s.heap t items) (hs:s.heap.IsSliceOf sl vl vu .none) (pl:IsPart vl lo) (pu:IsPart vu hi)
  (hw:HT.sIx items.size 0 lo=0/\HT.sIx items.size items.size hi=items.size) (h:Q (.ref t) s):wpAny (model prog w) A (getItem (.ref t) (.ref sl)) Q E s:=by
 obtain ⟨os,hos,hcs,hds⟩:=id hs
 have hTs:s.TypeIs (.ref sl) "slice" := ⟨os,hos,hcs⟩
 unfold getItem
 try with_reducible refine wpAny_holding ?_
 first | refine wpAny_bind (wpAny_pure ?_) | skip
 refine wpAny_bind (wpAny_sequenceKey ht.typeIs (by decide) ?_)
 refine wpAny_bind (wpAny_callSpecial?_slot (name:=Str.ofString "__getitem__") ht.typeIs PyProof.Rows.slot_tuple_getitem
  (wpAny_call_entry PyProof.Rows.slot_tuple_getitem ht.typeIs entry_tuple_getitem ?_ (args_tuple_getitem _ _)))
 show wpAny _ _ (Builtin.Tuple.tupleItemsOf (.ref t) >>= _) _ _ s
 refine wpAny_bind (tupleItemsOf_ ht ?_)
 refine wpAny_bind (wpAny_typeOf hTs ?_)
 rw [if_pos (by decide)]
 refine wpAny_bind (HT.sliceApplied_gen hs pl pu ?_)
 have hno:((((HT.sIx items.size 0 lo:Nat):Int) == 0 && (1:Int) == 1 && (HT.sIx items.size items.size hi - HT.sIx items.size 0 lo) == items.size)=true):=by
  rw [hw.1,hw.2]; simp
 show wpAny _ _ (if (((HT.sIx items.size 0 lo:Nat):Int) == 0 && (1:Int) == 1 && (HT.sIx items.size items.size hi - HT.sIx items.size 0 lo) == items.size)=true then _ else _) _ _ s
 rw [if_pos hno]
 refine wpAny_bind ?_
 unfold Builtin.Tuple.tupleIsExact
 refine wpAny_bind (wpAny_typeOf ht.typeIs (wpAny_pure ?_))
 rw [if_pos (by decide)]
 refine wpAny_bind (wpAny_rule ?_)
 exact wpAny_pure ⟨_,rfl,wpAny_pure h⟩
end L2
set_option Elab.async false
set_option linter.all false
set_option maxRecDepth 100000
namespace L2
open PySem PySem.Spec PyProof.Rows
variable {C:MC} {k:Nat} {X:Cx}
def nF {α:Type} (xs:List α) (lo hi:Option Int):List α:=(xs.drop (HT.sIx xs.length 0 lo)).take (HT.sIx xs.length xs.length hi - HT.sIx xs.length 0 lo)
theorem RVs.cut {φ:List Addr} {H:Hp} {xs:List PV} {vs:List V} (r:RVs C φ H xs vs) (lo hi:Option Int):RVs C φ H (nF xs lo hi) (CW vs lo hi):=by
 unfold nF CW
 rw [<- r.length]
 exact (r.drop _).take _
def vSl:PV->Option Int->Option Int->PH->Rs PV:=fun x lo hi h=>match x with
 | .str z=>if z.length<=sizeLine then .ok (.str (Txt.slice z lo hi)) h else .bad
 | .tup xs=>.ok (.tup (nF xs lo hi)) h
 | .ref n=>match aS h n with
  | some xs=>.ok (.ref h.length) (h++[.lst (nF xs lo hi)])
  | none=>.bad
 | .fl xs=>.ok (.ref h.length) (h++[.lst (nF xs lo hi)])
 | _=>.bad
def RM (K:PySem.W.Frag):V->Option Int->Option Int->Hp->VK->Prop:=fun x lo hi H Q=>∃ a xs,x=.ref a/\SqT K H a xs/\(HT.sIx xs.length 0 lo=0/\HT.sIx xs.length xs.length hi=xs.length)/\Q (.ref a) H
theorem K3:SlR X (RM X.K):=by
 intro pins s σ H x v vl vu lo hi sl Q I rx hs pl pu h
 obtain ⟨a,xs,rfl,hx,hw,q⟩:=h
 cases rx
 obtain ⟨its,r,ht,hz⟩:=I.tuple hx
 have hlen:its.toArray.size=xs.length:=by rw [List.size_toArray]; exact r.length.symm
 refine ⟨"tuple",_,PyProof.Rows.slot_tuple_getitem.lookup,ht.typeIs,?_⟩
 exact pC ht hs pl pu (by rw [hlen]; exact hw) ⟨.ref a,H,I,rfl,q⟩
theorem SlR.imp {r r':V->Option Int->Option Int->Hp->VK->Prop} (h:SlR X r) (i:∀ x lo hi H Q,r' x lo hi H Q->r x lo hi H Q):SlR X r':=fun pins s σ H x v vl vu lo hi sl Q I rx hs pl pu q=>h pins s σ H x v vl vu lo hi sl Q I rx hs pl pu (i x lo hi H Q q)
def r3 (C:MC) (g:PV->Option Int->Option Int->PH->Rs PV):V->Option Int->Option Int->Hp->VK->Prop:=fun x lo hi H Q=>∃ φ h p,RH C φ H h/\RV C φ H p x/\post C φ H (g p lo hi h) Q
theorem PP (hK:X.K=C.K):SlR X (r3 C vSl):=by
 have e:SlR X (fun x lo hi H Q=>Rt x lo hi H Q\/Ri C.K x lo hi H Q\/Rl C.K x lo hi H Q\/RM C.K x lo hi H Q):=by rw [<- hK]; exact Pr.or (Pi.or (MN.or K3))
 refine e.imp fun x lo hi H Q h=>?_
 obtain ⟨φ,h,p,rh,rv,po⟩:=h
 unfold vSl at po
 cases p with
 | str z=>cases rv; exact .inl ⟨z,rfl,po.ite.1,po.ite.2.val rh rfl⟩
 | tup xs=>
  obtain ⟨a,vs,rfl,sa,ra⟩:=rv
  by_cases hw:HT.sIx vs.length 0 lo=0/\HT.sIx vs.length vs.length hi=vs.length
  ·refine .inr (.inr (.inr ⟨a,vs,rfl,sa,hw,po.val rh ⟨a,vs,rfl,sa,?_⟩⟩))
   have e:nF xs lo hi=xs:=by
    unfold nF
    rw [ra.length,hw.1,hw.2,List.drop_zero,Nat.sub_zero,<- ra.length,List.take_length]
   rw [e]
   exact ra
  ·exact .inr (.inl ⟨a,vs,rfl,sa,hw,fun p hp=>po.tnew rh (ra.cut lo hi) hp⟩)
 | ref n=>
  obtain ⟨a,rfl,ha⟩:=rv
  dsimp only at po
  cases e:aS h n with
  | none=>rw [e] at po; exact po.elim
  | some xs=>
   rw [e] at po
   obtain ⟨a2,vs,ha2,sa,ra⟩:=cH rh e
   rw [ha] at ha2; cases ha2
   exact .inr (.inr (.inl ⟨a,vs,rfl,sa,fun p hp=>po.lnew rh (ra.cut lo hi) hp⟩))
 | fl xs=>
  obtain ⟨a,vs,rfl,sa,ra⟩:=rv
  exact .inr (.inr (.inl ⟨a,vs,rfl,sa.sq,fun p hp=>po.lnew rh (ra.cut lo hi) hp⟩))
 | _=>exact po.elim
abbrev Mo:=Ev->PH->Rs (Option Int)
def uT (C:MC) (φ:List Addr) (H:Hp) (r:Rs (Option Int)) (Q:Option Int->Hp->Prop):Prop:=match r with
 | .ok b h=>∀ φ' H',φ<+:φ'->Kp H H'->RH C φ' H' h->Q b H'
 | .exc x h=>∀ φ' H',φ<+:φ'->Kp H H'->RH C φ' H' h->C.ex φ' H' x
 | .bad=>False
def rdO (C:MC) (m:Mo):TO:=fun σ H Q=>∃ φ δ h,RH C φ H h/\RE C φ H δ σ/\uT C φ H (m δ h) Q
def SO (C:MC) (k:Nat) (X:Cx) (e:Option Expr) (m:Mo):Prop:=Cxt C k X->PO X e (rdO C m)
def A1:Mo:=fun _ h=>.ok none h
def mP (m:Me):Mo:=fun δ h=>(m δ h).bind fun x h1=>match x with
 | .int i=>.ok (some i) h1
 | _=>.bad
theorem BN:SO C k X none A1:=fun c pins s σ H Q I h=>by
 obtain ⟨φ,δ,h,rh,re,p⟩:=h
 exact MK pins s σ H Q I (p φ H List.prefix_rfl (Kp.refl H) rh)
theorem nG {e:Expr} {m:Me} (h:SE C k X e m):SO C k X (some e) (mP m):=fun c pins s σ H Q I q=>by
 refine JD (h c) pins s σ H Q I ?_
 obtain ⟨φ,δ,h,rh,re,p⟩:=q
 refine ⟨φ,δ,h,rh,re,?_⟩
 unfold mP at p
 cases e':m δ h with
 | ok x h1=>
  rw [e'] at p
  intro φ' v H' p' t' rh' rv'
  cases x with
  | int i=>cases rv'; exact p φ' H' p' t' rh'
  | _=>exact p.elim
 | exc x h1=>rw [e'] at p; exact p
 | bad=>rw [e'] at p; exact p
def mSl (me:Me) (ml mh:Mo):Me:=fun δ h=>(me δ h).bind fun x h1=>(ml δ h1).bind fun l h2=>(mh δ h2).bind fun u h3=>vSl x l u h3
theorem uT.bind {φ:List Addr} {H:Hp} {r:Rs (Option Int)} {f:Option Int->PH->Rs PV} {Q:VK} (h:post C φ H (r.bind f) Q):uT C φ H r fun b H1=>∃ φ1 h1,φ<+:φ1/\Kp H H1/\RH C φ1 H1 h1/\post C φ1 H1 (f b h1) Q:=by
 cases r with
 | ok a h'=>exact fun φ' H' p t rh=>⟨φ',h',p,t,rh,post.weak p t h⟩
 | exc a h'=>exact h
 | bad=>exact h
theorem uT.imp {φ:List Addr} {H:Hp} {r:Rs (Option Int)} {Q Q':Option Int->Hp->Prop} (h:uT C φ H r Q) (i:∀ v H',Q v H'->Q' v H'):uT C φ H r Q':=by
 cases r with
 | ok a h'=>exact fun φ' H' p t rh=>i a H' (h φ' H' p t rh)
 | exc a h'=>exact h
 | bad=>exact h
theorem HP {e:Expr} {lo hi:Option Expr} {me:Me} {ml mh:Mo} {p2 pos:Pos} (he:SE C k X e me) (hl:SO C k X lo ml) (hh:SO C k X hi mh):SE C k X (.Subscript e (.Slice lo hi none p2) pos) (mSl me ml mh):=fun c=>
 (Jq (PP c.K) (he c) (hl c) (hh c)).imp fun σ H Q h=>by
  obtain ⟨φ,δ,h,rh,re,p⟩:=h
  refine ⟨φ,δ,h,rh,re,(post.bind p).imp ?_⟩
  rintro v H1 ⟨φ1,x,h1,p1,t1,rh1,rv1,q1⟩
  refine ⟨φ1,δ,h1,rh1,re.mono p1 t1,(uT.bind q1).imp ?_⟩
  rintro l H2 ⟨φ2,h2,p2,t2,rh2,q2⟩
  refine ⟨φ2,δ,h2,rh2,re.mono (p1.trans p2) (t1.trans t2),(uT.bind q2).imp ?_⟩
  rintro u H3 ⟨φ3,h3,p3,t3,rh3,q3⟩
  exact ⟨φ3,h3,x,rh3,rv1.mono (p2.trans p3) (t2.trans t3),q3⟩
abbrev Ma:=Ev->PH->Rs (List PV)
def aH:Ma:=fun _ h=>.ok [] h
def aB (m:Me) (ms:Ma):Ma:=fun δ h=>(m δ h).bind fun x h1=>(ms δ h1).bind fun xs h2=>.ok (x :: xs) h2
theorem PA.imp {es:List Expr} {t t':TA} (h:PA X es t) (i:∀ σ H Q,t' σ H Q->t σ H Q):PA X es t':=fun pos pins s σ H Q I q=>h pos pins s σ H Q I (i σ H Q q)
theorem aI:SA C k X [] aH:=fun c=>Bs.imp fun σ H Q h=>by
 obtain ⟨φ,δ,h,rh,re,p⟩:=h
 exact p φ [] H List.prefix_rfl (Kp.refl H) rh trivial
theorem postA.imp {φ:List Addr} {H:Hp} {r:Rs (List PV)} {Q Q':List V->Hp->Prop} (h:postA C φ H r Q) (i:∀ v H',Q v H'->Q' v H'):postA C φ H r Q':=by
 cases r with
 | ok a h'=>exact fun φ' v H' p t rh rv=>i v H' (h φ' v H' p t rh rv)
 | exc a h'=>exact h
 | bad=>exact h
theorem aC {e:Expr} {es:List Expr} {m:Me} {ms:Ma} (he:SE C k X e m) (hs:SA C k X es ms) (hh:starEach (e :: es) X.env=(false,eval e X.env) :: starEach es X.env:=by rfl):SA C k X (e :: es) (aB m ms):=fun c=>(vN (he c) (hs c) hh).imp fun σ H Q h=>by
 obtain ⟨φ,δ,h,rh,re,p⟩:=h
 refine ⟨φ,δ,h,rh,re,(post.bindA p).imp ?_⟩
 rintro v H1 ⟨φ1,x,h1,p1,t1,rh1,rv1,q1⟩
 refine ⟨φ1,δ,h1,rh1,re.mono p1 t1,(postA.bindA q1).imp ?_⟩
 rintro vs H2 ⟨φ2,xs,h2,p2,t2,rh2,rv2,q2⟩
 exact q2 φ2 (v :: vs) H2 List.prefix_rfl (Kp.refl H2) rh2 ⟨rv1.mono p2 t2,rv2⟩
def bV (ms:Ma):Me:=fun δ h=>(ms δ h).bind fun xs h1=>if xs.length<=sizeLine then .ok (.tup xs) h1 else .bad
def iP (ms:Ma):Me:=fun δ h=>(ms δ h).bind fun xs h1=>if xs.length<=sizeLine then .ok (.ref h1.length) (h1++[.lst xs]) else .bad
theorem cA {es:List Expr} {ms:Ma} {x1} {pos:Pos} (hs:SA C k X es ms):SE C k X (.Tuple es x1 pos) (bV ms):=fun c=>(Pf (hs c)).imp fun σ H Q h=>by
 obtain ⟨φ,δ,h,rh,re,p⟩:=h
 refine ⟨φ,δ,h,rh,re,(postA.bind p).imp ?_⟩
 rintro vs H1 ⟨φ1,xs,h1,p1,t1,rh1,rv1,q1⟩
 exact ⟨by rw [<- rv1.length]; exact q1.ite.1,fun p hp=>q1.ite.2.tnew rh1 rv1 hp⟩
theorem gI {es:List Expr} {ms:Ma} {pos:Pos} (hs:SA C k X es ms):SE C k X (.List es pos) (iP ms):=fun c=>(Pg (hs c)).imp fun σ H Q h=>by
 obtain ⟨φ,δ,h,rh,re,p⟩:=h
 refine ⟨φ,δ,h,rh,re,(postA.bind p).imp ?_⟩
 rintro vs H1 ⟨φ1,xs,h1,p1,t1,rh1,rv1,q1⟩
 exact ⟨by rw [<- rv1.length]; exact q1.ite.1,fun p hp=>q1.ite.2.lnew rh1 rv1 hp⟩
def BO:Me:=fun _ h=>.ok (.ref h.length) (h++[.dK []])
theorem Gk {pos:Pos}:SE C k X (.Dict [] [] pos) BO:=fun c=>Jz.imp fun σ H Q h=>by
 obtain ⟨φ,δ,h,rh,re,p⟩:=h
 intro a ha
 exact p (φ++[a]) (.ref a) _ (List.prefix_append _ _) (Kp.new ha) (rh.new ha ⟨[],bK,.nil⟩) ⟨a,rfl,by rw [<- rh.len]; simp⟩
def mCB (g:List PV->PH->Rs PV) (ms:Ma):Me:=fun δ h=>(ms δ h).bind g
theorem OH {g:List PV->PH->Rs PV} {ms:Ma} {σ:St} {H:Hp} {Q:VK} (h:rd C (mCB g ms) σ H Q):tCB (rL C g) (rdA C ms) σ H Q:=by
 obtain ⟨φ,δ,h,rh,re,p⟩:=h
 refine ⟨φ,δ,h,rh,re,(postA.bind p).imp ?_⟩
 rintro vs H1 ⟨φ1,xs,h1,p1,t1,rh1,rv1,q1⟩
 exact ⟨φ1,h1,xs,rh1,rv1,q1⟩
section
variable {x:Str} {p pos:Pos} {e:Expr} {es:List Expr} {ms:Ma} {id T:String} {g:List PV->PH->Rs PV}
theorem fY (hc:nD C k X (.builtin id) g) (hv:bootBuiltins x=some (.builtin id)) (ha:SA C k X (e :: es) ms) (hb:x∈C.bs:=by decide) (hg:Gl X x:=by rfl) (hn:x≠"__name__" := by decide) (hdb:(x == ("__debug__" : Str))=false:=by decide)
  (he:starEach (e :: es) X.env=(false,eval e X.env) :: starEach es X.env:=by rfl) (hpl:(backTo pos (starEach es X.env)).any (·.1)=false:=by rfl):SE C k X (.Call (.Name x p) (e :: es) [] pos) (mCB g ms):=fun c=>
 (CV (hc c) hg (c.bn x hb) hv (ha c) hn hdb he hpl).imp fun σ H Q h=>OH h
theorem qX (hc:nD C k X (.type T) g) (hv:bootBuiltins x=some (.type T)) (ha:SA C k X (e :: es) ms) (hb:x∈C.bs:=by decide) (hg:Gl X x:=by rfl) (hn:x≠"__name__" := by decide) (hdb:(x == ("__debug__" : Str))=false:=by decide)
  (he:starEach (e :: es) X.env=(false,eval e X.env) :: starEach es X.env:=by rfl) (hpl:(backTo pos (starEach es X.env)).any (·.1)=false:=by rfl):SE C k X (.Call (.Name x p) (e :: es) [] pos) (mCB g ms):=fun c=>
 (AE (hc c) hg (c.bn x hb) hv (ha c) hn hdb he hpl).imp fun σ H Q h=>OH h
def spM (C:MC) (n:Nat) (f:Fn):Sp:=fun vs H Q _=>∃ φ h ps,RH C φ H h/\RVs C φ H ps vs/\ps.length=n/\post C φ H (f ps h) Q
def cB (n:Nat) (f:Fn) (ms:Ma):Me:=fun δ h=>(ms δ h).bind fun ps h1=>if ps.length=n then f ps h1 else .bad
theorem s_call {st:Stmt} {a:Addr} {fd:FuncData} {ps:List Str} {j n:Nat} {f:Fn} (D:Def C.K X.mg x st a fd ps) (G:aM X.prog X.w C.K X.mg X.base CX0 j a fd ps (spM C n f)) (ha:SA C k X (e :: es) ms) (hj:j<=k:=by decide)
  (hg:Gl X x:=by rfl) (hdb:(x == ("__debug__" : Str))=false:=by decide) (he:starEach (e :: es) X.env=(false,eval e X.env) :: starEach es X.env:=by rfl) (hpl:(backTo pos (starEach es X.env)).any (·.1)=false:=by rfl):
  SE C k X (.Call (.Name x p) (e :: es) [] pos) (cB n f ms):=fun c=>by
 have e1:=c.K
 have D':Def X.K X.mg x st a fd ps:=by rw [e1]; exact D
 have G':aM X.prog X.w X.K X.mg X.base CX0 j a fd ps (spM C n f):=by rw [e1]; exact G
 refine (Rz D' G' (c.room.mono hj) (ha c) hg hdb he hpl).imp fun σ H Q h=>?_
 obtain ⟨φ,δ,h,rh,re,p⟩:=h
 refine ⟨φ,δ,h,rh,re,(postA.bind p).imp ?_⟩
 rintro vs H1 ⟨φ1,xs,h1,p1,t1,rh1,rv1,q1⟩
 refine ⟨φ1,h1,xs,rh1,by rw [List.append_nil]; exact rv1,q1.ite.1,q1.ite.2⟩
end
def qY:List PV->PH->Rs PV:=fun xs h=>match xs with
 | [.str y]=>if y.length<=sizeLine then .ok (.int y.length) h else .bad
 | [.tup ys]=>.ok (.int ys.length) h
 | [.fl ys]=>.ok (.int ys.length) h
 | [.ref n]=>match aS h n with
  | some ys=>.ok (.int ys.length) h
  | none=>match h[n]? with
   | some (.dK kvs)=>.ok (.int kvs.length) h
   | _=>.bad
 | _=>.bad
theorem RVs.one {φ:List Addr} {H:Hp} {x:PV} {vs:List V} (r:RVs C φ H [x] vs):∃ v,vs=[v]/\RV C φ H x v:=by
 match vs,r with
 | [v],⟨h,_⟩=>exact ⟨v,rfl,h⟩
 | [],h=>exact h.elim
 | _ :: _ :: _,⟨_,h⟩=>exact h.elim
theorem RVs.two {φ:List Addr} {H:Hp} {x y:PV} {vs:List V} (r:RVs C φ H [x,y] vs):∃ v w,vs=[v,w]/\RV C φ H x v/\RV C φ H y w:=by
 match vs,r with
 | [v,w],⟨h,h',_⟩=>exact ⟨v,w,rfl,h,h'⟩
 | [],h=>exact h.elim
 | [_],⟨_,h⟩=>exact h.elim
 | _ :: _ :: _ :: _,⟨_,_,h⟩=>exact h.elim
theorem AW:nD C k X (.builtin "len") qY:=fun c=>(Hr C.K c.K).imp fun vs H Q h=>by
 obtain ⟨φ,h,ps,rh,rv,po⟩:=h
 unfold qY at po
 split at po
 ·obtain ⟨v,rfl,rx⟩:=rv.one
  cases rx
  exact ⟨po.ite.1,po.ite.2.val rh rfl⟩
 ·obtain ⟨v,rfl,rx⟩:=rv.one
  obtain ⟨a,vs,rfl,sa,ra⟩:=rx
  exact .inl ⟨vs,.inr sa,by rw [<- ra.length]; exact po.val rh rfl⟩
 ·obtain ⟨v,rfl,rx⟩:=rv.one
  obtain ⟨a,vs,rfl,sa,ra⟩:=rx
  exact .inl ⟨vs,.inl sa.sq,by rw [<- ra.length]; exact po.val rh rfl⟩
 ·rename_i n
  obtain ⟨v,rfl,rx⟩:=rv.one
  obtain ⟨a,rfl,ha⟩:=rx
  split at po
  ·rename_i ys e
   obtain ⟨a2,vs,ha2,sa,ra⟩:=cH rh e
   rw [ha] at ha2; cases ha2
   exact .inl ⟨vs,.inl sa,by rw [<- ra.length]; exact po.val rh rfl⟩
  ·split at po
   ·rename_i kvs hk
    obtain ⟨ks,hH,rk⟩:=rh.at' n a _ ha hk
    refine .inr ⟨ks,hH,?_⟩
    have:ks.length=kvs.length:=(Paired.length rk).symm
    rw [this]
    exact po.val rh rfl
   ·exact po.elim
 ·exact po.elim
def tT:List PV->PH->Rs PV:=fun xs h=>match xs with
 | [.tup ys]=>.ok (.tup ys) h
 | [.fl ys]=>.ok (.tup ys) h
 | [.ref n]=>match aS h n with
  | some ys=>.ok (.tup ys) h
  | none=>.bad
 | _=>.bad
theorem N':nD C k X (.type "tuple") tT:=fun c=>(D3 C.K c.K).imp fun vs H Q h=>by
 obtain ⟨φ,h,ps,rh,rv,po⟩:=h
 unfold tT at po
 split at po
 ·obtain ⟨v,rfl,rx⟩:=rv.one
  obtain ⟨a,vs,rfl,sa,ra⟩:=rx
  exact ⟨a,vs,rfl,.inr ⟨sa,po.val rh ⟨a,vs,rfl,sa,ra⟩⟩⟩
 ·obtain ⟨v,rfl,rx⟩:=rv.one
  obtain ⟨a,vs,rfl,sa,ra⟩:=rx
  exact ⟨a,vs,rfl,.inl ⟨sa.sq,fun p hp=>po.tnew rh ra hp⟩⟩
 ·rename_i n
  obtain ⟨v,rfl,rx⟩:=rv.one
  obtain ⟨a,rfl,ha⟩:=rx
  split at po
  ·rename_i ys e
   obtain ⟨a2,vs,ha2,sa,ra⟩:=cH rh e
   rw [ha] at ha2; cases ha2
   exact ⟨a,vs,rfl,.inl ⟨sa,fun p hp=>po.tnew rh ra hp⟩⟩
  ·exact po.elim
 ·exact po.elim
def Gm:List PV->PH->Rs PV:=fun xs h=>match xs with
 | [.tup ys]=>.ok (.ref h.length) (h++[.lst ys])
 | [.fl ys]=>.ok (.ref h.length) (h++[.lst ys])
 | [.ref n]=>match aS h n with
  | some ys=>.ok (.ref h.length) (h++[.lst ys])
  | none=>.bad
 | _=>.bad
theorem PQ:nD C k X (.type "list") Gm:=fun c=>(EU C.K c.K).imp fun vs H Q h=>by
 obtain ⟨φ,h,ps,rh,rv,po⟩:=h
 unfold Gm at po
 split at po
 ·obtain ⟨v,rfl,rx⟩:=rv.one
  obtain ⟨a,vs,rfl,sa,ra⟩:=rx
  exact ⟨a,vs,rfl,.inr sa,fun p hp=>po.lnew rh ra hp⟩
 ·obtain ⟨v,rfl,rx⟩:=rv.one
  obtain ⟨a,vs,rfl,sa,ra⟩:=rx
  exact ⟨a,vs,rfl,.inl sa.sq,fun p hp=>po.lnew rh ra hp⟩
 ·rename_i n
  obtain ⟨v,rfl,rx⟩:=rv.one
  obtain ⟨a,rfl,ha⟩:=rx
  split at po
  ·rename_i ys e
   obtain ⟨a2,vs,ha2,sa,ra⟩:=cH rh e
   rw [ha] at ha2; cases ha2
   exact ⟨a,vs,rfl,.inl sa,fun p hp=>po.lnew rh ra hp⟩
  ·exact po.elim
 ·exact po.elim
def RN:List PV->PH->Rs PV:=fun xs h=>match xs with
 | [.int i,.int j]=>.ok (.int (if j > i then j else i)) h
 | _=>.bad
end L2
set_option Elab.async false
set_option linter.all false
set_option maxRecDepth 100000
namespace L2
open PySem PySem.Spec PyProof.Rows
variable {C:MC} {k:Nat} {X:Cx}
def Rs.fl {α:Type} (r:Rs α) (f:α->PH->Fl):Fl:=match r with
 | .ok a h=>f a h
 | .exc x h=>.exc x h
 | .bad=>.bad
@[simp] theorem Rs.fl_ok {α:Type} (a:α) (h:PH) (f:α->PH->Fl):(Rs.ok a h).fl f=f a h:=(rfl)
@[simp] theorem Rs.fl_exc {α:Type} (x:PX) (h:PH) (f:α->PH->Fl):(Rs.exc x h:Rs α).fl f=.exc x h:=(rfl)
@[simp] theorem Rs.fl_bad {α:Type} (f:α->PH->Fl):(Rs.bad:Rs α).fl f=.bad:=(rfl)
section
variable {φ:List Addr} {H:Hp}
theorem post.fl {r:Rs PV} {f:PV->PH->Fl} {D:Ends} (h:cK C φ H (r.fl f) D):post C φ H r fun v H1=>∃ φ1 p h1,φ<+:φ1/\Kp H H1/\RH C φ1 H1 h1/\RV C φ1 H1 p v/\cK C φ1 H1 (f p h1) D:=by
 cases r with
 | ok a h'=>exact fun φ' v H' p t rh rv=>⟨φ',a,h',p,t,rh,rv,cK.weak p t h⟩
 | exc a h'=>exact h
 | bad=>exact h
theorem cF.fl {r:Rs Bool} {f:Bool->PH->Fl} {D:Ends} (h:cK C φ H (r.fl f) D):cF C φ H r fun b H1=>∃ φ1 h1,φ<+:φ1/\Kp H H1/\RH C φ1 H1 h1/\cK C φ1 H1 (f b h1) D:=by
 cases r with
 | ok a h'=>exact fun φ' H' p t rh=>⟨φ',h',p,t,rh,cK.weak p t h⟩
 | exc a h'=>exact h
 | bad=>exact h
theorem cK.nx {δ:Ev} {h:PH} {D:Ends} {σ:St} (q:cK C φ H (.nx δ h) D) (rh:RH C φ H h) (re:RE C φ H δ σ):D.nx σ H:=q φ σ H List.prefix_rfl (Kp.refl H) rh re
theorem cK.rt {p:PV} {h:PH} {D:Ends} {v:V} (q:cK C φ H (.rt p h) D) (rh:RH C φ H h) (rv:RV C φ H p v):D.rt v H:=q φ v H List.prefix_rfl (Kp.refl H) rh rv
end
abbrev Mg:=PV->Ev->Option Ev
abbrev Mgs:=List PV->Ev->Option Ev
def rdG (C:MC) (t:Mg):TG:=fun v σ H Q=>∃ φ δ h p δ',RH C φ H h/\RE C φ H δ σ/\RV C φ H p v/\t p δ=some δ'/\∀ σ',RE C φ H δ' σ'->Q σ' H
def U7 (C:MC) (t:Mgs):TGs:=fun vs σ H Q=>∃ φ δ h ps δ',RH C φ H h/\RE C φ H δ σ/\RVs C φ H ps vs/\t ps δ=some δ'/\∀ σ',RE C φ H δ' σ'->Q σ' H
def SG (C:MC) (k:Nat) (X:Cx) (e:Expr) (t:Mg):Prop:=Cxt C k X->PG X e (rdG C t)
def SGs (C:MC) (k:Nat) (X:Cx) (es:List Expr) (t:Mgs):Prop:=Cxt C k X->PGs X es (U7 C t)
def gN (i:Nat):Mg:=fun p δ=>some (δ.set i (some p))
def gNl:Mgs:=fun ps δ=>match ps with
 | []=>some δ
 | _ :: _=>none
def gCn (t:Mg) (u:Mgs):Mgs:=fun ps δ=>match ps with
 | p :: r=>(t p δ).bind (u r)
 | []=>none
def gTp (n:Nat) (u:Mgs):Mg:=fun p δ=>match p with
 | .tup ps=>if ps.length=n then u ps δ else none
 | _=>none
theorem PG.imp {e:Expr} {t t':TG} (h:PG X e t) (i:∀ v σ H Q,t' v σ H Q->t v σ H Q):PG X e t':=fun pins s σ H v u Q I r q=>h pins s σ H v u Q I r (i v σ H Q q)
theorem PGs.imp {es:List Expr} {t t':TGs} (h:PGs X es t) (i:∀ v σ H Q,t' v σ H Q->t v σ H Q):PGs X es t':=fun pins s σ H v u Q I r q=>h pins s σ H v u Q I r (i v σ H Q q)
theorem aO {i:Nat} {x:Str} {pos:Pos} (hN:X.N.Nodup) (hi:X.N[i]?=some x:=by rfl) (hx:Loc X.env.scope x:=by first | exact Or.inl rfl | exact Or.inr rfl) (hf:X.fn x=true\/X.env.scope.names.lookup x=some .local:=by first | exact .inl rfl | exact .inr rfl):SG C k X (.Name x pos) (gN i):=fun c=>
 (My hN hi hx hf).imp fun v σ H Q h=>by
  obtain ⟨φ,δ,h,p,δ',rh,re,rv,e,q⟩:=h
  cases e
  exact q _ (re.set rv i)
theorem nH:SGs C k X [] gNl:=fun c=>Mz.imp fun v σ H Q h=>by
 obtain ⟨φ,δ,h,ps,δ',rh,re,rv,e,q⟩:=h
 cases ps with
 | nil=>
  cases e
  cases v with
  | nil=>exact ⟨rfl,q σ re⟩
  | cons=>exact rv.elim
 | cons=>cases e
theorem bE {e:Expr} {es:List Expr} {t:Mg} {u:Mgs} (h1:SG C k X e t) (h2:SGs C k X es u) (hs:(assignEach (e :: es) X.env).map (·.2)=assign e X.env :: (assignEach es X.env).map (·.2):=by rfl):SGs C k X (e :: es) (gCn t u):=fun c=>
 (Jb (h1 c) (h2 c) hs).imp fun vs σ H Q h=>by
  obtain ⟨φ,δ,h,ps,δ',rh,re,rv,e,q⟩:=h
  cases ps with
  | nil=>cases e
  | cons p r=>
   cases vs with
   | nil=>exact rv.elim
   | cons v vs=>
    obtain ⟨δ1,e1,e2⟩:=Option.bind_eq_some_iff.mp (show (t p δ).bind (u r)=some δ' from e)
    exact ⟨v,vs,rfl,φ,δ,h,p,δ1,rh,re,rv.1,e1,fun σ' re'=>⟨φ,δ1,h,r,δ',rh,re',rv.2,e2,q⟩⟩
theorem nI {es:List Expr} {j:Nat} {u:Mgs} {n:Nat} {pos:Pos} (h:SGs C k X es u) (hn:(assignEach es X.env).length=n:=by rfl) (hst:(assignEach es X.env).findIdx? (·.1)=none:=by rfl):SG C k X (.Tuple es j pos) (gTp n u):=fun c=>
 (gT C.K c.K c.calm (h c) hn hst).imp fun v σ H Q h=>by
  obtain ⟨φ,δ,h,p,δ',rh,re,rv,e,q⟩:=h
  cases p with
  | tup ps=>
   obtain ⟨a,vs,rfl,sa,ra⟩:=rv
   by_cases hl:ps.length=n
   ·have e':u ps δ=some δ':=by
     have:(if ps.length=n then u ps δ else none)=some δ':=e
     rw [if_pos hl] at this
     exact this
    exact ⟨a,vs,rfl,sa,by rw [<- ra.length]; exact hl,φ,δ,h,ps,δ',rh,re,ra,e',q⟩
   ·have:(if ps.length=n then u ps δ else none)=some δ':=e
    rw [if_neg hl] at this
    cases this
  | _=>cases e
theorem PS.imp {st:Stmt} {t t':TS} (h:PS X st t) (i:∀ D σ H,t' D σ H->t D σ H):PS X st t':=fun pins s σ H D I q=>h pins s σ H D I (i D σ H q)
theorem PSs.imp {st:List Stmt} {t t':TS} (h:PSs X st t) (i:∀ D σ H,t' D σ H->t D σ H):PSs X st t':=fun pins s σ H D I q=>h pins s σ H D I (i D σ H q)
def aQ (a b:Ms):Ms:=fun δ h=>match a δ h with
 | .nx δ1 h1=>b δ1 h1
 | r=>r
def jF:Ms:=fun δ h=>.nx δ h
def U8:Ms:=fun δ h=>.bk δ h
def U9:Ms:=fun δ h=>.ct δ h
def bI (i:Nat) (m:Me):Ms:=fun δ h=>(m δ h).fl fun p h1=>.nx (δ.set i (some p)) h1
def Fc (m:Me) (t:Mg):Ms:=fun δ h=>(m δ h).fl fun p h1=>match t p δ with
 | some δ'=>.nx δ' h1
 | none=>.bad
def hW (m:Me):Ms:=fun δ h=>(m δ h).fl fun _ h1=>.nx δ h1
def eZ (m:Me):Ms:=fun δ h=>(m δ h).fl fun p h1=>.rt p h1
def RP:Ms:=fun _ h=>.rt .non h
def gK (t:Ev->PH->Rs Bool) (a b:Ms):Ms:=fun δ h=>(t δ h).fl fun c h1=>match c with
 | true=>a δ h1
 | false=>b δ h1
section
variable {st:Stmt} {rest:List Stmt} {a b:Ms} {e:Expr} {m:Me} {pos:Pos}
theorem eO:SSs C k X [] jF:=fun c=>Mv.imp fun D σ H h=>by
 obtain ⟨φ,δ,h,rh,re,p⟩:=h
 exact p.nx rh re
theorem PR {φ:List Addr} {H:Hp} {r:Fl} {b:Ms} {D:Ends} (h:cK C φ H (match r with | .nx δ1 h1=>b δ1 h1 | r=>r) D):cK C φ H r { D with nx:=rdS C b D }:=by
 cases r with
 | nx δ h'=>exact fun φ' σ H' p t rh re=>⟨φ',δ,h',rh,re,cK.weak p t h⟩
 | rt p h'=>exact h
 | bk δ h'=>exact h
 | ct δ h'=>exact h
 | exc x h'=>exact h
 | bad=>exact h
theorem aG (h1:SSt C k X st a) (h2:SSs C k X rest b):SSs C k X (st :: rest) (aQ a b):=fun c=>(J' (h1 c) (h2 c)).imp fun D σ H h=>by
 obtain ⟨φ,δ,h,rh,re,p⟩:=h
 exact ⟨φ,δ,h,rh,re,PR p⟩
theorem aK (h1:SSt C k X st a):SSs C k X [st] a:=fun c=>Mw (h1 c)
theorem bF {i:Nat} {x:Str} {pos':Pos} (hN:X.N.Nodup) (he:SE C k X e m) (hi:X.N[i]?=some x:=by rfl) (hx:Loc X.env.scope x:=by first | exact Or.inl rfl | exact Or.inr rfl) (hs:swapsWith e (some (.Name x pos')) pos.line X.env=pure false:=by rfl)
  (hf:X.fn x=true\/X.env.scope.names.lookup x=some .local:=by first | exact .inl rfl | exact .inr rfl):SSt C k X (.Assign [.Name x pos'] e pos) (bI i m):=fun c=>(P5 hN hi hx (he c) hs hf).imp fun D σ H h=>by
 obtain ⟨φ,δ,h,rh,re,p⟩:=h
 refine ⟨φ,δ,h,rh,re,(post.fl p).imp ?_⟩
 rintro v H1 ⟨φ1,x,h1,p1,t1,rh1,rv1,q1⟩
 exact q1.nx rh1 ((re.mono p1 t1).set rv1 i)
theorem Gn {tg:Expr} {t:Mg} (he:SE C k X e m) (hg:SG C k X tg t) (hs:swapsWithSole [tg] e pos.line X.env=pure false:=by rfl) (hw:swappedStores [tg] e X.env=pure none:=by rfl)
  (h1:(assignEach [tg] X.env).map (·.2)=[assign tg X.env]:=by rfl):SSt C k X (.Assign [tg] e pos) (Fc m t):=fun c=>(P4 (he c) (hg c) hs hw h1).imp fun D σ H h=>by
 obtain ⟨φ,δ,h,rh,re,p⟩:=h
 refine ⟨φ,δ,h,rh,re,(post.fl p).imp ?_⟩
 rintro v H1 ⟨φ1,x,h1,p1,t1,rh1,rv1,q1⟩
 cases et:t x δ with
 | none=>rw [et] at q1; exact q1.elim
 | some δ'=>
  rw [et] at q1
  exact ⟨φ1,δ,h1,x,δ',rh1,re.mono p1 t1,rv1,et,fun σ' re'=>q1.nx rh1 re'⟩
theorem iQ (he:SE C k X e m) (hs:swapsWith e none pos.line X.env=pure false:=by rfl):SSt C k X (.Expr e pos) (hW m):=fun c=>(Mx (he c) hs).imp fun D σ H h=>by
 obtain ⟨φ,δ,h,rh,re,p⟩:=h
 refine ⟨φ,δ,h,rh,re,(post.fl p).imp ?_⟩
 rintro v H1 ⟨φ1,x,h1,p1,t1,rh1,rv1,q1⟩
 exact q1.nx rh1 (re.mono p1 t1)
theorem dA (he:SE C k X e m):SSt C k X (.Return (some e) pos) (eZ m):=fun c=>(P1 (he c)).imp fun D σ H h=>by
 obtain ⟨φ,δ,h,rh,re,p⟩:=h
 refine ⟨φ,δ,h,rh,re,(post.fl p).imp ?_⟩
 rintro v H1 ⟨φ1,x,h1,p1,t1,rh1,rv1,q1⟩
 exact q1.rt rh1 rv1
theorem nJ {cnd:Expr} {as bs:List Stmt} {t:Ev->PH->Rs Bool} (hc:ST C k X cnd t) (ha:SSs C k X as a) (hb:SSs C k X bs b):SSt C k X (.If cnd as bs pos) (gK t a b):=fun c=>(R7 (hc c) (ha c) (hb c)).imp fun D σ H h=>by
 obtain ⟨φ,δ,h,rh,re,p⟩:=h
 refine ⟨φ,δ,h,rh,re,(cF.fl p).imp ?_⟩
 rintro d H1 ⟨φ1,h1,p1,t1,rh1,q1⟩
 cases d with
 | true=>exact Hk ⟨φ1,δ,h1,rh1,re.mono p1 t1,q1⟩
 | false=>exact Hj ⟨φ1,δ,h1,rh1,re.mono p1 t1,q1⟩
end
structure Wk where
 xs:List PV
 g:PH->Bool
def HQ (C:MC) (J:It) (w:Wk) (φ0:List Addr) (H0:Hp):Prop:=∀ φ H h,φ0<+:φ->Kp H0 H->RH C φ H h->w.g h=true->∀ i:Nat,
 (i < w.xs.length->J.go i H/\∀ x H',J.yld i H x H'->(∃ p,w.xs[i]?=some p/\RV C φ H' p x)/\Kp H H'/\RH C φ H' h)/\(w.xs.length<=i->J.stop i H)
abbrev Mi:=Ev->PH->Rs Wk
def hZ (C:MC) (φ:List Addr) (H:Hp) (r:Rs Wk) (R:It->Hp->Prop):Prop:=match r with
 | .ok w h=>∀ φ' H' J,φ<+:φ'->Kp H H'->RH C φ' H' h->HQ C J w φ' H'->R J H'
 | .exc x h=>∀ φ' H',φ<+:φ'->Kp H H'->RH C φ' H' h->C.ex φ' H' x
 | .bad=>False
def rdI (C:MC) (m:Mi):TI:=fun σ H R=>∃ φ δ h,RH C φ H h/\RE C φ H δ σ/\hZ C φ H (m δ h) R
def SI (C:MC) (k:Nat) (X:Cx) (tg iter:Expr) (m:Mi):Prop:=Cxt C k X->PI X tg iter (rdI C m)
def A2 (n:Nat) (xs:List PV) (h':PH):Bool:=match aS h' n with
 | some ys=>PV.beqs ys xs
 | none=>false
def ofSeq (x:PV) (h:PH):Rs Wk:=match x with
 | .tup xs=>.ok ⟨xs,fun _=>true⟩ h
 | .ref n=>match aS h n with
  | some xs=>.ok ⟨xs,A2 n xs⟩ h
  | none=>.bad
 | .fl xs=>.ok ⟨xs,fun _=>true⟩ h
 | _=>.bad
def bB (m:Me):Mi:=fun δ h=>(m δ h).bind ofSeq
theorem eU {tg iter:Expr} {m:Me} (h:SE C k X iter m):SI C k X tg iter (bB m):=fun c=>by
 intro pins s σ H R I q
 obtain ⟨φ,δ,hh,rh,re,p⟩:=q
 have key:rd C m σ H fun v H1=>∃ φ1 x h1,φ<+:φ1/\Kp H H1/\RH C φ1 H1 h1/\RV C φ1 H1 x v/\hZ C φ1 H1 (ofSeq x h1) R:=by
  refine ⟨φ,δ,hh,rh,re,?_⟩
  unfold bB at p
  cases e:m δ hh with
  | ok x h1=>
   rw [e] at p
   intro φ' v H' p' t' rh' rv'
   refine ⟨φ',x,h1,p',t',rh',rv',?_⟩
   show hZ C φ' H' (ofSeq x h1) R
   have p0:hZ C φ H (ofSeq x h1) R:=p
   cases e2:ofSeq x h1 with
   | ok w h2=>rw [e2] at p0; exact fun φ2 H2 J p2 t2=>p0 φ2 H2 J (p'.trans p2) (t'.trans t2)
   | exc z h2=>rw [e2] at p0; exact fun φ2 H2 p2 t2=>p0 φ2 H2 (p'.trans p2) (t'.trans t2)
   | bad=>rw [e2] at p0; exact p0
  | exc x h1=>rw [e] at p; exact p
  | bad=>rw [e] at p; exact p
 refine thn (h c pins s σ H _ I key) fun v s1 hz=>?_
 obtain ⟨x,H1,I1,r1,φ1,x',h1,p1,t1,rh1,rv1,q1⟩:=hz
 unfold ofSeq at q1
 cases x' with
 | tup xs=>
  obtain ⟨a,vs,rfl,sa,ra⟩:=rv1
  cases r1
  rw [<- c.K] at sa
  obtain ⟨its,rv,p,hz⟩:=I1.tuple sa
  refine wpAny_pyIter_tuple (show s1.heap.IsTuple a its.toArray from p) ?_
  refine ⟨s1.heap.objs.size,[s1.heap.objs.size],_,_,H1,rfl,I1.kept (t':=s1.toks) fun b o e=>Heap.get?_push_of_some _ e,EA a _,⟨_,Heap.get?_push_size _ rfl,rfl,rfl⟩,fun b hb=>?_,?_⟩
  ·have e:b=s1.heap.objs.size:=by simpa using hb
   subst e
   exact I1.fpOk (Nat.le_refl _) (I1.hok.fresh (Nat.le_refl _))
  ·refine q1 φ1 H1 (Itt X.K a) List.prefix_rfl (Kp.refl H1) rh1 fun φ2 H2 h2 p2 t2 rh2 _ i=>⟨fun hi=>?_,fun hi=>⟨vs,t2.sq sa,by rw [<- ra.length]; exact hi⟩⟩
   have hi':i < vs.length:=by rw [<- ra.length]; exact hi
   refine ⟨⟨vs,vs[i],t2.sq sa,by simp [hi']⟩,fun x H' y=>?_⟩
   obtain ⟨e,y⟩:=y
   subst e
   obtain ⟨x2,e2,r2⟩:=ra.get (y vs (t2.sq sa))
   exact ⟨⟨x2,e2,r2.mono p2 t2⟩,Kp.refl _,rh2⟩
 | ref n=>
  obtain ⟨a,rfl,ha⟩:=rv1
  cases r1
  dsimp only at q1
  cases e:aS h1 n with
  | none=>rw [e] at q1; exact q1.elim
  | some xs=>
   rw [e] at q1
   obtain ⟨a2,vs,ha2,sa,ra⟩:=cH rh1 e
   rw [ha] at ha2; cases ha2
   have sa':SqL X.K H1 a vs:=by rw [c.K]; exact sa
   obtain ⟨its,rv,p,hz⟩:=I1.list sa'
   refine wpAny_pyIter_list p.isList ?_
   refine ⟨s1.heap.objs.size,[s1.heap.objs.size],_,_,H1,rfl,I1.kept (t':=s1.toks) fun b o e=>Heap.get?_push_of_some _ e,Az a _,⟨_,Heap.get?_push_size _ rfl,rfl,rfl⟩,fun b hb=>?_,?_⟩
   ·have e:b=s1.heap.objs.size:=by simpa using hb
    subst e
    exact I1.fpOk (Nat.le_refl _) (I1.hok.fresh (Nat.le_refl _))
   ·refine q1 φ1 H1 (Itl X.K a) List.prefix_rfl (Kp.refl H1) rh1 fun φ2 H2 h2 p2 t2 rh2 hg i=>?_
    have hg:(match aS h2 n with | some ys=>PV.beqs ys xs | none=>false)=true:=hg
    cases e2:aS h2 n with
    | none=>rw [e2] at hg; cases hg
    | some ys=>
     rw [e2] at hg
     have hxy:=PV.beqs_eq hg
     subst hxy
     obtain ⟨a3,us,ha3,su,ru⟩:=cH rh2 e2
     rw [oQ p2 ha] at ha3; cases ha3
     rw [<- c.K] at su
     refine ⟨fun hi=>?_,fun hi=>⟨us,su,by rw [<- ru.length]; exact hi⟩⟩
     have hi':i < us.length:=by rw [<- ru.length]; exact hi
     refine ⟨⟨us,us[i],su,by simp [hi']⟩,fun x H' y=>?_⟩
     obtain ⟨e,y⟩:=y
     subst e
     obtain ⟨x2,e2,r2⟩:=ru.get (y us su)
     exact ⟨⟨x2,e2,r2⟩,Kp.refl _,rh2⟩
 | fl xs=>
  obtain ⟨a,vs,rfl,sa,ra⟩:=rv1
  cases r1
  rw [<- c.K] at sa
  obtain ⟨its,rv,p,hz⟩:=I1.list sa.sq
  refine wpAny_pyIter_list p.isList ?_
  refine ⟨s1.heap.objs.size,[s1.heap.objs.size],_,_,H1,rfl,I1.kept (t':=s1.toks) fun b o e=>Heap.get?_push_of_some _ e,Az a _,⟨_,Heap.get?_push_size _ rfl,rfl,rfl⟩,fun b hb=>?_,?_⟩
  ·have e:b=s1.heap.objs.size:=by simpa using hb
   subst e
   exact I1.fpOk (Nat.le_refl _) (I1.hok.fresh (Nat.le_refl _))
  ·refine q1 φ1 H1 (Itl X.K a) List.prefix_rfl (Kp.refl H1) rh1 fun φ2 H2 h2 p2 t2 rh2 _ i=>⟨fun hi=>?_,fun hi=>⟨vs,(t2.sf sa).sq,by rw [<- ra.length]; exact hi⟩⟩
   have hi':i < vs.length:=by rw [<- ra.length]; exact hi
   refine ⟨⟨vs,vs[i],(t2.sf sa).sq,by simp [hi']⟩,fun x H' y=>?_⟩
   obtain ⟨e,y⟩:=y
   subst e
   obtain ⟨x2,e2,r2⟩:=ra.get (y vs (t2.sf sa).sq)
   exact ⟨⟨x2,e2,r2.mono p2 t2⟩,Kp.refl _,rh2⟩
 | _=>exact q1.elim
def upTo (lo:Int):Nat->List PV
 | 0=>[]
 | n+1=>.int lo :: upTo (lo+1) n
theorem gM:∀ (n:Nat) (lo:Int),(upTo lo n).length=n
 | 0,_=>rfl
 | n+1,lo=>by simp [upTo,gM n]
theorem xP:∀ (n:Nat) (lo:Int) (i:Nat),i < n->(upTo lo n)[i]?=some (.int (lo+i))
 | 0,_,_,h=>by omega
 | n+1,lo,0,_=>by simp [upTo]
 | n+1,lo,i+1,h=>by
  simp only [upTo,List.getElem?_cons_succ]
  rw [xP n (lo+1) i (by omega)]
  congr 2
  omega
open Classical in
noncomputable def K4:List PV->PH->Rs Wk:=fun xs h=>match xs with
 | [.int j]=>if -(2 ^ 62)<=j/\j < 2 ^ 62 then .ok ⟨upTo 0 j.toNat,fun _=>true⟩ h else .bad
 | _=>.bad
noncomputable def uU (ms:Ma):Mi:=fun δ h=>(ms δ h).bind K4
theorem PU (lo:Int) (n:Nat) (φ:List Addr) (H:Hp):HQ C (Itr lo n) ⟨upTo lo n,fun _=>true⟩ φ H:=fun φ2 H2 h2 p2 t2 rh2 _ i=>by
 refine ⟨fun hi=>?_,fun hi=>?_⟩
 ·have hi':i < n:=by rw [<- gM n lo]; exact hi
  refine ⟨hi',fun x H' y=>?_⟩
  obtain ⟨e,y⟩:=y
  subst e y
  exact ⟨⟨.int (lo+i),xP n lo i hi',rfl⟩,Kp.refl _,rh2⟩
 ·have:(upTo lo n).length<=i:=hi
  rw [gM] at this
  exact this
theorem postA.bindI {φ:List Addr} {H:Hp} {r:Rs (List PV)} {f:List PV->PH->Rs Wk} {R:It->Hp->Prop} (h:hZ C φ H (r.bind f) R):postA C φ H r fun vs H1=>∃ φ1 ps h1,φ<+:φ1/\Kp H H1/\RH C φ1 H1 h1/\RVs C φ1 H1 ps vs/\hZ C φ1 H1 (f ps h1) R:=by
 cases r with
 | ok a h'=>
  intro φ' v H' p' t' rh rv
  refine ⟨φ',a,h',p',t',rh,rv,?_⟩
  have p0:hZ C φ H (f a h') R:=h
  cases e2:f a h' with
  | ok w h2=>rw [e2] at p0; exact fun φ2 H2 J p2 t2=>p0 φ2 H2 J (p'.trans p2) (t'.trans t2)
  | exc z h2=>rw [e2] at p0; exact fun φ2 H2 p2 t2=>p0 φ2 H2 (p'.trans p2) (t'.trans t2)
  | bad=>rw [e2] at p0; exact p0
 | exc a h'=>exact h
 | bad=>exact h
theorem PI.imp {tg iter:Expr} {t t':TI} (h:PI X tg iter t) (i:∀ σ H R,t' σ H R->t σ H R):PI X tg iter t':=fun pins s σ H R I q=>h pins s σ H R I (i σ H R q)
theorem BP {x:Expr} {ms:Ma} {tg:Expr} {p pos:Pos} (ha:SA C k X [x] ms) (hb:("range" : Str)∈C.bs:=by decide) (hg:Gl X "range" := by rfl) (hs:starEach [x] X.env=[(false,eval x X.env)]:=by rfl):SI C k X tg (.Call (.Name "range" p) [x] [] pos) (uU ms):=fun c=>
 (pr1 hg (c.bn _ hb) (ha c) hs).imp fun σ H R h=>by
  obtain ⟨φ,δ,h,rh,re,p⟩:=h
  refine ⟨φ,δ,h,rh,re,(postA.bindI p).imp ?_⟩
  rintro vs H1 ⟨φ1,xs,h1,p1,t1,rh1,rv1,q1⟩
  unfold K4 at q1
  split at q1
  ·obtain ⟨v,rfl,rx⟩:=rv1.one
   cases rx
   rename_i j
   by_cases hj:-(2 ^ 62)<=j/\j < 2 ^ 62
   ·rw [if_pos hj] at q1
    exact ⟨hj,q1 φ1 H1 _ List.prefix_rfl (Kp.refl _) rh1 (PU 0 j.toNat φ1 H1)⟩
   ·rw [if_neg hj] at q1; exact q1.elim
  ·exact q1.elim
def iR (g:PH->Bool) (tg:Mg) (body:Ms):List PV->Ev->PH->Fl
 | [],δ,h=>if g h=true then .nx δ h else .bad
 | x :: xs,δ,h=>if g h=true then (match tg x δ with
  | none=>.bad
  | some δ1=>match body δ1 h with
   | .nx δ2 h2=>iR g tg body xs δ2 h2
   | .ct δ2 h2=>iR g tg body xs δ2 h2
   | .bk δ2 h2=>.nx δ2 h2
   | r=>r) else .bad
def gO (mi:Mi) (tg:Mg) (body:Ms):Ms:=fun δ h=>(mi δ h).fl fun w h1=>iR w.g tg body w.xs δ h1
theorem hZ.fl {φ:List Addr} {H:Hp} {r:Rs Wk} {f:Wk->PH->Fl} {D:Ends} (h:cK C φ H (r.fl f) D):hZ C φ H r fun J H1=>∃ φ1 w h1,φ<+:φ1/\Kp H H1/\RH C φ1 H1 h1/\HQ C J w φ1 H1/\cK C φ1 H1 (f w h1) D:=by
 cases r with
 | ok a h'=>exact fun φ' H' J p t rh wk=>⟨φ',a,h',p,t,rh,wk,cK.weak p t h⟩
 | exc a h'=>exact h
 | bad=>exact h
theorem hZ.imp {φ:List Addr} {H:Hp} {r:Rs Wk} {Q Q':It->Hp->Prop} (h:hZ C φ H r Q) (i:∀ v H',Q v H'->Q' v H'):hZ C φ H r Q':=by
 cases r with
 | ok a h'=>exact fun φ' H' J p t rh wk=>i J H' (h φ' H' J p t rh wk)
 | exc a h'=>exact h
 | bad=>exact h
theorem drop_cons {α:Type} {xs:List α} {i:Nat} {p:α} (h:xs[i]?=some p):xs.drop i=p :: xs.drop (i+1):=by
 obtain ⟨h1,h2⟩:=List.getElem?_eq_some_iff.mp h
 rw [List.drop_eq_getElem_cons h1,h2]
theorem Na {J:It} {w:Wk} {φ0:List Addr} {H0:Hp} {tg:Mg} {body:Ms} {D:Ends} {σ:St} {δ:Ev} {h:PH} (wk:HQ C J w φ0 H0) (rh:RH C φ0 H0 h) (re:RE C φ0 H0 δ σ) (p:cK C φ0 H0 (iR w.g tg body w.xs δ h) D):
  ∃ W:Nat->Nat->St->Hp->Prop,(∃ m,W 0 m σ H0)/\∀ i m σ H,W i m σ H->
   (J.stop i H/\D.nx σ H)\/(J.go i H/\∃ N:St->Hp->Prop,(∀ σ' H',N σ' H'->∃ m',m' < m/\W (i+1) m' σ' H')/\∀ x H',J.yld i H x H'->rdG C tg x σ H' fun σ2 H2=>rdS C body { D with nx:=N,ct:=N,bk:=D.nx } σ2 H2):=by
 refine ⟨fun i m σ H=>m=w.xs.length - i/\i<=w.xs.length/\∃ φ δ h,φ0<+:φ/\Kp H0 H/\RH C φ H h/\RE C φ H δ σ/\cK C φ H (iR w.g tg body (w.xs.drop i) δ h) D,
  ⟨w.xs.length,by simp,Nat.zero_le _,φ0,δ,h,List.prefix_rfl,Kp.refl _,rh,re,by rw [List.drop_zero]; exact p⟩,?_⟩
 rintro i m σ H ⟨rfl,hi,φ,δ,h,pp,tt,rh,re,p⟩
 by_cases hlt:i < w.xs.length
 ·have hd:w.xs.drop i=w.xs[i] :: w.xs.drop (i+1):=drop_cons (by simp [hlt])
  rw [hd] at p
  unfold iR at p
  by_cases hg:w.g h=true
  ·rw [if_pos hg] at p
   obtain ⟨go,step⟩:=(wk φ H h pp tt rh hg i).1 hlt
   refine .inr ⟨go,fun σ' H'=>∃ φ δ h,φ0<+:φ/\Kp H0 H'/\RH C φ H' h/\RE C φ H' δ σ'/\cK C φ H' (iR w.g tg body (w.xs.drop (i+1)) δ h) D,fun σ' H' ⟨φ',δ',h',q⟩=>⟨w.xs.length - (i+1),by omega,rfl,hlt,φ',δ',h',q⟩,fun x H' y=>?_⟩
   obtain ⟨⟨q,eq,rv⟩,t1,rh1⟩:=step x H' y
   have eq':w.xs[i]=q:=by
    have:w.xs[i]?=some w.xs[i]:=by simp [hlt]
    rw [this] at eq
    exact Option.some.inj eq
   rw [eq'] at p
   cases et:tg q δ with
   | none=>rw [et] at p; exact p.elim
   | some δ1=>
    rw [et] at p
    dsimp only at p
    refine ⟨φ,δ,h,q,δ1,rh1,re.mono List.prefix_rfl t1,rv,et,fun σ2 re2=>⟨φ,δ1,h,rh1,re2,?_⟩⟩
    have p:=cK.weak List.prefix_rfl t1 p
    cases eb:body δ1 h with
    | nx δ2 h2=>rw [eb] at p; exact fun φ3 σ3 H3 p3 t3 rh3 re3=>⟨φ3,δ2,h2,pp.trans p3,(tt.trans t1).trans t3,rh3,re3,cK.weak p3 t3 p⟩
    | ct δ2 h2=>rw [eb] at p; exact fun φ3 σ3 H3 p3 t3 rh3 re3=>⟨φ3,δ2,h2,pp.trans p3,(tt.trans t1).trans t3,rh3,re3,cK.weak p3 t3 p⟩
    | bk δ2 h2=>rw [eb] at p; exact p
    | rt z h2=>rw [eb] at p; exact p
    | exc z h2=>rw [eb] at p; exact p
    | bad=>rw [eb] at p; exact p
  ·rw [if_neg hg] at p
   exact p.elim
 ·have e:i=w.xs.length:=by omega
  subst e
  rw [List.drop_length] at p
  unfold iR at p
  by_cases hg:w.g h=true
  ·rw [if_pos hg] at p
   exact .inl ⟨(wk φ H h pp tt rh hg _).2 (Nat.le_refl _),p.nx rh re⟩
  ·rw [if_neg hg] at p
   exact p.elim
theorem iS {tg iter:Expr} {body:List Stmt} {mi:Mi} {t:Mg} {mb:Ms} {pos:Pos} (hi:SI C k X tg iter mi) (hg:SG C k X tg t) (hb:SSs C k X body mb) (hp:PassesOwn (model X.prog X.w) X.A X.env X.xe:=by exact PassesOwn.never)
  (hs:∀ x,foldedSetIterable iter X.env x=pure x:=by intro _; rfl):SSt C k X (.For tg iter body [] pos) (gO mi t mb):=fun c=>(P6 hp c.calm (hi c) (hg c) (hb c) hs).imp fun D σ H h=>by
 obtain ⟨φ,δ,h,rh,re,p⟩:=h
 refine ⟨φ,δ,h,rh,re,(hZ.fl p).imp ?_⟩
 rintro J H1 ⟨φ1,w,h1,p1,t1,rh1,wk,q1⟩
 exact Na wk rh1 (re.mono p1 t1) q1
end L2
set_option Elab.async false
set_option linter.all false
set_option maxRecDepth 100000
namespace L2
open PySem PySem.Spec PyProof.Rows
variable {C:MC} {k:Nat} {X:Cx}
def iG (js:List (Option Nat)) (δ:Ev):Ev:=js.map fun o=>match o with
 | none=>none
 | some j=>BK δ j
theorem Gp:∀ {σ:St} {i:Nat} {v:V},σ[i]?=some (some v)->JA σ i=some v
 | [],_,_,h=>by simp at h
 | x :: _,0,v,h=>by
  have:x=some v:=by simpa using h
  exact this
 | _ :: r,n+1,v,h=>Gp (σ:=r) (i:=n) (by simpa using h)
theorem RE.cap {φ:List Addr} {H:Hp} {δ:Ev} {σ:St} (re:RE C φ H δ σ) (js:List (Option Nat)):RE C φ H (iG js δ) (lH js σ):=by
 refine ⟨by simp [iG,lH],fun i p e=>?_⟩
 unfold iG at e
 unfold lH
 rw [List.getElem?_map] at e ⊢
 cases q:js[i]? with
 | none=>rw [q] at e; cases e
 | some o=>
  rw [q] at e
  cases o with
  | none=>cases e
  | some j=>
   obtain ⟨v,hv,rv⟩:=re.2 j p (xK (Option.some.inj e))
   exact ⟨v,by show some (JA σ j)=_; rw [Gp hv],rv⟩
def mM (g:PH->Bool) (tg:Mg) (tst:Ev->PH->Rs Bool) (elt:Me) (δ0:Ev) (n:Nat):List PV->PH->Rs PV
 | [],h=>if g h=true then .ok (.ref n) h else .bad
 | x :: xs,h=>if g h=true then (match tg x δ0 with
  | none=>.bad
  | some δ1=>(tst δ1 h).bind fun b h1=>match b with
   | false=>mM g tg tst elt δ0 n xs h1
   | true=>(elt δ1 h1).bind fun p h2=>match fA h2 n with
    | some ys=>if ys.length < sizeLine then mM g tg tst elt δ0 n xs (h2.set n (.lst (ys++[p]))) else .bad
    | none=>.bad) else .bad
def cN (js:List (Option Nat)) (mi:Mi) (tg:Mg) (tst:Ev->PH->Rs Bool) (elt:Me):Me:=fun δ h=>(mi δ h).bind fun w h1=>mM w.g tg tst elt (iG js δ) h1.length w.xs (h1++[.lst []])
def qZ:Ev->PH->Rs Bool:=fun _ h=>.ok true h
def STs (C:MC) (k:Nat) (X:Cx) (es:List Expr) (m:Ev->PH->Rs Bool):Prop:=Cxt C k X->PTs X es (rdB C m)
theorem xQ:STs C k X [] qZ:=fun c pins s σ H Q I h=>by
 obtain ⟨φ,δ,h,rh,re,p⟩:=h
 exact MR pins s σ H Q I (p.val rh)
theorem BQ {e:Expr} {m:Ev->PH->Rs Bool} (h:ST C k X e m):STs C k X [e] m:=fun c=>MS (h c)
theorem hZ.bind {φ:List Addr} {H:Hp} {r:Rs Wk} {f:Wk->PH->Rs PV} {Q:VK} (h:post C φ H (r.bind f) Q):hZ C φ H r fun J H1=>∃ φ1 w h1,φ<+:φ1/\Kp H H1/\RH C φ1 H1 h1/\HQ C J w φ1 H1/\post C φ1 H1 (f w h1) Q:=by
 cases r with
 | ok a h'=>exact fun φ' H' J p t rh wk=>⟨φ',a,h',p,t,rh,wk,post.weak p t h⟩
 | exc a h'=>exact h
 | bad=>exact h
theorem K5 {J:It} {w:Wk} {φ0:List Addr} {H0:Hp} {tg:Mg} {tst:Ev->PH->Rs Bool} {elt:Me} {Q:VK} {σ:St} {δ:Ev} {h:PH} {js:List (Option Nat)} (wk:HQ C J w φ0 H0) (rh:RH C φ0 H0 h) (re:RE C φ0 H0 δ σ)
  (p:post C φ0 H0 (mM w.g tg tst elt (iG js δ) h.length w.xs (h++[.lst []])) Q) (acc:Addr) (hacc:H0 acc=none):
  ∃ W:Nat->Nat->Hp->Prop,(∃ m,W 0 m (upd H0 acc (.lst [])))/\∀ i m H2,W i m H2->
   (J.stop i H2/\Q (.ref acc) H2)\/(J.go i H2/\∃ N:Hp->Prop,(∀ H',N H'->∃ m',m' < m/\W (i+1) m' H')/\∀ x H3,J.yld i H2 x H3->OB js (rdG C tg) (rdB C tst) (rd C elt) σ acc x H3 N):=by
 have hlen:(φ0++[acc])[h.length]?=some acc:=by rw [<- rh.len]; simp
 refine ⟨fun i m H=>m=w.xs.length - i/\i<=w.xs.length/\∃ φ h',(φ0++[acc])<+:φ/\Kp H0 H/\RH C φ H h'/\post C φ H (mM w.g tg tst elt (iG js δ) h.length (w.xs.drop i) h') Q,
  ⟨w.xs.length,by simp,Nat.zero_le _,φ0++[acc],h++[.lst []],List.prefix_rfl,Kp.new hacc,rh.new (o:=.lst []) hacc ⟨[],bK,trivial⟩,by rw [List.drop_zero]; exact post.weak (List.prefix_append _ _) (Kp.new hacc) p⟩,?_⟩
 rintro i m H ⟨rfl,hi,φ,h',pp,tt,rh',p⟩
 have pp0:φ0<+:φ:=(List.prefix_append _ _).trans pp
 by_cases hlt:i < w.xs.length
 ·have hd:w.xs.drop i=w.xs[i] :: w.xs.drop (i+1):=drop_cons (by simp [hlt])
  rw [hd] at p
  unfold mM at p
  by_cases hg:w.g h'=true
  ·rw [if_pos hg] at p
   obtain ⟨go,step⟩:=(wk φ H h' pp0 tt rh' hg i).1 hlt
   refine .inr ⟨go,fun H'=>∃ φ h',(φ0++[acc])<+:φ/\Kp H0 H'/\RH C φ H' h'/\post C φ H' (mM w.g tg tst elt (iG js δ) h.length (w.xs.drop (i+1)) h') Q,fun H' ⟨φ',h',q⟩=>⟨w.xs.length - (i+1),by omega,rfl,hlt,φ',h',q⟩,fun x H' y=>?_⟩
   obtain ⟨⟨q,eq,rv⟩,t1,rh1⟩:=step x H' y
   have eq':w.xs[i]=q:=by
    have:w.xs[i]?=some w.xs[i]:=by simp [hlt]
    rw [this] at eq
    exact Option.some.inj eq
   rw [eq'] at p
   cases et:tg q (iG js δ) with
   | none=>rw [et] at p; exact p.elim
   | some δ1=>
    rw [et] at p
    have re1:RE C φ H' (iG js δ) (lH js σ):=(re.mono pp0 (tt.trans t1)).cap js
    refine ⟨φ,iG js δ,h',q,δ1,rh1,re1,rv,et,fun σ2 re2=>⟨φ,δ1,h',rh1,re2,(cF.bind (post.weak List.prefix_rfl t1 p)).imp ?_⟩⟩
    rintro b H5 ⟨φ5,h5,p5,t5,rh5,q5⟩
    cases b with
    | false=>exact Hj ⟨φ5,h5,pp.trans p5,(tt.trans t1).trans t5,rh5,q5⟩
    | true=>
     refine Hk ⟨φ5,δ1,h5,rh5,re2.mono p5 t5,(post.bind q5).imp ?_⟩
     rintro v H6 ⟨φ6,z,h6,p6,t6,rh6,rv6,q6⟩
     cases e6:fA h6 h.length with
     | none=>rw [e6] at q6; exact q6.elim
     | some ys=>
      rw [e6] at q6
      obtain ⟨hz,q6⟩:=q6.ite
      have hφ:φ6[h.length]?=some acc:=oQ ((pp.trans p5).trans p6) hlen
      obtain ⟨vs,hH,rvs⟩:=rh6.at' h.length acc _ hφ (kH e6)
      refine ⟨vs,hH,by rw [<- rvs.length]; exact hz,φ6,h6.set h.length (.lst (ys++[z])),(pp.trans p5).trans p6,(((tt.trans t1).trans t5).trans t6).trans (Kp.lst hH),
       rh6.write hφ (by rw [hH]; trivial) ⟨vs++[v],bK,(rvs.snoc rv6).mono List.prefix_rfl (Kp.lst hH)⟩,post.weak List.prefix_rfl (Kp.lst hH) q6⟩
  ·rw [if_neg hg] at p
   exact p.elim
 ·have e:i=w.xs.length:=by omega
  subst e
  rw [List.drop_length] at p
  unfold mM at p
  by_cases hg:w.g h'=true
  ·rw [if_pos hg] at p
   exact .inl ⟨(wk φ H h' pp0 tt rh' hg _).2 (Nat.le_refl _),p.val rh' ⟨acc,rfl,oQ pp hlen⟩⟩
  ·rw [if_neg hg] at p
   exact p.elim
theorem Gq {js:List (Option Nat)} {mi:Mi} {tg:Mg} {tst:Ev->PH->Rs Bool} {elt:Me} {σ:St} {H:Hp} {Q:VK} (h:rd C (cN js mi tg tst elt) σ H Q):G8 js (rdI C mi) (rdG C tg) (rdB C tst) (rd C elt) σ H Q:=by
 obtain ⟨φ,δ,h,rh,re,p⟩:=h
 refine ⟨φ,δ,h,rh,re,(hZ.bind p).imp ?_⟩
 rintro J H1 ⟨φ1,w,h1,p1,t1,rh1,wk,q1⟩
 intro acc hacc
 exact K5 wk rh1 (re.mono p1 t1) q1 acc hacc
section
variable {elt iter tg:Expr} {ifs:List Expr} {sc:Scope} {pos:Pos} {os:Scope} {oN N:List Str} {js:List (Option Nat)} {mi:Mi} {g:Mg} {tt:Ev->PH->Rs Bool} {me:Me}
theorem tU (hes:X.env.scope=os) (heN:X.N=oN) (ok:pQ os oN sc N js=true) (hi:SI C k X tg iter mi)
  (hg:∀ C' fp s₀ H₀,SG C k (X.comp sc N C' fp s₀ H₀) tg g) (ht:∀ C' fp s₀ H₀,STs C k (X.comp sc N C' fp s₀ H₀) ifs tt) (he:∀ C' fp s₀ H₀,SE C k (X.comp sc N C' fp s₀ H₀) elt me)
  (hs:∀ x,foldedSetIterable iter X.env x=pure x:=by intro _; rfl):SE C k X (.ListComp elt [⟨tg,iter,ifs,0⟩] sc pos) (cN js mi g tt me):=fun c=>
 (MT c.calm hes heN ok (hi c) (fun a b s H=>hg a b s H (c.comp sc N a b s H)) (fun a b s H=>ht a b s H (c.comp sc N a b s H)) (fun a b s H=>he a b s H (c.comp sc N a b s H)) hs).imp fun σ H Q h=>Gq h
theorem tV {i:Nat} {x:Str} {pos' spos:Pos} (hN:X.N.Nodup) (hx':X.N[i]?=some x) (hloc:X.env.scope.names.lookup x=some .local) (hes:X.env.scope=os) (heN:X.N=oN) (ok:pQ os oN sc N js=true) (hi:SI C k X tg iter mi)
  (hg:∀ C' fp s₀ H₀,SG C k (X.comp sc N C' fp s₀ H₀) tg g) (ht:∀ C' fp s₀ H₀,STs C k (X.comp sc N C' fp s₀ H₀) ifs tt) (he:∀ C' fp s₀ H₀,SE C k (X.comp sc N C' fp s₀ H₀) elt me)
  (hsw:swapsWith (.ListComp elt [⟨tg,iter,ifs,0⟩] sc pos) (some (.Name x pos')) spos.line X.env=pure true:=by rfl)
  (hs:∀ x,foldedSetIterable iter X.env x=pure x:=by intro _; rfl):SSt C k X (.Assign [.Name x pos'] (.ListComp elt [⟨tg,iter,ifs,0⟩] sc pos) spos) (bI i (cN js mi g tt me)):=fun c=>
 (ET hN hx' hloc c.calm hes heN ok (hi c) (fun a b s H=>hg a b s H (c.comp sc N a b s H)) (fun a b s H=>ht a b s H (c.comp sc N a b s H)) (fun a b s H=>he a b s H (c.comp sc N a b s H)) hsw hs).imp fun D σ H h=>by
  obtain ⟨φ,δ,h,rh,re,p⟩:=h
  refine Gq ⟨φ,δ,h,rh,re,(post.fl p).imp ?_⟩
  rintro v H1 ⟨φ1,x,h1,p1,t1,rh1,rv1,q1⟩
  exact q1.nx rh1 ((re.mono p1 t1).set rv1 i)
end
def mFn (N:Nat) (body:Ms):Fn:=fun args h=>match body (args.map some++List.replicate (N - args.length) none) h with
 | .nx _ h'=>.ok .non h'
 | .rt p h'=>.ok p h'
 | .exc x h'=>.exc x h'
 | _=>.bad
theorem RE.start {φ:List Addr} {H:Hp} {ps:List PV} {vs:List V} (r:RVs C φ H ps vs) (N:List Str):RE C φ H (ps.map some++List.replicate (N.length - ps.length) none) (start N vs):=by
 unfold L2.start
 refine ⟨by simp [r.length],fun i p e=>?_⟩
 by_cases hi:i < ps.length
 ·rw [List.getElem?_append_left (by simpa using hi),List.getElem?_map] at e
  rw [List.getElem?_append_left (by simpa [<- r.length] using hi),List.getElem?_map]
  cases q:ps[i]? with
  | none=>rw [q] at e; cases e
  | some x=>
   rw [q] at e
   cases e
   obtain ⟨v,hv,rv⟩:=r.at q
   exact ⟨v,by rw [hv]; rfl,rv⟩
 ·rw [List.getElem?_append_right (by simpa using hi)] at e
  rw [List.getElem?_replicate] at e
  split at e
  ·cases e
  ·cases e
theorem dU {P:Program} {mg:Str->Option Value} {base:Heap} {x qual:Str} {st:Stmt} {f:Addr} {fd:FuncData} {N ps:List Str} {body:Ms} (hex:∀ φ H x,¬ C.ex φ H x) (hbn:∀ x∈C.bs,mg x=none)
  (F:Fun C.K x qual st f fd) (S:aZ N ps (aF st))
  (hb:∀ (cdv:Value) (A:Around) (outer:List Env) (s:Shared) (H:Hp) (E:XK),SSs C k (EL CX0 P C.w C.K mg base N qual (aF st) f cdv A outer s H E).nox (aR st) body):
  aM P C.w C.K mg base CX0 (k+1) f fd ps (spM C ps.length (mFn N.length body)):=by
 refine F.ok S (fun vs H Q E h=>?_) (fun cdv A outer s H vs Q E hr h=>?_)
 ·obtain ⟨φ,h,xs,rh,rv,hl,_⟩:=h
  rw [<- rv.length]
  exact hl
 ·obtain ⟨φ,h,xs,rh,rv,hl,p⟩:=h
  refine ⟨_,hb cdv A outer s H E ⟨rfl,rfl,hr,hbn,rfl⟩,φ,xs.map some++List.replicate (N.length - xs.length) none,h,rh,RE.start rv N,?_⟩
  unfold mFn at p
  cases e:body (xs.map some++List.replicate (N.length - xs.length) none) h with
  | nx δ h'=>rw [e] at p; exact fun φ' σ' H' pp tt rh' re'=>p φ' .non H' pp tt rh' rfl
  | rt z h'=>rw [e] at p; exact p
  | exc z h'=>rw [e] at p; exact fun φ' H' pp tt rh'=>(hex _ _ _ (p φ' H' pp tt rh')).elim
  | bk δ h'=>rw [e] at p; exact p.elim
  | ct δ h'=>rw [e] at p; exact p.elim
  | bad=>rw [e] at p; exact p.elim
theorem PY {f:Fn} {H:Hp} {Q:VK} {E:XK} {a:Addr} {ns:List Int} (hO:Jv H) (ho:SqL C.K H a (ns.map V.int)) (hf:∃ h,f [.fl (ns.map PV.int)] []=.ok (.bl true) h) (hQ:∀ H',Q (.bl true) H'):spM C 1 f [.ref a] H Q E:=by
 have r0:∀ ns:List Int,RVs C [] H (ns.map PV.int) (ns.map V.int):=by
  intro ns
  induction ns with
  | nil=>trivial
  | cons n ns ih=>exact ⟨rfl,ih⟩
 have hs:SqF C.K H a (ns.map V.int):=by
  rcases ho with (h | ⟨o,h⟩) | h
  ·rcases hO a with z | ⟨o,xs,z⟩
   ·rw [z] at h; cases h
   ·rw [z] at h; cases h
  ·exact .inl ⟨o,h⟩
  ·exact .inr h
 refine ⟨[],[],[.fl (ns.map PV.int)],⟨rfl,by simp,fun n b ob h1 h2=>by simp at h1⟩,⟨⟨a,_,rfl,hs,r0 ns⟩,trivial⟩,rfl,?_⟩
 obtain ⟨h,e⟩:=hf
 rw [e]
 intro φ' v H' _ _ _ rv
 cases rv
 exact hQ H'
end L2
set_option Elab.async false
set_option linter.all false
set_option maxRecDepth 100000
namespace L2
open PySem PySem.Spec PyProof.Rows
variable {C:MC} {k:Nat} {X:Cx}
def tyN (x:PV) (h:PH):Option String:=match x with
 | .non=>some "NoneType"
 | .bl _=>some "bool"
 | .int _=>some "int"
 | .str _=>some "str"
 | .tup _=>some "tuple"
 | .fl _=>some "list"
 | .ref n=>match h[n]? with
  | some (.lst _)=>some "list"
  | some (.dK _)=>some "dict"
  | _=>none
 | .ty _=>none
def Dm (t c:String):Bool:=t == c || (t == "bool" && c == "int")
def known:List String:=["int","str","bool","list","tuple","dict"]
def Nb:List PV->PH->Rs PV:=fun xs h=>match xs with
 | [x,.ty c]=>match tyN x h with
  | some t=>if c∈known then .ok (.bl (Dm t c)) h else .bad
  | none=>.bad
 | _=>.bad
def Nc:List PV->PH->Rs PV:=fun xs h=>match xs with
 | [.int i,.int j]=>.ok (.int (if j < i then j else i)) h
 | _=>.bad
theorem RQ:nD C k X (.builtin "min") Nc:=fun c=>(Hd c.calm).imp fun vs H Q h=>by
 obtain ⟨φ,h,ps,rh,rv,po⟩:=h
 unfold Nc at po
 split at po
 ·obtain ⟨v,w,rfl,rx,ry⟩:=rv.two
  cases rx; cases ry
  exact ⟨_,_,rfl,po.val rh rfl⟩
 ·exact po.elim
def mMt (ty:PV->PH->Bool) (g:PV->List PV->PH->Rs PV) (mo:Me) (ms:Ma):Me:=fun δ h=>(mo δ h).bind fun x h1=>if ty x h1=true then (ms δ h1).bind fun ps h2=>g x ps h2 else .bad
def Nd (ty:PV->PH->Bool) (g:PV->List PV->PH->Rs PV) (mo:Me):Me:=fun δ h=>(mo δ h).bind fun x h1=>if ty x h1=true then g x [] h1 else .bad
def rM (C:MC) (g:PV->List PV->PH->Rs PV):V->List V->Hp->VK->Prop:=fun x xs H Q=>∃ φ h p ps,RH C φ H h/\RV C φ H p x/\RVs C φ H ps xs/\post C φ H (g p ps h) Q
def MtS (C:MC) (k:Nat) (X:Cx) (T:String) (ty:PV->PH->Bool) (id:String) (g:PV->List PV->PH->Rs PV):Prop:=Cxt C k X->MtR X id (rM C g)/\∀ φ H h p x,RH C φ H h->RV C φ H p x->ty p h=true->tyV C.K T x H
section
variable {o e:Expr} {es:List Expr} {mo:Me} {ms:Ma} {name:Str} {apos cpos:Pos} {T id:String} {ty:PV->PH->Bool} {g:PV->List PV->PH->Rs PV}
theorem xR (pa:PlainAttrs T) (slot:Slot T name id) (hty:typeOf (.builtin id)=pure (.type "method_descriptor")) (hm:MtS C k X T ty id g) (ho:SE C k X o mo) (ha:SA C k X (e :: es) ms)
  (hbase:attributeBase o name X.env (eval o X.env)=eval o X.env:=by rfl)
  (hfew:((backTo cpos (starEach (e :: es) X.env)).all (fun x=>!x.1) && (backToKw cpos (keywordEach [] X.env)).all (fun x=>x.1.isSome)
   && decide ((e :: es).length+([]:List Keyword).length+(if ([]:List Keyword).isEmpty then 0 else 1) < 30))=true:=by rfl)
  (hline:(apos.endLine == cpos.line)=true:=by rfl) (hs:starEach (e :: es) X.env=(false,eval e X.env) :: starEach es X.env:=by rfl) (hplain:(backTo cpos (starEach es X.env)).any (·.1)=false:=by rfl):
  SE C k X (.Call (.Attribute o name apos) (e :: es) [] cpos) (mMt ty g mo ms):=fun c=>(Rm pa slot hty (hm c).1 (ho c) (ha c) hbase hfew hline hs hplain).imp fun σ H Q h=>by
 obtain ⟨φ,δ,h,rh,re,p⟩:=h
 refine ⟨φ,δ,h,rh,re,(post.bind p).imp ?_⟩
 rintro v H1 ⟨φ1,x,h1,p1,t1,rh1,rv1,q1⟩
 obtain ⟨ht,q1⟩:=q1.ite
 refine ⟨by rw [c.K]; exact (hm c).2 φ1 H1 h1 x v rh1 rv1 ht,φ1,δ,h1,rh1,re.mono p1 t1,(postA.bind q1).imp ?_⟩
 rintro vs H2 ⟨φ2,xs,h2,p2,t2,rh2,rv2,q2⟩
 exact ⟨φ2,h2,x,xs,rh2,rv1.mono p2 t2,rv2,q2⟩
theorem RR (pa:PlainAttrs T) (slot:Slot T name id) (hty:typeOf (.builtin id)=pure (.type "method_descriptor")) (hm:MtS C k X T ty id g) (ho:SE C k X o mo)
  (hbase:attributeBase o name X.env (eval o X.env)=eval o X.env:=by rfl) (hline:(apos.endLine == cpos.line)=true:=by rfl):SE C k X (.Call (.Attribute o name apos) [] [] cpos) (Nd ty g mo):=fun c=>(Pm pa slot hty (hm c).1 (ho c) hbase hline).imp fun σ H Q h=>by
 obtain ⟨φ,δ,h,rh,re,p⟩:=h
 refine ⟨φ,δ,h,rh,re,(post.bind p).imp ?_⟩
 rintro v H1 ⟨φ1,x,h1,p1,t1,rh1,rv1,q1⟩
 obtain ⟨ht,q1⟩:=q1.ite
 exact ⟨by rw [c.K]; exact (hm c).2 φ1 H1 h1 x v rh1 rv1 ht,φ1,h1,x,[],rh1,rv1,trivial,q1⟩
end
theorem MtR.imp {id:String} {r r':V->List V->Hp->VK->Prop} (h:MtR X id r) (i:∀ x xs H Q,r' x xs H Q->r x xs H Q):MtR X id r':=fun pins s σ H x xs v us Q I rx rs q=>h pins s σ H x xs v us Q I rx rs (i x xs H Q q)
def isL (x:PV) (h:PH):Bool:=match x with
 | .ref n=>(fA h n).isSome
 | _=>false
theorem K6 {φ:List Addr} {H:Hp} {h:PH} {p:PV} {x:V} (rh:RH C φ H h) (rv:RV C φ H p x) (e:isL p h=true):tyV C.K "list" x H:=by
 cases p with
 | ref n=>
  obtain ⟨a,rfl,ha⟩:=rv
  obtain ⟨xs,hx⟩:=Option.isSome_iff_exists.mp (show (fA h n).isSome=true from e)
  obtain ⟨vs,hH,ra⟩:=rh.at' n a _ ha (kH hx)
  exact .inl ⟨rfl,vs,SqL.of hH⟩
 | _=>cases e
def onL (f:List PV->List PV->Option (PV×List PV)):PV->List PV->PH->Rs PV:=fun x ps h=>match x with
 | .ref n=>match fA h n with
  | some xs=>match f xs ps with
   | some (r,ys)=>.ok r (h.set n (.lst ys))
   | none=>.bad
  | none=>.bad
 | _=>.bad
theorem K7 {f:List PV->List PV->Option (PV×List PV)} {x:V} {xs:List V} {H:Hp} {Q:VK} (h:rM C (onL f) x xs H Q):∃ φ l ps ys vs r zs,x=.ref l/\H l=some (.lst vs)/\RVs C φ H ys vs/\RVs C φ H ps xs/\f ys ps=some (r,zs)/\
  ∀ (v:V) (ws:List V),RV C φ H r v->RVs C φ H zs ws->Q v (upd H l (.lst ws)):=by
 obtain ⟨φ,h,p,ps,rh,rx,rs,po⟩:=h
 unfold onL at po
 cases p with
 | ref n=>
  obtain ⟨a,rfl,ha⟩:=rx
  dsimp only at po
  cases e:fA h n with
  | none=>rw [e] at po; exact po.elim
  | some ys=>
   rw [e] at po
   dsimp only at po
   obtain ⟨vs,hH,ra⟩:=rh.at' n a _ ha (kH e)
   cases ef:f ys ps with
   | none=>rw [ef] at po; exact po.elim
   | some rz=>
    rw [ef] at po
    obtain ⟨r,zs⟩:=rz
    exact ⟨φ,a,ps,ys,vs,r,zs,rfl,hH,ra,rs,ef,fun v ws rv rw'=>po.lset rh ha hH rw' rv⟩
 | _=>exact po.elim
def bA:List PV->List PV->Option (PV×List PV):=fun xs ps=>match ps with
 | [p]=>if xs.length < sizeLine then some (.non,xs++[p]) else none
 | _=>none
def pV:List PV->List PV->Option (PV×List PV):=fun xs ps=>match ps with
 | []=>some (.non,[])
 | _=>none
theorem HS:MtR X "list.append" (rM C (onL bA)):=MtR.imp (show MtR X "list.append" G4 from AF) fun x xs H Q h=>by
 obtain ⟨φ,l,ps,ys,vs,r,zs,rfl,hH,ra,rs,ef,q⟩:=K7 h
 unfold bA at ef
 split at ef
 ·split at ef
  ·rename_i hz
   cases ef
   obtain ⟨v,rfl,rx⟩:=rs.one
   exact ⟨l,vs,v,rfl,rfl,hH,by rw [<- ra.length]; exact hz,q .non _ rfl (ra.snoc rx)⟩
  ·cases ef
 ·cases ef
theorem dB:MtS C k X "list" isL "list.append" (onL bA):=fun c=>⟨HS,fun φ H h p x rh rv e=>K6 rh rv e⟩
theorem K8:MtR X "list.clear" (rM C (onL pV)):=MtR.imp (show MtR X "list.clear" Jt from Ju) fun x xs H Q h=>by
 obtain ⟨φ,l,ps,ys,vs,r,zs,rfl,hH,ra,rs,ef,q⟩:=K7 h
 unfold pV at ef
 split at ef
 ·cases ef
  have:xs=[]:=by cases xs <;> first | rfl | exact rs.elim
  subst this
  exact ⟨l,vs,rfl,rfl,hH,q .non _ rfl trivial⟩
 ·cases ef
theorem Nf:MtS C k X "list" isL "list.clear" (onL pV):=fun c=>⟨K8,fun φ H h p x rh rv e=>K6 rh rv e⟩
def RS (K:PySem.W.Frag):R2:=fun x y H Q=>∃ a b ys,x=.ref a/\y=.ref b/\SqT K H a []/\SqT K H b ys/\Q (.ref b) H
theorem Ng:OpR X (binaryOp .Add) (RS X.K):=by
 intro pins s σ H x y v u Q I rx ry h
 obtain ⟨a,b,ys,rfl,rfl,ha,hb,q⟩:=h
 cases rx
 cases ry
 obtain ⟨its,r1,p1,_⟩:=I.tuple ha
 obtain ⟨its2,r2,p2,_⟩:=I.tuple hb
 cases r1
 obtain ⟨⟨cls,dd,data,sl⟩,ho,hc,n,hd⟩:=id p1
 obtain ⟨⟨cls2,dd2,data2,sl2⟩,ho2,hc2,n2,hd2⟩:=id p2
 simp only at hc hd hc2 hd2
 subst hc hd hc2 hd2
 exact concat_meets ⟨_,ho,rfl⟩ ⟨_,ho2,rfl⟩ noFill_tuple_add seq_tuple_add PySem.F.slot_tuple_add PySem.F.entry_tuple_add (PySem.F.args_tuple_add_2 _ _)
   (tuple_addW0 a b ([]:List Value).toArray its2.toArray n n2 dd dd2 sl sl2 (by simp)) ⟨ho,ho2,⟨.ref b,H,I,rfl,q⟩⟩
def aT:PV->PV->PH->Rs PV:=fun x y h=>match x,y with
 | .tup [],.tup ys=>.ok (.tup ys) h
 | x,y=>JX x y h
theorem bJ:OpS C k X (binaryOp .Add) aT:=fun c=>((RD c).or (by have:=Ng (X:=X); rw [c.K] at this; exact this)).imp fun x y H Q h=>by
 obtain ⟨φ,h,p,q,rh,rx,ry,po⟩:=h
 unfold aT at po
 split at po
 ·obtain ⟨a,vs,rfl,sa,ra⟩:=rx
  obtain ⟨b,us,rfl,sb,rb⟩:=ry
  have:vs=[]:=by cases vs <;> first | rfl | exact ra.elim
  subst this
  exact .inr ⟨a,b,us,rfl,rfl,sa,sb,po.val rh ⟨b,us,rfl,sb,rb⟩⟩
 ·exact .inl ⟨φ,h,p,q,rh,rx,ry,po⟩
end L2
set_option Elab.async false
set_option linter.all false
set_option maxRecDepth 100000
namespace L2
open PySem PySem.Spec PyProof.Rows
variable {C:MC} {k:Nat} {X:Cx}
end L2
set_option Elab.async false
set_option linter.all false
set_option maxRecDepth 100000
namespace L2
open PySem
@[irreducible] def Rs.W {α:Type} (r:Rs α) (Q:α->PH->Prop):Prop:=match r with
 | .ok a h=>Q a h
 | _=>False
structure FE where
 nx:Ev->PH->Prop
 rt:PV->PH->Prop
 bk:Ev->PH->Prop:=fun _ _=>False
 ct:Ev->PH->Prop:=fun _ _=>False
@[irreducible] def Fl.W (r:Fl) (E:FE):Prop:=match r with
 | .nx δ h=>E.nx δ h
 | .rt p h=>E.rt p h
 | .bk δ h=>E.bk δ h
 | .ct δ h=>E.ct δ h
 | _=>False
@[irreducible] def Lt (b:Ms) (E:FE) (δ:Ev) (h:PH):Prop:=(b δ h).W E
section
unseal Rs.W Fl.W Lt
variable {α β:Type} {Q:α->PH->Prop} {E:FE} {δ:Ev} {h:PH}
@[simp] theorem xT {a:α}:(Rs.ok a h).W Q=Q a h:=(rfl)
@[simp] theorem UP:(Fl.nx δ h).W E=E.nx δ h:=(rfl)
@[simp] theorem UQ {p:PV}:(Fl.rt p h).W E=E.rt p h:=(rfl)
@[simp] theorem UR:(Fl.bk δ h).W E=E.bk δ h:=(rfl)
@[simp] theorem US:(Fl.ct δ h).W E=E.ct δ h:=(rfl)
@[simp] theorem xU {Q:β->PH->Prop} {r:Rs α} {f:α->PH->Rs β}:(r.bind f).W Q=r.W fun a h=>(f a h).W Q:=by cases r <;> rfl
@[simp] theorem HU {r:Rs α} {f:α->PH->Fl}:(r.fl f).W E=r.W fun a h=>(f a h).W E:=by cases r <;> rfl
theorem K9 {Q':α->PH->Prop} {r:Rs α} (h:r.W Q) (i:∀ a h,Q a h->Q' a h):r.W Q':=by cases r <;> first | exact i _ _ h | exact h
@[simp] theorem UE {c:Prop} [Decidable c] {x y:Rs α}:(if c then x else y).W Q=if c then x.W Q else y.W Q:=by split <;> rfl
@[simp] theorem UF:(Rs.bad:Rs α).W Q=False:=(rfl)
@[simp] theorem U':Fl.bad.W E=False:=(rfl)
theorem tW {r:Rs α} (w:r.W Q):∃ a h,r=.ok a h/\Q a h:=by
 cases r with
 | ok a h=>exact ⟨a,h,rfl,w⟩
 | exc=>exact w.elim
 | bad=>exact w.elim
variable {a b:Ms} {m ma mb mc:Me} {t ta tb:Ev->PH->Rs Bool} {g g':PV->PV->PH->Rs PV}
theorem aL:(aQ a b δ h).W E=(a δ h).W { E with nx:=Lt b E }:=by
 show (match a δ h with | .nx δ1 h1=>b δ1 h1 | r=>r).W E=_
 cases a δ h <;> rfl
theorem now {b:Ms} (w:(b δ h).W E):Lt b E δ h:=w
@[simp] theorem RT:(jF δ h).W E=E.nx δ h:=(rfl)
@[simp] theorem UG:(U8 δ h).W E=E.bk δ h:=(rfl)
@[simp] theorem UH:(U9 δ h).W E=E.ct δ h:=(rfl)
@[simp] theorem Gr {i:Nat}:(bI i m δ h).W E=(m δ h).W fun p h=>E.nx (δ.set i (some p)) h:=by simp [bI]
@[simp] theorem UI {t:Mg}:(Fc m t δ h).W E=(m δ h).W fun p h=>∃ δ',t p δ=some δ'/\E.nx δ' h:=by
 unfold Fc
 cases m δ h with
 | ok p h1=>
  show (match t p δ with | some δ'=>Fl.nx δ' h1 | none=>.bad).W E=∃ δ',t p δ=some δ'/\E.nx δ' h1
  cases t p δ <;> simp [Fl.W]
 | exc=>rfl
 | bad=>rfl
@[simp] theorem UJ:(hW m δ h).W E=(m δ h).W fun _ h=>E.nx δ h:=by simp [hW]
@[simp] theorem K':(eZ m δ h).W E=(m δ h).W E.rt:=by simp [eZ]
@[simp] theorem Ua:(RP δ h).W E=E.rt .non h:=(rfl)
@[simp] theorem iA:(gK t a b δ h).W E=(t δ h).W fun c h=>if c=true then (a δ h).W E else (b δ h).W E:=by
 unfold gK
 rw [HU]
 congr
 funext c h
 cases c <;> simp
@[simp] theorem UK {i:Nat}:mV i δ h=match BK δ i with | some p=>.ok p h | none=>.bad:=(rfl)
@[simp] theorem UL {p:PV}:mC p δ h=.ok p h:=(rfl)
@[simp] theorem Gs:aD g ma mb δ h=(ma δ h).bind fun x h1=>(mb δ h1).bind fun y h2=>g x y h2:=(rfl)
@[simp] theorem Ub {g:PV->PH->Rs PV}:mUn g ma δ h=(ma δ h).bind g:=(rfl)
@[simp] theorem SS:bL m δ h=(m δ h).bind tru:=(rfl)
@[simp] theorem Ka:Gh t δ h=(t δ h).bind fun b h1=>.ok (!b) h1:=(rfl)
@[simp] theorem Kb:eK ta tb δ h=(ta δ h).bind fun b h1=>if b=true then tb δ h1 else .ok false h1:=by
 unfold eK; congr 1; funext b h1; cases b <;> simp
@[simp] theorem Gu:Dl ta tb δ h=(ta δ h).bind fun b h1=>if b=true then .ok true h1 else tb δ h1:=by
 unfold Dl; congr 1; funext b h1; cases b <;> simp
def bl2 (x:PV) (f g:Rs PV):Rs PV:=match x with
 | .bl true=>f
 | .bl false=>g
 | _=>.bad
@[simp] theorem Uc {b:Bool} {f g:Rs PV}:bl2 (.bl b) f g=if b=true then f else g:=by cases b <;> simp [bl2]
@[simp] theorem RU:Gi ma mb δ h=(ma δ h).bind fun x h1=>bl2 x (mb δ h1) (.ok (.bl false) h1):=by
 unfold Gi; first | rfl | (congr 1; funext x h1; cases x <;> first | rfl | (rename_i b; cases b <;> rfl))
@[simp] theorem RW:Gj ma δ h=(ma δ h).bind fun x h1=>bl2 x (.ok (.bl false) h1) (.ok (.bl true) h1):=by
 unfold Gj; congr 1; funext x h1; cases x <;> first | rfl | (rename_i b; cases b <;> rfl)
@[simp] theorem SU:Fb g g' ma mb mc δ h=(ma δ h).bind fun x h1=>(mb δ h1).bind fun y h2=>(g x y h2).bind fun z h3=>bl2 z ((mc δ h3).bind fun w h4=>(g' y w h4).bind K2) (.ok (.bl false) h3):=by
 unfold Fb; first | rfl | (congr 1; funext x h1; congr 1; funext y h2; congr 1; funext z h3; cases z <;> first | rfl | (rename_i b; cases b <;> rfl))
@[simp] theorem RX {b:Bool}:K2 (.bl b) h=.ok (.bl b) h:=(rfl)
@[simp] theorem SV {ms:Ma}:bV ms δ h=(ms δ h).bind fun xs h1=>if xs.length<=sizeLine then .ok (.tup xs) h1 else .bad:=(rfl)
@[simp] theorem SX {ms:Ma}:iP ms δ h=(ms δ h).bind fun xs h1=>if xs.length<=sizeLine then .ok (.ref h1.length) (h1++[.lst xs]) else .bad:=(rfl)
@[simp] theorem QP:BO δ h=.ok (.ref h.length) (h++[.dK []]):=(rfl)
@[simp] theorem SY:aH δ h=.ok [] h:=(rfl)
@[simp] theorem RY {ms:Ma}:aB m ms δ h=(m δ h).bind fun x h1=>(ms δ h1).bind fun xs h2=>.ok (x :: xs) h2:=(rfl)
@[simp] theorem Ud {g:List PV->PH->Rs PV} {ms:Ma}:mCB g ms δ h=(ms δ h).bind g:=(rfl)
@[simp] theorem RZ {n:Nat} {f:Fn} {ms:Ma}:cB n f ms δ h=(ms δ h).bind fun ps h1=>if ps.length=n then f ps h1 else .bad:=(rfl)
@[simp] theorem SZ:A1 δ h=.ok none h:=(rfl)
def Kc (x:PV) (h:PH):Rs (Option Int):=match x with
 | .int i=>.ok (some i) h
 | _=>.bad
@[simp] theorem PZ {i:Int}:Kc (.int i) h=.ok (some i) h:=(rfl)
@[simp] theorem UM:mP m δ h=(m δ h).bind Kc:=(rfl)
@[simp] theorem Ue {ml mh:Mo}:mSl m ml mh δ h=(m δ h).bind fun x h1=>(ml δ h1).bind fun l h2=>(mh δ h2).bind fun u h3=>vSl x l u h3:=(rfl)
@[simp] theorem Ug {ty:PV->PH->Bool} {g:PV->List PV->PH->Rs PV} {ms:Ma}:mMt ty g m ms δ h=(m δ h).bind fun x h1=>if ty x h1=true then (ms δ h1).bind fun ps h2=>g x ps h2 else .bad:=(rfl)
@[simp] theorem T4 {ty:PV->PH->Bool} {g:PV->List PV->PH->Rs PV}:Nd ty g m δ h=(m δ h).bind fun x h1=>if ty x h1=true then g x [] h1 else .bad:=(rfl)
@[simp] theorem rA:sizeLine=16777216:=by rw [sizeLine_eq]
theorem Nh {i j:Int} {h:PH} (c:(-18446744073709551616 < i/\i < 18446744073709551616)\/(-18446744073709551616 < j/\j < 18446744073709551616)):BM (.int i) (.int j) h=.ok (.int (i*j)) h:=by
 show (if CT i j then _ else _)=_
 exact if_pos c
@[simp] theorem S0 {i j:Int} (c:(-18446744073709551616 < i/\i < 18446744073709551616)\/(-18446744073709551616 < j/\j < 18446744073709551616)):vInt CT (fun i j=>i*j) (.int i) (.int j) h=.ok (.int (i*j)) h:=Nh c
@[simp] theorem T5 {i j:Int} (c:0 < j/\j < 1073741824):vInt Je (fun i j=>i / j) (.int i) (.int j) h=.ok (.int (i / j)) h:=if_pos c
@[simp] theorem T6 {i j:Int} (c:0 < j):vInt (fun _ j=>0 < j) (fun i j=>i % j) (.int i) (.int j) h=.ok (.int (i % j)) h:=if_pos c
@[simp] theorem T7 {i j:Int} (c:0<=j/\j<=1000000/\-18446744073709551616 < i/\i < 18446744073709551616):vInt Hb (fun i j=>i ^ j.toNat) (.int i) (.int j) h=.ok (.int (i ^ j.toNat)) h:=by
 show (if Hb i j then _ else _)=_
 refine if_pos ⟨c.1,c.2.1,?_⟩
 obtain ⟨_,_,h1,h2⟩:=c
 omega
@[simp] theorem T8 {i j:Int}:BL (.int i) (.int j) h=.ok (.int (i - j)) h:=(rfl)
@[simp] theorem T9 {i:Int}:U3 (.int i) h=.ok (.int (-i)) h:=(rfl)
@[simp] theorem QQ {i j:Int}:aT (.int i) (.int j) h=.ok (.int (i+j)) h:=(rfl)
@[simp] theorem AX {x y:Str} (c:x.length+y.length<=16777216):aT (.str x) (.str y) h=.ok (.str (x++y)) h:=if_pos c
@[simp] theorem oR {xs ys:List PV} (c:xs.length+ys.length<=16777216):aT (.tup xs) (.tup ys) h=.ok (.tup (xs++ys)) h:=by
 cases xs with
 | nil=>rfl
 | cons x xs=>exact if_pos ⟨rfl,c⟩
@[simp] theorem S1 {f:Int->Int->Bool} {g:List Nat->List Nat->Bool} {i j:Int}:Dk f g (.int i) (.int j) h=.ok (.bl (f i j)) h:=(rfl)
@[simp] theorem S2 {f:Int->Int->Bool} {g:List Nat->List Nat->Bool} {i j:Str}:Dk f g (.str i) (.str j) h=.ok (.bl (g i.cps.toList j.cps.toList)) h:=(rfl)
@[simp] theorem Uh {b:Bool}:tru (.bl b) h=.ok b h:=(rfl)
@[simp] theorem T':tru .non h=.ok false h:=(rfl)
@[simp] theorem Ta {i:Int}:tru (.int i) h=.ok (i != 0) h:=(rfl)
@[simp] theorem Tb {xs:List PV}:tru (.tup xs) h=.ok (!xs.isEmpty) h:=(rfl)
@[simp] theorem S3 {p:PV}:ofO (some p) h=.ok p h:=(rfl)
@[simp] theorem S4 {b:Bool}:ofB (some b) h=.ok (.bl b) h:=(rfl)
@[simp] theorem Tc {xs:List PV} {i:Int}:vIx (.tup xs) (.int i) h=ofO (atI xs i) h:=(rfl)
@[simp] theorem Ui {xs:List PV} {i:Int}:vIx (.fl xs) (.int i) h=ofO (atI xs i) h:=(rfl)
theorem dJ {n:Nat} {xs:List PV} {i:Int} (e:h[n]?=some (.lst xs)):vIx (.ref n) (.int i) h=ofO (atI xs i) h:=by simp [vIx,aS,e]
@[simp] theorem Ni {z:Str} {i:Int} (c:z.length<=16777216):vIx (.str z) (.int i) h=ofO ((atI z.cps.toList i).map fun c=>.str ⟨#[c]⟩) h:=if_pos c
@[simp] theorem S5 {xs:List PV}:qY [.tup xs] h=.ok (.int xs.length) h:=(rfl)
@[simp] theorem Td {xs:List PV}:qY [.fl xs] h=.ok (.int xs.length) h:=(rfl)
theorem Dn {n:Nat} {xs:List PV} (e:h[n]?=some (.lst xs)):qY [.ref n] h=.ok (.int xs.length) h:=by simp [qY,aS,e]
@[simp] theorem Te {i j:Int}:Nc [.int i,.int j] h=.ok (.int (if j < i then j else i)) h:=(rfl)
@[simp] theorem Tf {i j:Int}:RN [.int i,.int j] h=.ok (.int (if j > i then j else i)) h:=(rfl)
@[simp] theorem S6 {i:Int} {c:String}:Nb [.int i,.ty c] h=if c∈known then .ok (.bl (Dm "int" c)) h else .bad:=(rfl)
@[simp] theorem S7 {i:Str} {c:String}:Nb [.str i,.ty c] h=if c∈known then .ok (.bl (Dm "str" c)) h else .bad:=(rfl)
@[simp] theorem Tg {i:Bool} {c:String}:Nb [.bl i,.ty c] h=if c∈known then .ok (.bl (Dm "bool" c)) h else .bad:=(rfl)
@[simp] theorem S8 {i:List PV} {c:String}:Nb [.tup i,.ty c] h=if c∈known then .ok (.bl (Dm "tuple" c)) h else .bad:=(rfl)
theorem eM {n:Nat} {xs:List PV} (e:h[n]?=some (.lst xs)):isL (.ref n) h=true:=by simp [isL,fA,e]
theorem cD {n:Nat} {xs:List PV} {p:PV} (e:h[n]?=some (.lst xs)) (c:xs.length < 16777216):onL bA (.ref n) [p] h=.ok .non (h.set n (.lst (xs++[p]))):=by simp [onL,fA,e,bA,c]
theorem Nj {α:Type} {xs:List α} {i:Int} (h0:0<=i) (h1:i < xs.length):atI xs i=xs[i.toNat]?:=by
 unfold atI ixN
 rw [if_pos h0,if_pos h1]; rfl
theorem BR {g:PH->Bool} {tg:Mg} {body:Ms} {E:FE} (I:Nat->Ev->PH->Prop):∀ (xs:List PV) (k:Nat) (δ:Ev) (h:PH),I k δ h->
  (∀ i x δ h,k<=i->xs[i - k]?=some x->I i δ h->g h=true/\∃ δ1,tg x δ=some δ1/\(body δ1 h).W { nx:=I (i+1),ct:=I (i+1),rt:=E.rt,bk:=E.nx })->
  (∀ δ h,I (k+xs.length) δ h->g h=true/\E.nx δ h)->(iR g tg body xs δ h).W E
 | [],k,δ,h,i0,_,fin=>by
  obtain ⟨h1,h2⟩:=fin δ h i0
  simp [iR,h1,h2]
 | x :: xs,k,δ,h,i0,step,fin=>by
  obtain ⟨h1,δ1,h2,h3⟩:=step k x δ h (Nat.le_refl _) (by simp) i0
  have go:∀ δ2 h2,I (k+1) δ2 h2->(iR g tg body xs δ2 h2).W E:=fun δ2 h2 i2=>
   BR I xs (k+1) δ2 h2 i2 (fun i y δ h hk hy=>step i y δ h (by omega) (by
    have:i - k=(i - (k+1))+1:=by omega
    rw [this,List.getElem?_cons_succ]; exact hy)) (fun δ h hi=>fin δ h (by
    have e:k+(x :: xs).length=k+1+xs.length:=by simp; omega
    rw [e]; exact hi))
  unfold iR
  rw [if_pos h1,h2]
  show Fl.W (match body δ1 h with | .nx δ2 h2=>iR g tg body xs δ2 h2 | .ct δ2 h2=>iR g tg body xs δ2 h2 | .bk δ2 h2=>.nx δ2 h2 | r=>r) E
  cases e:body δ1 h with
  | nx δ2 h2=>rw [e] at h3; exact go δ2 h2 h3
  | ct δ2 h2=>rw [e] at h3; exact go δ2 h2 h3
  | bk δ2 h2=>rw [e] at h3; exact h3
  | rt p h2=>rw [e] at h3; exact h3
  | exc=>rw [e] at h3; exact h3
  | bad=>rw [e] at h3; exact h3
theorem BS {ms:Ma} {i:Nat} {body:Ms} {j:Int} (I:Nat->Ev->PH->Prop) (e:ms δ h=.ok [.int j] h) (hj:-4611686018427387904<=j/\j < 4611686018427387904) (h0:I 0 δ h)
  (step:∀ (q:Nat) δ h,(q:Int) < j->I q δ h->(body (δ.set i (some (.int q))) h).W { nx:=I (q+1),ct:=I (q+1),rt:=E.rt,bk:=E.nx })
  (fin:∀ δ h,I j.toNat δ h->E.nx δ h):(gO (uU ms) (gN i) body δ h).W E:=by
 unfold gO uU
 rw [e]
 have hj':-(2 ^ 62)<=j/\j < 2 ^ 62:=hj
 simp only [Rs.bind_ok,K4,if_pos hj',Rs.fl_ok]
 refine BR I _ 0 δ h h0 (fun q x δ h _ hx hi=>?_) (fun δ h hi=>⟨rfl,fin δ h (by rw [gM,Nat.zero_add] at hi; exact hi)⟩)
 have hq:q < j.toNat:=by
  have:=(List.getElem?_eq_some_iff.mp hx).1
  rw [gM] at this
  omega
 rw [Nat.sub_zero,xP _ _ _ hq] at hx
 cases hx
 refine ⟨rfl,_,rfl,?_⟩
 rw [Int.zero_add]
 exact step q δ h (by omega) hi
theorem Q1 {m:Me} {tg:Mg} {body:Ms} {xs:List PV} (I:Nat->Ev->PH->Prop) (e:m δ h=.ok (.tup xs) h\/m δ h=.ok (.fl xs) h) (h0:I 0 δ h)
  (step:∀ (q:Nat) x δ h,xs[q]?=some x->I q δ h->∃ δ1,tg x δ=some δ1/\(body δ1 h).W { nx:=I (q+1),ct:=I (q+1),rt:=E.rt,bk:=E.nx })
  (fin:∀ δ h,I xs.length δ h->E.nx δ h):(gO (bB m) tg body δ h).W E:=by
 have go:(iR (fun _=>true) tg body xs δ h).W E:=BR I _ 0 δ h h0 (fun q x δ h _ hx hi=>⟨rfl,step q x δ h (by simpa using hx) hi⟩) (fun δ h hi=>⟨rfl,fin δ h (by simpa using hi)⟩)
 unfold gO bB
 rcases e with e | e <;> rw [e] <;> exact go
theorem jQ {m:Me} {tg:Mg} {body:Ms} {n:Nat} {xs:List PV} {h1:PH} (I:Nat->Ev->PH->Prop) (e:m δ h=.ok (.ref n) h1) (hn:h1[n]?=some (.lst xs)) (h0:I 0 δ h1)
  (keep:∀ q δ h,q<=xs.length->I q δ h->h[n]?=some (.lst xs))
  (step:∀ (q:Nat) x δ h,xs[q]?=some x->I q δ h->∃ δ1,tg x δ=some δ1/\(body δ1 h).W { nx:=I (q+1),ct:=I (q+1),rt:=E.rt,bk:=E.nx })
  (fin:∀ δ h,I xs.length δ h->E.nx δ h):(gO (bB m) tg body δ h).W E:=by
 have hk:∀ {h:PH},h[n]?=some (.lst xs)->A2 n xs h=true:=fun {h} e=>by
  have e3:aS h n=some xs:=by unfold aS; rw [e]
  unfold A2; rw [e3]; exact PV.beqs_self xs
 unfold gO bB
 rw [e]
 have e2:ofSeq (.ref n) h1=.ok ⟨xs,A2 n xs⟩ h1:=by
  have e3:aS h1 n=some xs:=by unfold aS; rw [hn]
  unfold ofSeq; simp only [e3]
 rw [Rs.bind_ok,e2,Rs.fl_ok]
 refine BR I _ 0 δ h1 h0 (fun q x δ h _ hx hi=>?_) (fun δ h hi=>?_)
 ·have hx':xs[q]?=some x:=by simpa using hx
  have:=(List.getElem?_eq_some_iff.mp hx').1
  exact ⟨hk (keep q δ h (by omega) hi),step q x δ h hx' hi⟩
 ·have hi':I xs.length δ h:=by simpa using hi
  exact ⟨hk (keep _ δ h (Nat.le_refl _) hi'),fin δ h hi'⟩
theorem jR {N:Nat} {body:Ms} {args:List PV} {Q:PV->PH->Prop} (w:(body (args.map some++List.replicate (N - args.length) none) h).W { nx:=fun _ h=>Q .non h,rt:=Q }):(mFn N body args h).W Q:=by
 unfold mFn
 cases e:body (args.map some++List.replicate (N - args.length) none) h with
 | nx δ h'=>rw [e] at w; exact w
 | rt p h'=>rw [e] at w; exact w
 | _=>rw [e] at w; exact w.elim
@[simp] theorem UN {i:Nat} {p:PV}:gN i p δ=some (δ.set i (some p)):=(rfl)
@[simp] theorem Uj {n:Nat} {u:Mgs} {ps:List PV}:gTp n u (.tup ps) δ=if ps.length=n then u ps δ else none:=(rfl)
@[simp] theorem Uk {t:Mg} {u:Mgs} {p:PV} {r:List PV}:gCn t u (p :: r) δ=(t p δ).bind (u r):=(rfl)
@[simp] theorem Ul:gNl [] δ=some δ:=(rfl)
end
def Ext (h h':PH):Prop:=∀ (n:Nat) (o:MO),h[n]?=some o->h'[n]?=some o
theorem Ext.refl (h:PH):Ext h h:=fun _ _ e=>e
theorem Ext.trans {h h1 h2:PH} (a:Ext h h1) (b:Ext h1 h2):Ext h h2:=fun n o e=>b n o (a n o e)
theorem Ext.app (h g:PH):Ext h (h++g):=fun n o e=>by
 rw [List.getElem?_append_left (List.getElem?_eq_some_iff.mp e).1]; exact e
theorem Ext.len {h h':PH} (e:Ext h h'):h.length<=h'.length:=by
 rcases Nat.lt_or_ge h'.length h.length with z | z
 ·have:h[h'.length]?=some h[h'.length]:=by simp [z]
  have:=(List.getElem?_eq_some_iff.mp (e _ _ this)).1
  omega
 ·exact z
theorem aN {h:PH} {o:MO}:(h++[o])[h.length]?=some o:=by simp
theorem dX {h:PH} {n:Nat} {o o':MO} (e:h[n]?=some o):(h.set n o')[n]?=some o':=List.getElem?_set_self (List.getElem?_eq_some_iff.mp e).1
end L2
set_option Elab.async false
set_option linter.all false
set_option maxRecDepth 100000
namespace L2
open PySem
def PV.pl:Nat->PV->Bool
 | _,.non=>true
 | _,.int _=>true
 | _,.str _=>true
 | n+1,.tup xs=>xs.all (PV.pl n)
 | _,_=>false
theorem Gv {x:PV} {xs:List PV} {d:D} {ds:List D} (h1:x.d=some d) (h2:PV.ds xs=some ds):PV.ds (x :: xs)=some (d :: ds):=by simp [PV.ds,h1,h2]
theorem S9 {xs:List PV} {ds:List D} (h:PV.ds xs=some ds):(PV.tup xs).d=some (.tup ds):=by simp [PV.d,h]
theorem bR {xs:List PV} {d:D} (h:(PV.tup xs).d=some d):∃ ds,PV.ds xs=some ds/\d=.tup ds:=by
 unfold PV.d at h
 split at h
 ·rename_i ds e; cases h; exact ⟨ds,e,rfl⟩
 ·cases h
theorem cO {x:PV} {xs:List PV} {ds:List D} (h:PV.ds (x :: xs)=some ds):∃ d r,x.d=some d/\PV.ds xs=some r/\ds=d :: r:=by
 unfold PV.ds at h
 split at h
 ·rename_i d r e1 e2; cases h; exact ⟨d,r,e1,e2,rfl⟩
 ·cases h
theorem jS:∀ (n:Nat) (x:PV),x.pl n=true->∃ d,x.d=some d/\d.depth<=n:=by
 intro n
 induction n with
 | zero=>
  intro x h
  cases x <;> first | exact ⟨_,rfl,Nat.le_refl _⟩ | (simp [PV.pl] at h)
 | succ n ih=>
  intro x h
  cases x with
  | tup xs=>
   have h:xs.all (PV.pl n)=true:=h
   have many:∀ (xs:List PV),xs.all (PV.pl n)=true->∃ ds,PV.ds xs=some ds/\D.depths ds<=n:=by
    intro xs
    induction xs with
    | nil=>intro _; exact ⟨[],rfl,Nat.zero_le _⟩
    | cons x xs ihx=>
     intro h
     simp only [List.all_cons,Bool.and_eq_true] at h
     obtain ⟨d,h1,h2⟩:=ih x h.1
     obtain ⟨ds,h3,h4⟩:=ihx h.2
     refine ⟨d :: ds,Gv h1 h3,?_⟩
     show max d.depth (D.depths ds)<=n
     omega
   obtain ⟨ds,h1,h2⟩:=many xs h
   refine ⟨.tup ds,S9 h1,?_⟩
   show D.depths ds+1<=n+1
   omega
  | _=>first | exact ⟨_,rfl,Nat.zero_le _⟩ | (simp [PV.pl] at h)
theorem Do:∀ (n:Nat) (x y:PV) (d e:D),x.pl n=true->y.pl n=true->x.d=some d->y.d=some e->eqD d e=decide (x=y):=by
 intro n
 induction n with
 | zero=>
  intro x y d e hx hy h1 h2
  cases x <;> first | (simp [PV.pl] at hx; done) | skip
  all_goals cases h1
  all_goals cases y <;> first | (simp [PV.pl] at hy; done) | skip
  all_goals cases h2
  all_goals simp only [eqD]
  all_goals rw [Bool.eq_iff_iff]
  all_goals simp
 | succ n ih=>
  intro x y d e hx hy h1 h2
  have lists:∀ (xs ys:List PV) (ds es:List D),xs.all (PV.pl n)=true->ys.all (PV.pl n)=true->PV.ds xs=some ds->PV.ds ys=some es->eG ds es=decide (xs=ys):=by
   intro xs
   induction xs with
   | nil=>
    intro ys ds es _ _ h1 h2
    cases h1
    cases ys with
    | nil=>cases h2; rfl
    | cons y ys=>obtain ⟨d,r,_,_,rfl⟩:=cO h2; simp [eG]
   | cons x xs ihx=>
    intro ys ds es hx hy h1 h2
    obtain ⟨d,r,g1,g2,rfl⟩:=cO h1
    simp only [List.all_cons,Bool.and_eq_true] at hx
    cases ys with
    | nil=>cases h2; simp [eG]
    | cons y ys=>
     obtain ⟨e,q,g3,g4,rfl⟩:=cO h2
     simp only [List.all_cons,Bool.and_eq_true] at hy
     simp only [eG,ih x y d e hx.1 hy.1 g1 g3,ihx ys r q hx.2 hy.2 g2 g4]
     rw [Bool.eq_iff_iff]
     simp
  cases x with
  | tup xs=>
   obtain ⟨ds,g1,rfl⟩:=bR h1
   cases y with
   | tup ys=>
    obtain ⟨es,g2,rfl⟩:=bR h2
    simp only [eqD,lists xs ys ds es hx hy g1 g2]
    rw [Bool.eq_iff_iff]
    simp
   | non=>cases h2; simp [eqD]
   | int j=>cases h2; simp [eqD]
   | str j=>cases h2; simp [eqD]
   | _=>simp [PV.pl] at hy
  | non=>
   cases h1
   cases y with
   | tup ys=>obtain ⟨es,g2,rfl⟩:=bR h2; simp [eqD]
   | non=>cases h2; simp [eqD]
   | int j=>cases h2; simp [eqD]
   | str j=>cases h2; simp [eqD]
   | _=>simp [PV.pl] at hy
  | int i=>
   cases h1
   cases y with
   | tup ys=>obtain ⟨es,g2,rfl⟩:=bR h2; simp [eqD]
   | non=>cases h2; simp [eqD]
   | int j=>cases h2; simp only [eqD]; rw [Bool.eq_iff_iff]; simp
   | str j=>cases h2; simp [eqD]
   | _=>simp [PV.pl] at hy
  | str i=>
   cases h1
   cases y with
   | tup ys=>obtain ⟨es,g2,rfl⟩:=bR h2; simp [eqD]
   | non=>cases h2; simp [eqD]
   | int j=>cases h2; simp [eqD]
   | str j=>cases h2; simp only [eqD]; rw [Bool.eq_iff_iff]; simp
   | _=>simp [PV.pl] at hy
  | _=>simp [PV.pl] at hx
section
variable {x y:PV} {h:PH}
theorem BU (hx:x.pl 40=true) (hy:y.pl 40=true):jP x y h=some (decide (x=y)):=by
 obtain ⟨d,h1,h2⟩:=jS 40 x hx
 obtain ⟨e,h3,h4⟩:=jS 40 y hy
 unfold jP
 rw [h1,h3]
 simp only [h2,if_true,Do 40 x y d e hx hy h1 h3]
theorem Kd (hx:x.pl 40=true) (hy:y.pl 40=true):vEq x y h=.ok (.bl (decide (x=y))) h:=by unfold vEq; rw [BU hx hy]; rfl
theorem Q2 (hx:x.pl 40=true) (hy:y.pl 40=true):vNe x y h=.ok (.bl (!decide (x=y))) h:=by unfold vNe; rw [BU hx hy]; rfl
@[simp] theorem Th {i j:Str}:vEq (.str i) (.str j) h=.ok (.bl (decide (i=j))) h:=by rw [Kd rfl rfl]; congr 2; simp
@[simp] theorem Ti {i j:Str}:vNe (.str i) (.str j) h=.ok (.bl (!decide (i=j))) h:=by rw [Q2 rfl rfl]; congr 3; simp
theorem Ke {ys:List PV} (hx:x.pl 39=true) (hy:ys.all (PV.pl 39)=true):xM x ys=some (decide (x∈ys)):=by
 have key:∀ ys:List PV,ys.all (PV.pl 39)=true->∃ ds,PV.ds ys=some ds/\D.depths ds<=39/\∀ d,x.d=some d->(ds.any fun e=>eqD e d)=decide (x∈ys):=by
  intro ys
  induction ys with
  | nil=>intro _; exact ⟨[],rfl,Nat.zero_le _,fun _ _=>by simp⟩
  | cons y ys ih=>
   intro h
   simp only [List.all_cons,Bool.and_eq_true] at h
   obtain ⟨e,h1,h2⟩:=jS 39 y h.1
   obtain ⟨ds,h3,h4,h5⟩:=ih h.2
   refine ⟨e :: ds,Gv h1 h3,?_,fun d hd=>?_⟩
   ·show max e.depth (D.depths ds)<=39
    omega
   ·rw [List.any_cons,h5 d hd,Do 39 y x e d h.1 hx h1 hd,Bool.eq_iff_iff]
    simp only [Bool.or_eq_true,decide_eq_true_eq,List.mem_cons]
    constructor
    ·rintro (h | h)
     ·exact .inl h.symm
     ·exact .inr h
    ·rintro (h | h)
     ·exact .inl h.symm
     ·exact .inr h
 obtain ⟨d,h1,h2⟩:=jS 39 x hx
 obtain ⟨ds,h3,h4,h5⟩:=key ys hy
 unfold xM
 rw [h1,h3]
 simp only [show D.depths ds<=40 by omega,if_true,h5 d h1]
theorem xV {n:Nat} {ys:List PV} (e:h[n]?=some (.lst ys)) (hx:x.pl 39=true) (hy:ys.all (PV.pl 39)=true):xN x (.ref n) h=.ok (.bl (!decide (x∈ys))) h:=by
 have e3:aS h n=some ys:=by unfold aS; rw [e]
 unfold xN HM; simp only [e3,Ke hx hy]; rfl
theorem rB {n m:Nat} {xs ys:List PV} (e1:h[n]?=some (.lst xs)) (e2:h[m]?=some (.lst ys)) (hx:xs.all (PV.pl 39)=true) (hy:ys.all (PV.pl 39)=true):jP (.ref n) (.ref m) h=some (decide (xs=ys)):=by
 have e3:eI (.ref n) h=some xs:=by unfold eI aS; simp only [e1]
 have e4:eI (.ref m) h=some ys:=by unfold eI aS; simp only [e2]
 have hx':(PV.tup xs).pl 40=true:=hx
 have hy':(PV.tup ys).pl 40=true:=hy
 obtain ⟨d,h1,h2⟩:=jS 40 _ hx'
 obtain ⟨e,h3,h4⟩:=jS 40 _ hy'
 obtain ⟨ds,g1,rfl⟩:=bR h1
 obtain ⟨es,g2,rfl⟩:=bR h3
 have h5:=Do 40 _ _ _ _ hx' hy' h1 h3
 have h2':D.depths ds+1<=40:=h2
 have h5':eG ds es=decide (xs=ys):=by
  have:eG ds es=decide (PV.tup xs=PV.tup ys):=h5
  rw [this,Bool.eq_iff_iff]; simp
 unfold jP
 have n1:(PV.ref n).d=none:=rfl
 rw [n1]
 simp only [e3,e4,g1,g2,show D.depths ds<=40 by omega,if_true,h5']
theorem Nk {n m:Nat} {xs ys:List PV} (e1:h[n]?=some (.lst xs)) (e2:h[m]?=some (.lst ys)) (hx:xs.all (PV.pl 39)=true) (hy:ys.all (PV.pl 39)=true):vEq (.ref n) (.ref m) h=.ok (.bl (decide (xs=ys))) h:=by unfold vEq; rw [rB e1 e2 hx hy]; rfl
theorem Gw {n m:Nat} {xs ys:List PV} (e1:h[n]?=some (.lst xs)) (e2:h[m]?=some (.lst ys)) (hx:xs.all (PV.pl 39)=true) (hy:ys.all (PV.pl 39)=true):vNe (.ref n) (.ref m) h=.ok (.bl (!decide (xs=ys))) h:=by unfold vNe; rw [rB e1 e2 hx hy]; rfl
end
end L2
namespace L2
section
variable {α:Type} {a b c d e f g:α} {r:List α}
theorem rC {xs:List α} {v:α} (i:Nat) (h:xs[i]?=some v):atI xs (i:Int)=some v:=pS h
@[simp] theorem UT:atI (a :: r) 0=some a:=rC 0 rfl
@[simp] theorem UU:atI (a :: b :: r) 1=some b:=rC 1 rfl
@[simp] theorem UV:atI (a :: b :: c :: r) 2=some c:=rC 2 rfl
@[simp] theorem UW:atI (a :: b :: c :: d :: r) 3=some d:=rC 3 rfl
@[simp] theorem UX:atI (a :: b :: c :: d :: e :: r) 4=some e:=rC 4 rfl
theorem Nl {xs:List α} {i:Int} (h:xs≠[]):∃ v,atI xs (i % (xs.length:Int))=some v/\v∈xs:=by
 have h0:0 < xs.length:=List.length_pos_iff.mpr h
 obtain ⟨v,h1,h2⟩:=Px (xs:=xs) (i:=i % (xs.length:Int)) (Int.emod_nonneg _ (by omega)) (Int.emod_lt_of_pos _ (by omega))
 exact ⟨v,h1,List.mem_of_getElem? h2⟩
end
end L2
namespace L2
end L2
namespace L2
theorem Nm {xs:List PV} (hx:(PV.tup xs).pl 40=true) (h:PH):vEq (.tup xs) (.tup []) h=.ok (.bl (decide (xs=[]))) h:=by rw [Kd hx rfl]; congr 2; simp
end L2
set_option Elab.async false
set_option linter.all false
set_option maxRecDepth 100000
namespace L2
open PySem PySem.Spec PyProof.Rows PySem.SeqAt
open PySem.AutoSeq1 (wpAny_loadPart')
open PySem.MeetsSeq PySem.MeetsSeq2 PySem.MeetsSeq3
def Kf (A:Around) (s:Shared) (v u:Value) (b:Bool):Prop:=∀ (prog:Program) (w:World) (E:Value->Shared->Prop) (Q:Value->Shared->Prop),Q (.bool b) s->wpAny (model prog w) A (richCompare .Lt v u) Q E s
def S' (A:Around) (s:Shared) (v u:Value) (d e:D):Prop:=EqAt A s v u (eqD d e)/\(eqD d e=false->∀ b,ltD d e=some b->Kf A s v u b)
abbrev AY (A:Around) (s:Shared):List Value->List Value->List D->List D->Prop:=fun vs us ds es=>vs.length=ds.length/\us.length=es.length/\∀ (j:Nat) v u d e,vs[j]?=some v->us[j]?=some u->ds[j]?=some d->es[j]?=some e->S' A s v u d e
theorem AY.tail {A:Around} {s:Shared} {v u:Value} {vs us:List Value} {d e:D} {ds es:List D} (h:AY A s (v :: vs) (u :: us) (d :: ds) (e :: es)):S' A s v u d e/\AY A s vs us ds es:=
 ⟨h.2.2 0 v u d e rfl rfl rfl rfl,by have:=h.1; simpa using this,by have:=h.2.1; simpa using this,fun j v u d e h1 h2 h3 h4=>h.2.2 (j+1) v u d e (by simpa using h1) (by simpa using h2) (by simpa using h3) (by simpa using h4)⟩
theorem rD (l b:Addr) (items items2:Array Value) (n n2:Nat) (dd dd2:Option Addr) (sl sl2:Array (Option Value)) (ds es:List D) (c:Bool) (hc:jE ds es=some c):
  Meets (Builtin.«tuple.__lt__» ⟨[.ref l,.ref b],[]⟩)
   (fun A R s=>s.heap.get? l=some { cls:=.type "tuple",dict:=dd,data:=.seq items n,slots:=sl }/\s.heap.get? b=some { cls:=.type "tuple",dict:=dd2,data:=.seq items2 n2,slots:=sl2 }/\
    AY A.in1 s items.toList items2.toList ds es/\R (.ok (.ret (.bool c))) s):=
 .of_wp fun prog w A R s h=>by
  obtain ⟨hp,g,d,tk,os⟩:=s; obtain ⟨hl,hb,hit,h⟩:=h
  have f2:=AutoSeq1.sub_tuple_tuple
  have z1:items.size=ds.length:=by rw [<- hit.1]; simp
  have z2:items2.size=es.length:=by rw [<- hit.2.1]; simp
  wp_walk using wpAny_loadPart' hl,wpAny_loadPart' hb,wpAny_forIn_list _ (fun rest b s'=>b.1=none/\s'=⟨hp,g,d,tk,os⟩/\∃ (vs ws:List Value) (ns' ms':List D),rest=vs.zip ws/\
   AY A.in1 ⟨hp,g,d,tk,os⟩ vs ws ns' ms'/\ns'.length+items2.size=ms'.length+items.size/\jE ns' ms'=some c) _
  case turn=>
   rintro ⟨y,x⟩ rest b s' ⟨hb',rfl,vs,ws,ns',ms',hz,hvi,hlen,hR⟩
   cases vs with
   | nil=>rw [List.zip_nil_left] at hz; cases hz
   | cons v vs=>
    cases ws with
    | nil=>rw [List.zip_nil_right] at hz; cases hz
    | cons u ws=>
     rw [List.zip_cons_cons] at hz
     injection hz with hyx hrest
     injection hyx with hy hx
     subst hy hx
     cases ns' with
     | nil=>have:=hvi.1; simp at this
     | cons a ns'=>
      cases ms' with
      | nil=>have:=hvi.2.1; simp at this
      | cons e ms'=>
       obtain ⟨⟨h1,h2⟩,ht⟩:=AY.tail hvi
       simp only [List.length_cons] at hlen
       simp only [jE] at hR
       refine wpAny_bind (h1 prog w _ _ ?_)
       cases q:eqD a e with
       | true=>
        rw [q,if_pos rfl] at hR
        wp_walk
        exact ⟨rfl,rfl,_,_,_,_,hrest,ht,by omega,hR⟩
       | false=>
        rw [q,if_neg Bool.false_ne_true] at hR
        have hri:=h2 q c hR prog w
        wp_walk using hri
        exact ⟨_,rfl,by simpa using h⟩
  case fin=>
   rintro ⟨b1,b2⟩ s' ⟨hb',rfl,vs,ws,ns',ms',hz,hvi,hlen,hR⟩
   simp only at hb'
   subst hb'
   have hv:c=decide (items.size < items2.size):=by
    cases ns' with
    | nil=>
     cases ms' with
     | nil=>
      simp only [List.length_nil] at hlen
      simp only [jE] at hR
      cases hR
      exact (decide_eq_false (by omega)).symm
     | cons e ms'=>
      simp only [List.length_nil,List.length_cons] at hlen
      simp only [jE] at hR
      cases hR
      exact (decide_eq_true (by omega)).symm
    | cons a ns'=>
     cases ms' with
     | nil=>
      simp only [List.length_nil,List.length_cons] at hlen
      simp only [jE] at hR
      cases hR
      exact (decide_eq_false (by omega)).symm
     | cons e ms'=>
      exfalso
      cases vs with
      | nil=>have:=hvi.1; simp at this
      | cons v vs=>
       cases ws with
       | nil=>have:=hvi.2.1; simp at this
       | cons u ws=>rw [List.zip_cons_cons] at hz; cases hz
   rw [hv] at h
   wp_walk
   exact ⟨_,rfl,by simpa [Builtin.Tuple.tupleCompareSizes] using h⟩
  case h=>
   exact ⟨rfl,rfl,items.toList,items2.toList,ds,es,rfl,hit,by omega,hc⟩
section
variable {X:Cx} {pins:List (Addr×Obj)} {σ:St} {H:Hp} {s:Shared}
theorem Um (I:Inv X pins σ H s):∀ (n:Nat) (d e:D) (A:Around) (x y:V) (v u:Value) (b:Bool),d.depth<=n->A.units+n < cLine->Rep X.K H d x->Rep X.K H e y->RelV x v->RelV y u->ltD d e=some b->Kf A s v u b:=by
 intro n
 induction n with
 | zero=>
  intro d e A x y v u b hd hu hx hy rx ry hb
  cases d with
  | tup ds=>exact absurd hd (by show ¬ D.depths ds+1<=0; omega)
  | int i=>
   cases e with
   | int j=>
    cases hx; cases hy
    obtain ⟨t,rfl⟩:=rx
    obtain ⟨t',rfl⟩:=ry
    simp only [ltD] at hb
    cases hb
    exact fun prog w E Q q=>(PyProof.Rows.lt_int q:wpAny (model prog w) A (compareOp .Lt _ _) Q E s)
   | _=>simp [ltD] at hb
  | str i=>
   cases e with
   | str j=>
    cases hx; cases hy
    obtain ⟨t,rfl⟩:=rx
    obtain ⟨t',rfl⟩:=ry
    simp only [ltD] at hb
    cases hb
    exact fun prog w E Q q=>(PyProof.Rows.lt_str q:wpAny (model prog w) A (compareOp .Lt _ _) Q E s)
   | _=>simp [ltD] at hb
  | _=>cases e <;> simp [ltD] at hb
 | succ n ih=>
  intro d e A x y v u b hd hu hx hy rx ry hb
  by_cases h0:d.depth<=n
  ·exact ih d e A x y v u b h0 (by omega) hx hy rx ry hb
  ·cases d with
   | tup ds=>
    cases e with
    | tup es=>
     have hds:D.depths ds<=n:=by have:D.depths ds+1<=n+1:=hd; omega
     obtain ⟨a,vs,rfl,q,r⟩:=hx
     cases rx
     obtain ⟨its,rv,p,_⟩:=I.tuple q
     obtain ⟨a',vs',rfl,q',r'⟩:=hy
     cases ry
     obtain ⟨its',rv',p',_⟩:=I.tuple q'
     have hb':jE ds es=some b:=by simpa [ltD] using hb
     obtain ⟨⟨cls,dd,data,sl⟩,ho,hc,m,hdt⟩:=id p
     obtain ⟨⟨cls2,dd2,data2,sl2⟩,ho2,hc2,m2,hd2⟩:=id p'
     simp only at hc hdt hc2 hd2
     subst hc hdt hc2 hd2
     intro prog w E Q hq
     refine richCompare_meets_room (op:=.Lt) ⟨_,ho,rfl⟩ ⟨_,ho2,rfl⟩ PySem.F.slot_tuple_lt PySem.F.entry_tuple_lt (PySem.F.args_tuple_lt_2 _ _) (rD a a' its.toArray its'.toArray m m2 dd dd2 sl sl2 ds es b hb')
      ⟨ho,ho2,⟨?_,?_,?_⟩,show Value.bool b≠Value.notImplemented/\Q (.bool b) s from ⟨(fun x=>nomatch x),hq⟩⟩ (by omega)
     ·have l1:=r.length
      have l3:=rv.length
      show its.length=ds.length
      omega
     ·have l1:=r'.length
      have l3:=rv'.length
      show its'.length=es.length
      omega
     ·intro j v u d e h1 h2 h3 h4
      obtain ⟨xv,hxv,hrx⟩:=r.at h3
      obtain ⟨yv,hyv,hry⟩:=r'.at h4
      obtain ⟨xu,hxu,hru⟩:=rv.get hxv
      obtain ⟨yu,hyu,hru'⟩:=rv'.get hyv
      have e1:v=xu:=by
       have:its[j]?=some v:=h1
       rw [hxu] at this
       exact (Option.some.inj this).symm
      have e2:u=yu:=by
       have:its'[j]?=some u:=h2
       rw [hyu] at this
       exact (Option.some.inj this).symm
      subst e1 e2
      have hdj:=D.depths_le h3
      refine ⟨Hs I (n:=n) (by omega) ?_ hrx hry hru hru',fun _ b hb=>ih d e _ xv yv v u b (by omega) ?_ hrx hry hru hru' hb⟩
      all_goals (show A.units+1+n < cLine; omega)
    | _=>simp [ltD] at hb
   | _=>exact absurd (Nat.zero_le n) h0
end
variable {C:MC} {k:Nat} {X:Cx}
def HV (x y:PV):Option Bool:=match x.d,y.d with
 | some d,some e=>if d.depth<=40 then ltD d e else none
 | _,_=>none
def AZ:PV->PV->PH->Rs PV:=fun x y h=>match x,y with
 | .tup xs,.tup ys=>ofB (HV (.tup xs) (.tup ys)) h
 | x,y=>vLt x y h
theorem Q3 (hu:X.A.units+64 < cLine) (K:PySem.W.Frag) (hK:X.K=K):OpR X (compareOp .Lt) (fun x y H Q=>∃ d e b,Rep K H d x/\Rep K H e y/\d.depth<=40/\ltD d e=some b/\Q (.bl b) H):=by
 subst hK
 intro pins s σ H x y v u Q I rx ry h
 obtain ⟨d,e,b,hx,hy,hd,hb,q⟩:=h
 exact Um I 40 d e X.A x y v u b hd (by omega) hx hy rx ry hb X.prog X.w X.xe _ ⟨.bl _,H,I,rfl,q⟩
theorem Kg:OpS C k X (compareOp .Lt) AZ:=fun c=>((Q3 c.hu64 C.K c.K).or (U4 c)).imp fun x y H Q h=>by
 obtain ⟨φ,h,p,q,rh,rx,ry,po⟩:=h
 unfold AZ at po
 split at po
 ·obtain ⟨b,e,po⟩:=po.ofB
  unfold HV at e
  split at e
  ·rename_i d e' h1 h2
   split at e
   ·rename_i hd
    exact .inl ⟨d,e',b,rx.rep h1,ry.rep h2,hd,e,po.val rh rfl⟩
   ·cases e
  ·cases e
 ·exact .inr ⟨φ,h,p,q,rh,rx,ry,po⟩
section
variable {h:PH}
@[simp] theorem QR {i j:Int}:AZ (.int i) (.int j) h=.ok (.bl (decide (i < j))) h:=(rfl)
@[simp] theorem QS {i j:Str}:AZ (.str i) (.str j) h=.ok (.bl (decide (i.cps.toList < j.cps.toList))) h:=(rfl)
def ltL (f:PV->PV->Option Bool):List PV->List PV->Option Bool
 | [],[]=>some false
 | [],_ :: _=>some true
 | _ :: _,[]=>some false
 | x :: xs,y :: ys=>if x=y then ltL f xs ys else f x y
def ltP:Nat->PV->PV->Option Bool
 | _,.int a,.int b=>some (decide (a < b))
 | _,.str a,.str b=>some (decide (a.cps.toList < b.cps.toList))
 | n+1,.tup xs,.tup ys=>ltL (ltP n) xs ys
 | _,_,_=>none
theorem Kh:∀ (n:Nat) (x y:PV) (d e:D),x.pl n=true->y.pl n=true->x.d=some d->y.d=some e->ltD d e=ltP n x y:=by
 intro n
 induction n with
 | zero=>
  intro x y d e hx hy h1 h2
  cases x <;> first | (simp [PV.pl] at hx; done) | skip
  all_goals cases h1
  all_goals cases y <;> first | (simp [PV.pl] at hy; done) | skip
  all_goals cases h2
  all_goals simp [ltD,ltP]
 | succ n ih=>
  intro x y d e hx hy h1 h2
  have lists:∀ (xs ys:List PV) (ds es:List D),xs.all (PV.pl n)=true->ys.all (PV.pl n)=true->PV.ds xs=some ds->PV.ds ys=some es->jE ds es=ltL (ltP n) xs ys:=by
   intro xs
   induction xs with
   | nil=>
    intro ys ds es _ _ h1 h2
    cases h1
    cases ys with
    | nil=>cases h2; simp [jE,ltL]
    | cons y ys=>obtain ⟨d,r,_,_,rfl⟩:=cO h2; simp [jE,ltL]
   | cons x xs ihx=>
    intro ys ds es hx hy h1 h2
    obtain ⟨d,r,g1,g2,rfl⟩:=cO h1
    simp only [List.all_cons,Bool.and_eq_true] at hx
    cases ys with
    | nil=>cases h2; simp [jE,ltL]
    | cons y ys=>
     obtain ⟨e,q,g3,g4,rfl⟩:=cO h2
     simp only [List.all_cons,Bool.and_eq_true] at hy
     simp only [jE,ltL,Do n x y d e hx.1 hy.1 g1 g3,ihx ys r q hx.2 hy.2 g2 g4,ih x y d e hx.1 hy.1 g1 g3,decide_eq_true_eq]
  cases x with
  | tup xs=>
   obtain ⟨ds,g1,rfl⟩:=bR h1
   cases y with
   | tup ys=>
    obtain ⟨es,g2,rfl⟩:=bR h2
    simp only [ltD,lists xs ys ds es hx hy g1 g2,ltP]
   | non=>cases h2; simp [ltD,ltP]
   | int j=>cases h2; simp [ltD,ltP]
   | str j=>cases h2; simp [ltD,ltP]
   | _=>simp [PV.pl] at hy
  | non=>cases h1; cases y <;> first | (simp [PV.pl] at hy; done) | (obtain ⟨es,g2,rfl⟩:=bR h2; simp [ltD,ltP]; done) | (cases h2; simp [ltD,ltP])
  | int i=>cases h1; cases y <;> first | (simp [PV.pl] at hy; done) | (obtain ⟨es,g2,rfl⟩:=bR h2; simp [ltD,ltP]; done) | (cases h2; simp [ltD,ltP])
  | str i=>cases h1; cases y <;> first | (simp [PV.pl] at hy; done) | (obtain ⟨es,g2,rfl⟩:=bR h2; simp [ltD,ltP]; done) | (cases h2; simp [ltD,ltP])
  | _=>simp [PV.pl] at hx
end
end L2
set_option Elab.async false
set_option linter.all false
set_option maxRecDepth 100000
namespace L2
open PySem PySem.Spec PyProof.Rows
variable {C:MC} {k:Nat} {X:Cx}
theorem Fd {M:Program×World} {A:Around} {E:Value->Shared->Prop} {s:Shared} {l:Addr} {items:Array Value} {Q:Value->Shared->Prop} (hl:s.heap.IsList l items)
  (h:∀ s₂:Shared,s₂={ s with heap:=s.heap.push { cls:=.type "list_iterator",data:=.fields #[.ref l,.int 0 0] } }->
   (s₂.heap.IsListIter s.heap.objs.size l 0/\s₂.heap.IsList l items)->(∀ b∈[s.heap.objs.size,l],b < s₂.heap.objs.size)->l≠s.heap.objs.size->Q (.ref s.heap.objs.size) s₂):
  wpAny (model M.1 M.2) A (pyIter (.ref l)) Q E s:=by
 have hlt:l < s.heap.objs.size:=by obtain ⟨_,e,_⟩:=hl; exact Heap.lt_size e
 refine wpAny_pyIter_list hl (h _ rfl ⟨⟨_,Heap.get?_push_size _ rfl,rfl,rfl⟩,hl.push _⟩ (fun b hb=>?_) (Nat.ne_of_lt hlt))
 show b < (s.heap.push _).objs.size
 rw [Heap.size_push]
 rcases List.mem_cons.mp hb with rfl | hb
 ·exact Nat.lt_succ_self _
 ·rcases List.mem_cons.mp hb with rfl | hb
  ·exact Nat.lt_succ_of_lt hlt
  ·cases hb
theorem HW (hc:X.calm=true) (K:PySem.W.Frag) (hK:X.K=K):bT X (.builtin "any") (fun xs H Q=>∃ (p:Addr) (bs:List Bool),xs=[.ref p]/\SqL K H p (bs.map V.bl)/\Q (.bl (bs.any id)) H):=by
 subst hK
 intro pins s σ H xs us Q I r h
 obtain ⟨p,bs,rfl,hq,q⟩:=h
 obtain ⟨u,rfl,ru⟩:=vals1 r
 cases ru
 obtain ⟨its,rv,pl,hz⟩:=I.list hq
 have hlen:=rv.length
 rw [List.length_map] at hlen
 refine call_any_walk (Fd (M:=(X.prog,X.w)) pl.isList fun s₂ e st hfp hlI=>?_)
 subst e
 refine ⟨_,_,_,_,_,_,fun i=>(bs[i]?).getD true,rfl,Walks.list (A:=X.A.in1) (I.ok.hd hc) _ p hlI its.toArray,st,?_,fun h' tk hk=>?_⟩
 ·intro i v s' Q' E' hP hQ
  have hP':its[i]?=some v:=by simpa using hP
  obtain ⟨hi,_⟩:=List.getElem?_eq_some_iff.mp hP'
  have hb:i < bs.length:=by omega
  obtain ⟨u,hu,ru⟩:=rv.get (show (bs.map V.bl)[i]?=some (.bl bs[i]) by simp [hb])
  rw [hP'] at hu
  cases hu
  cases ru
  refine wpAny_truthy_bool ?_
  have:(bs[i]?).getD true=bs[i]:=by simp [hb]
  rw [<- this]
  exact hQ
 ·have e:((List.range its.toArray.size).any fun i=>(bs[i]?).getD true)=bs.any id:=by
   have hs:its.toArray.size=bs.length:=by simp [hlen]
   rw [hs,Bool.eq_iff_iff,List.any_eq_true,List.any_eq_true]
   constructor
   ·rintro ⟨i,hi,h⟩
    have hi':=List.mem_range.mp hi
    exact ⟨bs[i],List.getElem_mem hi',by simpa [hi'] using h⟩
   ·rintro ⟨b,hb,h⟩
    obtain ⟨i,hi,rfl⟩:=List.mem_iff_getElem.mp hb
    exact ⟨i,List.mem_range.mpr hi,by simpa [hi] using h⟩
  rw [e]
  exact ⟨.bl _,H,I.kept (old_kept hk),rfl,q⟩
def Dp:List PV->Option (List Int)
 | []=>some []
 | .int i :: r=>(Dp r).map (i :: ·)
 | _ :: _=>none
def HX:List PV->Option (List Bool)
 | []=>some []
 | .bl i :: r=>(HX r).map (i :: ·)
 | _ :: _=>none
theorem Gx {φ:List Addr} {H:Hp}:∀ {xs:List PV} {vs:List V} {ns:List Int},RVs C φ H xs vs->Dp xs=some ns->vs=ns.map V.int
 | [],[],_,_,e=>by cases e; rfl
 | x :: xs,v :: vs,ns,⟨h,r⟩,e=>by
  cases x with
  | int i=>
   cases h
   simp only [Dp,Option.map_eq_some_iff] at e
   obtain ⟨m,e,rfl⟩:=e
   rw [Gx r e]; rfl
  | _=>cases e
 | [],_ :: _,_,h,_=>h.elim
 | _ :: _,[],_,h,_=>h.elim
theorem Ki {φ:List Addr} {H:Hp}:∀ {xs:List PV} {vs:List V} {ns:List Bool},RVs C φ H xs vs->HX xs=some ns->vs=ns.map V.bl
 | [],[],_,_,e=>by cases e; rfl
 | x :: xs,v :: vs,ns,⟨h,r⟩,e=>by
  cases x with
  | bl i=>
   cases h
   simp only [HX,Option.map_eq_some_iff] at e
   obtain ⟨m,e,rfl⟩:=e
   rw [Ki r e]; rfl
  | _=>cases e
 | [],_ :: _,_,h,_=>h.elim
 | _ :: _,[],_,h,_=>h.elim
theorem Kj (ns:List Bool):HX (ns.map PV.bl)=some ns:=by
 induction ns with
 | nil=>rfl
 | cons n ns ih=>simp [HX,ih]
def Kk:List PV->PH->Rs PV:=fun xs h=>match xs with
 | [x]=>match eI x h with
  | some ys=>match HX ys with
   | some ns=>.ok (.bl (ns.any id)) h
   | none=>.bad
  | none=>.bad
 | _=>.bad
theorem Sa:nD C k X (.builtin "any") Kk:=fun c=>(HW c.calm C.K c.K).imp fun vs H Q h=>by
 obtain ⟨φ,h,ps,rh,rv,po⟩:=h
 unfold Kk at po
 split at po
 ·obtain ⟨v,rfl,rx⟩:=rv.one
  split at po
  ·rename_i ys e
   split at po
   ·rename_i ns en
    obtain ⟨a,vs,rfl,sa,ra⟩:=iO rh rx e
    rw [Ki ra en] at sa
    exact ⟨a,ns,rfl,sa,po.val rh rfl⟩
   ·exact po.elim
  ·exact po.elim
 ·exact po.elim
theorem Kl {h:PH} {n:Nat} {ns:List Bool} (e:h[n]?=some (.lst (ns.map PV.bl))):Kk [.ref n] h=.ok (.bl (ns.any id)) h:=by
 have e1:eI (.ref n) h=some (ns.map PV.bl):=by unfold eI aS; simp only [e]
 unfold Kk; simp only [e1,Kj]
open Classical in
noncomputable def HY:PV->PV->PH->Rs PV:=fun x y h=>match x,y with
 | .str z,.int n=>if z.length<=16/\-(2 ^ 63)<=n/\n<=1000 then .ok (.str (Txt.mul z n)) h else .bad
 | _,_=>.bad
theorem OI:OpS C k X (binaryOp .Mult) HY:=fun c=>by
 intro pins s σ H x y v u Q I rx ry h
 obtain ⟨φ,h,p,q,rh,rp,rq,po⟩:=h
 unfold HY at po
 split at po
 ·cases rp; cases rq
  obtain ⟨t,rfl⟩:=rx
  obtain ⟨t',rfl⟩:=ry
  obtain ⟨⟨h1,h2,h3⟩,po⟩:=po.ite
  refine PySem.W.KXi.mul rfl h1 h2 (by omega) fun t'' tk _ _=>⟨.str _,H,I.tok _,⟨_,rfl⟩,po.val rh rfl⟩
 ·exact po.elim
end L2
set_option Elab.async false
set_option linter.all false
namespace L2
open PySem
section
variable {h:PH} {lo hi:Option Int}
@[simp] theorem Gy {xs:List PV}:vSl (.tup xs) lo hi h=.ok (.tup (nF xs lo hi)) h:=(rfl)
@[simp] theorem Uo {xs:List PV}:vSl (.fl xs) lo hi h=.ok (.ref h.length) (h++[.lst (nF xs lo hi)]):=(rfl)
theorem Gz {n:Nat} {xs:List PV} (e:h[n]?=some (.lst xs)):vSl (.ref n) lo hi h=.ok (.ref h.length) (h++[.lst (nF xs lo hi)]):=by
 have e3:aS h n=some xs:=by unfold aS; rw [e]
 unfold vSl; simp only [e3]
@[simp] theorem Up {a b:Bool}:vIs (.bl a) (.bl b) h=.ok (.bl (a == b)) h:=(rfl)
@[simp] theorem QT {a b:Bool}:K0 (.bl a) (.bl b) h=.ok (.bl (!(a == b))) h:=(rfl)
@[simp] theorem Tj {x:PV}:vIs x .non h=.ok (.bl (tS x)) h:=(rfl)
@[simp] theorem Q4 {x:PV}:K0 x .non h=.ok (.bl (!tS x)) h:=(rfl)
end
end L2
namespace L2
end L2
set_option Elab.async false
set_option linter.all false
namespace L2
open PySem
section
variable {δ:Ev} {h h1:PH} {js:List (Option Nat)} {tg:Mg} {tst:Ev->PH->Rs Bool} {elt:Me} {g:PH->Bool} {n:Nat}
theorem vQ {δ0:Ev} {Q:PV->PH->Prop} (I:Nat->PH->Prop):∀ (xs:List PV) (k:Nat) (h:PH),I k h->
  (∀ i x h,k<=i->xs[i - k]?=some x->I i h->g h=true/\∃ δ1,tg x δ0=some δ1/\(tst δ1 h).W fun b h'=>if b=true then (elt δ1 h').W fun p h''=>∃ ys,h''[n]?=some (.lst ys)/\ys.length < 16777216/\I (i+1) (h''.set n (.lst (ys++[p]))) else I (i+1) h')->
  (∀ h,I (k+xs.length) h->g h=true/\Q (.ref n) h)->(mM g tg tst elt δ0 n xs h).W Q
 | [],k,h,i0,_,fin=>by
  obtain ⟨h1,h2⟩:=fin h i0
  simp [mM,h1,h2]
 | x :: xs,k,h,i0,step,fin=>by
  obtain ⟨h1,δ1,h2,h3⟩:=step k x h (Nat.le_refl _) (by simp) i0
  have go:∀ h2,I (k+1) h2->(mM g tg tst elt δ0 n xs h2).W Q:=fun h2 i2=>
   vQ I xs (k+1) h2 i2 (fun i y h hk hy=>step i y h (by omega) (by
    have:i - k=(i - (k+1))+1:=by omega
    rw [this,List.getElem?_cons_succ]; exact hy)) (fun h hi=>fin h (by
    have e:k+(x :: xs).length=k+1+xs.length:=by simp; omega
    rw [e]; exact hi))
  unfold mM
  rw [if_pos h1,h2]
  show (Rs.bind (tst δ1 h) _).W Q
  rw [xU]
  refine K9 h3 fun b h' hb=>?_
  cases b with
  | false=>exact go h' (by simpa using hb)
  | true=>
   show (Rs.bind (elt δ1 h') _).W Q
   rw [xU]
   refine K9 (show (elt δ1 h').W _ from by simpa using hb) fun p h'' hp=>?_
   obtain ⟨ys,e,hz,hi⟩:=hp
   have e':fA h'' n=some ys:=by unfold fA; rw [e]
   simp [e',hz]
   exact go _ hi
theorem B0 {α:Type} {mi:Mi} {ys:List α} {emb:α->PV} (f:α->Option PV) (e:mi δ h=.ok ⟨ys.map emb,g⟩ h1) (hg:∀ h,Ext h1 h->g h=true) (hz:ys.length<=16777216)
  (step:∀ y∈ys,∃ δ1,tg (emb y) (iG js δ)=some δ1/\∀ h,Ext h1 h->match f y with
   | none=>tst δ1 h=.ok false h
   | some p=>tst δ1 h=.ok true h/\elt δ1 h=.ok p h):cN js mi tg tst elt δ h=.ok (.ref h1.length) (h1++[.lst (ys.filterMap f)]):=by
 have w:(cN js mi tg tst elt δ h).W fun p h'=>p=.ref h1.length/\h'=h1++[.lst (ys.filterMap f)]:=by
  unfold cN
  rw [e,Rs.bind_ok]
  refine vQ (fun i h'=>h'=h1++[.lst ((ys.take i).filterMap f)]) (ys.map emb) 0 _ (by simp) (fun i x h' _ hx hi=>?_) (fun h' hi=>?_)
  ·subst hi
   have hx:(ys.map emb)[i]?=some x:=by simpa using hx
   rw [List.getElem?_map] at hx
   obtain ⟨y,hy,rfl⟩:=Option.map_eq_some_iff.mp hx
   have hil:=(List.getElem?_eq_some_iff.mp hy).1
   obtain ⟨δ1,ht,hs⟩:=step y (List.mem_of_getElem? hy)
   have hs:=hs (h1++[.lst ((ys.take i).filterMap f)]) (Ext.app _ _)
   have htk:ys.take (i+1)=ys.take i++[y]:=by rw [List.take_add_one,hy]; rfl
   refine ⟨hg _ (Ext.app _ _),δ1,ht,?_⟩
   cases ef:f y with
   | none=>
    rw [ef] at hs
    rw [hs]
    simp [htk,ef]
   | some p=>
    rw [ef] at hs
    rw [hs.1]
    simp [hs.2]
    refine ⟨?_,by simp [htk,ef]⟩
    have:=List.length_filterMap_le f (ys.take i)
    rw [List.length_take] at this
    omega
  ·subst hi
   simp
   exact hg _ (Ext.app _ _)
 obtain ⟨p,h',e,rfl,rfl⟩:=tW w
 exact e
theorem rE {m:Me} {xs:List PV} (e:m δ h=.ok (.ref n) h1) (hn:h1[n]?=some (.lst xs)):bB m δ h=.ok ⟨xs,A2 n xs⟩ h1:=by
 unfold bB
 have e3:aS h1 n=some xs:=by unfold aS; rw [hn]
 rw [e,Rs.bind_ok]
 unfold ofSeq; simp only [e3]
theorem rF {xs:List PV} (hn:h1[n]?=some (.lst xs)):∀ h,Ext h1 h->A2 n xs h=true:=fun h hx=>by
 have e3:aS h n=some xs:=by unfold aS; rw [hx _ _ hn]
 unfold A2; rw [e3]; exact PV.beqs_self xs
theorem Km {m:Me} {xs:List PV} (e:m δ h=.ok (.tup xs) h1):bB m δ h=.ok ⟨xs,fun _=>true⟩ h1:=by
 unfold bB
 rw [e]; rfl
theorem nK {α:Type} {m:Me} {ys:List α} {emb:α->PV} (f:α->Option PV) (e:m δ h=.ok (.ref n) h1) (hn:h1[n]?=some (.lst (ys.map emb))) (hz:ys.length<=16777216)
  (step:∀ y∈ys,∃ δ1,tg (emb y) (iG js δ)=some δ1/\∀ h,Ext h1 h->match f y with
   | none=>tst δ1 h=.ok false h
   | some p=>tst δ1 h=.ok true h/\elt δ1 h=.ok p h):cN js (bB m) tg tst elt δ h=.ok (.ref h1.length) (h1++[.lst (ys.filterMap f)]):=
 B0 f (rE e hn) (rF hn) hz step
theorem HZ {α:Type} {m:Me} {ys:List α} {emb:α->PV} (f:α->Option PV) (e:m δ h=.ok (.tup (ys.map emb)) h1) (hz:ys.length<=16777216)
  (step:∀ y∈ys,∃ δ1,tg (emb y) (iG js δ)=some δ1/\∀ h,Ext h1 h->match f y with
   | none=>tst δ1 h=.ok false h
   | some p=>tst δ1 h=.ok true h/\elt δ1 h=.ok p h):cN js (bB m) tg tst elt δ h=.ok (.ref h1.length) (h1++[.lst (ys.filterMap f)]):=
 B0 f (Km e) (fun _ _=>rfl) hz step
end
end L2
namespace L2
open PySem
end L2
set_option Elab.async false
set_option linter.all false
set_option maxRecDepth 100000
namespace L2
open PySem PySem.Spec PyProof.Rows
section
variable {X:Cx} {pins:List (Addr×Obj)} {σ:St} {H:Hp} {s:Shared} {C:MC} {φ:List Addr}
mutual
theorem Kn (I:Inv X pins σ H s) (hK:X.K=C.K):∀ (n:Nat) {p:PV} {v:V} {u:Value},p.ky n=true->RV C φ H p v->RelV v u->HR s.heap p u
 | _,.int i,v,u,_,r,ru=>by cases r; exact ru
 | _,.str i,v,u,_,r,ru=>by cases r; exact ru
 | n+1,.tup ps,v,u,hk,r,ru=>by
  obtain ⟨a,vs,rfl,q,rs⟩:=r
  cases ru
  rw [<- hK] at q
  obtain ⟨its,rv,p,_⟩:=I.tuple q
  exact ⟨a,its,rfl,p,BV I hK n (List.all_eq_true.mp hk) rs rv⟩
 | 0,.tup _,_,_,hk,_,_=>by cases hk
 | n,.non,_,_,hk,_,_=>by cases n <;> cases hk
 | n,.bl _,_,_,hk,_,_=>by cases n <;> cases hk
 | n,.ref _,_,_,hk,_,_=>by cases n <;> cases hk
 | n,.ty _,_,_,hk,_,_=>by cases n <;> cases hk
 | n,.fl _,_,_,hk,_,_=>by cases n <;> cases hk
theorem BV (I:Inv X pins σ H s) (hK:X.K=C.K):∀ (n:Nat) {ps:List PV} {vs:List V} {us:List Value},(∀ p∈ps,p.ky n=true)->RVs C φ H ps vs->aP vs us->HRs s.heap ps us
 | _,[],[],us,_,_,ru=>by cases ru; trivial
 | n,p :: ps,v :: vs,us,hk,r,ru=>by
  cases ru with
  | cons h t=>exact ⟨Kn I hK n (hk p List.mem_cons_self) r.1 h,BV I hK n (fun q hq=>hk q (List.mem_cons_of_mem _ hq)) r.2 t⟩
 | _,[],_ :: _,_,_,r,_=>r.elim
 | _,_ :: _,[],_,_,r,_=>r.elim
end
abbrev Dq:List (PV×Addr×V)->List (PV×Addr×Value)->Prop:=Paired fun p q=>p.1=q.1/\p.2.1=q.2.1/\RelV p.2.2 q.2.2
def HD (C:MC) (φ:List Addr) (H:Hp) (X:Cx) (s:Shared) (a:Addr) (kvs:List (PV×PV)):Prop:=
 ∃ ks xs,RKd C φ H kvs ks/\Dq ks xs/\xs.length<=sizeLine/\(a == sysModules)=false/\s.heap.DictOfH (Di X.prog X.w) a xs
def bQ (h:PH) (n:Nat):Option (List (PV×PV)):=match h[n]? with
 | some (.dD kvs)=>some kvs
 | some (.dK [])=>some []
 | _=>none
def PV.isKt:PV->Bool
 | .tup xs=>(PV.tup xs).ky 6
 | _=>false
theorem vR {p:PV} (h:p.isKt=true):p.ky 6=true:=by cases p <;> first | exact h | cases h
theorem vS {p:PV} {v:V} (h:p.isKt=true) (r:RV C φ H p v):∃ b,v=.ref b:=by
 cases p <;> first | (obtain ⟨b,_,e,_⟩:=r; exact ⟨b,e⟩) | cases h
theorem xX {h:PH} {n:Nat} {a:Addr} {kvs:List (PV×PV)} (I:Inv X pins σ H s) (hK:X.K=C.K) (hw:X.w=C.w) (rh:RH C φ H h) (ha:φ[n]?=some a) (e:bQ h n=some kvs):HD C φ H X s a kvs/\Mut (H a)/\D4 (H a):=by
 unfold bQ at e
 split at e
 ·rename_i kv hk
  cases e
  obtain ⟨ks,hH,r⟩:=rh.at' n a _ ha hk
  have hO:cV X.prog X.w H s.heap a (dDO C.w a ks):=I.hok a _ hH
  obtain ⟨⟨hz,hm,xs,rx,o,es,ep,h1,h2,h3,h4,h5⟩,_⟩:=hO
  refine ⟨⟨ks,xs,r,rx,by rw [<- Paired.length rx]; exact hz,hm,o,es,ep,h1,h2,h3,?_,?_,h5⟩,by rw [hH]; exact True.intro,by rw [hH]; exact True.intro⟩
  ·rw [h4,<- hw]; rfl
  ·have all:∀ {l:List (PV×PV)} {m:List (PV×Addr×V)} {z:List (PV×Addr×Value)},RKd C φ H l m->Dq m z->∀ x∈z,(Di X.prog X.w).is s.heap x.1 x.2.1:=by
    intro l m z q
    unfold RKd at q
    induction q generalizing z with
    | nil=>intro rz x hx; cases rz; cases hx
    | cons hq t ih=>
     intro rz x hx
     cases rz with
     | cons hz' tz=>
      rcases List.mem_cons.mp hx with e | hx
      ·subst e
       refine ⟨?_,?_⟩
       ·rw [<- hz'.1,<- hq.1]; exact hq.2.1
       ·rw [<- hz'.1,<- hq.1,<- hz'.2.1]; exact Kn I hK 6 hq.2.1 hq.2.2.1 rfl
      ·exact ih tz x hx
   exact all r rx
 ·rename_i hk
  cases e
  obtain ⟨ks,hH,r⟩:=rh.at' n a _ ha hk
  have:ks=[]:=by cases r; rfl
  subst this
  obtain ⟨z,hd,vs,rel,o,es,ep,h1,h2,h3,h4,h5,h6⟩:=D0 I.hok hH
  have:vs=[]:=by cases rel; rfl
  subst this
  refine ⟨⟨[],[],.nil,.nil,Nat.zero_le _,hd,o,es,ep,h1,h2,h3,?_,(fun x hx=>nomatch hx),List.nodup_nil⟩,by rw [hH]; exact True.intro,by rw [hH]; exact True.intro⟩
  cases he:es.toList with
  | nil=>rfl
  | cons y ys=>rw [he] at h5; cases h5
 ·cases e
theorem HD.val {a:Addr} {kvs:List (PV×PV)} {ks:List (PV×Addr×V)} {xs:List (PV×Addr×Value)} (r:RKd C φ H kvs ks) (rx:Dq ks xs) (k:PV):match bU kvs k,(atKey xs k).map (·.2) with
  | some p,some u=>∃ v,RelV v u/\RV C φ H p v
  | none,none=>True
  | _,_=>False:=by
 unfold RKd at r
 induction r generalizing xs with
 | nil=>cases rx; trivial
 | @cons p q ps qs h t ih=>
  cases rx with
  | @cons q' x qs' xs' hx tx=>
   obtain ⟨pk,pv⟩:=p
   by_cases e:pk=k
   ·have e':x.1=k:=hx.1.symm.trans (h.1.symm.trans e)
    have b:atKey (x :: xs') k=some x.2:=by simp [atKey,List.find?_cons,e']
    rw [b]
    unfold bU
    rw [if_pos e]
    exact ⟨_,hx.2.2,h.2.2.2⟩
   ·have e':¬ x.1=k:=fun z=>e (h.1.trans (hx.1.trans z))
    have b:atKey (x :: xs') k=atKey xs' k:=by simp [atKey,List.find?_cons,e']
    rw [b]
    unfold bU
    rw [if_neg e]
    exact ih tx
def jG {κ:Type} [DecidableEq κ] (kvs:List (κ×PV)) (k:κ) (p:PV):List (κ×PV):=if (bU kvs k).isSome then kvs.map (fun kv=>if kv.1=k then (kv.1,p) else kv) else kvs++[(k,p)]
theorem HD.replace {a:Addr} {kvs:List (PV×PV)} {ks:List (PV×Addr×V)} {xs:List (PV×Addr×Value)} (r:RKd C φ H kvs ks) (rx:Dq ks xs) (k:PV) {p:PV} {v:V} {u:Value} (rp:RV C φ H p v) (ru:RelV v u):
  ∃ ks',RKd C φ H (kvs.map fun kv=>if kv.1=k then (kv.1,p) else kv) ks'/\Dq ks' (xs.map (putAt k u)):=by
 unfold RKd at r
 induction r generalizing xs with
 | nil=>cases rx; exact ⟨[],.nil,.nil⟩
 | @cons pp q ps qs h t ih=>
  cases rx with
  | @cons q' x qs' xs' hx tx=>
   obtain ⟨ks',r1,r2⟩:=ih tx
   by_cases e:pp.1=k
   ·refine ⟨(q.1,q.2.1,v) :: ks',.cons ?_ r1,.cons ?_ r2⟩
    ·simp only [if_pos e]; exact ⟨h.1,h.2.1,h.2.2.1,rp⟩
    ·unfold putAt; rw [if_pos (hx.1.symm.trans (h.1.symm.trans e))]; exact ⟨hx.1,hx.2.1,ru⟩
   ·refine ⟨q :: ks',.cons ?_ r1,.cons ?_ r2⟩
    ·simp only [if_neg e]; exact h
    ·unfold putAt; rw [if_neg fun z=>e (h.1.trans (hx.1.trans z))]; exact hx
theorem HD.put {a b:Addr} {kvs:List (PV×PV)} {ks:List (PV×Addr×V)} {xs:List (PV×Addr×Value)} (r:RKd C φ H kvs ks) (rx:Dq ks xs) {k:PV} (hk:k.ky 6=true) (rk:RV C φ H k (.ref b)) {p:PV} {v:V} {u:Value} (rp:RV C φ H p v) (ru:RelV v u):
  ∃ ks',RKd C φ H (jG kvs k p) ks'/\Dq ks' (storedH xs k b u):=by
 have hv:=HD.val (a:=b) r rx k
 unfold jG storedH
 cases e1:bU kvs k with
 | some p0=>
  rw [e1] at hv
  cases e2:atKey xs k with
  | none=>rw [e2] at hv; exact hv.elim
  | some z=>exact HD.replace (a:=b) r rx k rp ru
 | none=>
  rw [e1] at hv
  cases e2:atKey xs k with
  | some z=>rw [e2] at hv; exact hv.elim
  | none=>exact ⟨ks++[(k,b,v)],Paired.snoc r ⟨rfl,hk,rk,rp⟩,Paired.snoc rx ⟨rfl,rfl,ru⟩⟩
theorem HD.isSome {kvs:List (PV×PV)} {ks:List (PV×Addr×V)} {xs:List (PV×Addr×Value)} (r:RKd C φ H kvs ks) (rx:Dq ks xs) (k:PV):(atKey xs k).isSome=(bU kvs k).isSome:=by
 have hv:=HD.val (a:=0) r rx k
 cases e1:bU kvs k with
 | some p0=>
  rw [e1] at hv
  cases e2:atKey xs k with
  | none=>rw [e2] at hv; exact hv.elim
  | some z=>rfl
 | none=>
  rw [e1] at hv
  cases e2:atKey xs k with
  | some z=>rw [e2] at hv; exact hv.elim
  | none=>rfl
theorem GA (I:Inv X pins σ H s) (hK:X.K=C.K) {p:PV} {b:Addr} (hk:p.isKt=true) (r:RV C φ H p (.ref b)):(Di X.prog X.w).is s.heap p b:=⟨vR hk,Kn I hK 6 (vR hk) r rfl⟩
end
section
variable {C:MC} {k:Nat} {X:Cx}
theorem Cxt.room6 (c:Cxt C k X):(Di X.prog X.w).room X.A.in1:=by
 have:=c.hu64
 show X.A.units+1+6 < cLine
 omega
def pW (x y:PV) (h:PH):Option (Option PV):=match y with
 | .ref n=>if x.isKt=true then (bQ h n).map fun kvs=>bU kvs x else none
 | _=>none
def Ko (C:MC):V->V->Hp->(List Addr->Option PV->Prop)->Prop:=fun x y H R=>∃ φ h p n a kvs,RH C φ H h/\RV C φ H p x/\y=.ref a/\φ[n]?=some a/\bQ h n=some kvs/\p.isKt=true/\R φ (bU kvs p)
theorem xY {φ:List Addr} {H:Hp} {h:PH} {p q:PV} {x y:V} {o:Option PV} {R:List Addr->Option PV->Prop} (rh:RH C φ H h) (rx:RV C φ H p x) (ry:RV C φ H q y) (e:pW p q h=some o) (r:R φ o):Ko C x y H R:=by
 unfold pW at e
 cases q with
 | ref n=>
  obtain ⟨a,rfl,ha⟩:=ry
  dsimp only at e
  split at e
  ·rename_i hk
   cases e1:bQ h n with
   | none=>rw [e1] at e; cases e
   | some kvs=>rw [e1] at e; cases e; exact ⟨φ,h,p,n,a,kvs,rh,rx,rfl,ha,e1,hk,r⟩
  ·cases e
 | _=>cases e
theorem Fe (c:Cxt C k X):OpR X (compareOp .NotIn) (fun x y H Q=>Ko C x y H fun _ o=>Q (.bl (!o.isSome)) H):=fun pins s σ H x y v u Q I rx ry h=>by
 obtain ⟨φ,h,p,n,a,kvs,rh,rp,rfl,ha,ht,hk,q⟩:=h
 cases ry
 obtain ⟨b,rfl⟩:=vS hk rp
 cases rx
 obtain ⟨⟨ks,xs,r,rx',hz,hm,dd⟩,_⟩:=xX I c.K c.w rh ha ht
 refine wpAny_notIn_heap c.room6 (GA I c.K hk rp) hm dd ?_
 rw [HD.isSome r rx' p]
 exact ⟨.bl _,H,I.tok _,rfl,q⟩
def UY:PV->PV->PH->Rs PV:=fun x y h=>match pW x y h with
 | some o=>.ok (.bl o.isSome) h
 | none=>vIn x y h
def jH:PV->PV->PH->Rs PV:=fun x y h=>match pW x y h with
 | some o=>.ok (.bl (!o.isSome)) h
 | none=>xN x y h
theorem Dr:OpS C k X (compareOp .NotIn) jH:=fun c=>((N9 c).or (Fe c)).imp fun x y H Q h=>by
 obtain ⟨φ,h,p,q,rh,rx,ry,po⟩:=h
 unfold jH at po
 cases e:pW p q h with
 | none=>rw [e] at po; exact .inl ⟨φ,h,p,q,rh,rx,ry,po⟩
 | some o=>rw [e] at po; exact .inr (xY rh rx ry e (po.val rh rfl))
theorem Uq (c:Cxt C k X):IxR X (fun x y H Q=>Ko C y x H fun φ o=>∃ p,o=some p/\∀ v:V,RV C φ H p v->Q v H):=by
 intro value slice pins s σ H x y v u Q I rx ry h hs
 obtain ⟨φ,h,p,n,a,kvs,rh,rp,rfl,ha,ht,hk,p',ep,q⟩:=h
 cases rx
 obtain ⟨b,rfl⟩:=vS hk rp
 cases ry
 obtain ⟨⟨ks,xs,r,rx',hz,hm,dd⟩,_⟩:=xX I c.K c.w rh ha ht
 have hT:=dd.typeIs
 have hv:=HD.val (a:=a) r rx' p
 rw [ep] at hv
 cases e2:atKey xs p with
 | none=>rw [e2] at hv; exact hv.elim
 | some z=>
  rw [e2] at hv
  obtain ⟨v',rv1,rv2⟩:=hv
  unfold subscriptTail
  refine wpAny_bind ?_
  rw [getitemInPython_of_ne hT.not_modules]
  refine wpAny_bind (wpAny_specialOf hT PySem.F.slot_dict_getitem.lookup ?_)
  have fin:wpAny (model X.prog X.w) X.A (subscripted slice false (.ref a) (.ref b)) (fun r s₃=>wpAny (model X.prog X.w) X.A (letTemporaryGo value (.ref a) r >>= fun _=>pure r) (EP X pins σ Q) X.xe s₃) X.xe s:=by
   rw [hs]
   exact wpAny_operating (wpAny_getItem_heap c.room6 (GA I c.K hk rp) dd e2 (wpAny_bind (wpAny_letTemporaryGo (wpAny_pure ⟨v',H,I.tok _,rv1,q v' rv2⟩))))
  first
   | exact wpAny_pure (wpAny_bind fin)
   | exact wpAny_bind (wpAny_pure (wpAny_bind fin))
   | exact wpAny_bind fin
def vAt:PV->PV->PH->Rs PV:=fun x y h=>match pW y x h with
 | some (some p)=>.ok p h
 | some none=>.bad
 | none=>vIx x y h
theorem aW {a b:Expr} {ma mb:Me} {pos:Pos} (ha:SE C k X a ma) (hb:SE C k X b mb) (hs:G3 b:=by intro _ _; rfl):SE C k X (.Subscript a b pos) (aD vAt ma mb):=fun c=>
 (Rj ((ixC c.hu C.K c.K).or (Uq c)) (ha c) (hb c) hs).imp fun σ H Q h=>by
  obtain ⟨φ,δ,h,rh,re,p⟩:=Ge h
  refine ⟨φ,δ,h,rh,re,p.imp ?_⟩
  rintro v H1 ⟨φ,δ,h,rh,re,p⟩
  refine ⟨φ,δ,h,rh,re,p.imp ?_⟩
  rintro u H2 ⟨φ,h,p,q,rh,rx,ry,po⟩
  unfold vAt at po
  cases e:pW q p h with
  | none=>rw [e] at po; exact .inl (RL ⟨φ,h,p,q,rh,rx,ry,po⟩)
  | some o=>
   rw [e] at po
   cases o with
   | none=>exact po.elim
   | some r=>exact .inr (xY rh ry rx e ⟨r,rfl,fun v' rv=>po.val rh rv⟩)
def Ff (x y v:PV) (h:PH):Option PH:=match x with
 | .ref n=>match F7 y,h[n]? with
  | some key,some (.dK kvs)=>if kvs.length < sizeLine then some (h.set n (.dK (jG kvs key v))) else none
  | some _,_=>none
  | none,_=>if y.isKt=true then (match bQ h n with
   | some kvs=>if kvs.length < sizeLine then some (h.set n (.dD (jG kvs y v))) else none
   | none=>none) else none
 | _=>none
theorem Fg {φ:List Addr} {H:Hp} {κ:Type} [DecidableEq κ] {kvs:List (κ×PV)} {ks:List (κ×V)} (r:RKv C φ H kvs ks) (a:κ):(bU kvs a).isSome=(kB ks a).isSome:=by
 have:=tR r a
 cases e1:bU kvs a with
 | none=>
  cases e2:kB ks a with
  | none=>rfl
  | some v=>rw [e1,e2] at this; exact this.elim
 | some p=>
  cases e2:kB ks a with
  | none=>rw [e1,e2] at this; exact this.elim
  | some v=>rfl
theorem Ds {φ:List Addr} {H:Hp} {κ:Type} [DecidableEq κ] {kvs:List (κ×PV)} {ks:List (κ×V)} (r:RKv C φ H kvs ks) (a:κ) {p:PV} {v:V} (rp:RV C φ H p v):RKv C φ H (jG kvs a p) (putK ks a v):=by
 unfold jG putK
 rw [wN,Fg r a]
 split
 ·rename_i hx
  clear hx
  unfold RKv at r ⊢
  induction r with
  | nil=>exact .nil
  | @cons p' q' ps qs h t ih=>
   refine .cons ?_ ih
   by_cases e:p'.1=a
   ·have e':q'.1=a:=h.1.symm.trans e
    simp only [if_pos e,if_pos e']
    exact ⟨h.1,rp⟩
   ·have e':¬ q'.1=a:=fun z=>e (h.1.trans z)
    simp only [if_neg e,if_neg e']
    exact h
 ·exact Paired.snoc r ⟨rfl,rp⟩
theorem B1 {φ:List Addr} {H:Hp} {h h':PH} {px py pv:PV} {x y v:V} (c:Cxt C k X) (rh:RH C φ H h) (rx:RV C φ H px x) (ry:RV C φ H py y) (rv:RV C φ H pv v) (e:Ff px py pv h=some h') {pins:List (Addr×Obj)} {σ:St} {s:Shared} {xu yu vu:Value}
  {Q:Unit->Shared->Prop} (I:Inv X pins σ H s) (rxu:RelV x xu) (ryu:RelV y yu) (rvu:RelV v vu) (q:∀ s' H',Inv X pins σ H' s'->Kp H H'->RH C φ H' h'->Q () s'):wpAny (model X.prog X.w) X.A (setItem xu yu vu) Q X.xe s:=by
 unfold Ff at e
 cases px with
 | ref n=>
  obtain ⟨a,rfl,ha⟩:=rx
  cases rxu
  dsimp only at e
  split at e
  ·rename_i key kvs hkey hk
   split at e
   ·rename_i hl
    cases e
    obtain ⟨ks,hH,rk⟩:=rh.at' n a _ ha hk
    have ey:y=kV key:=F8 ry hkey
    subst ey
    have hl':ks.length < sizeLine:=by rw [<- Paired.length rk]; exact hl
    refine Hm c.hu I (.k hH hl') ryu rvu fun s' I'=>q s' _ I' (Kp.dK hH) ?_
    refine rh.write ha (by rw [hH]; exact True.intro) ⟨_,bK,?_⟩
    exact (Ds rk key rv).mono List.prefix_rfl (Kp.dK hH)
   ·cases e
  ·cases e
  ·split at e
   ·rename_i hk
    split at e
    ·rename_i kvs ht
     split at e
     ·rename_i hl
      cases e
      obtain ⟨b,rfl⟩:=vS hk ry
      cases ryu
      obtain ⟨⟨ks,xs,r,rx',hz,hm,dd⟩,mu,nt⟩:=xX I c.K c.w rh ha ht
      refine wpAny_setItem_heap (hsz:=hz) c.room6 (GA I c.K hk ry) dd fun h' dd' hs=>?_
      obtain ⟨ks',r1,r2⟩:=HD.put (a:=a) r rx' (vR hk) ry rv rvu
      obtain ⟨o,es,ep,hq,h2,h3,h4,_,h5⟩:=dd'
      have hl2:ks'.length<=sizeLine:=by
       have e1:=Paired.length r1
       have e2:(jG kvs py pv).length<=kvs.length+1:=by
        unfold jG
        split
        ·rw [List.length_map]; omega
        ·simp
       omega
      refine q _ (upd H a (dDO C.w a ks')) (qR I mu hs ⟨o,hq⟩ ⟨⟨hl2,hm,_,r2,o,es,ep,hq,h2,h3,?_,h5⟩,⟨o,hq⟩,?_⟩) (Kp.upd nt) ?_
      ·rw [h4,<- c.w]; rfl
      ·rintro g1 g2 ⟨z1,z2,ws,z3,o',es',ep',z4,z5⟩ keep
       exact ⟨z1,z2,ws,z3,o',es',ep',keep _ z4,z5⟩
      ·exact rh.write ha nt ⟨ks',bK,RKd.mono List.prefix_rfl (Kp.upd nt) r1⟩
     ·cases e
    ·cases e
   ·cases e
 | _=>cases e
end
end L2
set_option Elab.async false
set_option linter.all false
set_option maxRecDepth 100000
namespace L2
open PySem PySem.Spec PyProof.Rows
def MtG (C:MC) (k:Nat) (X:Cx) (T:String) (ty:PV->PH->Bool) (id:String) (g:PV->List PV->PH->Rs PV):Prop:=Cxt C k X->MtR X id (rM C g)/\
 ∀ pins s σ H φ h p x v,Inv X pins σ H s->RH C φ H h->RV C φ H p x->RelV x v->ty p h=true->s.TypeIs v T/\∀ a,v=.ref a->∃ ob,s.heap.get? a=some ob/\ob.dict=none
section
variable {C:MC} {k:Nat} {X:Cx}
section
variable {o e:Expr} {es:List Expr} {mo:Me} {ms:Ma} {name:Str} {apos cpos:Pos} {T id:String} {ty:PV->PH->Bool} {g:PV->List PV->PH->Rs PV}
theorem Ur (pa:PlainAttrs T) (slot:Slot T name id) (hty:typeOf (.builtin id)=pure (.type "method_descriptor")) (hm:MtG C k X T ty id g) (ho:SE C k X o mo) (ha:SA C k X (e :: es) ms)
  (hbase:attributeBase o name X.env (eval o X.env)=eval o X.env:=by rfl)
  (hfew:((backTo cpos (starEach (e :: es) X.env)).all (fun x=>!x.1) && (backToKw cpos (keywordEach [] X.env)).all (fun x=>x.1.isSome)
   && decide ((e :: es).length+([]:List Keyword).length+(if ([]:List Keyword).isEmpty then 0 else 1) < 30))=true:=by rfl)
  (hline:(apos.endLine == cpos.line)=true:=by rfl) (hs:starEach (e :: es) X.env=(false,eval e X.env) :: starEach es X.env:=by rfl) (hplain:(backTo cpos (starEach es X.env)).any (·.1)=false:=by rfl):
  SE C k X (.Call (.Attribute o name apos) (e :: es) [] cpos) (mMt ty g mo ms):=fun c pins s σ H Q I ⟨φ,δ,h,rh,re,p⟩=>by
 refine wpAny_Call_method_late hbase hfew hline rfl (thn (ho c pins s σ H _ I ⟨φ,δ,h,rh,re,post.bind p⟩) ?_)
 rintro v s1 ⟨x,H1,I1,r1,φ1,px,h1,p1,t1,rh1,rv1,q1⟩
 obtain ⟨ht,q1⟩:=q1.ite
 obtain ⟨g1,g2⟩:=(hm c).2 pins s1 σ H1 φ1 h1 px x v I1 rh1 rv1 r1 ht
 refine ⟨T,id,pa,slot,hty,g1,g2,?_⟩
 have hA:=ha c cpos pins s1 σ H1 _ I1 ⟨φ1,δ,h1,rh1,re.mono p1 t1,postA.bind q1⟩
 rw [hs] at hA ⊢
 refine Calls.callWith_builtin (show (false || (backTo cpos (starEach es X.env)).any (·.1))=false by rw [hplain]; rfl) (Calls.evalArgs_plain (thn hA ?_))
 rintro us s2 ⟨vs,H2,I2,r2,φ2,ps,h2,p2,t2,rh2,rv2,q2⟩
 exact (hm c).1 pins s2 σ H2 x vs v us Q I2 r1 r2 ⟨φ2,h2,px,ps,rh2,rv1.mono p2 t2,rv2,q2⟩
end
def xZ (x:PV) (h:PH):Bool:=match x with
 | .ref n=>match h[n]? with
  | some (.dK _)=>true
  | some (.dD _)=>true
  | _=>false
 | _=>false
theorem Kr (c:Cxt C k X):∀ pins s σ H φ h p x v,Inv X pins σ H s->RH C φ H h->RV C φ H p x->RelV x v->xZ p h=true->s.TypeIs v "dict" /\ ∀ a,v=.ref a->∃ ob,s.heap.get? a=some ob/\ob.dict=none:=by
 intro pins s σ H φ h p x v I rh rv r e
 unfold xZ at e
 cases p with
 | ref n=>
  obtain ⟨a,rfl,ha⟩:=rv
  cases r
  dsimp only at e
  split at e
  ·rename_i kvs hk
   obtain ⟨ks,hH,rk⟩:=rh.at' n a _ ha hk
   obtain ⟨z,hd,vs,rel,dd⟩:=D0 I.hok hH
   refine ⟨dd.typeIs,fun b eb=>?_⟩
   cases eb
   obtain ⟨ob,_,_,h1,h2,_⟩:=dd
   exact ⟨ob,h1,h2.2.1⟩
  ·rename_i kvs hk
   have ht:bQ h n=some kvs:=by unfold bQ; rw [hk]
   obtain ⟨⟨ks,xs,r,rx',hz,hm,dd⟩,_⟩:=xX I c.K c.w rh ha ht
   refine ⟨dd.typeIs,fun b eb=>?_⟩
   cases eb
   obtain ⟨ob,_,_,h1,h2,_⟩:=dd
   exact ⟨ob,h1,h2.2.1⟩
  ·cases e
 | _=>cases e
end
end L2
set_option Elab.async false
set_option linter.all false
set_option maxRecDepth 100000
namespace L2
open PySem PySem.Spec PyProof.Rows
def I0 (x:List Key):List (List Key)->List (List Key)
 | []=>[x]
 | y :: ys=>if iE y x=true then y :: I0 x ys else x :: y :: ys
def pX:List (List Key)->List (List Key)
 | []=>[]
 | x :: xs=>I0 x (pX xs)
theorem tX (x:List Key):∀ ys,(I0 x ys).Perm (x :: ys)
 | []=>.refl _
 | y :: ys=>by
  unfold I0
  split
  ·exact ((tX x ys).cons y).trans (.swap x y ys)
  ·exact .refl _
theorem eV:∀ xs,(pX xs).Perm xs
 | []=>.refl _
 | x :: xs=>(tX x _).trans ((eV xs).cons x)
theorem uV {S:List Bool} {x:List Key} (hx:shape x=S):∀ {ys:List (List Key)},(∀ y∈ys,shape y=S)->ys.Pairwise (fun a b=>iE b a=false)->(I0 x ys).Pairwise (fun a b=>iE b a=false)
 | [],_,_=>List.pairwise_singleton _ _
 | y :: ys,hs,hp=>by
  have hy:=hs y List.mem_cons_self
  have hs':=fun z hz=>hs z (List.mem_cons_of_mem _ hz)
  rw [List.pairwise_cons] at hp
  unfold I0
  split
  ·rename_i h
   rw [List.pairwise_cons]
   refine ⟨fun z hz=>?_,uV hx hs' hp.2⟩
   rcases List.mem_cons.mp ((tX x ys).mem_iff.mp hz) with rfl | hz
   ·exact Ga h
   ·exact hp.1 z hz
  ·rename_i h
   have h':iE y x=false:=by simpa using h
   rw [List.pairwise_cons]
   refine ⟨fun z hz=>?_,List.pairwise_cons.mpr hp⟩
   rcases List.mem_cons.mp hz with rfl | hz
   ·exact h'
   ·exact BD (hx.trans hy.symm) (hy.trans (hs' z hz).symm) h' (hp.1 z hz)
theorem jT {S:List Bool}:∀ {xs:List (List Key)},(∀ y∈xs,shape y=S)->(pX xs).Pairwise (fun a b=>iE b a=false)
 | [],_=>.nil
 | x :: xs,hs=>uV (hs x List.mem_cons_self) (fun y hy=>hs y (List.mem_cons_of_mem _ ((eV xs).mem_iff.mp hy))) (jT fun y hy=>hs y (List.mem_cons_of_mem _ hy))
theorem pY {S:List Bool} {xs ys:List (List Key)} (hs:∀ y∈xs,shape y=S) (hp:ys.Perm xs) (h:ys.Pairwise (fun a b=>iE b a=false)):ys=pX xs:=by
 refine List.Perm.eq_of_pairwise (le:=fun a b=>iE b a=false) (fun a b ha hb h1 h2=>?_) h (jT hs) (hp.trans (eV xs).symm)
 exact D6 ((hs a (hp.mem_iff.mp ha)).trans (hs b ((eV xs).mem_iff.mp hb)).symm) h2 h1
def kP:Key->PV
 | .inl i=>.int i
 | .inr x=>.str x
def OJ:List PV->Option (List Key)
 | []=>some []
 | x :: xs=>match F7 x,OJ xs with
  | some a,some r=>some (a :: r)
  | _,_=>none
def OK:List PV->Option (List (List Key))
 | []=>some []
 | .tup xs :: r=>match OJ xs,OK r with
  | some a,some b=>some (a :: b)
  | _,_=>none
 | _ :: _=>none
def Us (kss:List (List Key)):Bool:=match kss with
 | []=>true
 | a :: r=>(!a.isEmpty) && r.all fun x=>shape x == shape a
section
variable {C:MC} {k:Nat} {X:Cx}
theorem RH.same {φ:List Addr} {H H1:Hp} {h:PH} (r:RH C φ H h) (s:ES H H1):RH C φ H1 h:=⟨r.len,r.nd,fun n b ob h1 h2=>by
 have q:=r.at' n b ob h1 h2
 obtain ⟨u,hu⟩:=q.some
 exact q.stay List.prefix_rfl (Kp.same s) ((s _ _ hu).trans hu.symm)⟩
theorem GB {a b:Str}:iE [.inr a] [.inr b]=decide (a.cps.toList < b.cps.toList):=by
 unfold iE
 split
 ·rename_i e
  cases e
  simp [iE,List.lt_irrefl]
 ·rfl
theorem uW:∀ {r:List Str} {p:Str},risingS p r=true->((p :: r).map fun x=>[(Sum.inr x:Key)]).Pairwise (fun a b=>iE b a=false)
 | [],p,_=>List.pairwise_singleton _ _
 | x :: r,p,h=>by
  have h0:iE [.inr x] [.inr p]=false/\risingS x r=true:=by
   unfold risingS at h
   rw [Bool.and_eq_true,ltCps_eq] at h
   rw [GB]
   exact ⟨by simpa using h.1,h.2⟩
  have ih:=uW h0.2
  rw [List.map_cons,List.pairwise_cons]
  refine ⟨fun z hz=>?_,ih⟩
  obtain ⟨y,hy,rfl⟩:=List.mem_map.mp hz
  rcases List.mem_cons.mp hy with rfl | hy
  ·exact h0.1
  ·rw [List.map_cons,List.pairwise_cons] at ih
   exact BD (a:=[.inr p]) (b:=[.inr x]) (c:=[.inr y]) rfl rfl h0.1 (ih.1 _ (List.mem_map.mpr ⟨y,hy,rfl⟩))
theorem rG {φ:List Addr} {H:Hp}:∀ {ss:List Str} {vs:List V},RVs C φ H (ss.map PV.str) vs ↔ vs=ss.map V.str
 | [],[]=>by simp [RVs]
 | [],_ :: _=>by simp [RVs]
 | _ :: _,[]=>by simp [RVs]
 | x :: ss,v :: vs=>by
  simp only [List.map_cons,RVs,List.cons.injEq]
  exact and_congr Iff.rfl rG
end
end L2
set_option Elab.async false
set_option linter.all false
set_option maxRecDepth 100000
namespace L2
open PySem
section
variable {h:PH}
@[simp] theorem Sb {x:PV} {xs:List PV}:pW x (.tup xs) h=none:=(rfl)
@[simp] theorem Tn {x:PV} {xs:List PV}:pW x (.fl xs) h=none:=(rfl)
@[simp] theorem QU {x:PV} {z:Str}:pW x (.str z) h=none:=(rfl)
@[simp] theorem Sd {i:Int} {y:PV}:pW (.int i) y h=none:=by cases y <;> rfl
theorem Ks {x:PV} {n:Nat} {xs:List PV} (e:h[n]?=some (.lst xs)):pW x (.ref n) h=none:=by
 unfold pW bQ
 simp [e]
@[simp] theorem To {x:PV} {i:Int}:vAt x (.int i) h=vIx x (.int i) h:=by unfold vAt; simp
theorem uX {x:PV} {n:Nat} {xs:List PV} (e:h[n]?=some (.lst xs)):jH x (.ref n) h=xN x (.ref n) h:=by unfold jH; rw [Ks e]
end
end L2
set_option Elab.async false
set_option linter.all false
set_option maxRecDepth 100000
namespace L2
open PySem PySem.Spec PyProof.Rows
section
variable {C:MC} {k:Nat} {X:Cx}
def oS:PV->List PV->PH->Rs PV:=fun x ps h=>match x,ps with
 | .ref n,[y,z]=>match F7 y with
  | some key=>match h[n]? with
   | some (.dK kvs)=>match bU kvs key with
    | some p=>.ok p h
    | none=>if kvs.length < sizeLine then .ok z (h.set n (.dK (jG kvs key z))) else .bad
   | _=>.bad
  | none=>if y.isKt=true then (match bQ h n with
   | some kvs=>match bU kvs y with
    | some p=>.ok p h
    | none=>if kvs.length < sizeLine then .ok z (h.set n (.dD (jG kvs y z))) else .bad
   | none=>.bad) else .bad
 | _,_=>.bad
theorem Kt {κ:Type} [DecidableEq κ] (kvs:List (κ×PV)) (a:κ) (p:PV):(jG kvs a p).length<=kvs.length+1:=by
 unfold jG
 split
 ·rw [List.length_map]; omega
 ·simp
theorem A3 (c:Cxt C k X):MtR X "dict.setdefault" (rM C oS):=fun pins s σ H x xs v us Q I rx rs h=>by
 obtain ⟨φ,h,p,ps,rh,rp,rps,po⟩:=h
 unfold oS at po
 split at po
 ·rename_i n y z
  obtain ⟨a,rfl,ha⟩:=rp
  cases rx
  obtain ⟨yv,zv,rfl,ry,rz⟩:=rps.two
  obtain ⟨yu,zu,rfl,ryu,rzu⟩:=vals2 rs
  split at po
  ·rename_i key hkey
   split at po
   ·rename_i kvs hk
    obtain ⟨ks,hH,rk⟩:=rh.at' n a _ ha hk
    have ey:=F8 ry hkey
    subst ey
    obtain ⟨hz,hd,vs,rel,dd⟩:=D0 I.hok hH
    have hzv:vs.length<=sizeLine:=by rw [<- rel.length]; exact hz
    have lv:=tR rk key
    have rv:=rel.val key
    refine call_meetsIn PySem.F.slot_dict_setdefault dd.typeIs PySem.F.entry_dict_setdefault (PySem.F.args_dict_setdefault_3 _ _ _) (lK (cP X.prog X.w) a hd (CY ryu) zu) ⟨vs,dd,hzv,fun v e=>?_,fun e h' dd' hs=>?_⟩
    ·rw [e] at rv
     cases e1:kB ks key with
     | none=>rw [e1] at rv; exact rv.elim
     | some v1=>
      rw [e1] at rv lv
      cases e2:bU kvs key with
      | none=>rw [e2] at lv; exact lv.elim
      | some p1=>
       rw [e2] at lv po
       exact ⟨v1,H,I.tok _,rv,po.val rh lv⟩
    ·rw [e] at rv
     cases e1:kB ks key with
     | some v1=>rw [e1] at rv; exact rv.elim
     | none=>
      rw [e1] at lv
      cases e2:bU kvs key with
      | some p1=>rw [e2] at lv; exact lv.elim
      | none=>
       rw [e2] at po
       obtain ⟨hl,po⟩:=po.ite
       have hl':(putK ks key zv).length<=sizeLine:=by
        have:=mX ks key zv
        have e3:=Paired.length rk
        omega
       have he:∃ q,h'.get? a=some q:=let ⟨q,_,_,hq,_⟩:=dd'; ⟨q,hq⟩
       refine ⟨zv,upd H a (.dK (putK ks key zv)),qR I (by rw [hH]; exact True.intro) hs he (Jx hl' hd (rel.put key rzu) dd'),rzu,?_⟩
       have kp:Kp H (upd H a (.dK (putK ks key zv))):=Kp.dK hH
       exact po φ zv _ List.prefix_rfl kp (rh.write ha (by rw [hH]; exact True.intro) ⟨_,bK,(Ds rk key rz).mono List.prefix_rfl kp⟩) (rz.mono List.prefix_rfl kp)
   ·exact po.elim
  ·obtain ⟨hk,po⟩:=po.ite
   split at po
   ·rename_i kvs ht
    obtain ⟨b,rfl⟩:=vS hk ry
    cases ryu
    obtain ⟨⟨ks,xs,r,rx',hz,hm,dd⟩,mu,nt⟩:=xX I c.K c.w rh ha ht
    have hv:=HD.val (a:=a) r rx' y
    refine call_meetsIn PySem.F.slot_dict_setdefault dd.typeIs PySem.F.entry_dict_setdefault (PySem.F.args_dict_setdefault_3 _ _ _) (mS (Di X.prog X.w) a b hm zu) ⟨c.room6,y,xs,GA I c.K hk ry,dd,hz,fun p e=>?_,fun e h' dd' hs=>?_⟩
    ·rw [e] at hv
     cases e2:bU kvs y with
     | none=>rw [e2] at hv; exact hv.elim
     | some p1=>
      rw [e2] at hv po
      obtain ⟨v',rv1,rv2⟩:=hv
      exact ⟨v',H,I.tok _,rv1,po.val rh rv2⟩
    ·rw [e] at hv
     cases e2:bU kvs y with
     | some p1=>rw [e2] at hv; exact hv.elim
     | none=>
      rw [e2] at po
      obtain ⟨hl,po⟩:=po.ite
      obtain ⟨ks',r1,r2⟩:=HD.put (a:=a) r rx' (vR hk) ry rz rzu
      obtain ⟨o,es,ep,hq,h2,h3,h4,_,h5⟩:=dd'
      have hl2:ks'.length<=sizeLine:=by
       have e1:=Paired.length r1
       have e3:=Kt kvs y z
       omega
      refine ⟨zv,upd H a (dDO C.w a ks'),qR I mu hs ⟨o,hq⟩ ⟨⟨hl2,hm,_,r2,o,es,ep,hq,h2,h3,?_,h5⟩,⟨o,hq⟩,?_⟩,rzu,?_⟩
      ·rw [h4,<- c.w]; rfl
      ·rintro g1 g2 ⟨z1,z2,ws,z3,o',es',ep',z4,z5⟩ keep
       exact ⟨z1,z2,ws,z3,o',es',ep',keep _ z4,z5⟩
      ·exact po φ zv _ List.prefix_rfl (Kp.upd nt) (rh.write ha nt ⟨ks',bK,RKd.mono List.prefix_rfl (Kp.upd nt) r1⟩) (rz.mono List.prefix_rfl (Kp.upd nt))
   ·exact po.elim
 ·exact po.elim
theorem BW:MtG C k X "dict" xZ "dict.setdefault" oS:=fun c=>⟨A3 c,Kr c⟩
end
end L2
set_option Elab.async false
set_option linter.all false
set_option maxRecDepth 100000
namespace L2
open PySem PySem.Spec PyProof.Rows
section
variable {C:MC} {k:Nat} {X:Cx}
def oT (h:PH) (d:Nat):Option (List PV):=match h[d]? with
 | some (.dK kvs)=>some (kvs.map (·.2))
 | some (.dD kvs)=>some (kvs.map (·.2))
 | _=>none
theorem Fh {prog:Program} {w:World} {K:Type} [DecidableEq K] {knd:KeyKind prog w K} {es:List DictEntry} {kvs:List (K×Value)} (h:Pairs knd es kvs):es.map (·.val)=kvs.map (·.2):=by
 apply List.ext_getElem?
 intro i
 rw [List.getElem?_map,List.getElem?_map]
 have hl:=h.length
 by_cases hi:i < es.length
 ·have e1:es[i]?=some es[i]:=by simp [hi]
  have hi':i < kvs.length:=by omega
  have e2:kvs[i]?=some (kvs[i].1,kvs[i].2):=by simp [hi']
  rw [e1,e2]
  exact congrArg some (h.get? e1 e2).2
 ·rw [List.getElem?_eq_none (by omega),List.getElem?_eq_none (by omega)]
  rfl
theorem Dt {pins:List (Addr×Obj)} {σ:St} {H:Hp} {s:Shared} {φ:List Addr} {h:PH} {d:Nat} {b:Addr} {xs:List PV} (c:Cxt C k X) (I:Inv X pins σ H s) (rh:RH C φ H h) (hb:φ[d]?=some b) (e:oT h d=some xs):
  s.TypeIs (.ref b) "dict" /\ (b == sysModules)=false/\xs.length<=sizeLine/\∃ oc es ep,s.heap.get? b=some oc/\oc.data=.dict es ep/\∃ ws,RVs C φ H xs ws/\aP ws (es.toList.map (·.val)):=by
 unfold oT at e
 split at e
 ·rename_i kvs hk
  cases e
  obtain ⟨ks,hH,rk⟩:=rh.at' d b _ hb hk
  obtain ⟨z,hd,vs,rel,dd⟩:=D0 I.hok hH
  refine ⟨dd.typeIs,hd,by rw [List.length_map,Paired.length rk]; exact z,?_⟩
  obtain ⟨oc,es,ep,g1,g2,g3,g4,g5,g6⟩:=dd
  refine ⟨oc,es,ep,g1,g3,ks.map (·.2),?_,?_⟩
  ·unfold RKv at rk
   clear hk hH rel z
   induction rk with
   | nil=>trivial
   | cons q t ih=>exact ⟨q.2,ih⟩
  ·rw [Fh g5]
   clear hk hH g4 g5 g6 z
   unfold KV at rel
   clear rk
   induction rel with
   | nil=>exact .nil
   | cons q t ih=>exact .cons q.2 ih
 ·rename_i kvs hk
  cases e
  have ht:bQ h d=some kvs:=by unfold bQ; rw [hk]
  obtain ⟨⟨ks,ys,r,rx',hz,hm,dd⟩,_⟩:=xX I c.K c.w rh hb ht
  have hlen:kvs.length=ys.length:=(Paired.length r).trans (Paired.length rx')
  refine ⟨dd.typeIs,hm,by rw [List.length_map,hlen]; exact hz,?_⟩
  obtain ⟨oc,es,ep,g1,g2,g3,g4,g5,g6⟩:=dd
  refine ⟨oc,es,ep,g1,g3,ks.map (·.2.2),?_,?_⟩
  ·unfold RKd at r
   clear hk ht rx' hlen
   induction r with
   | nil=>trivial
   | cons q t ih=>exact ⟨q.2.2.2,ih⟩
  ·rw [g4,List.map_map]
   clear hk ht r hlen hz g4 g5 g6
   induction rx' with
   | nil=>exact .nil
   | cons q t ih=>exact .cons q.2.2 ih
 ·cases e
def Du (h:PH) (n:Nat):Option (List PV):=match h[n]? with
 | some (.vw 1 d)=>oT h d
 | _=>none
theorem Ku {es:Array DictEntry} {acc:Array Value} (h:ItemsOf (fun i v=>∃ e,es[i]?=some e/\v=e.val) acc es.size):acc.toList=es.toList.map (·.val):=by
 apply List.ext_getElem?
 intro i
 rw [List.getElem?_map,Array.getElem?_toList,Array.getElem?_toList]
 by_cases hi:i < acc.size
 ·have e1:acc[i]?=some acc[i]:=by simp [hi]
  obtain ⟨e,h1,h2⟩:=h.2 i _ e1
  rw [e1,h1,h2]
  rfl
 ·have hi':¬ i < es.size:=by rw [<- h.1]; exact hi
  rw [Array.getElem?_eq_none (by omega),Array.getElem?_eq_none (by omega)]
  rfl
end
end L2
set_option Elab.async false
set_option linter.all false
set_option maxRecDepth 100000
namespace L2
open PySem PySem.Spec PyProof.Rows
section
variable {C:MC} {k:Nat} {X:Cx}
end
section
variable {h:PH}
theorem Np {n:Nat} {kvs:List (PV×PV)} (e:h[n]?=some (.dD kvs)):bQ h n=some kvs:=by simp [bQ,e]
theorem Ia {n:Nat} {kvs:List (PV×PV)} {xs:List PV} {z:PV} (e:bQ h n=some kvs) (hk:(PV.tup xs).ky 6=true) (hl:kvs.length < 16777216):
  oS (.ref n) [.tup xs,z] h=match bU kvs (.tup xs) with | some p=>.ok p h | none=>.ok z (h.set n (.dD (jG kvs (.tup xs) z))):=by
 have k1:(PV.tup xs).isKt=true:=hk
 have hl':kvs.length < sizeLine:=by rw [rA]; exact hl
 unfold oS
 simp only [F7,k1,if_true,e]
 cases bU kvs (.tup xs) with
 | some p=>rfl
 | none=>simp only [if_pos hl']
end
end L2
set_option Elab.async false
set_option linter.all false
set_option maxRecDepth 100000
namespace L2
open PySem PySem.Spec PyProof.Rows PySem.SeqAt PySem.W
def yA (l:List Nat):List Int:=l.map (fun (c:Nat)=>(c:Int)+2)++[1]
mutual
def enc:PV->List Int
 | .int i=>[i]
 | .str x=>yA x.cps.toList
 | .tup xs=>rH xs
 | _=>[]
def rH:List PV->List Int
 | []=>[0]
 | x :: xs=>1 :: (enc x++rH xs)
end
theorem oU (a:Nat) (l:List Nat):yA (a :: l)=((a:Int)+2) :: yA l:=rfl
theorem GC:∀ (a b:List Nat) (s t:List Int),a≠b->((yA a++s < yA b++t) ↔ a < b)
 | [],[],_,_,h=>(h rfl).elim
 | [],b :: bs,s,t,_=>by
  rw [oU]
  show (1 :: s < ((b:Int)+2) :: (yA bs++t)) ↔ _
  rw [List.cons_lt_cons_iff]
  constructor
  ·intro _; exact List.nil_lt_cons _ _
  ·intro _; left; omega
 | a :: as,[],s,t,_=>by
  rw [oU]
  show (((a:Int)+2) :: (yA as++s) < 1 :: t) ↔ _
  rw [List.cons_lt_cons_iff]
  constructor
  ·rintro (h | ⟨h,_⟩) <;> omega
  ·intro h; exact (List.not_lt_nil _ h).elim
 | a :: as,b :: bs,s,t,h=>by
  rw [oU,oU]
  show (((a:Int)+2) :: (yA as++s) < ((b:Int)+2) :: (yA bs++t)) ↔ _
  rw [List.cons_lt_cons_iff,List.cons_lt_cons_iff]
  by_cases e:a=b
  ·subst e
   have h':as≠bs:=fun z=>h (by rw [z])
   have ih:=GC as bs s t h'
   constructor
   ·rintro (h1 | ⟨_,h1⟩)
    ·omega
    ·exact .inr ⟨rfl,ih.mp h1⟩
   ·rintro (h1 | ⟨_,h1⟩)
    ·omega
    ·exact .inr ⟨rfl,ih.mpr h1⟩
  ·constructor
   ·rintro (h1 | ⟨h1,_⟩) <;> (left; omega)
   ·rintro (h1 | ⟨h1,_⟩)
    ·left; omega
    ·exact (e h1).elim
theorem Fi:∀ (n:Nat) (x y:PV) (c:Bool) (s t:List Int),x≠y->ltP n x y=some c->((enc x++s < enc y++t) ↔ c=true):=by
 intro n
 have one:∀ (a b:Int) (c:Bool) (s t:List Int),PV.int a≠.int b->some (decide (a < b))=some c->(([a]++s < [b]++t) ↔ c=true):=fun a b c s t h e=>by
  cases e
  have h':a≠b:=fun z=>h (by rw [z])
  show (a :: s < b :: t) ↔ _
  rw [List.cons_lt_cons_iff,decide_eq_true_eq]
  constructor
  ·rintro (h1 | ⟨h1,_⟩)
   ·exact h1
   ·exact (h' h1).elim
  ·intro h1; exact .inl h1
 have two:∀ (a b:Str) (c:Bool) (s t:List Int),PV.str a≠.str b->some (decide (a.cps.toList < b.cps.toList))=some c->((yA a.cps.toList++s < yA b.cps.toList++t) ↔ c=true):=fun a b c s t h e=>by
  cases e
  rw [GC _ _ s t (fun z=>h (by rw [G9 z])),decide_eq_true_eq]
 induction n with
 | zero=>
  intro x y c s t h e
  cases x <;> cases y <;> first | exact one _ _ c s t h e | exact two _ _ c s t h e | (simp [ltP] at e)
 | succ n ih=>
  have lists:∀ (xs ys:List PV) (c:Bool) (s t:List Int),xs≠ys->ltL (ltP n) xs ys=some c->((rH xs++s < rH ys++t) ↔ c=true):=by
   intro xs
   induction xs with
   | nil=>
    intro ys c s t h e
    cases ys with
    | nil=>exact (h rfl).elim
    | cons y ys=>
     cases e
     show (0 :: s < 1 :: ((enc y++rH ys)++t)) ↔ _
     rw [List.cons_lt_cons_iff]
     constructor
     ·intro _; rfl
     ·intro _; left; omega
   | cons x xs ihx=>
    intro ys c s t h e
    cases ys with
    | nil=>
     cases e
     show (1 :: ((enc x++rH xs)++s) < 0 :: t) ↔ _
     rw [List.cons_lt_cons_iff]
     constructor
     ·rintro (h1 | ⟨h1,_⟩) <;> omega
     ·intro h1; cases h1
    | cons y ys=>
     show (1 :: ((enc x++rH xs)++s) < 1 :: ((enc y++rH ys)++t)) ↔ _
     have e':(if x=y then ltL (ltP n) xs ys else ltP n x y)=some c:=e
     rw [List.cons_lt_cons_iff,List.append_assoc,List.append_assoc]
     have key:(enc x++(rH xs++s) < enc y++(rH ys++t)) ↔ c=true:=by
      by_cases xy:x=y
      ·rw [if_pos xy] at e'
       subst xy
       have:=ihx ys c s t (fun z=>h (by rw [z])) e'
       rw [<- this]
       have cut:∀ l:List Int,(l++(rH xs++s) < l++(rH ys++t)) ↔ (rH xs++s < rH ys++t):=fun l=>by
        induction l with
        | nil=>exact Iff.rfl
        | cons a l ih=>
         show (a :: (l++_) < a :: (l++_)) ↔ _
         rw [List.cons_lt_cons_iff,ih]
         constructor
         ·rintro (h1 | ⟨_,h1⟩)
          ·omega
          ·exact h1
         ·intro h1; exact .inr ⟨rfl,h1⟩
       exact cut _
      ·rw [if_neg xy] at e'
       exact ih x y c _ _ xy e'
     rw [key]
     constructor
     ·rintro (h1 | ⟨_,h1⟩)
      ·omega
      ·exact h1
     ·intro h1; exact .inr ⟨rfl,h1⟩
  intro x y c s t h e
  cases x <;> cases y <;> first | exact one _ _ c s t h e | exact two _ _ c s t h e | (simp [ltP] at e; done) | exact lists _ _ c s t (fun z=>h (by rw [z])) e
def ltN (x y:PV):Bool:=decide (enc x < enc y)
theorem Dv {f:PV->PV->Option Bool}:∀ xs:List PV,ltL f xs xs=some false
 | []=>rfl
 | x :: xs=>by
  show (if x=x then ltL f xs xs else f x x)=some false
  rw [if_pos rfl]
  exact Dv xs
theorem Kv {n:Nat} {x:PV} {c:Bool} (h:ltP n x x=some c):c=false:=by
 have st:∀ {z:Str} {c:Bool},some (decide (z.cps.toList < z.cps.toList))=some c->c=false:=fun {z c} e=>by
  cases e
  exact decide_eq_false (List.lt_irrefl _)
 have it:∀ {z:Int} {c:Bool},some (decide (z < z))=some c->c=false:=fun {z c} e=>by
  cases e
  exact decide_eq_false (Int.lt_irrefl _)
 cases n with
 | zero=>
  cases x with
  | int i=>exact it h
  | str i=>exact st h
  | _=>simp [ltP] at h
 | succ n=>
  cases x with
  | tup xs=>
   have h':ltL (ltP n) xs xs=some c:=h
   rw [Dv] at h'
   cases h'
   rfl
  | int i=>exact it h
  | str i=>exact st h
  | _=>simp [ltP] at h
theorem Nq (x:PV):ltN x x=false:=decide_eq_false (List.lt_irrefl _)
theorem Kw {n:Nat} {x y:PV} {c:Bool} (h:ltP n x y=some c):ltN x y=c:=by
 by_cases e:x=y
 ·subst e
  rw [Kv h]
  exact Nq x
 ·have:=Fi n x y c [] [] e h
  rw [List.append_nil,List.append_nil] at this
  unfold ltN
  cases c with
  | true=>exact decide_eq_true (this.mpr rfl)
  | false=>exact decide_eq_false fun z=>by cases this.mp z
theorem Nr {n:Nat} {x y:PV} {c:Bool} (h:ltP n x y=some c) (e:enc x=enc y):x=y:=by
 by_cases xy:x=y
 ·exact xy
 ·have h1:=Fi n x y c [0] [1] xy h
  have h2:=Fi n x y c [1] [0] xy h
  rw [e] at h1 h2
  have cut:∀ (l s t:List Int),(l++s < l++t) ↔ (s < t):=fun l s t=>by
   induction l with
   | nil=>exact Iff.rfl
   | cons a l ih=>
    show (a :: (l++_) < a :: (l++_)) ↔ _
    rw [List.cons_lt_cons_iff,ih]
    constructor
    ·rintro (h1 | ⟨_,h1⟩)
     ·omega
     ·exact h1
    ·intro h1; exact .inr ⟨rfl,h1⟩
  rw [cut] at h1 h2
  have t1:([0]:List Int) < [1]:=by decide
  have t2:¬ ([1]:List Int) < [0]:=by decide
  exact (t2 (h2.mpr (h1.mp t1))).elim
theorem Kx {a b c:PV} (h1:ltN b a=false) (h2:ltN c b=false):ltN c a=false:=
 decide_eq_false (List.not_lt.mpr (List.le_trans (List.not_lt.mp (of_decide_eq_false h1)) (List.not_lt.mp (of_decide_eq_false h2))))
theorem Ky {a b:PV} (h:ltN a b=true):ltN b a=false:=decide_eq_false (List.lt_asymm (of_decide_eq_true h))
theorem Q5 {a b:PV} (h1:ltN a b=false) (h2:ltN b a=false):enc a=enc b:=
 List.le_antisymm (List.not_lt.mp (of_decide_eq_false h2)) (List.not_lt.mp (of_decide_eq_false h1))
section
variable {α:Type} (key:α->PV)
def yB (x:α):List α->List α
 | []=>[x]
 | y :: ys=>if ltN (key y) (key x) then y :: yB x ys else x :: y :: ys
def kI:List α->List α
 | []=>[]
 | x :: xs=>yB key x (kI xs)
theorem tY (x:α):∀ ys,(yB key x ys).Perm (x :: ys)
 | []=>.refl _
 | y :: ys=>by
  unfold yB
  split
  ·exact ((tY x ys).cons y).trans (.swap x y ys)
  ·exact .refl _
theorem lO:∀ xs,(kI key xs).Perm xs
 | []=>.refl _
 | x :: xs=>(tY key x _).trans ((lO xs).cons x)
theorem uY (x:α):∀ {ys:List α},ys.Pairwise (fun a b=>ltN (key b) (key a)=false)->(yB key x ys).Pairwise (fun a b=>ltN (key b) (key a)=false)
 | [],_=>List.pairwise_singleton _ _
 | y :: ys,h=>by
  unfold yB
  rw [List.pairwise_cons] at h
  split
  ·rename_i hlt
   rw [List.pairwise_cons]
   refine ⟨fun z hz=>?_,uY x h.2⟩
   rcases List.mem_cons.mp ((tY key x ys).mem_iff.mp hz) with rfl | hz
   ·exact Ky hlt
   ·exact h.1 z hz
  ·rename_i hlt
   have hlt':ltN (key y) (key x)=false:=by simpa using hlt
   rw [List.pairwise_cons]
   refine ⟨fun z hz=>?_,List.pairwise_cons.mpr h⟩
   rcases List.mem_cons.mp hz with rfl | hz
   ·exact hlt'
   ·exact Kx hlt' (h.1 z hz)
theorem lQ:∀ xs:List α,(kI key xs).Pairwise (fun a b=>ltN (key b) (key a)=false)
 | []=>.nil
 | x :: xs=>uY key x (lQ xs)
theorem B2 {xs ys:List α} (inj:∀ a∈xs,∀ b∈xs,enc (key a)=enc (key b)->a=b) (hp:ys.Perm xs) (h:ys.Pairwise (fun a b=>ltN (key b) (key a)=false)):ys=kI key xs:=by
 refine List.Perm.eq_of_pairwise (le:=fun a b=>ltN (key b) (key a)=false) (fun a b ha hb h1 h2=>?_) h (lQ key xs) (hp.trans (lO key xs).symm)
 exact inj a (hp.mem_iff.mp ha) b ((lO key xs).mem_iff.mp hb) (Q5 h2 h1)
end
theorem Fj:∀ {xs:List PV} {ds:List D},PV.ds xs=some ds->xs.length=ds.length
 | [],ds,h=>by cases h; rfl
 | x :: xs,ds,h=>by
  obtain ⟨d,r,_,h2,rfl⟩:=cO h
  simp [Fj h2]
theorem Kz:∀ {xs:List PV} {ds:List D} {j:Nat} {d:D},PV.ds xs=some ds->ds[j]?=some d->∃ x,xs[j]?=some x/\x.d=some d
 | [],ds,j,d,h,e=>by cases h; simp at e
 | x :: xs,ds,j,d,h,e=>by
  obtain ⟨d',r,h1,h2,rfl⟩:=cO h
  cases j with
  | zero=>
   have:d'=d:=by simpa using e
   exact ⟨x,rfl,by rw [h1,this]⟩
  | succ j=>
   obtain ⟨y,a,b⟩:=Kz (j:=j) h2 (by simpa using e)
   exact ⟨y,by simpa using a,b⟩
theorem nL:∀ (n:Nat) (p:PV),p.ky n=true->p.pl n=true:=by
 intro n
 induction n with
 | zero=>intro p h; cases p <;> first | rfl | cases h
 | succ n ih=>
  intro p h
  cases p with
  | tup xs=>
   show xs.all (PV.pl n)=true
   rw [List.all_eq_true]
   exact fun y hy=>ih y (List.all_eq_true.mp (show xs.all (PV.ky n)=true from h) y hy)
  | _=>first | rfl | cases h
theorem Q6:∀ (n:Nat) {A:Around} {s:Shared} {p q:PV} {v u:Value} {b:Bool},p.ky n=true->q.ky n=true->A.units+n < cLine->HR s.heap p v->HR s.heap q u->ltP n p q=some b->Kf A s v u b:=by
 intro n
 have one:∀ {A:Around} {s:Shared} {i j:Int} {v u:Value} {b:Bool},HR s.heap (.int i) v->HR s.heap (.int j) u->some (decide (i < j))=some b->Kf A s v u b:=fun {A s i j v u b} r r' e=>by
  obtain ⟨t,rfl⟩:=r
  obtain ⟨t',rfl⟩:=r'
  cases e
  exact fun prog w E Q q=>(PyProof.Rows.lt_int q:wpAny (model prog w) A (compareOp .Lt _ _) Q E s)
 have two:∀ {A:Around} {s:Shared} {i j:Str} {v u:Value} {b:Bool},HR s.heap (.str i) v->HR s.heap (.str j) u->some (decide (i.cps.toList < j.cps.toList))=some b->Kf A s v u b:=fun {A s i j v u b} r r' e=>by
  obtain ⟨t,rfl⟩:=r
  obtain ⟨t',rfl⟩:=r'
  cases e
  exact fun prog w E Q q=>(PyProof.Rows.lt_str q:wpAny (model prog w) A (compareOp .Lt _ _) Q E s)
 induction n with
 | zero=>
  intro A s p q v u b hp hq hu r r' e
  cases p with
  | int i=>
   cases q with
   | int j=>exact one r r' e
   | _=>simp [ltP] at e
  | str i=>
   cases q with
   | str j=>exact two r r' e
   | _=>simp [ltP] at e
  | _=>cases hp
 | succ n ih=>
  intro A s p q v u b hp hq hu r r' e
  cases p with
  | int i=>
   cases q with
   | int j=>exact one r r' e
   | _=>simp [ltP] at e
  | str i=>
   cases q with
   | str j=>exact two r r' e
   | _=>simp [ltP] at e
  | tup ps=>
   cases q with
   | tup qs=>
    obtain ⟨a,its,rfl,p1,rs⟩:=r
    obtain ⟨a',its',rfl,p2,rs'⟩:=r'
    have kp:∀ z∈ps,z.ky n=true:=List.all_eq_true.mp hp
    have kq:∀ z∈qs,z.ky n=true:=List.all_eq_true.mp hq
    obtain ⟨d,hd,_⟩:=jS (n+1) _ (nL _ _ hp)
    obtain ⟨d',hd',_⟩:=jS (n+1) _ (nL _ _ hq)
    have hlt:=Kh (n+1) _ _ d d' (nL _ _ hp) (nL _ _ hq) hd hd'
    rw [e] at hlt
    obtain ⟨ds,g1,rfl⟩:=bR hd
    obtain ⟨es,g2,rfl⟩:=bR hd'
    have hb':jE ds es=some b:=by simpa [ltD] using hlt
    obtain ⟨⟨cls,dd,data,sl⟩,ho,hc,m,hdt⟩:=id p1
    obtain ⟨⟨cls2,dd2,data2,sl2⟩,ho2,hc2,m2,hd2⟩:=id p2
    simp only at hc hdt hc2 hd2
    subst hc hdt hc2 hd2
    intro prog w E Q hq'
    refine richCompare_meets_room (op:=.Lt) ⟨_,ho,rfl⟩ ⟨_,ho2,rfl⟩ PySem.F.slot_tuple_lt PySem.F.entry_tuple_lt (PySem.F.args_tuple_lt_2 _ _) (rD a a' its.toArray its'.toArray m m2 dd dd2 sl sl2 ds es b hb')
     ⟨ho,ho2,⟨?_,?_,?_⟩,show Value.bool b≠Value.notImplemented/\Q (.bool b) s from ⟨(fun x=>nomatch x),hq'⟩⟩ (by omega)
    ·have l1:=rs.length
     have l2:=Fj g1
     show its.length=ds.length
     omega
    ·have l1:=rs'.length
     have l2:=Fj g2
     show its'.length=es.length
     omega
    ·intro j v u d e h1 h2 h3 h4
     obtain ⟨x,hx,ex⟩:=Kz g1 h3
     obtain ⟨y,hy,ey⟩:=Kz g2 h4
     obtain ⟨v',hv,rv⟩:=rs.at hx
     obtain ⟨u',hu',ru⟩:=rs'.at hy
     have e1:v=v':=by
      have:its[j]?=some v:=h1
      rw [hv] at this
      exact (Option.some.inj this).symm
     have e2:u=u':=by
      have:its'[j]?=some u:=h2
      rw [hu'] at this
      exact (Option.some.inj this).symm
     subst e1 e2
     have kx:=kp x (List.mem_of_getElem? hx)
     have ky:=kq y (List.mem_of_getElem? hy)
     have hun:A.in1.units+n < cLine:=by show A.units+1+n < cLine; omega
     refine ⟨?_,fun _ b hb=>?_⟩
     ·rw [Do n x y d e (nL _ _ kx) (nL _ _ ky) ex ey]
      exact F6 kx ky hun rv ru
     ·rw [Kh n x y d e (nL _ _ kx) (nL _ _ ky) ex ey] at hb
      exact ih kx ky hun rv ru hb
   | _=>simp [ltP] at e
  | _=>cases hp
section
variable {prog:Program} {w:World} {A:Around} {E:Value->Shared->Prop} {s:Shared}
def KA:List PV->Prop
 | .tup _ :: _=>False
 | _=>True
theorem B3 {b fin:Bool} {n:Nat} {Q:Bool->Shared->Prop} (hu:A.units+n < cLine):∀ (ps qs:List PV) (us ws:List Value) (i:Nat) (c:Bool),(∀ p∈ps,p.ky n=true)->(∀ q∈qs,q.ky n=true)->HRs s.heap ps us->HRs s.heap qs ws->ltL (ltP n) ps qs=some c->((b && i == 0)=true->KA ps)->fin=decide (ps.length < qs.length)->Q c s->KatLex prog w A b fin Q (us.zip ws) i s
 | [],[],[],[],i,c,_,_,_,_,hc,_,hf,h=>by
  cases hc
  rw [hf]
  exact h
 | [],q :: qs,[],u :: ws,i,c,_,_,_,_,hc,_,hf,h=>by
  cases hc
  rw [hf]
  exact h
 | p :: ps,[],u :: us,[],i,c,_,_,_,_,hc,_,hf,h=>by
  cases hc
  rw [hf]
  exact h
 | p :: ps,q :: qs,u :: us,v :: ws,i,c,kp,kq,rs,rs',hc,hn,hf,h=>by
  rw [List.zip_cons_cons]
  have hc':(if p=q then ltL (ltP n) ps qs else ltP n p q)=some c:=hc
  have k1:=kp p List.mem_cons_self
  have k2:=kq q List.mem_cons_self
  refine kat_cons (F6 k1 k2 hu rs.1 rs'.1 prog w _ _ ?_)
  by_cases pq:p=q
  ·rw [if_pos pq] at hc'
   rw [decide_eq_true pq]
   refine kat_yes (B3 hu ps qs us ws (i+1) c (fun z hz=>kp z (List.mem_cons_of_mem _ hz)) (fun z hz=>kq z (List.mem_cons_of_mem _ hz)) rs.2 rs'.2 hc' (fun z=>?_) ?_ h)
   ·cases b <;> simp at z
   ·rw [hf]
    simp
  ·rw [if_neg pq] at hc'
   rw [decide_eq_false pq]
   refine kat_no ?_
   have gen:wpAny (model prog w) A (oneLt' false u v) Q (fun _ _=>False) s:=kat_one _ _ (Q6 n k1 k2 hu rs.1 rs'.1 hc' prog w _ (PySem.W.BoolBack Q) h)
   cases hb:(b && i == 0) with
   | false=>exact gen
   | true=>
    have hn':=hn hb
    cases p with
    | tup _=>exact hn'.elim
    | int a=>
     cases q with
     | int d=>
      obtain ⟨t,rfl⟩:=rs.1
      obtain ⟨t',rfl⟩:=rs'.1
      have e:decide (a < d)=c:=by
       cases n <;> exact Option.some.inj hc'
      rw [<- e] at h
      exact oneLt_int h
     | _=>cases n <;> simp [ltP] at hc'
    | str a=>
     cases q with
     | str d=>
      obtain ⟨t,rfl⟩:=rs.1
      obtain ⟨t',rfl⟩:=rs'.1
      have e:decide (a.cps.toList < d.cps.toList)=c:=by
       cases n <;> exact Option.some.inj hc'
      rw [<- e] at h
      exact oneLt_str h
     | _=>cases n <;> simp [ltP] at hc'
    | _=>exact rs.1.elim
 | [],_,_ :: _,_,_,_,_,_,r,_,_,_,_,_=>r.elim
 | _ :: _,_,[],_,_,_,_,_,r,_,_,_,_,_=>r.elim
 | _,[],_,_ :: _,_,_,_,_,_,r,_,_,_,_=>r.elim
 | _,_ :: _,_,[],_,_,_,_,_,r,_,_,_,_=>r.elim
theorem KB {b:Bool} {n:Nat} {p q:PV} {v u:Value} {c:Bool} {Q:Bool->Shared->Prop} (hu:A.units+n < cLine) (kp:p.ky (n+1)=true) (kq:q.ky (n+1)=true) (tp:∃ ps,p=.tup ps/\(b=true->KA ps)) (tq:∃ qs,q=.tup qs) (r:HR s.heap p v) (r':HR s.heap q u) (hc:ltP (n+1) p q=some c) (h:Q c s):
  wpAny (model prog w) A (keyLt' (tuples' b) v u) Q E s:=by
 obtain ⟨ps,rfl,hn⟩:=tp
 obtain ⟨qs,rfl⟩:=tq
 obtain ⟨a,its,rfl,⟨ox,hox,_,m,dx⟩,rs⟩:=r
 obtain ⟨a',its',rfl,⟨oy,hoy,_,m',dy⟩,rs'⟩:=r'
 refine kat_lt hox dx hoy dy ?_
 have l1:=rs.length
 have l2:=rs'.length
 have e1:decide (its.toArray.size < its'.toArray.size)=decide (ps.length < qs.length):=by simp [l1,l2]
 rw [e1]
 exact B3 hu ps qs its its' 0 c (List.all_eq_true.mp kp) (List.all_eq_true.mp kq) rs rs' hc (fun z=>hn (by cases b <;> simp at z; rfl)) rfl h
def fk:PV->Nat
 | .tup (.int _ :: _)=>0
 | .tup (.str _ :: _)=>1
 | .tup (.tup _ :: _)=>2
 | _=>3
def fkT (m:Nat):Value:=.type (if m=0 then "int" else if m=1 then "str" else "tuple")
theorem yC {m:Nat} (hm:m < 3):∀ {ps:List PV} {vs:List Value},HRs s.heap ps vs->(∀ p∈ps,fk p=m)->∃ fs:List Value,fs.length=vs.length/\KatTups s.heap vs fs/\∀ f∈fs,Looks (model prog w) s.heap (typeOf f) (fkT m)
 | [],[],_,_=>⟨[],rfl,KatTups.nil,fun _ hf=>nomatch hf⟩
 | p :: ps,v :: vs,r,hs=>by
  obtain ⟨fs,hl,ht,hT⟩:=yC hm r.2 fun x hx=>hs x (List.mem_cons_of_mem _ hx)
  have h0:=hs p List.mem_cons_self
  have r1:=r.1
  cases p with
  | tup xs=>
   obtain ⟨a,its,rfl,⟨o,ho,hc,n,hd⟩,rx⟩:=r1
   cases xs with
   | nil=>simp [fk] at h0; omega
   | cons x xs=>
    cases its with
    | nil=>exact rx.elim
    | cons f its=>
     refine ⟨f :: fs,by simp [hl],KatTups.cons ho hc hd (by simp) ht,fun g hg=>?_⟩
     rcases List.mem_cons.mp hg with rfl | hg
     ·have rf:=rx.1
      cases x with
      | int i=>
       obtain ⟨t,rfl⟩:=rf
       have:m=0:=h0.symm
       subst this
       exact Looks.now
      | str i=>
       obtain ⟨t,rfl⟩:=rf
       have:m=1:=h0.symm
       subst this
       exact Looks.now
      | tup i=>
       obtain ⟨a',its',rfl,⟨o',ho',hc',n',hd'⟩,_⟩:=rf
       have:m=2:=h0.symm
       subst this
       have:Looks (model prog w) s.heap (typeOf (.ref a')) o'.cls:=(Looks.ld ho').andThen .now
       rw [hc'] at this
       exact this
      | _=>exact rf.elim
     ·exact hT g hg
  | _=>simp [fk] at h0; omega
 | [],_ :: _,r,_=>r.elim
 | _ :: _,[],r,_=>r.elim
theorem Nt {m:Nat} (hm:m < 3) {ps:List PV} {vs:List Value} {Q:SortKind->Shared->Prop} (r:HRs s.heap ps vs) (hs:∀ p∈ps,fk p=m) (h0:0 < vs.length) (h:Q (tuples' (decide (m≠2))) s):wpAny (model prog w) A (keyKind' vs.toArray) Q E s:=by
 obtain ⟨fs,hl,ht,hT⟩:=yC (prog:=prog) (w:=w) hm r hs
 refine kat_kind (T:=fkT m) ht (by omega) hT ?_ ?_
 ·match m,hm with
  | 0,_=>rfl
  | 1,_=>rfl
  | 2,_=>rfl
 ·have:((fkT m) != Value.type "tuple")=decide (m≠2):=by
   match m,hm with
   | 0,_=>rfl
   | 1,_=>rfl
   | 2,_=>rfl
  rw [this]
  exact h
end
structure OkN (m:Nat) (xs:List PV):Prop where
 m3:m < 3
 ky:∀ x∈xs,x.ky 20=true
 fk:∀ x∈xs,fk x=m
 lt:∀ x∈xs,∀ y∈xs,(ltP 20 x y).isSome=true
theorem OkN.inj {m:Nat} {xs:List PV} (h:OkN m xs):∀ a∈xs,∀ b∈xs,enc a=enc b->a=b:=fun a ha b hb e=>by
 obtain ⟨c,hc⟩:=Option.isSome_iff_exists.mp (h.lt a ha b hb)
 exact Nr hc e
theorem KC {m:Nat} (hm:m < 3) {p:PV} (h:fk p=m):∃ ps,p=.tup ps/\(decide (m≠2)=true->KA ps):=by
 cases p with
 | tup xs=>
  refine ⟨xs,rfl,fun hd=>?_⟩
  have hd':m≠2:=of_decide_eq_true hd
  cases xs with
  | nil=>trivial
  | cons x xs=>
   cases x <;> first | trivial | (exact (hd' h.symm).elim)
 | _=>simp [fk] at h; omega
theorem HRs.getD {h:Heap} {ps:List PV} {vs:List Value} (r:HRs h ps vs) {i:Nat} (hi:i < ps.length):HR h (ps.getD i .non) (vs.getD i Value.none):=by
 have g:ps[i]?=some (ps.getD i .non):=by simp [hi]
 obtain ⟨v,hv,hr⟩:=r.at g
 have e:vs.getD i Value.none=v:=by simp [List.getD_eq_getElem?_getD,hv]
 rw [e]
 exact hr
section
variable {C:MC} {k:Nat} {X:Cx}
def yD:List PV->Option (List Str)
 | []=>some []
 | .str x :: r=>(yD r).map (x :: ·)
 | _=>none
theorem rJ:∀ ss:List Str,yD (ss.map PV.str)=some ss
 | []=>rfl
 | x :: r=>by
  show (yD (r.map PV.str)).map (x :: ·)=_
  rw [rJ r]
  rfl
theorem yE:∀ {xs:List PV} {ss:List Str},yD xs=some ss->xs=ss.map PV.str
 | [],ss,h=>by cases h; rfl
 | x :: r,ss,h=>by
  cases x with
  | str z=>
   have h':(yD r).map (z :: ·)=some ss:=h
   obtain ⟨t,ht,rfl⟩:=Option.map_eq_some_iff.mp h'
   rw [yE ht]
   rfl
  | _=>cases h
def unZ:List Key->Str
 | [.inr x]=>x
 | _=>""
def cL (ss:List Str):List Str:=(pX (ss.map fun x=>[(Sum.inr x:Key)])).map unZ
theorem BX (ss:List Str):(ss.map fun x=>[(Sum.inr x:Key)]).map unZ=ss:=by
 rw [List.map_map]
 exact (List.map_congr_left fun _ _=>rfl).trans (List.map_id ss)
theorem yF (ss:List Str):(cL ss).Perm ss:=by
 have:=(eV (ss.map fun x=>[(Sum.inr x:Key)])).map unZ
 rw [BX] at this
 exact this
def nM:List PV->PH->Rs PV:=fun xs h=>match xs with
 | [.ref n]=>match aS h n with
  | some ys=>match yD ys with
   | some ss=>if ss.length < 64 then .ok (.ref h.length) (h++[.lst ((cL ss).map PV.str)]) else .bad
   | none=>.bad
  | none=>.bad
 | _=>.bad
theorem GD:nD C k X (.builtin "sorted") nM:=fun c=>bT.imp (by have:=tL (X:=X); rw [c.K] at this; exact this) fun vs H Q h=>by
 obtain ⟨φ,h,ps,rh,rv,po⟩:=h
 unfold nM at po
 split at po
 ·rename_i n
  split at po
  ·rename_i ys e
   split at po
   ·rename_i ss es
    obtain ⟨hc,po⟩:=po.ite
    obtain ⟨v,rfl,rx⟩:=rv.one
    obtain ⟨a,rfl,ha⟩:=rx
    obtain ⟨a2,vs,ha2,sa,ra⟩:=cH rh e
    rw [ha] at ha2; cases ha2
    have ey:=yE es
    subst ey
    have ev:=rG.mp ra
    subst ev
    refine ⟨a,ss,rfl,sa,hc,fun l ss' hl hp hs=>?_⟩
    have e1:(ss'.map fun x=>[(Sum.inr x:Key)])=pX (ss.map fun x=>[(Sum.inr x:Key)]):=by
     refine pY (S:=[false]) (fun y hy=>?_) (hp.map _) ?_
     ·obtain ⟨z,_,rfl⟩:=List.mem_map.mp hy; rfl
     ·cases ss' with
      | nil=>exact .nil
      | cons x r=>exact uW hs
    have e2:cL ss=ss':=by
     unfold cL
     rw [<- e1,BX]
    rw [e2] at po
    exact po.lnew rh (rG.mpr rfl) hl
   ·exact po.elim
  ·exact po.elim
 ·exact po.elim
theorem Dw {h:PH} {n:Nat} {ss:List Str} (e:h[n]?=some (.lst (ss.map PV.str))) (hl:ss.length < 64):∃ zs:List Str,zs.Perm ss/\nM [.ref n] h=.ok (.ref h.length) (h++[.lst (zs.map PV.str)]):=by
 refine ⟨cL ss,yF ss,?_⟩
 have e1:aS h n=some (ss.map PV.str):=by simp [aS,e]
 simp only [nM,e1,rJ]
 rw [if_pos hl]
end
end L2
set_option Elab.async false
set_option linter.all false
set_option maxRecDepth 100000
namespace L2
open PySem PySem.Spec PyProof.Rows
abbrev KP:=List Key×PV
def OL (x:KP):List KP->List KP
 | []=>[x]
 | y :: ys=>if iE y.1 x.1=true then y :: OL x ys else x :: y :: ys
def KD:List KP->List KP
 | []=>[]
 | x :: xs=>OL x (KD xs)
open Classical in
noncomputable def sortBy (b:Bool) (ks ys:List PV):Option (List PV):=match OK ks with
 | some kss=>if kss.length < 64/\kss.length=ys.length/\Us kss=true/\kss.Nodup then some ((PySem.W.katRev b (KD (kss.zip ys))).map (·.2)) else none
 | none=>none
noncomputable def GE (f:Fn) (b:Bool) (ys:List PV):List PV->List PV->PH->Rs PV
 | [],ks,h=>match sortBy b ks ys with
  | some zs=>.ok (.ref h.length) (h++[.lst zs])
  | none=>.bad
 | x :: xs,ks,h=>(f [x] h).bind fun k h1=>GE f b ys xs (ks++[k]) h1
def pZ (x:PV) (h:PH):Option (List PV):=match x with
 | .ref n=>match aS h n with
  | some ys=>some ys
  | none=>Du h n
 | .fl ys=>some ys
 | _=>none
noncomputable def KF (f:Fn) (b:Bool) (x:PV) (h:PH):Rs PV:=match pZ x h with
 | some ys=>if ys.length < 64 then GE f b ys ys [] h else .bad
 | none=>.bad
noncomputable def Q7 (f:Fn) (b:Bool) (me:Me):Me:=fun δ h=>(me δ h).bind fun x h1=>KF f b x h1
section
variable {C:MC} {k:Nat} {X:Cx}
theorem RVs.pick {φ:List Addr} {H:Hp} {xs:List PV} {vs:List V} (r:RVs C φ H xs vs):∀ {p:List Nat},(∀ i∈p,i < xs.length)->RVs C φ H (p.map fun i=>xs.getD i .non) (p.map fun i=>vs.getD i .non)
 | [],_=>trivial
 | i :: p,h=>by
  have hi:=h i List.mem_cons_self
  have g:xs[i]?=some (xs.getD i .non):=by simp [hi]
  obtain ⟨v,hv,hr⟩:=r.at g
  have e:vs.getD i .non=v:=by simp [List.getD_eq_getElem?_getD,hv]
  refine ⟨?_,RVs.pick r fun j hj=>h j (List.mem_cons_of_mem _ hj)⟩
  show RV C φ H (xs.getD i .non) (vs.getD i .non)
  rw [e]
  exact hr
theorem KG {pins:List (Addr×Obj)} {σ:St} {H:Hp} {s:Shared} (I:Inv X pins σ H s) {a:Addr} (ha:s.heap.objs.size<=a):X.s₀.heap.objs.size<=a/\a≠X.env.locals/\(∀ x c,X.env.cells.lookup x=some c->c≠a)/\(∀ p∈X.pn++pins,p.1≠a)/\a∉X.fs:=by
 refine ⟨Nat.le_trans I.sz ha,Nat.ne_of_gt (Nat.lt_of_lt_of_le I.lt ha),fun x c e z=>?_,fun p hp z=>?_,I.nofs ha⟩
 ·obtain ⟨v,o,ho,_⟩:=I.cell x c e
  rw [z] at ho
  exact absurd (Nat.lt_of_lt_of_le (Heap.lt_size ho) ha) (Nat.lt_irrefl _)
 ·have ho:=(I.pin p hp).1
  rw [z] at ho
  exact absurd (Nat.lt_of_lt_of_le (Heap.lt_size ho) ha) (Nat.lt_irrefl _)
theorem nN {its:Array Value} {e:Nat}:∀ v,(seqObj "list" its e).data≠.cell v:=fun v z=>nomatch z
theorem Inv.adopt {pins:List (Addr×Obj)} {σ:St} {H:Hp} {s:Shared} {a d:Addr} {o:HO} {h':Heap} (I:Inv X pins σ H s) (ha:H a=none) (hd:H d=none)
  (fa:X.s₀.heap.objs.size<=a/\a≠X.env.locals/\(∀ x c,X.env.cells.lookup x=some c->c≠a)/\(∀ p∈X.pn++pins,p.1≠a)/\a∉X.fs) (fd:X.s₀.heap.objs.size<=d/\d≠X.env.locals/\(∀ x c,X.env.cells.lookup x=some c->c≠d)/\(∀ p∈X.pn++pins,p.1≠d)/\d∉X.fs)
  (kp:∀ x u,x≠a->x≠d->s.heap.get? x=some u->h'.get? x=some u) (new:cV X.prog X.w (upd H a o) h' a o):Inv X pins σ (upd H a o) { s with heap:=h' }:=by
 have na:∀ x u,H x=some u->x≠a:=fun x u e z=>by rw [z,ha] at e; cases e
 have nd:∀ x u,H x=some u->x≠d:=fun x u e z=>by rw [z,hd] at e; cases e
 refine I.call' (s':={ s with heap:=h' }) (ch:=[a,d]) rfl ⟨fun b u q n _ hx=>?_,fun b u q n _ hx=>⟨u.slots,?_⟩,fun b u q n hx=>?_,fun b u q hx=>⟨u,?_⟩,fun b xs q=>?_,fun b u xs q=>?_,fun b ps q=>⟨#[],?_⟩⟩ (fun b u e=>?_) I.bare fun b hb=>?_
 ·exact kp b u (fun z=>hx (by simp [z])) (fun z=>hx (by simp [z])) q
 ·exact kp b u (fun z=>hx (by simp [z])) (fun z=>hx (by simp [z])) q
 ·rw [aX (fun z=>hx (by simp [z]))]; exact n
 ·exact kp b u (fun z=>hx (by simp [z])) (fun z=>hx (by simp [z])) q
 ·rw [aX (na _ _ q)]; exact q
 ·rw [aX (na _ _ q)]; exact q
 ·rw [aX (na _ _ q),q]; simp
 ·by_cases hb:b=a
  ·subst hb; rw [bK] at e; cases e; exact new
  ·rw [aX hb] at e
   refine (I.hok b u e).stay (fun c v hc q=>kp c v ?_ ?_ q) (fun c q=>by rw [aX (na _ _ q)]; exact q) fun c xs q=>by rw [aX (na _ _ q)]; exact q
   ·rcases hc with z | z
    ·rw [z]; exact hb
    ·exact na _ _ z
   ·rcases hc with z | z
    ·rw [z]; exact nd _ _ e
    ·exact nd _ _ z
 ·rcases List.mem_cons.mp hb with rfl | hb
  ·exact ⟨.inr fa.1,fa.2.1,fa.2.2.1,fa.2.2.2.1⟩
  ·rw [List.mem_singleton.mp hb]
   exact ⟨.inr fd.1,fd.2.1,fd.2.2.1,fd.2.2.2.1⟩
section
variable {x:Str} {st:Stmt} {q:Addr} {fd:FuncData} {pn:List Str} {j:Nat} {f:Fn}
end
section
variable {kf:Str} {st:Stmt} {q:Addr} {fd:FuncData} {pn:List Str} {j jb:Nat} {f:Fn} {e:Expr} {me:Me} {p pos kp kpos rp rpos:Pos}
end
end
end L2
set_option Elab.async false
set_option linter.all false
set_option maxRecDepth 100000
namespace L2
open PySem
section
variable {α:Type} (key:α->List Key)
variable {key}
end
section
variable {δ:Ev} {h:PH} {m:Me}
@[simp] theorem QV {f:Fn} {b:Bool}:Q7 f b m δ h=(m δ h).bind fun x h1=>KF f b x h1:=(rfl)
theorem Fk {n:Nat} {xs:List PV} (e:h[n]?=some (.lst xs)):pZ (.ref n) h=some xs:=by simp [pZ,aS,e]
theorem Ib {n:Nat} {kvs:List (PV×PV)} (e:bQ h n=some kvs):oT h n=some (kvs.map (·.2)):=by
 unfold bQ at e
 split at e
 ·rename_i q; cases e; simp [oT,q]
 ·rename_i q; cases e; simp [oT,q]
 ·cases e
theorem gP {n:Nat} {kvs:List (PV×PV)} (e:bQ h n=some kvs):∃ o,h[n]?=some o/\xZ (.ref n) h=true/\∀ h',h'[n]?=some o->bQ h' n=some kvs:=by
 unfold bQ at e
 split at e
 ·rename_i q; cases e; exact ⟨_,q,by simp [xZ,q],fun h' e=>by simp [bQ,e]⟩
 ·rename_i q; cases e; exact ⟨_,q,by simp [xZ,q],fun h' e=>by simp [bQ,e]⟩
 ·cases e
theorem Q8 {n:Nat} {kvs:List (PV×PV)} {xs:List PV} {z:PV} (e:bQ h n=some kvs) (hk:(PV.tup xs).ky 6=true) (hl:kvs.length < 16777216):Ff (.ref n) (.tup xs) z h=some (h.set n (.dD (jG kvs (.tup xs) z))):=by
 have k1:(PV.tup xs).isKt=true:=hk
 have hl':kvs.length < sizeLine:=by rw [rA]; exact hl
 unfold Ff
 simp only [F7,k1,if_true,e]
 rw [if_pos hl']
@[simp] theorem Q9 {xs:List PV}:tS (.tup xs)=false:=(rfl)
@[simp] theorem Qa:tS .non=true:=(rfl)
end
section
variable {δ:Ev} {h h1:PH} {js:List (Option Nat)} {tg:Mg} {elt:Me} {g:PH->Bool}
theorem Ext.setN {h hX:PH} {o:MO} {n:Nat} (x:Ext h hX) (hn:h.length<=n):Ext h (hX.set n o):=fun m o' e=>by
 have:=(List.getElem?_eq_some_iff.mp e).1
 rw [List.getElem?_set_ne (by omega)]
 exact x m o' e
theorem B4 {n m:Nat} {xs ys:List PV} (e1:h[n]?=some (.lst xs)) (e2:h[m]?=some (.lst ys)) (c:xs.length+ys.length<=16777216):aT (.ref n) (.ref m) h=.ok (.ref h.length) (h++[.lst (xs++ys)]):=by
 show JX (.ref n) (.ref m) h=_
 simp [JX,fA,e1,e2,c]
end
end L2
set_option Elab.async false
set_option linter.all false
set_option maxRecDepth 100000
namespace L2
open PySem PySem.Spec PyProof.Rows
def Fm (f:Str) (p:PV):List (Str×PV)->List (Str×PV)
 | []=>[(f,p)]
 | (g,x) :: r=>if g=f then (g,p) :: r else (g,x) :: Fm f p r
def mN (x:PV) (h:PH):Option (Nat×Str×List (Str×PV)):=match x with
 | .ref n=>match h[n]? with
  | some (.ins c fs)=>some (n,c,fs)
  | _=>none
 | _=>none
def tZ (f:Str):PV->PH->Rs PV:=fun x h=>match mN x h with
 | some (_,_,fs)=>match fs.lookup f with
  | some p=>.ok p h
  | none=>.bad
 | none=>.bad
def uZ (f:Str) (x y:PV) (h:PH):Option PH:=match mN x h with
 | some (n,c,fs)=>if fs.length < 1000 then some (h.set n (.ins c (Fm f y fs))) else none
 | none=>none
section
variable {C:MC} {k:Nat} {X:Cx}
theorem KH {φ:List Addr} {H:Hp} {fs:List (Str×PV)} {ks:List (Str×V)} (r:RKv C φ H fs ks) (f:Str) {p:PV} {v:V} (rv:RV C φ H p v):RKv C φ H (Fm f p fs) (kA f v ks):=by
 unfold RKv at r ⊢
 induction r with
 | nil=>exact .cons ⟨rfl,rv⟩ .nil
 | @cons a b as bs h t ih=>
  obtain ⟨a1,a2⟩:=a
  obtain ⟨b1,b2⟩:=b
  have e:a1=b1:=h.1
  subst e
  unfold Fm kA
  by_cases z:a1=f
  ·rw [if_pos z,if_pos z]; exact .cons ⟨rfl,rv⟩ t
  ·rw [if_neg z,if_neg z]; exact .cons h ih
theorem qA {φ:List Addr} {H:Hp} {fs:List (Str×PV)} {ks:List (Str×V)} (r:RKv C φ H fs ks) (f:Str):(fs.lookup f=none/\ks.lookup f=none)\/∃ p v,fs.lookup f=some p/\ks.lookup f=some v/\RV C φ H p v:=by
 unfold RKv at r
 induction r with
 | nil=>exact .inl ⟨rfl,rfl⟩
 | @cons a b as bs h t ih=>
  obtain ⟨a1,a2⟩:=a
  obtain ⟨b1,b2⟩:=b
  have e:a1=b1:=h.1
  subst e
  simp only [List.lookup_cons]
  cases z:(f == a1) with
  | true=>exact .inr ⟨a2,b2,rfl,rfl,h.2⟩
  | false=>exact ih
theorem rK {φ:List Addr} {H:Hp} {h:PH} {x:PV} {v:V} {n:Nat} {c:Str} {fs:List (Str×PV)} (rh:RH C φ H h) (rv:RV C φ H x v) (e:mN x h=some (n,c,fs)):
  ∃ a ca dx ks,x=.ref n/\v=.ref a/\φ[n]?=some a/\h[n]?=some (.ins c fs)/\C.cl c=some ca/\H a=some (.ins ca dx ks)/\RKv C φ H fs ks:=by
 unfold mN at e
 cases x with
 | ref m=>
  obtain ⟨a,rfl,ha⟩:=rv
  dsimp only at e
  split at e
  ·rename_i c' fs' q
   cases e
   obtain ⟨ca,dx,ks,h1,h2,h3⟩:=rh.at' _ a _ ha q
   exact ⟨a,ca,dx,ks,rfl,rfl,ha,q,h1,h2,h3⟩
  ·cases e
 | _=>cases e
def A4 (C:MC) (f:Str):Prop:=∀ c a,C.cl c=some a->Cls C.K a/\mW C.K a f
section
variable {e o value:Expr} {f:Str} {m mo mv:Me} {pos pos' tpos:Pos}
theorem B5 (hF:A4 C f) (he:SE C k X e m) (hb:attributeBase e f X.env (eval e X.env)=eval e X.env:=by rfl):SE C k X (.Attribute e f pos) (mUn (tZ f) m):=fun c=>
 (Pc (he c) hb).imp fun σ H Q h=>by
  obtain ⟨φ,δ,h,rh,re,p⟩:=h
  refine ⟨φ,δ,h,rh,re,(post.bind p).imp ?_⟩
  rintro v H1 ⟨φ1,x,h1,p1,t1,rh1,rv1,q1⟩
  unfold tZ at q1
  cases ei:mN x h1 with
  | none=>rw [ei] at q1; exact q1.elim
  | some z=>
   obtain ⟨n,cn,fs⟩:=z
   rw [ei] at q1
   dsimp only at q1
   obtain ⟨a,ca,dx,ks,rfl,rfl,ha,hh,hc,hH,rk⟩:=rK rh1 rv1 ei
   obtain ⟨cl,na⟩:=hF cn ca hc
   rcases qA rk f with ⟨l1,_⟩ | ⟨y,u,l1,l2,ru⟩
   ·rw [l1] at q1; exact q1.elim
   ·rw [l1] at q1
    exact ⟨a,ca,dx,ks,u,rfl,hH,by rw [c.K]; exact cl,by rw [c.K]; exact na,l2,q1.val rh1 ru⟩
def Dx (f:Str) (mo mv:Me):Ms:=fun δ h=>(mv δ h).fl fun y h1=>(mo δ h1).fl fun x h2=>match uZ f x y h2 with
 | some h3=>.nx δ h3
 | none=>.bad
theorem Nu {φ:List Addr} {H:Hp} {h h3:PH} {x y:PV} {v u:V} {D:Ends} {δ:Ev} {σ:St} (c:Cxt C k X) (hF:A4 C f) (rh:RH C φ H h) (re:RE C φ H δ σ) (rx:RV C φ H x v) (ry:RV C φ H y u) (es:uZ f x y h=some h3) (q:cK C φ H (.nx δ h3) D):
  ∃ a ca dx ks,v=.ref a/\H a=some (.ins ca dx ks)/\Cls X.K ca/\mW X.K ca f/\ks.length < 1000/\D.nx σ (upd H a (.ins ca dx (kA f u ks)))/\∃ n cn fs,mN x h=some (n,cn,fs)/\C.cl cn=some ca:=by
 unfold uZ at es
 cases ei:mN x h with
 | none=>rw [ei] at es; cases es
 | some z=>
  obtain ⟨n,cn,fs⟩:=z
  rw [ei] at es
  dsimp only at es
  split at es
  ·rename_i hl
   cases es
   obtain ⟨a,ca,dx,ks,rfl,rfl,ha,hh,hc,hH,rk⟩:=rK rh rx ei
   obtain ⟨cl,na⟩:=hF cn ca hc
   have kp:Kp H (upd H a (.ins ca dx (kA f u ks))):=Kp.upd (by rw [hH]; trivial)
   refine ⟨a,ca,dx,ks,rfl,hH,by rw [c.K]; exact cl,by rw [c.K]; exact na,by rw [<- Paired.length rk]; exact hl,?_⟩
   refine ⟨q φ σ _ List.prefix_rfl kp (rh.write ha (by rw [hH]; trivial) ⟨ca,dx,_,hc,bK,?_⟩) (re.mono List.prefix_rfl kp),n,cn,fs,rfl,hc⟩
   exact (KH rk f ry).mono List.prefix_rfl kp
  ·cases es
theorem OM (hF:A4 C f) (hv:SE C k X value mv) (ho:SE C k X o mo) (hs:swapsWith value (some (.Attribute o f pos')) pos.line X.env=pure false:=by rfl):SSt C k X (.Assign [.Attribute o f pos'] value pos) (Dx f mo mv):=fun c=>
 (Pd (ho c) (hv c) hs).imp fun D σ H h=>by
  obtain ⟨φ,δ,h,rh,re,p⟩:=h
  refine ⟨φ,δ,h,rh,re,(post.fl p).imp ?_⟩
  rintro u H1 ⟨φ1,y,h1,p1,t1,rh1,rv1,q1⟩
  refine ⟨φ1,δ,h1,rh1,re.mono p1 t1,(post.fl q1).imp ?_⟩
  rintro v H2 ⟨φ2,x,h2,p2,t2,rh2,rv2,q2⟩
  cases es:uZ f x y h2 with
  | none=>rw [es] at q2; exact q2.elim
  | some h3=>
   rw [es] at q2
   obtain ⟨a,ca,dx,ks,g1,g2,g3,g4,g5,g6,_⟩:=Nu c hF rh2 ((re.mono p1 t1).mono p2 t2) rv2 (rv1.mono p2 t2) es q2
   exact ⟨a,ca,dx,ks,g1,g2,g3,g4,g5,g6⟩
end
def KI (C:MC) (X:Cx) (k:Nat) (m:Str) (n:Nat) (tb:Str->Option Fn):Prop:=∀ c a f,C.cl c=some a->tb c=some f->
 ∃ g fd ps j,Cls C.K a/\lG C.K a m g/\j<=k/\aM X.prog X.w C.K X.mg X.base CX0 j g fd ps (spM C (n+1) f)/\Binds C.K fd ps []
theorem qB {m:Str} {n:Nat}:KI C X k m n (fun _=>none):=fun _ _ _ _ h=>nomatch h
theorem lR {m c:Str} {n j:Nat} {a g:Addr} {fd:FuncData} {ps:List Str} {f:Fn} {tb:Str->Option Fn} (hc:C.cl c=some a) (hC:Cls C.K a) (me:lG C.K a m g) (hj:j<=k) (G:aM X.prog X.w C.K X.mg X.base CX0 j g fd ps (spM C (n+1) f)) (B:Binds C.K fd ps []) (r:KI C X k m n tb):
  KI C X k m n (fun z=>if z=c then some f else tb z):=fun c' a' f' h1 h2=>by
 have h2':(if c'=c then some f else tb c')=some f':=h2
 by_cases e:c'=c
 ·subst e
  rw [hc] at h1
  cases h1
  rw [if_pos rfl] at h2'
  cases h2'
  exact ⟨g,fd,ps,j,hC,me,hj,G,B⟩
 ·rw [if_neg e] at h2'
  exact r c' a' f' h1 h2'
def dE (m:Str) (n:Nat) (tb:Str->Option Fn) (mo:Me) (ms:Ma):Me:=fun δ h=>(mo δ h).bind fun x h1=>match mN x h1 with
 | some (_,c,fs)=>match tb c,fs.lookup m with
  | some f,none=>(ms δ h1).bind fun ps h2=>if ps.length=n then f (x :: ps) h2 else .bad
  | _,_=>.bad
 | none=>.bad
section
variable {o e:Expr} {es:List Expr} {m:Str} {n:Nat} {tb:Str->Option Fn} {mo:Me} {ms:Ma} {pos apos:Pos} {pl:Sem Bool}
theorem BY (hM:KI C X k m n tb) (ho:SE C k X o mo) (ha:SA C k X (e :: es) ms) (hst:starEach (e :: es) X.env=(false,eval e X.env) :: starEach es X.env:=by rfl) (hpl:(backTo pos (starEach es X.env)).any (·.1)=false:=by rfl)
  (ht:eval (.Call (.Attribute o m apos) (e :: es) [] pos) X.env=(do
   let ov <- eval o X.env
   standAt apos.atName
   let (f,first) <- holding [ov] (getMethod ov m pl)
   callWith pos f first (backTo pos (starEach (e :: es) X.env)) (backToKw pos (keywordEach [] X.env))):=by rfl):
  SE C k X (.Call (.Attribute o m apos) (e :: es) [] pos) (dE m n tb mo ms):=fun c pins s σ H Q I h=>by
 obtain ⟨φ,δ,h,rh,re,p⟩:=h
 refine PySem.W.methodCall_KW (pl:=pl) (thn (ho c pins s σ H _ I ⟨φ,δ,h,rh,re,post.bind p⟩) fun u s1 hh=>?_) ht
 obtain ⟨v,H1,I1,ru,φ1,x,h1,p1,t1,rh1,rv1,q1⟩:=hh
 cases ei:mN x h1 with
 | none=>rw [ei] at q1; exact q1.elim
 | some z=>
  obtain ⟨n',cn,fs⟩:=z
  rw [ei] at q1
  dsimp only at q1
  obtain ⟨a,ca,dx,ks,rfl,rfl,hφ,hh,hc,hH,rk⟩:=rK rh1 rv1 ei
  cases et:tb cn with
  | none=>rw [et] at q1; exact q1.elim
  | some f=>
   rw [et] at q1
   rcases qA rk m with ⟨l1,l2⟩ | ⟨y,u',l1,_⟩
   ·rw [l1] at q1
    dsimp only at q1
    obtain ⟨g,fd,ps,j,cl,me,hj,F,bd⟩:=hM cn ca f hc et
    have cl':Cls X.K ca:=by rw [c.K]; exact cl
    have me':lG X.K ca m g:=by rw [c.K]; exact me
    have F':aM X.prog X.w X.K X.mg X.base CX0 j g fd ps (spM C (n+1) f):=by rw [c.K]; exact F
    have bd':Binds X.K fd ps []:=by rw [c.K]; exact bd
    cases ru
    refine wI I1 hH cl' me' l2 ?_
    refine PySem.W.callWith_K (first:=[.ref a]) (h₀:=X.base) I.ok.mod.kin me'.kp (thn (ha c pos pins s1 σ H1 _ I1 ⟨φ1,δ,h1,rh1,re.mono p1 t1,postA.bind q1⟩) fun us s2 h2=>?_) hst hpl
    obtain ⟨vs,H2,I2,r2,φ2,zs,h3,p2,t2,rh2,rv2,q2⟩:=h2
    obtain ⟨hl,q2⟩:=q2.ite
    refine ⟨I2.kIn,?_⟩
    exact EK (us:=.ref a :: us) (vs:=.ref a :: vs) F' (c.room.mono hj) bd' .nil G5 I2 (.cons rfl r2) ⟨φ2,h3,.ref n' :: zs,rh2,⟨⟨a,rfl,oQ p2 hφ⟩,(by show RVs C φ2 H2 zs (vs++[]); rw [List.append_nil]; exact rv2)⟩,by simp [hl],q2⟩
   ·rw [l1] at q1; exact q1.elim
theorem BZ (hM:KI C X k m 0 tb) (ho:SE C k X o mo)
  (ht:eval (.Call (.Attribute o m apos) [] [] pos) X.env=(do
   let ov <- eval o X.env
   standAt apos.atName
   let (f,first) <- holding [ov] (getMethod ov m pl)
   callWith pos f first (backTo pos (starEach [] X.env)) (backToKw pos (keywordEach [] X.env))):=by rfl):
  SE C k X (.Call (.Attribute o m apos) [] [] pos) (dE m 0 tb mo aH):=fun c pins s σ H Q I h=>by
 obtain ⟨φ,δ,h,rh,re,p⟩:=h
 refine PySem.W.methodCall_KW (pl:=pl) (thn (ho c pins s σ H _ I ⟨φ,δ,h,rh,re,post.bind p⟩) fun u s1 hh=>?_) ht
 obtain ⟨v,H1,I1,ru,φ1,x,h1,p1,t1,rh1,rv1,q1⟩:=hh
 cases ei:mN x h1 with
 | none=>rw [ei] at q1; exact q1.elim
 | some z=>
  obtain ⟨n',cn,fs⟩:=z
  rw [ei] at q1
  dsimp only at q1
  obtain ⟨a,ca,dx,ks,rfl,rfl,hφ,hh,hc,hH,rk⟩:=rK rh1 rv1 ei
  cases et:tb cn with
  | none=>rw [et] at q1; exact q1.elim
  | some f=>
   rw [et] at q1
   rcases qA rk m with ⟨l1,l2⟩ | ⟨y,u',l1,_⟩
   ·rw [l1] at q1
    dsimp only at q1
    obtain ⟨g,fd,ps,j,cl,me,hj,F,bd⟩:=hM cn ca f hc et
    have cl':Cls X.K ca:=by rw [c.K]; exact cl
    have me':lG X.K ca m g:=by rw [c.K]; exact me
    have F':aM X.prog X.w X.K X.mg X.base CX0 j g fd ps (spM C (0+1) f):=by rw [c.K]; exact F
    have bd':Binds X.K fd ps []:=by rw [c.K]; exact bd
    cases ru
    refine wI I1 hH cl' me' l2 ?_
    have q2:post C φ1 H1 (f [.ref n'] h1) Q:=q1
    exact PySem.W.callWith_K0 (first:=[.ref a]) I1.kIn me'.kp (EK (us:=[.ref a]) (vs:=[.ref a]) F' (c.room.mono hj) bd' .nil G5 I1 (.cons rfl .nil) ⟨φ1,h1,[.ref n'],rh1,⟨⟨a,rfl,hφ⟩,trivial⟩,rfl,q2⟩)
   ·rw [l1] at q1; exact q1.elim
end
def GF (cn:Str) (n:Nat) (f:Fn) (ms:Ma):Me:=fun δ h=>(ms δ h).bind fun ps h1=>if ps.length=n then (f (.ref h1.length :: ps) (h1++[.ins cn []])).bind fun v h2=>(match v with
 | .non=>.ok (.ref h1.length) h2
 | _=>.bad) else .bad
section
variable {x cn:Str} {ca f:Addr} {fd:FuncData} {ps:List Str} {j n:Nat} {fn:Fn} {e:Expr} {es:List Expr} {ms:Ma} {p pos:Pos}
theorem Nv {φ:List Addr} {H:Hp} {h:PH} {zs:List PV} {vs:List V} {Q:VK} (hc:C.cl cn=some ca) (rh:RH C φ H h) (rv:RVs C φ H zs vs)
  (q:post C φ H (if zs.length=n then (fn (.ref h.length :: zs) (h++[.ins cn []])).bind fun v h2=>(match v with | .non=>Rs.ok (.ref h.length) h2 | _=>.bad) else .bad) Q):
  ∀ y dx,H y=none->H dx=none->dx≠y->spM C (n+1) fn (.ref y :: (vs++[])) (upd (upd H dx (.own y)) y (.ins ca dx [])) (fun v H2=>v=.non/\Q (.ref y) H2) E0:=fun y dx hy hd ne=>by
 obtain ⟨hl,q⟩:=q.ite
 have hy':(upd H dx (.own y)) y=none:=by rw [aX (Ne.symm ne)]; exact hy
 have k1:Kp H (upd H dx (.own y)):=Kp.new hd
 have k2:Kp (upd H dx (.own y)) (upd (upd H dx (.own y)) y (.ins ca dx [])):=Kp.new hy'
 have rh2:RH C (φ++[y]) (upd (upd H dx (.own y)) y (.ins ca dx [])) (h++[.ins cn []]):=(rh.aside hd).new hy' ⟨ca,dx,[],hc,bK,.nil⟩
 have rvy:RV C (φ++[y]) (upd (upd H dx (.own y)) y (.ins ca dx [])) (.ref h.length) (.ref y):=⟨y,rfl,by rw [<- rh.len]; simp⟩
 refine ⟨φ++[y],h++[.ins cn []],.ref h.length :: zs,rh2,⟨rvy,by rw [List.append_nil]; exact rv.mono (List.prefix_append _ _) (k1.trans k2)⟩,by simp [hl],?_⟩
 refine (post.bind (post.weak (List.prefix_append _ [y]) (k1.trans k2) q)).imp ?_
 rintro v H2 ⟨φ2,pv,h2,p2,t2,rh3,rv3,q3⟩
 cases pv with
 | non=>cases rv3; exact ⟨rfl,q3.val rh3 (rvy.mono p2 t2)⟩
 | _=>exact q3.elim
theorem Nw (hc:C.cl cn=some ca) (M:Mk C.K ca f) (F:aM X.prog X.w C.K X.mg X.base CX0 j f fd ps (spM C (0+1) fn)) (hm:X.mg x=some (.ref ca)) (bd:Binds C.K fd ps []) (hj:j+1<=k:=by decide) (hg:Gl X x:=by rfl)
  (hdb:(x == ("__debug__" : Str))=false:=by decide):SE C k X (.Call (.Name x p) [] [] pos) (GF cn 0 fn aH):=fun c=>by
 have M':Mk X.K ca f:=by rw [c.K]; exact M
 have F':aM X.prog X.w X.K X.mg X.base CX0 j f fd ps (spM C (0+1) fn):=by rw [c.K]; exact F
 have bd':Binds X.K fd ps []:=by rw [c.K]; exact bd
 refine (Jo M' F' (c.room.mono hj) hg hm bd' .nil G5 hdb).imp fun σ H Q h=>?_
 obtain ⟨φ,δ,h,rh,re,po⟩:=h
 exact Nv (zs:=[]) hc rh trivial po
end
end
def rN (x y v:PV) (h:PH):Option PH:=match x,y with
 | .ref n,.int i=>match fA h n with
  | some xs=>match ixN xs.length i with
   | some j=>some (h.set n (.lst (xs.set j v)))
   | none=>none
  | none=>Ff x y v h
 | _,_=>Ff x y v h
def Dy (mv mo mi:Me):Ms:=fun δ h=>(mv δ h).fl fun v h1=>(mo δ h1).fl fun x h2=>(mi δ h2).fl fun y h3=>match rN x y v h3 with
 | some h4=>.nx δ h4
 | none=>.bad
def Se:List PV->PH->Rs PV:=fun xs h=>match xs with
 | [.bl b]=>.ok (.int (if b then 1 else 0)) h
 | [.int i]=>.ok (.int i) h
 | _=>.bad
section
variable {C:MC} {k:Nat} {X:Cx}
theorem Fo {φ:List Addr} {H:Hp} {h h':PH} {px py pv:PV} {x y v:V} (c:Cxt C k X) (rh:RH C φ H h) (rx:RV C φ H px x) (ry:RV C φ H py y) (rv:RV C φ H pv v) (e:rN px py pv h=some h') {pins:List (Addr×Obj)} {σ:St} {s:Shared} {xu yu vu:Value}
  {Q:Unit->Shared->Prop} (I:Inv X pins σ H s) (rxu:RelV x xu) (ryu:RelV y yu) (rvu:RelV v vu) (q:∀ s' H',Inv X pins σ H' s'->Kp H H'->RH C φ H' h'->Q () s'):wpAny (model X.prog X.w) X.A (setItem xu yu vu) Q X.xe s:=by
 unfold rN at e
 split at e
 ·rename_i n i
  split at e
  ·rename_i xs el
   split at e
   ·rename_i j ej
    cases e
    obtain ⟨a,rfl,ha⟩:=rx
    cases ry
    obtain ⟨ws,hH,rw'⟩:=rh.at' n a _ ha (kH el)
    refine thn (set_list pins s σ H (.ref a) (.int i) v xu yu vu (fun H'=>H'=upd H a (.lst (ws.set j v))) I rxu ryu rvu ⟨a,ws,i,j,rfl,rfl,hH,by rw [<- rw'.length]; exact ej,rfl⟩) ?_
    rintro _ s' ⟨H',I',rfl⟩
    refine q s' _ I' (Kp.lst hH) (rh.write ha (by rw [hH]; trivial) ⟨_,bK,(RVs.set rv j rw').mono List.prefix_rfl (Kp.lst hH)⟩)
   ·cases e
  ·exact B1 c rh rx ry rv e I rxu ryu rvu q
 ·exact B1 c rh rx ry rv e I rxu ryu rvu q
theorem KJ {o i value:Expr} {pos pos':Pos} {mv mo mi:Me} (hv:SE C k X value mv) (ho:SE C k X o mo) (hi:SE C k X i mi) (hs:swapsWith value (some (.Subscript o i pos')) pos.line X.env=pure false:=by rfl):
  SSt C k X (.Assign [.Subscript o i pos'] value pos) (Dy mv mo mi):=fun c pins s σ H D I ⟨φ,δ,h,rh,re,p⟩=>by
 refine wpAny_Assign_Subscript (thn (hv c pins s σ H _ I ⟨φ,δ,h,rh,re,post.fl p⟩) ?_) hs
 rintro vu s1 ⟨v,H1,I1,rvu,φ1,pv,h1,p1,t1,rh1,rv1,q1⟩
 refine thn (ho c pins s1 σ H1 _ I1 ⟨φ1,δ,h1,rh1,re.mono p1 t1,post.fl q1⟩) ?_
 rintro xu s2 ⟨x,H2,I2,rxu,φ2,px,h2,p2,t2,rh2,rv2,q2⟩
 refine thn (hi c pins s2 σ H2 _ I2 ⟨φ2,δ,h2,rh2,(re.mono p1 t1).mono p2 t2,post.fl q2⟩) ?_
 rintro yu s3 ⟨y,H3,I3,ryu,φ3,py,h3,p3,t3,rh3,rv3,q3⟩
 cases e:rN px py pv h3 with
 | none=>rw [e] at q3; exact q3.elim
 | some h4=>
  rw [e] at q3
  exact Fo c rh3 (rv2.mono p3 t3) rv3 ((rv1.mono p2 t2).mono p3 t3) e I3 rxu ryu rvu fun s' H' I' kp rh'=>⟨σ,H',I',q3 φ3 σ H' List.prefix_rfl kp rh' ((((re.mono p1 t1).mono p2 t2).mono p3 t3).mono List.prefix_rfl kp)⟩
end
section
variable {δ:Ev} {h:PH} {m mo mv:Me} {E:FE}
theorem yG {n:Nat} {c:Str} {fs:List (Str×PV)} (e:h[n]?=some (.ins c fs)):mN (.ref n) h=some (n,c,fs):=by simp [mN,e]
theorem Nx {n:Nat} {c f:Str} {fs:List (Str×PV)} {p:PV} (e:h[n]?=some (.ins c fs)) (l:fs.lookup f=some p):tZ f (.ref n) h=.ok p h:=by simp [tZ,yG e,l]
theorem Dz {n:Nat} {c f:Str} {fs:List (Str×PV)} {p:PV} (e:h[n]?=some (.ins c fs)) (l:fs.length < 1000):uZ f (.ref n) p h=some (h.set n (.ins c (Fm f p fs))):=by simp [uZ,yG e,l]
@[simp] theorem Ut {f:Str}:(Dx f mo mv δ h).W E=(mv δ h).W fun y h1=>(mo δ h1).W fun x h2=>∃ h3,uZ f x y h2=some h3/\E.nx δ h3:=by
 unfold Dx
 rw [HU]
 congr 1
 funext y h1
 rw [HU]
 congr 1
 funext x h2
 cases e:uZ f x y h2 <;> simp
@[simp] theorem Sf {cn:Str} {n:Nat} {f:Fn} {ms:Ma}:GF cn n f ms δ h=(ms δ h).bind fun ps h1=>if ps.length=n then (f (.ref h1.length :: ps) (h1++[.ins cn []])).bind fun v h2=>(match v with | .non=>.ok (.ref h1.length) h2 | _=>.bad) else .bad:=(rfl)
theorem KL {mm:Str} {n k:Nat} {tb:Str->Option Fn} {ms:Ma} {h1:PH} {c:Str} {fs:List (Str×PV)} {f:Fn} (e:mo δ h=.ok (.ref k) h1) (g:h1[k]?=some (.ins c fs)) (t:tb c=some f) (l:fs.lookup mm=none):
  dE mm n tb mo ms δ h=(ms δ h1).bind fun ps h2=>if ps.length=n then f (.ref k :: ps) h2 else .bad:=by
 unfold dE
 rw [e,Rs.bind_ok,yG g]
 simp only [t,l]
@[simp] theorem Uu {mi:Me}:(Dy mv mo mi δ h).W E=(mv δ h).W fun v h1=>(mo δ h1).W fun x h2=>(mi δ h2).W fun y h3=>∃ h4,rN x y v h3=some h4/\E.nx δ h4:=by
 unfold Dy
 rw [HU]
 congr 1
 funext v h1
 rw [HU]
 congr 1
 funext x h2
 rw [HU]
 congr 1
 funext y h3
 cases e:rN x y v h3 <;> simp
@[simp] theorem Sg {b:Bool}:Se [.bl b] h=.ok (.int (if b then 1 else 0)) h:=(rfl)
end
end L2
set_option Elab.async false
set_option linter.all false
set_option maxRecDepth 100000
namespace L2
open PySem PySem.Spec PyProof.Rows
section
variable {C:MC} {k:Nat} {X:Cx} {e:Expr} {me:Me} {p pos p2 pos2:Pos}
end
section
variable {h:PH}
end
end L2
namespace L2
open PySem PySem.Spec PyProof.Rows
section
variable {C:MC} {k:Nat} {X:Cx} {e st:Expr} {me:Me} {pos p2:Pos}
end
end L2
set_option Elab.async false
set_option linter.all false
set_option maxRecDepth 100000
namespace L2
open PySem PySem.Spec PyProof.Rows
def Sh:List Int->Int
 | []=>0
 | [x]=>x
 | x :: y :: r=>max x (Sh (y :: r))
def yH:List Int->Int
 | []=>0
 | [x]=>x
 | x :: y :: r=>min x (yH (y :: r))
theorem DA:∀ {ns:List Int},ns≠[]->yH ns∈ns/\∀ a∈ns,yH ns<=a
 | [],h=>(h rfl).elim
 | [x],_=>⟨by simp [yH],by simp [yH]⟩
 | x :: y :: r,_=>by
  obtain ⟨h1,h2⟩:=DA (ns:=y :: r) (by simp)
  unfold yH
  refine ⟨?_,fun a ha=>?_⟩
  ·rcases Int.le_total x (yH (y :: r)) with z | z
   ·rw [Int.min_eq_left z]; exact List.mem_cons_self
   ·rw [Int.min_eq_right z]; exact List.mem_cons_of_mem _ h1
  ·rcases List.mem_cons.mp ha with rfl | ha
   ·exact Int.min_le_left _ _
   ·exact Int.le_trans (Int.min_le_right _ _) (h2 a ha)
def Si:List PV->PH->Rs PV:=fun xs h=>match xs with
 | [.ref n]=>match aS h n with
  | some ys=>match Dp ys with
   | some (a :: ns)=>.ok (.int (Sh (a :: ns))) h
   | _=>.bad
  | none=>.bad
 | _=>RN xs h
def DB:List PV->PH->Rs PV:=fun xs h=>match xs with
 | [.ref n]=>match aS h n with
  | some ys=>match Dp ys with
   | some (a :: ns)=>.ok (.int (yH (a :: ns))) h
   | _=>.bad
  | none=>.bad
 | _=>Nc xs h
def DC:List PV->PH->Rs PV:=fun xs h=>match xs with
 | [.ref n]=>match bQ h n with
  | some kvs=>.ok (.int kvs.length) h
  | none=>qY xs h
 | _=>qY xs h
section
variable {prog:Program} {w:World} {A:Around} {E:Value->Shared->Prop} {s:Shared} {d:Addr} {oc:Obj} {es:Array DictEntry} {ep:Nat}
theorem A5 (hd:(d == sysModules)=false):MeetsIn prog w (Builtin.«dict.__len__» ⟨[.ref d],[]⟩) (fun _ R s=>∃ oc es ep,s.heap.get? d=some oc/\oc.data=.dict es ep/\R (.ok (.ret (.int es.size s.toks))) { s with toks:=s.toks+1 }):=
 .of_wp fun A R s ⟨oc,es,ep,ho,hdat,h⟩=>by
  show wpAny _ _ (dictSize d >>= _) _ _ s
  unfold dictSize
  refine wpAny_bind (wpAny_bind (wpAny_dictEntries ho hdat (wpAny_pure ?_)))
  show wpAny _ _ (Builtin.Dict.pendingCount d >>= _) _ _ s
  refine wpAny_bind (wpAny_pendingCount_other hd (wpAny_ret_mkInt ?_))
  rw [Nat.add_zero]; exact h
theorem Ny {Q:Value->Shared->Prop} (hd:(d == sysModules)=false) (hT:s.TypeIs (.ref d) "dict") (ho:s.heap.get? d=some oc) (hdat:oc.data=.dict es ep) (hfit:(es.size:Int) < 2 ^ 63)
  (h:Q (.int es.size (s.toks+1)) { s with toks:=s.toks+1+1 }):wpAny (model prog w) A (call (.builtin "len") [.ref d]) Q E s:=by
 refine Calls.call_function_entry kind_len plain_len entry_len (args_len1 _) ?_
 unfold Builtin.«len»
 refine wpAny_bind (m:=oneArg "len" _) (wpAny_pure ?_)
 refine wpAny_bind (m:=callSpecial? (.ref d) (Str.ofString "__len__")) (wpAny_callSpecial?_slot (name:=Str.ofString "__len__") hT F.slot_dict_len
  (call_meetsIn F.slot_dict_len hT F.entry_dict_len (F.args_dict_len_1 _) (A5 hd) ⟨oc,es,ep,ho,hdat,?_⟩))
 show wpAny _ _ _ _ _ { s with toks:=s.toks+1 }
 refine wpAny_bind (wpAny_holding (wpAny_pure (wpAny_bind (wpAny_letGo ?_))))
 show wpAny _ _ (if ((es.size:Nat):Int) < 0 then _ else _) _ _ _
 rw [if_neg (by omega)]
 show wpAny _ _ (if ((es.size:Nat):Int) >= 2 ^ 63 then _ else _) _ _ _
 rw [if_neg (by omega)]
 exact wpAny_bind (wpAny_mkInt (wpAny_pure ⟨_,rfl,h⟩))
end
section
variable {C:MC} {k:Nat} {X:Cx}
theorem Ic (c:Cxt C k X):bT X (.builtin "min") (fun xs H Q=>∃ (p:Addr) (ns:List Int),xs=[.ref p]/\SqL C.K H p (ns.map V.int)/\ns≠[]/\Q (.int (yH ns)) H):=by
 intro pins s σ H xs us Q I r h
 obtain ⟨p,ns,rfl,hq,hne,q⟩:=h
 obtain ⟨u,rfl,ru⟩:=vals1 r
 cases ru
 rw [<- c.K] at hq
 obtain ⟨its,rv,pl,hz⟩:=I.list hq
 have hi:IntsAre its ns:=intsAre_of rv
 obtain ⟨ys,hy⟩:=hi.allInts.items
 have hl:=pl.isList
 have hns:ns=ys.toList.map (·.1):=by rw [<- hi.numsOf,<- nums_intItems,<- hy]
 have hsz:0 < ys.size:=by
  have h3:0 < ns.length:=List.length_pos_iff.mpr hne
  rw [hns,List.length_map,Array.length_toList] at h3; exact h3
 rw [hy] at hl
 refine min_intList (I.ok.hd c.calm) hl hsz fun v h' tk hv hk=>?_
 obtain ⟨t,rfl⟩:=intItems_at hv
 obtain ⟨h1,h2⟩:=argBest_lt (numAt ys) (ys.size - 1)
 have hM:numAt ys (argBest (fun i j=>decide (numAt ys i < numAt ys j)) (ys.size - 1))=yH ns:=by
  obtain ⟨m1,m2⟩:=DA hne
  refine Int.le_antisymm ?_ (m2 _ ?_)
  ·have ha:=m1
   rw [hns] at ha
   obtain ⟨j,hj,ej⟩:=mem_getD ha
   rw [List.length_map,Array.length_toList] at hj
   rw [<- hns] at ej
   rw [<- ej,hns,<- numAt_eq]
   exact h2 j (by omega)
  ·rw [hns,numAt_eq]; exact getD_mem (by rw [List.length_map,Array.length_toList]; omega)
 rw [hM]
 exact ⟨.int (yH ns),H,I.kept (t':=tk) hk,⟨_,rfl⟩,q⟩
theorem Qb:nD C k X (.builtin "min") DB:=fun c=>bT.imp (bT.or (RQ c) (Ic c)) fun vs H Q h=>by
 obtain ⟨φ,h,ps,rh,rv,po⟩:=h
 unfold DB at po
 split at po
 ·rename_i n
  split at po
  ·rename_i ys e
   split at po
   ·rename_i a ns en
    obtain ⟨v,rfl,rx⟩:=rv.one
    obtain ⟨p,rfl,hp⟩:=rx
    obtain ⟨p2,ws,hp2,sp,rp⟩:=cH rh e
    rw [hp] at hp2; cases hp2
    have ew:=Gx rp en
    subst ew
    exact .inr ⟨p,a :: ns,rfl,sp,by simp,po.val rh rfl⟩
   ·exact po.elim
  ·exact po.elim
 ·exact .inl ⟨φ,h,_,rh,rv,po⟩
theorem Ie (c:Cxt C k X):bT X (.builtin "len") (fun xs H Q=>∃ (φ:List Addr) (h:PH) (n:Nat) (a:Addr) (kvs:List (PV×PV)),xs=[.ref a]/\RH C φ H h/\φ[n]?=some a/\bQ h n=some kvs/\Q (.int kvs.length) H):=by
 intro pins s σ H xs us Q I r h
 obtain ⟨φ,h,n,a,kvs,rfl,rh,ha,et,q⟩:=h
 obtain ⟨u,rfl,ru⟩:=vals1 r
 cases ru
 obtain ⟨hT,hm,hz,oc,es,ep,g1,g2,ws,r1,r2⟩:=Dt c I rh ha (Ib et)
 have e1:=r1.length
 rw [List.length_map] at e1 hz
 have e2:ws.length=es.size:=by have:=r2.length; simpa using this
 refine Ny hm hT g1 g2 (by rw [sizeLine_eq] at hz; omega) ?_
 have e3:(es.size:Int)=(kvs.length:Int):=by omega
 rw [e3]
 exact ⟨.int kvs.length,H,(I.tok _).tok _,⟨_,rfl⟩,q⟩
theorem Qc:nD C k X (.builtin "len") DC:=fun c=>bT.imp (bT.or (AW c) (Ie c)) fun vs H Q h=>by
 obtain ⟨φ,h,ps,rh,rv,po⟩:=h
 unfold DC at po
 split at po
 ·rename_i n
  split at po
  ·rename_i kvs e
   obtain ⟨v,rfl,rx⟩:=rv.one
   obtain ⟨p,rfl,hp⟩:=rx
   exact .inr ⟨φ,h,n,p,kvs,rfl,rh,hp,e,po.val rh rfl⟩
  ·exact .inl ⟨φ,h,_,rh,rv,po⟩
 ·exact .inl ⟨φ,h,_,rh,rv,po⟩
end
section
variable {h:PH}
@[simp] theorem QW {i j:Int}:Si [.int i,.int j] h=.ok (.int (if j > i then j else i)) h:=(rfl)
@[simp] theorem QX {i j:Int}:DB [.int i,.int j] h=.ok (.int (if j < i then j else i)) h:=(rfl)
theorem Nz {n:Nat} {kvs:List (PV×PV)} (e:bQ h n=some kvs):DC [.ref n] h=.ok (.int kvs.length) h:=by simp [DC,e]
end
end L2
set_option Elab.async false
set_option linter.all false
set_option maxRecDepth 100000
namespace L2
open PySem PySem.Spec PyProof.Rows
section
variable {prog:Program} {w:World} {K:Type} [DecidableEq K] {knd:HeapKind prog w K} {A:Around} {R:Result->Shared->Prop}
end
section
variable {C:MC} {k:Nat} {X:Cx} {φ:List Addr} {H:Hp} {pins:List (Addr×Obj)} {σ:St} {s:Shared}
end
end L2
set_option Elab.async false
set_option linter.all false
set_option maxRecDepth 100000
namespace L2
open PySem PySem.Spec PyProof.Rows PySem.SeqAt
open PySem.AutoSeq1 (wpAny_loadPart')
open PySem.MeetsSeq PySem.MeetsSeq2 PySem.MeetsSeq3
section
variable {X:Cx} {pins:List (Addr×Obj)} {σ:St} {H:Hp} {s:Shared}
end
section
variable {C:MC} {k:Nat} {X:Cx}
def Sj:PV->PV->PH->Rs PV:=fun x y h=>match x,y with
 | .tup xs,.tup ys=>ofB ((HV (.tup xs) (.tup ys)).map (!·)) h
 | x,y=>vGe x y h
variable {h:PH}
@[simp] theorem Sk {i j:Int}:Sj (.int i) (.int j) h=.ok (.bl (decide (j<=i))) h:=(rfl)
@[simp] theorem Sl {i j:Str}:Sj (.str i) (.str j) h=.ok (.bl (!decide (i.cps.toList < j.cps.toList))) h:=(rfl)
end
end L2
set_option Elab.async false
set_option linter.all false
set_option maxRecDepth 100000
namespace L2
open PySem PySem.Spec PyProof.Rows
section
variable {prog:Program} {w:World} {A:Around} {E:Value->Shared->Prop} {s:Shared} {v dc it:Addr} {oc:Obj} {es:Array DictEntry} {ep:Nat}
theorem Ig {Q:Value->Shared->Prop} (hT:s.TypeIs (.ref dc) "dict") (hd:(dc == sysModules)=false) (h1:s.heap.get? dc=some oc) (h2:oc.data=.dict es ep)
  (q:Q (.ref s.heap.objs.size) { s with heap:=s.heap.push { cls:=.type "dict_keyiterator",data:=.fields #[.ref dc,.int 0 0,.int es.size 0,.int ep 0] } }):wpAny (model prog w) A (pyIter (.ref dc)) Q E s:=by
 refine wpAny_pyIter_slot hT F.slot_dict_iter (wpAny_call_entry F.slot_dict_iter hT F.entry_dict_iter ?_ (F.args_dict_iter_1 _))
 unfold Builtin.«dict.__iter__»
 refine wpAny_bind ?_
 unfold Builtin.Dict.dictSlotNone
 refine wpAny_bind (wpAny_notOrdered_dict hT ?_)
 show wpAny _ _ (pure (Value.ref dc)) _ _ s
 refine wpAny_pure ?_
 show wpAny _ _ (Builtin.Dict.showsAll dc >>= _) _ _ s
 unfold Builtin.Dict.showsAll
 rw [if_neg (by rw [hd]; exact Bool.false_ne_true)]
 refine wpAny_bind (wpAny_pure ?_)
 refine wpAny_bind (wpAny_dictEntries h1 h2 ?_)
 refine wpAny_bind (wpAny_dictEpoch h1 h2 ?_)
 refine wpAny_bind (wpAny_newObj_type (wpAny_pure ⟨_,rfl,"dict_keyiterator",_,⟨_,Heap.get?_push_size _ rfl,rfl⟩,F.slot_dict_keyiterator_next.lookup,?_⟩))
 simpa [rawInt] using q
theorem KM {i:Nat} {Q:Option Value->Shared->Prop} (hI:s.heap.IsKeyIter it dc i es.size ep) (h1:s.heap.get? dc=some oc) (h2:oc.data=.dict es ep) (hlt:i < es.size)
  (q:∀ h',h'.IsKeyIter it dc (i+1) es.size ep->Heap.SameBut it s.heap h'->Q (some es[i].key) { s with heap:=h' }):wpAny (model prog w) A (pyNext (.ref it)) Q E s:=by
 obtain ⟨oi,g1,g2,g3⟩:=id hI
 unfold pyNext
 refine wpAny_bind (wpAny_attempt (wpAny_callSpecial?_slot (name:=Str.ofString "__next__") hI.typeIs F.slot_dict_keyiterator_next (wpAny_call_entry F.slot_dict_keyiterator_next hI.typeIs F.entry_dict_keyiterator_next ?_ (F.args_dict_keyiterator_next_1 _))))
 refine wpAny_bind (wpAny_pure (wpAny_bind (wpAny_bind ?_)))
 first | refine wpAny_bind (wpAny_typeNameOfWhole_keyiter hI.typeIs (wpAny_pure ?_)) | refine wpAny_bind (wpAny_typeNameOf_keyiter hI.typeIs (wpAny_pure ?_))
 refine wpAny_bind (wpAny_fieldsOf g1 g3 ?_)
 rw [show Builtin.Dict_items.ownsTuple "dict_keyiterator" = false by decide]; simp only [Bool.false_eq_true,if_false]
 show wpAny _ _ (if (Value.ref dc == Value.none)=true then _ else _) _ _ s
 rw [if_neg (show ¬ ((Value.ref dc == Value.none)=true) from Bool.false_ne_true)]
 refine wpAny_bind (wpAny_pure (wpAny_bind (wpAny_dictEntries h1 h2 ?_)))
 rw [if_neg (show ¬ _ by simp)]
 refine wpAny_bind (wpAny_pure (wpAny_bind (wpAny_dictEpoch h1 h2 ?_)))
 rw [if_neg (show ¬ _ by simp)]
 refine wpAny_pure ?_
 simp only [show ¬ ((i:Int) < 0) by omega,if_false,Int.toNat_natCast,Array.getElem?_eq_getElem hlt]
 refine wpAny_bind ?_
 first | refine wpAny_bind (wpAny_typeNameOfWhole_keyiter hI.typeIs (wpAny_pure ?_)) | refine wpAny_bind (wpAny_typeNameOf_keyiter hI.typeIs (wpAny_pure ?_))
 refine wpAny_bind (wpAny_isOneOf_keyiter hI.typeIs (show wpAny _ _ (setField (.ref it) 1 (rawInt ((i:Int)+1)) >>= _) _ _ s from wpAny_bind (wpAny_setField g1 g3 (by simp) ?_)))
 have hI':(s.heap.update it (Obj.mapFields (·.setIfInBounds 1 (rawInt ((i:Int)+1))))).IsKeyIter it dc (i+1) es.size ep:=
  ⟨_,Heap.get?_update_self _ g1 (Obj.isFreed_of_fields (Obj.data_mapFields g3 _)),(Obj.cls_mapFields ..).trans g2,by rw [Obj.data_mapFields g3]; simp [rawInt]⟩
 have ty':({ s with heap:=s.heap.update it (Obj.mapFields (·.setIfInBounds 1 (rawInt ((i:Int)+1)))) }:Shared).TypeIs (.ref it) "dict_keyiterator" := hI'.typeIs
 refine wpAny_bind (wpAny_holding (wpAny_bind (wpAny_isOneOf_keyiter ty' ?_)))
 show wpAny _ _ (pure es[i].key) _ _ _
 exact wpAny_pure (wpAny_pure ⟨_,rfl,wpAny_pure (q _ hI' (Heap.SameBut.update ..))⟩)
theorem KN {i:Nat} {Q:Option Value->Shared->Prop} (hh:A.handled=none) (hI:s.heap.IsKeyIter it dc i es.size ep) (h1:s.heap.get? dc=some oc) (h2:oc.data=.dict es ep) (hge:es.size<=i)
  (q:∀ h',Heap.ExtBut it s.heap h'->Q none { s with heap:=h' }):wpAny (model prog w) A (pyNext (.ref it)) Q E s:=by
 obtain ⟨oi,g1,g2,g3⟩:=id hI
 unfold pyNext
 refine wpAny_bind (wpAny_attempt (wpAny_callSpecial?_slot (name:=Str.ofString "__next__") hI.typeIs F.slot_dict_keyiterator_next (wpAny_call_entry F.slot_dict_keyiterator_next hI.typeIs F.entry_dict_keyiterator_next ?_ (F.args_dict_keyiterator_next_1 _))))
 refine wpAny_bind (wpAny_pure (wpAny_bind (wpAny_bind ?_)))
 first | refine wpAny_bind (wpAny_typeNameOfWhole_keyiter hI.typeIs (wpAny_pure ?_)) | refine wpAny_bind (wpAny_typeNameOf_keyiter hI.typeIs (wpAny_pure ?_))
 refine wpAny_bind (wpAny_fieldsOf g1 g3 ?_)
 rw [show Builtin.Dict_items.ownsTuple "dict_keyiterator" = false by decide]; simp only [Bool.false_eq_true,if_false]
 show wpAny _ _ (if (Value.ref dc == Value.none)=true then _ else _) _ _ s
 rw [if_neg (show ¬ ((Value.ref dc == Value.none)=true) from Bool.false_ne_true)]
 refine wpAny_bind (wpAny_pure (wpAny_bind (wpAny_dictEntries h1 h2 ?_)))
 rw [if_neg (show ¬ _ by simp)]
 refine wpAny_bind (wpAny_pure (wpAny_bind (wpAny_dictEpoch h1 h2 ?_)))
 rw [if_neg (show ¬ _ by simp)]
 refine wpAny_pure ?_
 simp only [show ¬ ((i:Int) < 0) by omega,if_false,Int.toNat_natCast,Array.getElem?_eq_none hge]
 refine wpAny_bind ?_
 first | refine wpAny_bind (wpAny_typeNameOfWhole_keyiter hI.typeIs (wpAny_pure ?_)) | refine wpAny_bind (wpAny_typeNameOf_keyiter hI.typeIs (wpAny_pure ?_))
 refine (show wpAny _ _ (setField (.ref it) 0 .none >>= _) _ _ s from wpAny_bind (wpAny_setField g1 g3 (by simp) ?_))
 refine (show wpAny _ _ (newExc (.type "StopIteration") [] >>= _) _ _ _ from wpAny_bind ?_); simp only [newExc,newTuple]
 refine wpAny_bind (wpAny_newObj_type (wpAny_bind (m:=firstArgMember _ _) (wpAny_of_eq (a:=Value.none) (by first | rfl | (simp only [firstArgMember]; rfl)) (wpAny_newObj_type ?_ (by size_fits)))) (by size_fits))
 simp only [raiseNew]
 refine wpAny_bind (wpAny_handled ?_); rw [show A.in1.handled=none from hh]
 refine wpAny_bind (wpAny_pure (wpAny_throw ?_)); refine wpAny_bind (wpAny_isInstance (T:="StopIteration") (b:=true) ⟨_,Heap.get?_push_size _ rfl,rfl⟩ isSubtype_stop ?_)
 exact wpAny_pure (q _ (((Heap.SameBut.update ..).extBut.push _).push _))
theorem Fp (hh:A.handled=none) (I dc:Addr) (hne:dc≠I) (oc:Obj) (es:Array DictEntry) (ep:Nat) (h2:oc.data=.dict es ep):
  Walks prog w A I [I,dc] [I] es.size (fun i v=>∃ e,es[i]?=some e/\v=e.key) (fun i h=>h.IsKeyIter I dc i es.size ep/\h.get? dc=some oc) where
 sub:=fun b hb=>by rw [List.mem_singleton.mp hb]; exact List.mem_cons_self
 frame:=fun _ _ _ st hk=>⟨let ⟨o,e,r⟩:=st.1; ⟨o,hk I List.mem_cons_self o e,r⟩,hk dc (List.mem_cons_of_mem _ List.mem_cons_self) _ st.2⟩
 item:=fun i s Q E hi st hQ=>KM st.1 st.2 h2 hi fun h' hit' hs'=>hQ _ h' s.toks ⟨es[i],by simp [hi],rfl⟩ ⟨hit',(hs'.2 dc hne).trans st.2⟩ fun b o hb e=>(hs'.2 b fun z=>hb (by rw [z]; exact List.mem_cons_self)).trans e
 done:=fun s Q E st hQ=>KN hh st.1 st.2 h2 (Nat.le_refl _) fun h' he'=>hQ h' s.toks fun b o hb e=>he' b o (fun z=>hb (by rw [z]; exact List.mem_cons_self)) e
 self:=fun _ _ _ _ st hQ=>wpAny_pyIter_keyiter st.1 hQ
theorem KO (hc:oc.cls=.type "dict") (hd:(dc == sysModules)=false) (h2:oc.data=.dict es ep):PySem.W.KdlSrc prog w "dict" dc dc es.size (fun i v=>∃ e,es[i]?=some e/\v=e.key) (fun h=>h.get? dc=some oc) where
 type:=fun _ hm=>⟨oc,hm,hc⟩
 there:=fun _ hm=>⟨Heap.lt_size hm,Heap.lt_size hm⟩
 keep:=fun _ _ hm hk=>hk dc (.inl rfl) _ hm
 notList:=by decide
 notTuple:=by decide
 hint:=fun _ _ _ _ hm hq=>PySem.W.kdl_hint_dict ⟨oc,hm,hc⟩ hq
 iter:=fun _ _ hh hm=>⟨_,_,(fun _ _ hq=>Ig ⟨oc,hm,hc⟩ hd hm h2 hq),Fp hh _ dc (Nat.ne_of_lt (Heap.lt_size hm)) oc es ep h2,⟨⟨_,Heap.get?_push_size _ rfl,rfl,rfl⟩,Heap.get?_push_of_some _ hm⟩⟩
end
section
variable {C:MC} {k:Nat} {X:Cx}
theorem KQ {pins:List (Addr×Obj)} {σ:St} {H:Hp} {s:Shared} {φ:List Addr} {h:PH} {d:Nat} {b:Addr} {kvs:List (PV×PV)} (c:Cxt C k X) (I:Inv X pins σ H s) (rh:RH C φ H h) (hb:φ[d]?=some b) (e:bQ h d=some kvs):
  (b == sysModules)=false/\kvs.length<=sizeLine/\∃ oc es ep,s.heap.get? b=some oc/\oc.cls=.type "dict" /\ oc.data=.dict es ep/\∃ ws,RVs C φ H (kvs.map (·.1)) ws/\aP ws (es.toList.map (·.key)):=by
 obtain ⟨⟨ks,ys,r,rx',hz,hm,dd⟩,_⟩:=xX I c.K c.w rh hb e
 have hlen:kvs.length=ys.length:=(Paired.length r).trans (Paired.length rx')
 refine ⟨hm,by rw [hlen]; exact hz,?_⟩
 obtain ⟨oc,es,ep,g1,g2,g3,g4,g5,g6⟩:=dd
 refine ⟨oc,es,ep,g1,g2.1,g3,ks.map (fun q=>V.ref q.2.1),?_,?_⟩
 ·unfold RKd at r
  clear rx' hlen e
  induction r with
  | nil=>trivial
  | cons q t ih=>exact ⟨q.2.2.1,ih⟩
 ·rw [g4,List.map_map]
  clear r hlen hz g4 g5 g6
  induction rx' with
  | nil=>exact .nil
  | @cons p q ps qs h t ih=>exact .cons (show RelV (.ref p.2.1) (Value.ref q.2.1) by rw [h.2.1]; rfl) ih
theorem Fq {es:Array DictEntry} {acc:Array Value} (h:ItemsOf (fun i v=>∃ e,es[i]?=some e/\v=e.key) acc es.size):acc.toList=es.toList.map (·.key):=by
 apply List.ext_getElem?
 intro i
 rw [List.getElem?_map,Array.getElem?_toList,Array.getElem?_toList]
 by_cases hi:i < acc.size
 ·have e1:acc[i]?=some acc[i]:=by simp [hi]
  obtain ⟨e,h1,h2⟩:=h.2 i _ e1
  rw [e1,h1,h2]
  rfl
 ·have hi':¬ i < es.size:=by rw [<- h.1]; exact hi
  rw [Array.getElem?_eq_none (by omega),Array.getElem?_eq_none (by omega)]
  rfl
theorem Fs (c:Cxt C k X):bT X (.type "list") (fun xs H Q=>∃ (φ:List Addr) (h:PH) (d:Nat) (b:Addr) (kvs:List (PV×PV)),xs=[.ref b]/\RH C φ H h/\φ[d]?=some b/\bQ h d=some kvs/\∀ l ws,H l=none->RVs C φ H (kvs.map (·.1)) ws->Q (.ref l) (upd H l (.lst ws))):=by
 intro pins s σ H xs us Q I r h
 obtain ⟨φ,h,d,b,kvs,rfl,rh,hb,ey,q⟩:=h
 obtain ⟨u,rfl,ru⟩:=vals1 r
 cases ru
 obtain ⟨hm,hz,oc,es,ep,g1,gc,g2,ws,r1,r2⟩:=KQ c I rh hb ey
 have hn:es.size<=sizeLine:=by
  have e1:=r1.length
  have e2:ws.length=es.size:=by have:=r2.length; simpa using this
  rw [List.length_map] at e1
  rw [<- e2,<- e1]; exact hz
 refine PySem.W.kdl_call (KO gc hm g2) (I.ok.hd c.calm) g1 hn fun h' tk acc' c' hk hS hacc=>?_
 have ea:=Fq hacc
 refine ⟨.ref s.heap.objs.size,_,I.laid (t':=tk) (o:=.lst ws) hk (Nat.le_refl _) ⟨?_,acc'.toList,c',by rw [ea]; exact r2,by rw [Array.toArray_toList]; exact hS⟩,rfl,q _ ws I.fresh r1⟩
 rw [<- r1.length,List.length_map]; exact hz
end
section
variable {C:MC} {k:Nat} {X:Cx}
end
section
variable {C:MC} {k:Nat} {X:Cx} {ke ve:Expr} {mk mv:Me} {pos:Pos}
def putD (x y:PV) (n:Nat) (h:PH):Rs PV:=if x.isKt=true then (match bQ h n with
 | some kvs=>if kvs.length < sizeLine then .ok (.ref n) (h.set n (.dD (jG kvs x y))) else .bad
 | none=>.bad) else .bad
def Qd (mk mv:Me):Me:=fun δ h=>(mk δ (h++[.dK []])).bind fun x h2=>(mv δ h2).bind fun y h3=>putD x y h.length h3
end
section
variable {C:MC} {k:Nat} {X:Cx} {x:Str} {a:Addr} {o:Obj} {its:Array Value} {n:Nat} {vs:List V} {ps:List PV} {pos:Pos}
end
section
theorem GG {h:PH} {n:Nat} {kvs:List (PV×PV)} {xs:List PV} {z:PV} (e:bQ h n=some kvs) (hk:(PV.tup xs).ky 6=true) (hl:kvs.length < 16777216):rN (.ref n) (.tup xs) z h=some (h.set n (.dD (jG kvs (.tup xs) z))):=by
 show Ff (.ref n) (.tup xs) z h=_
 exact Q8 e hk hl
@[simp] theorem QY {mk mv:Me} {δ:Ev} {h:PH}:Qd mk mv δ h=(mk δ (h++[.dK []])).bind fun x h2=>(mv δ h2).bind fun y h3=>putD x y h.length h3:=(rfl)
end
end L2
set_option Elab.async false
set_option linter.all false
set_option maxRecDepth 100000
namespace L2
open PySem PySem.Spec PyProof.Rows PySem.SeqAt
section
variable {prog:Program} {w:World} {A:Around} {E:Value->Shared->Prop} {s:Shared}
variable {K:Type} [DecidableEq K] {knd:HeapKind prog w K}
end
section
variable {C:MC} {k:Nat} {X:Cx}
variable {h:PH}
end
end L2
set_option Elab.async false
set_option linter.all false
set_option maxRecDepth 100000
namespace L2
open PySem PySem.Spec PyProof.Rows
def Sm:HO->Prop
 | .tup _=>False
 | .own _=>False
 | .tbl _=>False
 | _=>True
section
variable {X:Cx} {pins:List (Addr×Obj)} {σ:St} {H:Hp} {s:Shared}
end
def Qe:MO->Option (List PV)
 | .dK kvs=>some (kvs.map fun kv=>.tup [kP kv.1,kv.2])
 | .dD kvs=>some (kvs.map fun kv=>.tup [kv.1,kv.2])
 | _=>none
def Sn:MO->Option (List PV)
 | .dK kvs=>some (kvs.map fun kv=>kP kv.1)
 | .dD kvs=>some (kvs.map (·.1))
 | _=>none
section
variable {C:MC} {k:Nat} {X:Cx} {pins:List (Addr×Obj)} {σ:St} {H:Hp} {s:Shared} {φ:List Addr}
structure UZ (C:MC) (φ:List Addr) (H:Hp) (s:Shared) (b:Addr) (o:MO) (ks:List (V×V)) (u:HO) (oc:Obj) (es:Array DictEntry) (ep:Nat):Prop where
 at':H b=some u
 nf:Sm u
 nz:∀ o z,u≠.frz o z
 nt:D4 (some u)
 get:s.heap.get? b=some oc
 cls:oc.cls=.type "dict"
 data:oc.data=.dict es ep
 nsys:(b == sysModules)=false
 fz:∀ φ' H',φ<+:φ'->H' b=some (.frz oc u)->Kp H H'->RO C φ' H' b (.fz o)
 len:ks.length=es.size
 ent:∀ (i:Nat) (hi:i < es.size),∃ kv,ks[i]?=some kv/\RelV kv.1 es[i].key/\RelV kv.2 es[i].val
 keys:∀ xs,Sn o=some xs->RVs C φ H xs (ks.map (·.1))
 items:∀ xs,Qe o=some xs->xs.length=ks.length/\∀ (i:Nat) p,xs[i]?=some p->∃ p1 p2 kv,p=.tup [p1,p2]/\ks[i]?=some kv/\RV C φ H p1 kv.1/\RV C φ H p2 kv.2
end
section
variable {h h1:PH} {δ:Ev}
end
end L2
set_option Elab.async false
set_option linter.all false
set_option maxRecDepth 100000
namespace L2
open PySem PySem.Spec PyProof.Rows
section
variable {C:MC} {k:Nat} {X:Cx}
end
section
variable {h:PH}
end
end L2
set_option Elab.async false
set_option linter.all false
set_option maxRecDepth 100000
namespace L2
open PySem PySem.Spec PyProof.Rows PySem.SeqAt
section
variable {X:Cx} {pins:List (Addr×Obj)} {σ:St} {H:Hp} {s:Shared}
theorem yI (I:Inv X pins σ H s):∀ {ds es:List D} {vs:List V},D.depths ds<=40->fK X.K H ds vs->fK X.K H es vs->ds=es
 | [],[],[],_,_,_=>rfl
 | d :: ds,e :: es,v :: vs,h,⟨a,b⟩,⟨a',b'⟩=>by
  have hh:D.depths (d :: ds)=max d.depth (D.depths ds):=by simp [D.depths]
  have h1:d.depth<=40:=by omega
  have h2:D.depths ds<=40:=by omega
  rw [oO I 40 d e v h1 a a',yI I h2 b b']
 | [],_ :: _,vs,_,h,h'=>by
  cases vs with
  | nil=>exact h'.elim
  | cons _ _=>exact h.elim
 | _ :: _,[],vs,_,h,h'=>by
  cases vs with
  | nil=>exact h.elim
  | cons _ _=>exact h'.elim
theorem Uv (I:Inv X pins σ H s) {ds es:List D} {A:Around} {x y:V} {v u:Value} (hd:D.depths ds<=40) (hu:A.units+42 < cLine) (hx:D5 X.K H ds x) (hy:D5 X.K H es y) (rx:RelV x v) (ry:RelV y u):EqAt A s v u (eG ds es):=by
 obtain ⟨a,vs,rfl,q,r⟩:=hx
 obtain ⟨b,vs',rfl,q',r'⟩:=hy
 cases rx; cases ry
 refine fL (fun prog w E Q hq=>?_) (fun e=>?_) (fun f t z=>by cases z)
 ·obtain ⟨its,rv,p,_⟩:=I.list q
  obtain ⟨its',rv',p',_⟩:=I.list q'
  have l1:=r.length
  have l2:=r'.length
  have l3:=rv.length
  have l4:=rv'.length
  by_cases hl:ds.length=es.length
  ·refine eq_listAt p.isList p'.isList (by simp; omega) (by omega) (pT (I:=I) r r' rv rv' hd (by omega)) ?_
   have e1:its.toArray.size=ds.length:=by simp; omega
   rw [e1,tM hl]
   exact hq
  ·refine eq_list_lengthsAt p.isList p'.isList (by simp; omega) (by omega) ?_
   have e:eG ds es=false:=by
    cases h:eG ds es with
    | false=>rfl
    | true=>exact absurd (wR h) hl
   rw [e] at hq
   exact hq
 ·cases e
  have ev:=I.list_inj q q'
  subst ev
  have e2:=yI I hd r r'
  subst e2
  have:=kC (.tup ds)
  simpa [eqD] using this
end
section
variable {C:MC} {k:Nat} {X:Cx} {pins:List (Addr×Obj)} {σ:St} {H:Hp} {s:Shared} {φ:List Addr} {h:PH}
end
end L2
set_option Elab.async false
set_option linter.all false
set_option maxRecDepth 100000
namespace L2
open PySem PySem.Spec PyProof.Rows PySem.SeqAt PySem.W
section
variable {X:Cx} {pins:List (Addr×Obj)} {σ:St} {H:Hp} {s:Shared} {A:Around} {E:Value->Shared->Prop}
end
def hdk:PV->Option Nat
 | .tup (.int _ :: _)=>some 0
 | .tup (.str _ :: _)=>some 1
 | .tup (.tup _ :: _)=>some 2
 | _=>none
def ltV (x y:PV):Bool:=match x.d,y.d with
 | some d,some e=>ltD d e == some true
 | _,_=>false
structure OkV (b:Bool) (ks:List PV):Prop where
 dat:∀ x∈ks,∃ xs ds,x=.tup xs/\PV.ds xs=some ds/\D.depths ds<=40
 hd:∃ t,((t == 2)=!b)/\t<=2/\∀ x∈ks,hdk x=some t
 can:∀ x∈ks,∀ y∈ks,∃ d e c,x.d=some d/\y.d=some e/\ltD d e=some c
 tr:∀ x∈ks,∀ y∈ks,∀ z∈ks,ltV y x=false->ltV z y=false->ltV z x=false
 as:∀ x∈ks,∀ y∈ks,ltV x y=true->ltV y x=false
 tot:∀ x∈ks,∀ y∈ks,ltV x y=false->ltV y x=false->x=y
section
variable {C:MC} {k:Nat} {X:Cx} {pins:List (Addr×Obj)} {σ:St} {H:Hp} {s:Shared} {φ:List Addr} {A:Around} {E:Value->Shared->Prop}
end
section
variable {C:MC} {k:Nat} {X:Cx}
section
variable {x:Str} {st:Stmt} {q:Addr} {fd:FuncData} {pn:List Str} {j:Nat} {f:Fn}
end
section
variable {kf:Str} {st:Stmt} {q:Addr} {fd:FuncData} {pn:List Str} {j jb:Nat} {f:Fn} {e:Expr} {me:Me} {p pos kp kpos rp rpos:Pos}
end
end
section
variable {prog:Program} {w:World} {A:Around} {E:Value->Shared->Prop} {s:Shared}
end
section
variable {C:MC} {k:Nat} {X:Cx}
end
section
variable {h:PH}
end
end L2
set_option Elab.async false
set_option linter.all false
set_option maxRecDepth 100000
namespace L2
open PySem PySem.Spec PyProof.Rows
theorem Inv.drn {X:Cx} {pins:List (Addr×Obj)} {σ:St} {H:Hp} {s:Shared} (I:Inv X pins σ H s) (d:Drawn):Inv X pins σ H { s with drawn:=d }:=
 ⟨I.ok,I.os,I.bare,I.base,I.loc,I.cell,I.free,I.freeC,I.pin,I.hok,I.len⟩
section
variable {prog:Program} {w:World} {A:Around} {E:Value->Shared->Prop} {s:Shared} {a:Addr}
end
section
variable {C:MC} {k:Nat} {X:Cx}
end
end L2
set_option Elab.async false
set_option linter.all false
set_option maxRecDepth 100000
namespace L2
open PySem PySem.Spec PyProof.Rows
section
variable {C:MC} {k:Nat} {X:Cx}
end
section
variable {δ:Ev} {h:PH} {E:FE}
end
end L2
set_option Elab.async false
set_option linter.all false
set_option maxRecDepth 100000
namespace L2
open PySem PySem.Spec PyProof.Rows
section
variable {C:MC} {k:Nat} {X:Cx}
end
end L2
set_option Elab.async false
set_option linter.all false
set_option maxRecDepth 100000
namespace L2
open PySem PySem.Spec PyProof.Rows PySem.SeqAt
structure Mk0 (K:PySem.W.Frag) (C:Addr):Prop where
 makes:PySem.W.makesIn K C=true
 init:PySem.W.findIn K (.ref C) "__init__" = some (some (.builtin "object.__init__"))
 kp:PySem.W.keepIn K (.ref C)=true
section
variable {X:Cx} {C:Addr}
end
def Qf (cn:Str):Me:=fun δ h=>.ok (.ref h.length) (h++[.ins cn []])
section
variable {C:MC} {k:Nat} {X:Cx} {x cn:Str} {ca:Addr} {p pos:Pos}
end
section
@[simp] theorem QZ {cn:Str} {δ:Ev} {h:PH}:Qf cn δ h=.ok (.ref h.length) (h++[.ins cn []]):=(rfl)
end
end L2
set_option Elab.async false
set_option linter.all false
set_option maxRecDepth 100000
namespace L2
open PySem PySem.Spec PyProof.Rows
section
variable {X:Cx} {pins:List (Addr×Obj)} {σ:St} {H:Hp} {s:Shared} {C:MC} {φ:List Addr}
end
section
variable {C:MC} {k:Nat} {X:Cx}
def iH:List PV->PH->Rs PV:=fun xs h=>match xs with
 | [.ref n]=>match bQ h n with
  | some kvs=>.ok (.ref h.length) (h++[.lst (kvs.map (·.1))])
  | none=>Gm xs h
 | _=>Gm xs h
theorem yJ:nD C k X (.type "list") iH:=fun c=>bT.imp (bT.or (PQ c) (Fs c)) fun vs H Q h=>by
 obtain ⟨φ,h,ps,rh,rv,po⟩:=h
 unfold iH at po
 split at po
 ·rename_i n
  split at po
  ·rename_i kvs e
   obtain ⟨v,rfl,rx⟩:=rv.one
   obtain ⟨a,rfl,ha⟩:=rx
   exact .inr ⟨φ,h,n,a,kvs,rfl,rh,ha,e,fun l ws hl rw'=>po.lnew rh rw' hl⟩
  ·exact .inl ⟨φ,h,_,rh,rv,po⟩
 ·exact .inl ⟨φ,h,_,rh,rv,po⟩
theorem Ih {h:PH} {n:Nat} {kvs:List (PV×PV)} (e:bQ h n=some kvs):iH [.ref n] h=.ok (.ref h.length) (h++[.lst (kvs.map (·.1))]):=by simp [iH,e]
end
end L2
set_option Elab.async false
set_option linter.all false
set_option maxRecDepth 100000
namespace L2
open PySem PySem.Spec PyProof.Rows
def DD (w:World) (a:Addr) (ks:List Str):HO:=.ext fun h=>dW w h a ks
def ddT (ss:List Str):List Str:=fmT (fun i=>ss.getD i "") ss.length
theorem NA (ss:List Str):(ddT ss).length<=ss.length:=BJ _ _
theorem NB (ss:List Str) (x:Str):x∈ddT ss ↔ x∈ss:=by
 unfold ddT
 rw [Gd]
 constructor
 ·rintro ⟨j,h1,h2⟩
  have:ss.getD j "" = ss[j]:=by simp [h1]
  rw [<- h2,this]
  exact List.getElem_mem h1
 ·intro h
  obtain ⟨j,h1,h2⟩:=List.getElem_of_mem h
  exact ⟨j,h1,by simp [h1,h2]⟩
theorem Qg (ss:List Str):(ddT ss).Nodup:=JT _ _
theorem Ii {vs:List Value} {ss:List Str} (h:StrsAre vs ss) (h0:0 < vs.length):keyKind' vs.toArray=pure oneType':=by
 cases h with
 | nil=>simp at h0
 | cons n t r=>
  cases r with
  | nil=>
   rw [keyKind'_eq,List.mapM_toArray,mapM_first_strs (.cons n t .nil)]
   simp only [map_pure,pure_bind]
   rw [if_neg (by simp),if_neg (by simp),oneTypeOnly'_eq]
   simp
   rw [show typeOf (Value.str n t)=pure (Value.type "str") from rfl]
   simp
  | cons m u r=>exact keyKind_strs (.cons n t (.cons m u r))
theorem vA {vs:List Value} {ss:List Str} (h:StrsAre vs ss):vs.length=ss.length/\∀ i,i < vs.length->∃ t,vs.getD i Value.none=Value.str (ss.getD i "") t:=by
 induction h with
 | nil=>exact ⟨rfl,fun i h=>by simp at h⟩
 | cons n t r ih=>
  refine ⟨by simp [ih.1],fun i h=>?_⟩
  cases i with
  | zero=>exact ⟨t,rfl⟩
  | succ i=>simpa using ih.2 i (by simpa using h)
theorem rO {vs:List Value} {ss:List Str} (h:StrsAre vs ss):∀ {q:List Nat},(∀ i∈q,i < vs.length)->aP ((q.map fun i=>ss.getD i "").map V.str) (q.map fun i=>vs.getD i Value.none)
 | [],_=>.nil
 | i :: q,hq=>by
  obtain ⟨t,e⟩:=(vA h).2 i (hq i List.mem_cons_self)
  simp only [List.map_cons,e]
  exact .cons ⟨t,rfl⟩ (rO h fun j hj=>hq j (List.mem_cons_of_mem _ hj))
theorem DE {prog:Program} {w:World} {A:Around} {E:Value->Shared->Prop} {s:Shared} {x y:Str} {t u:Tok} {Q:Bool->Shared->Prop} (h:Q (decide (x.cps.toList < y.cps.toList)) s):wpAny (model prog w) A (keyLt' oneType' (.str x t) (.str y u)) Q E s:=by
 show wpAny (model prog w) A (oneLt' true (.str x t) (.str y u)) Q E s
 exact oneLt_str h
theorem Ij {ss zs:List Str} (p:zs.Perm ss) (h:zs.Pairwise (fun a b=>¬ b.cps.toList < a.cps.toList)):zs=cL ss:=by
 have e1:(zs.map fun x=>[(Sum.inr x:Key)])=pX (ss.map fun x=>[(Sum.inr x:Key)]):=by
  refine pY (S:=[false]) (fun y hy=>?_) (p.map _) ?_
  ·obtain ⟨z,_,rfl⟩:=List.mem_map.mp hy; rfl
  ·rw [List.pairwise_map]
   refine h.imp fun {a b} h1=>?_
   rw [GB]
   exact decide_eq_false h1
 unfold cL
 rw [<- e1,BX]
section
variable {prog:Program} {w:World} {A:Around} {E:Value->Shared->Prop} {s:Shared} {a:Addr}
theorem C0 {ks:List Str} {R:List Value->Shared->Prop} (hh:A.handled=none) (hS:dW w s.heap a ks) (hz:ks.length<=sizeLine)
  (h:∀ h' d tk vs ms,(∀ b o,s.heap.get? b=some o->h'.get? b=some o)->StrsAre vs ms->ms.Perm ks->R vs { s with heap:=h',drawn:=d,toks:=tk }):wpAny (model prog w) A (collect (.ref a)) R E s:=by
 obtain ⟨o,es,ep,t,ho,hx,hd,ht,hf,hel,hp⟩:=hS
 have hlen:es.size=ks.length:=by have:=hp.length_eq; simpa using this
 unfold collect
 refine wpAny_bind (wpAny_runValue (codeAny_builtin PyProof.Rows.entry_proto_collect' ?_))
 rw [Around.under_plainId F.plain_proto_collect]
 refine (show wpAny _ _ (newObj _ _ >>= _) _ _ _ from wpAny_bind (wpAny_newObj_type (wpAny_pure ⟨plainId_quiet F.plain_list_iadd _,codeAny_builtin PyProof.Rows.entry_list_iadd' ?_⟩)))
 rw [Around.under_plainId F.plain_list_iadd]
 have hS₁:(s.heap.push { cls:=.type "list",data:=.seq #[] }).get? s.heap.objs.size=some { cls:=.type "list",data:=.seq #[] }:=Heap.get?_push_size s.heap rfl
 have ho1:(s.heap.push { cls:=.type "list",data:=.seq #[] }).get? a=some o:=Heap.get?_push_of_some _ ho
 refine (show wpAny _ _ (Builtin.List.listExtendWith (.ref s.heap.objs.size) (.ref a) (.ref s.heap.objs.size)) _ _ _ from ?_)
 refine F0 (R:=fun r s'=>match r with | .ok (.ret v)=>wpAny (model prog w) A (match v with | Value.ref a=>(do let o <- load a; match o.data with | Data.seq xs epoch=>pure xs.toList | x=>unsupported "internal:collect") | x=>unsupported "internal:collect") R E s' | .ok _=>False | .error e=>E e s') (s:={ s with heap:=s.heap.push { cls:=.type "list",data:=.seq #[] } }) hh ho1 hx hd ht hf (by omega) s.heap.objs.size (Nat.ne_of_gt (Heap.lt_size ho)) _ 0 hS₁ fun h' d tk acc c' kp hS' pe=>?_
 refine (show wpAny _ _ (load s.heap.objs.size >>= _) _ _ _ from wpAny_bind (wpAny_load hS' (wpAny_pure ?_)))
 have all:∀ (l:List Value),(∀ v∈l,∃ k tk,v=Value.str k tk)->∃ ms,StrsAre l ms/\ms=l.map fun v=>xH (0,v):=by
  intro l
  induction l with
  | nil=>intro _; exact ⟨[],.nil,rfl⟩
  | cons v l ih=>
   intro hv
   obtain ⟨k,tk,rfl⟩:=hv v List.mem_cons_self
   obtain ⟨ms,i,e⟩:=ih fun v h=>hv v (List.mem_cons_of_mem _ h)
   exact ⟨k :: ms,.cons k tk i,by rw [e]; rfl⟩
 obtain ⟨ms,i,e⟩:=all acc.toList fun v hv=>by
  obtain ⟨x,hx,rfl⟩:=List.mem_map.mp (pe.mem_iff.mp hv)
  obtain ⟨k,tk,rfl⟩:=hel x hx
  exact ⟨k,tk,rfl⟩
 refine h h' d tk acc.toList ms (fun b o e=>kp b o (Nat.ne_of_lt (Heap.lt_size e)) (Heap.get?_push_of_some _ e)) i ?_
 rw [e]
 refine (pe.map _).trans ?_
 rw [List.map_map]
 exact (show es.toList.map (fun x=>xH (0,x.2))=es.toList.map xH from List.map_congr_left fun x _=>rfl) ▸ hp
end
section
variable {C:MC} {k:Nat} {X:Cx}
theorem Ik (hc:X.calm=true):bT X (.type "set") (fun xs H Q=>∃ l ns,xs=[.ref l]/\SqL X.K H l (ns.map V.str)/\ns.length < 64/\∀ a,H a=none->Q (.ref a) (upd H a (DD X.w a (ddT ns)))):=by
 intro pins s σ H xs us Q I r h
 obtain ⟨l,ns,rfl,hq,h64,q⟩:=h
 obtain ⟨u,rfl,ru⟩:=vals1 r
 cases ru
 obtain ⟨its,rv,pl,hz⟩:=I.list hq
 have hlen:=rv.length
 rw [List.length_map] at hlen
 refine HH (I.ok.hd hc) pl.isList (ns:=ns) (by simpa using pR rv) (by simp [scanBound]; omega) fun h' tk hS kp=>?_
 have hn:(List.toArray its).size=ns.length:=by simpa using hlen.symm
 rw [hn] at hS
 have hS:dW X.w h' s.heap.objs.size (ddT ns):=hS
 have:∃ o,h'.get? s.heap.objs.size=some o:=let ⟨o,_,_,_,e,_⟩:=hS; ⟨o,e⟩
 exact ⟨.ref s.heap.objs.size,_,I.laid (t':=tk) (o:=DD X.w s.heap.objs.size (ddT ns)) kp (Nat.le_refl _) ⟨hS,this,fun h1 h2 p k=>dW.kept p k⟩,rfl,q _ I.fresh⟩
theorem Ft (hc:X.calm=true):bT X (.builtin "sorted") (fun xs H Q=>∃ a ks,xs=[.ref a]/\H a=some (DD X.w a ks)/\ks.length < 64/\∀ l,H l=none->Q (.ref l) (upd H l (.lst ((cL ks).map V.str)))):=by
 intro pins s σ H xs us Q I r h
 obtain ⟨a,ks,rfl,hH,h64,q⟩:=h
 obtain ⟨u,rfl,ru⟩:=vals1 r
 cases ru
 have hS:dW X.w s.heap a ks:=(I.hok a _ hH).1
 refine Hv (κ:=oneType') (fun its s1=>∃ ms,Inv X pins σ H s1/\StrsAre its ms/\ms.Perm ks) (C0 (I.ok.hd hc) hS (by rw [sizeLine_eq]; omega) fun h' d tk vs ms kp i pe=>⟨ms,(I.drn d).kept (t':=tk) kp,i,pe⟩) ?_
 rintro its s1 ⟨ms,I1,i,pe⟩
 obtain ⟨l1,g⟩:=vA i
 have l2:=pe.length_eq
 refine ⟨by omega,fun i j=>decide ((ms.getD i "").cps.toList < (ms.getD j "").cps.toList),fun i j k hi hj hk h1 h2=>decide_eq_false (List.not_lt.mpr (List.le_trans (List.not_lt.mp (of_decide_eq_false h1)) (List.not_lt.mp (of_decide_eq_false h2)))),fun i j _ _ h=>decide_eq_false (List.lt_asymm (of_decide_eq_true h)),fun A' s' kp h0 Q' E' hq=>?_,fun s' kp i j hi hj Q' hq=>?_,fun p h' e a1 a2 kp he=>?_⟩
 ·rw [Ii i h0]
  exact wpAny_pure hq
 ·obtain ⟨t,e1⟩:=g i hi
  obtain ⟨u,e2⟩:=g j hj
  rw [e1,e2]
  exact DE hq
 ·have hin:∀ i∈p,i < its.length:=fun i hi=>by
   have:=a1.mem_iff.mp hi
   rwa [List.mem_range] at this
  have hz:(p.map fun i=>ms.getD i "")=cL ks:=by
   refine Ij ?_ ?_
   ·refine List.Perm.trans ?_ pe
    refine (a1.map _).trans ?_
    have:(List.range its.length).map (fun i=>ms.getD i "")=ms:=by
     apply List.ext_getElem
     ·simp [l1]
     ·intro i h1 h2
      simp at h1
      simp [h2]
    rw [this]
   ·rw [List.pairwise_map]
    exact a2.imp fun h=>of_decide_eq_false h
  have rv:=rO i hin
  rw [hz] at rv
  refine ⟨.ref s1.heap.objs.size,_,I1.laid (t':=s1.toks) (o:=.lst ((cL ks).map V.str)) kp (Nat.le_refl _) ⟨?_,_,e,rv,he⟩,rfl,q _ I1.fresh⟩
  rw [List.length_map,(yF ks).length_eq,sizeLine_eq]
  omega
def kJ:PV->PH->Rs PV:=fun x h=>match x with
 | .ref n=>match aS h n with
  | some ys=>match yD ys with
   | some ns=>if ns.length < 64 then .ok (.ref h.length) (h++[.lst ((cL (ddT ns)).map PV.str)]) else .bad
   | none=>.bad
  | none=>.bad
 | _=>.bad
theorem Fu {e:Expr} {me:Me} {p p2 pos pos2:Pos} (he:SE C k X e me) (hb:("sorted" : Str)∈C.bs) (hb2:("set" : Str)∈C.bs) (hg:Gl X "sorted" := by rfl) (hg2:Gl X "set" := by rfl)
  (hs1:starEach [e] X.env=(false,eval e X.env) :: starEach [] X.env:=by rfl) (hp1:(backTo pos2 (starEach [] X.env)).any (·.1)=false:=by rfl)
  (hs2:starEach [.Call (.Name "set" p2) [e] [] pos2] X.env=(false,eval (.Call (.Name "set" p2) [e] [] pos2) X.env) :: starEach [] X.env:=by rfl) (hp2:(backTo pos (starEach [] X.env)).any (·.1)=false:=by rfl):
  SE C k X (.Call (.Name "sorted" p) [.Call (.Name "set" p2) [e] [] pos2] [] pos) (mUn kJ me):=fun c=>
 (CV (Ft c.calm) hg (c.bn _ hb) PyProof.Rows.Boot.«sorted» (vN (AE (Ik c.calm) hg2 (c.bn _ hb2) PyProof.Rows.Boot.«set» (vN (he c) Bs hs1) (by decide) (by decide) hs1 hp1) Bs hs2) (by decide) (by decide) hs2 hp2).imp fun σ H Q h=>by
  obtain ⟨φ,δ,h,rh,re,p⟩:=h
  refine ⟨φ,δ,h,rh,re,(post.bind p).imp ?_⟩
  rintro v H1 ⟨φ1,x,h1,p1,t1,rh1,rv1,q1⟩
  unfold kJ at q1
  split at q1
  ·rename_i n
   obtain ⟨a,rfl,ha⟩:=rv1
   split at q1
   ·rename_i ys ey
    split at q1
    ·rename_i ns en
     obtain ⟨h64,q1⟩:=q1.ite
     obtain ⟨a',vs,ha',sq,rvs⟩:=cH rh1 ey
     rw [ha] at ha'
     cases ha'
     rw [yE en] at rvs
     rw [rG.mp rvs] at sq
     refine ⟨a,ns,rfl,by rw [c.K]; exact sq,h64,fun b hb=>?_⟩
     refine ⟨b,ddT ns,rfl,bK,Nat.lt_of_le_of_lt (NA ns) h64,fun l hl=>?_⟩
     have hK:Kp H1 (upd H1 b (DD X.w b (ddT ns))):=Kp.new hb
     have q2:post C φ1 (upd H1 b (DD X.w b (ddT ns))) (.ok (.ref h1.length) (h1++[.lst ((cL (ddT ns)).map PV.str)])) Q:=fun φ' v H' p t rh rv=>q1 φ' v H' p (hK.trans t) rh rv
     exact q2.lnew (rh1.same (ES.upd hb)) (rG.mpr rfl) hl
    ·exact q1.elim
   ·exact q1.elim
  ·exact q1.elim
theorem DF {h:PH} {n:Nat} {ss:List Str} (e:h[n]?=some (.lst (ss.map PV.str))) (hl:ss.length < 64):kJ (.ref n) h=.ok (.ref h.length) (h++[.lst ((cL (ddT ss)).map PV.str)]):=by
 have e1:aS h n=some (ss.map PV.str):=by simp [aS,e]
 simp only [kJ,e1,rJ]
 rw [if_pos hl]
end
end L2
set_option Elab.async false
set_option linter.all false
set_option maxRecDepth 100000
namespace L2
open PySem PySem.Spec PyProof.Rows PySem.SeqAt PySem.W
open Classical in
noncomputable def B6 (b:Bool) (m:Nat) (ks ys:List PV):Option (List PV):=if ks.length < 64/\ks.length=ys.length/\OkN m ks/\(∀ a∈ks.zip ys,∀ c∈ks.zip ys,a.1=c.1->a.2=c.2) then some ((PySem.W.katRev b (kI Prod.fst (ks.zip ys))).map (·.2)) else none
noncomputable def gQ (f:Fn) (b:Bool) (kb:Nat) (ys:List PV):List PV->List PV->PH->Rs PV
 | [],ks,h=>match B6 b kb ks ys with
  | some zs=>.ok (.ref h.length) (h++[.lst zs])
  | none=>.bad
 | x :: xs,ks,h=>(f [x] h).bind fun k h1=>gQ f b kb ys xs (ks++[k]) h1
noncomputable def jI (f:Fn) (b:Bool) (kb:Nat) (x:PV) (h:PH):Rs PV:=match pZ x h with
 | some ys=>if ys.length < 64 then gQ f b kb ys ys [] h else .bad
 | none=>.bad
noncomputable def vT (f:Fn) (b:Bool) (kb:Nat) (me:Me):Me:=fun δ h=>(me δ h).bind fun x h1=>jI f b kb x h1
section
variable {C:MC} {k:Nat} {X:Cx}
def KR (C:MC) (X:Cx) (pins:List (Addr×Obj)) (σ:St) (φ:List Addr) (H:Hp) (f:Fn) (b:Bool) (kb:Nat) (ys:List PV) (Q:VK) (a z:Addr) (kS:Addr) (e1:Nat) (ks:List Value) (e:Nat) (s':Shared):Prop:=
 z < kS/\∃ H' φ' h' zs ps,Inv X (pins++[(kS,seqObj "list" ks.toArray e),(a,seqObj "list" #[] e1)]) σ H' s'/\φ<+:φ'/\Kp H H'/\RH C φ' H' h'/\aP zs ks/\RVs C φ' H' ps zs/\post C φ' H' (gQ f b kb ys (ys.drop ks.length) ps h') Q
section
variable {x:Str} {st:Stmt} {q:Addr} {fd:FuncData} {pn:List Str} {j:Nat} {f:Fn}
theorem Il {pins:List (Addr×Obj)} {σ:St} {φ:List Addr} {H:Hp} {b:Bool} {kb:Nat} {ys:List PV} {us:List V} {its:List Value} {Q:VK} {a:Addr} (c:Cxt C k X) (D:Def C.K X.mg x st q fd pn) (G:aM X.prog X.w C.K X.mg X.base CX0 j q fd pn (spM C 1 f)) (hj:j+2<=k)
  (ry:RVs C φ H ys us) (rv:aP us its) {A':Around} (eA:A'=X.A.in1.in1) (fr:∀ kS,a<=kS->X.s₀.heap.objs.size<=kS/\kS≠X.env.locals/\(∀ x c,X.env.cells.lookup x=some c->c≠kS)/\(∀ p∈X.pn++pins,p.1≠kS)/\kS∉X.fs)
  (kS:Addr) (e1:Nat) (ks:List Value) (e:Nat) (s':Shared) (y:Value) (hy:its[ks.length]?=some y) (hJ:KR C X pins σ φ H f b kb ys Q a a kS e1 ks e s'):
  wpAny (model X.prog X.w) A' (call (.ref q) [y]) (fun v s''=>s''.heap.get? kS=some (seqObj "list" ks.toArray e)/\∀ (h':Heap) e',Heap.SameBut kS s''.heap h'->h'.get? kS=some (seqObj "list" (ks++[v]).toArray e')->KR C X pins σ φ H f b kb ys Q a a kS e1 (ks++[v]) e' { s'' with heap:=h' }) (fun _ _=>False) s':=by
 subst eA
 obtain ⟨hz,H',φ',h',zs,ps,I,pp,tt,rh,rz,rp,po⟩:=hJ
 have hlt:ks.length < its.length:=(List.getElem?_eq_some_iff.mp hy).1
 have hlu:us.length=its.length:=rv.length
 have hly:ys.length=us.length:=ry.length
 have gy:ys[ks.length]?=some (ys[ks.length]'(by omega)):=by simp
 obtain ⟨u,hu,ru⟩:=ry.at gy
 obtain ⟨y',hy',ryv⟩:=rv.get hu
 rw [hy] at hy'
 cases hy'
 have hd:ys.drop ks.length=ys[ks.length]'(by omega) :: ys.drop (ks.length+1):=drop_cons gy
 rw [hd] at po
 have e1':=c.K
 have G':aM X.prog X.w X.K X.mg X.base CX0 j q fd pn (spM C 1 f):=by rw [e1']; exact G
 have D':Def X.K X.mg x st q fd pn:=by rw [e1']; exact D
 have sp1:spM C 1 f [u] H' (fun v H2=>∃ φ2 p h2,φ'<+:φ2/\Kp H' H2/\RH C φ2 H2 h2/\RV C φ2 H2 p v/\post C φ2 H2 (gQ f b kb ys (ys.drop (ks.length+1)) (ps++[p]) h2) Q) E0:=
  ⟨φ',h',[ys[ks.length]'(by omega)],rh,⟨ru.mono pp tt,trivial⟩,rfl,post.bind po⟩
 have hl:([y]:List Value).length=pn.length:=G'.len _ _ _ _ sp1
 refine wpAny_call (codeAny_mono (G'.run X.A.in1.in1 X.stack s' H' ⟨[y],[]⟩ [y] [u] _ E0 ((c.room.mono hj).in1.in1) I.env0.in1.in1 (by
  have:=D'.bd s' [y] I.kIn (by simpa using hl)
  simpa using this) (.cons ryv .nil) sp1) fun r s2 hq=>?_)
 cases r with
 | error e=>exact hq.elim
 | ok fl=>
  cases fl with
  | next=>exact False.elim hq
  | brk=>exact False.elim hq
  | cont=>exact False.elim hq
  | ret v=>
   obtain ⟨x2,H2,I2,rx2,φ2,p2,h2,pp2,tt2,rh2,rp2,po2⟩:=I.after hq
   have gk:=I2.pin (kS,seqObj "list" ks.toArray e) (List.mem_append_right _ (List.mem_append_right _ List.mem_cons_self))
   have ga:=I2.pin (a,seqObj "list" #[] e1) (List.mem_append_right _ (List.mem_append_right _ (List.mem_cons_of_mem _ List.mem_cons_self)))
   refine ⟨gk.1,fun g e' sb he'=>?_⟩
   have fk:=fr kS (Nat.le_of_lt hz)
   have nak:a≠kS:=Nat.ne_of_lt hz
   have I3:Inv X (pins++[(a,seqObj "list" #[] e1)]) σ H2 s2:=I2.pins_of fun p hp=>(List.mem_append.mp hp).elim (fun z=>I2.pin p (List.mem_append_right _ (List.mem_append_left _ z))) fun z=>by
    rw [List.mem_singleton.mp z]; exact ga
   have I4:=I3.turned (t':=s2.toks) (it:=kS) (h':=g) (fun b' o' hb hq=>(sb.2 b' hb).trans hq) gk.2.1 fk.2.1 (.inr fk.1) fk.2.2.1 (fun p hp=>by
    rcases List.mem_append.mp hp with hp | hp
    ·exact fk.2.2.2.1 p (List.mem_append_left _ hp)
    ·rcases List.mem_append.mp hp with hp | hp
     ·exact fk.2.2.2.1 p (List.mem_append_right _ hp)
     ·rw [List.mem_singleton.mp hp]; exact nak)
   refine ⟨hz,H2,φ2,h2,zs++[x2],ps++[p2],I4.pins_of fun p hp=>?_,pp.trans pp2,tt.trans tt2,rh2,rz.append (.cons rx2 .nil),(rp.mono pp2 tt2).snoc rp2,?_⟩
   ·rcases List.mem_append.mp hp with hp | hp
    ·exact I4.pin p (List.mem_append_right _ (List.mem_append_left _ hp))
    ·rcases List.mem_cons.mp hp with rfl | hp
     ·exact ⟨he',gk.2.1,fk.2.1,fk.2.2.2.2,nN⟩
     ·rw [List.mem_singleton.mp hp]
      exact I4.pin _ (List.mem_append_right _ (List.mem_append_right _ List.mem_cons_self))
   ·rw [List.length_append]
    exact po2
theorem DG {b:Bool} {kb:Nat} {kss:List PV} {ys:List PV} (hl:kss.length=ys.length) (ok:OkN kb kss) (cs:∀ a∈kss.zip ys,∀ c∈kss.zip ys,a.1=c.1->a.2=c.2) {p:List Nat} (hp:p.Perm (List.range ys.length))
  (ho:p.Pairwise (fun i j=>(if b then ltN (kss.getD i .non) (kss.getD j .non) else ltN (kss.getD j .non) (kss.getD i .non))=false)):p.map (fun i=>ys.getD i .non)=(PySem.W.katRev b (kI Prod.fst (kss.zip ys))).map (·.2):=by
 let zs:=kss.zip ys
 have hzl:zs.length=ys.length:=by show (kss.zip ys).length=_; simp [hl]
 have hin:∀ i∈p,i < ys.length:=fun i hi=>by simpa using hp.mem_iff.mp hi
 have eg:∀ i,i < ys.length->zs.getD i (.non,.non)=(kss.getD i .non,ys.getD i .non):=fun i hi=>by
  have h1:i < kss.length:=by omega
  have h2:i < zs.length:=by omega
  have h3:(kss.zip ys)[i]?=some (kss[i],ys[i]):=by
   rw [List.getElem?_zip_eq_some]
   exact ⟨by simp [h1],by simp [hi]⟩
  show (kss.zip ys).getD i _=_
  simp [h1,hi,h3]
 have hpz:(p.map fun i=>zs.getD i (.non,.non)).Perm zs:=Hw (by rw [hzl]; exact hp)
 have hm:zs.map (·.1)=kss:=by
  show (kss.zip ys).map Prod.fst=kss
  exact List.map_fst_zip (by omega)
 have hsz:∀ y∈zs,y.1∈kss:=fun y hy=>by rw [<- hm]; exact List.mem_map.mpr ⟨y,hy,rfl⟩
 have inj:∀ a∈zs,∀ c∈zs,enc (Prod.fst a)=enc (Prod.fst c)->a=c:=fun a ha c hc e=>by
  have e1:=ok.inj _ (hsz a ha) _ (hsz c hc) e
  exact Prod.ext e1 (cs a ha c hc e1)
 have e2:p.map (fun i=>ys.getD i .non)=(p.map fun i=>zs.getD i (.non,.non)).map (·.2):=by
  rw [List.map_map]
  exact List.map_congr_left fun i hi=>by show _=(zs.getD i _).2; rw [eg i (hin i hi)]
 rw [e2]
 have key:∀ (R:Nat->Nat->Bool),p.Pairwise (fun i j=>R i j=false)->(∀ i j,i < ys.length->j < ys.length->R i j=ltN (zs.getD j (.non,.non)).1 (zs.getD i (.non,.non)).1)->(p.map fun i=>zs.getD i (.non,.non)).Pairwise (fun x y=>ltN y.1 x.1=false):=fun R h1 h2=>by
  rw [List.pairwise_map]
  exact h1.imp_of_mem fun {i j} hi hj h=>by rw [<- h2 i j (hin i hi) (hin j hj)]; exact h
 cases b with
 | false=>
  congr 1
  refine B2 Prod.fst inj hpz (key (fun i j=>ltN (kss.getD j .non) (kss.getD i .non)) ho fun i j hi hj=>by rw [eg i hi,eg j hj])
 | true=>
  congr 1
  have hr:(p.map fun i=>zs.getD i (.non,.non)).reverse=kI Prod.fst zs:=by
   refine B2 Prod.fst inj ((List.reverse_perm _).trans hpz) ?_
   rw [List.pairwise_reverse,List.pairwise_map]
   exact ho.imp_of_mem fun {i j} hi hj h=>by
    rw [eg i (hin i hi),eg j (hin j hj)]
    exact h
  show _=(kI Prod.fst zs).reverse
  rw [<- hr,List.reverse_reverse]
theorem DH {b:Bool} {kb:Nat} {kw:List (Str×Value)} (c:Cxt C k X) (D:Def C.K X.mg x st q fd pn) (G:aM X.prog X.w C.K X.mg X.base CX0 j q fd pn (spM C 1 f)) (hj:j+2<=k)
  (ha1:∀ v,argsOk "sorted" ⟨[v],kw⟩) (ha2:∀ v,argsOk "list.sort" ⟨[.ref v],kw⟩) (ht:∀ v,Builtin.«list.sort» ⟨[.ref v],kw⟩=ksk_tree v (.ref q) b)
  {pins:List (Addr×Obj)} {s:Shared} {σ:St} {H:Hp} {Q:VK} {v:V} {u:Value} (I:Inv X pins σ H s) (ru:RelV v u) (h:r1 C (jI f b kb) v H Q):
  wpAny (model X.prog X.w) X.A (call (.builtin "sorted") [u] kw) (EP X pins σ Q) X.xe s:=by
 obtain ⟨φ,h,p,rh,rp,po⟩:=h
 unfold jI at po
 cases ei:pZ p h with
 | none=>rw [ei] at po; exact po.elim
 | some ys=>
 rw [ei] at po
 obtain ⟨h64,po⟩:=po.ite
 refine call_function_entry_kw kind_sorted plain_sorted entry_sorted (ha1 u) ?_
 unfold Builtin.«sorted»
 refine wpAny_bind (m:=checkCount "sorted" 1 1 _) (wpAny_pure ?_)
 have col:wpAny (model X.prog X.w) X.A.in1 (collect u) (fun its s1=>∃ us,Inv X pins σ H s1/\aP us its/\RVs C φ H ys us) X.xe s:=by
  have lcase:∀ {a:Addr} {vs:List V},v=.ref a->SqL C.K H a vs->RVs C φ H ys vs->wpAny (model X.prog X.w) X.A.in1 (collect u) (fun its s1=>∃ us,Inv X pins σ H s1/\aP us its/\RVs C φ H ys us) X.xe s:=fun {a vs} ev sa ra=>by
   subst ev
   cases ru
   have sa':SqL X.K H a vs:=by rw [c.K]; exact sa
   obtain ⟨its,rv,pl,hz⟩:=I.list sa'
   refine collect_list pl.isList ?_ (by have:=rv.length; have:=ra.length; rw [sizeLine_eq]; omega)
   exact ⟨vs,I.kept (t':=s.toks) fun b o e=>by
    have hlt:b < s.heap.objs.size:=Heap.lt_size e
    first
     | (rw [Heap.get?_update_ne _ _ _ _ (Nat.ne_of_lt hlt),Heap.get?_push_ne _ _ _ (Nat.ne_of_lt hlt)]; exact e)
     | exact Heap.get?_push_of_some _ e,rv,ra⟩
  unfold pZ at ei
  split at ei
  ·rename_i n
   split at ei
   ·rename_i ys' e
    cases ei
    obtain ⟨a,ev,ha⟩:=rp
    obtain ⟨a2,vs,ha2,sa,ra⟩:=cH rh e
    rw [ha] at ha2; cases ha2
    exact lcase ev sa ra
   ·unfold Du at ei
    split at ei
    ·rename_i d hv
     obtain ⟨a,ev,ha⟩:=rp
     subst ev
     cases ru
     obtain ⟨bb,hb,hH⟩:=rh.at' n a _ ha hv
     obtain ⟨hT,hm,hz,oc,es,ep,g1,g2,ws,r1,r2⟩:=Dt c I rh hb ei
     have hvv:s.heap.IsValuesView a bb:=(I.hok a _ hH).1
     have hn:es.size<=sizeLine:=by
      have e1:=r1.length
      have e2:ws.length=es.size:=by have:=r2.length; simpa using this
      rw [<- e2,<- e1]; exact hz
     refine PySem.W.kdu_collect (JM (r:=a) g2) (I.ok.hd c.calm) ⟨hvv,g1⟩ hn fun h' tk acc hk hacc=>?_
     exact ⟨ws,I.kept (t':=tk) hk,by rw [Ku hacc]; exact r2,r1⟩
    ·cases ei
  ·cases ei
   obtain ⟨a,vs,ev,sa,ra⟩:=rp
   exact lcase ev sa.sq ra
  ·cases ei
 refine wpAny_bind (wpAny_mono col (fun its s1 hh=>?_) fun _ _ z=>z)
 obtain ⟨us,I1,rv,ry⟩:=hh
 have hlu:us.length=its.length:=rv.length
 have hly:ys.length=us.length:=ry.length
 refine wpAny_bind (wpAny_newList ?_ (by rw [sizeLine_eq]; omega))
 have hoL:(s1.heap.push (seqObj "list" its.toArray 0)).get? s1.heap.objs.size=some (seqObj "list" its.toArray 0):=Heap.get?_push_size _ rfl
 have keep:∀ b o,s1.heap.get? b=some o->b≠s1.heap.objs.size/\(s1.heap.push (seqObj "list" its.toArray 0)).get? b=some o:=fun b o q=>⟨Nat.ne_of_lt (Heap.lt_size q),Heap.get?_push_of_some _ q⟩
 have fr:∀ kS,s1.heap.objs.size<=kS->X.s₀.heap.objs.size<=kS/\kS≠X.env.locals/\(∀ x c,X.env.cells.lookup x=some c->c≠kS)/\(∀ p∈X.pn++pins,p.1≠kS)/\kS∉X.fs:=fun kS hk=>KG I1 hk
 show wpAny _ _ _ _ _ { s1 with heap:=s1.heap.push (seqObj "list" its.toArray 0) }
 refine wpAny_bind (wpAny_holding (wpAny_call_entry_kw slot_list_sort ⟨_,hoL,rfl⟩ entry_list_sort ?body (ha2 _)))
 case body=>
  show wpAny (model X.prog X.w) X.A.in1.in1 (Builtin.«list.sort» ⟨[.ref s1.heap.objs.size],kw⟩) _ _ _
  rw [ht s1.heap.objs.size]
  refine F4 (s:={ s1 with heap:=s1.heap.push (seqObj "list" its.toArray 0) }) (a:=s1.heap.objs.size) (κ:=tuples' (decide (kb≠2))) (vs:=its) hoL (by omega) (KR C X pins σ φ H f b kb ys Q s1.heap.objs.size s1.heap.objs.size) ?h0 ?hget ?turn ?fin
  case h0=>
   intro kS e1 h' kp hk g1 g2
   have hk':s1.heap.objs.size < kS:=by
    have:(s1.heap.push (seqObj "list" its.toArray 0)).objs.size<=kS:=hk
    rw [Heap.size_push] at this
    exact this
   have I2:Inv X pins σ H { s1 with heap:=h' }:=I1.kept (t':=s1.toks) fun b o q=>kp b o (keep b o q).1 (keep b o q).2
   have fk:=fr kS (Nat.le_of_lt hk')
   have fa:=fr s1.heap.objs.size (Nat.le_refl _)
   refine ⟨hk',H,φ,h,[],[],I2.pins_of fun p hp=>?_,List.prefix_rfl,Kp.refl H,rh,.nil,trivial,po⟩
   rcases List.mem_append.mp hp with hp | hp
   ·exact I2.pin p (List.mem_append_right _ hp)
   ·rcases List.mem_cons.mp hp with rfl | hp
    ·exact ⟨g2,I1.hok.fresh (Nat.le_of_lt hk'),fk.2.1,fk.2.2.2.2,nN⟩
    ·rw [List.mem_singleton.mp hp]
     exact ⟨g1,I1.hok.fresh (Nat.le_refl _),fa.2.1,fa.2.2.2.2,nN⟩
  case hget=>
   rintro kS e1 ks e s' ⟨hz,H',φ',h',zs,ps,I',_⟩
   exact ⟨Nat.ne_of_gt hz,(I'.pin (s1.heap.objs.size,seqObj "list" #[] e1) (List.mem_append_right _ (List.mem_append_right _ (List.mem_cons_of_mem _ List.mem_cons_self)))).1,(I'.pin (kS,seqObj "list" ks.toArray e) (List.mem_append_right _ (List.mem_append_right _ List.mem_cons_self))).1⟩
  case turn=>
   intro kS e1 ks e s' y hy hJ
   exact Il c D G hj ry rv rfl fr kS e1 ks e s' y hy hJ
  case fin=>
   rintro kS e1 ks e s' hl ⟨hz,H',φ',h',zs,ps,I',pp,tt,rh',rz,rp',po'⟩
   have hd:ys.drop ks.length=[]:=List.drop_eq_nil_of_le (by omega)
   rw [hd] at po'
   unfold gQ at po'
   cases es:B6 b kb ps ys with
   | none=>rw [es] at po'; exact po'.elim
   | some out=>
   rw [es] at po'
   unfold B6 at es
   split at es
   ·rename_i hc
    obtain ⟨hc1,hc2,ok,hc4⟩:=hc
    cases es
    have hpz:ps.length=zs.length:=rp'.length
    have hzk:zs.length=ks.length:=rz.length
    have hu:=c.hu64
    have hr:HRs s'.heap ps ks:=BV I' c.K 20 ok.ky rp' rz
    have memD:∀ i,i < its.length->ps.getD i .non∈ps:=fun i hi=>by
     have h1:i < ps.length:=by omega
     have:ps.getD i .non=ps[i]:=by simp [h1]
     rw [this]
     exact List.getElem_mem h1
    refine ⟨fun i j=>ltN (ps.getD i .non) (ps.getD j .non),fun i j k hi hj hk h1 h2=>Kx h1 h2,fun i j hi hj h=>Ky h,fun h2 Q' E' hq=>?_,fun i j hi hj Q' hq=>?_,fun p g e2 a1 a2 kp he gk=>?_⟩
    ·exact Nt ok.m3 hr ok.fk (by omega) hq
    ·have mi:=memD i hi
     have mj:=memD j hj
     obtain ⟨bb,hb⟩:=Option.isSome_iff_exists.mp (ok.lt _ mi _ mj)
     have hq:Q' (ltN (ps.getD i .non) (ps.getD j .non)) s':=hq
     rw [Kw hb] at hq
     obtain ⟨qs,eq,_⟩:=KC ok.m3 (ok.fk _ mj)
     exact KB (n:=19) (by show X.A.units+1+1+19 < cLine; omega) (ok.ky _ mi) (ok.ky _ mj) (KC ok.m3 (ok.fk _ mi)) ⟨qs,eq⟩ (hr.getD (by omega)) (hr.getD (by omega)) hb hq
    ·have hin:∀ i∈p,i < its.length:=fun i hi=>by simpa using a1.mem_iff.mp hi
     have fa:=fr s1.heap.objs.size (Nat.le_refl _)
     have fk:=fr kS (Nat.le_of_lt hz)
     have gka:=I'.pin (kS,seqObj "list" ks.toArray e) (List.mem_append_right _ (List.mem_append_right _ List.mem_cons_self))
     have gaa:=I'.pin (s1.heap.objs.size,seqObj "list" #[] e1) (List.mem_append_right _ (List.mem_append_right _ (List.mem_cons_of_mem _ List.mem_cons_self)))
     have I5:Inv X pins σ H' s':=I'.unpinned
     have I6:=I5.adopt (a:=s1.heap.objs.size) (d:=kS) (o:=.lst (p.map fun i=>us.getD i .non)) (h':=g) gaa.2.1 gka.2.1 fa fk (fun x o h1 h2 q=>kp x o h1 h2 q) (by
      refine ⟨?_,p.map (fun i=>its.getD i Value.none),e2,AS rv (fun i hi=>by have:=hin i hi; omega),he⟩
      rw [List.length_map,a1.length_eq,List.length_range,sizeLine_eq]
      omega)
     refine ⟨_,rfl,wpAny_pure ⟨_,rfl,.ref s1.heap.objs.size,_,I6,rfl,?_⟩⟩
     refine po'.lnew rh' ?_ gaa.2.1
     rw [<- DG (b:=b) hc2 ok hc4 (p:=p) (by rw [hly,hlu]; exact a1) a2]
     exact (ry.mono pp tt).pick (fun i hi=>by have:=hin i hi; omega)
   ·cases es
end
section
variable {kf:Str} {st:Stmt} {q:Addr} {fd:FuncData} {pn:List Str} {j jb:Nat} {f:Fn} {e:Expr} {me:Me} {p pos kp kpos rp rpos:Pos}
theorem Im {Q:VK} {b:Bool} {kb:Nat} {σ:St} {H:Hp} (h:rd C (vT f b kb me) σ H Q):Ox (rd C me) Pe σ H fun vs H1=>∃ x,vs=[x]/\r1 C (jI f b kb) x H1 Q:=by
 obtain ⟨φ,δ,h,rh,re,po⟩:=h
 refine ⟨φ,δ,h,rh,re,(post.bind po).imp ?_⟩
 rintro v H1 ⟨φ1,x,h1,p1,t1,rh1,rv1,q1⟩
 exact ⟨v,rfl,φ1,h1,x,rh1,rv1,q1⟩
theorem KS {kb:Nat} (D:Def C.K X.mg kf st q fd pn) (G:aM X.prog X.w C.K X.mg X.base CX0 j q fd pn (spM C 1 f)) (he:SE C k X e me) (hb:("sorted" : Str)∈C.bs) (hj:j+2<=k:=by decide) (hg:Gl X "sorted" := by rfl) (hgk:Gl X kf:=by rfl) (hdk:(kf == ("__debug__" : Str))=false:=by decide)
  (hst:starEach [e] X.env=(false,eval e X.env) :: starEach [] X.env:=by rfl) (hbk:backTo pos (starEach [e] X.env)=(false,eval e X.env) :: backTo pos (starEach [] X.env):=by rfl) (hpl:(backTo pos (starEach [e] X.env)).any (·.1)=false:=by rfl):
  SE C k X (.Call (.Name "sorted" p) [e] [⟨some "key",.Name kf kp,kpos⟩] pos) (vT f false kb me):=fun c pins s σ H Q I h=>by
 refine wpAny_Call_Name_kw (Bp I hg (c.bn _ hb) PyProof.Rows.Boot.«sorted» ?_ (by decide) (by decide))
 refine callWith_kw (thn (vN (he c) Bs hst pos pins s σ H _ I (Im h)) fun us s1 hh=>?_) hbk hpl
 obtain ⟨vs,H1,I1,rv,x,rfl,r⟩:=hh
 obtain ⟨u,rfl,ru⟩:=vals1 rv
 refine kws_cons (Bo I1 hgk D.mg (kws_nil ?_) hdk)
 show wpAny _ _ (call (.builtin "sorted") [u] [(Str.ofString "key",.ref q)]) _ _ _
 exact DH c D G hj (fun v=>ksk_s1 _ _) (fun v=>ksk_l1 _ _) (fun v=>ksk_t1 _ _) I1 ru r
end
end
section
variable {α:Type}
theorem NC {key emb:α->PV} {xs:List α} {m:Nat} (h1:xs.length < 64) (ok:OkN m (xs.map key)) (hc:∀ a∈xs,∀ c∈xs,key a=key c->emb a=emb c):∃ os:List α,os.Perm xs/\os.Pairwise (fun a c=>ltN (key c) (key a)=false)/\B6 false m (xs.map key) (xs.map emb)=some (os.map emb):=by
 have ez:(xs.map key).zip (xs.map emb)=xs.map fun x=>(key x,emb x):=by
  induction xs with
  | nil=>rfl
  | cons x xs ih=>simp only [List.map_cons,List.zip_cons_cons]; rw [ih (by simp at h1; omega) ⟨ok.m3,fun y hy=>ok.ky y (List.mem_cons_of_mem _ hy),fun y hy=>ok.fk y (List.mem_cons_of_mem _ hy),fun y hy z hz=>ok.lt y (List.mem_cons_of_mem _ hy) z (List.mem_cons_of_mem _ hz)⟩ (fun a ha c hc'=>hc a (List.mem_cons_of_mem _ ha) c (List.mem_cons_of_mem _ hc'))]
 have insm:∀ (x:α) (ys:List α),yB Prod.fst (key x,emb x) (ys.map fun y=>(key y,emb y))=(yB key x ys).map fun y=>(key y,emb y):=fun x ys=>by
  induction ys with
  | nil=>rfl
  | cons y ys ih=>
   show (if ltN (key y) (key x)=true then (key y,emb y) :: yB Prod.fst (key x,emb x) (ys.map fun y=>(key y,emb y)) else (key x,emb x) :: (key y,emb y) :: ys.map fun y=>(key y,emb y))=(if ltN (key y) (key x)=true then y :: yB key x ys else x :: y :: ys).map fun y=>(key y,emb y)
   split
   ·rw [ih]; rfl
   ·rfl
 have srt:∀ ys:List α,kI Prod.fst (ys.map fun y=>(key y,emb y))=(kI key ys).map fun y=>(key y,emb y):=fun ys=>by
  induction ys with
  | nil=>rfl
  | cons y ys ih=>
   show yB Prod.fst (key y,emb y) (kI Prod.fst (ys.map fun y=>(key y,emb y)))=_
   rw [ih,insm]
   rfl
 refine ⟨kI key xs,lO key xs,lQ key xs,?_⟩
 unfold B6
 rw [if_pos ⟨by simpa using h1,by simp,ok,fun a ha c hc' e=>by
  rw [ez] at ha hc'
  obtain ⟨x,hx,rfl⟩:=List.mem_map.mp ha
  obtain ⟨y,hy,rfl⟩:=List.mem_map.mp hc'
  exact hc x hx y hy e⟩,ez,srt]
 show some (((kI key xs).map fun y=>(key y,emb y)).map Prod.snd)=_
 rw [List.map_map]
 rfl
theorem GH {key emb:α->PV} {f:Fn} {m:Nat} {ys zs:List PV} {Q:PV->PH->Prop}:∀ (r done:List α) (h:PH),(∀ d∈r,∀ h (Q:PV->PH->Prop),(∀ h',Ext h h'->Q (key d) h')->(f [emb d] h).W Q)->
  B6 false m ((done++r).map key) ys=some zs->(∀ h',Ext h h'->Q (.ref h'.length) (h'++[.lst zs]))->(gQ f false m ys (r.map emb) (done.map key) h).W Q
 | [],done,h,_,hs,k=>by
  rw [List.append_nil] at hs
  simp only [List.map_nil,gQ,hs,xT]
  exact k h (Ext.refl h)
 | x :: r,done,h,hf,hs,k=>by
  rw [List.map_cons]
  unfold gQ
  rw [xU]
  refine hf x List.mem_cons_self h _ fun h1 x1=>?_
  have e:done.map key++[key x]=(done++[x]).map key:=by simp
  rw [e]
  exact GH r (done++[x]) h1 (fun d hd=>hf d (List.mem_cons_of_mem _ hd)) (by rw [List.append_assoc]; exact hs) fun h' x2=>k h' (x1.trans x2)
theorem KU {key emb:α->PV} {f:Fn} {m:Nat} {xs:List α} {x:PV} {h:PH} {Q:PV->PH->Prop} (e:pZ x h=some (xs.map emb)) (h1:xs.length < 64) (ok:OkN m (xs.map key)) (hc:∀ a∈xs,∀ c∈xs,key a=key c->emb a=emb c)
  (hf:∀ d∈xs,∀ h (Q:PV->PH->Prop),(∀ h',Ext h h'->Q (key d) h')->(f [emb d] h).W Q)
  (k:∀ (os:List α) h',Ext h h'->os.Perm xs->os.Pairwise (fun a c=>ltN (key c) (key a)=false)->Q (.ref h'.length) (h'++[.lst (os.map emb)])):(jI f false m x h).W Q:=by
 obtain ⟨os,p,pw,es⟩:=NC h1 ok hc
 unfold jI
 rw [e]
 dsimp only
 rw [if_pos (by simpa using h1)]
 exact GH xs [] h hf es fun h' hx=>k os h' hx p pw
end
section
variable {δ:Ev} {h:PH} {m:Me}
@[simp] theorem Qh {f:Fn} {b:Bool} {n:Nat}:vT f b n m δ h=(m δ h).bind fun x h1=>jI f b n x h1:=(rfl)
end
end L2
set_option Elab.async false
set_option linter.all false
set_option maxRecDepth 100000
namespace L2
open PySem PySem.Spec PyProof.Rows PySem.SeqAt
def eqL (f:PV->PV->Option Bool):List PV->List PV->Option Bool
 | x :: xs,y :: ys=>match f x y,eqL f xs ys with
  | some b,some c=>some (b && c)
  | _,_=>none
 | [],[]=>some true
 | _,_=>some false
theorem KW {f:PV->PV->Option Bool}:∀ {xs ys:List PV} {b:Bool},eqL f xs ys=some b->
  ∃ g:Nat->Bool,(∀ (j:Nat) (x y:PV),xs[j]?=some x->ys[j]?=some y->f x y=some (g j))/\b=((List.range (min xs.length ys.length)).all g && xs.length == ys.length)
 | [],[],b,e=>⟨fun _=>true,fun j x y h=>(by simp at h),by cases e; rfl⟩
 | [],y :: ys,b,e=>⟨fun _=>true,fun j x y h=>(by simp at h),by cases e; simp⟩
 | x :: xs,[],b,e=>⟨fun _=>true,fun j x y _ h=>(by simp at h),by cases e; simp⟩
 | x :: xs,y :: ys,b,e=>by
  unfold eqL at e
  split at e
  ·rename_i b' c e1 e2
   cases e
   obtain ⟨g,h1,h2⟩:=KW e2
   refine ⟨fun j=>match j with | 0=>b' | j+1=>g j,fun j x y hx hy=>?_,?_⟩
   ·cases j with
    | zero=>simp at hx hy; subst hx hy; exact e1
    | succ j=>exact h1 j x y (by simpa using hx) (by simpa using hy)
   ·rw [h2]
    have e3:min (x :: xs).length (y :: ys).length=min xs.length ys.length+1:=by simp only [List.length_cons]; omega
    rw [e3,List.range_succ_eq_map,List.all_cons,List.all_map,Bool.and_assoc]
    simp [Function.comp_def]
  ·cases e
theorem C1 {f:PV->PV->Option Bool} {R:PV->V->Prop} (hf:∀ x y v b,f x y=some b->R x v->R y v->b=true):∀ {xs ys:List PV} {vs:List V} {b:Bool},(∀ (j:Nat) (x:PV),xs[j]?=some x->∃ v,vs[j]?=some v/\R x v)->(∀ (j:Nat) (x:PV),ys[j]?=some x->∃ v,vs[j]?=some v/\R x v)->xs.length=ys.length->eqL f xs ys=some b->b=true
 | [],[],_,b,_,_,_,e=>by cases e; rfl
 | [],_ :: _,_,_,_,_,h,_=>by simp at h
 | _ :: _,[],_,_,_,_,h,_=>by simp at h
 | x :: xs,y :: ys,vs,b,h1,h2,h,e=>by
  unfold eqL at e
  split at e
  ·rename_i b' c e1 e2
   cases e
   obtain ⟨v,hv,rx⟩:=h1 0 x rfl
   obtain ⟨v',hv',ry⟩:=h2 0 y rfl
   rw [hv] at hv'
   cases hv'
   rw [hf x y v b' e1 rx ry,C1 hf (vs:=vs.tail) (fun j z hz=>by simpa using h1 (j+1) z hz) (fun j z hz=>by simpa using h2 (j+1) z hz) (by simpa using h) e2]
   rfl
  ·cases e
def eqF:Nat->PV->PV->PH->Option Bool
 | 0,x,y,h=>jP x y h
 | n+1,x,y,h=>match jP x y h with
  | some b=>some b
  | none=>match x,y with
   | .tup xs,.tup ys=>eqL (fun a b=>eqF n a b h) xs ys
   | x,y=>match eI x h,eI y h with
    | some xs,some ys=>eqL (fun a b=>eqF n a b h) xs ys
    | _,_=>none
def KY:PV->PV->PH->Rs PV:=fun x y h=>ofB (eqF 3 x y h) h
def KZ:PV->PV->PH->Rs PV:=fun x y h=>ofB ((eqF 3 x y h).map not) h
section
variable {C:MC} {k:Nat} {X:Cx} {pins:List (Addr×Obj)} {σ:St} {H:Hp} {s:Shared} {φ:List Addr} {h:PH}
theorem qC:∀ {xs:List PV} {vs:List V},RVs C φ H xs vs->xs.length=vs.length/\∀ (j:Nat) (x:PV),xs[j]?=some x->∃ v,vs[j]?=some v/\RV C φ H x v
 | [],[],_=>⟨rfl,fun j x h=>by simp at h⟩
 | x :: xs,v :: vs,r=>by
  obtain ⟨l,q⟩:=qC r.2
  refine ⟨by simp [l],fun j y hy=>?_⟩
  cases j with
  | zero=>simp at hy; subst hy; exact ⟨v,rfl,r.1⟩
  | succ j=>simpa using q j y (by simpa using hy)
 | [],_ :: _,r=>r.elim
 | _ :: _,[],r=>r.elim
theorem B7 (I:Inv X pins σ H s) (hK:X.K=C.K) (rh:RH C φ H h) {x y:PV} {w:V} {b:Bool} (e:jP x y h=some b) (rx:RV C φ H x w) (ry:RV C φ H y w):b=true:=by
 rcases lM rh rx ry e with ⟨d,e',q1,q2,q3,rfl⟩ | ⟨d,e',⟨a,vs,hw,sa,ra⟩,⟨a',us,hw',sa',ra'⟩,q3,rfl⟩
 ·rw [<- hK] at q1 q2
  rw [oO I 40 d e' w q3 q1 q2]
  exact kC _
 ·rw [<- hK] at sa sa' ra ra'
  subst hw
  cases hw'
  have ev:=I.list_inj sa sa'
  subst ev
  have e2:=yI I q3 ra ra'
  subst e2
  have:=kC (.tup d)
  simpa [eqD] using this
theorem L0 (I:Inv X pins σ H s) (hK:X.K=C.K) (rh:RH C φ H h):∀ (n:Nat) (x y:PV) (w:V) (b:Bool),eqF n x y h=some b->RV C φ H x w->RV C φ H y w->b=true:=by
 intro n
 induction n with
 | zero=>intro x y w b e rx ry; exact B7 I hK rh e rx ry
 | succ n ih=>
  intro x y w b e rx ry
  unfold eqF at e
  split at e
  ·rename_i b' e2
   cases e
   exact B7 I hK rh e2 rx ry
  ·split at e
   ·rename_i xs ys _
    obtain ⟨a,vs,rfl,q,r⟩:=rx
    obtain ⟨a',us,hw,q',r'⟩:=ry
    cases hw
    rw [<- hK] at q q'
    have ev:=I.tuple_inj q q'
    subst ev
    obtain ⟨l1,a1⟩:=qC r
    obtain ⟨l2,a2⟩:=qC r'
    exact C1 (R:=RV C φ H) (fun x y v b=>ih x y v b) a1 a2 (by omega) e
   ·split at e
    ·rename_i xs ys h1 h2
     obtain ⟨a,vs,rfl,sa,ra⟩:=iO rh rx h1
     obtain ⟨a',us,hw,sb,rb⟩:=iO rh ry h2
     cases hw
     rw [<- hK] at sa sb
     have ev:=I.list_inj sa sb
     subst ev
     obtain ⟨l1,a1⟩:=qC ra
     obtain ⟨l2,a2⟩:=qC rb
     exact C1 (R:=RV C φ H) (fun x y v b=>ih x y v b) a1 a2 (by omega) e
    ·cases e
theorem DI {n:Nat} (hn:∀ (A:Around) (x y:PV) (v u:V) (i j:Value) (b:Bool),A.units+42+n < cLine->eqF n x y h=some b->RV C φ H x v->RV C φ H y u->RelV v i->RelV u j->EqAt A s i j b)
  {A:Around} {xs ys:List PV} {b:Bool} {vs us:List V} {is js:List Value} (hu:A.units+42+n < cLine) (e:eqL (fun a b=>eqF n a b h) xs ys=some b) (r:RVs C φ H xs vs) (r':RVs C φ H ys us) (rv:aP vs is) (rw':aP us js):
  ∃ g:Nat->Bool,is.toArray.size=xs.length/\js.toArray.size=ys.length/\(∀ (j:Nat) (h1:j < is.toArray.size) (h2:j < js.toArray.size),EqAt A s is.toArray[j] js.toArray[j] (g j))/\b=((List.range (min is.toArray.size js.toArray.size)).all g && is.toArray.size == js.toArray.size):=by
 obtain ⟨g,hg,hb⟩:=KW e
 obtain ⟨l1,a1⟩:=qC r
 obtain ⟨l2,a2⟩:=qC r'
 have l3:=rv.length
 have l4:=rw'.length
 have z1:is.toArray.size=xs.length:=by simp; omega
 have z2:js.toArray.size=ys.length:=by simp; omega
 refine ⟨g,z1,z2,fun j h1 h2=>?_,by rw [z1,z2]; exact hb⟩
 have k1:j < xs.length:=by omega
 have k2:j < ys.length:=by omega
 obtain ⟨v,hv,q1⟩:=a1 j xs[j] (List.getElem?_eq_getElem k1)
 obtain ⟨u,hu',q2⟩:=a2 j ys[j] (List.getElem?_eq_getElem k2)
 obtain ⟨i,hi,q3⟩:=rv.get hv
 obtain ⟨i',hi',q4⟩:=rw'.get hu'
 have e1:is.toArray[j]=i:=by
  have:=(List.getElem?_eq_some_iff.mp hi).2
  simpa using this
 have e2:js.toArray[j]=i':=by
  have:=(List.getElem?_eq_some_iff.mp hi').2
  simpa using this
 rw [e1,e2]
 exact hn A _ _ v u i i' (g j) hu (hg j _ _ (List.getElem?_eq_getElem k1) (List.getElem?_eq_getElem k2)) q1 q2 q3 q4
theorem Fv (I:Inv X pins σ H s) (hK:X.K=C.K) (rh:RH C φ H h) (n:Nat) (hn:∀ (A:Around) (x y:PV) (v u:V) (i j:Value) (b:Bool),A.units+42+n < cLine->eqF n x y h=some b->RV C φ H x v->RV C φ H y u->RelV v i->RelV u j->EqAt A s i j b)
  (A:Around) (x y:PV) (v u:V) (i j:Value) (b:Bool) (hu:A.units+43+n < cLine) (e2:jP x y h=none) (e:eqF (n+1) x y h=some b) (rx:RV C φ H x v) (ry:RV C φ H y u) (r1:RelV v i) (r2:RelV u j):
  RcAt A s i j b/\RcNeAt A s i j (!b)/\∃ a a',i=.ref a/\j=.ref a'/\v=.ref a/\u=.ref a':=by
 unfold eqF at e
 rw [e2] at e
 simp only at e
 split at e
 ·rename_i xs ys
  obtain ⟨a,vs,rfl,q,r⟩:=rx
  obtain ⟨a',us,rfl,q',r'⟩:=ry
  cases r1; cases r2
  rw [<- hK] at q q'
  obtain ⟨its,rv,p,_⟩:=I.tuple q
  obtain ⟨its',rv',p',_⟩:=I.tuple q'
  obtain ⟨g,z1,z2,el,hb⟩:=DI hn (A:=A.in1) (by show A.units+1+42+n < cLine; omega) e r r' rv rv'
  rw [hb]
  exact ⟨RcAt.tuples p p' (by omega) el,RcNeAt.tuples p p' (by omega) el,a,a',rfl,rfl,rfl,rfl⟩
 ·split at e
  ·rename_i xs ys h1 h2
   obtain ⟨a,vs,rfl,sa,ra⟩:=iO rh rx h1
   obtain ⟨a',us,rfl,sb,rb⟩:=iO rh ry h2
   cases r1; cases r2
   rw [<- hK] at sa sb
   obtain ⟨its,rv,p,_⟩:=I.list sa
   obtain ⟨its',rv',p',_⟩:=I.list sb
   obtain ⟨g,z1,z2,el,hb⟩:=DI hn (A:=A.in1) (by show A.units+1+42+n < cLine; omega) e ra rb rv rv'
   refine ⟨?_,?_,a,a',rfl,rfl,rfl,rfl⟩
   all_goals by_cases hl:its.toArray.size=its'.toArray.size
   all_goals first
    | rw [hb,<- hl,Nat.min_self,beq_self_eq_true,Bool.and_true]
    | rw [hb,beq_eq_false_iff_ne.mpr hl,Bool.and_false]
   ·intro prog w E Q hq
    exact eq_listAt p.isList p'.isList hl (by omega) el hq
   ·intro prog w E Q hq
    exact eq_list_lengthsAt p.isList p'.isList (by simpa using hl) (by omega) hq
   ·exact RcNeAt.lists p.isList p'.isList hl (by omega) el
   ·exact RcNeAt.lists_lengths p.isList p'.isList (by simpa using hl) (by omega)
  ·cases e
theorem L1 (I:Inv X pins σ H s) (hK:X.K=C.K) (rh:RH C φ H h):∀ (n:Nat) (A:Around) (x y:PV) (v u:V) (i j:Value) (b:Bool),A.units+42+n < cLine->eqF n x y h=some b->RV C φ H x v->RV C φ H y u->RelV v i->RelV u j->EqAt A s i j b:=by
 have base:∀ (A:Around) (x y:PV) (v u:V) (i j:Value) (b:Bool),A.units+42 < cLine->jP x y h=some b->RV C φ H x v->RV C φ H y u->RelV v i->RelV u j->EqAt A s i j b:=by
  intro A x y v u i j b hu e rx ry r1 r3
  rcases lM rh rx ry e with ⟨d,e',q1,q2,q3,rfl⟩ | ⟨d,e',q1,q2,q3,rfl⟩
  ·exact Hs I (n:=40) q3 (by omega) (by rw [hK]; exact q1) (by rw [hK]; exact q2) r1 r3
  ·exact Uv I q3 hu (by rw [hK]; exact q1) (by rw [hK]; exact q2) r1 r3
 intro n
 induction n with
 | zero=>intro A x y v u i j b hu e; exact base A x y v u i j b (by omega) e
 | succ n ih=>
  intro A x y v u i j b hu e rx ry r1 r2
  cases e2:jP x y h with
  | some b'=>
   unfold eqF at e
   rw [e2] at e
   cases e
   exact base A x y v u i j b (by omega) e2 rx ry r1 r2
  | none=>
   obtain ⟨h1,_,a,a',rfl,rfl,rfl,rfl⟩:=Fv I hK rh n ih A x y v u i j b (by omega) e2 e rx ry r1 r2
   refine fL h1 (fun z=>?_) (fun f t z=>by cases z)
   cases z
   exact L0 I hK rh (n+1) x y _ b e rx ry
theorem DJ {x y:PV} {b:Bool} (e:eqF 3 x y h=some b):jP x y h=some b\/jP x y h=none:=by
 unfold eqF at e
 split at e
 ·rename_i b' e2
  cases e
  exact .inl e2
 ·exact .inr (by assumption)
theorem Qi:OpS C k X (compareOp .Eq) KY:=fun c=>by
 intro pins s σ H x y v u Q I rx ry hq
 obtain ⟨φ,h,p,q,rh,rp,rq,po⟩:=hq
 obtain ⟨b,e,po⟩:=po.ofB
 have hu:=c.hu64
 rcases DJ e with e2 | e2
 ·refine tQ c pins s σ H x y v u Q I rx ry ⟨φ,h,p,q,rh,rp,rq,?_⟩
  unfold vEq
  rw [e2]
  exact po
 ·exact (Fv I c.K rh 2 (L1 I c.K rh 2) X.A p q x y v u b (by omega) e2 e rp rq rx ry).1 X.prog X.w X.xe _ ⟨.bl _,H,I,rfl,po.val rh rfl⟩
theorem Qj:OpS C k X (compareOp .NotEq) KZ:=fun c=>by
 intro pins s σ H x y v u Q I rx ry hq
 obtain ⟨φ,h,p,q,rh,rp,rq,po⟩:=hq
 obtain ⟨b0,e0,po⟩:=po.ofB
 obtain ⟨b,e,rfl⟩:=Option.map_eq_some_iff.mp e0
 have hu:=c.hu64
 rcases DJ e with e2 | e2
 ·refine N8 c pins s σ H x y v u Q I rx ry ⟨φ,h,p,q,rh,rp,rq,?_⟩
  unfold vNe
  rw [e2]
  exact po
 ·exact (Fv I c.K rh 2 (L1 I c.K rh 2) X.A p q x y v u b (by omega) e2 e rp rq rx ry).2.1 X.prog X.w X.xe _ ⟨.bl _,H,I,rfl,po.val rh rfl⟩
end
end L2
set_option Elab.async false
set_option linter.all false
set_option maxRecDepth 100000
namespace L2
open PySem PySem.Spec PyProof.Rows PySem.SeqAt
open PySem.AutoSeq1 (wpAny_loadPart')
open PySem.MeetsSeq PySem.MeetsSeq2 PySem.MeetsSeq3
mutual
theorem DK:∀ d e:D,eqD d e=eqD e d
 | .tup xs,.tup ys=>by simp only [eqD]; exact B8 xs ys
 | .non,e=>by cases e <;> simp [eqD]
 | .bl b,e=>by cases e <;> simp [eqD,Bool.beq_comm]
 | .int i,e=>by cases e <;> simp [eqD,Bool.beq_comm]
 | .str x,e=>by cases e <;> simp [eqD,Bool.beq_comm]
 | .tup xs,.non=>by simp [eqD]
 | .tup xs,.bl _=>by simp [eqD]
 | .tup xs,.int _=>by simp [eqD]
 | .tup xs,.str _=>by simp [eqD]
theorem B8:∀ ds es:List D,eG ds es=eG es ds
 | [],[]=>rfl
 | [],_ :: _=>by simp [eG]
 | _ :: _,[]=>by simp [eG]
 | d :: ds,e :: es=>by simp only [eG,DK d e,B8 ds es]
end
def So (A:Around) (s:Shared) (v u:Value) (b:Bool):Prop:=∀ (prog:Program) (w:World) (E:Value->Shared->Prop) (Q:Value->Shared->Prop),Q (.bool (!b)) s->wpAny (model prog w) A (richCompare .LtE v u) Q E s
def Sq (A:Around) (s:Shared) (v u:Value) (d e:D):Prop:=EqAt A s v u (eqD e d)/\(eqD e d=false->∀ b,ltD e d=some b->So A s v u b)
abbrev B9 (A:Around) (s:Shared):List Value->List Value->List D->List D->Prop:=fun vs us ds es=>vs.length=ds.length/\us.length=es.length/\∀ (j:Nat) v u d e,vs[j]?=some v->us[j]?=some u->ds[j]?=some d->es[j]?=some e->Sq A s v u d e
theorem B9.tail {A:Around} {s:Shared} {v u:Value} {vs us:List Value} {d e:D} {ds es:List D} (h:B9 A s (v :: vs) (u :: us) (d :: ds) (e :: es)):Sq A s v u d e/\B9 A s vs us ds es:=
 ⟨h.2.2 0 v u d e rfl rfl rfl rfl,by have:=h.1; simpa using this,by have:=h.2.1; simpa using this,fun j v u d e h1 h2 h3 h4=>h.2.2 (j+1) v u d e (by simpa using h1) (by simpa using h2) (by simpa using h3) (by simpa using h4)⟩
theorem C2 (l b:Addr) (items items2:Array Value) (n n2:Nat) (dd dd2:Option Addr) (sl sl2:Array (Option Value)) (ds es:List D) (c:Bool) (hc:jE es ds=some c):
  Meets (Builtin.«tuple.__le__» ⟨[.ref l,.ref b],[]⟩)
   (fun A R s=>s.heap.get? l=some { cls:=.type "tuple",dict:=dd,data:=.seq items n,slots:=sl }/\s.heap.get? b=some { cls:=.type "tuple",dict:=dd2,data:=.seq items2 n2,slots:=sl2 }/\
    B9 A.in1 s items.toList items2.toList ds es/\R (.ok (.ret (.bool (!c)))) s):=
 .of_wp fun prog w A R s h=>by
  obtain ⟨hp,g,d,tk,os⟩:=s; obtain ⟨hl,hb,hit,h⟩:=h
  have f2:=AutoSeq1.sub_tuple_tuple
  have z1:items.size=ds.length:=by rw [<- hit.1]; simp
  have z2:items2.size=es.length:=by rw [<- hit.2.1]; simp
  wp_walk using wpAny_loadPart' hl,wpAny_loadPart' hb,wpAny_forIn_list _ (fun rest b s'=>b.1=none/\s'=⟨hp,g,d,tk,os⟩/\∃ (vs ws:List Value) (ns' ms':List D),rest=vs.zip ws/\
   B9 A.in1 ⟨hp,g,d,tk,os⟩ vs ws ns' ms'/\ns'.length+items2.size=ms'.length+items.size/\jE ms' ns'=some c) _
  case turn=>
   rintro ⟨y,x⟩ rest b s' ⟨hb',rfl,vs,ws,ns',ms',hz,hvi,hlen,hR⟩
   cases vs with
   | nil=>rw [List.zip_nil_left] at hz; cases hz
   | cons v vs=>
    cases ws with
    | nil=>rw [List.zip_nil_right] at hz; cases hz
    | cons u ws=>
     rw [List.zip_cons_cons] at hz
     injection hz with hyx hrest
     injection hyx with hy hx
     subst hy hx
     cases ns' with
     | nil=>have:=hvi.1; simp at this
     | cons a ns'=>
      cases ms' with
      | nil=>have:=hvi.2.1; simp at this
      | cons e ms'=>
       obtain ⟨⟨h1,h2⟩,ht⟩:=B9.tail hvi
       simp only [List.length_cons] at hlen
       simp only [jE] at hR
       refine wpAny_bind (h1 prog w _ _ ?_)
       cases q:eqD e a with
       | true=>
        rw [q,if_pos rfl] at hR
        wp_walk
        exact ⟨rfl,rfl,_,_,_,_,hrest,ht,by omega,hR⟩
       | false=>
        rw [q,if_neg Bool.false_ne_true] at hR
        have hri:=h2 q c hR prog w
        wp_walk using hri
        exact ⟨_,rfl,by simpa using h⟩
  case fin=>
   rintro ⟨b1,b2⟩ s' ⟨hb',rfl,vs,ws,ns',ms',hz,hvi,hlen,hR⟩
   simp only at hb'
   subst hb'
   have hv:c=decide (items2.size < items.size):=by
    cases ns' with
    | nil=>
     cases ms' with
     | nil=>
      simp only [List.length_nil] at hlen
      simp only [jE] at hR
      cases hR
      exact (decide_eq_false (by omega)).symm
     | cons e ms'=>
      simp only [List.length_nil,List.length_cons] at hlen
      simp only [jE] at hR
      cases hR
      exact (decide_eq_false (by omega)).symm
    | cons a ns'=>
     cases ms' with
     | nil=>
      simp only [List.length_nil,List.length_cons] at hlen
      simp only [jE] at hR
      cases hR
      exact (decide_eq_true (by omega)).symm
     | cons e ms'=>
      exfalso
      cases vs with
      | nil=>have:=hvi.1; simp at this
      | cons v vs=>
       cases ws with
       | nil=>have:=hvi.2.1; simp at this
       | cons u ws=>rw [List.zip_cons_cons] at hz; cases hz
   have e9:(!decide (items2.size < items.size))=decide (items.size<=items2.size):=by rw [Bool.eq_iff_iff]; simp
   rw [hv,e9] at h
   wp_walk
   exact ⟨_,rfl,by simpa [Builtin.Tuple.tupleCompareSizes] using h⟩
  case h=>
   exact ⟨rfl,rfl,items.toList,items2.toList,ds,es,rfl,hit,by omega,hc⟩
section
variable {X:Cx} {pins:List (Addr×Obj)} {σ:St} {H:Hp} {s:Shared}
theorem Uw (I:Inv X pins σ H s):∀ (n:Nat) (d e:D) (A:Around) (x y:V) (v u:Value) (b:Bool),d.depth<=n->A.units+n < cLine->Rep X.K H d x->Rep X.K H e y->RelV x v->RelV y u->ltD e d=some b->So A s v u b:=by
 intro n
 induction n with
 | zero=>
  intro d e A x y v u b hd hu hx hy rx ry hb
  cases d with
  | tup ds=>exact absurd hd (by show ¬ D.depths ds+1<=0; omega)
  | int i=>
   cases e with
   | int j=>
    cases hx; cases hy
    obtain ⟨t,rfl⟩:=rx
    obtain ⟨t',rfl⟩:=ry
    simp only [ltD] at hb
    cases hb
    exact fun prog w E Q q=>(PyProof.Rows.le_int (by have e9:(!decide (j < i))=decide (i<=j):=(by rw [Bool.eq_iff_iff]; simp); rw [e9] at q; exact q):wpAny (model prog w) A (compareOp .LtE _ _) Q E s)
   | _=>simp [ltD] at hb
  | str i=>
   cases e with
   | str j=>
    cases hx; cases hy
    obtain ⟨t,rfl⟩:=rx
    obtain ⟨t',rfl⟩:=ry
    simp only [ltD] at hb
    cases hb
    exact fun prog w E Q q=>(PySem.P.le_str q:wpAny (model prog w) A (compareOp .LtE _ _) Q E s)
   | _=>simp [ltD] at hb
  | _=>cases e <;> simp [ltD] at hb
 | succ n ih=>
  intro d e A x y v u b hd hu hx hy rx ry hb
  by_cases h0:d.depth<=n
  ·exact ih d e A x y v u b h0 (by omega) hx hy rx ry hb
  ·cases d with
   | tup ds=>
    cases e with
    | tup es=>
     have hds:D.depths ds<=n:=by have:D.depths ds+1<=n+1:=hd; omega
     obtain ⟨a,vs,rfl,q,r⟩:=hx
     cases rx
     obtain ⟨its,rv,p,_⟩:=I.tuple q
     obtain ⟨a',vs',rfl,q',r'⟩:=hy
     cases ry
     obtain ⟨its',rv',p',_⟩:=I.tuple q'
     have hb':jE es ds=some b:=by simpa [ltD] using hb
     obtain ⟨⟨cls,dd,data,sl⟩,ho,hc,m,hdt⟩:=id p
     obtain ⟨⟨cls2,dd2,data2,sl2⟩,ho2,hc2,m2,hd2⟩:=id p'
     simp only at hc hdt hc2 hd2
     subst hc hdt hc2 hd2
     intro prog w E Q hq
     refine richCompare_meets_room (op:=.LtE) ⟨_,ho,rfl⟩ ⟨_,ho2,rfl⟩ PySem.F.slot_tuple_le PySem.F.entry_tuple_le (PySem.F.args_tuple_le_2 _ _) (C2 a a' its.toArray its'.toArray m m2 dd dd2 sl sl2 ds es b hb')
      ⟨ho,ho2,⟨?_,?_,?_⟩,show Value.bool (!b)≠Value.notImplemented/\Q (.bool (!b)) s from ⟨(fun x=>nomatch x),hq⟩⟩ (by omega)
     ·have l1:=r.length
      have l3:=rv.length
      show its.length=ds.length
      omega
     ·have l1:=r'.length
      have l3:=rv'.length
      show its'.length=es.length
      omega
     ·intro j v u d e h1 h2 h3 h4
      obtain ⟨xv,hxv,hrx⟩:=r.at h3
      obtain ⟨yv,hyv,hry⟩:=r'.at h4
      obtain ⟨xu,hxu,hru⟩:=rv.get hxv
      obtain ⟨yu,hyu,hru'⟩:=rv'.get hyv
      have e1:v=xu:=by
       have:its[j]?=some v:=h1
       rw [hxu] at this
       exact (Option.some.inj this).symm
      have e2:u=yu:=by
       have:its'[j]?=some u:=h2
       rw [hyu] at this
       exact (Option.some.inj this).symm
      subst e1 e2
      have hdj:=D.depths_le h3
      refine ⟨DK e d ▸ Hs I (n:=n) (by omega) ?_ hrx hry hru hru',fun _ b hb=>ih d e _ xv yv v u b (by omega) ?_ hrx hry hru hru' hb⟩
      all_goals (show A.units+1+n < cLine; omega)
    | _=>simp [ltD] at hb
   | _=>exact absurd (Nat.zero_le n) h0
end
section
variable {C:MC} {k:Nat} {X:Cx}
def qD:PV->PV->PH->Rs PV:=fun x y h=>match x,y with
 | .tup xs,.tup ys=>ofB (if (PV.tup xs).d.all (fun d=>decide (d.depth<=40)) then (HV (.tup ys) (.tup xs)).map (!·) else none) h
 | x,y=>vLe x y h
theorem Qk (hu:X.A.units+64 < cLine) (K:PySem.W.Frag) (hK:X.K=K):OpR X (compareOp .LtE) (fun x y H Q=>∃ d e b,Rep K H d x/\Rep K H e y/\d.depth<=40/\ltD e d=some b/\Q (.bl (!b)) H):=by
 subst hK
 intro pins s σ H x y v u Q I rx ry h
 obtain ⟨d,e,b,hx,hy,hd,hb,q⟩:=h
 exact Uw I 40 d e X.A x y v u b hd (by omega) hx hy rx ry hb X.prog X.w X.xe _ ⟨.bl _,H,I,rfl,q⟩
theorem B':OpS C k X (compareOp .LtE) qD:=fun c=>((Qk c.hu64 C.K c.K).or (U5 c)).imp fun x y H Q h=>by
 obtain ⟨φ,h,p,q,rh,rx,ry,po⟩:=h
 unfold qD at po
 split at po
 ·obtain ⟨b,e,po⟩:=po.ofB
  split at e
  ·rename_i hdd
   obtain ⟨b',e0,rfl⟩:=Option.map_eq_some_iff.mp e
   clear e
   have e:=e0
   clear e0
   unfold HV at e
   split at e
   ·rename_i d e' h1 h2
    split at e
    ·rename_i hd
     rw [h2] at hdd
     exact .inl ⟨e',d,b',rx.rep h2,ry.rep h1,by simpa using hdd,e,po.val rh rfl⟩
    ·cases e
   ·cases e
  ·cases e
 ·exact .inr ⟨φ,h,p,q,rh,rx,ry,po⟩
variable {h:PH}
@[simp] theorem Sr {i j:Int}:qD (.int i) (.int j) h=.ok (.bl (decide (i<=j))) h:=(rfl)
theorem ND {xs ys:List PV} {b:Bool} (hx:(PV.tup xs).pl 40=true) (hy:(PV.tup ys).pl 40=true) (e:ltL (ltP 39) ys xs=some b):qD (.tup xs) (.tup ys) h=.ok (.bl (!b)) h:=by
 obtain ⟨d,h1,h2⟩:=jS 40 _ hx
 obtain ⟨d',h3,h4⟩:=jS 40 _ hy
 have:=Kh 40 _ _ d' d hy hx h3 h1
 have e':ltP 40 (.tup ys) (.tup xs)=some b:=e
 unfold qD HV
 simp only [h1,h3,h2,h4,if_true,this,e',Option.all_some,decide_true]
 rfl
end
end L2
set_option Elab.async false
set_option linter.all false
set_option maxRecDepth 100000
set_option maxHeartbeats 4000000
namespace K42
open PySem L2
noncomputable section
def Ba:Ms:=
 (aQ (bI 5 (aD vAt (mC (.str "abcdefghijklmnopqrstuvwxyz")) (aD eN (aD aT (aD gG (mV 0) (mC (.int 64))) (aD BM (mV 4) (aD aT (mC (.int 1)) (aD eN (aD gG (mV 0) (mC (.int 3))) (mC (.int 8)))))) (mC (.int 26)))))
  (hW (mMt isL (onL bA) (mV 3) (aB (aD aT (aD aT (aD HY (mC (.str "k")) (mV 2)) (mV 5)) (aD HY (mC (.str "k")) (aD BL (aD BL (mV 1) (mC (.int 1))) (mV 2)))) aH))))
def C3:Ms:=
 (aQ (bI 1 (aD aT (mC (.int 1)) (aD eN (mV 0) (mC (.int 8)))))
 (aQ (bI 2 (aD eN (aD gG (mV 0) (mC (.int 8))) (mV 1)))
 (aQ (bI 3 (iP aH))
 (aQ (gO (uU (aB (mC (.int 4)) aH)) (gN 4) Ba)
 (eZ (mCB nM (aB (mV 3) aH)))))))
def oV:Fn:=mFn 6 C3
def C4:Ms:=
 (aQ (bI 2 (aD eN (aD BM (aD aT (aD aT (mV 0) (aD BM (mC (.int 7919)) (mV 1))) (mC (.int 1))) (mC (.int 48271))) (mC (.int 2147483647))))
 (eZ (aD eN (aD BM (mV 2) (aD aT (aD gG (mV 2) (mC (.int 1009))) (mC (.int 69621)))) (mC (.int 2147483647)))))
def jJ:Fn:=mFn 3 C4
def qE:Ms:=
 (aQ (bI 4 (aD BM (mC (.int 5)) (mV 3)))
  (aQ (gK (bL (aD AZ (mV 3) (mCB qY (aB (mV 0) aH))))
   (bI 4 (cB 2 jJ (aB (aD vAt (mV 0) (mV 3)) (aB (mC (.int 3)) aH))))
   jF)
  (aQ (bI 5 (bV (aB (aD BL (aD BM (aD eN (mV 4) (mC (.int 2))) (mC (.int 2))) (mC (.int 1))) (aB (aD vAt (mV 1) (aD eN (aD gG (mV 4) (mC (.int 2))) (mC (.int 4)))) (aB (aD aT (mC (.int 1)) (aD eN (aD gG (mV 4) (mC (.int 8))) (mC (.int 5)))) (aB (aD eN (aD gG (mV 4) (mC (.int 40))) (mC (.int 12))) aH))))))
  (aQ (bI 6 (bV aH))
  (aQ (gK (eK (bL (aD vGt (mV 3) (mC (.int 0)))) (bL (aD vGt (aD eN (aD gG (mV 4) (mC (.int 480))) (mC (.int 3))) (mC (.int 0)))))
   (bI 6 (aD vAt (mV 2) (aD eN (aD gG (mV 4) (mC (.int 1440))) (mV 3))))
   jF)
  (aQ (gK (bL (aD vEq (mV 6) (bV aH)))
   (bI 5 (aD aT (bV (aB (mC (.int 1)) aH)) (mSl (mV 5) (mP (mC (.int 1))) A1)))
   jF)
  (hW (mMt isL (onL bA) (mV 2) (aB (aD aT (mV 6) (bV (aB (mV 5) aH))) aH)))))))))
def yK:Ms:=
 (aQ (bI 2 (iP aH))
 (aQ (gO (uU (aB (mC (.int 16)) aH)) (gN 3) qE)
 (eZ (mV 2))))
def kK:Fn:=mFn 7 yK
def fM:Ms:=
 (Dx "standing" (mV 0) (iP aH))
def bM:Fn:=mFn 1 fM
def yL:Ms:=
 (aQ (bI 9 (aD BL (aD aT (mV 2) (aD eN (aD aT (aD gG (mV 5) (aD aT (mC (.int 7)) (mCB qY (aB (mV 7) aH)))) (aD gG (mV 0) (mC (.int 3)))) (aD aT (mV 1) (mC (.int 3))))) (mC (.int 1))))
  (aQ (gK (bL (aD vEq (mV 8) (mV 6)))
   (bI 9 (aD BL (aD aT (mV 2) (mV 1)) (mC (.int 1))))
   jF)
  (gK (Dl (eK (bL (aD vGe (mV 9) (mV 2))) (bL (aD vGt (mV 9) (mC (.int 0))))) (eK (bL (aD vEq (mV 8) (mV 6))) (bL (aD vGt (mV 9) (mC (.int 0))))))
   (hW (mMt isL (onL bA) (mV 7) (aB (bV (aB (mV 8) (aB (mV 9) aH))) aH)))
   jF)))
def Fw:Ms:=
 (aQ (bI 5 (cB 2 jJ (aB (mV 0) (aB (mC (.int 1)) aH))))
 (aQ (bI 6 (aD vAt (mV 3) (aD eN (mV 5) (mC (.int 4)))))
 (aQ (bI 7 (iP aH))
 (aQ (gO (bB (mV 3)) (gN 8) yL)
 (aQ (bI 10 (bV (aB (aD vAt (mV 4) (aD eN (aD gG (mV 5) (mC (.int 4))) (mC (.int 16)))) (aB (aD vAt (mV 4) (aD eN (aD gG (mV 5) (mC (.int 67))) (mC (.int 16)))) aH))))
 (aQ (bI 11 (aD vAt (iP (aB (mC (.str "a")) (aB (mC (.str "ab")) (aB (mC (.str "a")) (aB (mC (.str "ab")) (aB (mC (.str "ba")) aH)))))) (aD eN (aD gG (mV 5) (mC (.int 1091))) (mC (.int 5)))))
 (aQ (bI 12 (mC (.str "mark")))
 (aQ (gK (bL (aD AZ (aD eN (mV 0) (mC (.int 5))) (mC (.int 2))))
  (bI 12 (mC (.str "clear")))
  jF)
 (eZ (bV (aB (bV (aB (mV 6) (aB (aD aT (mV 2) (mV 1)) aH))) (aB (mCB tT (aB (mV 7) aH)) (aB (bV (aB (mV 12) (aB (bV (aB (mC (.str "t")) (aB (mC (.int 1)) aH))) (aB (aD vAt (mV 10) (mC (.int 0))) (aB (aD vAt (mV 10) (mC (.int 1))) (aB (mV 11) aH)))))) aH)))))))))))))
def yM:Fn:=mFn 13 Fw
def lT:Ms:=
 (eZ (cN [none] (bB (mUn (tZ "standing") (mV 0))) (gN 0) qZ (aD aT (mSl (mV 0) A1 (mP (mC (.int 4)))) (bV (aB (mCB iH (aB (aD vAt (mV 0) (mC (.int 4))) aH)) aH)))))
def bP:Fn:=mFn 1 lT
def yN:Ms:=
 (gK (bL (aD vEq (mV 2) (aD vAt (mV 1) (mC (.int 0)))))
   (eZ (aD qD (aD vAt (mV 1) (mC (.int 1))) (mV 3)))
   jF)
def yO:Ms:=
 (aQ (gO (bB (mV 0)) (gTp 2 (gCn (gN 2) (gCn (gN 3) gNl))) yN)
 (eZ (mC (.bl false))))
def kL:Fn:=mFn 4 yO
def C5:Ms:=
 (aQ (Fc (mV 0) (gTp 5 (gCn (gN 2) (gCn (gN 3) (gCn (gN 4) (gCn (gN 5) (gCn (gN 6) gNl)))))))
 (aQ (Fc (mV 1) (gTp 3 (gCn (gN 7) (gCn (gN 8) (gCn (gN 9) gNl)))))
 (aQ (gK (Dl (bL (aD vNe (mV 5) (aD vAt (mV 9) (mC (.int 4))))) (Gh (bL (cB 2 kL (aB (mV 8) (aB (mV 2) aH))))))
  (eZ (mV 0))
  jF)
 (eZ (bV (aB (mV 2) (aB (mV 3) (aB (mV 4) (aB (mV 5) (aB (aD aT (mV 6) (bV (aB (bV (aB (aD vAt (mV 9) (mC (.int 2))) (aB (aD vAt (mV 9) (mC (.int 3))) aH))) aH))) aH))))))))))
def lV:Fn:=mFn 10 C5
def jU:Ms:=
 (Dx "standing" (mV 0) (cN [none,some 1] (bB (mUn (tZ "standing") (mV 0))) (gN 0) qZ (cB 2 lV (aB (mV 0) (aB (mV 1) aH)))))
def cI:Fn:=mFn 2 jU
def qF:Ms:=
 (eZ (aD vNe (cN [none,none,some 1] (bB (mV 0)) (gTp 2 (gCn (gN 0) (gCn (gN 1) gNl))) (eK (bL (aD vEq (mV 0) (aD vAt (mV 2) (mC (.int 0))))) (bL (aD qD (aD vAt (mV 2) (mC (.int 1))) (mV 1)))) (mV 0)) (iP aH)))
def dF:Fn:=mFn 2 qF
def yP:Ms:=
 (gK (eK (bL (aD vEq (aD vAt (mV 5) (mC (.int 3))) (aD vAt (mV 4) (mC (.int 4))))) (bL (cB 2 dF (aB (mV 3) (aB (aD vAt (mV 5) (mC (.int 0))) aH)))))
     (hW (mMt isL (onL bA) (aD vAt (mV 5) (mC (.int 4))) (aB (bV (aB (aD vAt (mV 4) (mC (.int 2))) (aB (aD vAt (mV 4) (mC (.int 3))) aH))) aH)))
     jF)
def DL:Ms:=
 (gK (bL (aD vEq (aD vAt (mV 4) (mC (.int 0))) (mC (.str "mark"))))
   (hW (mMt isL (onL bA) (mV 1) (aB (bV (aB (mV 2) (aB (aD vAt (mV 4) (mC (.int 2))) (aB (aD vAt (mV 4) (mC (.int 3))) (aB (aD vAt (mV 4) (mC (.int 4))) (aB (iP aH) aH)))))) aH)))
   (gO (bB (mV 1)) (gN 5) yP))
def Fx:Ms:=
 (aQ (bI 1 (iP aH))
 (aQ (gO (bB (mV 0)) (gTp 3 (gCn (gN 2) (gCn (gN 3) (gCn (gN 4) gNl)))) DL)
 (eZ (mV 1))))
def nO:Fn:=mFn 6 Fx
def lW:Ms:=
 (aQ (Fc (mV 1) (gTp 3 (gCn (gN 2) (gCn (gN 3) (gCn (gN 4) gNl)))))
 (gK (bL (aD jH (mV 2) (cN [none] (bB (mUn (tZ "standing") (mV 0))) (gN 0) qZ (aD vAt (mV 0) (mC (.int 0))))))
  (hW (mMt isL (onL bA) (mUn (tZ "standing") (mV 0)) (aB (bV (aB (mV 2) (aB (aD vAt (mV 4) (mC (.int 2))) (aB (aD vAt (mV 4) (mC (.int 3))) (aB (aD vAt (mV 4) (mC (.int 4))) (aB (bV aH) aH)))))) aH)))
  jF))
def cQ:Fn:=mFn 5 lW
def uA:Ms:=
 (eZ (aD aT (mV 0) (bV (aB (bV (aB (mC (.int 0)) aH)) aH))))
def eW:Fn:=mFn 1 uA
def rP:Ms:=
 (hW (mMt xZ oS (mV 1) (aB (mV 2) (aB (mCB DC (aB (mV 1) aH)) aH))))
def qG:Ms:=
 (aQ (bI 1 BO)
 (aQ (gO (bB (vT eW false 2 (mV 0))) (gN 2) rP)
 (eZ (mV 1))))
def iT:Fn:=mFn 3 qG
def qH:Ms:=
 (eZ (aD aT (iP (aB (bV (aB (aD vAt (mV 0) (mC (.int 1))) (aB (aD vAt (mV 0) (mC (.int 2))) aH))) aH)) (mCB iH (aB (aD vAt (mV 0) (mC (.int 4))) aH))))
def bS:Fn:=mFn 1 qH
def nP:Ms:=
 (aQ (Dy (mC (.bl true)) (mV 1) (mV 3))
   (Dy (mC (.bl true)) (mV 1) (mV 4)))
def iU:Ms:=
 (gO (bB (cB 1 bS (aB (mV 2) aH))) (gTp 2 (gCn (gN 3) (gCn (gN 4) gNl))) nP)
def lX:Ms:=
 (aQ (bI 1 BO)
 (aQ (gO (bB (mUn (tZ "standing") (mV 0))) (gN 2) iU)
 (eZ (mCB iH (aB (mV 1) aH)))))
def cR:Fn:=mFn 5 lX
def C6:Ms:=
 (aQ (bI 2 (cN [none,none,some 1] (bB (mV 0)) (gTp 2 (gCn (gN 0) (gCn (gN 1) gNl))) qZ (Fb qD qD (mV 0) (mV 2) (mV 1))))
 (eZ (Gi (aD vAt (mV 2) (mC (.int 0))) (Gj (mCB Kk (aB (mSl (mV 2) (mP (mC (.int 1))) A1) aH))))))
def oW:Fn:=mFn 3 C6
def bW:Str->Option Fn:=fun (z:Str)=>if z=("Marks" : Str) then some cR else (fun _=>none) z
def fH:Ms:=
 (hW (mMt isL (onL bA) (mV 3) (aB (bV (aB (aD vAt (mV 4) (mC (.int 3))) (aB (cN [none,none,some 2] (bB (cB 1 bS (aB (mV 4) aH))) (gTp 2 (gCn (gN 0) (gCn (gN 1) gNl))) qZ (bV (aB (aD vAt (mV 2) (mV 0)) (aB (aD vAt (mV 2) (mV 1)) aH)))) aH))) aH)))
def fI:Ms:=
 (aQ (bI 7 (aD vAt (mV 2) (mV 6)))
  (hW (mMt isL (onL bA) (mV 5) (aB (mUn kJ (cN [none,none,some 7] (bB (mV 3)) (gTp 2 (gCn (gN 0) (gCn (gN 1) gNl))) (bL (cB 2 oW (aB (mV 1) (aB (mV 2) aH)))) (mV 0))) aH))))
def dY:Ms:=
 (aQ (bI 2 (cB 1 iT (aB (aD aT (mV 1) (dE "ends" 0 bW (mV 0) aH)) aH)))
 (aQ (bI 3 (iP aH))
 (aQ (gO (bB (mUn (tZ "standing") (mV 0))) (gN 4) fH)
 (aQ (bI 5 (iP aH))
 (aQ (gO (bB (mV 1)) (gN 6) fI)
 (eZ (mV 5)))))))
def aY:Fn:=mFn 8 dY
def cJ:Str->Option Fn:=fun (z:Str)=>if z=("Marks" : Str) then some aY else (fun _=>none) z
def fN:Ms:=
 (eZ (aD vAt (dE "words_along" 1 cJ (mV 0) (aB (iP (aB (mV 1) aH)) aH)) (mC (.int 0))))
def bN:Fn:=mFn 2 fN
def Ql:Ms:=
 (aQ (bI 2 (aD aT (mV 0) (bV (aB (bV (aB (mC (.int 0)) aH)) aH))))
 (eZ (Fb qD qD (aD aT (aD vAt (mV 1) (mC (.int 0))) (bV (aB (bV (aB (mC (.int 0)) aH)) aH))) (mV 2) (aD aT (aD vAt (mV 1) (mC (.int 1))) (bV (aB (bV (aB (mC (.int 0)) aH)) aH))))))
def DM:Fn:=mFn 3 Ql
def uB:Ms:=
 (aQ (Fc (aD vAt (mV 0) (mV 3)) (gTp 3 (gCn (gN 4) (gCn (gN 5) (gCn (gN 6) gNl)))))
  (gK (eK (bL (aD vEq (aD vAt (mV 6) (mC (.int 0))) (mC (.str "mark")))) (bL (cB 2 DM (aB (mV 1) (aB (mSl (mV 6) (mP (mC (.int 2))) (mP (mC (.int 4)))) aH)))))
   (aQ (bI 7 (cN [none,some 6] (bB (mSl (mV 0) (mP (aD aT (mV 3) (mC (.int 1)))) A1)) (gN 0) (eK (bL (aD vEq (aD vAt (aD vAt (mV 0) (mC (.int 2))) (mC (.int 0))) (mC (.str "clear")))) (bL (aD vEq (aD vAt (aD vAt (mV 0) (mC (.int 2))) (mC (.int 4))) (aD vAt (mV 1) (mC (.int 4)))))) (mV 0)))
   (aQ (bI 7 (cN [none,some 4,some 1] (bB (mV 7)) (gN 0) (eK (bL (cB 2 dF (aB (aD vAt (mV 0) (mC (.int 1))) (aB (mV 1) aH)))) (bL (cB 2 DM (aB (mV 2) (aB (mSl (aD vAt (mV 0) (mC (.int 2))) (mP (mC (.int 2))) (mP (mC (.int 4)))) aH))))) (mV 0)))
   (gK (eK (bL (aD vEq (mV 7) (iP aH))) (bL (aD jH (aD vAt (mV 6) (mC (.int 4))) (mV 2))))
    (hW (mMt isL (onL bA) (mV 2) (aB (aD vAt (mV 6) (mC (.int 4))) aH)))
    jF)))
   jF))
def C7:Ms:=
 (aQ (bI 2 (iP aH))
 (aQ (gO (uU (aB (mCB qY (aB (mV 0) aH)) aH)) (gN 3) uB)
 (eZ (mCB nM (aB (mV 2) aH)))))
def m_words:Fn:=mFn 8 C7
def nQ:Str->Option Fn:=fun (z:Str)=>if z=("Marks" : Str) then some cQ else (fun _=>none) z
def nR:Str->Option Fn:=fun (z:Str)=>if z=("Marks" : Str) then some cI else (fun _=>none) z
def rQ:Str->Option Fn:=fun (z:Str)=>if z=("Marks" : Str) then some bN else (fun _=>none) z
def nS:Str->Option Fn:=fun (z:Str)=>if z=("Marks" : Str) then some bP else (fun _=>none) z
def nT:Str->Option Fn:=fun (z:Str)=>if z=("Marks" : Str) then some bP else (fun _=>none) z
def C8:Ms:=
 (gK (bL (aD vNe (dE "words_at" 1 rQ (mV 5) (aB (mV 9) aH)) (cB 2 m_words (aB (mV 6) (aB (mV 9) aH)))))
    (eZ (mC (.bl false)))
    jF)
def C9:Ms:=
 (hW (mMt isL (onL bA) (aD vAt (mV 11) (mC (.int 4))) (aB (bV (aB (aD vAt (mV 3) (mC (.int 0))) (aB (aD vAt (mV 3) (mC (.int 1))) aH))) aH)))
def vU:Ms:=
 (aQ (bI 8 (cB 5 yM (aB (aD vAt (mV 0) (mV 7)) (aB (mV 7) (aB (mV 4) (aB (mV 2) (aB (mV 3) aH)))))))
  (aQ (hW (mMt isL (onL bA) (mV 6) (aB (mV 8) aH)))
  (aQ (gK (bL (aD vEq (aD vAt (aD vAt (mV 8) (mC (.int 2))) (mC (.int 0))) (mC (.str "mark"))))
   (hW (dE "mark" 1 nQ (mV 5) (aB (mV 8) aH)))
   (hW (dE "clear" 1 nR (mV 5) (aB (mV 8) aH))))
  (aQ (gO (bB (iP (aB (aD vAt (aD vAt (mV 8) (mC (.int 2))) (mC (.int 2))) (aB (aD vAt (aD vAt (mV 8) (mC (.int 2))) (mC (.int 3))) (aB (aD vAt (mV 3) (aD eN (aD aT (aD gG (aD vAt (mV 0) (mV 7)) (mC (.int 5))) (mV 7)) (mC (.int 16)))) aH))))) (gN 9) C8)
  (aQ (bI 10 (dE "rows" 0 nS (mV 5) aH))
  (aQ (gK (bL (aD KZ (mV 10) (cB 1 nO (aB (mV 6) aH))))
   (eZ (mC (.bl false)))
   jF)
  (aQ (gO (bB (mV 10)) (gN 11) C9)
  (hW (Nd isL (onL pV) (mV 10))))))))))
def L3:Ms:=
 (aQ (bI 1 (mC (.int 0)))
 (aQ (gK (bL (aD vGt (mCB qY (aB (mV 0) aH)) (mC (.int 0))))
  (bI 1 (aD vAt (mV 0) (mC (.int 0))))
  jF)
 (aQ (bI 2 (cB 1 oV (aB (mV 1) aH)))
 (aQ (bI 3 (cB 2 kK (aB (mV 0) (aB (mV 2) aH))))
 (aQ (bI 4 (aD aT (mC (.int 1)) (aD eN (aD gG (mV 1) (mC (.int 11))) (aD vAt (iP (aB (mC (.int 1)) (aB (mC (.int 3)) (aB (aD PM (mC (.int 10)) (mC (.int 11))) aH)))) (aD eN (aD gG (mV 1) (mC (.int 5))) (mC (.int 3)))))))
 (aQ (bI 5 (GF "Marks" 0 bM aH))
 (aQ (bI 6 (iP aH))
 (aQ (gO (uU (aB (mCB DB (aB (mCB qY (aB (mV 0) aH)) (aB (mC (.int 16)) aH))) aH)) (gN 7) vU)
 (eZ (aD KY (dE "rows" 0 nT (mV 5) aH) (cB 1 nO (aB (mV 6) aH))))))))))))
def L4:Fn:=mFn 12 L3
end
end K42
set_option Elab.async false
set_option linter.all false
set_option maxRecDepth 100000
set_option maxHeartbeats 1000000
namespace K42
open PySem L2
abbrev Seen:=List (Str×Int)
def look:Seen->Str->Option Int
 | [],_=>none
 | p :: r,h=>if p.1=h then some p.2 else look r h
theorem uC (p:Str×Int) (r:Seen) (h:Str):look (p :: r) h=if p.1=h then some p.2 else look r h:=(rfl)
def emb (kvs:Seen):List (Key×PV):=kvs.map fun p=>(.inr p.1,.int p.2)
def sv (S:Seen):PV:=.tup (S.map fun p=>.tup [.str p.1,.int p.2])
abbrev L5:Str:="abcdefghijklmnopqrstuvwxyz"
theorem L6:L5.cps.toList.length=26:=by decide +kernel
theorem Ip:L5.length=26:=by decide +kernel
theorem L7:∀ i:Fin 26,L5.cps.toList[i.val]?=some (97+i.val):=by decide +kernel
theorem L8 {x:Str} {c:Nat}:(x++(⟨#[c]⟩:Str)).length=x.length+1:=by
 rw [Str.length_append]; rfl
theorem NF {i:Int} (h0:0<=i) (h1:i < 26):atI L5.cps.toList i=some (97+i.toNat):=by
 rw [Nj h0 (by rw [L6]; exact h1)]
 exact L7 ⟨i.toNat,by omega⟩
theorem app_list (x y:Str):(x++y).cps.toList=x.cps.toList++y.cps.toList:=PySem.W.KT.app_list x y
def pv (p:Str×Int):PV:=.tup [.str p.1,.int p.2]
theorem GI (S:Seen):sv S=.tup (S.map pv):=rfl
structure St where
 s:Int
 h:Str
 n:Int
 k:Int
 deriving DecidableEq
def stp (x:St):PV:=.tup [.int x.s,.str x.h,.int x.n,.int x.k]
theorem GJ {x y:St} (h:stp x=stp y):x=y:=by
 obtain ⟨a,b,c,d⟩:=x
 obtain ⟨a',b',c',d'⟩:=y
 simp [stp] at h
 simp [h]
def pl (xs:List St):PV:=.tup (xs.map stp)
theorem Qm {xs ys:List St} (h:pl xs=pl ys):xs=ys:=by
 have h:xs.map stp=ys.map stp:=by simpa [pl] using h
 induction xs generalizing ys with
 | nil=>cases ys <;> simp at h ⊢
 | cons x xs ih=>
  cases ys with
  | nil=>simp at h
  | cons y ys=>
   simp at h
   rw [GJ h.1,ih (by simp [pl,h.2]) h.2]
theorem GK (xs:List St):(pl xs).pl 40=true:=by
 show (xs.map stp).all (PV.pl 39)=true
 rw [List.all_eq_true]
 intro p hp
 obtain ⟨x,_,rfl⟩:=List.mem_map.mp hp
 rfl
abbrev rR:PV:=.tup [.int 0]
def Ca (x y:St):Bool:=if x.s=y.s then (if x.h=y.h then (if x.n=y.n then decide (x.k < y.k) else decide (x.n < y.n)) else decide (x.h.cps.toList < y.h.cps.toList)) else decide (x.s < y.s)
def bef:List St->List St->Bool
 | [],[]=>false
 | [],y :: _=>decide (0<=y.s)
 | x :: _,[]=>decide (x.s < 0)
 | x :: xs,y :: ys=>if x=y then bef xs ys else Ca x y
theorem Qn (n:Nat) (x y:St) (hne:x≠y):ltP (n+1) (stp x) (stp y)=some (Ca x y):=by
 obtain ⟨a,b,c,d⟩:=x
 obtain ⟨a',b',c',d'⟩:=y
 by_cases h1:a=a'
 ·by_cases h2:b=b'
  ·by_cases h3:c=c'
   ·by_cases h4:d=d'
    ·exact absurd (by simp [h1,h2,h3,h4]) hne
    ·simp [ltP,ltL,stp,Ca,h1,h2,h3,h4]
   ·simp [ltP,ltL,stp,Ca,h1,h2,h3]
  ·simp [ltP,ltL,stp,Ca,h1,h2]
 ·simp [ltP,ltL,stp,Ca,h1]
theorem Cb (n:Nat):∀ xs ys:List St,ltL (ltP (n+2)) (xs.map stp++[rR]) (ys.map stp++[rR])=some (bef xs ys)
 | [],[]=>by simp [ltL,bef]
 | [],y :: ys=>by
  have hne:rR≠stp y:=by simp [stp,rR]
  simp only [List.map_nil,List.nil_append,List.map_cons,List.cons_append,ltL,if_neg hne,bef]
  simp only [ltP,stp,ltL]
  by_cases h:(0:Int)=y.s
  ·simp [<- h]
  ·have:decide ((0:Int) < y.s)=decide (0<=y.s):=by
    rw [Bool.eq_iff_iff]; simp; omega
   simp [h,this]
 | x :: xs,[]=>by
  have hne:stp x≠rR:=by simp [stp,rR]
  simp only [List.map_nil,List.nil_append,List.map_cons,List.cons_append,ltL,if_neg hne,bef]
  simp only [ltP,stp,ltL]
  by_cases h:x.s=0
  ·simp [h]
  ·simp [h]
 | x :: xs,y :: ys=>by
  simp only [List.map_cons,List.cons_append,ltL,bef]
  by_cases h:x=y
  ·subst h
   simp only [if_true]
   exact Cb n xs ys
  ·rw [if_neg fun z=>h (GJ z),if_neg h]
   exact Qn (n+1) x y h
theorem GL (xs:List St):(PV.tup (xs.map stp++[rR])).pl 40=true:=by
 show (xs.map stp++[rR]).all (PV.pl 39)=true
 rw [List.all_append,Bool.and_eq_true]
 exact ⟨GK xs,rfl⟩
theorem NG (xs:List St) (h:PH) (hx:xs.length<=1000):eW [pl xs] h=.ok (.tup (xs.map stp++[rR])) h:=by
 have w:(eW [pl xs] h).W fun p h'=>p=.tup (xs.map stp++[rR])/\h'=h:=by
  refine jR ?_
  simp (disch:=first | omega | (simp; omega)) [uA,pl]
 obtain ⟨p,h',e,rfl,rfl⟩:=tW w
 exact e
theorem L9 {a b:Str} (h:a.cps.toList=b.cps.toList):a=b:=by
 obtain ⟨x⟩:=a
 obtain ⟨y⟩:=b
 congr 1
 exact Array.toList_inj.mp h
theorem Iq {a b:List Nat} (h:a < b):¬ b < a:=List.lt_asymm h
theorem NH {a b:List Nat} (h:¬ a < b) (h':¬ b < a):a=b:=List.le_antisymm h' h
theorem L' {x y:St} (h:x≠y):Ca y x=!Ca x y:=by
 obtain ⟨a,b,c,d⟩:=x
 obtain ⟨a',b',c',d'⟩:=y
 unfold Ca
 by_cases h1:a=a'
 ·subst h1
  by_cases h2:b=b'
  ·subst h2
   by_cases h3:c=c'
   ·subst h3
    have h4:d≠d':=fun z=>h (by rw [z])
    simp
    rw [Bool.eq_iff_iff]; simp; omega
   ·have h3':¬ c'=c:=fun z=>h3 z.symm
    simp [h3,h3']
    rw [Bool.eq_iff_iff]; simp; omega
  ·have h2':¬ b'=b:=fun z=>h2 z.symm
   have n1:b.cps.toList≠b'.cps.toList:=fun z=>h2 (L9 z)
   simp [h2,h2']
   rw [Bool.eq_iff_iff]
   simp only [decide_eq_true_eq,Bool.not_eq_true',decide_eq_false_iff_not]
   constructor
   ·intro z; exact Iq z
   ·intro z
    rcases Classical.em (b'.cps.toList < b.cps.toList) with q | q
    ·exact q
    ·exact absurd (NH z q) n1
 ·have h1':¬ a'=a:=fun z=>h1 z.symm
  simp [h1,h1']
  rw [Bool.eq_iff_iff]; simp; omega
theorem DO:∀ xs:List St,bef xs xs=false
 | []=>rfl
 | x :: xs=>by simp [bef,DO xs]
theorem GM:∀ {xs ys:List St},xs≠ys->bef ys xs=!bef xs ys
 | [],[],h=>absurd rfl h
 | [],y :: ys,_=>by simp only [bef]; rw [Bool.eq_iff_iff]; simp
 | x :: xs,[],_=>by simp only [bef]; rw [Bool.eq_iff_iff]; simp
 | x :: xs,y :: ys,h=>by
  simp only [bef]
  by_cases e:x=y
  ·subst e
   simp only [if_true]
   exact GM fun z=>h (by rw [z])
  ·rw [if_neg e,if_neg fun z=>e z.symm]
   exact L' e
theorem G0 {n d k:Nat} (h:k<=n):HT.sIx n d (some (k:Int))=k:=by
 show (if (k:Int) < 0 then ((k:Int)+(n:Int)).toNat else min (k:Int).toNat n)=k
 rw [if_neg (by omega)]
 omega
theorem DP {α:Type} {xs:List α} {n:Nat} (h:n<=xs.length):nF xs (some (n:Int)) none=xs.drop n:=by
 unfold nF
 rw [G0 h]
 show (xs.drop n).take (xs.length - n)=_
 rw [List.take_of_length_le (by rw [List.length_drop]; omega)]
theorem Cc (ws:List Str):(ws.map PV.str).all (PV.pl 39)=true:=by
 rw [List.all_eq_true]
 intro y hy
 obtain ⟨q,_,rfl⟩:=List.mem_map.mp hy
 rfl
theorem Ir {h:PH} {n:Nat} {xs:List PV} (e:h[n]?=some (.lst xs)):onL pV (.ref n) [] h=.ok .non (h.set n (.lst [])):=by simp [onL,fA,e,pV]
def rk (xs:List St):PV:=.tup (xs.map stp++[rR])
theorem Ss (xs ys:List St) (h:PH):qD (rk xs) (rk ys) h=.ok (.bl (!bef ys xs)) h:=ND (GL xs) (GL ys) (Cb 37 ys xs)
def inB (p:List St) (s:List St×List St):Bool:=!bef p s.1 && !bef s.2 p
theorem GN (xs:List St) (h:PH) (hx:xs.length<=1000):aT (pl xs) (.tup [.tup [.int 0]]) h=.ok (rk xs) h:=by
 unfold pl
 rw [oR (by rw [List.length_map]; simp; omega)]
 rfl
theorem ON (p f l:List St) (h:PH) (hp:p.length<=1000) (hf:f.length<=1000) (hl:l.length<=1000):DM [pl p,.tup [pl f,pl l]] h=.ok (.bl (inB p (f,l))) h:=by
 have w:(DM [pl p,.tup [pl f,pl l]] h).W fun q h'=>q=.bl (inB p (f,l))/\h'=h:=by
  refine jR ?_
  unfold Ql
  rw [aL]
  simp [GN,hp]
  refine now ?_
  cases e:bef p f <;> simp [GN,hf,hl,Ss,inB,e]
 obtain ⟨p,h',e,rfl,rfl⟩:=tW w
 exact e
structure Mrk where
 nm:Str×Int
 f:List St
 l:List St
 w:Str
 hs:List (List St×List St)
def spn (m:Mrk):List (List St×List St):=(m.f,m.l) :: m.hs
def sp (p:List St×List St):PV:=.tup [pl p.1,pl p.2]
def mkV (m:Mrk):PV:=.tup [pv m.nm,pl m.f,pl m.l,.str m.w,.tup (m.hs.map sp)]
def brs (p:List St) (m:Mrk):Bool:=inB p (m.f,m.l) && !(m.hs.any (inB p))
theorem DQ (m:Mrk) (hz:m.hs.length<=1000) (h:PH) (Q:PV->PH->Prop) (k:∀ n h',Ext h h'->h.length<=n->h'[n]?=some (.lst ((spn m).map sp))->Q (.ref n) h'):(bS [mkV m] h).W Q:=by
 refine jR ?_
 unfold qH
 have g1:(h++[MO.lst [PV.tup [pl m.f,pl m.l]]])[h.length]?=some (.lst [PV.tup [pl m.f,pl m.l]]):=aN
 have x1:Ext h (h++[MO.lst [PV.tup [pl m.f,pl m.l]]]):=Ext.app _ _
 have lv:∀ h:PH,iH [.tup (m.hs.map sp)] h=.ok (.ref h.length) (h++[.lst (m.hs.map sp)]):=fun h=>rfl
 have a1:∀ h,vIx (mkV m) (.int 1) h=.ok (pl m.f) h:=fun h=>by unfold mkV; simp
 have a2:∀ h,vIx (mkV m) (.int 2) h=.ok (pl m.l) h:=fun h=>by unfold mkV; simp
 have a4:∀ h,vIx (mkV m) (.int 4) h=.ok (.tup (m.hs.map sp)) h:=fun h=>by unfold mkV; simp
 simp [a1,a2,a4]
 generalize h++[MO.lst [PV.tup [pl m.f,pl m.l]]]=hA at x1 g1
 rw [lv hA]
 have g2:(hA++[MO.lst (m.hs.map sp)])[hA.length]?=some (.lst (m.hs.map sp)):=aN
 have g1':=Ext.app hA [MO.lst (m.hs.map sp)] _ _ g1
 have x2:Ext h (hA++[MO.lst (m.hs.map sp)]):=x1.trans (Ext.app _ _)
 simp only [Rs.bind_ok,xT]
 generalize hA++[MO.lst (m.hs.map sp)]=hB at x2 g1' g2
 have vp:=B4 g1' g2 (by simp; omega)
 simp [vp]
 exact k _ _ (x2.trans (Ext.app _ _)) x2.len aN
theorem GO {δ:Ev} {h h1:PH} {js:List (Option Nat)} {tg:Mg} {elt:Me} {g:PH->Bool} {α:Type} {mi:Mi} {tst:Ev->PH->Rs Bool} {ys:List α} {emb:α->PV} {Q:PV->PH->Prop} (p:α->Bool) (f:α->PV) (e:mi δ h=.ok ⟨ys.map emb,g⟩ h1) (hg:∀ h,Ext h1 h->g h=true) (hz:ys.length<=16777216)
  (step:∀ y∈ys,∃ δ1,tg (emb y) (iG js δ)=some δ1/\(∀ h,Ext h1 h->∀ Q:Bool->PH->Prop,(∀ h',Ext h h'->Q (p y) h')->(tst δ1 h).W Q)/\∀ h,Ext h1 h->elt δ1 h=.ok (f y) h)
  (k:∀ l h',Ext h1 h'->h1.length<=l->h'[l]?=some (.lst ((ys.filter p).map f))->Q (.ref l) h'):(cN js mi tg tst elt δ h).W Q:=by
 unfold cN
 rw [e,Rs.bind_ok]
 refine vQ (fun i h'=>Ext h1 h'/\h'[h1.length]?=some (.lst (((ys.take i).filter p).map f))) (ys.map emb) 0 _ ⟨Ext.app _ _,by simp⟩ (fun i x h' _ hx hi=>?_) (fun h' hi=>?_)
 ·obtain ⟨x1,g1⟩:=hi
  have hx:(ys.map emb)[i]?=some x:=by simpa using hx
  rw [List.getElem?_map] at hx
  obtain ⟨y,hy,rfl⟩:=Option.map_eq_some_iff.mp hx
  have hil:=(List.getElem?_eq_some_iff.mp hy).1
  obtain ⟨δ1,ht,hs,he⟩:=step y (List.mem_of_getElem? hy)
  have htk:ys.take (i+1)=ys.take i++[y]:=by rw [List.take_add_one,hy]; rfl
  refine ⟨hg _ x1,δ1,ht,?_⟩
  refine hs h' x1 _ fun h2 x2=>?_
  cases ep:p y with
  | true=>
   rw [if_pos rfl,he h2 (x1.trans x2),xT]
   refine ⟨_,x2 _ _ g1,?_,(x1.trans x2).setN (Nat.le_refl _),?_⟩
   ·have:=List.length_filter_le p (ys.take i)
    rw [List.length_take] at this
    rw [List.length_map]; omega
   ·rw [dX (x2 _ _ g1),htk,List.filter_append,List.map_append]
    simp [ep]
  | false=>
   rw [if_neg (by simp)]
   refine ⟨x1.trans x2,?_⟩
   rw [x2 _ _ g1,htk,List.filter_append]
   simp [ep]
 ·obtain ⟨x1,g1⟩:=hi
  refine ⟨hg _ x1,k _ _ x1 (Nat.le_refl _) ?_⟩
  rw [Nat.zero_add,List.length_map,List.take_length] at g1
  exact g1
def prI (s:Int×Int):PV:=.tup [.int s.1,.int s.2]
def inI (n:Int) (s:Int×Int):Bool:=decide (s.1<=n) && decide (n<=s.2)
theorem La {s0:Int×Int} {ss:List (Int×Int)} {r:Nat} {h:PH} (g:h[r]?=some (.lst ((s0 :: ss).map prI))) (n:Int) (hz:ss.length<=1000) (Q:PV->PH->Prop) (k:∀ h',Ext h h'->Q (.bl (inI n s0 && !ss.any (inI n))) h'):(oW [.ref r,.int n] h).W Q:=by
 refine jR ?_
 unfold C6
 have hc:=nK (m:=mV 0) (n:=r) (js:=[none,none,some 1]) (tg:=gTp 2 (gCn (gN 0) (gCn (gN 1) gNl))) (tst:=qZ) (elt:=Fb qD qD (mV 0) (mV 2) (mV 1)) (δ:=[some (.ref r),some (.int n),none]) (h:=h) (h1:=h) (ys:=s0 :: ss) (emb:=prI)
  (fun s=>some (.bl (inI n s))) (by simp) g (by simp; omega) (fun s hs=>⟨[some (.int s.1),some (.int s.2),some (.int n)],by simp [iG,prI],fun h _=>by
   refine ⟨rfl,?_⟩
   by_cases e:s.1<=n
   ·simp [e,inI]
   ·simp [e,inI]⟩)
 have em:(s0 :: ss).filterMap (fun s=>some (PV.bl (inI n s)))=((s0 :: ss).map (inI n)).map PV.bl:=by
  rw [List.map_map]
  exact List.filterMap_eq_map (f:=fun s=>PV.bl (inI n s)) ▸ rfl
 rw [em] at hc
 have x1:Ext h (h++[MO.lst (((s0 :: ss).map (inI n)).map PV.bl)]):=Ext.app _ _
 have g1:(h++[MO.lst (((s0 :: ss).map (inI n)).map PV.bl)])[h.length]?=some (.lst (((s0 :: ss).map (inI n)).map PV.bl)):=aN
 rw [aL,show List.map some [PV.ref r,PV.int n]++List.replicate (3 - [PV.ref r,PV.int n].length) none=[some (.ref r),some (.int n),none] from rfl]
 simp only [Gr,hc,xT,List.set_cons_succ,List.set_cons_zero]
 generalize h++[MO.lst (((s0 :: ss).map (inI n)).map PV.bl)]=hA at x1 g1
 generalize h.length=li at g1
 clear hc em
 refine now ?_
 have v0:vIx (.ref li) (.int 0) hA=.ok (.bl (inI n s0)) hA:=by rw [dJ g1]; simp
 have vs:vSl (.ref li) (some 1) none hA=.ok (.ref hA.length) (hA++[.lst ((ss.map (inI n)).map PV.bl)]):=by
  rw [Gz g1]
  congr 4
  have:=DP (xs:=((s0 :: ss).map (inI n)).map PV.bl) (n:=1) (by simp)
  simpa using this
 have va:=Kl (h:=hA++[.lst ((ss.map (inI n)).map PV.bl)]) (n:=hA.length) (ns:=ss.map (inI n)) aN
 cases e:inI n s0 with
 | false=>
  rw [e] at v0
  simp [v0]
  have:=k hA x1
  rw [e] at this
  exact this
 | true=>
  rw [e] at v0
  have ea:(ss.map (inI n)).any id=ss.any (inI n):=by simp [List.any_map,Function.comp_def]
  have:=k _ (x1.trans (Ext.app hA [.lst ((ss.map (inI n)).map PV.bl)]))
  rw [e,<- ea] at this
  generalize ss.map (inI n)=bs at vs va this
  cases eb:bs.any id with
  | true=>rw [eb] at va this; simp [v0,vs,va]; exact this
  | false=>rw [eb] at va this; simp [v0,vs,va]; exact this
theorem Bb (p:List St):(PV.tup (p.map stp)).ky 6=true:=by
 show (p.map stp).all (PV.ky 5)=true
 rw [List.all_map]
 exact List.all_eq_true.mpr fun y _=>rfl
def gR (es:List (List St)) (p:List St):List (List St):=if p∈es then es else es++[p]
theorem yQ {es:List (List St)} {p x:List St}:x∈gR es p ↔ x∈es\/x=p:=by
 unfold gR
 split
 ·rename_i h
  exact ⟨.inl,fun z=>z.elim id fun e=>e ▸ h⟩
 ·simp
theorem Cd {es:List (List St)} {p:List St} (h:es.Nodup):(gR es p).Nodup:=by
 unfold gR
 split
 ·exact h
 ·rename_i hp
  rw [List.nodup_append]
  exact ⟨h,by simp,fun a ha b hb=>by simp at hb; subst hb; exact fun z=>hp (z ▸ ha)⟩
theorem GP (f:List St->PV) (es:List (List St)) (p:List St):bU (es.map fun p=>(pl p,f p)) (pl p)=if p∈es then some (f p) else none:=by
 induction es with
 | nil=>rfl
 | cons e es ih=>
  show (if pl e=pl p then some (f e) else bU (es.map fun p=>(pl p,f p)) (pl p))=_
  by_cases h:e=p
  ·subst h; simp
  ·rw [if_neg fun z=>h (Qm z),ih]
   have:(p∈e :: es) ↔ p∈es:=⟨fun z=>(List.mem_cons.mp z).elim (fun q=>absurd q.symm h) id,fun z=>List.mem_cons_of_mem _ z⟩
   simp only [this]
def ED (es:List (List St)):List (PV×PV):=es.map fun p=>(pl p,.bl true)
theorem Lb (es:List (List St)) (p:List St):jG (ED es) (pl p) (.bl true)=ED (gR es p):=by
 unfold jG
 rw [show bU (ED es) (pl p)=_ from GP (fun _=>.bl true) es p]
 unfold gR ED
 by_cases h:p∈es
 ·simp only [if_pos h,Option.isSome_some,if_true,List.map_map]
  refine List.map_congr_left fun x _=>?_
  simp only [Function.comp]
  split <;> rfl
 ·simp [h]
def stE (es:List (List St)) (s:List St×List St):List (List St):=gR (gR es s.1) s.2
def EN (ss:List (List St×List St)):List (List St):=ss.foldl stE []
theorem Fy:∀ (ss:List (List St×List St)) (es:List (List St)),es.Nodup->(ss.foldl stE es).Nodup/\∀ p,p∈ss.foldl stE es ↔ p∈es\/∃ s∈ss,p=s.1\/p=s.2
 | [],es,h=>⟨h,fun p=>by simp⟩
 | s :: ss,es,h=>by
  obtain ⟨a,b⟩:=Fy ss (stE es s) (Cd (Cd h))
  refine ⟨a,fun p=>?_⟩
  rw [List.foldl_cons,b]
  unfold stE
  rw [yQ,yQ]
  simp only [List.mem_cons,exists_eq_or_imp]
  constructor
  ·rintro (((h | h) | h) | h)
   ·exact .inl h
   ·exact .inr (.inl (.inl h))
   ·exact .inr (.inl (.inr h))
   ·exact .inr (.inr h)
  ·rintro (h | (h | h) | h)
   ·exact .inl (.inl (.inl h))
   ·exact .inl (.inl (.inr h))
   ·exact .inl (.inr h)
   ·exact .inr h
theorem Su (ss:List (List St×List St)):(EN ss).Nodup:=(Fy ss [] (by simp)).1
theorem Ce {ss:List (List St×List St)} {p:List St}:p∈EN ss ↔ ∃ s∈ss,p=s.1\/p=s.2:=by
 have:=(Fy ss [] (by simp)).2 p
 simpa [EN] using this
theorem NI (ss:List (List St×List St)) (s:List St×List St):EN (ss++[s])=gR (gR (EN ss) s.1) s.2:=by simp [EN,stE,List.foldl_append]
theorem Lc {ss:List (List St×List St)} {U:List (List St)} (hU:∀ s∈ss,s.1∈U/\s.2∈U):(EN ss).length<=U.length:=
 List.Nodup.length_le_of_subset (Su ss) fun p hp=>by
  obtain ⟨s,hs,h⟩:=Ce.mp hp
  rcases h with rfl | rfl
  ·exact (hU s hs).1
  ·exact (hU s hs).2
def spS (S:List Mrk):List (List St×List St):=S.flatMap spn
theorem DR (S:List Mrk) (m:Mrk):spS (S++[m])=spS S++spn m:=by simp [spS]
theorem Cf {h:PH} {n:Nat} {kvs kvs':List (PV×PV)} (e:bQ h n=some kvs):bQ (h.set n (.dD kvs')) n=some kvs':=by
 have hn:∃ o,h[n]?=some o:=by
  unfold bQ at e
  split at e
  ·exact ⟨_,by assumption⟩
  ·exact ⟨_,by assumption⟩
  ·cases e
 obtain ⟨o,ho⟩:=hn
 exact Np (dX ho)
theorem Sv {S:List Mrk} {U:List (List St)} {m:Mrk} {d:Nat} {ss:List (List St×List St)} (hU:∀ s∈ss++spn m,s.1∈U/\s.2∈U) (lU:U.length<=1000) (hz:m.hs.length<=1000) {h0 h:PH} (x0:Ext h0 h) (hd:h0.length<=d) (g:bQ h d=some (ED (EN ss))) (v0 x2 x3 x4:Option PV)
  (E:FE) (fin:∀ h' x3 x4,Ext h0 h'->(∀ n o,n≠d->h[n]?=some o->h'[n]?=some o)->bQ h' d=some (ED (EN (ss++spn m)))->E.nx [v0,some (.ref d),some (mkV m),x3,x4] h'):
  (iU [v0,some (.ref d),some (mkV m),x3,x4] h).W E:=by
 unfold iU
 have dl:d < h.length:=by
  unfold bQ at g
  split at g
  ·rename_i e; exact (List.getElem?_eq_some_iff.mp e).1
  ·rename_i e; exact (List.getElem?_eq_some_iff.mp e).1
  ·cases g
 obtain ⟨p,hA,eA,n,rfl,xA,nA,gA⟩:∃ p h',bS [mkV m] h=.ok p h'/\∃ n,p=.ref n/\Ext h h'/\h.length<=n/\h'[n]?=some (.lst ((spn m).map sp)):=by
  have:=DQ m hz h (fun p h'=>∃ n,p=.ref n/\Ext h h'/\h.length<=n/\h'[n]?=some (.lst ((spn m).map sp))) fun n h' x b g=>⟨n,rfl,x,b,g⟩
  obtain ⟨p,h',e,q⟩:=tW this
  exact ⟨p,h',e,q⟩
 refine jQ (n:=n) (xs:=(spn m).map sp) (h1:=hA) (fun r δ h'=>Ext h0 h'/\(∀ n o,n≠d->hA[n]?=some o->h'[n]?=some o)/\bQ h' d=some (ED (EN (ss++(spn m).take r)))/\∃ x3 x4,δ=[v0,some (.ref d),some (mkV m),x3,x4]) (by simp [eA]) gA ⟨x0.trans xA,fun _ _ _ e=>e,by
   obtain ⟨o,ho,_,hh⟩:=gP g
   simpa using hh _ (xA _ _ ho),x3,x4,rfl⟩ ?_ ?_ ?_
 ·rintro r δ h' _ ⟨_,k,_⟩
  exact k n _ (by omega) gA
 ·rintro r y δ h' hy ⟨x1,k1,g1,y3,y4,rfl⟩
  rw [List.getElem?_map] at hy
  obtain ⟨s,hs,rfl⟩:=Option.map_eq_some_iff.mp hy
  refine ⟨[v0,some (.ref d),some (mkV m),some (pl s.1),some (pl s.2)],by simp [sp],?_⟩
  have htk:(spn m).take (r+1)=(spn m).take r++[s]:=by rw [List.take_add_one,hs]; rfl
  have sub:∀ q∈ss++(spn m).take r,q.1∈U/\q.2∈U:=fun q hq=>hU q (by
   rcases List.mem_append.mp hq with z | z
   ·exact List.mem_append_left _ z
   ·exact List.mem_append_right _ (List.mem_of_mem_take z))
  have l1:=Lc sub
  have l2:(gR (EN (ss++(spn m).take r)) s.1).length<=(EN (ss++(spn m).take r)).length+1:=by unfold gR; split <;> simp
  have p1:∀ z,rN (.ref d) (pl s.1) z h'=some (h'.set d (.dD (jG (ED (EN (ss++(spn m).take r))) (pl s.1) z))):=fun z=>GG g1 (Bb _) (by simp [ED]; omega)
  have p1:=p1 (.bl true)
  rw [Lb] at p1
  have g2:=Cf (kvs':=ED (gR (EN (ss++(spn m).take r)) s.1)) g1
  have x2:=x1.setN (o:=.dD (ED (gR (EN (ss++(spn m).take r)) s.1))) hd
  have k2:∀ n o,n≠d->hA[n]?=some o->(h'.set d (.dD (ED (gR (EN (ss++(spn m).take r)) s.1))))[n]?=some o:=fun n o hn ho=>by rw [List.getElem?_set_ne (Ne.symm hn)]; exact k1 n o hn ho
  generalize h'.set d (.dD (ED (gR (EN (ss++(spn m).take r)) s.1)))=hB at p1 g2 x2 k2
  have p2:∀ z,rN (.ref d) (pl s.2) z hB=some (hB.set d (.dD (jG (ED (gR (EN (ss++(spn m).take r)) s.1)) (pl s.2) z))):=fun z=>GG g2 (Bb _) (by simp [ED]; omega)
  have p2:=p2 (.bl true)
  rw [Lb,<- NI,List.append_assoc,<- htk] at p2
  unfold nP
  rw [aL]
  simp [p1]
  refine now ?_
  simp [p2]
  refine ⟨x2.setN hd,fun n o hn ho=>by rw [List.getElem?_set_ne (Ne.symm hn)]; exact k2 n o hn ho,Cf g2⟩
 ·rintro δ h' ⟨x1,k1,g1,y3,y4,rfl⟩
  rw [List.length_map,List.take_length] at g1
  exact fin h' y3 y4 x1 (fun n o hn ho=>k1 n o hn (xA _ _ ho)) g1
def cE (h:PH) (lm ls:Nat) (S:List Mrk):Prop:=h[lm]?=some (.ins "Marks" [("standing",.ref ls)])/\h[ls]?=some (.lst (S.map mkV))
theorem cE.ext {h h':PH} {lm ls:Nat} {S:List Mrk} (t:cE h lm ls S) (x:Ext h h'):cE h' lm ls S:=⟨x _ _ t.1,x _ _ t.2⟩
theorem cE.fm {h:PH} {lm ls:Nat} {S:List Mrk} (t:cE h lm ls S):tZ "standing" (.ref lm) h=.ok (.ref ls) h:=Nx t.1 rfl
theorem NJ {S:List Mrk} {U:List (List St)} (hU:∀ s∈spS S,s.1∈U/\s.2∈U) (lU:U.length<=1000) (hz:∀ m∈S,m.hs.length<=1000) {h:PH} {lm ls:Nat} (t:cE h lm ls S) (Q:PV->PH->Prop)
  (k:∀ n h',Ext h h'->h.length<=n->h'[n]?=some (.lst ((EN (spS S)).map pl))->Q (.ref n) h'):(cR [.ref lm] h).W Q:=by
 refine jR ?_
 unfold lX
 rw [aL]
 simp
 have x0:Ext h (h++[MO.dK []]):=Ext.app _ _
 have g0:bQ (h++[MO.dK []]) h.length=some (ED (EN (spS (S.take 0)))):=by
  have:(h++[MO.dK []])[h.length]?=some (.dK []):=aN
  simp [bQ,this,spS,EN,ED]
 generalize h++[MO.dK []]=hA at x0 g0
 refine now ?_
 rw [aL]
 refine jQ (n:=ls) (xs:=S.map mkV) (h1:=hA) (fun q δ h'=>Ext h h'/\bQ h' h.length=some (ED (EN (spS (S.take q))))/\∃ x2 x3 x4,δ=[some (.ref lm),some (.ref h.length),x2,x3,x4]) (by simp [(t.ext x0).fm]) (t.ext x0).2 ⟨x0,g0,_,_,_,rfl⟩ ?_ ?_ ?_
 ·rintro q δ h' _ ⟨x1,_⟩
  exact (t.ext x1).2
 ·rintro q y δ h' hy ⟨x1,g1,x2,x3,x4,rfl⟩
  rw [List.getElem?_map] at hy
  obtain ⟨m,hm,rfl⟩:=Option.map_eq_some_iff.mp hy
  have hmS:=List.mem_of_getElem? hm
  have htk:S.take (q+1)=S.take q++[m]:=by rw [List.take_add_one,hm]; rfl
  refine ⟨[some (.ref lm),some (.ref h.length),some (mkV m),x3,x4],by simp,?_⟩
  refine Sv (S:=S) (U:=U) (m:=m) (d:=h.length) (ss:=spS (S.take q)) (fun s hs=>hU s ?_) lU (hz m hmS) x1 (Nat.le_refl _) g1 _ x2 x3 x4 _ fun h2 y3 y4 x12 _ g2=>?_
  ·rw [<- DR,<- htk] at hs
   unfold spS at hs ⊢
   obtain ⟨z,hz,hs⟩:=List.mem_flatMap.mp hs
   exact List.mem_flatMap.mpr ⟨z,List.mem_of_mem_take hz,hs⟩
  ·rw [<- DR,<- htk] at g2
   exact ⟨x12,g2,_,_,_,rfl⟩
 ·rintro δ h' ⟨x1,g1,x2,x3,x4,rfl⟩
  rw [List.length_map,List.take_length] at g1
  refine now ?_
  have lv:=Ih g1
  rw [show (ED (EN (spS S))).map (·.1)=(EN (spS S)).map pl by unfold ED; rw [List.map_map]; rfl] at lv
  simp [lv]
  exact k _ _ (x1.trans (Ext.app _ _)) x1.len aN
theorem Ld {n:Nat} {h:PH} {kvs:List (PV×PV)} {xs:List PV} {p:PV} (e:bQ h n=some kvs) (hk:(PV.tup xs).ky 6=true) (hl:bU kvs (.tup xs)=some p):vAt (.ref n) (.tup xs) h=.ok p h:=by
 have k1:(PV.tup xs).isKt=true:=hk
 have:pW (.tup xs) (.ref n) h=some (bU kvs (.tup xs)):=by simp only [pW,k1,if_true,e,Option.map_some]
 unfold vAt
 rw [this,hl]
def DN (ks:List (List St)):List (PV×PV):=ks.map fun p=>(pl p,.int (ks.idxOf p:Nat))
theorem Cg (ks:List (List St)) (p:List St):bU (DN ks) (pl p)=if p∈ks then some (.int (ks.idxOf p:Nat)) else none:=GP (fun p=>.int (ks.idxOf p:Nat)) ks p
theorem Qo {ks:List (List St)} {p:List St} (h:p∉ks):jG (DN ks) (pl p) (.int (ks.length:Nat))=DN (ks++[p]):=by
 unfold jG
 rw [Cg,if_neg h]
 simp only [Option.isSome_none,Bool.false_eq_true,if_false]
 unfold DN
 rw [List.map_append]
 congr 1
 ·refine List.map_congr_left fun x hx=>?_
  rw [List.idxOf_append,if_pos hx]
 ·simp only [List.map_cons,List.map_nil]
  rw [List.idxOf_append,if_neg h]
  simp
def uqP (os:List (List St)):List (List St):=os.foldl gR []
theorem Ci:∀ (os es:List (List St)),es.Nodup->(os.foldl gR es).Nodup/\(∀ p,p∈os.foldl gR es ↔ p∈es\/p∈os)/\(os.foldl gR es).Sublist (es++os)
 | [],es,h=>⟨h,fun p=>by simp,by simp⟩
 | o :: os,es,h=>by
  obtain ⟨a,b,c⟩:=Ci os (gR es o) (Cd h)
  refine ⟨a,fun p=>?_,?_⟩
  ·rw [List.foldl_cons,b,yQ,List.mem_cons,or_assoc]
  ·rw [List.foldl_cons]
   refine c.trans ?_
   unfold gR
   split
   ·exact List.Sublist.append_left (List.sublist_cons_self o os) es
   ·simp
theorem Ux (Ps:List (List St)):OkN 2 (Ps.map rk):=by
 refine ⟨by omega,fun v hv=>?_,fun v hv=>?_,fun v hv u hu=>?_⟩
 ·obtain ⟨xs,_,rfl⟩:=List.mem_map.mp hv
  show (xs.map stp++[rR]).all (PV.ky 19)=true
  rw [List.all_append,Bool.and_eq_true,List.all_map]
  exact ⟨List.all_eq_true.mpr fun y _=>rfl,rfl⟩
 ·obtain ⟨xs,_,rfl⟩:=List.mem_map.mp hv
  cases xs <;> rfl
 ·obtain ⟨xs,_,rfl⟩:=List.mem_map.mp hv
  obtain ⟨ys,_,rfl⟩:=List.mem_map.mp hu
  show (ltL (ltP 19) (xs.map stp++[rR]) (ys.map stp++[rR])).isSome=true
  rw [Cb 17 xs ys]
  rfl
theorem Qp {xs ys:List St} (h:rk xs=rk ys):pl xs=pl ys:=by
 unfold rk at h
 unfold pl
 have:=PV.tup.inj h
 rw [(List.append_inj' this rfl).1]
theorem Qq (xs ys:List St):ltN (rk xs) (rk ys)=bef xs ys:=Kw (n:=20) (by show ltL (ltP 19) _ _=_; exact Cb 17 xs ys)
theorem Qr {ks:List (List St)} (nd:ks.Nodup) (pw:ks.Pairwise fun a b=>bef b a=false) {p q:List St} (hp:p∈ks) (hq:q∈ks):decide (((ks.idxOf p:Nat):Int)<=(ks.idxOf q:Nat))=!bef q p:=by
 have ip:=List.idxOf_lt_length_iff.mpr hp
 have iq:=List.idxOf_lt_length_iff.mpr hq
 have ep:ks[ks.idxOf p]=p:=List.getElem_idxOf ip
 have eq:ks[ks.idxOf q]=q:=List.getElem_idxOf iq
 rw [List.pairwise_iff_getElem] at pw
 by_cases h:ks.idxOf p<=ks.idxOf q
 ·rw [decide_eq_true (by omega)]
  rcases Nat.lt_or_eq_of_le h with z | z
  ·have:=pw _ _ ip iq z
   rw [ep,eq] at this
   rw [this]; rfl
  ·have e2:p=q:=by rw [<- ep,<- eq]; simp [z]
   rw [e2,DO]; rfl
 ·rw [decide_eq_false (by omega)]
  have:=pw _ _ iq ip (by omega)
  rw [ep,eq] at this
  have ne:p≠q:=fun z=>h (by rw [z]; exact Nat.le_refl _)
  have t:=GM ne
  rw [this] at t
  rw [t]; rfl
theorem DS {Ps:List (List St)} (lP:Ps.length < 64) (hP:∀ p∈Ps,p.length<=1000) {h:PH} {ln:Nat} (g:h[ln]?=some (.lst (Ps.map pl))) (Q:PV->PH->Prop)
  (k:∀ (nu:List St->Int) (kvs:List (PV×PV)) d h',Ext h h'->h.length<=d->bQ h' d=some kvs->(∀ p∈Ps,bU kvs (pl p)=some (.int (nu p)))->(∀ p∈Ps,∀ q∈Ps,decide (nu p<=nu q)=!bef q p)->Q (.ref d) h'):(iT [.ref ln] h).W Q:=by
 refine jR ?_
 unfold qG
 rw [aL]
 simp
 have x0:Ext h (h++[MO.dK []]):=Ext.app _ _
 have g0:bQ (h++[MO.dK []]) h.length=some (DN (uqP [])):=by
  have:(h++[MO.dK []])[h.length]?=some (.dK []):=aN
  simp [bQ,this,uqP,DN]
 have dl:h.length < (h++[MO.dK []]).length:=by simp
 generalize h++[MO.dK []]=hA at x0 g0 dl
 refine now ?_
 rw [aL]
 obtain ⟨p,hC,eC,os,hB,rfl,rfl,xB,pm,pw⟩:∃ p h',jI eW false 2 (.ref ln) hA=.ok p h'/\∃ (os:List (List St)) (hB:PH),p=.ref hB.length/\h'=hB++[.lst (os.map pl)]/\Ext hA hB/\os.Perm Ps/\os.Pairwise (fun a c=>ltN (rk c) (rk a)=false):=by
  have:=KU (key:=rk) (emb:=pl) (f:=eW) (m:=2) (xs:=Ps) (x:=.ref ln) (h:=hA) (Q:=fun p h'=>∃ (os:List (List St)) (hB:PH),p=.ref hB.length/\h'=hB++[.lst (os.map pl)]/\Ext hA hB/\os.Perm Ps/\os.Pairwise (fun a c=>ltN (rk c) (rk a)=false)) (Fk (x0 _ _ g)) lP (Ux Ps) (fun a _ c _ e=>Qp e)
   (fun d hd h Q k=>by rw [NG d h (hP d hd),xT]; exact k h (Ext.refl h)) fun os h' x p w=>⟨os,h',rfl,rfl,x,p,w⟩
  exact tW this
 have gC:(hB++[MO.lst (os.map pl)])[hB.length]?=some (.lst (os.map pl)):=aN
 have xC:Ext hA (hB++[MO.lst (os.map pl)]):=xB.trans (Ext.app _ _)
 have lo:os.length < 64:=by rw [pm.length_eq]; exact lP
 have bl:hA.length<=hB.length:=xB.len
 refine jQ (n:=hB.length) (xs:=os.map pl) (h1:=hB++[MO.lst (os.map pl)]) (fun r δ h'=>Ext h h'/\h'[hB.length]?=some (.lst (os.map pl))/\bQ h' h.length=some (DN (uqP (os.take r)))/\∃ x2,δ=[some (.ref ln),some (.ref h.length),x2]) (by simp [eC]) gC ⟨x0.trans xC,gC,by
  obtain ⟨o,ho,_,hh⟩:=gP g0
  exact hh _ (xC _ _ ho),_,rfl⟩ (fun q δ h' _ i=>i.2.1) ?_ ?_
 ·rintro r y δ h' hy ⟨x1,gl,g1,x2,rfl⟩
  rw [List.getElem?_map] at hy
  obtain ⟨p,hp,rfl⟩:=Option.map_eq_some_iff.mp hy
  have htk:os.take (r+1)=os.take r++[p]:=by rw [List.take_add_one,hp]; rfl
  refine ⟨[some (.ref ln),some (.ref h.length),some (pl p)],by simp,?_⟩
  obtain ⟨_,_,sl⟩:=Ci (os.take r) [] (by simp)
  have l1:(uqP (os.take r)).length<=os.length:=by
   have:=sl.length_le
   rw [List.nil_append,List.length_take] at this
   exact Nat.le_trans this (by omega)
  have lv:=Nz g1
  rw [show (DN (uqP (os.take r))).length=(uqP (os.take r)).length by simp [DN]] at lv
  obtain ⟨o,ho,di,hh⟩:=gP g1
  have sd:=fun z=>Ia (z:=z) g1 (Bb p) (by simp [DN]; omega)
  have sd:=sd (.int ((uqP (os.take r)).length:Nat))
  rw [show PV.tup (p.map stp)=pl p from rfl,Cg] at sd
  have eu:uqP (os.take (r+1))=gR (uqP (os.take r)) p:=by rw [htk]; simp [uqP,List.foldl_append]
  unfold rP
  by_cases hm:p∈uqP (os.take r)
  ·rw [if_pos hm] at sd
   simp [di,lv,sd]
   refine ⟨x1,gl,?_⟩
   rw [eu]
   unfold gR
   rw [if_pos hm]
   exact g1
  ·rw [if_neg hm] at sd
   dsimp only at sd
   rw [Qo hm] at sd
   simp [di,lv,sd]
   refine ⟨x1.setN (Nat.le_refl _),?_,?_⟩
   ·rw [List.getElem?_set_ne (by omega)]; exact gl
   ·rw [eu]
    unfold gR
    rw [if_neg hm]
    exact Cf g1
 ·rintro δ h' ⟨x1,_,g1,x2,rfl⟩
  rw [List.length_map,List.take_length] at g1
  refine now ?_
  simp
  obtain ⟨nd,mm,sl⟩:=Ci os [] (by simp)
  have mm:∀ p∈Ps,p∈uqP os:=fun p hp=>(mm p).mpr (.inr (pm.mem_iff.mpr hp))
  have pw2:(uqP os).Pairwise fun a b=>bef b a=false:=(pw.imp fun {a c} e=>by rw [Qq] at e; exact e).sublist (by rw [List.nil_append] at sl; exact sl)
  exact k (fun p=>((uqP os).idxOf p:Nat)) _ _ h' x1 (Nat.le_refl _) g1 (fun p hp=>by rw [Cg,if_pos (mm p hp)]) fun p hp q hq=>Qr nd pw2 (mm p hp) (mm q hq)
def nsp (nu:List St->Int) (s:List St×List St):Int×Int:=(nu s.1,nu s.2)
def jV (p:List St) (S:List Mrk):List Str:=(S.filter (brs p)).map (·.w)
def ysV (y:Mrk×Nat):PV:=.tup [.str y.1.w,.ref y.2]
def Uy (nu:List St->Int) (lm:Nat) (h:PH) (S:List Mrk) (ys:List (Mrk×Nat)):Prop:=ys.map (·.1)=S/\∀ y∈ys,y.2≠lm/\h[y.2]?=some (.lst (((spn y.1).map (nsp nu)).map prI))
theorem Le {U:List (List St)} {nu:List St->Int} {kvs:List (PV×PV)} {d:Nat} (hU:∀ p∈U,bU kvs (pl p)=some (.int (nu p))) (m:Mrk) (hm:∀ s∈spn m,s.1∈U/\s.2∈U) (hz:m.hs.length<=1000) {h:PH} (gd:bQ h d=some kvs) (a b c e2 f g2:Option PV) (Q:PV->PH->Prop)
  (k:∀ n h',Ext h h'->h.length<=n->h'[n]?=some (.lst (((spn m).map (nsp nu)).map prI))->Q (.ref n) h'):
  (cN [none,none,some 2] (bB (cB 1 bS (aB (mV 4) aH))) (gTp 2 (gCn (gN 0) (gCn (gN 1) gNl))) qZ (bV (aB (aD vAt (mV 2) (mV 0)) (aB (aD vAt (mV 2) (mV 1)) aH))) [a,b,some (.ref d),c,some (mkV m),e2,f,g2] h).W Q:=by
 obtain ⟨p,hA,eA,n,rfl,xA,nA,gA⟩:∃ p h',bS [mkV m] h=.ok p h'/\∃ n,p=.ref n/\Ext h h'/\h.length<=n/\h'[n]?=some (.lst ((spn m).map sp)):=by
  have:=DQ m hz h (fun p h'=>∃ n,p=.ref n/\Ext h h'/\h.length<=n/\h'[n]?=some (.lst ((spn m).map sp))) fun n h' x b g=>⟨n,rfl,x,b,g⟩
  exact tW this
 have hc:=nK (m:=cB 1 bS (aB (mV 4) aH)) (n:=n) (js:=[none,none,some 2]) (tg:=gTp 2 (gCn (gN 0) (gCn (gN 1) gNl))) (tst:=qZ) (elt:=bV (aB (aD vAt (mV 2) (mV 0)) (aB (aD vAt (mV 2) (mV 1)) aH))) (δ:=[a,b,some (.ref d),c,some (mkV m),e2,f,g2]) (h:=h) (h1:=hA) (ys:=spn m) (emb:=sp)
  (fun s=>some (prI (nsp nu s))) (by simp [eA]) gA (by simp [spn]; omega) (fun s hs=>⟨[some (pl s.1),some (pl s.2),some (.ref d)],by simp [iG,sp],fun h' x'=>by
   refine ⟨rfl,?_⟩
   obtain ⟨o,ho,_,hh⟩:=gP gd
   have gd':=hh _ (x' _ _ (xA _ _ ho))
   have a1:vAt (.ref d) (pl s.1) h'=.ok (.int (nu s.1)) h':=Ld gd' (Bb _) (hU _ (hm s hs).1)
   have a2:vAt (.ref d) (pl s.2) h'=.ok (.int (nu s.2)) h':=Ld gd' (Bb _) (hU _ (hm s hs).2)
   simp [a1,a2,prI,nsp]⟩)
 have em:(spn m).filterMap (fun s=>some (prI (nsp nu s)))=((spn m).map (nsp nu)).map prI:=by
  rw [List.map_map]
  exact List.filterMap_eq_map (f:=fun s=>prI (nsp nu s)) ▸ rfl
 rw [em] at hc
 rw [hc,xT]
 exact k _ _ (xA.trans (Ext.app _ _)) xA.len aN
theorem Iu {U:List (List St)} {nu:List St->Int} (hn:∀ p∈U,∀ q∈U,decide (nu p<=nu q)=!bef q p) {m:Mrk} (hm:∀ s∈spn m,s.1∈U/\s.2∈U) {p:List St} (hp:p∈U):(inI (nu p) (nsp nu (m.f,m.l)) && !(m.hs.map (nsp nu)).any (inI (nu p)))=brs p m:=by
 have one:∀ s∈spn m,inI (nu p) (nsp nu s)=inB p s:=fun s hs=>by
  unfold inI nsp inB
  rw [hn _ (hm s hs).1 _ hp,hn _ hp _ (hm s hs).2]
 unfold brs
 rw [one _ List.mem_cons_self,List.any_map]
 congr 2
 rw [Bool.eq_iff_iff,List.any_eq_true,List.any_eq_true]
 constructor
 ·rintro ⟨s,hs,e⟩
  exact ⟨s,hs,by rw [<- one s (List.mem_cons_of_mem _ hs)]; exact e⟩
 ·rintro ⟨s,hs,e⟩
  exact ⟨s,hs,by show inI _ _=_; rw [one s (List.mem_cons_of_mem _ hs)]; exact e⟩
theorem lk0 {mm:Str} {v:PV} (h:(mm == ("standing" : Str))=false):[(("standing" : Str),v)].lookup mm=none:=by simp [List.lookup,h]
theorem yR {h:PH} {lm ls:Nat} {S:List Mrk} {tb:Str->Option Fn} {f:Fn} (t:cE h lm ls S) {mm:Str} {n:Nat} {ms:Ma} (htb:tb "Marks" = some f) (hmm:(mm == ("standing" : Str))=false) {δ:Ev} {mo:Me} (h0:mo δ h=.ok (.ref lm) h):dE mm n tb mo ms δ h=(ms δ h).bind fun ps h2=>if ps.length=n then f (.ref lm :: ps) h2 else .bad:=
 KL h0 t.1 htb (lk0 hmm)
theorem Lf {S:List Mrk} {U:List (List St)} (hU:∀ s∈spS S,s.1∈U/\s.2∈U) (lU:U.length<=60) (lp:∀ p∈U,p.length<=1000) (hz:∀ m∈S,m.hs.length<=1000) (lS:S.length < 64) {p:List St} (hp:p.length<=1000) {h:PH} {lm ls l1:Nat} (t:cE h lm ls S) (g1:h[l1]?=some (.lst [pl p])) (Q:PV->PH->Prop)
  (k:∀ n n2 h',Ext h h'->h.length<=n2->h'[n]?=some (.lst [.ref n2])->h'[n2]?=some (.lst ((cL (ddT (jV p S))).map PV.str))->Q (.ref n) h'):(aY [.ref lm,.ref l1] h).W Q:=by
 refine jR ?_
 unfold dY
 rw [aL,show List.map some [PV.ref lm,PV.ref l1]++List.replicate (8 - [PV.ref lm,PV.ref l1].length) none=[some (.ref lm),some (.ref l1),none,none,none,none,none,none] from rfl]
 -- the ends
 obtain ⟨q,hA,eA,le,rfl,xA,nA,gA⟩:∃ q h',cR [.ref lm] h=.ok q h'/\∃ n,q=.ref n/\Ext h h'/\h.length<=n/\h'[n]?=some (.lst ((EN (spS S)).map pl)):=by
  have:=NJ hU (by omega) hz t (fun q h'=>∃ n,q=.ref n/\Ext h h'/\h.length<=n/\h'[n]?=some (.lst ((EN (spS S)).map pl))) fun n h' x b g=>⟨n,rfl,x,b,g⟩
  exact tW this
 have me:dE "ends" 0 bW (mV 0) aH [some (.ref lm),some (.ref l1),none,none,none,none,none,none] h=.ok (.ref le) hA:=by
  rw [yR t (f:=cR) (by simp [bW]) (by decide) (by simp)]
  simp [eA]
 have lE:=Lc hU
 have vp:=B4 (xA _ _ g1) gA (by simp; omega)
 rw [show [pl p]++(EN (spS S)).map pl=(p :: EN (spS S)).map pl from rfl] at vp
 have gB:(hA++[MO.lst ((p :: EN (spS S)).map pl)])[hA.length]?=some (.lst ((p :: EN (spS S)).map pl)):=aN
 have xB:Ext h (hA++[MO.lst ((p :: EN (spS S)).map pl)]):=xA.trans (Ext.app _ _)
 generalize hA++[MO.lst ((p :: EN (spS S)).map pl)]=hB at vp gB xB
 generalize hA.length=lb at vp gB
 have hEU:∀ q∈EN (spS S),q∈U:=fun q hq=>by
  obtain ⟨s,hs,e⟩:=Ce.mp hq
  rcases e with rfl | rfl
  ·exact (hU s hs).1
  ·exact (hU s hs).2
 simp [me,vp]
 refine DS (Ps:=p :: EN (spS S)) (by simp; omega) (fun q hq=>by
  rcases List.mem_cons.mp hq with rfl | hq
  ·exact hp
  ·exact lp q (hEU q hq)) gB _ fun nu kvs d hC xC nC gd look le'=>?_
 have xC:Ext h hC:=xB.trans xC
 have bC:h.length<=d:=Nat.le_trans xB.len nC
 have hm:∀ m∈S,∀ s∈spn m,s.1∈p :: EN (spS S)/\s.2∈p :: EN (spS S):=fun m hm s hs=>by
  have:s∈spS S:=List.mem_flatMap.mpr ⟨m,hm,hs⟩
  exact ⟨List.mem_cons_of_mem _ (Ce.mpr ⟨s,this,.inl rfl⟩),List.mem_cons_of_mem _ (Ce.mpr ⟨s,this,.inr rfl⟩)⟩
 clear me vp gA gB xB eA
 -- the marks by number
 refine now ?_
 rw [aL]
 simp
 have xD:Ext h (hC++[MO.lst []]):=xC.trans (Ext.app _ _)
 have gD:(hC++[MO.lst []])[hC.length]?=some (.lst (([]:List (Mrk×Nat)).map ysV)):=aN
 have gdD:bQ (hC++[MO.lst []]) d=some kvs:=by
  obtain ⟨o,ho,_,hh⟩:=gP gd
  exact hh _ (Ext.app _ _ _ _ ho)
 have dC:d < hC.length:=by
  obtain ⟨o,ho,_,hh⟩:=gP gd
  exact (List.getElem?_eq_some_iff.mp ho).1
 have lC:h.length<=hC.length:=xC.len
 have lD:hC.length < (hC++[MO.lst []]).length:=by simp
 generalize hC++[MO.lst []]=hD at xD gD gdD lD
 generalize hC.length=lk at gD dC lC lD
 clear xC gd
 refine now ?_
 rw [aL]
 refine jQ (n:=ls) (xs:=S.map mkV) (h1:=hD) (fun q δ h'=>Ext h h'/\lk < h'.length/\bQ h' d=some kvs/\(∃ ys:List (Mrk×Nat),h'[lk]?=some (.lst (ys.map ysV))/\Uy nu lk h' (S.take q) ys)/\∃ x4,δ=[some (.ref lm),some (.ref l1),some (.ref d),some (.ref lk),x4,none,none,none]) (by simp [(t.ext xD).fm]) (t.ext xD).2 ⟨xD,lD,gdD,⟨[],gD,rfl,fun y hy=>by simp at hy⟩,_,rfl⟩ (fun q δ h' _ i=>(t.ext i.1).2) ?_ ?_
 ·rintro q y δ h' hy ⟨x1,l1',g2,⟨ys,gy,ey,oy⟩,x4,rfl⟩
  rw [List.getElem?_map] at hy
  obtain ⟨m,hmq,rfl⟩:=Option.map_eq_some_iff.mp hy
  have hmS:=List.mem_of_getElem? hmq
  have htk:S.take (q+1)=S.take q++[m]:=by rw [List.take_add_one,hmq]; rfl
  refine ⟨[some (.ref lm),some (.ref l1),some (.ref d),some (.ref lk),some (mkV m),none,none,none],by simp,?_⟩
  unfold fH
  have a3:∀ h,vIx (mkV m) (.int 3) h=.ok (.str m.w) h:=fun h=>by unfold mkV; simp
  have il:=eM gy
  have ly:ys.length<=S.length:=by
   have:=congrArg List.length ey
   rw [List.length_map,List.length_take] at this
   omega
  obtain ⟨z,hE,eE,n,rfl,xE,nE,gE⟩:∃ z hE,cN [none,none,some 2] (bB (cB 1 bS (aB (mV 4) aH))) (gTp 2 (gCn (gN 0) (gCn (gN 1) gNl))) qZ (bV (aB (aD vAt (mV 2) (mV 0)) (aB (aD vAt (mV 2) (mV 1)) aH))) [some (.ref lm),some (.ref l1),some (.ref d),some (.ref lk),some (mkV m),none,none,none] h'=.ok z hE/\∃ n,z=.ref n/\Ext h' hE/\h'.length<=n/\hE[n]?=some (.lst (((spn m).map (nsp nu)).map prI)):=by
   have:=Le look m (hm m hmS) (hz m hmS) g2 (some (.ref lm)) (some (.ref l1)) (some (.ref lk)) none none none (fun z hE=>∃ n,z=.ref n/\Ext h' hE/\h'.length<=n/\hE[n]?=some (.lst (((spn m).map (nsp nu)).map prI))) fun n h2 x b g=>⟨n,rfl,x,b,g⟩
   exact tW this
  have gy':=xE _ _ gy
  have ap:=cD (p:=ysV (m,n)) gy' (by rw [List.length_map]; omega)
  have s1:=dX (o':=MO.lst (ys.map ysV++[ysV (m,n)])) gy'
  have k1:∀ (n':Nat) o,n'≠lk->hE[n']?=some o->(hE.set lk (.lst (ys.map ysV++[ysV (m,n)])))[n']?=some o:=fun n' o hn ho=>by rw [List.getElem?_set_ne (Ne.symm hn)]; exact ho
  have xF:Ext h (hE.set lk (.lst (ys.map ysV++[ysV (m,n)]))):=(x1.trans xE).setN lC
  have lF:lk < (hE.set lk (.lst (ys.map ysV++[ysV (m,n)]))).length:=by rw [List.length_set]; exact Nat.lt_of_lt_of_le l1' xE.len
  have gdF:bQ (hE.set lk (.lst (ys.map ysV++[ysV (m,n)]))) d=some kvs:=by
   obtain ⟨o,ho,_,hh⟩:=gP g2
   exact hh _ (k1 _ _ (by omega) (xE _ _ ho))
  generalize hE.set lk (.lst (ys.map ysV++[ysV (m,n)]))=hF at ap s1 k1 xF lF gdF
  have ap':onL bA (.ref lk) [.tup [.str m.w,.ref n]] hE=.ok .non hF:=ap
  simp [il,a3,eE,ap']
  refine ⟨xF,lF,gdF,ys++[(m,n)],by rw [List.map_append]; exact s1,by rw [List.map_append,ey,htk]; rfl,fun y hy=>?_⟩
  rcases List.mem_append.mp hy with z | z
  ·obtain ⟨y1,y2⟩:=oy y z
   exact ⟨y1,k1 _ _ y1 (xE _ _ y2)⟩
  ·simp at z
   subst z
   exact ⟨by omega,k1 _ _ (by omega) gE⟩
 ·rintro δ h1 ⟨x1,l1',g2,⟨ys,gy,ey,oy⟩,x4,rfl⟩
  rw [List.length_map,List.take_length] at ey
  -- the words
  refine now ?_
  rw [aL]
  simp
  have xG:Ext h1 (h1++[MO.lst []]):=Ext.app _ _
  have gw:(h1++[MO.lst []])[h1.length]?=some (.lst []):=aN
  generalize h1++[MO.lst []]=hG at xG gw
  have lw:h.length<=h1.length/\lk < h1.length:=⟨x1.len,l1'⟩
  generalize h1.length=lw' at gw lw
  have xGh:=x1.trans xG
  have gdG:bQ hG d=some kvs:=by
   obtain ⟨o,ho,_,hh⟩:=gP g2
   exact hh _ (xG _ _ ho)
  refine now ?_
  rw [aL]
  refine jQ (n:=l1) (xs:=[pl p]) (h1:=hG) (fun q δ h'=>h'[l1]?=some (.lst [pl p])/\(q=0->h'=hG)/\(q=1->∃ n2,Ext h h'/\h.length<=n2/\h'[lw']?=some (.lst [.ref n2])/\h'[n2]?=some (.lst ((cL (ddT (jV p S))).map PV.str)))/\∃ x6 x7,δ=[some (.ref lm),some (.ref l1),some (.ref d),some (.ref lk),x4,some (.ref lw'),x6,x7]) (by simp) (xGh _ _ g1) ⟨xGh _ _ g1,fun _=>rfl,by omega,_,_,rfl⟩ (fun q δ h' _ i=>i.1) ?_ ?_
  ·rintro q y δ h' hy ⟨gl,e0,_,x6,x7,rfl⟩
   have hq:q=0:=by
    have:=(List.getElem?_eq_some_iff.mp hy).1
    simpa using this
   subst hq
   have e0:=e0 rfl
   subst e0
   simp at hy
   subst hy
   refine ⟨[some (.ref lm),some (.ref l1),some (.ref d),some (.ref lk),x4,some (.ref lw'),some (pl p),x7],by simp,?_⟩
   have an:vAt (.ref d) (pl p) h'=.ok (.int (nu p)) h':=Ld gdG (Bb _) (look p List.mem_cons_self)
   unfold fI
   rw [aL]
   simp [an]
   refine now ?_
   have il:=eM gw
   have gyG:=xG _ _ gy
   have wc:(cN [none,none,some 7] (bB (mV 3)) (gTp 2 (gCn (gN 0) (gCn (gN 1) gNl))) (bL (cB 2 oW (aB (mV 1) (aB (mV 2) aH)))) (mV 0) [some (.ref lm),some (.ref l1),some (.ref d),some (.ref lk),x4,some (.ref lw'),some (pl p),some (.int (nu p))] h').W fun z hE=>∃ n,z=.ref n/\Ext h' hE/\h'.length<=n/\hE[n]?=some (.lst ((jV p S).map PV.str)):=by
    refine GO (h1:=h') (ys:=ys) (emb:=ysV) (g:=A2 lk (ys.map ysV)) (fun y=>brs p y.1) (fun y=>.str y.1.w) (rE (by simp) gyG) (rF gyG) (by
     have:=congrArg List.length ey
     rw [List.length_map] at this
     omega) (fun y hy=>?_) fun l h2 x b g=>⟨l,rfl,x,b,?_⟩
    ·have hyS:y.1∈S:=by rw [<- ey]; exact List.mem_map_of_mem hy
     refine ⟨[some (.str y.1.w),some (.ref y.2),some (.int (nu p))],by simp [iG,ysV],fun h2 x2 Q k2=>?_,fun h2 x2=>by simp⟩
     have gr:=x2 _ _ (xG _ _ (oy y hy).2)
     have gr':h2[y.2]?=some (.lst ((nsp nu (y.1.f,y.1.l) :: y.1.hs.map (nsp nu)).map prI)):=gr
     have hb:=Iu (U:=p :: EN (spS S)) (nu:=nu) le' (hm _ hyS) (List.mem_cons_self (a:=p) (l:=EN (spS S)))
     simp
     refine La gr' (nu p) (by rw [List.length_map]; exact hz _ hyS) _ fun h3 x3=>?_
     rw [hb]
     cases eb:brs p y.1 with
     | true=>have:=k2 h3 x3; rw [eb] at this; simpa using this
     | false=>have:=k2 h3 x3; rw [eb] at this; simpa using this
    ·rw [g]
     congr 2
     unfold jV
     rw [<- ey,List.filter_map,List.map_map,List.map_map]
     rfl
   obtain ⟨z,hE,eE,n,rfl,xE,nE,gE⟩:=tW wc
   have lws:(jV p S).length < 64:=by
    unfold jV
    rw [List.length_map]
    have:=List.length_filter_le (brs p) S
    omega
   have so:=DF gE lws
   have gS:(hE++[MO.lst ((cL (ddT (jV p S))).map PV.str)])[hE.length]?=some (.lst ((cL (ddT (jV p S))).map PV.str)):=aN
   have xS:Ext hE (hE++[MO.lst ((cL (ddT (jV p S))).map PV.str)]):=Ext.app _ _
   generalize hE++[MO.lst ((cL (ddT (jV p S))).map PV.str)]=hS at so gS xS
   have lEw:lw' < hE.length:=Nat.lt_of_lt_of_le (List.getElem?_eq_some_iff.mp gw).1 xE.len
   have lEl:l1 < hE.length:=Nat.lt_of_lt_of_le (List.getElem?_eq_some_iff.mp gl).1 xE.len
   have gw2:=xS _ _ (xE _ _ gw)
   have ap:=cD (p:=PV.ref hE.length) gw2 (by simp)
   have hl1:l1 < h.length:=(List.getElem?_eq_some_iff.mp g1).1
   simp [il,eE,so,ap]
   refine ⟨?_,((xGh.trans xE).trans xS).setN lw.1,hE.length,Nat.le_trans xGh.len (Nat.le_trans xE.len (Nat.le_refl _)),?_,?_⟩
   ·rw [List.getElem?_set_ne (by omega)]; exact xS _ _ (xE _ _ gl)
   ·rw [dX gw2]
   ·rw [List.getElem?_set_ne (by omega)]; exact gS
  ·rintro δ h' ⟨_,_,e1,x6,x7,rfl⟩
   obtain ⟨n2,x,b,g,g'⟩:=e1 rfl
   refine now ?_
   simp
   exact k lw' n2 h' x b g g'
theorem Lg {S:List Mrk} {U:List (List St)} (hU:∀ s∈spS S,s.1∈U/\s.2∈U) (lU:U.length<=60) (lp:∀ p∈U,p.length<=1000) (hz:∀ m∈S,m.hs.length<=1000) (lS:S.length < 64) {p:List St} (hp:p.length<=1000) {h:PH} {lm ls:Nat} (t:cE h lm ls S) (Q:PV->PH->Prop)
  (k:∀ n h',Ext h h'->h.length<=n->h'[n]?=some (.lst ((cL (ddT (jV p S))).map PV.str))->Q (.ref n) h'):(bN [.ref lm,pl p] h).W Q:=by
 refine jR ?_
 unfold fN
 have x1:Ext h (h++[MO.lst [pl p]]):=Ext.app _ _
 have g1:(h++[MO.lst [pl p]])[h.length]?=some (.lst [pl p]):=aN
 rw [show List.map some [PV.ref lm,pl p]++List.replicate (2 - [PV.ref lm,pl p].length) none=[some (.ref lm),some (pl p)] from rfl]
 have me:dE "words_along" 1 cJ (mV 0) (aB (iP (aB (mV 1) aH)) aH) [some (.ref lm),some (pl p)] h=aY [.ref lm,.ref h.length] (h++[MO.lst [pl p]]):=by
  rw [yR t (f:=aY) (by simp [cJ]) (by decide) (by simp)]
  simp
 simp only [K',Gs,me,xU]
 generalize h++[MO.lst [pl p]]=hA at x1 g1
 refine Lf hU lU lp hz lS hp (t.ext x1) g1 _ fun n n2 h2 x2 b g g'=>?_
 have v0:vIx (.ref n) (.int 0) h2=.ok (.ref n2) h2:=by rw [dJ g]; simp
 simp [v0]
 exact k n2 h2 (x1.trans x2) (Nat.le_trans x1.len b) g'
theorem NK {δ:Ev} {h h1:PH} {js:List (Option Nat)} {tg:Mg} {elt:Me} {g:PH->Bool} {α:Type} {mi:Mi} {ys:List α} {emb:α->PV} {Q:PV->PH->Prop} (F:α->Nat->PV) (G:α->MO) (e:mi δ h=.ok ⟨ys.map emb,g⟩ h1) (hg:∀ h,Ext h1 h->g h=true) (hz:ys.length<=16777216)
  (step:∀ y∈ys,∃ δ1,tg (emb y) (iG js δ)=some δ1/\∀ h,Ext h1 h->∃ n h',elt δ1 h=.ok (F y n) h'/\Ext h h'/\h.length<=n/\h'[n]?=some (G y))
  (k:∀ l h' (zs:List (α×Nat)),Ext h1 h'->h1.length<=l->zs.map (·.1)=ys->h'[l]?=some (.lst (zs.map fun z=>F z.1 z.2))->(∀ z∈zs,l < z.2/\h'[z.2]?=some (G z.1))->Q (.ref l) h'):(cN js mi tg qZ elt δ h).W Q:=by
 unfold cN
 rw [e,Rs.bind_ok]
 refine vQ (fun i h'=>Ext h1 h'/\∃ zs:List (α×Nat),zs.map (·.1)=ys.take i/\h'[h1.length]?=some (.lst (zs.map fun z=>F z.1 z.2))/\∀ z∈zs,h1.length < z.2/\h'[z.2]?=some (G z.1)) (ys.map emb) 0 _ ⟨Ext.app _ _,[],by simp,by simp,fun z hz=>by simp at hz⟩ (fun i x h' _ hx hi=>?_) (fun h' hi=>?_)
 ·obtain ⟨x1,zs,ez,g1,oz⟩:=hi
  have hx:(ys.map emb)[i]?=some x:=by simpa using hx
  rw [List.getElem?_map] at hx
  obtain ⟨y,hy,rfl⟩:=Option.map_eq_some_iff.mp hx
  have hil:=(List.getElem?_eq_some_iff.mp hy).1
  obtain ⟨δ1,ht,hs⟩:=step y (List.mem_of_getElem? hy)
  have htk:ys.take (i+1)=ys.take i++[y]:=by rw [List.take_add_one,hy]; rfl
  refine ⟨hg _ x1,δ1,ht,?_⟩
  have hY:qZ δ1 h'=.ok true h':=rfl
  rw [hY,xT,if_pos rfl]
  obtain ⟨n,h2,e2,x2,ln,gn⟩:=hs h' x1
  have lz:zs.length<=i:=by
   have:=congrArg List.length ez
   rw [List.length_map,List.length_take] at this
   omega
  have l1:h1.length < h'.length:=(List.getElem?_eq_some_iff.mp g1).1
  rw [e2,xT]
  refine ⟨_,x2 _ _ g1,by rw [List.length_map]; omega,(x1.trans x2).setN (Nat.le_refl _),zs++[(y,n)],by rw [List.map_append,ez,htk]; rfl,by rw [dX (x2 _ _ g1),List.map_append]; rfl,fun z hz=>?_⟩
  rcases List.mem_append.mp hz with q | q
  ·obtain ⟨a,b⟩:=oz z q
   exact ⟨a,by rw [List.getElem?_set_ne (by omega)]; exact x2 _ _ b⟩
  ·simp at q
   subst q
   exact ⟨by omega,by rw [List.getElem?_set_ne (by omega)]; exact gn⟩
 ·obtain ⟨x1,zs,ez,g1,oz⟩:=hi
  rw [Nat.zero_add,List.length_map,List.take_length] at ez
  exact ⟨hg _ x1,k _ _ zs x1 (Nat.le_refl _) ez g1 oz⟩
def rwV (z:Mrk×Nat):PV:=.tup [pv z.1.nm,pl z.1.f,pl z.1.l,.str z.1.w,.ref z.2]
def nU (h:PH) (l:Nat) (S:List Mrk) (zs:List (Mrk×Nat)):Prop:=zs.map (·.1)=S/\h[l]?=some (.lst (zs.map rwV))/\∀ z∈zs,h[z.2]?=some (.lst (z.1.hs.map sp))
theorem GQ {S:List Mrk} (lS:S.length < 64) {h:PH} {lm ls:Nat} (t:cE h lm ls S) (Q:PV->PH->Prop)
  (k:∀ l h' zs,Ext h h'->h.length<=l->nU h' l S zs->(∀ z∈zs,l < z.2)->Q (.ref l) h'):(bP [.ref lm] h).W Q:=by
 refine jR ?_
 unfold lT
 rw [show List.map some [PV.ref lm]++List.replicate (1 - [PV.ref lm].length) none=[some (.ref lm)] from rfl,K']
 refine NK (h1:=h) (ys:=S) (emb:=mkV) (g:=A2 ls (S.map mkV)) (fun m n=>rwV (m,n)) (fun m=>.lst (m.hs.map sp)) (rE (by simp [t.fm]) t.2) (rF t.2) (by omega) (fun m hm=>⟨[some (mkV m)],by simp [iG],fun h2 x2=>?_⟩) fun l h2 zs x b ez g oz=>k l h2 zs x b ⟨ez,g,fun z hz=>(oz z hz).2⟩ fun z hz=>(oz z hz).1
 have a4:vIx (mkV m) (.int 4) h2=.ok (.tup (m.hs.map sp)) h2:=by unfold mkV; simp
 have lv:iH [.tup (m.hs.map sp)] h2=.ok (.ref h2.length) (h2++[.lst (m.hs.map sp)]):=rfl
 have sl:vSl (mkV m) none (some 4) h2=.ok (.tup [pv m.nm,pl m.f,pl m.l,.str m.w]) h2:=by
  unfold mkV
  rw [Gy]
  congr 2
 refine ⟨h2.length,h2++[.lst (m.hs.map sp)],?_,Ext.app _ _,Nat.le_refl _,aN⟩
 simp [sl,a4,lv,rwV]
theorem NL {z:Mrk×Nat} {y:PV} {h:PH}:jP (rwV z) y h=none:=by
 unfold jP
 have e1:(rwV z).d=none:=by simp [rwV,PV.d,PV.ds,pv,pl]
 rw [e1]
 simp [rwV,eI]
theorem vV {x:PV} {h:PH} (hx:x.pl 40=true):eqF 1 x x h=some true:=by
 unfold eqF
 rw [BU hx hx]
 simp
theorem NM {z u:Mrk×Nat} {h:PH} (e:z.1=u.1) (g1:h[z.2]?=some (.lst (z.1.hs.map sp))) (g2:h[u.2]?=some (.lst (u.1.hs.map sp))):eqF 2 (rwV z) (rwV u) h=some true:=by
 have e5:eqF 1 (.ref z.2) (.ref u.2) h=some true:=by
  have hp:∀ m:Mrk,(m.hs.map sp).all (PV.pl 39)=true:=fun m=>by
   rw [List.all_map]
   refine List.all_eq_true.mpr fun s _=>?_
   show [pl s.1,pl s.2].all (PV.pl 38)=true
   have q:∀ xs:List St,(pl xs).pl 38=true:=fun xs=>by
    show (xs.map stp).all (PV.pl 37)=true
    rw [List.all_map]
    exact List.all_eq_true.mpr fun y _=>rfl
   simp [q]
  unfold eqF
  rw [rB g1 g2 (hp _) (hp _),e]
  simp
 unfold eqF
 rw [NL]
 unfold rwV
 rw [<- e]
 simp only [eqL,vV (x:=pv z.1.nm) rfl,vV (GK z.1.f),vV (GK z.1.l),vV (x:=.str z.1.w) rfl,e5]
 rfl
theorem Iv {h:PH} {a b:Nat} {S:List Mrk} {zs us:List (Mrk×Nat)} (r:nU h a S zs) (r':nU h b S us):eqF 3 (.ref a) (.ref b) h=some true:=by
 obtain ⟨e1,g1,o1⟩:=r
 obtain ⟨e2,g2,o2⟩:=r'
 have e12:=e1.trans e2.symm
 have all:∀ (zs us:List (Mrk×Nat)),zs.map (·.1)=us.map (·.1)->(∀ z∈zs,h[z.2]?=some (.lst (z.1.hs.map sp)))->(∀ z∈us,h[z.2]?=some (.lst (z.1.hs.map sp)))->eqL (fun a b=>eqF 2 a b h) (zs.map rwV) (us.map rwV)=some true:=by
  intro zs
  induction zs with
  | nil=>intro us e _ _; cases us with
   | nil=>rfl
   | cons _ _=>simp at e
  | cons z zs ih=>intro us e p q; cases us with
   | nil=>simp at e
   | cons u us=>
    simp only [List.map_cons,List.cons.injEq] at e
    simp only [List.map_cons,eqL,NM e.1 (p z List.mem_cons_self) (q u List.mem_cons_self),ih us e.2 (fun y hy=>p y (List.mem_cons_of_mem _ hy)) (fun y hy=>q y (List.mem_cons_of_mem _ hy))]
    rfl
 unfold eqF
 cases zs with
 | nil=>
  cases us with
  | nil=>rw [rB g1 g2 rfl rfl]; rfl
  | cons _ _=>simp at e12
 | cons z zs=>
  have n2:jP (.ref a) (.ref b) h=none:=by
   unfold jP
   have q1:eI (.ref a) h=some ((z :: zs).map rwV):=by simp [eI,aS,g1]
   have q2:eI (.ref b) h=some (us.map rwV):=by simp [eI,aS,g2]
   have q3:PV.ds ((z :: zs).map rwV)=none:=by simp [PV.ds,rwV,PV.d,pv,pl]
   simp only [PV.d,q1,q2,q3]
  rw [n2]
  have q1:eI (.ref a) h=some ((z :: zs).map rwV):=by simp [eI,aS,g1]
  have q2:eI (.ref b) h=some (us.map rwV):=by simp [eI,aS,g2]
  simp only [q1,q2]
  exact all _ _ e12 o1 o2
theorem GR {h:PH} {a b:Nat} {S:List Mrk} {zs us:List (Mrk×Nat)} (r:nU h a S zs) (r':nU h b S us):KZ (.ref a) (.ref b) h=.ok (.bl false) h/\KY (.ref a) (.ref b) h=.ok (.bl true) h:=by
 unfold KZ KY
 rw [Iv r r']
 exact ⟨rfl,rfl⟩
theorem Qs (p:Str×Int):(pv p).pl 39=true:=rfl
theorem NN {p q:Str×Int} (h:pv p=pv q):p=q:=by
 obtain ⟨a,b⟩:=p
 obtain ⟨c,d⟩:=q
 simp [pv] at h
 simp [h]
theorem NO {S:List Mrk} (lS:S.length < 64) {h:PH} {lm ls:Nat} (t:cE h lm ls S) (nm:Str×Int) (sn th:PV) (f l:List St) (w:Str) (fr:∀ m∈S,m.nm≠nm) (Q:PV->PH->Prop)
  (k:∀ h',cE h' lm ls (S++[⟨nm,f,l,w,[]⟩])->(∀ n o,n≠ls->h[n]?=some o->h'[n]?=some o)->Q .non h'):(cQ [.ref lm,.tup [pv nm,sn,.tup [.str "mark",th,pl f,pl l,.str w]]] h).W Q:=by
 refine jR ?_
 unfold lW
 have hc:=nK (m:=mUn (tZ "standing") (mV 0)) (n:=ls) (js:=[none]) (tg:=gN 0) (tst:=qZ) (elt:=aD vAt (mV 0) (mC (.int 0))) (δ:=[some (.ref lm),some (.tup [pv nm,sn,.tup [.str "mark",th,pl f,pl l,.str w]]),some (pv nm),some sn,some (.tup [.str "mark",th,pl f,pl l,.str w])]) (h:=h) (h1:=h) (ys:=S) (emb:=mkV)
  (fun m=>some (pv m.nm)) (by simp [t.fm]) t.2 (by omega) (fun m hm=>⟨[some (mkV m)],by simp [iG],fun h' x'=>⟨rfl,by simp [mkV]⟩⟩)
 have em:S.filterMap (fun m=>some (pv m.nm))=S.map fun m=>pv m.nm:=List.filterMap_eq_map (f:=fun m:Mrk=>pv m.nm) ▸ rfl
 rw [em] at hc
 rw [aL]
 simp
 refine now ?_
 have g1:(h++[MO.lst (S.map fun m=>pv m.nm)])[h.length]?=some (.lst (S.map fun m=>pv m.nm)):=aN
 have x1:Ext h (h++[MO.lst (S.map fun m=>pv m.nm)]):=Ext.app _ _
 generalize h++[MO.lst (S.map fun m=>pv m.nm)]=hA at hc g1 x1
 have hn:jH (pv nm) (.ref h.length) hA=.ok (.bl true) hA:=by
  rw [uX g1,xV g1 (Qs nm) (by rw [List.all_map]; exact List.all_eq_true.mpr fun y _=>rfl)]
  congr 2
  have:pv nm∉S.map fun m=>pv m.nm:=fun z=>by
   obtain ⟨m,hm,e⟩:=List.mem_map.mp z
   exact fr m hm (NN e)
  simp [this]
 have tA:=t.ext x1
 have ap:=cD (p:=mkV ⟨nm,f,l,w,[]⟩) tA.2 (by rw [List.length_map]; omega)
 have s1:=dX (o':=MO.lst (S.map mkV++[mkV ⟨nm,f,l,w,[]⟩])) tA.2
 have il:=eM tA.2
 have ap':onL bA (.ref ls) [.tup [pv nm,pl f,pl l,.str w,.tup []]] hA=.ok .non (hA.set ls (.lst (S.map mkV++[mkV ⟨nm,f,l,w,[]⟩]))):=ap
 have ne:lm≠ls:=fun z=>by
  have a:=t.1
  rw [z,t.2] at a
  cases a
 rw [iA]
 simp [hc,hn,tA.fm,il,ap']
 refine k _ ⟨?_,?_⟩ fun n o hn ho=>?_
 ·rw [List.getElem?_set_ne (Ne.symm ne)]; exact tA.1
 ·rw [s1,List.map_append]; rfl
 ·rw [List.getElem?_set_ne (Ne.symm hn)]; exact x1 _ _ ho
theorem NP {n:Nat} {h:PH} (g:h[n]?=some (.ins "Marks" [])):bM [.ref n] h=.ok .non ((h++[MO.lst []]).set n (.ins "Marks" [("standing",.ref h.length)])):=by
 have w:(bM [.ref n] h).W fun p h'=>p=.non/\h'=(h++[MO.lst []]).set n (.ins "Marks" [("standing",.ref h.length)]):=by
  refine jR ?_
  have g':=Ext.app h [MO.lst []] _ _ g
  simp [fM,Dz g',Fm]
 obtain ⟨p,h',e,rfl,rfl⟩:=tW w
 exact e
def iV (S:Seen) (nm:Str×Int):Bool:=match look S nm.1 with | some n=>decide (nm.2<=n) | none=>false
theorem Iw (S:Seen) (nm:Str×Int) (h:PH):kL [sv S,pv nm] h=.ok (.bl (iV S nm)) h:=by
 have w:(kL [sv S,pv nm] h).W fun q h'=>q=.bl (iV S nm)/\h'=h:=by
  refine jR ?_
  unfold yO
  rw [aL]
  refine Q1 (xs:=S.map pv) (fun q δ h'=>h'=h/\look (S.drop q) nm.1=look S nm.1/\∃ x2 x3,δ=[some (sv S),some (pv nm),x2,x3]) (.inl (by simp [GI])) ⟨rfl,rfl,_,_,rfl⟩ ?_ ?_
  ·rintro q x δ h' hx ⟨rfl,hk,x2,x3,rfl⟩
   rw [List.getElem?_map] at hx
   obtain ⟨p,hp,rfl⟩:=Option.map_eq_some_iff.mp hx
   have hd:S.drop q=p :: S.drop (q+1):=by
    obtain ⟨hl,e⟩:=List.getElem?_eq_some_iff.mp hp
    rw [List.drop_eq_getElem_cons hl,e]
   rw [hd,uC] at hk
   refine ⟨_,by simp [pv]; rfl,?_⟩
   unfold yN
   by_cases e:p.1=nm.1
   ·rw [if_pos e] at hk
    simp [pv,e,iV]
    rw [<- hk]
   ·rw [if_neg e] at hk
    simp [pv,e]
    exact hk
  ·rintro δ h' ⟨rfl,hk,x2,x3,rfl⟩
   refine now ?_
   rw [List.length_map,List.drop_length] at hk
   simp [<- hk,look,iV]
 obtain ⟨q,h',e,rfl,rfl⟩:=tW w
 exact e
def cvt (nm:Str×Int) (e:Str×Int):Option PV:=if e.1=nm.1 then (if nm.2<=e.2 then some (.str e.1) else none) else none
theorem GS (nm:Str×Int):∀ S:Seen,(S.map (·.1)).Nodup->(S.filterMap (cvt nm)=[])=(iV S nm=false)
 | [],_=>by simp [iV,look]
 | e :: S,nd=>by
  rw [List.map_cons,List.nodup_cons] at nd
  have ih:=GS nm S nd.2
  rw [List.filterMap_cons]
  unfold iV at ih ⊢
  rw [uC]
  unfold cvt
  by_cases h1:e.1=nm.1
  ·have no:look S nm.1=none:=by
    have hn:=nd.1
    rw [h1] at hn
    clear ih nd
    induction S with
    | nil=>rfl
    | cons a S ih2=>
     rw [List.map_cons,List.mem_cons,not_or] at hn
     rw [uC,if_neg fun z=>hn.1 z.symm]
     exact ih2 hn.2
   rw [no] at ih
   unfold cvt at ih
   by_cases h2:nm.2<=e.2
   ·simp [h1,h2]
   ·rw [if_pos h1,if_neg h2,if_pos h1]
    simp only [h2,decide_false,eq_iff_iff,iff_true]
    simpa using ih
  ·simp only [if_neg h1]
   exact ih
theorem vB {S:Seen} (nd:(S.map (·.1)).Nodup) (lS:S.length<=1000) (nm:Str×Int) (h:PH) (Q:PV->PH->Prop) (k:∀ h',Ext h h'->Q (.bl (iV S nm)) h'):(dF [sv S,pv nm] h).W Q:=by
 refine jR ?_
 unfold qF
 have hc:=HZ (m:=mV 0) (js:=[none,none,some 1]) (tg:=gTp 2 (gCn (gN 0) (gCn (gN 1) gNl))) (tst:=eK (bL (aD vEq (mV 0) (aD vAt (mV 2) (mC (.int 0))))) (bL (aD qD (aD vAt (mV 2) (mC (.int 1))) (mV 1)))) (elt:=mV 0) (δ:=[some (sv S),some (pv nm)]) (h:=h) (h1:=h) (ys:=S) (emb:=pv)
  (cvt nm) (by simp [GI]) (by omega) (fun e he=>⟨[some (.str e.1),some (.int e.2),some (pv nm)],by simp [iG,pv],fun h _=>by
   unfold cvt
   by_cases h1:e.1=nm.1
   ·by_cases h2:nm.2<=e.2
    ·simp [h1,h2,pv]
    ·simp [h1,h2,pv]
   ·simp [h1,pv]⟩)
 have g1:(h++[MO.lst (S.filterMap (cvt nm))])[h.length]?=some (.lst (S.filterMap (cvt nm))):=aN
 have x1:Ext h (h++[MO.lst (S.filterMap (cvt nm))]):=Ext.app _ _
 rw [show List.map some [sv S,pv nm]++List.replicate (2 - [sv S,pv nm].length) none=[some (sv S),some (pv nm)] from rfl]
 generalize h++[MO.lst (S.filterMap (cvt nm))]=hA at hc g1 x1
 have pl1:(S.filterMap (cvt nm)).all (PV.pl 39)=true:=by
  rw [List.all_eq_true]
  intro y hy
  obtain ⟨e,_,he⟩:=List.mem_filterMap.mp hy
  unfold cvt at he
  split at he
  ·split at he
   ·cases he; rfl
   ·cases he
  ·cases he
 have vn:=Gw (Ext.app hA [MO.lst []] _ _ g1) (aN (h:=hA) (o:=MO.lst [])) pl1 rfl
 have ev:(!decide (S.filterMap (cvt nm)=[]))=iV S nm:=by
  have z:=GS nm S nd
  cases e:iV S nm with
  | true=>rw [e] at z; rw [decide_eq_false (by rw [z]; simp)]; rfl
  | false=>rw [e] at z; rw [decide_eq_true (by rw [z])]; rfl
 rw [ev] at vn
 simp [hc,vn]
 exact k _ (x1.trans (Ext.app _ _))
structure Dd where
 nm:Str×Int
 sn:Seen
 mkd:Bool
 f:List St
 l:List St
 w:Str
def acV (d:Dd):PV:=.tup [.str (if d.mkd then "mark" else "clear"),.tup [.str "t",.int 1],pl d.f,pl d.l,.str d.w]
def dV (d:Dd):PV:=.tup [pv d.nm,sv d.sn,acV d]
def hol (m:Mrk) (d:Dd):Mrk:=if m.w=d.w/\iV d.sn m.nm=true then ⟨m.nm,m.f,m.l,m.w,m.hs++[(d.f,d.l)]⟩ else m
theorem Lh (m:Mrk) (d:Dd):(hol m d).nm=m.nm/\(hol m d).f=m.f/\(hol m d).l=m.l/\(hol m d).w=m.w:=by unfold hol; split <;> exact ⟨rfl,rfl,rfl,rfl⟩
theorem at0 (d:Dd) (h:PH):vIx (acV d) (.int 0) h=.ok (.str (if d.mkd then "mark" else "clear")) h:=by unfold acV; simp
theorem at2 (d:Dd) (h:PH):vIx (acV d) (.int 2) h=.ok (pl d.f) h:=by unfold acV; simp
theorem at3 (d:Dd) (h:PH):vIx (acV d) (.int 3) h=.ok (pl d.l) h:=by unfold acV; simp
theorem at4 (d:Dd) (h:PH):vIx (acV d) (.int 4) h=.ok (.str d.w) h:=by unfold acV; simp
theorem atE (d:Dd) (h:PH):vSl (acV d) (some 2) (some 4) h=.ok (.tup [pl d.f,pl d.l]) h:=by
 unfold acV
 rw [Gy]
 congr 2
theorem dt1 (d:Dd) (h:PH):vIx (dV d) (.int 1) h=.ok (sv d.sn) h:=by unfold dV; simp
theorem dt2 (d:Dd) (h:PH):vIx (dV d) (.int 2) h=.ok (acV d) h:=by unfold dV; simp
theorem DT:¬ ("clear" : Str)="mark" := by decide +kernel
theorem NQ:¬ ("mark" : Str)="clear" := by decide +kernel
theorem Sw {T1 T2:Ev->PH->Rs Bool} {δ:Ev} {h:PH} {b1 b2:Bool} (e1:T1 δ h=.ok b1 h) (e2:T2 δ h=.ok b2 h):Dl T1 (Gh T2) δ h=.ok (b1 || !b2) h:=by
 simp only [Gu,Ka,e1,e2,Rs.bind_ok]
 cases b1 <;> simp
theorem Qt (m:Mrk) (d:Dd) (hz:m.hs.length<=1000) (h:PH):lV [mkV m,dV d] h=.ok (mkV (hol m d)) h:=by
 have w:(lV [mkV m,dV d] h).W fun q h'=>q=mkV (hol m d)/\h'=h:=by
  refine jR ?_
  unfold C5
  rw [aL]
  simp [mkV]
  refine now ?_
  rw [aL]
  simp [dV]
  refine now ?_
  rw [aL,iA,Sw (b1:=!decide (m.w=d.w)) (b2:=iV d.sn m.nm) (by simp [at4]) (by simp [Iw]),xT]
  unfold hol
  by_cases e:m.w=d.w/\iV d.sn m.nm=true
  ·rw [if_pos e,e.2,decide_eq_true e.1,if_neg (by simp),RT]
   refine now ?_
   have vp:aT (.tup (m.hs.map sp)) (.tup [.tup [pl d.f,pl d.l]]) h=.ok (.tup (m.hs.map sp++[.tup [pl d.f,pl d.l]])) h:=oR (by rw [List.length_map]; simp; omega)
   simp [at2,at3,vp,sp]
  ·rw [if_neg e,if_pos (by
    by_cases z:m.w=d.w
    ·have:iV d.sn m.nm=false:=by
      cases y:iV d.sn m.nm
      ·rfl
      ·exact absurd ⟨z,y⟩ e
     simp [this]
    ·simp [z])]
   simp [mkV]
 obtain ⟨q,h',e,rfl,rfl⟩:=tW w
 exact e
theorem Li {S:List Mrk} (lS:S.length < 64) (hz:∀ m∈S,m.hs.length<=1000) {h:PH} {lm ls:Nat} (t:cE h lm ls S) (d:Dd) (Q:PV->PH->Prop)
  (k:∀ h' ls',cE h' lm ls' (S.map (hol · d))->(∀ n o,n≠lm->h[n]?=some o->h'[n]?=some o)->h.length<=ls'->Q .non h'):(cI [.ref lm,dV d] h).W Q:=by
 refine jR ?_
 unfold jU
 have hc:=nK (m:=mUn (tZ "standing") (mV 0)) (n:=ls) (js:=[none,some 1]) (tg:=gN 0) (tst:=qZ) (elt:=cB 2 lV (aB (mV 0) (aB (mV 1) aH))) (δ:=[some (.ref lm),some (dV d)]) (h:=h) (h1:=h) (ys:=S) (emb:=mkV)
  (fun m=>some (mkV (hol m d))) (by simp [t.fm]) t.2 (by omega) (fun m hm=>⟨[some (mkV m),some (dV d)],by simp [iG],fun h' x'=>⟨rfl,by simp [Qt m d (hz m hm)]⟩⟩)
 have em:S.filterMap (fun m=>some (mkV (hol m d)))=(S.map (hol · d)).map mkV:=by
  rw [List.map_map]
  exact List.filterMap_eq_map (f:=fun m=>mkV (hol m d)) ▸ rfl
 rw [em] at hc
 have x1:Ext h (h++[MO.lst ((S.map (hol · d)).map mkV)]):=Ext.app _ _
 have g1:(h++[MO.lst ((S.map (hol · d)).map mkV)])[h.length]?=some (.lst ((S.map (hol · d)).map mkV)):=aN
 rw [show List.map some [PV.ref lm,dV d]++List.replicate (2 - [PV.ref lm,dV d].length) none=[some (.ref lm),some (dV d)] from rfl]
 have ll:lm < h.length:=(List.getElem?_eq_some_iff.mp t.1).1
 generalize h++[MO.lst ((S.map (hol · d)).map mkV)]=hA at hc g1 x1
 have sf:=Dz (f:="standing") (p:=.ref h.length) (x1 _ _ t.1) (by simp)
 simp [hc,sf,Fm]
 refine k _ h.length ⟨dX (x1 _ _ t.1),?_⟩ (fun n o hn ho=>?_) (Nat.le_refl _)
 ·rw [List.getElem?_set_ne (by omega)]; exact g1
 ·rw [List.getElem?_set_ne (Ne.symm hn)]; exact x1 _ _ ho
def mk0 (d:Dd):Mrk:=⟨d.nm,d.f,d.l,d.w,[]⟩
def yS (S:List Mrk) (d:Dd):List Mrk:=if d.mkd=true then S++[mk0 d] else S.map (hol · d)
def cX (ds:List Dd):List Mrk:=ds.foldl yS []
theorem yT (ds:List Dd) (d:Dd):cX (ds++[d])=yS (cX ds) d:=by simp [cX,List.foldl_append]
def pD (m:Mrk) (d:Dd):Bool:=!d.mkd && (decide (m.w=d.w) && iV d.sn m.nm)
def iI (m:Mrk) (r:List Dd):Mrk:=⟨m.nm,m.f,m.l,m.w,m.hs++(r.filter (pD m)).map fun d=>(d.f,d.l)⟩
def dZ:List Dd->List Mrk
 | []=>[]
 | d :: r=>(if d.mkd=true then [iI (mk0 d) r] else [])++dZ r
theorem Bc (m:Mrk) (d:Dd) (r:List Dd):iI m (d :: r)=iI (if d.mkd=true then m else hol m d) r:=by
 unfold iI
 rw [List.filter_cons]
 by_cases e:d.mkd=true
 ·have:pD m d=false:=by simp [pD,e]
  rw [this,if_pos e]
  rfl
 ·rw [if_neg e]
  obtain ⟨a,b,c,g⟩:=Lh m d
  have hh:pD (hol m d)=pD m:=by funext x; unfold pD; rw [a,g]
  rw [a,b,c,g,hh]
  by_cases e2:m.w=d.w/\iV d.sn m.nm=true
  ·have:pD m d=true:=by simp [pD,e,e2.1,e2.2]
   rw [if_pos this]
   unfold hol
   rw [if_pos e2]
   simp
  ·have:pD m d=false:=by
    unfold pD
    by_cases e3:m.w=d.w
    ·have:iV d.sn m.nm=false:=by
      cases z:iV d.sn m.nm
      ·rfl
      ·exact absurd ⟨e3,z⟩ e2
     simp [this]
    ·simp [e3]
   rw [this]
   unfold hol
   rw [if_neg e2]
   rfl
theorem Bd:∀ (ds:List Dd) (S:List Mrk),ds.foldl yS S=S.map (iI · ds)++dZ ds
 | [],S=>by
  have:(iI · [])=(id:Mrk->Mrk):=by funext m; simp [iI]
  simp [this,dZ]
 | d :: r,S=>by
  rw [List.foldl_cons,Bd r]
  unfold yS
  by_cases e:d.mkd=true
  ·have:(iI · (d :: r))=(iI · r):=by funext m; rw [Bc,if_pos e]
   rw [if_pos e,this,List.map_append]
   simp [dZ,e]
  ·have:(iI · (d :: r))=fun m=>iI (hol m d) r:=by funext m; rw [Bc,if_neg e]
   rw [if_neg e,this,List.map_map]
   simp [dZ,e]
theorem rS (ds:List Dd):cX ds=dZ ds:=by
 unfold cX
 rw [Bd]
 rfl
theorem NR (m:Mrk) (d:Dd) (n:Nat):rwV (hol m d,n)=rwV (m,n):=by
 unfold rwV
 obtain ⟨a,b,c,g⟩:=Lh m d
 simp only [a,b,c,g]
theorem Sx {α:Type} {xs:List α} (nd:xs.Nodup) {i j:Nat} {a:α} (h1:xs[i]?=some a) (h2:xs[j]?=some a):i=j:=by
 obtain ⟨l1,e1⟩:=List.getElem?_eq_some_iff.mp h1
 obtain ⟨l2,e2⟩:=List.getElem?_eq_some_iff.mp h2
 have pw:=List.pairwise_iff_getElem.mp nd
 rcases Nat.lt_trichotomy i j with h | h | h
 ·exact absurd (e1.trans e2.symm) (pw i j l1 l2 h)
 ·exact h
 ·exact absurd (e2.trans e1.symm) (pw j i l2 l1 h)
structure RA (h0 h:PH) (l:Nat) (S:List Mrk) (zs:List (Mrk×Nat)):Prop where
 x:Ext h0 h
 r:nU h l S zs
 nd:(zs.map (·.2)).Nodup
 gt:∀ z∈zs,l < z.2
def okD (d:Dd):Prop:=(d.sn.map (·.1)).Nodup/\d.sn.length<=1000
theorem Qu {h0 h:PH} {l:Nat} {S:List Mrk} {zs:List (Mrk×Nat)} (i:RA h0 h l S zs) (hl:h0.length<=l) (lS:S.length < 64) (hz:∀ m∈S,m.hs.length<=1000) {d:Dd} (od:okD d) (x0 x5:Option PV) (E:FE)
  (fin:∀ h' zs' x5,RA h0 h' l (S.map (hol · d)) zs'->E.nx [x0,some (.ref l),some (pv d.nm),some (sv d.sn),some (acV d),x5] h'):
  (gO (bB (mV 1)) (gN 5) yP [x0,some (.ref l),some (pv d.nm),some (sv d.sn),some (acV d),x5] h).W E:=by
 obtain ⟨x,⟨ez,g,o⟩,nd,gt⟩:=i
 refine jQ (n:=l) (xs:=zs.map rwV) (h1:=h) (fun r δ h'=>Ext h0 h'/\h'[l]?=some (.lst (zs.map rwV))/\(∀ (i:Nat) (z:Mrk×Nat),zs[i]?=some z->h'[z.2]?=some (MO.lst ((if i < r then (hol z.1 d).hs else z.1.hs).map sp)))/\∃ x5,δ=[x0,some (.ref l),some (pv d.nm),some (sv d.sn),some (acV d),x5]) (by simp) g ⟨x,g,fun i z hz=>by simpa using o z (List.mem_of_getElem? hz),_,rfl⟩ (fun r δ h' _ i=>i.2.1) ?_ ?_
 ·rintro r y δ h' hy ⟨x1,g1,o1,x5,rfl⟩
  rw [List.getElem?_map] at hy
  obtain ⟨⟨m,n⟩,hzr,rfl⟩:=Option.map_eq_some_iff.mp hy
  have hzm:=List.mem_of_getElem? hzr
  have hmS:m∈S:=by rw [<- ez]; exact List.mem_map_of_mem hzm
  have gn:=o1 r _ hzr
  rw [if_neg (by omega)] at gn
  have ln:l < n:=gt _ hzm
  refine ⟨_,rfl,?_⟩
  unfold yP
  rw [iA]
  have nx:∀ h2,Ext h' h2->hol m d=m->Ext h0 h2/\h2[l]?=some (.lst (zs.map rwV))/\∀ (i:Nat) (z:Mrk×Nat),zs[i]?=some z->h2[z.2]?=some (MO.lst ((if i < r+1 then (hol z.1 d).hs else z.1.hs).map sp)):=fun h2 x2 em=>by
   refine ⟨x1.trans x2,x2 _ _ g1,fun i z hz=>?_⟩
   by_cases ir:i=r
   ·subst ir
    rw [hzr] at hz
    cases hz
    rw [if_pos (by omega),em]
    exact x2 _ _ gn
   ·have:=x2 _ _ (o1 i z hz)
    by_cases h1:i < r
    ·rw [if_pos h1] at this
     rw [if_pos (by omega)]; exact this
    ·rw [if_neg h1] at this
     rw [if_neg (by omega)]; exact this
  by_cases e:m.w=d.w
  ·simp [rwV,acV,e]
   refine vB od.1 od.2 m.nm h' _ fun h2 x2=>?_
   cases ec:iV d.sn m.nm with
   | false=>
    simp
    obtain ⟨a,b,c⟩:=nx h2 x2 (by unfold hol; rw [if_neg (by simp [ec])])
    exact ⟨a,by simpa using b,fun i a b hz=>c i (a,b) hz⟩
   | true=>
    have gn2:=x2 _ _ gn
    have hs2:(hol m d).hs=m.hs++[(d.f,d.l)]:=by unfold hol; rw [if_pos ⟨e,ec⟩]
    have ap:=cD (p:=sp (d.f,d.l)) gn2 (by
     have:m.hs.length<=1000:=hz m hmS
     rw [List.length_map]; show m.hs.length < _; omega)
    have ap':onL bA (.ref n) [.tup [pl d.f,pl d.l]] h2=.ok .non (h2.set n (.lst (m.hs.map sp++[sp (d.f,d.l)]))):=ap
    simp [eM gn2,ap']
    refine ⟨(x1.trans x2).setN (by omega),?_,fun i a b hz=>?_⟩
    ·rw [List.getElem?_set_ne (by omega)]; have:=x2 _ _ g1; simpa [rwV,acV] using this
    ·by_cases ir:i=r
     ·subst ir
      rw [hzr] at hz
      cases hz
      rw [if_pos (by omega),hs2,dX gn2,List.map_append]
      rfl
     ·have nb:n≠b:=fun z=>by
       subst z
       have h1:(zs.map (·.2))[i]?=some n:=by rw [List.getElem?_map,hz]; rfl
       have h2:(zs.map (·.2))[r]?=some n:=by rw [List.getElem?_map,hzr]; rfl
       exact ir (Sx nd h1 h2)
      rw [List.getElem?_set_ne nb]
      have:=x2 _ _ (o1 i _ hz)
      by_cases h1:i < r
      ·rw [if_pos h1] at this
       rw [if_pos (by omega)]; exact this
      ·rw [if_neg h1] at this
       rw [if_neg (by omega)]; exact this
  ·simp [rwV,acV,e]
   obtain ⟨a,b,c⟩:=nx h' (Ext.refl _) (by unfold hol; rw [if_neg (by simp [e])])
   exact ⟨a,by simpa [rwV] using b,fun i a b hz=>c i (a,b) hz⟩
 ·rintro δ h' ⟨x1,g1,o1,x5,rfl⟩
  refine fin h' (zs.map fun z=>(hol z.1 d,z.2)) x5 ⟨x1,⟨?_,?_,fun z hz=>?_⟩,?_,fun z hz=>?_⟩
  ·rw [List.map_map,<- ez,List.map_map]; rfl
  ·rw [g1,List.map_map]
   congr 2
   exact List.map_congr_left fun z _=>(NR z.1 d z.2).symm
  ·obtain ⟨y,hy,rfl⟩:=List.mem_map.mp hz
   obtain ⟨i,hi,e⟩:=List.getElem_of_mem hy
   have:=o1 i y (by rw [List.getElem?_eq_getElem hi,e])
   rw [List.length_map,if_pos hi] at this
   exact this
  ·rw [List.map_map]; exact nd
  ·obtain ⟨y,hy,rfl⟩:=List.mem_map.mp hz
   exact gt y hy
theorem Be:∀ ds:List Dd,(cX ds).length<=ds.length:=fun ds=>by
 rw [rS]
 induction ds with
 | nil=>simp [dZ]
 | cons d r ih=>
  unfold dZ
  rw [List.length_append,List.length_cons]
  split <;> simp <;> omega
theorem DU:∀ ds:List Dd,∀ m∈cX ds,m.hs.length<=ds.length:=fun ds=>by
 rw [rS]
 induction ds with
 | nil=>intro m hm; simp [dZ] at hm
 | cons d r ih=>
  intro m hm
  unfold dZ at hm
  rcases List.mem_append.mp hm with h | h
  ·split at h
   ·simp at h
    subst h
    have:=List.length_filter_le (pD (mk0 d)) r
    simp [iI,mk0]
    simp [mk0] at this
    omega
   ·simp at h
  ·have:=ih m h
   rw [List.length_cons]; omega
theorem take_snoc {α:Type} {ds:List α} {q:Nat} {d:α} (h:ds[q]?=some d):ds.take (q+1)=ds.take q++[d]:=by rw [List.take_add_one,h]; rfl
theorem Bf {ds:List Dd} (lD:ds.length<=16) (od:∀ d∈ds,okD d) {h:PH} {ld:Nat} (g:h[ld]?=some (.lst (ds.map dV))) (Q:PV->PH->Prop)
  (k:∀ l h' zs,RA h h' l (cX ds) zs->h.length<=l->Q (.ref l) h'):(nO [.ref ld] h).W Q:=by
 refine jR ?_
 unfold Fx
 rw [aL]
 simp
 have x0:Ext h (h++[MO.lst []]):=Ext.app _ _
 have g0:(h++[MO.lst []])[h.length]?=some (.lst (([]:List (Mrk×Nat)).map rwV)):=aN
 have i0:RA h (h++[MO.lst []]) h.length (cX (ds.take 0)) []:=⟨x0,⟨rfl,g0,fun z hz=>by simp at hz⟩,by simp,fun z hz=>by simp at hz⟩
 generalize h++[MO.lst []]=hA at x0 g0 i0
 refine now ?_
 rw [aL]
 refine jQ (n:=ld) (xs:=ds.map dV) (h1:=hA) (fun q δ h'=>(∃ zs,RA h h' h.length (cX (ds.take q)) zs)/\∃ x2 x3 x4 x5,δ=[some (.ref ld),some (.ref h.length),x2,x3,x4,x5]) (by simp) (x0 _ _ g) ⟨⟨_,i0⟩,_,_,_,_,rfl⟩ ?_ ?_ ?_
 ·rintro q δ h' _ ⟨⟨zs,i⟩,_⟩
  exact i.x _ _ g
 ·rintro q y δ h' hy ⟨⟨zs,i⟩,x2,x3,x4,x5,rfl⟩
  rw [List.getElem?_map] at hy
  obtain ⟨d,hd,rfl⟩:=Option.map_eq_some_iff.mp hy
  have hq:=(List.getElem?_eq_some_iff.mp hd).1
  have l1:=Be (ds.take q)
  have l2:=DU (ds.take q)
  rw [List.length_take] at l1 l2
  refine ⟨[some (.ref ld),some (.ref h.length),some (pv d.nm),some (sv d.sn),some (acV d),x5],by simp [dV],?_⟩
  have es:cX (ds.take (q+1))=yS (cX (ds.take q)) d:=by rw [take_snoc hd,yT]
  rw [es]
  unfold yS DL
  rw [iA]
  cases em:d.mkd with
  | true=>
   rw [if_pos rfl]
   obtain ⟨x,⟨ez,gl,o⟩,nd,gt⟩:=i
   have ll:h.length < h'.length:=(List.getElem?_eq_some_iff.mp gl).1
   have xA:Ext h' (h'++[MO.lst []]):=Ext.app _ _
   have lz:zs.length<=16:=by
    have:=congrArg List.length ez
    rw [List.length_map] at this
    omega
   have ap:=cD (p:=rwV (mk0 d,h'.length)) (xA _ _ gl) (by rw [List.length_map]; omega)
   have ap':onL bA (.ref h.length) [.tup [pv d.nm,pl d.f,pl d.l,.str d.w,.ref h'.length]] (h'++[MO.lst []])=.ok .non ((h'++[MO.lst []]).set h.length (.lst (zs.map rwV++[rwV (mk0 d,h'.length)]))):=ap
   simp [acV,em,eM gl,ap']
   refine ⟨zs++[(mk0 d,h'.length)],(x.trans xA).setN (Nat.le_refl _),⟨?_,?_,fun z hz=>?_⟩,?_,fun z hz=>?_⟩
   ·rw [List.map_append,ez]; rfl
   ·rw [dX (xA _ _ gl),List.map_append]; rfl
   ·rcases List.mem_append.mp hz with y | y
    ·have:=gt z y
     rw [List.getElem?_set_ne (by omega)]; exact xA _ _ (o z y)
    ·simp at y
     subst y
     rw [List.getElem?_set_ne (by omega)]
     exact aN
   ·rw [List.map_append,List.nodup_append]
    refine ⟨nd,by simp,fun a ha b hb=>?_⟩
    simp at hb
    subst hb
    obtain ⟨z,hz,rfl⟩:=List.mem_map.mp ha
    have:=(List.getElem?_eq_some_iff.mp (o z hz)).1
    omega
   ·rcases List.mem_append.mp hz with y | y
    ·exact gt z y
    ·simp at y
     subst y
     exact ll
  | false=>
   rw [if_neg (by simp)]
   have at0:∀ h,vIx (acV d) (.int 0) h=.ok (.str "clear") h:=fun h=>by simp [acV,em]
   have ne:¬ ("clear" : Str)="mark" := by decide +kernel
   simp [at0,ne]
   refine Qu i (Nat.le_refl _) (by omega) (fun m hm=>Nat.le_trans (l2 m hm) (by omega)) (od d (List.mem_of_getElem? hd)) _ _ _ fun h2 zs' x5 i'=>⟨⟨_,i'⟩,_,_,_,_,rfl⟩
 ·rintro δ h' ⟨⟨zs,i⟩,x2,x3,x4,x5,rfl⟩
  rw [List.length_map,List.take_length] at i
  refine now ?_
  simp
  exact k _ _ _ i (Nat.le_refl _)
theorem Lj (n:Nat) (xs:List St):(pl xs).pl (n+3)=true:=by
 show (xs.map stp).all (PV.pl (n+2))=true
 rw [List.all_map]
 exact List.all_eq_true.mpr fun y _=>rfl
theorem Sy (d:Dd):(dV d).pl 39=true:=by
 show [pv d.nm,sv d.sn,acV d].all (PV.pl 38)=true
 have e1:(sv d.sn).pl 38=true:=by
  rw [GI]
  show (d.sn.map pv).all (PV.pl 37)=true
  rw [List.all_map]
  exact List.all_eq_true.mpr fun y _=>rfl
 have e2:(acV d).pl 38=true:=by
  show [PV.str (if d.mkd then "mark" else "clear"),.tup [.str "t",.int 1],pl d.f,pl d.l,.str d.w].all (PV.pl 37)=true
  have a:(pl d.f).pl 37=true:=Lj 34 _
  have b:(pl d.l).pl 37=true:=Lj 34 _
  simp only [List.all_cons,a,b]
  rfl
 have e0:(pv d.nm).pl 38=true:=rfl
 simp [e0,e1,e2]
theorem Qv (ds:List Dd):(ds.map dV).all (PV.pl 39)=true:=by
 rw [List.all_map]
 exact List.all_eq_true.mpr fun d _=>Sy d
def gdB (p:List St) (d:Dd) (r:List Dd):Bool:=d.mkd && brs p (iI (mk0 d) r)
theorem Qw (p:List St) (x:Str) (ds:List Dd):x∈jV p (cX ds) ↔ ∃ j d,ds[j]?=some d/\d.w=x/\gdB p d (ds.drop (j+1))=true:=by
 rw [rS]
 induction ds with
 | nil=>simp [dZ,jV]
 | cons d r ih=>
  have e:jV p (dZ (d :: r))=jV p (if d.mkd=true then [iI (mk0 d) r] else [])++jV p (dZ r):=by unfold jV; rw [dZ,List.filter_append,List.map_append]
  rw [e,List.mem_append,ih]
  have h0:x∈jV p (if d.mkd=true then [iI (mk0 d) r] else []) ↔ d.w=x/\gdB p d r=true:=by
   unfold jV gdB
   cases d.mkd with
   | false=>simp
   | true=>
    rw [if_pos rfl,List.filter_cons]
    cases brs p (iI (mk0 d) r) with
    | true=>simp [iI,mk0]; exact eq_comm
    | false=>simp
  rw [h0]
  constructor
  ·rintro (h | ⟨j,d',h⟩)
   ·exact ⟨0,d,rfl,h⟩
   ·exact ⟨j+1,d',h⟩
  ·rintro ⟨j,d',h1,h2,h3⟩
   cases j with
   | zero=>
    simp at h1
    subst h1
    exact .inl ⟨h2,h3⟩
   | succ j=>exact .inr ⟨j,d',h1,h2,h3⟩
def c1B (d d':Dd):Bool:=!d'.mkd && decide (d'.w=d.w)
def c2B (p:List St) (d d':Dd):Bool:=iV d'.sn d.nm && inB p (d'.f,d'.l)
theorem Iy (p:List St) (d:Dd) (r:List Dd):decide ((((r.filter (c1B d)).filter (c2B p d))).map dV=[])=!((iI (mk0 d) r).hs.any (inB p)):=by
 have e:(iI (mk0 d) r).hs.any (inB p)=r.any fun d'=>pD (mk0 d) d' && inB p (d'.f,d'.l):=by
  unfold iI
  show ([]++(r.filter (pD (mk0 d))).map fun (d:Dd)=>(d.f,d.l)).any (inB p)=_
  rw [List.nil_append,List.any_map,List.any_filter]
  rfl
 rw [e,Bool.eq_iff_iff]
 simp only [decide_eq_true_eq,List.map_eq_nil_iff,List.filter_filter,List.filter_eq_nil_iff,Bool.not_eq_true',List.any_eq_false]
 refine forall_congr' fun d'=>forall_congr' fun _=>?_
 have q:(c2B p d d' && c1B d d')=(pD (mk0 d) d' && inB p (d'.f,d'.l)):=by
  unfold c1B c2B pD mk0
  have:decide (d'.w=d.w)=decide (d.w=d'.w):=decide_eq_decide.mpr ⟨Eq.symm,Eq.symm⟩
  rw [this]
  cases d'.mkd <;> cases decide (d.w=d'.w) <;> cases iV d'.sn d.nm <;> cases inB p (d'.f,d'.l) <;> rfl
 rw [q]
theorem Iz {h:PH} {n:Nat} {ss:List Str} (e:h[n]?=some (.lst (ss.map PV.str))) (hl:ss.length < 64):nM [.ref n] h=.ok (.ref h.length) (h++[.lst ((cL ss).map PV.str)]):=by
 have e1:aS h n=some (ss.map PV.str):=by simp [aS,e]
 simp only [nM,e1,rJ]
 rw [if_pos hl]
theorem Lk {ss zs:List Str} (nd:ss.Nodup) (h:∀ x,x∈ss ↔ x∈zs):cL ss=cL (ddT zs):=by
 have p:ss.Perm (ddT zs):=by
  rw [List.perm_ext_iff_of_nodup nd (Qg zs)]
  intro x
  rw [NB]
  exact h x
 unfold cL
 congr 1
 exact pY (S:=[false]) (fun y hy=>by obtain ⟨z,_,rfl⟩:=List.mem_map.mp hy; rfl) ((eV _).trans (p.map _)) (jT (S:=[false]) fun y hy=>by obtain ⟨z,_,rfl⟩:=List.mem_map.mp hy; rfl)
theorem yU:∀ {as bs:List Str},as.map PV.str=bs.map PV.str->as=bs
 | [],[],_=>rfl
 | [],_ :: _,h=>by simp at h
 | _ :: _,[],h=>by simp at h
 | a :: as,b :: bs,h=>by
  rw [List.map_cons,List.map_cons,List.cons.injEq] at h
  rw [PV.str.inj h.1,yU h.2]
def okP (d:Dd):Prop:=d.f.length<=1000/\d.l.length<=1000
def WI (p:List St) (ds:List Dd) (h:PH) (lw q:Nat) (h':PH):Prop:=Ext h h'/\∃ ws:List Str,ws.Nodup/\ws.length<=q/\h'[lw]?=some (.lst (ws.map PV.str))/\∀ x,x∈ws ↔ ∃ j d,j < q/\ds[j]?=some d/\d.w=x/\gdB p d (ds.drop (j+1))=true
theorem WI.no {p:List St} {ds:List Dd} {h h' h2:PH} {lw q:Nat} {d:Dd} (i:WI p ds h lw q h') (hd:ds[q]?=some d) (x2:Ext h' h2) (e:gdB p d (ds.drop (q+1))=false):WI p ds h lw (q+1) h2:=by
 obtain ⟨x,ws,nd,l,g,m⟩:=i
 refine ⟨x.trans x2,ws,nd,by omega,x2 _ _ g,fun y=>?_⟩
 rw [m y]
 constructor
 ·rintro ⟨j,d',a,b⟩
  exact ⟨j,d',by omega,b⟩
 ·rintro ⟨j,d',a,b,c,k⟩
  by_cases z:j=q
  ·subst z
   rw [hd] at b
   cases b
   rw [e] at k
   cases k
  ·exact ⟨j,d',by omega,b,c,k⟩
theorem WI.old {p:List St} {ds:List Dd} {h h' h2:PH} {lw q:Nat} {d:Dd} (i:WI p ds h lw q h') (hd:ds[q]?=some d) (x2:Ext h' h2) {ws:List Str} (gw:h'[lw]?=some (.lst (ws.map PV.str))) (hw:d.w∈ws):WI p ds h lw (q+1) h2:=by
 obtain ⟨x,ws',nd,l,g,m⟩:=i
 have ew:ws'=ws:=by
  rw [g] at gw
  have:=MO.lst.inj (Option.some.inj gw)
  exact yU this
 subst ew
 refine ⟨x.trans x2,ws',nd,by omega,x2 _ _ g,fun y=>?_⟩
 constructor
 ·intro hy
  obtain ⟨j,d',a,b⟩:=(m y).mp hy
  exact ⟨j,d',by omega,b⟩
 ·rintro ⟨j,d',a,b,c,k⟩
  by_cases z:j=q
  ·subst z
   rw [hd] at b
   cases b
   rw [<- c]; exact hw
  ·exact (m y).mpr ⟨j,d',by omega,b,c,k⟩
theorem WI.new {p:List St} {ds:List Dd} {h h' h2:PH} {lw q:Nat} {d:Dd} (i:WI p ds h lw q h') (hl:h.length<=lw) (hd:ds[q]?=some d) (x2:Ext h' h2) {ws:List Str} (gw:h'[lw]?=some (.lst (ws.map PV.str))) (hw:d.w∉ws) (e:gdB p d (ds.drop (q+1))=true):WI p ds h lw (q+1) (h2.set lw (.lst (ws.map PV.str++[.str d.w]))):=by
 obtain ⟨x,ws',nd,l,g,m⟩:=i
 have ew:ws'=ws:=by
  rw [g] at gw
  have:=MO.lst.inj (Option.some.inj gw)
  exact yU this
 subst ew
 refine ⟨(x.trans x2).setN hl,ws'++[d.w],?_,by simp; omega,by rw [dX (x2 _ _ g),List.map_append]; rfl,fun y=>?_⟩
 ·rw [List.nodup_append]
  exact ⟨nd,by simp,fun a ha b hb=>by simp at hb; subst hb; exact fun z=>hw (z ▸ ha)⟩
 rw [List.mem_append,List.mem_singleton]
 constructor
 ·rintro (hy | hy)
  ·obtain ⟨j,d',a,b⟩:=(m y).mp hy
   exact ⟨j,d',by omega,b⟩
  ·exact ⟨q,d,by omega,hd,hy.symm,e⟩
 ·rintro ⟨j,d',a,b,c,k⟩
  by_cases z:j=q
  ·subst z
   rw [hd] at b
   cases b
   exact .inr c.symm
  ·exact .inl ((m y).mpr ⟨j,d',by omega,b,c,k⟩)
theorem Qx {ds:List Dd} {q:Nat} {d:Dd} {h:PH} {ld:Nat} (g:h[ld]?=some (.lst (ds.map dV))) (hq:q+1<=ds.length) (lD:ds.length<=16) (a b c e k7:Option PV):
  cN [none,some 6] (bB (mSl (mV 0) (mP (aD aT (mV 3) (mC (.int 1)))) A1)) (gN 0) (eK (bL (aD vEq (aD vAt (aD vAt (mV 0) (mC (.int 2))) (mC (.int 0))) (mC (.str "clear")))) (bL (aD vEq (aD vAt (aD vAt (mV 0) (mC (.int 2))) (mC (.int 4))) (aD vAt (mV 1) (mC (.int 4)))))) (mV 0) [some (.ref ld),a,b,some (.int (q:Int)),c,e,some (acV d),k7] h=.ok (.ref (h.length+1)) (h++[MO.lst ((ds.drop (q+1)).map dV)]++[MO.lst (((ds.drop (q+1)).filter (c1B d)).map dV)]):=by
 have sl:vSl (.ref ld) (some ((q:Int)+1)) none h=.ok (.ref h.length) (h++[MO.lst ((ds.drop (q+1)).map dV)]):=by
  rw [Gz g]
  congr 4
  have:=DP (xs:=ds.map dV) (n:=q+1) (by rw [List.length_map]; exact hq)
  rw [List.map_drop]
  exact this
 have g1:(h++[MO.lst ((ds.drop (q+1)).map dV)])[h.length]?=some (.lst ((ds.drop (q+1)).map dV)):=aN
 have ll:(h++[MO.lst ((ds.drop (q+1)).map dV)]).length=h.length+1:=by simp
 generalize h++[MO.lst ((ds.drop (q+1)).map dV)]=hA at sl g1 ll
 have ld':(ds.drop (q+1)).length<=16:=by rw [List.length_drop]; omega
 generalize ds.drop (q+1)=rs at g1 ld' sl
 have hc:=nK (m:=mSl (mV 0) (mP (aD aT (mV 3) (mC (.int 1)))) A1) (n:=h.length) (js:=[none,some 6]) (tg:=gN 0) (tst:=eK (bL (aD vEq (aD vAt (aD vAt (mV 0) (mC (.int 2))) (mC (.int 0))) (mC (.str "clear")))) (bL (aD vEq (aD vAt (aD vAt (mV 0) (mC (.int 2))) (mC (.int 4))) (aD vAt (mV 1) (mC (.int 4)))))) (elt:=mV 0) (δ:=[some (.ref ld),a,b,some (.int (q:Int)),c,e,some (acV d),k7]) (h:=h) (h1:=hA) (ys:=rs) (emb:=dV)
  (fun d'=>if c1B d d'=true then some (dV d') else none) (by simp [sl]) g1 (by omega) (fun d' _=>⟨[some (dV d'),some (acV d)],by simp [iG],fun h2 _=>by
   have a0:=at0 d' h2
   cases em:d'.mkd with
   | true=>
    rw [em] at a0
    simp [dt2,a0,c1B,em,NQ]
   | false=>
    rw [em] at a0
    by_cases ew:d'.w=d.w
    ·simp [dt2,a0,at4,c1B,em,ew]
    ·simp [dt2,a0,at4,c1B,em,ew]⟩)
 rw [hc,ll]
 congr 3
 rw [show (rs.filterMap fun d'=>if c1B d d'=true then some (dV d') else none)=(rs.filter (c1B d)).map dV by
  clear hc ld' g1 sl
  induction rs with
  | nil=>rfl
  | cons y rs ih=>
   rw [List.filterMap_cons,List.filter_cons]
   cases c1B d y
   ·simpa using ih
   ·simpa using ih]
theorem Qy {rs:List Dd} {d:Dd} {p:List St} {h:PH} {n:Nat} (g:h[n]?=some (.lst (rs.map dV))) (lr:rs.length<=16) (od:∀ d∈rs,okD d) (op:∀ d∈rs,okP d) (hp:p.length<=1000) (a b c e f:Option PV) (Q:PV->PH->Prop)
  (k:∀ l h',Ext h h'->h'[l]?=some (.lst ((rs.filter (c2B p d)).map dV))->Q (.ref l) h'):
  (cN [none,some 4,some 1] (bB (mV 7)) (gN 0) (eK (bL (cB 2 dF (aB (aD vAt (mV 0) (mC (.int 1))) (aB (mV 1) aH)))) (bL (cB 2 DM (aB (mV 2) (aB (mSl (aD vAt (mV 0) (mC (.int 2))) (mP (mC (.int 2))) (mP (mC (.int 4)))) aH))))) (mV 0) [a,some (pl p),b,c,some (pv d.nm),e,f,some (.ref n)] h).W Q:=by
 refine GO (h1:=h) (ys:=rs) (emb:=dV) (g:=A2 n (rs.map dV)) (c2B p d) dV (rE (by simp) g) (rF g) (by omega) (fun d' hd'=>?_) fun l h2 x _ g2=>k l h2 x g2
 refine ⟨[some (dV d'),some (pv d.nm),some (pl p)],by simp [iG],fun h2 x2 Q k2=>?_,fun h2 x2=>by simp⟩
 simp [dt1]
 refine vB (od d' hd').1 (od d' hd').2 d.nm h2 _ fun h3 x3=>?_
 have ie:=ON p d'.f d'.l h3 hp (op d' hd').1 (op d' hd').2
 have kk:=k2 h3 x3
 unfold c2B at kk
 cases e1:iV d'.sn d.nm with
 | false=>
  rw [e1] at kk
  simpa using kk
 | true=>
  rw [e1] at kk
  cases e2:inB p (d'.f,d'.l) with
  | false=>
   rw [e2] at ie kk
   simp [dt2,atE,ie]
   simpa using kk
  | true=>
   rw [e2] at ie kk
   simp [dt2,atE,ie]
   simpa using kk
theorem Ll {ds:List Dd} (lD:ds.length<=16) (od:∀ d∈ds,okD d) (op:∀ d∈ds,okP d) {p:List St} (hp:p.length<=1000) {h:PH} {ld:Nat} (g:h[ld]?=some (.lst (ds.map dV))) {h':PH} {q:Nat} (hq':q < ds.length) (i:WI p ds h h.length q h') (x4 x5 x6 x7:Option PV) (E:FE)
  (fin:∀ d h' x7,WI p ds h h.length (q+1) h'->E.nx [some (.ref ld),some (pl p),some (.ref h.length),some (.int (q:Int)),some (pv d.nm),some (sv d.sn),some (acV d),x7] h'):
  (uB [some (.ref ld),some (pl p),some (.ref h.length),some (.int (q:Int)),x4,x5,x6,x7] h').W E:=by
 obtain ⟨d,hd⟩:∃ d,ds[q]?=some d:=⟨ds[q],List.getElem?_eq_getElem hq'⟩
 have hdm:=List.mem_of_getElem? hd
 have aq:atI (ds.map dV) (q:Int)=some (dV d):=pS (by rw [List.getElem?_map,hd]; rfl)
 have g':=i.1 _ _ g
 unfold uB
 rw [aL]
 have vi:vIx (.ref ld) (.int (q:Int)) h'=.ok (.tup [pv d.nm,sv d.sn,acV d]) h':=by rw [dJ g',aq]; rfl
 simp [vi]
 refine now ?_
 rw [iA]
 have a0:=at0 d h'
 have ie:=ON p d.f d.l h' hp (op d hdm).1 (op d hdm).2
 cases em:d.mkd with
 | false=>
  rw [em] at a0
  simp [a0,DT]
  exact fin _ _ _ (i.no hd (Ext.refl _) (by simp [gdB,em]))
 | true=>
  rw [em] at a0
  cases e1:inB p (d.f,d.l) with
  | false=>
   rw [e1] at ie
   simp [a0,atE,ie]
   exact fin _ _ _ (i.no hd (Ext.refl _) (by simp [gdB,brs,iI,mk0,e1]))
  | true=>
   rw [e1] at ie
   simp [a0,atE,ie]
   clear a0 ie vi
   rw [aL]
   have l1:=Qx (q:=q) (d:=d) g' (by omega) lD (some (pl p)) (some (.ref h.length)) (some (pv d.nm)) (some (sv d.sn)) x7
   have x1:Ext h' (h'++[MO.lst ((ds.drop (q+1)).map dV)]++[MO.lst (((ds.drop (q+1)).filter (c1B d)).map dV)]):=(Ext.app _ _).trans (Ext.app _ _)
   have g1:(h'++[MO.lst ((ds.drop (q+1)).map dV)]++[MO.lst (((ds.drop (q+1)).filter (c1B d)).map dV)])[h'.length+1]?=some (.lst (((ds.drop (q+1)).filter (c1B d)).map dV)):=by
    have:=aN (h:=h'++[MO.lst ((ds.drop (q+1)).map dV)]) (o:=MO.lst (((ds.drop (q+1)).filter (c1B d)).map dV))
    simpa using this
   generalize h'++[MO.lst ((ds.drop (q+1)).map dV)]++[MO.lst (((ds.drop (q+1)).filter (c1B d)).map dV)]=hB at l1 x1 g1
   simp only [Gr,l1,xT,List.set_cons_succ,List.set_cons_zero]
   refine now ?_
   rw [aL]
   simp only [Gr]
   have sub:∀ y∈(ds.drop (q+1)).filter (c1B d),y∈ds:=fun y hy=>List.mem_of_mem_drop (List.mem_filter.mp hy).1
   refine Qy (d:=d) (p:=p) g1 (by
    have:=List.length_filter_le (c1B d) (ds.drop (q+1))
    rw [List.length_drop] at this
    omega) (fun y hy=>od y (sub y hy)) (fun y hy=>op y (sub y hy)) hp _ _ _ _ _ _ fun l2 hC xC gC=>?_
   have xC':=x1.trans xC
   clear g1 l1 x1
   refine now ?_
   rw [iA]
   obtain ⟨xi,ws,nd,lw,gw,mw⟩:=i
   have i:WI p ds h h.length q h':=⟨xi,ws,nd,lw,gw,mw⟩
   have ve:=Nk (Ext.app hC [MO.lst []] _ _ gC) (aN (h:=hC) (o:=MO.lst [])) (Qv _) rfl
   rw [Iy p d (ds.drop (q+1))] at ve
   have xD:Ext h' (hC++[MO.lst []]):=xC'.trans (Ext.app _ _)
   have gwD:=xD _ _ gw
   have hn:jH (.str d.w) (.ref h.length) (hC++[MO.lst []])=.ok (.bl (!decide (d.w∈ws))) (hC++[MO.lst []]):=by
    rw [uX gwD,xV gwD rfl (Cc ws)]
    congr 3
    rw [decide_eq_decide,List.mem_map]
    constructor
    ·rintro ⟨y,hy,e⟩
     cases e
     exact hy
    ·intro hy
     exact ⟨_,hy,rfl⟩
   cases e2:(iI (mk0 d) (ds.drop (q+1))).hs.any (inB p) with
   | true=>
    rw [e2] at ve
    simp [ve]
    exact fin _ _ _ (i.no hd xD (by simp only [gdB,brs,e2]; simp))
   | false=>
    rw [e2] at ve
    have eg:gdB p d (ds.drop (q+1))=true:=by
     have:inB p ((iI (mk0 d) (ds.drop (q+1))).f,(iI (mk0 d) (ds.drop (q+1))).l)=true:=e1
     simp only [gdB,brs,e2,em,this]
     rfl
    by_cases hw:d.w∈ws
    ·rw [decide_eq_true hw] at hn
     simp [ve,at4,hn]
     exact fin _ _ _ (i.old hd xD gw hw)
    ·rw [decide_eq_false hw] at hn
     have ap:=cD (p:=PV.str d.w) gwD (by rw [List.length_map]; omega)
     simp [ve,at4,hn,eM gwD,ap]
     exact fin _ _ _ (i.new (Nat.le_refl _) hd xD gw hw eg)
theorem Fz {ds:List Dd} (lD:ds.length<=16) (od:∀ d∈ds,okD d) (op:∀ d∈ds,okP d) {p:List St} (hp:p.length<=1000) {h:PH} {ld:Nat} (g:h[ld]?=some (.lst (ds.map dV))) (Q:PV->PH->Prop)
  (k:∀ n h',Ext h h'->h'[n]?=some (.lst ((cL (ddT (jV p (cX ds)))).map PV.str))->Q (.ref n) h'):(m_words [.ref ld,pl p] h).W Q:=by
 refine jR ?_
 unfold C7
 rw [aL]
 simp
 have x0:Ext h (h++[MO.lst []]):=Ext.app _ _
 have g0:(h++[MO.lst []])[h.length]?=some (.lst (([]:List Str).map PV.str)):=aN
 have i0:WI p ds h h.length 0 (h++[MO.lst []]):=⟨x0,[],by simp,by simp,g0,fun x=>by simp⟩
 generalize h++[MO.lst []]=hA at x0 g0 i0
 refine now ?_
 rw [aL]
 have hlv:=Dn (x0 _ _ g)
 rw [List.length_map] at hlv
 refine BS (j:=(ds.length:Int)) (fun q δ h'=>WI p ds h h.length q h'/\∃ x3 x4 x5 x6 x7,δ=[some (.ref ld),some (pl p),some (.ref h.length),x3,x4,x5,x6,x7]) (by simp [hlv]) (by omega) ⟨i0,_,_,_,_,_,rfl⟩ ?_ ?_
 ·rintro q δ h' hq ⟨i,x3,x4,x5,x6,x7,rfl⟩
  exact Ll lD od op hp g (by omega) i x4 x5 x6 x7 _ fun d h2 x7 z=>⟨z,_,_,_,_,_,rfl⟩
 ·rintro δ h' ⟨⟨x,ws,nd,l,gw,m⟩,x3,x4,x5,x6,x7,rfl⟩
  refine now ?_
  have so:=Iz gw (by omega)
  have es:cL ws=cL (ddT (jV p (cX ds))):=Lk nd fun y=>by
   rw [m y,Qw]
   constructor
   ·rintro ⟨j,d,a,b⟩
    exact ⟨j,d,b⟩
   ·rintro ⟨j,d,b⟩
    have:=(List.getElem?_eq_some_iff.mp b.1).1
    exact ⟨j,d,by omega,b⟩
  rw [es] at so
  simp [so]
  exact k _ _ (x.trans (Ext.app _ _)) aN
def mixed (c k:Int):Int:=
 let n:=(c+7919*k+1)*48271 % 2147483647
 n*(n / 1009+69621) % 2147483647
theorem Lm (c k:Int):0<=mixed c k/\mixed c k < 2147483647:=⟨Int.emod_nonneg _ (by decide),Int.emod_lt_of_pos _ (by decide)⟩
@[simp] theorem Sz (c k:Int) (h:PH):jJ [.int c,.int k] h=.ok (.int (mixed c k)) h:=by
 simp (disch:=omega) [jJ,mFn,C4,aQ,bI,eZ,mixed]
theorem GT (z:Str) (n:Int):(Txt.mul z n).length=z.length*n.toNat:=by
 have h:=PyProof.Rows.len_mul z n
 by_cases h0:n < 0
 ·rw [if_pos (by simpa using h0)] at h
  have:n.toNat=0:=by omega
  rw [this]; omega
 ·rw [if_neg (by simpa using h0)] at h
  have e:((n.toNat:Nat):Int)=n:=by omega
  have h2:((Txt.mul z n).length:Int)=((z.length*n.toNat:Nat):Int):=by rw [h,Int.natCast_mul,e]
  exact Int.ofNat.inj h2
abbrev tk:Str:="k"
theorem FA:tk.length=1:=by decide +kernel
theorem Ln {n:Int} (h0:0<=n) (h1:n<=8) (h:PH):HY (.str tk) (.int n) h=.ok (.str (Txt.mul tk n)) h:=by
 simp only [HY]
 rw [if_pos ⟨by rw [FA]; omega,by omega,by omega⟩]
def hnd (a b:Str) (i:Int):Str:=a++⟨#[97+i.toNat]⟩++b
theorem NS {a b:Str} {i j:Int} (hi:0<=i) (hj:0<=j) (h:hnd a b i=hnd a b j):i=j:=by
 have e:=congrArg (fun z:Str=>z.cps.toList) h
 simp only [hnd,app_list] at e
 have e1:=List.append_cancel_left (List.append_cancel_right e)
 have e2:[97+i.toNat]=[97+j.toNat]:=e1
 have e3:=List.cons.inj e2
 omega
theorem Qz {c s:Int} (hs:1<=s/\s<=8) {i j:Nat} (hi:i < 4) (hj:j < 4) (h:(c+i*s) % 26=(c+j*s) % 26):i=j:=by
 have ci:i=0\/i=1\/i=2\/i=3:=by omega
 have cj:j=0\/j=1\/j=2\/j=3:=by omega
 rcases ci with rfl | rfl | rfl | rfl <;> rcases cj with rfl | rfl | rfl | rfl <;> first | rfl | (exfalso; simp at h; omega)
def vJ (A B:Str) (c s:Int) (q:Nat):List Str:=(List.range q).map fun (i:Nat)=>hnd A B ((c+(i:Int)*s) % 26)
theorem IA (A B:Str) (c s:Int) (q:Nat):vJ A B c s (q+1)=vJ A B c s q++[hnd A B ((c+(q:Int)*s) % 26)]:=by simp [vJ,List.range_succ]
theorem NT (A B:Str) (c s:Int) (hs:1<=s/\s<=8):(vJ A B c s 4).Nodup:=by
 unfold vJ
 refine List.pairwise_map.mpr ?_
 refine List.Pairwise.imp_of_mem (fun {i j} hi hj ne e=>?_) (List.nodup_range (n:=4))
 have h1:=List.mem_range.mp hi
 have h2:=List.mem_range.mp hj
 exact ne (Qz hs h1 h2 (NS (Int.emod_nonneg _ (by decide)) (Int.emod_nonneg _ (by decide)) e))
theorem Lo (c:Int) (h:PH) (Q:PV->PH->Prop) (k:∀ (hs:List Str) (l:Nat) h',Ext h h'->h.length<=l->hs.length=4->hs.Nodup->h'[l]?=some (.lst (hs.map PV.str))->Q (.ref l) h'):(oV [.int c] h).W Q:=by
 refine jR ?_
 unfold C3
 rw [aL]; simp (disch:=omega)
 refine now ?_
 rw [aL]; simp (disch:=omega)
 refine now ?_
 rw [aL]; simp
 have x0:Ext h (h++[MO.lst []]):=Ext.app _ _
 have g0:(h++[MO.lst []])[h.length]?=some (.lst (([]:List Str).map PV.str)):=aN
 generalize h++[MO.lst []]=hA at x0 g0
 have ha:0<=c / 8 % (1+c % 8)/\c / 8 % (1+c % 8) < 1+c % 8:=⟨Int.emod_nonneg _ (by omega),Int.emod_lt_of_pos _ (by omega)⟩
 generalize c / 8 % (1+c % 8)=a at ha
 have hb:0<=1+c % 8 - 1 - a/\1+c % 8 - 1 - a<=8/\a<=8:=by omega
 generalize eA:Txt.mul tk a=A
 generalize eB:Txt.mul tk (1+c % 8 - 1 - a)=B
 have lA:A.length<=8:=by rw [<- eA,GT,FA]; omega
 have lB:B.length<=8:=by rw [<- eB,GT,FA]; omega
 refine now ?_
 rw [aL]
 refine BS (j:=4) (fun q δ h'=>Ext h h'/\h'[h.length]?=some (.lst ((vJ A B (c / 64) (1+c / 3 % 8) q).map PV.str))/\∃ x4 x5,δ=[some (.int c),some (.int (1+c % 8)),some (.int a),some (.ref h.length),x4,x5]) (by simp) (by omega) ⟨x0,g0,_,_,rfl⟩ ?_ ?_
 ·rintro q δ h' hq ⟨x1,g1,x4,x5,rfl⟩
  unfold Ba
  rw [aL]
  have hi:0<=(c / 64+(q:Int)*(1+c / 3 % 8)) % 26/\(c / 64+(q:Int)*(1+c / 3 % 8)) % 26 < 26:=⟨Int.emod_nonneg _ (by decide),Int.emod_lt_of_pos _ (by decide)⟩
  have al:=NF hi.1 hi.2
  have vi:vIx (.str L5) (.int ((c / 64+(q:Int)*(1+c / 3 % 8)) % 26)) h'=.ok (.str ⟨#[97+((c / 64+(q:Int)*(1+c / 3 % 8)) % 26).toNat]⟩) h':=by rw [Ni (by rw [Ip]; omega),al]; rfl
  have es:=IA A B (c / 64) (1+c / 3 % 8) q
  have lq:(vJ A B (c / 64) (1+c / 3 % 8) q).length=q:=by simp [vJ]
  simp (disch:=omega) [vi]
  refine now ?_
  have r1:=Ln (n:=a) ha.1 hb.2.2 h'
  have r2:=Ln (n:=1+c % 8 - 1 - a) hb.1 hb.2.1 h'
  rw [eA] at r1
  rw [eB] at r2
  have p1:∀ x:Nat,aT (.str A) (.str ⟨#[x]⟩) h'=.ok (.str (A++⟨#[x]⟩)) h':=fun x=>AX (by show A.length+1<=_; omega)
  have p2:∀ x:Nat,aT (.str (A++⟨#[x]⟩)) (.str B) h'=.ok (.str (A++⟨#[x]⟩++B)) h':=fun x=>AX (by rw [L8]; omega)
  have ap:=cD (p:=PV.str (hnd A B ((c / 64+(q:Int)*(1+c / 3 % 8)) % 26))) g1 (by rw [List.length_map,lq]; omega)
  unfold hnd at ap es
  have il:=eM g1
  generalize (c / 64+(q:Int)*(1+c / 3 % 8)) % 26=j at ap al hi es vi
  simp [il,r1,r2,p1,p2,ap]
  refine ⟨x1.setN (Nat.le_refl _),?_⟩
  rw [dX g1,es,List.map_append]
  rfl
 ·rintro δ h' ⟨x1,g1,x4,x5,rfl⟩
  refine now ?_
  have lq:(vJ A B (c / 64) (1+c / 3 % 8) (4:Int).toNat).length=4:=by simp [vJ]
  have nd:(vJ A B (c / 64) (1+c / 3 % 8) (4:Int).toNat).Nodup:=NT A B (c / 64) (1+c / 3 % 8) (by omega)
  generalize vJ A B (c / 64) (1+c / 3 % 8) (4:Int).toNat=hs at g1 lq nd
  obtain ⟨zs,pz,ez⟩:=Dw g1 (by omega)
  simp [ez]
  exact k zs _ _ (x1.trans (Ext.app _ _)) x1.len (by rw [pz.length_eq]; omega) (pz.nodup_iff.mpr nd) aN
theorem Uz (y:St):PV.tup (PV.int 1 :: nF [PV.int y.s,PV.str y.h,PV.int y.n,PV.int y.k] (some 1) none)=stp ⟨1,y.h,y.n,y.k⟩:=by simp [stp,nF,HT.sIx]
theorem pick {α:Type} {xs:List α} {e:α->PV} {n:Nat} (hn:xs.length=n) (h0:0 < n) (i:Int):∃ x∈xs,atI (xs.map e) (i % (n:Int))=some (e x):=by
 obtain ⟨one,e1,hmem⟩:=Nl (xs:=xs.map e) (i:=i) (by intro z; rw [List.map_eq_nil_iff] at z; rw [z] at hn; simp at hn; omega)
 obtain ⟨p,hp,rfl⟩:=List.mem_map.mp hmem
 rw [List.length_map,hn] at e1
 exact ⟨p,hp,e1⟩
def DV (h:PH) (l:Nat) (met:List (List St)) (q:Nat):Prop:=h[l]?=some (.lst (met.map pl))/\met.length=q/\∀ p∈met,p.length<=q
theorem IB (ns:List Int) (hs:List Str) (h4:hs.length=4) (lh:Nat) (h:PH) (g:h[lh]?=some (.lst (hs.map PV.str))) {h':PH} {q:Nat} {met:List (List St)} (hq:q < 16) (x1:Ext h h') (gm:h'[h.length]?=some (.lst (met.map pl))) (lm:met.length=q) (hm:∀ p∈met,p.length<=q) (x4 x5 x6:Option PV) (E:FE)
  (fin:∀ h' x3 x4 x5 x6,(Ext h h'/\∃ met,DV h' h.length met (q+1))->E.nx [some (.fl (ns.map PV.int)),some (.ref lh),some (.ref h.length),x3,x4,x5,x6] h'):
  (qE [some (.fl (ns.map PV.int)),some (.ref lh),some (.ref h.length),some (.int (q:Int)),x4,x5,x6] h').W E:=by
 unfold qE
 rw [aL]; simp
 refine now ?_
 rw [aL,iA]
 have rest:∀ c:Int,Lt (aQ (bI 5 (bV (aB (aD BL (aD BM (aD eN (mV 4) (mC (.int 2))) (mC (.int 2))) (mC (.int 1))) (aB (aD vAt (mV 1) (aD eN (aD gG (mV 4) (mC (.int 2))) (mC (.int 4)))) (aB (aD aT (mC (.int 1)) (aD eN (aD gG (mV 4) (mC (.int 8))) (mC (.int 5)))) (aB (aD eN (aD gG (mV 4) (mC (.int 40))) (mC (.int 12))) aH))))))
  (aQ (bI 6 (bV aH))
  (aQ (gK (eK (bL (aD vGt (mV 3) (mC (.int 0)))) (bL (aD vGt (aD eN (aD gG (mV 4) (mC (.int 480))) (mC (.int 3))) (mC (.int 0)))))
   (bI 6 (aD vAt (mV 2) (aD eN (aD gG (mV 4) (mC (.int 1440))) (mV 3))))
   jF)
  (aQ (gK (bL (aD vEq (mV 6) (bV aH)))
   (bI 5 (aD aT (bV (aB (mC (.int 1)) aH)) (mSl (mV 5) (mP (mC (.int 1))) A1)))
   jF)
  (hW (mMt isL (onL bA) (mV 2) (aB (aD aT (mV 6) (bV (aB (mV 5) aH))) aH)))))))
  E
  [some (.fl (ns.map PV.int)),some (.ref lh),some (.ref h.length),some (.int (q:Int)),some (.int c),x5,x6] h':=fun c=>by
  refine now ?_
  rw [aL]
  obtain ⟨hd,_,ehd⟩:=pick (e:=PV.str) h4 (by omega) (c / 2)
  have vh:=dJ (i:=c / 2 % ((4:Nat):Int)) (x1 _ _ g)
  rw [ehd] at vh
  have vh:vIx (.ref lh) (.int (c / 2 % 4)) h'=.ok (.str hd) h':=vh
  simp (disch:=omega) [vh]
  refine now ?_
  rw [aL]
  simp
  have st:∃ y:St,PV.tup [PV.int (c % 2*2 - 1),PV.str hd,PV.int (1+c / 8 % 5),PV.int (c / 40 % 12)]=stp y:=⟨⟨_,_,_,_⟩,rfl⟩
  obtain ⟨y,ey⟩:=st
  rw [ey]
  refine now ?_
  rw [aL,iA]
  -- the tail,for a place under
  have tail:∀ (u:List St),u.length<=q->∀ E:FE,(∀ (y:St),E.nx [some (.fl (ns.map PV.int)),some (.ref lh),some (.ref h.length),some (.int (q:Int)),some (.int c),some (stp y),some (pl u)] (h'.set h.length (.lst (met.map pl++[pl (u++[y])]))))->Lt (aQ (gK (bL (aD vEq (mV 6) (bV aH)))
   (bI 5 (aD aT (bV (aB (mC (.int 1)) aH)) (mSl (mV 5) (mP (mC (.int 1))) A1)))
   jF)
   (hW (mMt isL (onL bA) (mV 2) (aB (aD aT (mV 6) (bV (aB (mV 5) aH))) aH)))) E [some (.fl (ns.map PV.int)),some (.ref lh),some (.ref h.length),some (.int (q:Int)),some (.int c),some (stp y),some (pl u)] h':=fun u lu E kE=>by
   refine now ?_
   rw [aL,iA]
   have last:∀ y:St,Lt (hW (mMt isL (onL bA) (mV 2) (aB (aD aT (mV 6) (bV (aB (mV 5) aH))) aH))) E [some (.fl (ns.map PV.int)),some (.ref lh),some (.ref h.length),some (.int (q:Int)),some (.int c),some (stp y),some (pl u)] h':=fun y=>by
    refine now ?_
    have vp:aT (pl u) (.tup [stp y]) h'=.ok (pl (u++[y])) h':=by
     unfold pl
     rw [oR (by rw [List.length_map]; simp; omega),List.map_append]
     rfl
    have ap:=cD (p:=pl (u++[y])) gm (by rw [List.length_map]; omega)
    simp [eM gm,vp,ap]
    have:=kE y
    simpa using this
   have ve:vEq (pl u) (.tup []) h'=.ok (.bl (decide (u.map stp=[]))) h':=Nm (GK u) h'
   have vs:vSl (stp y) (some 1) none h'=.ok (.tup (nF [PV.int y.s,PV.str y.h,PV.int y.n,PV.int y.k] (some 1) none)) h':=rfl
   have vp:aT (.tup [.int 1]) (.tup (nF [PV.int y.s,PV.str y.h,PV.int y.n,PV.int y.k] (some 1) none)) h'=.ok (stp ⟨1,y.h,y.n,y.k⟩) h':=by
    rw [oR (by simp [nF,HT.sIx]),<- Uz y]
    rfl
   cases u with
   | nil=>
    simp [ve,vs,vp]
    exact last _
   | cons a u=>
    simp [ve]
    exact last _
  have done:∀ u:List St,u.length<=q->∀ y:St,Ext h (h'.set h.length (.lst (met.map pl++[pl (u++[y])])))/\∃ met',DV (h'.set h.length (.lst (met.map pl++[pl (u++[y])]))) h.length met' (q+1):=fun u lu y=>by
   refine ⟨x1.setN (Nat.le_refl _),met++[u++[y]],?_,by simp [lm],fun p hp=>?_⟩
   ·rw [dX gm,List.map_append]; rfl
   ·rcases List.mem_append.mp hp with z | z
    ·have:=hm p z; omega
    ·simp at z
     subst z
     simp
     exact lu
  by_cases e1:0 < q
  ·obtain ⟨u,hu,eu⟩:=pick (e:=pl) lm e1 (c / 1440)
   have vu:=dJ (i:=c / 1440 % (q:Int)) gm
   rw [eu] at vu
   have vu:vIx (.ref h.length) (.int (c / 1440 % (q:Int))) h'=.ok (pl u) h':=vu
   by_cases e2:0 < c / 480 % 3
   ·simp (disch:=omega) [e1,e2,vu]
    exact tail u (hm u hu) _ fun y=>fin _ _ _ _ _ (done u (hm u hu) y)
   ·simp (disch:=omega) [e1,e2]
    exact tail [] (by simp) _ fun y=>fin _ _ _ _ _ (done [] (by simp) y)
  ·simp (disch:=omega) [e1]
   exact tail [] (by simp) _ fun y=>fin _ _ _ _ _ (done [] (by simp) y)
 by_cases e:q < ns.length
 ·obtain ⟨cc,c0⟩:∃ cc,atI (ns.map PV.int) (q:Int)=some (.int cc):=⟨ns[q],pS (by rw [List.getElem?_map,List.getElem?_eq_getElem e]; rfl)⟩
  simp [e,c0]
  exact rest _
 ·simp [e]
  exact rest _
theorem IC (ns:List Int) (hs:List Str) (h4:hs.length=4) (lh:Nat) (h:PH) (g:h[lh]?=some (.lst (hs.map PV.str))) (Q:PV->PH->Prop) (k:∀ met l h',Ext h h'->h.length<=l->DV h' l met 16->Q (.ref l) h'):(kK [.fl (ns.map PV.int),.ref lh] h).W Q:=by
 refine jR ?_
 unfold yK
 rw [aL]; simp
 have x0:Ext h (h++[MO.lst []]):=Ext.app _ _
 have g0:DV (h++[MO.lst []]) h.length [] 0:=⟨aN,rfl,fun p hp=>by simp at hp⟩
 generalize h++[MO.lst []]=hA at x0 g0
 refine now ?_
 rw [aL]
 refine BS (j:=16) (fun q δ h'=>Ext h h'/\(∃ met,DV h' h.length met q)/\∃ x3 x4 x5 x6,δ=[some (.fl (ns.map PV.int)),some (.ref lh),some (.ref h.length),x3,x4,x5,x6]) (by simp) (by omega) ⟨x0,⟨[],g0⟩,_,_,_,_,rfl⟩ ?_ ?_
 ·rintro q δ h' hq ⟨x1,⟨met,gm,lm,hm⟩,x3,x4,x5,x6,rfl⟩
  exact IB ns hs h4 lh h g (by omega) x1 gm lm hm x4 x5 x6 _ fun h2 y3 y4 y5 y6 z=>⟨z.1,z.2,_,_,_,_,rfl⟩
 ·rintro δ h' ⟨x1,⟨met,gm⟩,x3,x4,x5,x6,rfl⟩
  refine now ?_
  simp
  exact k met _ _ x1 (Nat.le_refl _) gm
theorem QA {n:Nat} {h:PH} {S:Seen} (e:h[n]?=some (.lst (S.map pv))):tT [.ref n] h=.ok (sv S) h:=by
 simp [tT,aS,e,GI]
def ID (h:PH) (l:Nat) (hs:List Str) (q:Nat):Prop:=∃ sn:Seen,h[l]?=some (.lst (sn.map pv))/\(sn.map (·.1)).Sublist (hs.take q)
theorem SB {T1 T2 T3:Ev->PH->Rs Bool} {δ:Ev} {h:PH} {b1 b2 b3:Bool} (e1:T1 δ h=.ok b1 h) (e2:T2 δ h=.ok b2 h) (e3:T3 δ h=.ok b3 h):Dl (eK T1 T2) (eK T3 T2) δ h=.ok (b1 && b2 || b3 && b2) h:=by
 simp only [Gu,Kb,e1,Rs.bind_ok]
 cases b1 <;> cases b2 <;> cases b3 <;> simp [e2,e3]
theorem NU (c:Int) (kk:Nat) (base:Int) (hs:List Str) (h4:hs.length=4) (lh lmet:Nat) (N:Int) (hd:Str) (h:PH) {h':PH} {q:Nat} {sn:Seen} {o:Str} (x1:Ext h h') (g1:h'[h.length]?=some (.lst (sn.map pv))) (sub:(sn.map (·.1)).Sublist (hs.take q)) (ho:hs[q]?=some o) (x9:Option PV) (E:FE)
  (fin:∀ h' f,Ext h h'/\ID h' h.length hs (q+1)->E.nx [some (.int c),some (.int (kk:Int)),some (.int base),some (.ref lh),some (.ref lmet),some (.int N),some (.str hd),some (.ref h.length),some (.str o),some (.int f),none,none,none] h'):
  (yL [some (.int c),some (.int (kk:Int)),some (.int base),some (.ref lh),some (.ref lmet),some (.int N),some (.str hd),some (.ref h.length),some (.str o),x9,none,none,none] h').W E:=by
 have ls:sn.length<=4:=by
  have:=sub.length_le
  rw [List.length_map,List.length_take] at this
  omega
 unfold yL
 rw [aL]
 have hlv:=Dn g1
 rw [List.length_map] at hlv
 simp (disch:=omega) [hlv]
 generalize base+(N / (7+(sn.length:Int))+c / 3) % ((kk:Int)+3) - 1=f0
 have htk:hs.take (q+1)=hs.take q++[o]:=by rw [List.take_add_one,ho]; rfl
 have rest:∀ (f:Int) (E:FE),(∀ h',(Ext h h'/\ID h' h.length hs (q+1))->E.nx [some (.int c),some (.int (kk:Int)),some (.int base),some (.ref lh),some (.ref lmet),some (.int N),some (.str hd),some (.ref h.length),some (.str o),some (.int f),none,none,none] h')->Lt (gK (Dl (eK (bL (aD vGe (mV 9) (mV 2))) (bL (aD vGt (mV 9) (mC (.int 0))))) (eK (bL (aD vEq (mV 8) (mV 6))) (bL (aD vGt (mV 9) (mC (.int 0))))))
  (hW (mMt isL (onL bA) (mV 7) (aB (bV (aB (mV 8) (aB (mV 9) aH))) aH)))
  jF) E [some (.int c),some (.int (kk:Int)),some (.int base),some (.ref lh),some (.ref lmet),some (.int N),some (.str hd),some (.ref h.length),some (.str o),some (.int f),none,none,none] h':=fun f E hE=>by
  refine now ?_
  rw [iA]
  have ap:=cD (p:=pv (o,f)) g1 (by rw [List.length_map]; omega)
  have ap':onL bA (.ref h.length) [.tup [.str o,.int f]] h'=.ok .non (h'.set h.length (.lst (sn.map pv++[pv (o,f)]))):=ap
  have yes:Ext h (h'.set h.length (.lst (sn.map pv++[pv (o,f)])))/\ID (h'.set h.length (.lst (sn.map pv++[pv (o,f)]))) h.length hs (q+1):=by
   refine ⟨x1.setN (Nat.le_refl _),sn++[(o,f)],by rw [dX g1,List.map_append]; rfl,?_⟩
   rw [htk,List.map_append]
   exact List.Sublist.append sub (List.Sublist.refl _)
  have no:Ext h h'/\ID h' h.length hs (q+1):=by
   refine ⟨x1,sn,g1,?_⟩
   rw [htk]
   exact sub.trans (List.sublist_append_left _ _)
  rw [SB (b1:=decide (base<=f)) (b2:=decide (0 < f)) (b3:=decide (o=hd)) (by simp) (by simp) (by simp),xT]
  generalize (decide (base<=f) && decide (0 < f) || decide (o=hd) && decide (0 < f))=b
  cases b with
  | true=>
   simp [eM g1,ap']
   exact hE _ yes
  | false=>
   simp
   exact hE _ no
 refine now ?_
 rw [aL,iA]
 by_cases e:o=hd
 ·subst e
  simp
  exact rest _ _ fun h2 z=>fin h2 _ z
 ·simp [e]
  exact rest _ _ fun h2 z=>fin h2 _ z
theorem NV (c:Int) (kk:Nat) (hk:kk<=16) (base:Int) (hs:List Str) (h4:hs.length=4) (nd:hs.Nodup) (lh:Nat) (met:List (List St)) (l16:met.length=16) (lmet:Nat) (h:PH) (gh:h[lh]?=some (.lst (hs.map PV.str))) (gm:h[lmet]?=some (.lst (met.map pl))) (Q:PV->PH->Prop)
  (k:∀ d h',Ext h h'->d.nm.2=base+kk->okD d->d.f∈met->d.l∈met->Q (dV d) h'):(yM [.int c,.int (kk:Int),.int base,.ref lh,.ref lmet] h).W Q:=by
 refine jR ?_
 unfold Fw
 rw [aL]; simp
 have hN:=Lm c 1
 generalize mixed c 1=N at hN
 refine now ?_
 rw [aL]
 obtain ⟨hd,_,ehd⟩:=pick (e:=PV.str) h4 (by omega) N
 have vh:=dJ (i:=N % ((4:Nat):Int)) gh
 rw [ehd] at vh
 have vh:vIx (.ref lh) (.int (N % 4)) h=.ok (.str hd) h:=vh
 simp (disch:=omega) [vh]
 refine now ?_
 rw [aL]; simp
 have x0:Ext h (h++[MO.lst []]):=Ext.app _ _
 have g0:ID (h++[MO.lst []]) h.length hs 0:=⟨[],aN,by simp⟩
 generalize h++[MO.lst []]=hA at x0 g0
 refine now ?_
 rw [aL]
 refine jQ (n:=lh) (xs:=hs.map PV.str) (h1:=hA) (fun q δ h'=>Ext h h'/\ID h' h.length hs q/\∃ x8 x9,δ=[some (.int c),some (.int (kk:Int)),some (.int base),some (.ref lh),some (.ref lmet),some (.int N),some (.str hd),some (.ref h.length),x8,x9,none,none,none]) (by simp) (x0 _ _ gh) ⟨x0,g0,_,_,rfl⟩ (fun q δ h' _ i=>i.1 _ _ gh) ?_ ?_
 ·rintro q y δ h' hy ⟨x1,⟨sn,g1,sub⟩,x8,x9,rfl⟩
  rw [List.getElem?_map] at hy
  obtain ⟨o,ho,rfl⟩:=Option.map_eq_some_iff.mp hy
  exact ⟨_,rfl,NU c kk base hs h4 lh lmet N hd h x1 g1 sub ho _ _ fun h2 f z=>⟨z.1,z.2,_,_,rfl⟩⟩
 ·rintro δ h' ⟨x1,⟨sn,g1,sub⟩,x8,x9,rfl⟩
  have gm':=x1 _ _ gm
  have nd':(sn.map (·.1)).Nodup:=(sub.trans (List.take_sublist _ _)).nodup nd
  have ls:sn.length<=4:=by
   have:=sub.length_le
   rw [List.length_map,List.length_take] at this
   omega
  refine now ?_
  rw [aL]
  obtain ⟨f,hf,ef⟩:=pick (e:=pl) l16 (by omega) (N / 4)
  obtain ⟨l,hl,el⟩:=pick (e:=pl) l16 (by omega) (N / 67)
  have vf:=dJ (i:=N / 4 % ((16:Nat):Int)) gm'
  rw [ef] at vf
  have vf:vIx (.ref lmet) (.int (N / 4 % 16)) h'=.ok (pl f) h':=vf
  have vl:=dJ (i:=N / 67 % ((16:Nat):Int)) gm'
  rw [el] at vl
  have vl:vIx (.ref lmet) (.int (N / 67 % 16)) h'=.ok (pl l) h':=vl
  simp (disch:=omega) [vf,vl]
  refine now ?_
  rw [aL]
  have xW:Ext h' (h'++[MO.lst [PV.str "a",PV.str "ab",PV.str "a",PV.str "ab",PV.str "ba"]]):=Ext.app _ _
  have gW:(h'++[MO.lst [PV.str "a",PV.str "ab",PV.str "a",PV.str "ab",PV.str "ba"]])[h'.length]?=some (.lst [PV.str "a",PV.str "ab",PV.str "a",PV.str "ab",PV.str "ba"]):=aN
  obtain ⟨w,_,ew⟩:=pick (xs:=[("a" : Str),"ab","a","ab","ba"]) (e:=PV.str) (n:=5) rfl (by omega) (N / 1091)
  have ew:atI [PV.str "a",PV.str "ab",PV.str "a",PV.str "ab",PV.str "ba"] (N / 1091 % 5)=some (.str w):=ew
  have vw:=dJ (i:=N / 1091 % 5) gW
  rw [ew] at vw
  simp (disch:=omega) [vw]
  generalize h'++[MO.lst [PV.str "a",PV.str "ab",PV.str "a",PV.str "ab",PV.str "ba"]]=hB at xW
  refine now ?_
  rw [aL]; simp
  refine now ?_
  rw [aL,iA]
  have tv:=QA (xW _ _ g1)
  have od:∀ b:Bool,okD ⟨(hd,base+kk),sn,b,f,l,w⟩:=fun b=>⟨nd',by show sn.length<=1000; omega⟩
  have rest:∀ b:Bool,Lt (eZ (bV (aB (bV (aB (mV 6) (aB (aD aT (mV 2) (mV 1)) aH))) (aB (mCB tT (aB (mV 7) aH)) (aB (bV (aB (mV 12) (aB (bV (aB (mC (.str "t")) (aB (mC (.int 1)) aH))) (aB (aD vAt (mV 10) (mC (.int 0))) (aB (aD vAt (mV 10) (mC (.int 1))) (aB (mV 11) aH)))))) aH))))) { nx:=fun _ h=>Q .non h,rt:=Q } [some (.int c),some (.int (kk:Int)),some (.int base),some (.ref lh),some (.ref lmet),some (.int N),some (.str hd),some (.ref h.length),x8,x9,some (.tup [pl f,pl l]),some (.str w),some (.str (if b then "mark" else "clear"))] hB:=fun b=>by
   refine now ?_
   simp [tv]
   exact k ⟨(hd,base+kk),sn,b,f,l,w⟩ _ (x1.trans xW) rfl (od _) hf hl
  by_cases e:c % 5 < 2
  ·simp (disch:=omega) [e]
   exact rest false
  ·simp (disch:=omega) [e]
   exact rest true
theorem DW (ds:List Dd):∀ m∈cX ds,(∃ d∈ds,m.nm=d.nm)/\∀ s∈spn m,∃ d∈ds,s=(d.f,d.l):=by
 rw [rS]
 induction ds with
 | nil=>intro m hm; simp [dZ] at hm
 | cons d r ih=>
  intro m hm
  unfold dZ at hm
  rcases List.mem_append.mp hm with h | h
  ·split at h
   ·simp at h
    subst h
    refine ⟨⟨d,List.mem_cons_self,rfl⟩,fun s hs=>?_⟩
    rcases List.mem_cons.mp hs with z | z
    ·exact ⟨d,List.mem_cons_self,z⟩
    ·have z:s∈[]++(r.filter (pD (mk0 d))).map (fun (d:Dd)=>(d.f,d.l)):=z
     rw [List.nil_append] at z
     obtain ⟨d',hd',rfl⟩:=List.mem_map.mp z
     exact ⟨d',List.mem_cons_of_mem _ (List.mem_filter.mp hd').1,rfl⟩
   ·simp at h
  ·obtain ⟨⟨d',a,b⟩,c⟩:=ih m h
   refine ⟨⟨d',List.mem_cons_of_mem _ a,b⟩,fun s hs=>?_⟩
   obtain ⟨d2,a2,b2⟩:=c s hs
   exact ⟨d2,List.mem_cons_of_mem _ a2,b2⟩
structure MJ (met:List (List St)) (hs:List Str) (base:Int) (q:Nat) (ds:List Dd) (lm ls ld lmet lh:Nat) (h:PH):Prop where
 t:cE h lm ls (cX ds)
 gd:h[ld]?=some (.lst (ds.map dV))
 gm:h[lmet]?=some (.lst (met.map pl))
 gh:h[lh]?=some (.lst (hs.map PV.str))
 len:ds.length=q
 od:∀ d∈ds,okD d
 mem:∀ d∈ds,d.f∈met/\d.l∈met
 nm:∀ d∈ds,d.nm.2 < base+q
 ne:ls≠ld/\lmet≠ld/\lh≠ld/\lmet≠ls/\lh≠ls/\lm≠ld/\lm≠lmet/\lm≠lh
theorem MJ.ext {met:List (List St)} {hs:List Str} {base:Int} {q:Nat} {ds:List Dd} {lm ls ld lmet lh:Nat} {h h':PH} (i:MJ met hs base q ds lm ls ld lmet lh h) (x:Ext h h'):MJ met hs base q ds lm ls ld lmet lh h':=
 ⟨i.t.ext x,x _ _ i.gd,x _ _ i.gm,x _ _ i.gh,i.len,i.od,i.mem,i.nm,i.ne⟩
theorem MJ.sp {met:List (List St)} {hs:List Str} {base:Int} {q:Nat} {ds:List Dd} {lm ls ld lmet lh:Nat} {h:PH} (i:MJ met hs base q ds lm ls ld lmet lh h):∀ s∈spS (cX ds),s.1∈met/\s.2∈met:=fun s hs=>by
 obtain ⟨m,hm,hs⟩:=List.mem_flatMap.mp hs
 obtain ⟨d,hd,rfl⟩:=(DW ds m hm).2 s hs
 exact i.mem d hd
theorem MJ.sm {met:List (List St)} {hs:List Str} {base:Int} {q:Nat} {ds:List Dd} {lm ls ld lmet lh:Nat} {h:PH} (i:MJ met hs base q ds lm ls ld lmet lh h) (hq:q<=16):(cX ds).length < 64/\∀ m∈cX ds,m.hs.length<=1000:=by
 have l1:=Be ds
 have l2:=i.len
 exact ⟨by omega,fun m hm=>Nat.le_trans (DU ds m hm) (by omega)⟩
theorem QB {met:List (List St)} {hs:List Str} {base:Int} {q:Nat} {ds:List Dd} {lm ls ld lmet lh:Nat} {h:PH} (i:MJ met hs base q ds lm ls ld lmet lh h) (hq:q < 16) {d:Dd} (hd:d.nm.2=base+q) (od:okD d) (hf:d.f∈met) (hl:d.l∈met) (a b c e f x9 x10 x11:Option PV) (E:FE)
  (fin:∀ ls' h',MJ met hs base (q+1) (ds++[d]) lm ls' ld lmet lh h'->E.nx [a,b,c,e,f,some (.ref lm),some (.ref ld),some (.int (q:Int)),some (dV d),x9,x10,x11] h'):
  (gK (bL (aD vEq (aD vAt (aD vAt (mV 8) (mC (.int 2))) (mC (.int 0))) (mC (.str "mark"))))
   (hW (dE "mark" 1 nQ (mV 5) (aB (mV 8) aH)))
   (hW (dE "clear" 1 nR (mV 5) (aB (mV 8) aH))) [a,b,c,e,f,some (.ref lm),some (.ref ld),some (.int (q:Int)),some (dV d),x9,x10,x11] (h.set ld (.lst ((ds++[d]).map dV)))).W E:=by
 rw [iA]
 obtain ⟨n1,n2,n3,n4,n5,n6,n7,n8⟩:=i.ne
 have t':cE (h.set ld (.lst ((ds++[d]).map dV))) lm ls (cX ds):=⟨by rw [List.getElem?_set_ne (Ne.symm n6)]; exact i.t.1,by rw [List.getElem?_set_ne (Ne.symm n1)]; exact i.t.2⟩
 have gd':(h.set ld (.lst ((ds++[d]).map dV)))[ld]?=some (.lst ((ds++[d]).map dV)):=dX i.gd
 have gm':(h.set ld (.lst ((ds++[d]).map dV)))[lmet]?=some (.lst (met.map pl)):=by rw [List.getElem?_set_ne (Ne.symm n2)]; exact i.gm
 have gh':(h.set ld (.lst ((ds++[d]).map dV)))[lh]?=some (.lst (hs.map PV.str)):=by rw [List.getElem?_set_ne (Ne.symm n3)]; exact i.gh
 generalize h.set ld (.lst ((ds++[d]).map dV))=hA at t' gd' gm' gh'
 have sm:=i.sm (by omega)
 have a0:=at0 d hA
 have mk:∀ ls' h',cE h' lm ls' (cX (ds++[d]))->h'[ld]?=some (.lst ((ds++[d]).map dV))->h'[lmet]?=some (.lst (met.map pl))->h'[lh]?=some (.lst (hs.map PV.str))->ls'≠ld/\lmet≠ls'/\lh≠ls'->MJ met hs base (q+1) (ds++[d]) lm ls' ld lmet lh h':=fun ls' h' t1 g1 g2 g3 nn=>by
  refine ⟨t1,g1,g2,g3,by rw [List.length_append,i.len]; rfl,fun y hy=>?_,fun y hy=>?_,fun y hy=>?_,nn.1,n2,n3,nn.2.1,nn.2.2,n6,n7,n8⟩
  ·rcases List.mem_append.mp hy with z | z
   ·exact i.od y z
   ·simp at z; subst z; exact od
  ·rcases List.mem_append.mp hy with z | z
   ·exact i.mem y z
   ·simp at z; subst z; exact ⟨hf,hl⟩
  ·rcases List.mem_append.mp hy with z | z
   ·have:=i.nm y z; omega
   ·simp at z; subst z; omega
 have es:=yT ds d
 unfold yS at es
 cases em:d.mkd with
 | true=>
  rw [em] at a0
  rw [em,if_pos rfl] at es
  have me:dE "mark" 1 nQ (mV 5) (aB (mV 8) aH) [a,b,c,e,f,some (.ref lm),some (.ref ld),some (.int (q:Int)),some (dV d),x9,x10,x11] hA=cQ [.ref lm,dV d] hA:=by
   rw [yR t' (f:=cQ) (by simp [nQ]) (by decide) (by simp)]
   simp
  simp [dt2,a0,me]
  have ed:dV d=.tup [pv d.nm,sv d.sn,.tup [.str "mark",.tup [.str "t",.int 1],pl d.f,pl d.l,.str d.w]]:=by unfold dV acV; rw [em]; rfl
  have mo:=NO sm.1 t' d.nm (sv d.sn) (.tup [.str "t",.int 1]) d.f d.l d.w (fun m hm ee=>by
   obtain ⟨⟨d',hd',e'⟩,_⟩:=DW ds m hm
   have:=i.nm d' hd'
   rw [<- e',ee] at this
   omega) (fun _ h'=>E.nx [a,b,c,e,f,some (.ref lm),some (.ref ld),some (.int (q:Int)),some (dV d),x9,x10,x11] h') fun h' t1 k1=>fin ls h' (mk ls h' (by rw [es]; exact t1) (k1 _ _ (Ne.symm n1) gd') (k1 _ _ n4 gm') (k1 _ _ n5 gh') ⟨n1,n4,n5⟩)
  rw [<- ed] at mo
  exact mo
 | false=>
  rw [em] at a0
  rw [em,if_neg (by simp)] at es
  have me:dE "clear" 1 nR (mV 5) (aB (mV 8) aH) [a,b,c,e,f,some (.ref lm),some (.ref ld),some (.int (q:Int)),some (dV d),x9,x10,x11] hA=cI [.ref lm,dV d] hA:=by
   rw [yR t' (f:=cI) (by simp [nR]) (by decide) (by simp)]
   simp
  simp [dt2,a0,DT,me]
  refine Li sm.1 sm.2 t' d _ fun h' ls' t1 k1 b1=>fin ls' h' (mk ls' h' (by rw [es]; exact t1) (k1 _ _ (Ne.symm n6) gd') (k1 _ _ (Ne.symm n7) gm') (k1 _ _ (Ne.symm n8) gh') ?_)
  have q1:=(List.getElem?_eq_some_iff.mp gd').1
  have q2:=(List.getElem?_eq_some_iff.mp gm').1
  have q3:=(List.getElem?_eq_some_iff.mp gh').1
  omega
noncomputable def wR3:Ms:=(aQ (gO (bB (iP (aB (aD vAt (aD vAt (mV 8) (mC (.int 2))) (mC (.int 2))) (aB (aD vAt (aD vAt (mV 8) (mC (.int 2))) (mC (.int 3))) (aB (aD vAt (mV 3) (aD eN (aD aT (aD gG (aD vAt (mV 0) (mV 7)) (mC (.int 5))) (mV 7)) (mC (.int 16)))) aH))))) (gN 9) C8)
  (aQ (bI 10 (dE "rows" 0 nS (mV 5) aH))
  (aQ (gK (bL (aD KZ (mV 10) (cB 1 nO (aB (mV 6) aH))))
   (eZ (mC (.bl false)))
   jF)
  (aQ (gO (bB (mV 10)) (gN 11) C9)
  (hW (Nd isL (onL pV) (mV 10)))))))
theorem NW {ns:List Int} {met:List (List St)} {hs:List Str} {base:Int} {q q1:Nat} {ds:List Dd} {lm ls ld lmet lh:Nat} {h:PH} (i:MJ met hs base q1 ds lm ls ld lmet lh h) (hq1:q1<=16) (l16:met.length=16) (hml:∀ p∈met,p.length<=1000) {cc:Int} (c0:atI (ns.map PV.int) (q:Int)=some (.int cc)) {d:Dd} (hf:d.f∈met) (hl:d.l∈met) (b x9 x10 x11:Option PV) (E:FE)
  (fin:∀ h' y9 y10 y11,MJ met hs base q1 ds lm ls ld lmet lh h'->E.nx [some (.fl (ns.map PV.int)),b,some (.ref lh),some (.ref lmet),some (.int base),some (.ref lm),some (.ref ld),some (.int (q:Int)),some (dV d),y9,y10,y11] h'):
  Lt wR3 E [some (.fl (ns.map PV.int)),b,some (.ref lh),some (.ref lmet),some (.int base),some (.ref lm),some (.ref ld),some (.int (q:Int)),some (dV d),x9,x10,x11] h:=by
 refine now ?_
 unfold wR3
 rw [aL]
 have sm:=i.sm hq1
 have op:∀ d∈ds,okP d:=fun d hd=>⟨hml _ (i.mem d hd).1,hml _ (i.mem d hd).2⟩
 have lD:ds.length<=16:=by rw [i.len]; exact hq1
 obtain ⟨p3,hp3,e3⟩:=pick (e:=pl) l16 (by omega) (cc / 5+q)
 have v3:=dJ (i:=(cc / 5+q) % ((16:Nat):Int)) i.gm
 rw [e3] at v3
 have v3:vIx (.ref lmet) (.int ((cc / 5+q) % 16)) h=.ok (pl p3) h:=v3
 have gL:(h++[MO.lst [pl d.f,pl d.l,pl p3]])[h.length]?=some (.lst ([d.f,d.l,p3].map pl)):=aN
 have xL:Ext h (h++[MO.lst [pl d.f,pl d.l,pl p3]]):=Ext.app _ _
 refine jQ (n:=h.length) (xs:=[d.f,d.l,p3].map pl) (h1:=h++[MO.lst [pl d.f,pl d.l,pl p3]]) (fun r δ h'=>Ext (h++[MO.lst [pl d.f,pl d.l,pl p3]]) h'/\∃ x9,δ=[some (.fl (ns.map PV.int)),b,some (.ref lh),some (.ref lmet),some (.int base),some (.ref lm),some (.ref ld),some (.int (q:Int)),some (dV d),x9,x10,x11]) (by simp (disch:=omega) [dt2,at2,at3,c0,v3]) gL ⟨Ext.refl _,_,rfl⟩ (fun r δ h' _ x=>x.1 _ _ gL) ?_ ?_
 ·rintro r y δ h' hy ⟨x1,x9,rfl⟩
  rw [List.getElem?_map] at hy
  obtain ⟨p,hp,rfl⟩:=Option.map_eq_some_iff.mp hy
  have hpm:p∈met:=by
   have:=List.mem_of_getElem? hp
   simp at this
   rcases this with rfl | rfl | rfl <;> assumption
  have i4:=i.ext (xL.trans x1)
  refine ⟨_,rfl,?_⟩
  unfold C8
  rw [iA]
  have me:dE "words_at" 1 rQ (mV 5) (aB (mV 9) aH) [some (.fl (ns.map PV.int)),b,some (.ref lh),some (.ref lmet),some (.int base),some (.ref lm),some (.ref ld),some (.int (q:Int)),some (dV d),some (pl p),x10,x11] h'=bN [.ref lm,pl p] h':=by
   rw [yR i4.t (f:=bN) (by simp [rQ]) (by decide) (by simp)]
   simp
  simp [me]
  refine Lg i4.sp (by omega) hml sm.2 sm.1 (hml p hpm) i4.t _ fun n h5 x5 bn gn=>?_
  refine Fz lD i.od op (hml p hpm) (x5 _ _ i4.gd) _ fun n6 h6 x6 g6=>?_
  have vn:=Gw (x6 _ _ gn) g6 (Cc _) (Cc _)
  simp [vn]
  exact (x1.trans x5).trans x6
 ·rintro δ h' ⟨x1,x9,rfl⟩
  have i4:=i.ext (xL.trans x1)
  clear gL v3 e3 x1 xL i
  refine now ?_
  rw [aL]
  have me:dE "rows" 0 nS (mV 5) aH [some (.fl (ns.map PV.int)),b,some (.ref lh),some (.ref lmet),some (.int base),some (.ref lm),some (.ref ld),some (.int (q:Int)),some (dV d),x9,x10,x11] h'=bP [.ref lm] h':=by
   rw [yR i4.t (f:=bP) (by simp [nS]) (by decide) (by simp)]
   simp
  simp only [Gr,me]
  refine GQ sm.1 i4.t _ fun n7 h7 us x7 b7 r7 o7=>?_
  have i7:=i4.ext x7
  simp only [List.set_cons_succ,List.set_cons_zero]
  refine now ?_
  rw [aL,iA]
  simp
  refine Bf lD i7.od i7.gd _ fun n8 h8 zs r8 b8=>?_
  have r7':nU h8 n7 (cX ds) us:=⟨r7.1,r8.x _ _ r7.2.1,fun z hz=>r8.x _ _ (r7.2.2 z hz)⟩
  have ne:=(GR r7' r8.r).1
  simp [ne]
  have x8:=x7.trans r8.x
  clear r8 ne r7 i7
  refine now ?_
  rw [aL]
  obtain ⟨p0,e0⟩:∃ p,atI (met.map pl) 0=some (pl p):=by
   refine ⟨met[0]'(by omega),?_⟩
   exact pS (i:=0) (by rw [List.getElem?_map,List.getElem?_eq_getElem (by omega)]; rfl)
  obtain ⟨p1,e1⟩:∃ p,atI (met.map pl) 1=some (pl p):=by
   refine ⟨met[1]'(by omega),?_⟩
   exact pS (i:=1) (by rw [List.getElem?_map,List.getElem?_eq_getElem (by omega)]; rfl)
  refine jQ (n:=n7) (xs:=us.map rwV) (h1:=h8) (fun r δ h2=>Ext h' h2/\h2[n7]?=some (.lst (us.map rwV))/\(∀ z∈us,∃ xs:List PV,h2[z.2]?=some (.lst xs)/\xs.length<=1000+r)/\∃ x11,δ=[some (.fl (ns.map PV.int)),b,some (.ref lh),some (.ref lmet),some (.int base),some (.ref lm),some (.ref ld),some (.int (q:Int)),some (dV d),x9,some (.ref n7),x11]) (by simp) r7'.2.1 ⟨x8,r7'.2.1,fun z hz=>⟨_,r7'.2.2 z hz,by
    rw [List.length_map]
    exact Nat.le_trans (sm.2 z.1 (by rw [<- r7'.1]; exact List.mem_map_of_mem hz)) (by omega)⟩,_,rfl⟩ (fun r δ h2 _ x=>x.2.1) ?_ ?_
  ·rintro r y δ h2 hy ⟨x2,g2,o2,x11,rfl⟩
   have hr:=(List.getElem?_eq_some_iff.mp hy).1
   rw [List.getElem?_map] at hy
   obtain ⟨z,hz,rfl⟩:=Option.map_eq_some_iff.mp hy
   have hzm:=List.mem_of_getElem? hz
   obtain ⟨xs,gx,lx⟩:=o2 z hzm
   have lz:=o7 z hzm
   have lus:us.length < 64:=by
    have:=congrArg List.length r7'.1
    rw [List.length_map] at this
    omega
   rw [List.length_map] at hr
   refine ⟨_,rfl,?_⟩
   unfold C9
   have a4:vIx (rwV z) (.int 4) h2=.ok (.ref z.2) h2:=by unfold rwV; simp
   have gm2:=x2 _ _ i4.gm
   have v0:vIx (.ref lmet) (.int 0) h2=.ok (pl p0) h2:=by rw [dJ gm2,e0]; rfl
   have v1:vIx (.ref lmet) (.int 1) h2=.ok (pl p1) h2:=by rw [dJ gm2,e1]; rfl
   have ap:=cD (p:=.tup [pl p0,pl p1]) gx (by omega)
   simp [a4,eM gx,v0,v1,ap]
   refine ⟨x2.setN (by omega),by rw [List.getElem?_set_ne (by omega)]; exact g2,fun a c hu=>?_⟩
   by_cases zz:c=z.2
   ·subst zz
    exact ⟨_,dX gx,by simp; omega⟩
   ·obtain ⟨ys,gy,ly⟩:=o2 (a,c) hu
    refine ⟨ys,?_,by omega⟩
    rw [List.getElem?_set_ne (Ne.symm zz)]; exact gy
  ·rintro δ h2 ⟨x2,g2,o2,x11,rfl⟩
   refine now ?_
   have cl:=Ir g2
   simp [eM g2,cl]
   exact fin _ _ _ _ (i4.ext (x2.setN b7))
theorem NX {ns:List Int} {met:List (List St)} {hs:List Str} {base:Int} {q:Nat} {ds:List Dd} {lm ls ld lmet lh:Nat} {h:PH} (i:MJ met hs base q ds lm ls ld lmet lh h) (hq:q < 16) (hqn:q < ns.length) (h4:hs.length=4) (nd:hs.Nodup) (l16:met.length=16) (hml:∀ p∈met,p.length<=1000) (b x8 x9 x10 x11:Option PV) (E:FE)
  (fin:∀ ds' ls' h' y8 y9 y10 y11,MJ met hs base (q+1) ds' lm ls' ld lmet lh h'->E.nx [some (.fl (ns.map PV.int)),b,some (.ref lh),some (.ref lmet),some (.int base),some (.ref lm),some (.ref ld),some (.int (q:Int)),y8,y9,y10,y11] h'):
  (vU [some (.fl (ns.map PV.int)),b,some (.ref lh),some (.ref lmet),some (.int base),some (.ref lm),some (.ref ld),some (.int (q:Int)),x8,x9,x10,x11] h).W E:=by
 unfold vU
 obtain ⟨cc,c0⟩:∃ cc,atI (ns.map PV.int) (q:Int)=some (.int cc):=⟨ns[q],pS (by rw [List.getElem?_map,List.getElem?_eq_getElem hqn]; rfl)⟩
 rw [aL]
 simp [c0]
 refine NV cc q (by omega) base hs h4 nd lh met l16 lmet h i.gh i.gm _ fun d h1 x1 hd od hf hl=>?_
 have i1:=i.ext x1
 refine now ?_
 rw [aL]
 have ap:=cD (p:=dV d) i1.gd (by rw [List.length_map,i1.len]; omega)
 rw [show ds.map dV++[dV d]=(ds++[d]).map dV by rw [List.map_append]; rfl] at ap
 have il:=eM i1.gd
 have key:∀ E:FE,(∀ ls' h',MJ met hs base (q+1) (ds++[d]) lm ls' ld lmet lh h'->E.nx [some (.fl (ns.map PV.int)),b,some (.ref lh),some (.ref lmet),some (.int base),some (.ref lm),some (.ref ld),some (.int (q:Int)),some (dV d),x9,x10,x11] h')->_:=fun E fin=>QB i1 hq hd od hf hl _ _ _ _ _ _ _ _ E fin
 generalize h1.set ld (.lst ((ds++[d]).map dV))=h2 at ap key
 simp [il,ap]
 refine now ?_
 rw [aL]
 have:=key { nx:=Lt wR3 E,rt:=E.rt,bk:=E.bk,ct:=E.ct } fun ls' h' j=>NW j (by omega) l16 hml c0 hf hl b x9 x10 x11 E fun h3 y9 y10 y11 j'=>fin (ds++[d]) ls' h3 _ y9 y10 y11 j'
 exact this
theorem main (ns:List Int) (hl:ns.length<=63):∃ h,L4 [.fl (ns.map PV.int)] []=.ok (.bl true) h:=by
 have w:(L4 [.fl (ns.map PV.int)] []).W fun p _=>p=.bl true:=by
  refine jR ?_
  unfold L3
  rw [aL]
  simp
  refine now ?_
  rw [aL,iA]
  have rest:∀ c:Int,Lt (aQ (bI 2 (cB 1 oV (aB (mV 1) aH)))
 (aQ (bI 3 (cB 2 kK (aB (mV 0) (aB (mV 2) aH))))
 (aQ (bI 4 (aD aT (mC (.int 1)) (aD eN (aD gG (mV 1) (mC (.int 11))) (aD vAt (iP (aB (mC (.int 1)) (aB (mC (.int 3)) (aB (aD PM (mC (.int 10)) (mC (.int 11))) aH)))) (aD eN (aD gG (mV 1) (mC (.int 5))) (mC (.int 3)))))))
 (aQ (bI 5 (GF "Marks" 0 bM aH))
 (aQ (bI 6 (iP aH))
 (aQ (gO (uU (aB (mCB DB (aB (mCB qY (aB (mV 0) aH)) (aB (mC (.int 16)) aH))) aH)) (gN 7) vU)
 (eZ (aD KY (dE "rows" 0 nT (mV 5) aH) (cB 1 nO (aB (mV 6) aH)))))))))) { nx:=fun _ _=>False,rt:=fun p _=>p=.bl true } [some (.fl (ns.map PV.int)),some (.int c),none,none,none,none,none,none,none,none,none,none] []:=fun c=>by
   refine now ?_
   rw [aL]
   simp
   refine Lo c [] _ fun hs lh h1 x1 b1 h4 nd gh=>?_
   refine now ?_
   rw [aL]
   simp
   refine IC ns hs h4 lh h1 gh _ fun met lmet h2 x2 b2 gm=>?_
   have gh2:=x2 _ _ gh
   have llh:=(List.getElem?_eq_some_iff.mp gh2).1
   have llm:=(List.getElem?_eq_some_iff.mp gm.1).1
   refine now ?_
   rw [aL]
   have xB:Ext h2 (h2++[MO.lst [PV.int 1,PV.int 3,PV.int 100000000000]]):=Ext.app _ _
   have gB:(h2++[MO.lst [PV.int 1,PV.int 3,PV.int 100000000000]])[h2.length]?=some (.lst [PV.int 1,PV.int 3,PV.int 100000000000]):=aN
   obtain ⟨v,ev,v0⟩:∃ v:Int,atI [PV.int 1,PV.int 3,PV.int 100000000000] (c / 5 % 3)=some (.int v)/\0 < v:=by
    have:c / 5 % 3=0\/c / 5 % 3=1\/c / 5 % 3=2:=by omega
    rcases this with e | e | e <;> rw [e] <;> refine ⟨_,rfl,by decide +kernel⟩
   have vb:=dJ (i:=c / 5 % 3) gB
   rw [ev] at vb
   simp (disch:=omega) [vb]
   generalize h2++[MO.lst [PV.int 1,PV.int 3,PV.int 100000000000]]=h' at xB
   generalize 1+c / 11 % v=base
   have gm':=xB _ _ gm.1
   have gh':=xB _ _ gh2
   have lh':=(List.getElem?_eq_some_iff.mp gh').1
   have lm':=(List.getElem?_eq_some_iff.mp gm').1
   refine now ?_
   rw [aL]
   have gi:(h'++[MO.ins "Marks" []])[h'.length]?=some (.ins "Marks" []):=aN
   have ei:=NP gi
   have le:(h'++[MO.ins "Marks" []]).length=h'.length+1:=by simp
   have xI:Ext h' ((h'++[MO.ins "Marks" []]++[MO.lst []]).set h'.length (.ins "Marks" [("standing",.ref (h'.length+1))])):=by
    refine Ext.setN ?_ (Nat.le_refl _)
    exact (Ext.app h' [MO.ins "Marks" []]).trans (Ext.app _ _)
   have t0:cE ((h'++[MO.ins "Marks" []]++[MO.lst []]).set h'.length (.ins "Marks" [("standing",.ref (h'.length+1))])) h'.length (h'.length+1) []:=by
    refine ⟨dX (Ext.app _ [MO.lst []] _ _ gi),?_⟩
    rw [List.getElem?_set_ne (by omega),<- le]
    exact aN
   rw [le] at ei
   generalize (h'++[MO.ins "Marks" []]++[MO.lst []]).set h'.length (.ins "Marks" [("standing",.ref (h'.length+1))])=hI at ei xI t0
   simp [ei]
   refine now ?_
   rw [aL]
   simp
   have xJ:Ext hI (hI++[MO.lst []]):=Ext.app _ _
   have gJ:(hI++[MO.lst []])[hI.length]?=some (.lst (([]:List Dd).map dV)):=aN
   have lI:h'.length+1 < hI.length:=(List.getElem?_eq_some_iff.mp t0.2).1
   have i0:MJ met hs base 0 [] h'.length (h'.length+1) hI.length lmet lh (hI++[MO.lst []]):=⟨t0.ext xJ,gJ,xJ _ _ (xI _ _ gm'),xJ _ _ (xI _ _ gh'),rfl,fun d hd=>by simp at hd,fun d hd=>by simp at hd,fun d hd=>by simp at hd,by omega⟩
   generalize hI++[MO.lst []]=hJ at xJ gJ i0
   generalize hI.length=ld at i0
   generalize h'.length+1=ls at i0
   generalize h'.length=lmk at i0
   have hml:∀ p∈met,p.length<=1000:=fun p hp=>Nat.le_trans (gm.2.2 p hp) (by omega)
   refine now ?_
   rw [aL]
   refine BS (j:=if (16:Int) < ns.length then 16 else (ns.length:Int)) (fun q δ h'=>(∃ ds ls,MJ met hs base q ds lmk ls ld lmet lh h')/\∃ x7 x8 x9 x10 x11,δ=[some (.fl (ns.map PV.int)),some (.int c),some (.ref lh),some (.ref lmet),some (.int base),some (.ref lmk),some (.ref ld),x7,x8,x9,x10,x11]) (by simp) (by split <;> omega) ⟨⟨_,_,i0⟩,_,_,_,_,_,rfl⟩ ?_ ?_
   ·rintro q δ h2 hq ⟨⟨ds,ls,i⟩,x7,x8,x9,x10,x11,rfl⟩
    have hq':q < 16/\q < ns.length:=by split at hq <;> omega
    exact NX i hq'.1 hq'.2 h4 nd gm.2.1 hml _ x8 x9 x10 x11 _ fun ds' ls' h3 y8 y9 y10 y11 i'=>⟨⟨ds',ls',i'⟩,_,_,_,_,_,rfl⟩
   ·rintro δ h2 ⟨⟨ds,ls,i⟩,x7,x8,x9,x10,x11,rfl⟩
    have hq:(if (16:Int) < ns.length then 16 else (ns.length:Int)).toNat<=16:=by split <;> omega
    generalize (if (16:Int) < ns.length then 16 else (ns.length:Int)).toNat=q at i hq
    have sm:=i.sm hq
    have lD:ds.length<=16:=by rw [i.len]; exact hq
    refine now ?_
    have me:dE "rows" 0 nT (mV 5) aH [some (.fl (ns.map PV.int)),some (.int c),some (.ref lh),some (.ref lmet),some (.int base),some (.ref lmk),some (.ref ld),x7,x8,x9,x10,x11] h2=bP [.ref lmk] h2:=by
     rw [yR i.t (f:=bP) (by simp [nT]) (by decide) (by simp)]
     simp
    simp only [K',Gs,me,xU]
    refine GQ sm.1 i.t _ fun n7 h7 us x7 b7 r7 o7=>?_
    simp
    refine Bf lD i.od (x7 _ _ i.gd) _ fun n8 h8 zs r8 b8=>?_
    have r7':nU h8 n7 (cX ds) us:=⟨r7.1,r8.x _ _ r7.2.1,fun z hz=>r8.x _ _ (r7.2.2 z hz)⟩
    have ev:=(GR r7' r8.r).2
    simp [ev]
  by_cases e:0 < ns.length
  ·obtain ⟨c,hc⟩:∃ c,atI (ns.map PV.int) 0=some (.int c):=⟨ns[0],pS (i:=0) (by rw [List.getElem?_map,List.getElem?_eq_getElem e]; rfl)⟩
   simp [e,hc]
   exact rest c
  ·simp [e]
   exact rest 0
 obtain ⟨p,h,e,rfl⟩:=tW w
 exact ⟨h,e⟩
end K42
set_option Elab.async false
set_option linter.all false
set_option maxRecDepth 100000
set_option maxHeartbeats 4000000
namespace K42
open PySem L2
def top (i:Nat):Stmt:=PySem.Challenge.pw_copymeet_k42_holes_in_marks.main.body.getD i (.Pass ⟨0,0,0,0⟩)
abbrev bsL:List Str:=["range","sorted","len","tuple","list","any","set","min"]
abbrev cC (w:World) (K:PySem.W.Frag) (cl:Str->Option Addr):MC:=⟨K,cl,bsL,fun _ _ _=>False,w⟩
abbrev lY:Stmt:=top 12
theorem kM:aZ ["_law_cell","_law_size","_law_at","_law_found","_law_k","_law_letter"] ["_law_cell"] (aF lY):=⟨rfl,rfl,rfl,by decide +kernel,rfl,by decide +kernel,by decide +kernel⟩
abbrev jK:Stmt:=top 11
theorem DX:aZ ["_law_cell","_law_k","_law_number"] ["_law_cell","_law_k"] (aF jK):=⟨rfl,rfl,rfl,by decide +kernel,rfl,by decide +kernel,by decide +kernel⟩
abbrev iW:Stmt:=top 13
theorem dM:aZ ["_law_script","_law_hands_here","_law_met","_law_k","_law_cell","_law_step","_law_under"] ["_law_script","_law_hands_here"] (aF iW):=⟨rfl,rfl,rfl,by decide +kernel,rfl,by decide +kernel,by decide +kernel⟩
abbrev bX:Stmt:=inClass (top 9) 0
theorem rT:aZ ["self"] ["self"] (aF bX):=⟨rfl,rfl,rfl,by decide +kernel,rfl,by decide +kernel,by decide +kernel⟩
abbrev qI:Stmt:=top 14
theorem fB:aZ ["_law_cell","_law_k","_law_base","_law_hands_here","_law_met","_law_number","_law_hand","_law_seen","_law_other","_law_far","_law_ends","_law_word","_law_deed_here"] ["_law_cell","_law_k","_law_base","_law_hands_here","_law_met"] (aF qI):=⟨rfl,rfl,rfl,by decide +kernel,rfl,by decide +kernel,by decide +kernel⟩
abbrev dN:Stmt:=inClass (top 9) 6
theorem A6:aZ ["self"] ["self"] (aF dN):=⟨rfl,rfl,rfl,by decide +kernel,rfl,by decide +kernel,by decide +kernel⟩
abbrev mO:List Str:=["mark"]
theorem uD:(mO).Nodup:=by decide +kernel
abbrev iX:Stmt:=top 1
theorem uE:aZ ["seen","name","hand","n"] ["seen","name"] (aF iX):=⟨rfl,rfl,rfl,by decide +kernel,rfl,by decide +kernel,by decide +kernel⟩
abbrev lZ:Stmt:=top 8
theorem fC:aZ ["mark","deed","name","first","last","word","holes","clear_name","seen","act"] ["mark","deed"] (aF lZ):=⟨rfl,rfl,rfl,by decide +kernel,rfl,by decide +kernel,by decide +kernel⟩
abbrev cS:Stmt:=inClass (top 9) 2
theorem yV:aZ ["self","deed"] ["self","deed"] (aF cS):=⟨rfl,rfl,rfl,by decide +kernel,rfl,by decide +kernel,by decide +kernel⟩
abbrev kN:List Str:=["mark","deed"]
theorem rU:(kN).Nodup:=by decide +kernel
abbrev dG:Stmt:=top 15
theorem DY:aZ ["_law_seen","_law_name"] ["_law_seen","_law_name"] (aF dG):=⟨rfl,rfl,rfl,by decide +kernel,rfl,by decide +kernel,by decide +kernel⟩
abbrev pI:List Str:=["_law_hand","_law_n","_law_name"]
theorem nV:(pI).Nodup:=by decide +kernel
abbrev qJ:Stmt:=top 17
theorem oX:aZ ["_law_deeds","_law_rows_here","_law_name","_law_seen","_law_act","_law_row"] ["_law_deeds"] (aF qJ):=⟨rfl,rfl,rfl,by decide +kernel,rfl,by decide +kernel,by decide +kernel⟩
abbrev dO:Stmt:=inClass (top 9) 1
theorem fZ:aZ ["self","deed","name","seen","act"] ["self","deed"] (aF dO):=⟨rfl,rfl,rfl,by decide +kernel,rfl,by decide +kernel,by decide +kernel⟩
abbrev mQ:List Str:=["mark"]
theorem uF:(mQ).Nodup:=by decide +kernel
abbrev fO:Stmt:=top 3
theorem FB:aZ ["place"] ["place"] (aF fO):=⟨rfl,rfl,rfl,by decide +kernel,rfl,by decide +kernel,by decide +kernel⟩
abbrev eP:Stmt:=top 6
theorem nW:aZ ["places","numbers","place"] ["places"] (aF eP):=⟨rfl,rfl,rfl,by decide +kernel,rfl,by decide +kernel,by decide +kernel⟩
abbrev dH:Stmt:=top 5
theorem DZ:aZ ["mark"] ["mark"] (aF dH):=⟨rfl,rfl,rfl,by decide +kernel,rfl,by decide +kernel,by decide +kernel⟩
abbrev dP:Stmt:=inClass (top 9) 5
theorem eL:aZ ["self","found","mark","first","last"] ["self"] (aF dP):=⟨rfl,rfl,rfl,by decide +kernel,rfl,by decide +kernel,by decide +kernel⟩
abbrev mB:Stmt:=top 7
theorem E1:aZ ["spans","number","inside"] ["spans","number"] (aF mB):=⟨rfl,rfl,rfl,by decide +kernel,rfl,by decide +kernel,by decide +kernel⟩
abbrev yW:List Str:=["first","last","number"]
theorem vC:(yW).Nodup:=by decide +kernel
abbrev bG:Stmt:=inClass (top 9) 4
theorem aV:aZ ["self","places","numbers","marks","mark","words","place","number"] ["self","places"] (aF bG):=⟨rfl,rfl,rfl,by decide +kernel,rfl,by decide +kernel,by decide +kernel⟩
abbrev fD:List Str:=["first","last","numbers"]
theorem eX:(fD).Nodup:=by decide +kernel
abbrev fE:List Str:=["word","spans","number"]
theorem eY:(fE).Nodup:=by decide +kernel
abbrev bY:Stmt:=inClass (top 9) 3
theorem rV:aZ ["self","place"] ["self","place"] (aF bY):=⟨rfl,rfl,rfl,by decide +kernel,rfl,by decide +kernel,by decide +kernel⟩
abbrev FC:Stmt:=top 16
theorem OO:aZ ["_law_place","_law_ends","_law_key"] ["_law_place","_law_ends"] (aF FC):=⟨rfl,rfl,rfl,by decide +kernel,rfl,by decide +kernel,by decide +kernel⟩
abbrev mD:Stmt:=top 18
theorem gU:aZ ["_law_deeds","_law_place","_law_words_here","_law_k","_law_name","_law_seen","_law_act","_law_later"] ["_law_deeds","_law_place"] (aF mD):=⟨rfl,rfl,rfl,by decide +kernel,rfl,by decide +kernel,by decide +kernel⟩
abbrev yX:List Str:=["_law_one","_law_act"]
theorem E2:(yX).Nodup:=by decide +kernel
abbrev yY:List Str:=["_law_one","_law_name","_law_place"]
theorem E3:(yY).Nodup:=by decide +kernel
abbrev rW:Stmt:=top 19
theorem fP:aZ ["_law_script","_law_cell","_law_hands_here","_law_met","_law_base","_law_marks","_law_deeds","_law_k","_law_deed_here","_law_place","_law_found","_law_row"] ["_law_script"] (aF rW):=⟨rfl,rfl,rfl,by decide +kernel,rfl,by decide +kernel,by decide +kernel⟩
section
variable {P:Program} {w:World} {K:PySem.W.Frag} {mg:Str->Option Value} {base:Heap} {cl:Str->Option Addr}
theorem Lp {f:Addr} {fd:FuncData} (hbn:∀ x∈bsL,mg x=none) (F:Fun K "_law_hands" "_law_hands" lY f fd):aM P w K mg base CX0 1 f fd ["_law_cell"] (spM (cC w K cl) 1 oV):=
 dU (C:=cC w K cl) (k:=0) (N:=["_law_cell","_law_size","_law_at","_law_found","_law_k","_law_letter"]) (body:=C3) (fun _ _ _ h=>h) hbn F kM fun cdv A outer s H E=>
 (aG (bF (i:=1) kM.nd (aJ bJ aE (aJ eJ (aA 0) aE)))
 (aG (bF (i:=2) kM.nd (aJ eJ (aJ gH (aA 0) aE) (aA 1)))
 (aG (bF (i:=3) kM.nd (gI aI))
 (aG (iS (BP (aC aE aI) (hb:=(.head _))) (aO kM.nd)
  (aG (bF (i:=5) kM.nd (aW iN (aJ eJ (aJ bJ (aJ gH (aA 0) aE) (aJ AU (aA 4) (aJ bJ aE (aJ eJ (aJ gH (aA 0) aE) aE)))) aE)))
  (aK (iQ (xR PySem.F.plainAttrs_list PySem.F.slot_list_append PySem.F.type_list_append dB (aA 3) (aC (aJ bJ (aJ bJ (aJ OI iN (aA 2)) (aA 5)) (aJ OI iN (aJ Dj (aJ Dj (aA 1) aE) (aA 2)))) aI))))))
 (aK (dA (fY GD PyProof.Rows.Boot.«sorted» (aC (aA 3) aI) (hb:=(.tail _ (.head _))))))))))
theorem Lq {f:Addr} {fd:FuncData} (hbn:∀ x∈bsL,mg x=none) (F:Fun K "_law_mixed" "_law_mixed" jK f fd):aM P w K mg base CX0 1 f fd ["_law_cell","_law_k"] (spM (cC w K cl) 2 jJ):=
 dU (C:=cC w K cl) (k:=0) (N:=["_law_cell","_law_k","_law_number"]) (body:=C4) (fun _ _ _ h=>h) hbn F DX fun cdv A outer s H E=>
 (aG (bF (i:=2) DX.nd (aJ eJ (aJ AU (aJ bJ (aJ bJ (aA 0) (aJ AU aE (aA 1))) aE) aE) aE))
 (aK (dA (aJ eJ (aJ AU (aA 2) (aJ bJ (aJ gH (aA 2) aE) aE)) aE))))
theorem IE {f:Addr} {fd:FuncData} (hbn:∀ x∈bsL,mg x=none) (F:Fun K "_law_places" "_law_places" iW f fd) {mE:Addr} {nX:FuncData} (mF:Def K mg "_law_mixed" jK mE nX ["_law_cell","_law_k"]) (oY:aM P w K mg base CX0 1 mE nX ["_law_cell","_law_k"] (spM (cC w K cl) 2 jJ)):aM P w K mg base CX0 2 f fd ["_law_script","_law_hands_here"] (spM (cC w K cl) 2 kK):=
 dU (C:=cC w K cl) (k:=1) (N:=["_law_script","_law_hands_here","_law_met","_law_k","_law_cell","_law_step","_law_under"]) (body:=yK) (fun _ _ _ h=>h) hbn F dM fun cdv A outer s H E=>
 (aG (bF (i:=2) dM.nd (gI aI))
 (aG (iS (BP (aC aE aI) (hb:=(.head _))) (aO dM.nd)
  (aG (bF (i:=4) dM.nd (aJ AU aE (aA 3)))
  (aG (nJ (cM Kg (aA 3) (fY AW PyProof.Rows.Boot.«len» (aC (aA 0) aI) (hb:=(.tail _ (.tail _ (.head _))))))
   (aK (bF (i:=4) dM.nd (s_call mF oY (aC (aW (aA 0) (aA 3)) (aC aE aI)))))
   eO)
  (aG (bF (i:=5) dM.nd (cA (aC (aJ Dj (aJ AU (aJ eJ (aA 4) aE) aE) aE) (aC (aW (aA 1) (aJ eJ (aJ gH (aA 4) aE) aE)) (aC (aJ bJ aE (aJ eJ (aJ gH (aA 4) aE) aE)) (aC (aJ eJ (aJ gH (aA 4) aE) aE) aI))))))
  (aG (bF (i:=6) dM.nd (cA aI))
  (aG (nJ (SW.t (w_and (cM JZ (aA 3) aE) (lN (cM JZ (aJ eJ (aJ gH (aA 4) aE) aE) aE))))
   (aK (bF (i:=6) dM.nd (aW (aA 2) (aJ eJ (aJ gH (aA 4) aE) (aA 3)))))
   eO)
  (aG (nJ (cM tQ (aA 6) (cA aI))
   (aK (bF (i:=5) dM.nd (aJ bJ (cA (aC aE aI)) (HP (aA 5) (nG aE) BN))))
   eO)
  (aK (iQ (xR PySem.F.plainAttrs_list PySem.F.slot_list_append PySem.F.type_list_append dB (aA 2) (aC (aJ bJ (aA 6) (cA (aC (aA 5) aI))) aI)))))))))))
 (aK (dA (aA 2)))))
theorem rX {f:Addr} {fd:FuncData} (hbn:∀ x∈bsL,mg x=none) (F:Fun K "__init__" "Marks.__init__" bX f fd) (FF_standing:A4 (cC w K cl) "standing"):aM P w K mg base CX0 1 f fd ["self"] (spM (cC w K cl) 1 bM):=
 dU (C:=cC w K cl) (k:=0) (N:=["self"]) (body:=fM) (fun _ _ _ h=>h) hbn F rT fun cdv A outer s H E=>
 (aK (OM FF_standing (gI aI) (aA 0)))
theorem NY {f:Addr} {fd:FuncData} (hbn:∀ x∈bsL,mg x=none) (F:Fun K "_law_deed" "_law_deed" qI f fd) {mE:Addr} {nX:FuncData} (mF:Def K mg "_law_mixed" jK mE nX ["_law_cell","_law_k"]) (oY:aM P w K mg base CX0 1 mE nX ["_law_cell","_law_k"] (spM (cC w K cl) 2 jJ)):aM P w K mg base CX0 2 f fd ["_law_cell","_law_k","_law_base","_law_hands_here","_law_met"] (spM (cC w K cl) 5 yM):=
 dU (C:=cC w K cl) (k:=1) (N:=["_law_cell","_law_k","_law_base","_law_hands_here","_law_met","_law_number","_law_hand","_law_seen","_law_other","_law_far","_law_ends","_law_word","_law_deed_here"]) (body:=Fw) (fun _ _ _ h=>h) hbn F fB fun cdv A outer s H E=>
 (aG (bF (i:=5) fB.nd (s_call mF oY (aC (aA 0) (aC aE aI))))
 (aG (bF (i:=6) fB.nd (aW (aA 3) (aJ eJ (aA 5) aE)))
 (aG (bF (i:=7) fB.nd (gI aI))
 (aG (iS (eU (aA 3)) (aO fB.nd)
  (aG (bF (i:=9) fB.nd (aJ Dj (aJ bJ (aA 2) (aJ eJ (aJ bJ (aJ gH (aA 5) (aJ bJ aE (fY AW PyProof.Rows.Boot.«len» (aC (aA 7) aI) (hb:=(.tail _ (.tail _ (.head _))))))) (aJ gH (aA 0) aE)) (aJ bJ (aA 1) aE))) aE))
  (aG (nJ (cM tQ (aA 8) (aA 6))
   (aK (bF (i:=9) fB.nd (aJ Dj (aJ bJ (aA 2) (aA 1)) aE)))
   eO)
  (aK (nJ (SW.t (w_or (SW.t (w_and (cM U6 (aA 9) (aA 2)) (lN (cM JZ (aA 9) aE)))) (OG (SW.t (w_and (cM tQ (aA 8) (aA 6)) (lN (cM JZ (aA 9) aE)))))))
   (aK (iQ (xR PySem.F.plainAttrs_list PySem.F.slot_list_append PySem.F.type_list_append dB (aA 7) (aC (cA (aC (aA 8) (aC (aA 9) aI))) aI))))
   eO)))))
 (aG (bF (i:=10) fB.nd (cA (aC (aW (aA 4) (aJ eJ (aJ gH (aA 5) aE) aE)) (aC (aW (aA 4) (aJ eJ (aJ gH (aA 5) aE) aE)) aI))))
 (aG (bF (i:=11) fB.nd (aW (gI (aC iN (aC iN (aC iN (aC iN (aC iN aI)))))) (aJ eJ (aJ gH (aA 5) aE) aE)))
 (aG (bF (i:=12) fB.nd iN)
 (aG (nJ (cM Kg (aJ eJ (aA 0) aE) aE)
  (aK (bF (i:=12) fB.nd iN))
  eO)
 (aK (dA (cA (aC (cA (aC (aA 6) (aC (aJ bJ (aA 2) (aA 1)) aI))) (aC (qX N' PyProof.Rows.Boot.«tuple» (aC (aA 7) aI) (hb:=(.tail _ (.tail _ (.tail _ (.head _)))))) (aC (cA (aC (aA 12) (aC (cA (aC iN (aC aE aI))) (aC (aW (aA 10) aE) (aC (aW (aA 10) aE) (aC (aA 11) aI)))))) aI))))))))))))))
theorem A7 {f:Addr} {fd:FuncData} (hbn:∀ x∈bsL,mg x=none) (F:Fun K "rows" "Marks.rows" dN f fd) (FF_standing:A4 (cC w K cl) "standing"):aM P w K mg base CX0 1 f fd ["self"] (spM (cC w K cl) 1 bP):=
 dU (C:=cC w K cl) (k:=0) (N:=["self"]) (body:=lT) (fun _ _ _ h=>h) hbn F A6 fun cdv A outer s H E=>
 (aK (dA (tU (js:=[none]) (N:=mO) rfl rfl (by rfl) (eU (B5 FF_standing (aA 0))) (fun _ _ _ _=>(aO uD)) (fun _ _ _ _=>xQ) (fun _ _ _ _=>(aJ bJ (HP (aA 0) BN (nG aE)) (cA (aC (qX yJ PyProof.Rows.Boot.«list» (aC (aW (aA 0) aE) aI) (hb:=(.tail _ (.tail _ (.tail _ (.tail _ (.head _))))))) aI)))))))
theorem IF {f:Addr} {fd:FuncData} (hbn:∀ x∈bsL,mg x=none) (F:Fun K "covers" "covers" iX f fd):aM P w K mg base CX0 1 f fd ["seen","name"] (spM (cC w K cl) 2 kL):=
 dU (C:=cC w K cl) (k:=0) (N:=["seen","name","hand","n"]) (body:=yO) (fun _ _ _ h=>h) hbn F uE fun cdv A outer s H E=>
 (aG (iS (eU (aA 0)) (nI (bE (aO uE.nd) (bE (aO uE.nd) nH)))
  (aK (nJ (cM tQ (aA 2) (aW (aA 1) aE))
   (aK (dA (JW B' (aW (aA 1) aE) (aA 3))))
   eO)))
 (aK (dA JV)))
theorem Lr {f:Addr} {fd:FuncData} (hbn:∀ x∈bsL,mg x=none) (F:Fun K "holed" "holed" lZ f fd) {rY:Addr} {Bg:FuncData} (rZ:Def K mg "covers" iX rY Bg ["seen","name"]) (yZ:aM P w K mg base CX0 1 rY Bg ["seen","name"] (spM (cC w K cl) 2 kL)):aM P w K mg base CX0 2 f fd ["mark","deed"] (spM (cC w K cl) 2 lV):=
 dU (C:=cC w K cl) (k:=1) (N:=["mark","deed","name","first","last","word","holes","clear_name","seen","act"]) (body:=C5) (fun _ _ _ h=>h) hbn F fC fun cdv A outer s H E=>
 (aG (Gn (aA 0) (nI (bE (aO fC.nd) (bE (aO fC.nd) (bE (aO fC.nd) (bE (aO fC.nd) (bE (aO fC.nd) nH)))))))
 (aG (Gn (aA 1) (nI (bE (aO fC.nd) (bE (aO fC.nd) (bE (aO fC.nd) nH)))))
 (aG (nJ (SW.t (w_or (cM N8 (aA 5) (aW (aA 9) aE)) (OG (RG (AV (s_call rZ yZ (aC (aA 8) (aC (aA 2) aI))))))))
  (aK (dA (aA 0)))
  eO)
 (aK (dA (cA (aC (aA 2) (aC (aA 3) (aC (aA 4) (aC (aA 5) (aC (aJ bJ (aA 6) (cA (aC (cA (aC (aW (aA 9) aE) (aC (aW (aA 9) aE) aI))) aI))) aI)))))))))))
theorem zA {f:Addr} {fd:FuncData} (hbn:∀ x∈bsL,mg x=none) (F:Fun K "clear" "Marks.clear" cS f fd) {vW:Addr} {E4:FuncData} (vX:Def K mg "holed" lZ vW E4 ["mark","deed"]) (Cj:aM P w K mg base CX0 2 vW E4 ["mark","deed"] (spM (cC w K cl) 2 lV)) (FF_standing:A4 (cC w K cl) "standing"):aM P w K mg base CX0 3 f fd ["self","deed"] (spM (cC w K cl) 2 cI):=
 dU (C:=cC w K cl) (k:=2) (N:=["self","deed"]) (body:=jU) (fun _ _ _ h=>h) hbn F yV fun cdv A outer s H E=>
 (aK (OM FF_standing (tU (js:=[none,some 1]) (N:=kN) rfl rfl (by rfl) (eU (B5 FF_standing (aA 0))) (fun _ _ _ _=>(aO rU)) (fun _ _ _ _=>xQ) (fun _ _ _ _=>(s_call vX Cj (aC (aA 0) (aC (aA 1) aI))))) (aA 0)))
theorem E5 {f:Addr} {fd:FuncData} (hbn:∀ x∈bsL,mg x=none) (F:Fun K "_law_covers" "_law_covers" dG f fd):aM P w K mg base CX0 1 f fd ["_law_seen","_law_name"] (spM (cC w K cl) 2 dF):=
 dU (C:=cC w K cl) (k:=0) (N:=["_law_seen","_law_name"]) (body:=qF) (fun _ _ _ h=>h) hbn F DY fun cdv A outer s H E=>
 (aK (dA (JW N8 (tU (js:=[none,none,some 1]) (N:=pI) rfl rfl (by rfl) (eU (aA 0)) (fun _ _ _ _=>(nI (bE (aO nV) (bE (aO nV) nH)))) (fun _ _ _ _=>(BQ (SW.t (w_and (cM tQ (aA 0) (aW (aA 2) aE)) (lN (cM B' (aW (aA 2) aE) (aA 1))))))) (fun _ _ _ _=>(aA 0))) (gI aI))))
theorem NZ {f:Addr} {fd:FuncData} (hbn:∀ x∈bsL,mg x=none) (F:Fun K "_law_rows" "_law_rows" qJ f fd) {eQ:Addr} {gX:FuncData} (eR:Def K mg "_law_covers" dG eQ gX ["_law_seen","_law_name"]) (fQ:aM P w K mg base CX0 1 eQ gX ["_law_seen","_law_name"] (spM (cC w K cl) 2 dF)):aM P w K mg base CX0 2 f fd ["_law_deeds"] (spM (cC w K cl) 1 nO):=
 dU (C:=cC w K cl) (k:=1) (N:=["_law_deeds","_law_rows_here","_law_name","_law_seen","_law_act","_law_row"]) (body:=Fx) (fun _ _ _ h=>h) hbn F oX fun cdv A outer s H E=>
 (aG (bF (i:=1) oX.nd (gI aI))
 (aG (iS (eU (aA 0)) (nI (bE (aO oX.nd) (bE (aO oX.nd) (bE (aO oX.nd) nH))))
  (aK (nJ (cM tQ (aW (aA 4) aE) iN)
   (aK (iQ (xR PySem.F.plainAttrs_list PySem.F.slot_list_append PySem.F.type_list_append dB (aA 1) (aC (cA (aC (aA 2) (aC (aW (aA 4) aE) (aC (aW (aA 4) aE) (aC (aW (aA 4) aE) (aC (gI aI) aI)))))) aI))))
   (aK (iS (eU (aA 1)) (aO oX.nd)
    (aK (nJ (SW.t (w_and (cM tQ (aW (aA 5) aE) (aW (aA 4) aE)) (lN (AV (s_call eR fQ (aC (aA 3) (aC (aW (aA 5) aE) aI)))))))
     (aK (iQ (xR PySem.F.plainAttrs_list PySem.F.slot_list_append PySem.F.type_list_append dB (aW (aA 5) aE) (aC (cA (aC (aW (aA 4) aE) (aC (aW (aA 4) aE) aI))) aI))))
     eO)))))))
 (aK (dA (aA 1)))))
theorem A8 {f:Addr} {fd:FuncData} (hbn:∀ x∈bsL,mg x=none) (F:Fun K "mark" "Marks.mark" dO f fd) (FF_standing:A4 (cC w K cl) "standing"):aM P w K mg base CX0 1 f fd ["self","deed"] (spM (cC w K cl) 2 cQ):=
 dU (C:=cC w K cl) (k:=0) (N:=["self","deed","name","seen","act"]) (body:=lW) (fun _ _ _ h=>h) hbn F fZ fun cdv A outer s H E=>
 (aG (Gn (aA 1) (nI (bE (aO fZ.nd) (bE (aO fZ.nd) (bE (aO fZ.nd) nH)))))
 (aK (nJ (cM Dr (aA 2) (tU (js:=[none]) (N:=mQ) rfl rfl (by rfl) (eU (B5 FF_standing (aA 0))) (fun _ _ _ _=>(aO uF)) (fun _ _ _ _=>xQ) (fun _ _ _ _=>(aW (aA 0) aE))))
  (aK (iQ (xR PySem.F.plainAttrs_list PySem.F.slot_list_append PySem.F.type_list_append dB (B5 FF_standing (aA 0)) (aC (cA (aC (aA 2) (aC (aW (aA 4) aE) (aC (aW (aA 4) aE) (aC (aW (aA 4) aE) (aC (cA aI) aI)))))) aI))))
  eO)))
theorem FD {f:Addr} {fd:FuncData} (hbn:∀ x∈bsL,mg x=none) (F:Fun K "rank_of" "rank_of" fO f fd):aM P w K mg base CX0 1 f fd ["place"] (spM (cC w K cl) 1 eW):=
 dU (C:=cC w K cl) (k:=0) (N:=["place"]) (body:=uA) (fun _ _ _ h=>h) hbn F FB fun cdv A outer s H E=>
 (aK (dA (aJ bJ (aA 0) (cA (aC (cA (aC aE aI)) aI)))))
theorem E6 {f:Addr} {fd:FuncData} (hbn:∀ x∈bsL,mg x=none) (F:Fun K "numbered" "numbered" eP f fd) {oZ:Addr} {zB:FuncData} (pA:Def K mg "rank_of" fO oZ zB ["place"]) (uG:aM P w K mg base CX0 1 oZ zB ["place"] (spM (cC w K cl) 1 eW)):aM P w K mg base CX0 4 f fd ["places"] (spM (cC w K cl) 1 iT):=
 dU (C:=cC w K cl) (k:=3) (N:=["places","numbers","place"]) (body:=qG) (fun _ _ _ h=>h) hbn F nW fun cdv A outer s H E=>
 (aG (bF (i:=1) nW.nd Gk)
 (aG (iS (eU (KS pA uG (aA 0) (hb:=(.tail _ (.head _))))) (aO nW.nd)
  (aK (iQ (Ur PySem.F.plainAttrs_dict PySem.F.slot_dict_setdefault PySem.F.type_dict_setdefault BW (aA 1) (aC (aA 2) (aC (fY Qc PyProof.Rows.Boot.«len» (aC (aA 1) aI) (hb:=(.tail _ (.tail _ (.head _))))) aI))))))
 (aK (dA (aA 1)))))
theorem E7 {f:Addr} {fd:FuncData} (hbn:∀ x∈bsL,mg x=none) (F:Fun K "spans_of" "spans_of" dH f fd):aM P w K mg base CX0 1 f fd ["mark"] (spM (cC w K cl) 1 bS):=
 dU (C:=cC w K cl) (k:=0) (N:=["mark"]) (body:=qH) (fun _ _ _ h=>h) hbn F DZ fun cdv A outer s H E=>
 (aK (dA (aJ bJ (gI (aC (cA (aC (aW (aA 0) aE) (aC (aW (aA 0) aE) aI))) aI)) (qX yJ PyProof.Rows.Boot.«list» (aC (aW (aA 0) aE) aI) (hb:=(.tail _ (.tail _ (.tail _ (.tail _ (.head _))))))))))
theorem A9 {f:Addr} {fd:FuncData} (hbn:∀ x∈bsL,mg x=none) (F:Fun K "ends" "Marks.ends" dP f fd) {eS:Addr} {gY:FuncData} (eT:Def K mg "spans_of" dH eS gY ["mark"]) (fR:aM P w K mg base CX0 1 eS gY ["mark"] (spM (cC w K cl) 1 bS)) (FF_standing:A4 (cC w K cl) "standing"):aM P w K mg base CX0 2 f fd ["self"] (spM (cC w K cl) 1 cR):=
 dU (C:=cC w K cl) (k:=1) (N:=["self","found","mark","first","last"]) (body:=lX) (fun _ _ _ h=>h) hbn F eL fun cdv A outer s H E=>
 (aG (bF (i:=1) eL.nd Gk)
 (aG (iS (eU (B5 FF_standing (aA 0))) (aO eL.nd)
  (aK (iS (eU (s_call eT fR (aC (aA 2) aI))) (nI (bE (aO eL.nd) (bE (aO eL.nd) nH)))
   (aG (KJ JV (aA 1) (aA 3))
   (aK (KJ JV (aA 1) (aA 4)))))))
 (aK (dA (qX yJ PyProof.Rows.Boot.«list» (aC (aA 1) aI) (hb:=(.tail _ (.tail _ (.tail _ (.tail _ (.head _)))))))))))
theorem Ls {f:Addr} {fd:FuncData} (hbn:∀ x∈bsL,mg x=none) (F:Fun K "bears" "bears" mB f fd):aM P w K mg base CX0 1 f fd ["spans","number"] (spM (cC w K cl) 2 oW):=
 dU (C:=cC w K cl) (k:=0) (N:=["spans","number","inside"]) (body:=C6) (fun _ _ _ h=>h) hbn F E1 fun cdv A outer s H E=>
 (aG (tV (i:=2) E1.nd rfl rfl (js:=[none,none,some 1]) (N:=yW) rfl rfl (by rfl) (eU (aA 0)) (fun _ _ _ _=>(nI (bE (aO vC) (bE (aO vC) nH)))) (fun _ _ _ _=>xQ) (fun _ _ _ _=>(OF B' B' (aA 0) (aA 2) (aA 1))))
 (aK (dA (RJ (aW (aA 2) aE) (RI (RK (fY Sa PyProof.Rows.Boot.«any» (aC (HP (aA 2) (nG aE) BN) aI) (hb:=(.tail _ (.tail _ (.tail _ (.tail _ (.tail _ (.head _))))))))))))))
theorem nY {f:Addr} {fd:FuncData} (hbn:∀ x∈bsL,mg x=none) (F:Fun K "words_along" "Marks.words_along" bG f fd) {mG:Addr} {vD:FuncData} (mH:Def K mg "numbered" eP mG vD ["places"]) (qK:aM P w K mg base CX0 4 mG vD ["places"] (spM (cC w K cl) 1 iT)) {eS:Addr} {gY:FuncData} (eT:Def K mg "spans_of" dH eS gY ["mark"]) (fR:aM P w K mg base CX0 1 eS gY ["mark"] (spM (cC w K cl) 1 bS)) {vY:Addr} {E8:FuncData} (vZ:Def K mg "bears" mB vY E8 ["spans","number"]) (Ck:aM P w K mg base CX0 1 vY E8 ["spans","number"] (spM (cC w K cl) 2 oW)) {a_Marks:Addr} (CL_Marks:cl "Marks" = some a_Marks) (HC_Marks:Cls K a_Marks) {sA:Addr} {pJ:FuncData} (jW:lG K a_Marks "ends" sA) (mI:aM P w K mg base CX0 2 sA pJ ["self"] (spM (cC w K cl) 1 cR)) (mJ:Binds K pJ ["self"] []) (FF_standing:A4 (cC w K cl) "standing"):aM P w K mg base CX0 5 f fd ["self","places"] (spM (cC w K cl) 2 aY):=
 dU (C:=cC w K cl) (k:=4) (N:=["self","places","numbers","marks","mark","words","place","number"]) (body:=dY) (fun _ _ _ h=>h) hbn F aV fun cdv A outer s H E=>
 (aG (bF (i:=2) aV.nd (s_call mH qK (aC (aJ bJ (aA 1) (BZ (tb:=bW) (lR CL_Marks HC_Marks jW (by decide) mI mJ qB) (aA 0))) aI)))
 (aG (bF (i:=3) aV.nd (gI aI))
 (aG (iS (eU (B5 FF_standing (aA 0))) (aO aV.nd)
  (aK (iQ (xR PySem.F.plainAttrs_list PySem.F.slot_list_append PySem.F.type_list_append dB (aA 3) (aC (cA (aC (aW (aA 4) aE) (aC (tU (js:=[none,none,some 2]) (N:=fD) rfl rfl (by rfl) (eU (s_call eT fR (aC (aA 4) aI))) (fun _ _ _ _=>(nI (bE (aO eX) (bE (aO eX) nH)))) (fun _ _ _ _=>xQ) (fun _ _ _ _=>(cA (aC (aW (aA 2) (aA 0)) (aC (aW (aA 2) (aA 1)) aI))))) aI))) aI)))))
 (aG (bF (i:=5) aV.nd (gI aI))
 (aG (iS (eU (aA 1)) (aO aV.nd)
  (aG (bF (i:=7) aV.nd (aW (aA 2) (aA 6)))
  (aK (iQ (xR PySem.F.plainAttrs_list PySem.F.slot_list_append PySem.F.type_list_append dB (aA 5) (aC (Fu (tU (js:=[none,none,some 7]) (N:=fE) rfl rfl (by rfl) (eU (aA 3)) (fun _ _ _ _=>(nI (bE (aO eY) (bE (aO eY) nH)))) (fun _ _ _ _=>(BQ (AV (s_call vZ Ck (aC (aA 1) (aC (aA 2) aI)))))) (fun _ _ _ _=>(aA 0))) (.tail _ (.head _)) (.tail _ (.tail _ (.tail _ (.tail _ (.tail _ (.tail _ (.head _)))))))) aI))))))
 (aK (dA (aA 5))))))))
theorem sC {f:Addr} {fd:FuncData} (hbn:∀ x∈bsL,mg x=none) (F:Fun K "words_at" "Marks.words_at" bY f fd) {a_Marks:Addr} (CL_Marks:cl "Marks" = some a_Marks) (HC_Marks:Cls K a_Marks) {iB:Addr} {gZ:FuncData} (dI:lG K a_Marks "words_along" iB) (eD:aM P w K mg base CX0 5 iB gZ ["self","places"] (spM (cC w K cl) 2 aY)) (eF:Binds K gZ ["self","places"] []):aM P w K mg base CX0 6 f fd ["self","place"] (spM (cC w K cl) 2 bN):=
 dU (C:=cC w K cl) (k:=5) (N:=["self","place"]) (body:=fN) (fun _ _ _ h=>h) hbn F rV fun cdv A outer s H E=>
 (aK (dA (aW (BY (tb:=cJ) (lR CL_Marks HC_Marks dI (by decide) eD eF qB) (aA 0) (aC (gI (aC (aA 1) aI)) aI)) aE)))
theorem SC {f:Addr} {fd:FuncData} (hbn:∀ x∈bsL,mg x=none) (F:Fun K "_law_in" "_law_in" FC f fd):aM P w K mg base CX0 1 f fd ["_law_place","_law_ends"] (spM (cC w K cl) 2 DM):=
 dU (C:=cC w K cl) (k:=0) (N:=["_law_place","_law_ends","_law_key"]) (body:=Ql) (fun _ _ _ h=>h) hbn F OO fun cdv A outer s H E=>
 (aG (bF (i:=2) OO.nd (aJ bJ (aA 0) (cA (aC (cA (aC aE aI)) aI))))
 (aK (dA (OF B' B' (aJ bJ (aW (aA 1) aE) (cA (aC (cA (aC aE aI)) aI))) (aA 2) (aJ bJ (aW (aA 1) aE) (cA (aC (cA (aC aE aI)) aI)))))))
theorem Lu {f:Addr} {fd:FuncData} (hbn:∀ x∈bsL,mg x=none) (F:Fun K "_law_words" "_law_words" mD f fd) {eQ:Addr} {gX:FuncData} (eR:Def K mg "_law_covers" dG eQ gX ["_law_seen","_law_name"]) (fQ:aM P w K mg base CX0 1 eQ gX ["_law_seen","_law_name"] (spM (cC w K cl) 2 dF)) {O0:Addr} {OP:FuncData} (Lv:Def K mg "_law_in" FC O0 OP ["_law_place","_law_ends"]) (O1:aM P w K mg base CX0 1 O0 OP ["_law_place","_law_ends"] (spM (cC w K cl) 2 DM)):aM P w K mg base CX0 2 f fd ["_law_deeds","_law_place"] (spM (cC w K cl) 2 m_words):=
 dU (C:=cC w K cl) (k:=1) (N:=["_law_deeds","_law_place","_law_words_here","_law_k","_law_name","_law_seen","_law_act","_law_later"]) (body:=C7) (fun _ _ _ h=>h) hbn F gU fun cdv A outer s H E=>
 (aG (bF (i:=2) gU.nd (gI aI))
 (aG (iS (BP (aC (fY AW PyProof.Rows.Boot.«len» (aC (aA 0) aI) (hb:=(.tail _ (.tail _ (.head _))))) aI) (hb:=(.head _))) (aO gU.nd)
  (aG (Gn (aW (aA 0) (aA 3)) (nI (bE (aO gU.nd) (bE (aO gU.nd) (bE (aO gU.nd) nH)))))
  (aK (nJ (SW.t (w_and (cM tQ (aW (aA 6) aE) iN) (lN (AV (s_call Lv O1 (aC (aA 1) (aC (HP (aA 6) (nG aE) (nG aE)) aI)))))))
   (aG (tV (i:=7) gU.nd rfl rfl (js:=[none,some 6]) (N:=yX) rfl rfl (by rfl) (eU (HP (aA 0) (nG (aJ bJ (aA 3) aE)) BN)) (fun _ _ _ _=>(aO E2)) (fun _ _ _ _=>(BQ (SW.t (w_and (cM tQ (aW (aW (aA 0) aE) aE) iN) (lN (cM tQ (aW (aW (aA 0) aE) aE) (aW (aA 1) aE))))))) (fun _ _ _ _=>(aA 0)))
   (aG (tV (i:=7) gU.nd rfl rfl (js:=[none,some 4,some 1]) (N:=yY) rfl rfl (by rfl) (eU (aA 7)) (fun _ _ _ _=>(aO E3)) (fun _ _ _ _=>(BQ (SW.t (w_and (AV (s_call eR fQ (aC (aW (aA 0) aE) (aC (aA 1) aI)))) (lN (AV (s_call Lv O1 (aC (aA 2) (aC (HP (aW (aA 0) aE) (nG aE) (nG aE)) aI))))))))) (fun _ _ _ _=>(aA 0)))
   (aK (nJ (SW.t (w_and (cM tQ (aA 7) (gI aI)) (lN (cM Dr (aW (aA 6) aE) (aA 2)))))
    (aK (iQ (xR PySem.F.plainAttrs_list PySem.F.slot_list_append PySem.F.type_list_append dB (aA 2) (aC (aW (aA 6) aE) aI))))
    eO))))
   eO))))
 (aK (dA (fY GD PyProof.Rows.Boot.«sorted» (aC (aA 2) aI) (hb:=(.tail _ (.head _))))))))
theorem QC {f:Addr} {fd:FuncData} (hbn:∀ x∈bsL,mg x=none) (F:Fun K "law" "law" rW f fd) {wA:Addr} {E9:FuncData} (wB:Def K mg "_law_hands" lY wA E9 ["_law_cell"]) (Cm:aM P w K mg base CX0 1 wA E9 ["_law_cell"] (spM (cC w K cl) 1 oV)) {sD:Addr} {Bh:FuncData} (sE:Def K mg "_law_places" iW sD Bh ["_law_script","_law_hands_here"]) (zC:aM P w K mg base CX0 2 sD Bh ["_law_script","_law_hands_here"] (spM (cC w K cl) 2 kK)) {Cn:Addr} {GU:FuncData} (Co:Def K mg "_law_deed" qI Cn GU ["_law_cell","_law_k","_law_base","_law_hands_here","_law_met"]) (FF:aM P w K mg base CX0 2 Cn GU ["_law_cell","_law_k","_law_base","_law_hands_here","_law_met"] (spM (cC w K cl) 5 yM)) {Cp:Addr} {GV:FuncData} (zD:Def K mg "_law_rows" qJ Cp GV ["_law_deeds"]) (Cq:aM P w K mg base CX0 2 Cp GV ["_law_deeds"] (spM (cC w K cl) 1 nO)) {wC:Addr} {Ea:FuncData} (wD:Def K mg "_law_words" mD wC Ea ["_law_deeds","_law_place"]) (Cr:aM P w K mg base CX0 2 wC Ea ["_law_deeds","_law_place"] (spM (cC w K cl) 2 m_words)) {a_Marks:Addr} (CL_Marks:cl "Marks" = some a_Marks) (HC_Marks:Cls K a_Marks) {fS:Addr} {jL:FuncData} (jM:lG K a_Marks "__init__" fS) (fT:aM P w K mg base CX0 1 fS jL ["self"] (spM (cC w K cl) 1 bM)) (fU:Binds K jL ["self"] []) {pK:Addr} {nZ:FuncData} (iY:lG K a_Marks "clear" pK) (jX:aM P w K mg base CX0 3 pK nZ ["self","deed"] (spM (cC w K cl) 2 cI)) (jY:Binds K nZ ["self","deed"] []) {sF:Addr} {pL:FuncData} (jZ:lG K a_Marks "mark" sF) (mK:aM P w K mg base CX0 1 sF pL ["self","deed"] (spM (cC w K cl) 2 cQ)) (mL:Binds K pL ["self","deed"] []) {sG:Addr} {pM:FuncData} (gF:lG K a_Marks "rows" sG) (iJ:aM P w K mg base CX0 1 sG pM ["self"] (spM (cC w K cl) 1 bP)) (iK:Binds K pM ["self"] []) {kO:Addr} {jN:FuncData} (fF:lG K a_Marks "words_at" kO) (fV:aM P w K mg base CX0 6 kO jN ["self","place"] (spM (cC w K cl) 2 bN)) (fW:Binds K jN ["self","place"] []) (MK_Marks:Mk K a_Marks fS) (MG_Marks:mg "Marks" = some (.ref a_Marks)):aM P w K mg base CX0 7 f fd ["_law_script"] (spM (cC w K cl) 1 L4):=
 dU (C:=cC w K cl) (k:=6) (N:=["_law_script","_law_cell","_law_hands_here","_law_met","_law_base","_law_marks","_law_deeds","_law_k","_law_deed_here","_law_place","_law_found","_law_row"]) (body:=L3) (fun _ _ _ h=>h) hbn F fP fun cdv A outer s H E=>
 (aG (bF (i:=1) fP.nd aE)
 (aG (nJ (cM JZ (fY AW PyProof.Rows.Boot.«len» (aC (aA 0) aI) (hb:=(.tail _ (.tail _ (.head _))))) aE)
  (aK (bF (i:=1) fP.nd (aW (aA 0) aE)))
  eO)
 (aG (bF (i:=2) fP.nd (s_call wB Cm (aC (aA 1) aI)))
 (aG (bF (i:=3) fP.nd (s_call sE zC (aC (aA 0) (aC (aA 2) aI))))
 (aG (bF (i:=4) fP.nd (aJ bJ aE (aJ eJ (aJ gH (aA 1) aE) (aW (gI (aC aE (aC aE (aC (aJ RF aE aE) aI)))) (aJ eJ (aJ gH (aA 1) aE) aE)))))
 (aG (bF (i:=5) fP.nd (Nw CL_Marks MK_Marks fT MG_Marks fU))
 (aG (bF (i:=6) fP.nd (gI aI))
 (aG (iS (BP (aC (fY Qb PyProof.Rows.Boot.«min» (aC (fY AW PyProof.Rows.Boot.«len» (aC (aA 0) aI) (hb:=(.tail _ (.tail _ (.head _))))) (aC aE aI)) (hb:=(.tail _ (.tail _ (.tail _ (.tail _ (.tail _ (.tail _ (.tail _ (.head _)))))))))) aI) (hb:=(.head _))) (aO fP.nd)
  (aG (bF (i:=8) fP.nd (s_call Co FF (aC (aW (aA 0) (aA 7)) (aC (aA 7) (aC (aA 4) (aC (aA 2) (aC (aA 3) aI)))))))
  (aG (iQ (xR PySem.F.plainAttrs_list PySem.F.slot_list_append PySem.F.type_list_append dB (aA 6) (aC (aA 8) aI)))
  (aG (nJ (cM tQ (aW (aW (aA 8) aE) aE) iN)
   (aK (iQ (BY (tb:=nQ) (lR CL_Marks HC_Marks jZ (by decide) mK mL qB) (aA 5) (aC (aA 8) aI))))
   (aK (iQ (BY (tb:=nR) (lR CL_Marks HC_Marks iY (by decide) jX jY qB) (aA 5) (aC (aA 8) aI)))))
  (aG (iS (eU (gI (aC (aW (aW (aA 8) aE) aE) (aC (aW (aW (aA 8) aE) aE) (aC (aW (aA 3) (aJ eJ (aJ bJ (aJ gH (aW (aA 0) (aA 7)) aE) (aA 7)) aE)) aI))))) (aO fP.nd)
   (aK (nJ (cM N8 (BY (tb:=rQ) (lR CL_Marks HC_Marks fF (by decide) fV fW qB) (aA 5) (aC (aA 9) aI)) (s_call wD Cr (aC (aA 6) (aC (aA 9) aI))))
    (aK (dA JV))
    eO)))
  (aG (bF (i:=10) fP.nd (BZ (tb:=nS) (lR CL_Marks HC_Marks gF (by decide) iJ iK qB) (aA 5)))
  (aG (nJ (cM Qj (aA 10) (s_call zD Cq (aC (aA 6) aI)))
   (aK (dA JV))
   eO)
  (aG (iS (eU (aA 10)) (aO fP.nd)
   (aK (iQ (xR PySem.F.plainAttrs_list PySem.F.slot_list_append PySem.F.type_list_append dB (aW (aA 11) aE) (aC (cA (aC (aW (aA 3) aE) (aC (aW (aA 3) aE) aI))) aI)))))
  (aK (iQ (RR PySem.F.plainAttrs_list PySem.F.slot_list_clear PySem.F.type_list_clear Nf (aA 10))))))))))))
 (aK (dA (JW Qi (BZ (tb:=nT) (lR CL_Marks HC_Marks gF (by decide) iJ iK qB) (aA 5)) (s_call zD Cq (aC (aA 6) aI)))))))))))))
end
def spL (K:PySem.W.Frag):Sp:=fun vs H Q _=>∃ (a:Addr) (ns:List Int),vs=[.ref a]/\Jv H/\SqL K H a (ns.map V.int)/\ns.length<=63/\∀ H',Q (.bl true) H'
@[elab_as_elim] theorem Eb {P:List Value->Prop} (us:List Value) (hl:us.length=1) (h:∀ a0,P [a0]):P us:=by
 cases us with
 | nil=>cases hl
 | cons a0 us=>
  cases us with
  | nil=>exact h a0
  | cons b us=>
   simp only [List.length_cons] at hl
   omega
@[elab_as_elim] theorem vK {P:List Value->Prop} (us:List Value) (hl:us.length=2) (h:∀ a0 a1,P [a0,a1]):P us:=by
 cases us with
 | nil=>cases hl
 | cons a0 us=>
  cases us with
  | nil=>cases hl
  | cons a1 us=>
   cases us with
   | nil=>exact h a0 a1
   | cons b us=>
    simp only [List.length_cons] at hl
    omega
@[elab_as_elim] theorem UA {P:List Value->Prop} (us:List Value) (hl:us.length=5) (h:∀ a0 a1 a2 a3 a4,P [a0,a1,a2,a3,a4]):P us:=by
 cases us with
 | nil=>cases hl
 | cons a0 us=>
  cases us with
  | nil=>cases hl
  | cons a1 us=>
   cases us with
   | nil=>cases hl
   | cons a2 us=>
    cases us with
    | nil=>cases hl
    | cons a3 us=>
     cases us with
     | nil=>cases hl
     | cons a4 us=>
      cases us with
      | nil=>exact h a0 a1 a2 a3 a4
      | cons b us=>
       simp only [List.length_cons] at hl
       omega
theorem all_mk {l:PySem.W.OpenLaw} {w:World} {K:PySem.W.Frag} {h:Heap} {mg:Str->Option Value} {fa A_Marks bO cT dQ dR dS bH bZ sH sI oA zE oB sJ iZ zF kQ jA jB sL Lw sM Lx:Addr} (X:K.In h) (G:h.Ns mainGlobals mg) (hfa:mg "law" = some (.ref fa)) (hbn:∀ x∈bsL,mg x=none)
  (n_Marks:PySem.W.nsIn K mainGlobals "Marks" = some (some (.ref A_Marks)))
  (pg_Marks:PySem.W.plainGet K A_Marks Str.empty=true)
  (hd_Marks:PySem.W.hasDictIn K A_Marks=true)
  (po_Marks:PySem.W.plainOver K A_Marks=true)
  (sa_Marks:PySem.W.findIn K (.ref A_Marks) "__setattr__" = some (some (.builtin "object.__setattr__")))
  (mk_Marks:PySem.W.makesIn K A_Marks=true)
  (kc_Marks:PySem.W.keepIn K (.ref A_Marks)=true)
  (nf_Marks_standing:PySem.W.findIn K (.ref A_Marks) "standing" = some none)
  (kR:PySem.W.findIn K (.ref A_Marks) "__init__" = some (some (.ref bO)))
  (kT:PySem.W.isFn K (.ref bO)=true)
  {sN sO qL sP jC sQ:Value} {sR sS:Option Addr} {qM:Array (Option Value)}
  (uH:K.lookup bO=some ⟨sN,sR,.func (PySem.W.fnOf "__init__" "Marks.__init__" (aU bX) (aR bX) (aF bX) .none sO qL sP sS jC sQ),qM⟩)
  (uI:PySem.W.codeIn K jC "Marks.__init__" = true)
  (kU:PySem.W.keepIn K (.ref bO)=true)
  (Aa:PySem.W.findIn K (.ref A_Marks) "clear" = some (some (.ref cT)))
  (Ab:PySem.W.isFn K (.ref cT)=true)
  {zG zH vL zI mR zJ:Value} {zK zL:Option Addr} {vM:Array (Option Value)}
  (Ac:K.lookup cT=some ⟨zG,zK,.func (PySem.W.fnOf "clear" "Marks.clear" (aU cS) (aR cS) (aF cS) .none zH vL zI zL mR zJ),vM⟩)
  (Ad:PySem.W.codeIn K mR "Marks.clear" = true)
  (pN:PySem.W.keepIn K (.ref cT)=true)
  (Cs:PySem.W.findIn K (.ref A_Marks) "ends" = some (some (.ref dQ)))
  (Ct:PySem.W.isFn K (.ref dQ)=true)
  {Ae Af zM Ag oC Ah:Value} {Ai Aj:Option Addr} {zN:Array (Option Value)}
  (Cu:K.lookup dQ=some ⟨Ae,Ai,.func (PySem.W.fnOf "ends" "Marks.ends" (aU dP) (aR dP) (aF dP) .none Af zM Ag Aj oC Ah),zN⟩)
  (Cv:PySem.W.codeIn K oC "Marks.ends" = true)
  (sT:PySem.W.keepIn K (.ref dQ)=true)
  (Cw:PySem.W.findIn K (.ref A_Marks) "mark" = some (some (.ref dR)))
  (Cy:PySem.W.isFn K (.ref dR)=true)
  {Ak Al zO Am oE An:Value} {Ao Ap:Option Addr} {zP:Array (Option Value)}
  (Cz:K.lookup dR=some ⟨Ak,Ao,.func (PySem.W.fnOf "mark" "Marks.mark" (aU dO) (aR dO) (aF dO) .none Al zO Am Ap oE An),zP⟩)
  (CA:PySem.W.codeIn K oE "Marks.mark" = true)
  (sU:PySem.W.keepIn K (.ref dR)=true)
  (CB:PySem.W.findIn K (.ref A_Marks) "rows" = some (some (.ref dS)))
  (CC:PySem.W.isFn K (.ref dS)=true)
  {Aq Ar zQ As oF Au:Value} {Av Aw:Option Addr} {zR:Array (Option Value)}
  (CD:K.lookup dS=some ⟨Aq,Av,.func (PySem.W.fnOf "rows" "Marks.rows" (aU dN) (aR dN) (aF dN) .none Ar zQ As Aw oF Au),zR⟩)
  (CF:PySem.W.codeIn K oF "Marks.rows" = true)
  (sV:PySem.W.keepIn K (.ref dS)=true)
  (pE:PySem.W.findIn K (.ref A_Marks) "words_along" = some (some (.ref bH)))
  (pF:PySem.W.isFn K (.ref bH)=true)
  {oG oH mT oI fJ oJ:Value} {oK oM:Option Addr} {mU:Array (Option Value)}
  (pG:K.lookup bH=some ⟨oG,oK,.func (PySem.W.fnOf "words_along" "Marks.words_along" (aU bG) (aR bG) (aF bG) .none oH mT oI oM fJ oJ),mU⟩)
  (pH:PySem.W.codeIn K fJ "Marks.words_along" = true)
  (iC:PySem.W.keepIn K (.ref bH)=true)
  (uJ:PySem.W.findIn K (.ref A_Marks) "words_at" = some (some (.ref bZ)))
  (uK:PySem.W.isFn K (.ref bZ)=true)
  {sW sX qN sY jD sZ:Value} {tB tD:Option Addr} {qO:Array (Option Value)}
  (uL:K.lookup bZ=some ⟨sW,tB,.func (PySem.W.fnOf "words_at" "Marks.words_at" (aU bY) (aR bY) (aF bY) .none sX qN sY tD jD sZ),qO⟩)
  (uM:PySem.W.codeIn K jD "Marks.words_at" = true)
  (kW:PySem.W.keepIn K (.ref bZ)=true)
  (wA:PySem.W.nsIn K mainGlobals "_law_hands" = some (some (.ref sH)))
  {Ly Lz IG LA Bi LB:Value} {LC LD:Option Addr} {IH:Array (Option Value)}
  (O2:K.lookup sH=some ⟨Ly,LC,.func (PySem.W.fnOf "_law_hands" "_law_hands" (aU lY) (aR lY) (aF lY) .none Lz IG LA LD Bi LB),IH⟩)
  (O3:PySem.W.codeIn K Bi "_law_hands" = true)
  (O4:PySem.W.keepIn K (.ref sH)=true)
  (mE:PySem.W.nsIn K mainGlobals "_law_mixed" = some (some (.ref sI)))
  {LF LG II LH Bj LI:Value} {LJ LK:Option Addr} {IJ:Array (Option Value)}
  (O5:K.lookup sI=some ⟨LF,LJ,.func (PySem.W.fnOf "_law_mixed" "_law_mixed" (aU jK) (aR jK) (aF jK) .none LG II LH LK Bj LI),IJ⟩)
  (O6:PySem.W.codeIn K Bj "_law_mixed" = true)
  (O7:PySem.W.keepIn K (.ref sI)=true)
  (sD:PySem.W.nsIn K mainGlobals "_law_places" = some (some (.ref oA)))
  {IK IL FG IM zS IP:Value} {IQ IR:Option Addr} {FH:Array (Option Value)}
  (LL:K.lookup oA=some ⟨IK,IQ,.func (PySem.W.fnOf "_law_places" "_law_places" (aU iW) (aR iW) (aF iW) .none IL FG IM IR zS IP),FH⟩)
  (LM:PySem.W.codeIn K zS "_law_places" = true)
  (LN:PySem.W.keepIn K (.ref oA)=true)
  (Cn:PySem.W.nsIn K mainGlobals "_law_deed" = some (some (.ref zE)))
  {O8 O9 LO Oa Ec Ob:Value} {Oc Od:Option Addr} {LP:Array (Option Value)}
  (QD:K.lookup zE=some ⟨O8,Oc,.func (PySem.W.fnOf "_law_deed" "_law_deed" (aU qI) (aR qI) (aF qI) .none O9 LO Oa Od Ec Ob),LP⟩)
  (QE:PySem.W.codeIn K Ec "_law_deed" = true)
  (QF:PySem.W.keepIn K (.ref zE)=true)
  (rY:PySem.W.nsIn K mainGlobals "covers" = some (some (.ref oB)))
  {IS IT FI IU zT IV:Value} {IW IX:Option Addr} {FJ:Array (Option Value)}
  (LQ:K.lookup oB=some ⟨IS,IW,.func (PySem.W.fnOf "covers" "covers" (aU iX) (aR iX) (aF iX) .none IT FI IU IX zT IV),FJ⟩)
  (LR:PySem.W.codeIn K zT "covers" = true)
  (LS:PySem.W.keepIn K (.ref oB)=true)
  (vW:PySem.W.nsIn K mainGlobals "holed" = some (some (.ref sJ)))
  {LU LV IY LW Bk LX:Value} {LY LZ:Option Addr} {IZ:Array (Option Value)}
  (Oe:K.lookup sJ=some ⟨LU,LY,.func (PySem.W.fnOf "holed" "holed" (aU lZ) (aR lZ) (aF lZ) .none LV IY LW LZ Bk LX),IZ⟩)
  (Of:PySem.W.codeIn K Bk "holed" = true)
  (Og:PySem.W.keepIn K (.ref sJ)=true)
  (eQ:PySem.W.nsIn K mainGlobals "_law_covers" = some (some (.ref iZ)))
  {Ed Ee CG Ef tE Eg:Value} {Eh Ei:Option Addr} {CH:Array (Option Value)}
  (FK:K.lookup iZ=some ⟨Ed,Eh,.func (PySem.W.fnOf "_law_covers" "_law_covers" (aU dG) (aR dG) (aF dG) .none Ee CG Ef Ei tE Eg),CH⟩)
  (FL:PySem.W.codeIn K tE "_law_covers" = true)
  (FM:PySem.W.keepIn K (.ref iZ)=true)
  (Cp:PySem.W.nsIn K mainGlobals "_law_rows" = some (some (.ref zF)))
  {Oh Oi M0 Oj Ej Ol:Value} {Om On:Option Addr} {M3:Array (Option Value)}
  (QG:K.lookup zF=some ⟨Oh,Om,.func (PySem.W.fnOf "_law_rows" "_law_rows" (aU qJ) (aR qJ) (aF qJ) .none Oi M0 Oj On Ej Ol),M3⟩)
  (QH:PySem.W.codeIn K Ej "_law_rows" = true)
  (QI:PySem.W.keepIn K (.ref zF)=true)
  (oZ:PySem.W.nsIn K mainGlobals "rank_of" = some (some (.ref kQ)))
  {FN FO Ek FP vE FQ:Value} {FS FT:Option Addr} {El:Array (Option Value)}
  (J1:K.lookup kQ=some ⟨FN,FS,.func (PySem.W.fnOf "rank_of" "rank_of" (aU fO) (aR fO) (aF fO) .none FO Ek FP FT vE FQ),El⟩)
  (J2:PySem.W.codeIn K vE "rank_of" = true)
  (J3:PySem.W.keepIn K (.ref kQ)=true)
  (mG:PySem.W.nsIn K mainGlobals "numbered" = some (some (.ref jA)))
  {Em En CI Eo tF Ep:Value} {Er Es:Option Addr} {CJ:Array (Option Value)}
  (FU:K.lookup jA=some ⟨Em,Er,.func (PySem.W.fnOf "numbered" "numbered" (aU eP) (aR eP) (aF eP) .none En CI Eo Es tF Ep),CJ⟩)
  (FV:PySem.W.codeIn K tF "numbered" = true)
  (FW:PySem.W.keepIn K (.ref jA)=true)
  (eS:PySem.W.nsIn K mainGlobals "spans_of" = some (some (.ref jB)))
  {Et Eu CK Ew tG Ex:Value} {Ey Ez:Option Addr} {CL:Array (Option Value)}
  (FX:K.lookup jB=some ⟨Et,Ey,.func (PySem.W.fnOf "spans_of" "spans_of" (aU dH) (aR dH) (aF dH) .none Eu CK Ew Ez tG Ex),CL⟩)
  (FY:PySem.W.codeIn K tG "spans_of" = true)
  (FZ:PySem.W.keepIn K (.ref jB)=true)
  (vY:PySem.W.nsIn K mainGlobals "bears" = some (some (.ref sL)))
  {M4 M5 J4 M6 Bl M7:Value} {M8 M9:Option Addr} {J5:Array (Option Value)}
  (Oo:K.lookup sL=some ⟨M4,M8,.func (PySem.W.fnOf "bears" "bears" (aU mB) (aR mB) (aF mB) .none M5 J4 M6 M9 Bl M7),J5⟩)
  (Oq:PySem.W.codeIn K Bl "bears" = true)
  (Os:PySem.W.keepIn K (.ref sL)=true)
  (O0:PySem.W.nsIn K mainGlobals "_law_in" = some (some (.ref Lw)))
  {SD SF QJ SH Mb SJ:Value} {SK SL:Option Addr} {QK:Array (Option Value)}
  (UB:K.lookup Lw=some ⟨SD,SK,.func (PySem.W.fnOf "_law_in" "_law_in" (aU FC) (aR FC) (aF FC) .none SF QJ SH SL Mb SJ),QK⟩)
  (UC:PySem.W.codeIn K Mb "_law_in" = true)
  (UD:PySem.W.keepIn K (.ref Lw)=true)
  (wC:PySem.W.nsIn K mainGlobals "_law_words" = some (some (.ref sM)))
  {Mc Md J6 Mf Bm Mh:Value} {Mj Ml:Option Addr} {J7:Array (Option Value)}
  (Ot:K.lookup sM=some ⟨Mc,Mj,.func (PySem.W.fnOf "_law_words" "_law_words" (aU mD) (aR mD) (aF mD) .none Md J6 Mf Ml Bm Mh),J7⟩)
  (Ou:PySem.W.codeIn K Bm "_law_words" = true)
  (Ov:PySem.W.keepIn K (.ref sM)=true)
  (SM:PySem.W.nsIn K mainGlobals "law" = some (some (.ref Lx)))
  {QL Mm GW Mn CM Mp:Value} {QM Mq:Option Addr} {Ow:Array (Option Value)}
  (SN:K.lookup Lx=some ⟨QL,QM,.func (PySem.W.fnOf "law" "law" (aU rW) (aR rW) (aF rW) .none Mm GW Mn Mq CM Mp),Ow⟩)
  (SQ:PySem.W.codeIn K CM "law" = true)
  (SR:PySem.W.keepIn K (.ref Lx)=true)
  : ∃ fd:FuncData,(∀ (s:Shared) (v:Value),BindsTo s fd ⟨[v],[]⟩ [("_law_script",v)])/\∀ base:Heap,K.In base->base.Ns mainGlobals mg->aM l.prog w K mg base CX0 7 fa fd ["_law_script"] (spL K):=by
 have e:=hfa.symm.trans (PySem.W.mg_of X G SM)
 cases e
 have CL_Marks:(fun z=>if z=("Marks" : Str) then some A_Marks else none) "Marks" = some A_Marks:=(if_pos rfl)
 have HC_Marks:Cls K A_Marks:=⟨pg_Marks,hd_Marks,po_Marks,sa_Marks⟩
 have MG_Marks:mg "Marks" = some (.ref A_Marks):=PySem.W.mg_of X G n_Marks
 have FF_standing:A4 (cC w K (fun z=>if z=("Marks" : Str) then some A_Marks else none)) "standing" := fun c a hc=>by
  have hc':(fun z=>if z=("Marks" : Str) then some A_Marks else none) c=some a:=hc
  dsimp only at hc'
  by_cases e_Marks:c="Marks"
  ·rw [if_pos e_Marks] at hc'
   cases hc'
   exact ⟨HC_Marks,nf_Marks_standing⟩
  rw [if_neg e_Marks] at hc'
  cases hc'
 have jM:lG K A_Marks "__init__" bO:=⟨kR,kT,kU⟩
 have kX:=jO (st:=bX) uH uI kU
 have fU:=kX.binds (ps:=["self"]) fun _ _ _ _ _ _ us hl=>Eb us hl fun _=>rfl
 have MK_Marks:Mk K A_Marks bO:=⟨mk_Marks,kR,kT,kc_Marks⟩
 have iY:lG K A_Marks "clear" cT:=⟨Aa,Ab,pN⟩
 have pO:=jO (st:=cS) Ac Ad pN
 have jY:=pO.binds (ps:=["self","deed"]) fun _ _ _ _ _ _ us hl=>vK us hl fun _ _=>rfl
 have jW:lG K A_Marks "ends" dQ:=⟨Cs,Ct,sT⟩
 have tH:=jO (st:=dP) Cu Cv sT
 have mJ:=tH.binds (ps:=["self"]) fun _ _ _ _ _ _ us hl=>Eb us hl fun _=>rfl
 have jZ:lG K A_Marks "mark" dR:=⟨Cw,Cy,sU⟩
 have tI:=jO (st:=dO) Cz CA sU
 have mL:=tI.binds (ps:=["self","deed"]) fun _ _ _ _ _ _ us hl=>vK us hl fun _ _=>rfl
 have gF:lG K A_Marks "rows" dS:=⟨CB,CC,sV⟩
 have tJ:=jO (st:=dN) CD CF sV
 have iK:=tJ.binds (ps:=["self"]) fun _ _ _ _ _ _ us hl=>Eb us hl fun _=>rfl
 have dI:lG K A_Marks "words_along" bH:=⟨pE,pF,iC⟩
 have iD:=jO (st:=bG) pG pH iC
 have eF:=iD.binds (ps:=["self","places"]) fun _ _ _ _ _ _ us hl=>vK us hl fun _ _=>rfl
 have fF:lG K A_Marks "words_at" bZ:=⟨uJ,uK,kW⟩
 have kY:=jO (st:=bY) uL uM kW
 have fW:=kY.binds (ps:=["self","place"]) fun _ _ _ _ _ _ us hl=>vK us hl fun _ _=>rfl
 have wB:Def K mg "_law_hands" lY sH _ ["_law_cell"]:=Def.mk' X G wA O2 O3 O4 (fun _ _ _ _ _ _ us hl=>Eb us hl fun _=>rfl)
 have mF:Def K mg "_law_mixed" jK sI _ ["_law_cell","_law_k"]:=Def.mk' X G mE O5 O6 O7 (fun _ _ _ _ _ _ us hl=>vK us hl fun _ _=>rfl)
 have sE:Def K mg "_law_places" iW oA _ ["_law_script","_law_hands_here"]:=Def.mk' X G sD LL LM LN (fun _ _ _ _ _ _ us hl=>vK us hl fun _ _=>rfl)
 have Co:Def K mg "_law_deed" qI zE _ ["_law_cell","_law_k","_law_base","_law_hands_here","_law_met"]:=Def.mk' X G Cn QD QE QF (fun _ _ _ _ _ _ us hl=>UA us hl fun _ _ _ _ _=>rfl)
 have rZ:Def K mg "covers" iX oB _ ["seen","name"]:=Def.mk' X G rY LQ LR LS (fun _ _ _ _ _ _ us hl=>vK us hl fun _ _=>rfl)
 have vX:Def K mg "holed" lZ sJ _ ["mark","deed"]:=Def.mk' X G vW Oe Of Og (fun _ _ _ _ _ _ us hl=>vK us hl fun _ _=>rfl)
 have eR:Def K mg "_law_covers" dG iZ _ ["_law_seen","_law_name"]:=Def.mk' X G eQ FK FL FM (fun _ _ _ _ _ _ us hl=>vK us hl fun _ _=>rfl)
 have zD:Def K mg "_law_rows" qJ zF _ ["_law_deeds"]:=Def.mk' X G Cp QG QH QI (fun _ _ _ _ _ _ us hl=>Eb us hl fun _=>rfl)
 have pA:Def K mg "rank_of" fO kQ _ ["place"]:=Def.mk' X G oZ J1 J2 J3 (fun _ _ _ _ _ _ us hl=>Eb us hl fun _=>rfl)
 have mH:Def K mg "numbered" eP jA _ ["places"]:=Def.mk' X G mG FU FV FW (fun _ _ _ _ _ _ us hl=>Eb us hl fun _=>rfl)
 have eT:Def K mg "spans_of" dH jB _ ["mark"]:=Def.mk' X G eS FX FY FZ (fun _ _ _ _ _ _ us hl=>Eb us hl fun _=>rfl)
 have vZ:Def K mg "bears" mB sL _ ["spans","number"]:=Def.mk' X G vY Oo Oq Os (fun _ _ _ _ _ _ us hl=>vK us hl fun _ _=>rfl)
 have Lv:Def K mg "_law_in" FC Lw _ ["_law_place","_law_ends"]:=Def.mk' X G O0 UB UC UD (fun _ _ _ _ _ _ us hl=>vK us hl fun _ _=>rfl)
 have wD:Def K mg "_law_words" mD sM _ ["_law_deeds","_law_place"]:=Def.mk' X G wC Ot Ou Ov (fun _ _ _ _ _ _ us hl=>vK us hl fun _ _=>rfl)
 refine ⟨PySem.W.fnOf "law" "law" (aU rW) (aR rW) (aF rW) .none Mm GW Mn Mq CM Mp,fun s v=>.of_eq rfl,fun base _ _=>?_⟩
 have Cm:aM l.prog w K mg base CX0 1 sH _ ["_law_cell"] (spM (cC w K (fun z=>if z=("Marks" : Str) then some A_Marks else none)) 1 oV):=Lp (cl:=fun z=>if z=("Marks" : Str) then some A_Marks else none) hbn wB.fn
 have oY:aM l.prog w K mg base CX0 1 sI _ ["_law_cell","_law_k"] (spM (cC w K (fun z=>if z=("Marks" : Str) then some A_Marks else none)) 2 jJ):=Lq (cl:=fun z=>if z=("Marks" : Str) then some A_Marks else none) hbn mF.fn
 have zC:aM l.prog w K mg base CX0 2 oA _ ["_law_script","_law_hands_here"] (spM (cC w K (fun z=>if z=("Marks" : Str) then some A_Marks else none)) 2 kK):=IE (cl:=fun z=>if z=("Marks" : Str) then some A_Marks else none) hbn sE.fn mF oY
 have fT:aM l.prog w K mg base CX0 1 bO _ ["self"] (spM (cC w K (fun z=>if z=("Marks" : Str) then some A_Marks else none)) 1 bM):=rX (cl:=fun z=>if z=("Marks" : Str) then some A_Marks else none) hbn kX FF_standing
 have FF:aM l.prog w K mg base CX0 2 zE _ ["_law_cell","_law_k","_law_base","_law_hands_here","_law_met"] (spM (cC w K (fun z=>if z=("Marks" : Str) then some A_Marks else none)) 5 yM):=NY (cl:=fun z=>if z=("Marks" : Str) then some A_Marks else none) hbn Co.fn mF oY
 have iJ:aM l.prog w K mg base CX0 1 dS _ ["self"] (spM (cC w K (fun z=>if z=("Marks" : Str) then some A_Marks else none)) 1 bP):=A7 (cl:=fun z=>if z=("Marks" : Str) then some A_Marks else none) hbn tJ FF_standing
 have yZ:aM l.prog w K mg base CX0 1 oB _ ["seen","name"] (spM (cC w K (fun z=>if z=("Marks" : Str) then some A_Marks else none)) 2 kL):=IF (cl:=fun z=>if z=("Marks" : Str) then some A_Marks else none) hbn rZ.fn
 have Cj:aM l.prog w K mg base CX0 2 sJ _ ["mark","deed"] (spM (cC w K (fun z=>if z=("Marks" : Str) then some A_Marks else none)) 2 lV):=Lr (cl:=fun z=>if z=("Marks" : Str) then some A_Marks else none) hbn vX.fn rZ yZ
 have jX:aM l.prog w K mg base CX0 3 cT _ ["self","deed"] (spM (cC w K (fun z=>if z=("Marks" : Str) then some A_Marks else none)) 2 cI):=zA (cl:=fun z=>if z=("Marks" : Str) then some A_Marks else none) hbn pO vX Cj FF_standing
 have fQ:aM l.prog w K mg base CX0 1 iZ _ ["_law_seen","_law_name"] (spM (cC w K (fun z=>if z=("Marks" : Str) then some A_Marks else none)) 2 dF):=E5 (cl:=fun z=>if z=("Marks" : Str) then some A_Marks else none) hbn eR.fn
 have Cq:aM l.prog w K mg base CX0 2 zF _ ["_law_deeds"] (spM (cC w K (fun z=>if z=("Marks" : Str) then some A_Marks else none)) 1 nO):=NZ (cl:=fun z=>if z=("Marks" : Str) then some A_Marks else none) hbn zD.fn eR fQ
 have mK:aM l.prog w K mg base CX0 1 dR _ ["self","deed"] (spM (cC w K (fun z=>if z=("Marks" : Str) then some A_Marks else none)) 2 cQ):=A8 (cl:=fun z=>if z=("Marks" : Str) then some A_Marks else none) hbn tI FF_standing
 have uG:aM l.prog w K mg base CX0 1 kQ _ ["place"] (spM (cC w K (fun z=>if z=("Marks" : Str) then some A_Marks else none)) 1 eW):=FD (cl:=fun z=>if z=("Marks" : Str) then some A_Marks else none) hbn pA.fn
 have qK:aM l.prog w K mg base CX0 4 jA _ ["places"] (spM (cC w K (fun z=>if z=("Marks" : Str) then some A_Marks else none)) 1 iT):=E6 (cl:=fun z=>if z=("Marks" : Str) then some A_Marks else none) hbn mH.fn pA uG
 have fR:aM l.prog w K mg base CX0 1 jB _ ["mark"] (spM (cC w K (fun z=>if z=("Marks" : Str) then some A_Marks else none)) 1 bS):=E7 (cl:=fun z=>if z=("Marks" : Str) then some A_Marks else none) hbn eT.fn
 have mI:aM l.prog w K mg base CX0 2 dQ _ ["self"] (spM (cC w K (fun z=>if z=("Marks" : Str) then some A_Marks else none)) 1 cR):=A9 (cl:=fun z=>if z=("Marks" : Str) then some A_Marks else none) hbn tH eT fR FF_standing
 have Ck:aM l.prog w K mg base CX0 1 sL _ ["spans","number"] (spM (cC w K (fun z=>if z=("Marks" : Str) then some A_Marks else none)) 2 oW):=Ls (cl:=fun z=>if z=("Marks" : Str) then some A_Marks else none) hbn vZ.fn
 have eD:aM l.prog w K mg base CX0 5 bH _ ["self","places"] (spM (cC w K (fun z=>if z=("Marks" : Str) then some A_Marks else none)) 2 aY):=nY (cl:=fun z=>if z=("Marks" : Str) then some A_Marks else none) hbn iD mH qK eT fR vZ Ck CL_Marks HC_Marks jW mI mJ FF_standing
 have fV:aM l.prog w K mg base CX0 6 bZ _ ["self","place"] (spM (cC w K (fun z=>if z=("Marks" : Str) then some A_Marks else none)) 2 bN):=sC (cl:=fun z=>if z=("Marks" : Str) then some A_Marks else none) hbn kY CL_Marks HC_Marks dI eD eF
 have O1:aM l.prog w K mg base CX0 1 Lw _ ["_law_place","_law_ends"] (spM (cC w K (fun z=>if z=("Marks" : Str) then some A_Marks else none)) 2 DM):=SC (cl:=fun z=>if z=("Marks" : Str) then some A_Marks else none) hbn Lv.fn
 have Cr:aM l.prog w K mg base CX0 2 sM _ ["_law_deeds","_law_place"] (spM (cC w K (fun z=>if z=("Marks" : Str) then some A_Marks else none)) 2 m_words):=Lu (cl:=fun z=>if z=("Marks" : Str) then some A_Marks else none) hbn wD.fn eR fQ Lv O1
 refine (QC (cl:=fun z=>if z=("Marks" : Str) then some A_Marks else none) hbn (jO (st:=rW) SN SQ SR) wB Cm sE zC Co FF zD Cq wD Cr CL_Marks HC_Marks jM fT fU iY jX jY jZ mK mL gF iJ iK fF fV fW MK_Marks MG_Marks).imp fun vs H Q E hh=>?_
 obtain ⟨a,ns,rfl,hO,hS,hl,hq⟩:=hh
 exact PY (C:=cC w K (fun z=>if z=("Marks" : Str) then some A_Marks else none)) hO hS (main ns hl) hq
theorem walk {l:PySem.W.OpenLaw} {q:Program} {loose:List Str} {XP:(Str->Option Value)->Heap->Prop} {YP:World->Heap->Prop} {d:DefRec} {K:Params->PySem.W.Frag} (hn:l.most=some 63) (hdf:d.params.defaults=[])
  (hY:∀ (w:World) (h:Heap),YP w h->(K w.params).In h)
  (F:∀ (w:World) (mg:Str->Option Value) (fa:Addr) (h:Heap),(K w.params).In h->h.Ns mainGlobals mg->mg d.name=some (.ref fa)->
   ∃ fd:FuncData,(∀ (s:Shared) (u:Value),BindsTo s fd ⟨[u],[]⟩ [("_law_script",u)])/\∀ base:Heap,(K w.params).In base->base.Ns mainGlobals mg->aM l.prog w (K w.params) mg base CX0 7 fa fd ["_law_script"] (spL (K w.params))):
  PySem.W.WalkO q loose XP YP l.row.toRowW d [] (fun f vs=>PySem.call f vs):=
 L2.walk_of (n:=63) (k:=7) (x:="_law_script") (CX:=fun _=>CX0) (sp:=fun w=>spL (K w.params)) hn (by decide) hdf ⟨rfl,by decide,by decide⟩ hY F (fun w H a ns hl hO hS=>⟨a,ns,rfl,hO,hS,hl,fun _=>rfl⟩) fun _ _ _ _ _ z=>z
end K42
open PySem PySem.W PyProof.Rows
set_option maxRecDepth 100000 in
set_option maxHeartbeats 0 in
theorem PySem.Challenge.cw_copymeet_k42_holes_in_marks_holds : PySem.Challenge.rw_copymeet_k42_holes_in_marks.Holds := by
 w_on; o_law; k_head; (case hw=>w_witness2)
 k_fill
 refine K42.walk (l:=PySem.Challenge.rw_copymeet_k42_holes_in_marks) rfl rfl (fun w h Y=>PySem.W.kIn_of Y) ?F
 case F=>
  intro w mg fa h KX G hmg
  have hbn:∀ x∈K42.bsL,mg x=none:=fun x hx=>by
   rcases List.mem_cons.mp hx with rfl | hx
   ·exact PySem.W.mg_none_of KX G (by k_is)
   rcases List.mem_cons.mp hx with rfl | hx
   ·exact PySem.W.mg_none_of KX G (by k_is)
   rcases List.mem_cons.mp hx with rfl | hx
   ·exact PySem.W.mg_none_of KX G (by k_is)
   rcases List.mem_cons.mp hx with rfl | hx
   ·exact PySem.W.mg_none_of KX G (by k_is)
   rcases List.mem_cons.mp hx with rfl | hx
   ·exact PySem.W.mg_none_of KX G (by k_is)
   rcases List.mem_cons.mp hx with rfl | hx
   ·exact PySem.W.mg_none_of KX G (by k_is)
   rcases List.mem_cons.mp hx with rfl | hx
   ·exact PySem.W.mg_none_of KX G (by k_is)
   rcases List.mem_cons.mp hx with rfl | hx
   ·exact PySem.W.mg_none_of KX G (by k_is)
   cases hx
  refine' K42.all_mk KX G hmg hbn ?h0 ?h1 ?h2 ?h3 ?h4 ?h5 ?h6 ?h7 ?h8 ?h9 ?h10 ?h11 ?h12 ?h13 ?h14 ?h15 ?h16 ?h17 ?h18 ?h19 ?h20 ?h21 ?h22 ?h23 ?h24 ?h25 ?h26 ?h27 ?h28 ?h29 ?h30 ?h31 ?h32 ?h33 ?h34 ?h35 ?h36 ?h37 ?h38 ?h39 ?h40 ?h41 ?h42 ?h43 ?h44 ?h45 ?h46 ?h47 ?h48 ?h49 ?h50 ?h51 ?h52 ?h53 ?h54 ?h55 ?h56 ?h57 ?h58 ?h59 ?h60 ?h61 ?h62 ?h63 ?h64 ?h65 ?h66 ?h67 ?h68 ?h69 ?h70 ?h71 ?h72 ?h73 ?h74 ?h75 ?h76 ?h77 ?h78 ?h79 ?h80 ?h81 ?h82 ?h83 ?h84 ?h85 ?h86 ?h87 ?h88 ?h89 ?h90 ?h91 ?h92 ?h93 ?h94 ?h95 ?h96 ?h97 ?h98 ?h99 ?h100 ?h101 ?h102
  (case h0=>k_is)
  (case h1=>k_is)
  (case h2=>k_is)
  (case h3=>k_is)
  (case h4=>k_is)
  (case h5=>k_is)
  (case h6=>k_is)
  (case h7=>k_is)
  (case h8=>k_is)
  (case h9=>k_is)
  (case h10=>k_is)
  (case h11=>k_is)
  (case h12=>k_is)
  (case h13=>k_is)
  (case h14=>k_is)
  (case h15=>k_is)
  (case h16=>k_is)
  (case h17=>k_is)
  (case h18=>k_is)
  (case h19=>k_is)
  (case h20=>k_is)
  (case h21=>k_is)
  (case h22=>k_is)
  (case h23=>k_is)
  (case h24=>k_is)
  (case h25=>k_is)
  (case h26=>k_is)
  (case h27=>k_is)
  (case h28=>k_is)
  (case h29=>k_is)
  (case h30=>k_is)
  (case h31=>k_is)
  (case h32=>k_is)
  (case h33=>k_is)
  (case h34=>k_is)
  (case h35=>k_is)
  (case h36=>k_is)
  (case h37=>k_is)
  (case h38=>k_is)
  (case h39=>k_is)
  (case h40=>k_is)
  (case h41=>k_is)
  (case h42=>k_is)
  (case h43=>k_is)
  (case h44=>k_is)
  (case h45=>k_is)
  (case h46=>k_is)
  (case h47=>k_is)
  (case h48=>k_is)
  (case h49=>k_is)
  (case h50=>k_is)
  (case h51=>k_is)
  (case h52=>k_is)
  (case h53=>k_is)
  (case h54=>k_is)
  (case h55=>k_is)
  (case h56=>k_is)
  (case h57=>k_is)
  (case h58=>k_is)
  (case h59=>k_is)
  (case h60=>k_is)
  (case h61=>k_is)
  (case h62=>k_is)
  (case h63=>k_is)
  (case h64=>k_is)
  (case h65=>k_is)
  (case h66=>k_is)
  (case h67=>k_is)
  (case h68=>k_is)
  (case h69=>k_is)
  (case h70=>k_is)
  (case h71=>k_is)
  (case h72=>k_is)
  (case h73=>k_is)
  (case h74=>k_is)
  (case h75=>k_is)
  (case h76=>k_is)
  (case h77=>k_is)
  (case h78=>k_is)
  (case h79=>k_is)
  (case h80=>k_is)
  (case h81=>k_is)
  (case h82=>k_is)
  (case h83=>k_is)
  (case h84=>k_is)
  (case h85=>k_is)
  (case h86=>k_is)
  (case h87=>k_is)
  (case h88=>k_is)
  (case h89=>k_is)
  (case h90=>k_is)
  (case h91=>k_is)
  (case h92=>k_is)
  (case h93=>k_is)
  (case h94=>k_is)
  (case h95=>k_is)
  (case h96=>k_is)
  (case h97=>k_is)
  (case h98=>k_is)
  (case h99=>k_is)
  (case h100=>k_is)
  (case h101=>k_is)
  (case h102=>k_is)
