import PyProof.Rows.All
import Wide.All
import OpenK.AllK
import Wide.FinOn
import Lean
import PyProof.EqAt
import PyProof.EqKinds
import PyProof.TupleCall
import PyProof.Rows.SortShell
import PyProof.NeKinds
import KE.KDictOf
import PyProof.AttrMissHeap
import PyProof.WalksMore
import PyProof.MeetsDict
import KE.KDictList
import KE.KRevIter
import PyProof.DictItemsLoops
import PyProof.DictWalks
import KE.KSortTup
import KE.KDictSum
import PyProof.SumAny
import PyProof.Conv_int_bool
import PyProof.Conv_int
import KE.KRevSl
import PyProof.MeetsStr
import PyProof.StrCalls3
import PyProof.Rows.TupDisplay
import PyProof.ZipIter
import PyProof.Draws
import PySem.Challenge.RW_copymeet_k33_between
set_option Elab.async false
set_option linter.all false
set_option maxRecDepth 100000
namespace L2
open PySem PySem.Spec PyProof.Rows
abbrev Key:=Sum Int Str
def jE:Key->Value->Bool
 | .inl k,v=>Value.isInt k v
 | .inr x,v=>Value.isStrOf x v
def xA (w:World):Key->Int
 | .inl k=>hashInt k
 | .inr x=>hashStr w x
theorem bB:∀ {k:Key} {v:Value},jE k v=true->(∃ i t,k=Sum.inl i/\v=Value.int i t)\/(∃ x t,k=Sum.inr x/\v=Value.str x t)
 | .inl i,v,h=>by
  obtain ⟨t,e⟩:=Value.isInt_shape (k:=i) (v:=v) h
  exact .inl ⟨i,t,rfl,e⟩
 | .inr x,v,h=>by
  obtain ⟨t,e⟩:=Value.isStrOf_shape (x:=x) (v:=v) h
  exact .inr ⟨x,t,rfl,e⟩
theorem pP (i:Int) (t:Tok):jE (.inl i) (.int i t)=true:=by simp [jE,Value.isInt]
theorem pQ (x:Str) (t:Tok):jE (.inr x) (.str x t)=true:=by simp [jE,Value.isStrOf]
theorem xB (a b:Int):decide ((Sum.inl a:Key)=Sum.inl b)=(a == b):=by
 by_cases e:a=b
 ·subst e; simp
 ·have h:¬ (Sum.inl a:Key)=Sum.inl b:=fun q=>e (Sum.inl.inj q)
  rw [decide_eq_false h]
  exact (beq_eq_false_iff_ne.mpr e).symm
theorem xD (a b:Str):decide ((Sum.inr a:Key)=Sum.inr b)=decide (a=b):=by
 by_cases e:a=b
 ·subst e; simp
 ·have h:¬ (Sum.inr a:Key)=Sum.inr b:=fun q=>e (Sum.inr.inj q)
  rw [decide_eq_false h,decide_eq_false e]
theorem xE (a:Int) (b:Str):decide ((Sum.inl a:Key)=Sum.inr b)=false:=decide_eq_false (fun q=>nomatch q)
theorem xF (a:Str) (b:Int):decide ((Sum.inr a:Key)=Sum.inl b)=false:=decide_eq_false (fun q=>nomatch q)
def cI (prog:Program) (w:World):PySem.KeyKind prog w Key where
 is:=jE
 hash:=xA w
 inj:=fun v a b ha hb=>by
  rcases bB ha with ⟨i,t,rfl,rfl⟩ | ⟨x,t,rfl,rfl⟩
  ·rcases bB hb with ⟨j,u,rfl,e⟩ | ⟨y,u,rfl,e⟩
   ·injection e with e1 _; rw [e1]
   ·exact nomatch e
  ·rcases bB hb with ⟨j,u,rfl,e⟩ | ⟨y,u,rfl,e⟩
   ·exact nomatch e
   ·injection e with e1 _; rw [e1]
 byValue:=fun k v h=>by
  rcases bB h with ⟨i,t,rfl,rfl⟩ | ⟨x,t,rfl,rfl⟩ <;> rfl
 pyHash:=fun hv h=>by
  rcases bB hv with ⟨i,t,rfl,rfl⟩ | ⟨x,t,rfl,rfl⟩
  ·exact wpAny_pyHash_int h
  ·exact wpAny_pyHash_str h
 eqBool:=fun hu hv h=>by
  rcases bB hu with ⟨i,t,rfl,rfl⟩ | ⟨x,t,rfl,rfl⟩
  ·rcases bB hv with ⟨j,u,rfl,rfl⟩ | ⟨y,u,rfl,rfl⟩
   ·rw [xB] at h; exact wpAny_eqBool_int h
   ·rw [xE] at h; exact SeqAt.EqAt.int_str i t y u _ _ _ _ h
  ·rcases bB hv with ⟨j,u,rfl,rfl⟩ | ⟨y,u,rfl,rfl⟩
   ·rw [xF] at h; exact SeqAt.EqAt.str_int x t j u _ _ _ _ h
   ·rw [xD] at h; exact wpAny_eqBool_str h
 «strs»:=fun k x t v h=>by
  rcases bB h with ⟨i,u,rfl,e⟩ | ⟨y,u,rfl,e⟩
  ·exact nomatch e
  ·injection e with e1 _
   subst e1
   cases v <;> rfl
theorem lM (prog:Program) (w:World) (i:Int) (t:Tok):(cI prog w).is (.inl i) (.int i t)=true:=pP i t
theorem lN (prog:Program) (w:World) (x:Str) (t:Tok):(cI prog w).is (.inr x) (.str x t)=true:=pQ x t
end L2
namespace L2
open PySem PySem.Spec PyProof.Rows
inductive V where
 | non | bl (b:Bool) | int (i:Int) | str (x:Str) | byt (b:Array UInt8) | flt (b:UInt64) | ref (a:Addr) | ty (n:String)
 deriving DecidableEq
def RelV:V->Value->Prop
 | .non,u=>u=Value.none
 | .bl b,u=>u=Value.bool b
 | .int i,u=>∃ t,u=Value.int i t
 | .str x,u=>∃ t,u=Value.str x t
 | .byt b,u=>∃ t,u=Value.bytes b t
 | .flt b,u=>∃ t,u=Value.float b t
 | .ref a,u=>u=Value.ref a
 | .ty n,u=>u=Value.type n
abbrev aQ:List V->List Value->Prop:=Paired RelV
theorem aQ.length {xs:List V} {us:List Value} (r:aQ xs us):xs.length=us.length:=Paired.length r
theorem aQ.get:∀ {xs:List V} {us:List Value} {i:Nat} {x:V},aQ xs us->xs[i]?=some x->∃ u,us[i]?=some u/\RelV x u
 | _,_,_,_,.nil,e=>by simp at e
 | _,_,0,_,.cons r _,e=>by simp at e; subst e; exact ⟨_,rfl,r⟩
 | _,_,i+1,x,.cons _ t,e=>by
  obtain ⟨u,h1,h2⟩:=aQ.get (i:=i) (x:=x) t (by simpa using e)
  exact ⟨u,by simpa using h1,h2⟩
theorem aQ.append:∀ {xs ys:List V} {us ws:List Value},aQ xs us->aQ ys ws->aQ (xs++ys) (us++ws)
 | _,_,_,_,.nil,s=>s
 | _,_,_,_,.cons r t,s=>.cons r (aQ.append t s)
theorem aQ.take:∀ {xs:List V} {us:List Value} (n:Nat),aQ xs us->aQ (xs.take n) (us.take n)
 | _,_,0,_=>.nil
 | _,_,_+1,.nil=>.nil
 | _,_,n+1,.cons r t=>.cons r (aQ.take n t)
theorem aQ.drop:∀ {xs:List V} {us:List Value} (n:Nat),aQ xs us->aQ (xs.drop n) (us.drop n)
 | _,_,0,r=>r
 | _,_,_+1,.nil=>.nil
 | _,_,n+1,.cons _ t=>aQ.drop n t
def jZ:Option V->Option Value->Prop
 | some v,some u=>RelV v u
 | none,none=>True
 | _,_=>False
def KV {κ:Type}:List (κ×V)->List (κ×Value)->Prop:=Paired fun (p:κ×V) (q:κ×Value)=>p.1=q.1/\RelV p.2 q.2
def kV:Key->V
 | .inl i=>.int i
 | .inr x=>.str x
inductive HO where
 /-- a list -/
 | lst (xs:List V)
 /-- a tuple (never changes) -/
 | tup (xs:List V)
 /-- a dict whose keys are ints and texts; one whose keys are tuples of ints and texts (the empty one is both) -/
 | dK (kvs:List (Key×V)) | dT (kvs:List (List Key×V))
 /-- a set of ints: its members,its size -/
 | set (S:Int->Bool) (n:Nat)
 /-- an instance of the class at C,its dict at dx,its attributes -/
 | ins (C dx:Addr) (fs:List (Str×V))
 /-- the dict of the instance at x -/
 | own (x:Addr)
 /-- the dict of an exception -/
 | xd (fs:List (Str×V))
 /-- a bound method,f of x -/
 | met (f x:Addr)
 /-- a range object lo,lo+1,.. below hi -/
 | rng (lo hi:Int)
 /-- a thing that is known to the object (the script; a dict while a loop walks it): read,never written while it is so -/
 | frz (o:Obj) (u:HO)
 /-- a code object's table -/
 | tbl (ps:Array Value)
 /-- any other thing,by what is true of its one object (a def of one's own: SetO a S n:=HO.ext fun h=>..) -/
 | ext (φ:Heap->Prop)
abbrev Hp:=Addr->Option HO
def upd (H:Hp) (a:Addr) (o:HO):Hp:=fun b=>if b=a then some o else H b
theorem aV {H:Hp} {a:Addr} {o:HO}:upd H a o a=some o:=by unfold upd; rw [if_pos rfl]
theorem aK {H:Hp} {a b:Addr} {o:HO} (h:b≠a):upd H a o b=H b:=by unfold upd; rw [if_neg h]
theorem bR {H:Hp} {a b:Addr} {o:HO} (h:H a=some o) (h':H b=none):a≠b:=by
 intro e; subst e; rw [h] at h'; cases h'
def jB (h:Heap) (a:Addr) (items:Array Value):Prop:=∃ o,h.get? a=some o/\o.cls=.type "tuple" /\ (∃ n,o.data=.seq items n)/\o.dict=none
theorem jB.is {h:Heap} {a:Addr} {items:Array Value} (x:jB h a items):PyProof.Rows.IsTup h a items:=let ⟨o,h1,h2,h3,_⟩:=x; ⟨o,h1,h2,h3⟩
theorem jB.lt {h:Heap} {a:Addr} {items:Array Value} (x:jB h a items):a < h.objs.size:=let ⟨_,h1,_⟩:=x; Heap.lt_size h1
theorem jB.new (h:Heap) (items:Array Value):jB (h.push { cls:=.type "tuple",data:=.seq items 0 }) h.objs.size items:=⟨_,Heap.get?_push_size _ rfl,rfl,⟨_,rfl⟩,rfl⟩
section
variable (P:Program) (w:World)
def bS (H:Hp) (h:Heap) (a:Addr):HO->Prop
 | .lst xs=>xs.length<=sizeLine/\∃ (its:List Value) (n:Nat),aQ xs its/\h.get? a=some { cls:=.type "list",data:=.seq its.toArray n }
 | .tup xs=>xs.length<=sizeLine/\∃ its:List Value,aQ xs its/\jB h a its.toArray
 | .dK kvs=>kvs.length<=sizeLine/\(a == sysModules)=false/\∃ vs,KV kvs vs/\h.DictOf (cI P w) a vs
 | .dT kvs=>kvs.length<=sizeLine/\(a == sysModules)=false/\∃ xs:List (List Key×Addr×Value),
   Paired (fun (p:List Key×V) (q:List Key×Addr×Value)=>p.1=q.1/\H q.2.1=some (.tup (p.1.map kV))/\RelV p.2 q.2.2) kvs xs/\
   ∃ o es ep,h.get? a=some o/\o.ExactDict/\o.data=.dict es ep/\es.toList=xs.map (entryOfKey (tupleKind (cI P w)))/\(xs.map (·.1)).Nodup
 | .set S n=>h.SetOf (intKind P w) a S n
 | .ins C dx fs=>H dx=some (.own a)/\fs.length<=1000/\dx≠a/\h.get? a=some (PySem.W.instObj C dx)/\
   ∃ mA,h.Ns1 dx mA/\(∀ f,jZ (fs.lookup f) (mA f))/\PySem.Within mA (fs.map (·.1))
 | .own _=>∃ o,h.get? a=some o
 | .xd fs=>∃ mA,h.Ns1 a mA/\∀ f,jZ (fs.lookup f) (mA f)
 | .rng lo hi=>∃ t u v,h.get? a=some { cls:=.type "range",data:=.fields #[.int lo t,.int hi u,.int 1 v] }
 | .frz o u=>h.get? a=some o/\bS H h a u
 | .tbl ps=>h.get? a=some { cls:=.none,data:=.fields ps }
 | .met f x=>h.get? a=some (PySem.W.methodObj (.ref f) (.ref x))
 | .ext φ=>φ h/\(∃ o,h.get? a=some o)/\∀ h1 h2:Heap,φ h1->(∀ o,h1.get? a=some o->h2.get? a=some o)->φ h2
def HOk (H:Hp) (h:Heap):Prop:=∀ a o,H a=some o->bS P w H h a o
end
section
variable {P:Program} {w:World} {H H':Hp} {h h':Heap} {a:Addr} {o:HO}
theorem bS.lt (x:bS P w H h a o):a < h.objs.size:=by
 cases o with
 | lst xs=>obtain ⟨_,_,_,_,e⟩:=x; exact Heap.lt_size e
 | tup xs=>obtain ⟨_,_,_,p⟩:=x; exact jB.lt p
 | dK kvs=>obtain ⟨_,_,_,_,o,_,_,e,_⟩:=x; exact Heap.lt_size e
 | dT kvs=>obtain ⟨_,_,_,_,o,_,_,e,_⟩:=x; exact Heap.lt_size e
 | set S n=>obtain ⟨o,_,_,_,e,_⟩:=x; exact Heap.lt_size e
 | ins C dx fs=>obtain ⟨_,_,_,e,_⟩:=x; exact Heap.lt_size e
 | own y=>obtain ⟨_,e⟩:=x; exact Heap.lt_size e
 | xd fs=>obtain ⟨_,⟨_,_,_,e,_⟩,_⟩:=x; exact Heap.lt_size e
 | rng lo hi=>obtain ⟨_,_,_,e⟩:=x; exact Heap.lt_size e
 | frz ob u=>obtain ⟨e,_⟩:=x; exact Heap.lt_size e
 | tbl ps=>exact Heap.lt_size (show h.get? a=some _ from x)
 | met f y=>exact Heap.lt_size (show h.get? a=some _ from x)
 | ext φ=>obtain ⟨_,⟨_,e⟩,_⟩:=x; exact Heap.lt_size e
theorem Paired.mapP {α β:Type} {F G:α->β->Prop}:∀ {l₁:List α} {l₂:List β},Paired F l₁ l₂->(∀ a b,F a b->G a b)->Paired G l₁ l₂
 | _,_,.nil,_=>.nil
 | _,_,.cons r t,f=>.cons (f _ _ r) (Paired.mapP t f)
theorem bS.stay (x:bS P w H h a o) (k:∀ b u,(b=a\/H b=some (.own a))->h.get? b=some u->h'.get? b=some u)
  (ho:∀ b,H b=some (.own a)->H' b=some (.own a)) (ht:∀ b xs,H b=some (.tup xs)->H' b=some (.tup xs)):bS P w H' h' a o:=by
 induction o with
 | lst xs=>obtain ⟨z,its,n,r,e⟩:=x; exact ⟨z,its,n,r,k _ _ (.inl rfl) e⟩
 | tup xs=>obtain ⟨z,its,r,ob,e,c⟩:=x; exact ⟨z,its,r,ob,k _ _ (.inl rfl) e,c⟩
 | dK kvs=>obtain ⟨z,y,vs,r,ob,es,ep,e,c⟩:=x; exact ⟨z,y,vs,r,ob,es,ep,k _ _ (.inl rfl) e,c⟩
 | dT kvs=>
  obtain ⟨z,y,xs,r,ob,es,ep,e,c⟩:=x
  exact ⟨z,y,xs,Paired.mapP r fun p q z=>⟨z.1,ht _ _ z.2.1,z.2.2⟩,ob,es,ep,k _ _ (.inl rfl) e,c⟩
 | set S n=>obtain ⟨ob,es,ep,t,e,c⟩:=x; exact ⟨ob,es,ep,t,k _ _ (.inl rfl) e,c⟩
 | ins C dx fs=>
  obtain ⟨d,z,ne,e,mA,⟨od,es,ep,e2,c⟩,r⟩:=x
  exact ⟨ho _ d,z,ne,k _ _ (.inl rfl) e,mA,⟨od,es,ep,k _ _ (.inr d) e2,c⟩,r⟩
 | own y=>obtain ⟨ob,e⟩:=x; exact ⟨ob,k _ _ (.inl rfl) e⟩
 | xd fs=>obtain ⟨mA,⟨od,es,ep,e,c⟩,r⟩:=x; exact ⟨mA,⟨od,es,ep,k _ _ (.inl rfl) e,c⟩,r⟩
 | rng lo hi=>obtain ⟨t,u,v,e⟩:=x; exact ⟨t,u,v,k _ _ (.inl rfl) e⟩
 | frz ob u ih=>obtain ⟨e,q⟩:=x; exact ⟨k _ _ (.inl rfl) e,ih q⟩
 | tbl ps=>
  have e:h.get? a=some { cls:=.none,data:=.fields ps }:=x
  show h'.get? a=some { cls:=.none,data:=.fields ps }
  exact k a _ (.inl rfl) e
 | met f y=>
  have e:h.get? a=some (PySem.W.methodObj (.ref f) (.ref y)):=x
  show h'.get? a=some (PySem.W.methodObj (.ref f) (.ref y))
  exact k a _ (.inl rfl) e
 | ext φ=>obtain ⟨p,⟨o,e⟩,st⟩:=x; exact ⟨st _ _ p fun o q=>k _ _ (.inl rfl) q,⟨o,k _ _ (.inl rfl) e⟩,st⟩
theorem HOk.lt (x:HOk P w H h) (e:H a=some o):a < h.objs.size:=(x a o e).lt
theorem HOk.fresh (x:HOk P w H h) (e:h.objs.size<=a):H a=none:=by
 cases q:H a with
 | none=>rfl
 | some u=>exact absurd (Nat.lt_of_lt_of_le (x.lt q) e) (Nat.lt_irrefl _)
theorem HOk.kept (x:HOk P w H h) (k:∀ b u,h.get? b=some u->h'.get? b=some u):HOk P w H h':=fun a o e=>
 (x a o e).stay (fun b u _ q=>k b u q) (fun _ q=>q) fun _ _ q=>q
theorem HOk.laid (x:HOk P w H h) (k:∀ b u,h.get? b=some u->h'.get? b=some u) (hp:h.objs.size<=a) (new:bS P w (upd H a o) h' a o):HOk P w (upd H a o) h':=fun b u e=>by
 have hn:=x.fresh hp
 by_cases hb:b=a
 ·subst hb; rw [aV] at e; cases e; exact new
 ·rw [aK hb] at e
  exact (x b u e).stay (fun c v _ q=>k c v q) (fun c q=>by rw [aK (bR q hn)]; exact q) fun c xs q=>by rw [aK (bR q hn)]; exact q
end
def Rd (H:Hp) (a:Addr) (u:HO):Prop:=H a=some u\/∃ o,H a=some (.frz o u)
theorem Rd.ok {P:Program} {w:World} {H:Hp} {h:Heap} {a:Addr} {u:HO} (r:Rd H a u) (x:HOk P w H h):bS P w H h a u:=by
 rcases r with r | ⟨o,r⟩
 ·exact x a u r
 ·obtain ⟨_,q⟩:=x a _ r
  exact q
def Mut:Option HO->Prop
 | some (.lst _)=>True
 | some (.dK _)=>True
 | some (.dT _)=>True
 | some (.set _ _)=>True
 | some (.ins _ _ _)=>True
 | some (.ext _)=>True
 | _=>False
section
variable {P:Program} {w:World} {H:Hp} {h h':Heap} {x e:Addr} {o':HO}
theorem HOk.write (ok:HOk P w H h) (mu:Mut (H x)) (he:e=x\/H e=some (.own x)) (k:∀ b u,b≠e->h.get? b=some u->h'.get? b=some u) (heo:∃ u,h'.get? e=some u)
  (new:bS P w (upd H x o') h' x o'):HOk P w (upd H x o') h':=fun b u q=>by
 have nown:∀ c y,H c=some (.own y)->c≠x:=fun c y r z=>by subst z; rw [r] at mu; exact mu
 have ntup:∀ c xs,H c=some (.tup xs)->c≠x:=fun c xs r z=>by subst z; rw [r] at mu; exact mu
 by_cases hb:b=x
 ·subst hb; rw [aV] at q; cases q; exact new
 ·rw [aK hb] at q
  by_cases hbe:b=e
  ·have q':H b=some (.own x):=by
    rcases he with z | z
    ·exact absurd (hbe.trans z) hb
    ·rw [hbe]; exact z
   rw [q] at q'; cases q'
   obtain ⟨v,hv⟩:=heo
   exact ⟨v,by rw [hbe]; exact hv⟩
  ·refine (ok b u q).stay (fun c v hc r=>k c v ?_ r) (fun c r=>by rw [aK (nown c b r)]; exact r) fun c xs r=>by rw [aK (ntup c xs r)]; exact r
   rcases hc with rfl | hc
   ·exact hbe
   ·rintro rfl
    rcases he with z | z
    ·exact nown c b hc z
    ·rw [hc] at z; cases z; exact hb rfl
end
structure Un (fs ex:List Addr) (H H':Hp) (h h':Heap):Prop where
 keep:∀ b o,h.get? b=some o->H b=none->b∉fs->b∉ex->h'.get? b=some o
 slot:∀ b o,h.get? b=some o->H b=none->b∈fs->b∉ex->∃ sl,h'.get? b=some { o with slots:=sl }
 free:∀ b o,h.get? b=some o->H b=none->b∉ex->H' b=none
 there:∀ b o,h.get? b=some o->b∉ex->∃ o',h'.get? b=some o'
 tups:∀ b xs,H b=some (.tup xs)->H' b=some (.tup xs)
 frzs:∀ b o u,H b=some (.frz o u)->H' b=some (.frz o u)
 tbls:∀ b ps,H b=some (.tbl ps)->∃ more,H' b=some (.tbl (ps++more))
section
variable {fs fs' ex ex':List Addr} {H H1 H2:Hp} {h h1 h2 h':Heap} {a x e:Addr} {o:HO}
theorem Un.any (u:Un fs ex H H1 h h1) {b:Addr} {ob:Obj} (q:h.get? b=some ob) (n:H b=none) (hx:b∉ex):∃ sl,h1.get? b=some { ob with slots:=sl }:=by
 by_cases hb:b∈fs
 ·exact u.slot b ob q n hb hx
 ·exact ⟨ob.slots,u.keep b ob q n hb hx⟩
theorem Un.kept (k:∀ b u,h.get? b=some u->h'.get? b=some u):Un fs ex H H h h':=
 ⟨fun b ob q _ _ _=>k b ob q,fun b ob q _ _ _=>⟨ob.slots,k b ob q⟩,fun _ _ _ n _=>n,fun b ob q _=>⟨ob,k b ob q⟩,fun _ _ q=>q,fun _ _ _ q=>q,fun _ ps q=>⟨#[],by rw [q]; simp⟩⟩
theorem Un.refl:Un fs ex H H h h:=Un.kept fun _ _ q=>q
theorem Un.laid (k:∀ b u,h.get? b=some u->h'.get? b=some u) (hp:h.objs.size<=a) (hn:H a=none):Un fs ex H (upd H a o) h h' where
 keep:=fun b u q _ _ _=>k b u q
 slot:=fun b u q _ _ _=>⟨u.slots,k b u q⟩
 free:=fun b u q n _=>by rw [aK (Nat.ne_of_lt (Nat.lt_of_lt_of_le (Heap.lt_size q) hp))]; exact n
 there:=fun b u q _=>⟨u,k b u q⟩
 tups:=fun b xs q=>by rw [aK (bR q hn)]; exact q
 frzs:=fun b u xs q=>by rw [aK (bR q hn)]; exact q
 tbls:=fun b ps q=>⟨#[],by rw [aK (bR q hn),q]; simp⟩
theorem Un.write (mu:Mut (H x)) (he:e=x\/H e=some (.own x)) (k:∀ b u,b≠e->h.get? b=some u->h'.get? b=some u) (heo:∃ u,h'.get? e=some u):Un fs ex H (upd H x o) h h':=by
 have hx:∀ b,H b=none->b≠x:=fun b n z=>by subst z; rw [n] at mu; exact mu
 have hb:∀ b,H b=none->b≠e:=fun b n z=>by
  subst z
  rcases he with r | r
  ·exact hx b n r
  ·rw [n] at r; cases r
 have hm:∀ b u,H b=some u->¬ Mut (some u)->b≠x:=fun b u q nm z=>by subst z; rw [q] at mu; exact nm mu
 refine ⟨fun b u q n _ _=>k b u (hb b n) q,fun b u q n _ _=>⟨u.slots,k b u (hb b n) q⟩,fun b u q n _=>by rw [aK (hx b n)]; exact n,fun b u q _=>?_,
  fun b xs q=>by rw [aK (hm b _ q fun z=>z)]; exact q,fun b u xs q=>by rw [aK (hm b _ q fun z=>z)]; exact q,fun b ps q=>⟨#[],by rw [aK (hm b _ q fun z=>z),q]; simp⟩⟩
 by_cases hbe:b=e
 ·subst hbe; exact heo
 ·exact ⟨u,k b u hbe q⟩
end
def trk (h:Heap) (H:Hp):List Addr:=(List.range h.objs.size).filter fun a=>(H a).isSome
def kA (h:Heap) (H:Hp):Heap:=PySem.W.hideAll h (trk h H)
theorem pR (h:Heap) (H:Hp):(kA h H).objs.size=h.objs.size:=PySem.W.hideAll_size _ _
theorem qX {h:Heap} {H:Hp} {b:Addr} {o:Obj} (e:h.get? b=some o) (n:H b=none):(kA h H).get? b=some o:=
 PySem.W.hideAll_get _ e fun hm=>by
  have q:(H b).isSome=true:=(List.mem_filter.mp hm).2
  rw [n] at q; simp at q
theorem tS {h:Heap} {H:Hp} {b:Addr} {o:Obj} (e:(kA h H).get? b=some o):h.get? b=some o/\H b=none:=by
 have e':h.get? b=some o:=PySem.W.of_hideAll (trk h H) e
 refine ⟨e',?_⟩
 cases q:H b with
 | none=>rfl
 | some x=>
  have hm:b∈trk h H:=List.mem_filter.mpr ⟨List.mem_range.mpr (Heap.lt_size e'),by simp [q]⟩
  have z:(kA h H).get? b=none:=PySem.W.hideAll_none (trk h H) hm
  rw [z] at e; cases e
def tT (g h:Heap) (L:Addr):List (Addr×Obj):=(List.range h.objs.size).filterMap fun a=>if a=L\/(g.get? a).isSome=true then none else (h.get? a).map fun o=>(a,o)
def rest (g h:Heap) (L d:Addr):List (Addr×Obj):=(tT g h L).filter fun p=>decide (p.1≠d)
end L2
namespace L2
open PySem PySem.Spec PyProof.Rows
structure Mod (K:PySem.W.Frag) (mg:Str->Option Value) (base:Heap):Prop where
 kin:K.In base
 glob:base.Ns mainGlobals mg
 blt:∃ mb,base.Ns builtinsNs mb/\∀ x:Str,x≠"__name__" -> mb x=bootBuiltins x
 nolimit:base.NoLimit
structure Cx where
 prog:Program
 w:World
 K:PySem.W.Frag
 mg:Str->Option Value
 base:Heap
 A:Around
 N:List Str
 s₀:Shared
 H₀:Hp
 env:Env
 outer:List Env
 stack:List Env
 ex:List Addr
 fn:Str->Bool
 calm:Bool
 pn:List (Addr×Obj)
 xe:Value->Shared->Prop
def frs (l:List Env):List Addr:=l.filterMap (·.frame)
abbrev Cx.fs (X:Cx):List Addr:=frs X.outer
def Vis (sc:Scope) (x:Str):Prop:=sc.names.lookup x=some .local\/sc.names.lookup x=some .cell\/sc.names.lookup x=some .free
def Loc (sc:Scope) (x:Str):Prop:=sc.names.lookup x=some .local\/sc.names.lookup x=some .cell
def Look (env:Env) (h:Heap) (m:Str->Option Value) (x:Str) (u:Value):Prop:=
 (env.kindOf x=some .local/\m x=some u)\/((env.kindOf x=some .cell\/env.kindOf x=some .free)/\∃ c,env.cells.lookup x=some c/\h.IsCell c (some u))
structure Cx.Ok (X:Cx):Prop where
 mod:Mod X.K X.mg X.base
 kind:X.env.scope.kind=.function
 glob:X.env.globals=mainGlobals
 blt:X.env.builtins=builtinsNs
 above:X.s₀.heap.objs.size<=X.env.locals
 inj:∀ x y c,X.env.cells.lookup x=some c->X.env.cells.lookup y=some c->x=y
 has:∀ x,(X.env.kindOf x=some .cell\/X.env.kindOf x=some .free)->∃ c,X.env.cells.lookup x=some c
 cab:∀ x c,X.fn x=true->X.env.cells.lookup x=some c->X.s₀.heap.objs.size<=c
 hd:X.calm=true->X.A.handled=none
 frames:X.A.frames=some X.stack
 stk:X.stack=X.outer\/(X.stack=X.env :: X.outer/\X.env.frame=some X.env.locals)
 exf:∀ b∈X.ex,b≠X.env.locals/\∀ x c,X.env.cells.lookup x=some c->c≠b
 bs:∀ b o,X.base.get? b=some o->X.s₀.heap.get? b=some o/\X.H₀ b=none
 bsz:X.base.objs.size<=X.s₀.heap.objs.size
 noex:∀ b o,X.base.get? b=some o->b∉X.ex
 exfs:∀ b∈X.ex,b∉X.fs
 funs:X.s₀.heap.FunFrames X.base X.outer
 frf:∀ b∈X.fs,X.H₀ b=none
structure Inv (X:Cx) (pins:List (Addr×Obj)) (σ:List (Option V)) (H:Hp) (s:Shared):Prop where
 ok:X.Ok
 os:s.os=X.s₀.os
 bare:AllBare s.gens
 base:Un X.fs X.ex X.H₀ H X.s₀.heap s.heap
 loc:∃ m,s.heap.Ns X.env.locals m/\∀ (i:Nat) (x:Str) (v:V),X.N[i]?=some x->σ[i]?=some (some v)->Vis X.env.scope x->∃ u,RelV v u/\Look X.env s.heap m x u
 cell:∀ x c,X.env.cells.lookup x=some c->∃ v,s.heap.IsCell c v
 free:H X.env.locals=none
 freeC:∀ x c,X.env.cells.lookup x=some c->H c=none
 pin:∀ p∈X.pn++pins,s.heap.get? p.1=some p.2/\H p.1=none/\p.1≠X.env.locals/\p.1∉X.fs/\∀ v,p.2.data≠.cell v
 hok:HOk X.prog X.w H s.heap
 len:σ.length=X.N.length
section
variable {X:Cx} {pins:List (Addr×Obj)} {σ:List (Option V)} {H H':Hp} {s:Shared} {h':Heap}
theorem Cx.Ok.nofr (ok:X.Ok) {b:Addr} {o:Obj} (e:X.base.get? b=some o):b∉X.fs:=fun hb=>by
 have:=(ok.funs.mem hb).1
 rw [e] at this; cases this
theorem Inv.bs (I:Inv X pins σ H s):∀ b o,X.base.get? b=some o->s.heap.get? b=some o/\H b=none:=fun b o e=>
 ⟨I.base.keep b o (I.ok.bs b o e).1 (I.ok.bs b o e).2 (I.ok.nofr e) (I.ok.noex b o e),I.base.free b o (I.ok.bs b o e).1 (I.ok.bs b o e).2 (I.ok.noex b o e)⟩
theorem Inv.bk (I:Inv X pins σ H s):∀ b o,X.base.get? b=some o->s.heap.get? b=some o:=fun b o e=>(I.bs b o e).1
theorem Inv.mod (I:Inv X pins σ H s):Mod X.K X.mg X.base:=I.ok.mod
theorem Inv.kIn (I:Inv X pins σ H s):X.K.In s.heap:=I.ok.mod.kin.keeps I.bk
theorem Inv.lt (I:Inv X pins σ H s):X.env.locals < s.heap.objs.size:=let ⟨_,hn,_⟩:=I.loc; hn.lt
theorem Inv.sz (I:Inv X pins σ H s):X.s₀.heap.objs.size<=s.heap.objs.size:=Nat.le_trans I.ok.above (Nat.le_of_lt I.lt)
theorem Inv.nofs (I:Inv X pins σ H s) {a:Addr} (h:s.heap.objs.size<=a):a∉X.fs:=fun hb=>by
 obtain ⟨_,o,ho,_⟩:=I.ok.funs.mem hb
 exact absurd (Nat.lt_of_lt_of_le (Heap.lt_size ho) (Nat.le_trans I.sz h)) (Nat.lt_irrefl _)
theorem Inv.cne (I:Inv X pins σ H s):∀ x c,X.env.cells.lookup x=some c->c≠X.env.locals:=fun x c e z=>by
 obtain ⟨v,o,ho,hd⟩:=I.cell x c e
 obtain ⟨m,⟨o',es,ep,ho',hd',_⟩,_⟩:=I.loc
 rw [z,ho'] at ho; cases ho; rw [hd'] at hd; cases hd
theorem Inv.funs (I:Inv X pins σ H s):s.heap.FunFrames X.base X.outer:=by
 have all:∀ (l:List Env),(∀ b∈frs l,b∈X.fs)->X.s₀.heap.FunFrames X.base l->s.heap.FunFrames X.base l:=by
  intro l
  induction l with
  | nil=>intro _ _; trivial
  | cons env r ih=>
   intro hs hl
   obtain ⟨hk,⟨L,o,hf,hn,ho,hd⟩,hr⟩:=hl
   have hL:L∈X.fs:=hs L (by unfold frs; rw [List.filterMap_cons,hf]; exact List.mem_cons_self)
   obtain ⟨sl,e⟩:=I.base.slot L o ho (I.ok.frf L hL) hL fun z=>I.ok.exfs L z hL
   exact ⟨hk,⟨L,_,hf,hn,e,hd⟩,ih (fun b hb=>hs b (by unfold frs; rw [List.filterMap_cons,hf]; exact List.mem_cons_of_mem _ hb)) hr⟩
 exact all X.outer (fun _ hb=>hb) I.ok.funs
theorem Inv.stack (I:Inv X pins σ H s):s.heap.FunFrames X.base X.stack:=by
 rcases I.ok.stk with e | ⟨e,hf⟩
 ·rw [e]; exact I.funs
 ·rw [e]
  obtain ⟨m,hn,_⟩:=I.loc
  refine .cons (by rw [I.ok.kind]; decide) hf hn ?_ I.funs
  exact Heap.get?_none_of_le (Nat.le_trans I.ok.bsz I.ok.above)
theorem Inv.stkSub (I:Inv X pins σ H s):∀ b∈frs X.stack,b∈X.env.locals :: X.fs:=fun b hb=>by
 rcases I.ok.stk with e | ⟨e,hf⟩
 ·rw [e] at hb; exact List.mem_cons_of_mem _ hb
 ·rw [e] at hb
  unfold frs at hb
  rw [List.filterMap_cons,hf] at hb
  exact hb
theorem Inv.stkFree (I:Inv X pins σ H s):∀ b∈frs X.stack,H b=none:=fun b hb=>by
 rcases List.mem_cons.mp (I.stkSub b hb) with e | hb
 ·rw [e]; exact I.free
 ·obtain ⟨_,o,ho,_⟩:=I.ok.funs.mem hb
  exact I.base.free b o ho (I.ok.frf b hb) fun z=>I.ok.exfs b z hb
theorem Inv.step {g':Array GenState} {t':Nat} {d':Drawn} {ch:List Addr} (I:Inv X pins σ H s)
  (hch:∀ b∈ch,(b∈X.ex\/X.s₀.heap.objs.size<=b)/\b≠X.env.locals/\(∀ x c,X.env.cells.lookup x=some c->c≠b)/\∀ p∈X.pn++pins,p.1≠b)
  (keep:∀ b o,b≠X.env.locals->b∉X.fs->b∉ch->s.heap.get? b=some o->H b=none->h'.get? b=some o)
  (slot:∀ b o,b≠X.env.locals->b∈X.fs->b∉ch->s.heap.get? b=some o->H b=none->∃ sl,h'.get? b=some { o with slots:=sl }) (free:∀ b o,b∉ch->s.heap.get? b=some o->H b=none->H' b=none)
  (there:∀ b o,b∉ch->s.heap.get? b=some o->∃ o',h'.get? b=some o')
  (tups:∀ b xs,H b=some (.tup xs)->H' b=some (.tup xs)) (frzs:∀ b o u,H b=some (.frz o u)->H' b=some (.frz o u)) (tbls:∀ b ps,H b=some (.tbl ps)->∃ more,H' b=some (.tbl (ps++more)))
  (ns:∀ m,s.heap.Ns X.env.locals m->h'.Ns X.env.locals m) (hok:HOk X.prog X.w H' h') (hg:AllBare g'):
  Inv X pins σ H' { s with heap:=h',gens:=g',drawn:=d',toks:=t' }:=by
 have neL:∀ b o,X.s₀.heap.get? b=some o->b≠X.env.locals:=fun b o e=>Nat.ne_of_lt (Nat.lt_of_lt_of_le (Heap.lt_size e) I.ok.above)
 have neC:∀ b o,X.s₀.heap.get? b=some o->b∉X.ex->b∉ch:=fun b o e hx hb=>by
  rcases (hch b hb).1 with z | z
  ·exact hx z
  ·exact absurd (Nat.lt_of_lt_of_le (Heap.lt_size e) z) (Nat.lt_irrefl _)
 have cellK:∀ x c,X.env.cells.lookup x=some c->∀ v,s.heap.IsCell c v->h'.IsCell c v:=fun x c e v ⟨o,ho,hd⟩=>by
  have nch:c∉ch:=fun z=>(hch c z).2.2.1 x c e rfl
  by_cases hc:c∈X.fs
  ·obtain ⟨sl,q⟩:=slot c o (I.cne x c e) hc nch ho (I.freeC x c e)
   exact ⟨_,q,hd⟩
  ·exact ⟨o,keep c o (I.cne x c e) hc nch ho (I.freeC x c e),hd⟩
 refine ⟨I.ok,I.os,hg,⟨fun b o e n hb hx=>?_,fun b o e n hb hx=>?_,fun b o e n hx=>?_,fun b o e hx=>?_,fun b xs e=>tups b xs (I.base.tups b xs e),fun b o xs e=>frzs b o xs (I.base.frzs b o xs e),fun b ps e=>?_⟩,?_,fun x c e=>?_,?_,fun x c e=>?_,fun p hp=>?_,hok,I.len⟩
 ·exact keep b o (neL b o e) hb (neC b o e hx) (I.base.keep b o e n hb hx) (I.base.free b o e n hx)
 ·obtain ⟨sl,e1⟩:=I.base.slot b o e n hb hx
  obtain ⟨sl',e2⟩:=slot b _ (neL b o e) hb (neC b o e hx) e1 (I.base.free b o e n hx)
  exact ⟨sl',e2⟩
 ·obtain ⟨o',e1⟩:=I.base.there b o e hx
  exact free b o' (neC b o e hx) e1 (I.base.free b o e n hx)
 ·obtain ⟨o',e1⟩:=I.base.there b o e hx
  exact there b o' (neC b o e hx) e1
 ·obtain ⟨m1,e1⟩:=I.base.tbls b ps e
  obtain ⟨m2,e2⟩:=tbls b _ e1
  exact ⟨m1++m2,by rw [e2,Array.append_assoc]⟩
 ·obtain ⟨m,hn,hl⟩:=I.loc
  refine ⟨m,ns m hn,fun i x v e1 e2 e3=>?_⟩
  obtain ⟨u,r,l⟩:=hl i x v e1 e2 e3
  refine ⟨u,r,?_⟩
  rcases l with l | ⟨k,c,e,z⟩
  ·exact .inl l
  ·exact .inr ⟨k,c,e,cellK x c e _ z⟩
 ·obtain ⟨v,z⟩:=I.cell x c e
  exact ⟨v,cellK x c e v z⟩
 ·obtain ⟨m,⟨o,_,_,ho,_⟩,_⟩:=I.loc
  exact free _ o (fun z=>(hch _ z).2.1 rfl) ho I.free
 ·obtain ⟨v,o,ho,hd⟩:=I.cell x c e
  exact free c o (fun z=>(hch c z).2.2.1 x c e rfl) ho (I.freeC x c e)
 ·obtain ⟨e,n,ne,nf,d⟩:=I.pin p hp
  have nch:p.1∉ch:=fun z=>(hch p.1 z).2.2.2 p hp rfl
  exact ⟨keep p.1 p.2 ne nf nch e n,free p.1 p.2 nch e n,ne,nf,d⟩
theorem Inv.un {t':Nat} (I:Inv X pins σ H s) (u:Un X.fs [] H H' s.heap h') (hok:HOk X.prog X.w H' h'):Inv X pins σ H' { s with heap:=h',toks:=t' }:=by
 obtain ⟨m,⟨o,es,ep,ho,r⟩,_⟩:=id I.loc
 obtain ⟨sl,hL⟩:=u.any ho I.free (by simp)
 exact I.step (g':=s.gens) (d':=s.drawn) (ch:=[]) (fun _ z=>nomatch z) (fun b o _ hb _ e n=>u.keep b o e n hb (by simp)) (fun b o _ hb _ e n=>u.slot b o e n hb (by simp)) (fun b o _ e n=>u.free b o e n (by simp)) (fun b o _ e=>u.there b o e (by simp)) u.tups u.frzs u.tbls (fun m' hm=>by
  obtain ⟨o',es',ep',ho',r'⟩:=hm
  rw [ho] at ho'; cases ho'
  exact ⟨_,es',ep',hL,r'⟩) hok I.bare
theorem Inv.call {g':Array GenState} {t':Nat} {d':Drawn} {ch:List Addr} (I:Inv X pins σ H s) (u:Un (frs X.stack) ch H H' s.heap h') (hok:HOk X.prog X.w H' h') (hg:AllBare g')
  (hch:∀ b∈ch,(b∈X.ex\/X.s₀.heap.objs.size<=b)/\b≠X.env.locals/\(∀ x c,X.env.cells.lookup x=some c->c≠b)/\∀ p∈X.pn++pins,p.1≠b):
  Inv X pins σ H' { s with heap:=h',gens:=g',drawn:=d',toks:=t' }:=by
 obtain ⟨m,⟨o,es,ep,ho,r⟩,_⟩:=id I.loc
 obtain ⟨sl,hL⟩:=u.any ho I.free fun z=>(hch _ z).2.1 rfl
 exact I.step (ch:=ch) hch (fun b o hL hb hc e n=>u.keep b o e n (fun z=>(List.mem_cons.mp (I.stkSub b z)).elim hL hb) hc) (fun b o _ _ hc e n=>u.any e n hc) (fun b o hc e n=>u.free b o e n hc) (fun b o hc e=>u.there b o e hc) u.tups u.frzs u.tbls (fun m' hm=>by
  obtain ⟨o',es',ep',ho',r'⟩:=hm
  rw [ho] at ho'; cases ho'
  exact ⟨_,es',ep',hL,r'⟩) hok hg
theorem Inv.turned {t':Nat} {it:Addr} (I:Inv X pins σ H s) (k:∀ b o,b≠it->s.heap.get? b=some o->h'.get? b=some o) (hn:H it=none) (hL:it≠X.env.locals)
  (h1:it∈X.ex\/X.s₀.heap.objs.size<=it) (h2:∀ x c,X.env.cells.lookup x=some c->c≠it) (h3:∀ p∈X.pn++pins,p.1≠it):Inv X pins σ H { s with heap:=h',toks:=t' }:=by
 have nit:∀ b u,H b=some u->b≠it:=fun b u e z=>by rw [z,hn] at e; cases e
 refine I.step (g':=s.gens) (d':=s.drawn) (ch:=[it]) (fun b hb=>?_) (fun b o _ _ hc e _=>k b o (fun z=>hc (by simp [z])) e) (fun b o _ _ hc e _=>⟨o.slots,k b o (fun z=>hc (by simp [z])) e⟩) (fun _ _ _ _ n=>n)
  (fun b o hc e=>⟨o,k b o (fun z=>hc (by simp [z])) e⟩) (fun _ _ e=>e) (fun _ _ _ e=>e) (fun b ps e=>⟨#[],by rw [e]; simp⟩) (fun m hm=>?_) (fun b u e=>?_) I.bare
 ·have e:b=it:=by simpa using hb
  subst e
  exact ⟨h1,hL,h2,h3⟩
 ·obtain ⟨o,es,ep,ho,r⟩:=hm
  exact ⟨o,es,ep,k _ o (Ne.symm hL) ho,r⟩
 ·refine (I.hok b u e).stay (fun c v hc q=>k c v ?_ q) (fun _ q=>q) fun _ _ q=>q
  rcases hc with z | z
  ·rw [z]; exact nit b u e
  ·exact nit c _ z
theorem Inv.tok (I:Inv X pins σ H s) (t:Nat):Inv X pins σ H { s with toks:=t }:=I.un (h':=s.heap) (t':=t) Un.refl I.hok
theorem Inv.kept {t':Nat} (I:Inv X pins σ H s) (k:∀ b u,s.heap.get? b=some u->h'.get? b=some u):Inv X pins σ H { s with heap:=h',toks:=t' }:=I.un (Un.kept k) (I.hok.kept k)
theorem Inv.laid {a:Addr} {o:HO} {t':Nat} (I:Inv X pins σ H s) (k:∀ b u,s.heap.get? b=some u->h'.get? b=some u) (hp:s.heap.objs.size<=a) (new:bS X.prog X.w (upd H a o) h' a o):
  Inv X pins σ (upd H a o) { s with heap:=h',toks:=t' }:=I.un (Un.laid k hp (I.hok.fresh hp)) (I.hok.laid k hp new)
theorem Inv.write {x e:Addr} {o:HO} {t':Nat} (I:Inv X pins σ H s) (mu:Mut (H x)) (he:e=x\/H e=some (.own x)) (k:∀ b u,b≠e->s.heap.get? b=some u->h'.get? b=some u) (heo:∃ u,h'.get? e=some u)
  (new:bS X.prog X.w (upd H x o) h' x o):Inv X pins σ (upd H x o) { s with heap:=h',toks:=t' }:=I.un (Un.write mu he k heo) (I.hok.write mu he k heo new)
theorem Inv.pins_of {pins':List (Addr×Obj)} (I:Inv X pins σ H s) (h:∀ p∈pins',s.heap.get? p.1=some p.2/\H p.1=none/\p.1≠X.env.locals/\p.1∉X.fs/\∀ v,p.2.data≠.cell v):Inv X pins' σ H s:=
 ⟨I.ok,I.os,I.bare,I.base,I.loc,I.cell,I.free,I.freeC,fun p hp=>(List.mem_append.mp hp).elim (fun z=>I.pin p (List.mem_append_left _ z)) (h p),I.hok,I.len⟩
theorem hV {N:List Str} (hN:N.Nodup) {i j:Nat} {x:Str} (a:N[i]?=some x) (b:N[j]?=some x):i=j:=by
 obtain ⟨h1,e1⟩:=List.getElem?_eq_some_iff.mp a
 obtain ⟨h2,e2⟩:=List.getElem?_eq_some_iff.mp b
 exact (List.getElem_inj hN).mp (e1.trans e2.symm)
theorem pS {M:Model} {A:Around} {E:Value->Shared->Prop} {i:Nat} {x:Str} {v:V} {u:Value} {Q:Unit->Shared->Prop} (I:Inv X pins σ H s) (hN:X.N.Nodup) (hi:X.N[i]?=some x) (hx:Loc X.env.scope x) (r:RelV v u)
  (h:∀ s',Inv X pins (σ.set i (some v)) H s'->(∃ a,Heap.SameBut a s.heap s'.heap/\(a=X.env.locals\/X.env.cells.lookup x=some a))->Q () s') (hf:X.fn x=true\/X.env.scope.names.lookup x=some .local:=by first | exact .inl rfl | exact .inr rfl | assumption):wpAny M A (storeName X.env x u) Q E s:=by
 obtain ⟨m,hn,hl⟩:=id I.loc
 have hcls:(X.env.scope.kind == .class || (X.env.scope.kind == .module && X.env.locals != X.env.globals))=false:=by rw [I.ok.kind]; rfl
 have hiσ:i < σ.length:=by rw [I.len]; exact (List.getElem?_eq_some_iff.mp hi).1
 have cne:=I.cne
 have tracked:∀ {a:Addr} {h':Heap},(∃ o,s.heap.get? a=some o/\H a=none)->Heap.SameBut a s.heap h'->HOk X.prog X.w H h':=fun {a h'} ha hs b ob e=>by
  obtain ⟨_,_,hfree⟩:=ha
  refine (I.hok b ob e).stay (fun c w' hc q=>(hs.2 c ?_).trans q) (fun _ q=>q) fun _ _ q=>q
  rintro rfl
  rcases hc with rfl | hc
  ·rw [hfree] at e; cases e
  ·rw [hfree] at hc; cases hc
 rcases hx with hk | hk
 ·refine wpAny_storeName_local hk hn (fun h' hn' hs=>?_) hcls
  obtain ⟨oL,_,_,hoL,_⟩:=id hn
  refine h _ ⟨I.ok,I.os,I.bare,⟨fun b o e n hb hx=>?_,fun b o e n hb hx=>?_,I.base.free,fun b o e hx=>?_,I.base.tups,I.base.frzs,I.base.tbls⟩,⟨_,hn',fun j y v' e1 e2 e3=>?_⟩,fun y c e=>?_,I.free,I.freeC,fun p hp=>?_,tracked ⟨oL,hoL,I.free⟩ hs,by simpa using I.len⟩ ⟨_,hs,.inl rfl⟩
  ·exact (hs.2 b (Nat.ne_of_lt (Nat.lt_of_lt_of_le (Heap.lt_size e) I.ok.above))).trans (I.base.keep b o e n hb hx)
  ·obtain ⟨sl,e1⟩:=I.base.slot b o e n hb hx
   exact ⟨sl,(hs.2 b (Nat.ne_of_lt (Nat.lt_of_lt_of_le (Heap.lt_size e) I.ok.above))).trans e1⟩
  ·obtain ⟨o',e1⟩:=I.base.there b o e hx
   exact ⟨o',(hs.2 b (Nat.ne_of_lt (Nat.lt_of_lt_of_le (Heap.lt_size e) I.ok.above))).trans e1⟩
  ·by_cases hj:j=i
   ·subst hj
    rw [hi] at e1; cases e1
    rw [List.getElem?_set_self hiσ] at e2
    cases e2
    exact ⟨u,r,.inl ⟨hk,by simp⟩⟩
   ·rw [List.getElem?_set_ne (Ne.symm hj)] at e2
    obtain ⟨u',r',q⟩:=hl j y v' e1 e2 e3
    refine ⟨u',r',?_⟩
    rcases q with ⟨k,e⟩ | ⟨k,c,e,z⟩
    ·refine .inl ⟨k,?_⟩
     have:y≠x:=fun e=>hj (hV hN e1 (e ▸ hi))
     simp [this,e]
    ·exact .inr ⟨k,c,e,z.sameBut hs (cne y c e)⟩
  ·obtain ⟨w',z⟩:=I.cell y c e
   exact ⟨w',z.sameBut hs (cne y c e)⟩
  ·obtain ⟨e,n,ne,nf,d⟩:=I.pin p hp
   exact ⟨(hs.2 p.1 ne).trans e,n,ne,nf,d⟩
 ·have hfn:X.fn x=true:=by
   rcases hf with z | z
   ·exact z
   ·rw [z] at hk; cases hk
  obtain ⟨c,hc⟩:=I.ok.has x (.inl hk)
  obtain ⟨w',z⟩:=I.cell x c hc
  refine wpAny_storeName_cell I.ok.kind hk hc z (fun h' hc' hs=>?_)
  obtain ⟨oc,hoc,hocd⟩:=id z
  refine h { s with heap:=h' } ⟨I.ok,I.os,I.bare,⟨fun b o e n hb hx=>?_,fun b o e n hb hx=>?_,I.base.free,fun b o e hx=>?_,I.base.tups,I.base.frzs,I.base.tbls⟩,⟨m,hn.sameBut hs (Ne.symm (cne x c hc)),fun j y v' e1 e2 e3=>?_⟩,fun y c' e=>?_,I.free,I.freeC,fun p hp=>?_,tracked ⟨oc,hoc,I.freeC x c hc⟩ hs,by simpa using I.len⟩ ⟨c,hs,.inr hc⟩
  ·exact (hs.2 b (Nat.ne_of_lt (Nat.lt_of_lt_of_le (Heap.lt_size e) (I.ok.cab x c hfn hc)))).trans (I.base.keep b o e n hb hx)
  ·obtain ⟨sl,e1⟩:=I.base.slot b o e n hb hx
   exact ⟨sl,(hs.2 b (Nat.ne_of_lt (Nat.lt_of_lt_of_le (Heap.lt_size e) (I.ok.cab x c hfn hc)))).trans e1⟩
  ·obtain ⟨o',e1⟩:=I.base.there b o e hx
   exact ⟨o',(hs.2 b (Nat.ne_of_lt (Nat.lt_of_lt_of_le (Heap.lt_size e) (I.ok.cab x c hfn hc)))).trans e1⟩
  ·by_cases hj:j=i
   ·subst hj
    rw [hi] at e1; cases e1
    rw [List.getElem?_set_self hiσ] at e2
    cases e2
    exact ⟨u,r,.inr ⟨.inl hk,c,hc,hc'⟩⟩
   ·rw [List.getElem?_set_ne (Ne.symm hj)] at e2
    obtain ⟨u',r',q⟩:=hl j y v' e1 e2 e3
    refine ⟨u',r',?_⟩
    rcases q with q | ⟨k,c',e,z'⟩
    ·exact .inl q
    ·refine .inr ⟨k,c',e,z'.sameBut hs ?_⟩
     rintro rfl
     exact hj (hV hN e1 (I.ok.inj _ _ _ e hc ▸ hi))
  ·by_cases hcc:c'=c
   ·subst hcc; exact ⟨_,hc'⟩
   ·obtain ⟨w2,z2⟩:=I.cell y c' e
    exact ⟨w2,z2.sameBut hs hcc⟩
  ·obtain ⟨e,n,ne,nf,d⟩:=I.pin p hp
   refine ⟨(hs.2 p.1 ?_).trans e,n,ne,nf,d⟩
   intro q
   rw [q,hoc] at e
   have q':oc=p.2:=Option.some.inj e
   exact d w' (by rw [<- q']; exact hocd)
theorem hW {M:Model} {A:Around} {E:Value->Shared->Prop} {i:Nat} {x:Str} {v:V} {u:Value} {Q:Unit->Shared->Prop} (I:Inv X pins σ H s) (hN:X.N.Nodup) (hi:X.N[i]?=some x) (hx:Loc X.env.scope x) (r:RelV v u)
  (h:∀ s',Inv X pins (σ.set i (some v)) H s'->Q () s') (hf:X.fn x=true\/X.env.scope.names.lookup x=some .local:=by first | exact .inl rfl | exact .inr rfl | assumption):wpAny M A (storeName X.env x u) Q E s:=
 pS I hN hi hx r (fun s' I' _=>h s' I') hf
theorem Inv.call' {s':Shared} {ch:List Addr} (I:Inv X pins σ H s) (ho:s'.os=s.os) (u:Un (frs X.stack) ch H H' s.heap s'.heap) (hok:HOk X.prog X.w H' s'.heap) (hg:AllBare s'.gens)
  (hch:∀ b∈ch,(b∈X.ex\/X.s₀.heap.objs.size<=b)/\b≠X.env.locals/\(∀ x c,X.env.cells.lookup x=some c->c≠b)/\∀ p∈X.pn++pins,p.1≠b):Inv X pins σ H' s':=by
 obtain ⟨h',g',d',t',o'⟩:=s'
 have e:o'=s.os:=ho
 subst e
 exact I.call (g':=g') (t':=t') (d':=d') u hok hg hch
end
abbrev XK:=Value->Option Addr->Hp->Prop
abbrev St:=List (Option V)
abbrev VK:=V->Hp->Prop
abbrev TE:=St->Hp->VK->Prop
abbrev TT:=St->Hp->(Bool->Hp->Prop)->Prop
abbrev TA:=St->Hp->(List V->Hp->Prop)->Prop
structure Ends where
 nx:St->Hp->Prop
 rt:VK
 bk:St->Hp->Prop:=fun _ _=>False
 ct:St->Hp->Prop:=fun _ _=>False
abbrev TS:=Ends->St->Hp->Prop
def EP (X:Cx) (pins:List (Addr×Obj)) (σ:St) (Q:VK) (u:Value) (s':Shared):Prop:=∃ v H',Inv X pins σ H' s'/\RelV v u/\Q v H'
def TP (X:Cx) (pins:List (Addr×Obj)) (σ:St) (Q:Bool->Hp->Prop) (b:Bool) (s':Shared):Prop:=∃ H',Inv X pins σ H' s'/\Q b H'
def AP (X:Cx) (pins:List (Addr×Obj)) (σ:St) (Q:List V->Hp->Prop) (us:List Value) (s':Shared):Prop:=∃ vs H',Inv X pins σ H' s'/\aQ vs us/\Q vs H'
def SP (X:Cx) (pins:List (Addr×Obj)) (D:Ends) (f:Flow) (s':Shared):Prop:=
 match f with
 | .next=>∃ σ' H',Inv X pins σ' H' s'/\D.nx σ' H'
 | .brk=>∃ σ' H',Inv X pins σ' H' s'/\D.bk σ' H'
 | .cont=>∃ σ' H',Inv X pins σ' H' s'/\D.ct σ' H'
 | .ret u=>∃ v σ' H',Inv X pins σ' H' s'/\RelV v u/\D.rt v H'
def PE (X:Cx) (e:Expr) (t:TE):Prop:=
 ∀ (pins:List (Addr×Obj)) (s:Shared) (σ:St) (H:Hp) (Q:VK),Inv X pins σ H s->t σ H Q->wpAny (model X.prog X.w) X.A (eval e X.env) (EP X pins σ Q) X.xe s
def PT (X:Cx) (e:Expr) (t:TT):Prop:=
 ∀ (pins:List (Addr×Obj)) (s:Shared) (σ:St) (H:Hp) (Q:Bool->Hp->Prop),Inv X pins σ H s->t σ H Q->wpAny (model X.prog X.w) X.A (isTrue e X.env (eval e X.env)) (TP X pins σ Q) X.xe s
def PW (X:Cx) (e:Expr) (t:TT):Prop:=
 ∀ (whole:Sem Value) (pins:List (Addr×Obj)) (s:Shared) (σ:St) (H:Hp) (Q:Bool->Hp->Prop),Inv X pins σ H s->t σ H Q->wpAny (model X.prog X.w) X.A (isTrue e X.env whole) (TP X pins σ Q) X.xe s
theorem PW.pt {X:Cx} {e:Expr} {t:TT} (h:PW X e t):PT X e t:=h _
def PA (X:Cx) (es:List Expr) (t:TA):Prop:=
 ∀ (pos:Pos) (pins:List (Addr×Obj)) (s:Shared) (σ:St) (H:Hp) (Q:List V->Hp->Prop),Inv X pins σ H s->t σ H Q->wpAny (model X.prog X.w) X.A (spliced (backTo pos (starEach es X.env))) (AP X pins σ Q) X.xe s
def PS (X:Cx) (st:Stmt) (t:TS):Prop:=
 ∀ (pins:List (Addr×Obj)) (s:Shared) (σ:St) (H:Hp) (D:Ends),Inv X pins σ H s->t D σ H->wpAny (model X.prog X.w) X.A (exec st X.env) (SP X pins D) X.xe s
def PSs (X:Cx) (st:List Stmt) (t:TS):Prop:=
 ∀ (pins:List (Addr×Obj)) (s:Shared) (σ:St) (H:Hp) (D:Ends),Inv X pins σ H s->t D σ H->wpAny (model X.prog X.w) X.A (execs st X.env) (SP X pins D) X.xe s
theorem thn {α:Type} {t:Sem α} {Q Q':α->Shared->Prop} {M:Model} {A:Around} {E:Value->Shared->Prop} {s:Shared} (h:wpAny M A t Q E s) (hQ:∀ a s,Q a s->Q' a s):wpAny M A t Q' E s:=wpAny_mono h hQ fun _ _ x=>x
end L2
namespace L2
open PySem PySem.Spec PyProof.Rows
section
variable {X:Cx}
def xG (i:Nat):TE:=fun σ H Q=>∃ v,σ[i]?=some (some v)/\Q v H
def tC (v:V):TE:=fun _ H Q=>Q v H
theorem kB {i:Nat} {x:Str} {pos:Pos} (hN:X.N[i]?=some x) (hv:Vis X.env.scope x) (hd:(x == ("__debug__" : Str))=false:=by decide) (hcd:(x == ("__classdict__" : Str))=false:=by decide):PE X (.Name x pos) (xG i):=by
 intro pins s σ H Q I h
 obtain ⟨v,e,h⟩:=h
 obtain ⟨m,hn,hl⟩:=I.loc
 obtain ⟨u,r,l⟩:=hl i x v hN e hv
 have fin:EP X pins σ Q u s:=⟨v,H,I,r,h⟩
 rcases l with ⟨hk,hm⟩ | ⟨hk,c,hc,hcell⟩
 ·exact wpAny_Name (wpAny_loadName_local I.ok.kind hk hn hm fin) hd
 ·rcases hk with hk | hk
  ·exact wpAny_Name (wpAny_loadName_cell I.ok.kind hk hc hcell fin) hd
  ·exact wpAny_Name (wpAny_loadName_free I.ok.kind hk hc hcell fin hcd) hd
theorem xH {i j pos}:PE X (.Constant (.int i) j pos) (tC (.int i)):=fun _ _ _ H _ I h=>wpAny_Constant_int ⟨.int i,H,I.tok _,⟨_,rfl⟩,h⟩
theorem Aj {b j pos}:PE X (.Constant (.bool b) j pos) (tC (.bl b)):=fun _ _ _ H _ I h=>Constant_bool ⟨.bl b,H,I,rfl,h⟩
theorem qY {j pos}:PE X (.Constant .none j pos) (tC .non):=fun _ _ _ H _ I h=>Constant_none ⟨.non,H,I,rfl,h⟩
theorem xJ {x j pos}:PE X (.Constant (.str x) j pos) (tC (.str x)):=fun _ _ _ H _ I h=>Calls.Constant_str ⟨.str x,H,I.tok _,⟨_,rfl⟩,h⟩
def Gl (X:Cx) (x:Str):Prop:=X.env.kindOf x=some .globalImplicit
theorem fL {E:Value->Shared->Prop} {pins:List (Addr×Obj)} {s:Shared} {σ:St} {H:Hp} {x:Str} {u:Value} {pos:Pos} {Q:Value->Shared->Prop} (I:Inv X pins σ H s) (hg:Gl X x) (hm:X.mg x=some u) (h:Q u s)
  (hd:(x == ("__debug__" : Str))=false:=by decide):wpAny (model X.prog X.w) X.A (eval (.Name x pos) X.env) Q E s:=
 Calls.Name_function_global I.ok.kind hg (Calls.loadGlobal_global (by rw [I.ok.glob]; exact I.mod.glob.keeps I.bk) hm h) hd
theorem mW {E:Value->Shared->Prop} {pins:List (Addr×Obj)} {s:Shared} {σ:St} {H:Hp} {x:Str} {u:Value} {pos:Pos} {Q:Value->Shared->Prop} (I:Inv X pins σ H s) (hg:Gl X x) (hm:X.mg x=none) (hv:bootBuiltins x=some u) (h:Q u s)
  (hn:x≠"__name__" := by decide) (hd:(x == ("__debug__" : Str))=false:=by decide):wpAny (model X.prog X.w) X.A (eval (.Name x pos) X.env) Q E s:=by
 obtain ⟨mb,h1,h2⟩:=I.mod.blt
 exact Calls.Name_function_global I.ok.kind hg (Calls.loadGlobal_builtin (by rw [I.ok.glob]; exact I.mod.glob.keeps I.bk) hm (by rw [I.ok.blt]; exact h1.keeps I.bk) ((h2 x hn).trans hv) h) hd
theorem hG {x:Str} {v:V} {u:Value} {pos:Pos} (hg:Gl X x) (hm:X.mg x=some u) (r:RelV v u) (hd:(x == ("__debug__" : Str))=false:=by decide):PE X (.Name x pos) (tC v):=
 fun _ _ _ H _ I h=>fL I hg hm ⟨v,H,I,r,h⟩ hd
theorem kC {x:Str} {v:V} {u:Value} {pos:Pos} (hg:Gl X x) (hm:X.mg x=none) (hv:bootBuiltins x=some u) (r:RelV v u) (hn:x≠"__name__" := by decide) (hd:(x == ("__debug__" : Str))=false:=by decide):PE X (.Name x pos) (tC v):=
 fun _ _ _ H _ I h=>mW I hg hm hv ⟨v,H,I,r,h⟩ hn hd
variable {a b:Expr} {ta tb:TE} {pos:Pos}
def tB (t:TE):TT:=fun σ H Q=>t σ H fun x H1=>∃ c,x=.bl c/\Q c H1
theorem hX {e:Expr} {t:TE} (h:PE X e t) (he:∀ whole,isTrue e X.env whole=(do let v <- whole; standAt e.pos; holding [v] (truthy v)):=by intro _; rfl):PT X e (tB t):=by
 intro pins s σ H Q I hw
 refine isTrue_plain (thn (h pins s σ H _ I hw) fun v s1 hz=>?_) (he _)
 obtain ⟨x,H1,I1,r1,q1⟩:=hz
 obtain ⟨d,rfl,q⟩:=q1
 cases r1
 exact wpAny_truthy_bool ⟨H1,I1,q⟩
variable {tA tB':TT} {rest:List Expr}
def Cp (t u:TT):TT:=fun σ H Q=>t σ H fun c H1=>if c=true then u σ H1 Q else Q false H1
def tOr (t u:TT):TT:=fun σ H Q=>t σ H fun c H1=>if c=true then Q true H1 else u σ H1 Q
def Cq (t:TT):TT:=fun σ H Q=>t σ H fun c H1=>Q (!c) H1
theorem tU (ha:PT X a tA):PW X (.BoolOp .And [a] pos) tA:=by
 intro wh pins s σ H Q I h
 refine isTrue_and (thn (ha pins s σ H Q I h) fun c s1 e=>?_)
 cases c with
 | true=>exact isTrue_and_nil e
 | false=>exact e
theorem mX (ha:PT X a tA):PW X (.BoolOp .Or [a] pos) tA:=by
 intro wh pins s σ H Q I h
 refine isTrue_or (thn (ha pins s σ H Q I h) fun c s1 e=>?_)
 cases c with
 | false=>exact isTrue_or_nil e
 | true=>exact e
theorem xK (ha:PT X a tA) (hb:PW X (.BoolOp .And (b :: rest) pos) tB'):PW X (.BoolOp .And (a :: b :: rest) pos) (Cp tA tB'):=by
 intro wh pins s σ H Q I h
 refine isTrue_and (thn (ha pins s σ H _ I h) fun c s1 ⟨H1,I1,q1⟩=>?_)
 cases c with
 | true=>exact hb wh pins s1 σ H1 Q I1 q1
 | false=>exact ⟨H1,I1,q1⟩
theorem oF (ha:PT X a tA) (hb:PW X (.BoolOp .Or (b :: rest) pos) tB'):PW X (.BoolOp .Or (a :: b :: rest) pos) (tOr tA tB'):=by
 intro wh pins s σ H Q I h
 refine isTrue_or (thn (ha pins s σ H _ I h) fun c s1 ⟨H1,I1,q1⟩=>?_)
 cases c with
 | true=>exact ⟨H1,I1,q1⟩
 | false=>exact hb wh pins s1 σ H1 Q I1 q1
theorem mY (ha:PT X a tA):PT X (.UnaryOp .Not a pos) (Cq tA):=by
 intro pins s σ H Q I h
 exact isTrue_not (ha pins s σ H (fun c H1=>Q (!c) H1) I h)
def Ak (ta tb:TE):TE:=fun σ H Q=>ta σ H fun x H1=>∃ c,x=.bl c/\if c=true then tb σ H1 Q else Q (.bl false) H1
theorem qZ {op} {t:TE} (h:PE X a t):PE X (.BoolOp op [a] pos) t:=fun pins s σ H Q I hw=>BoolOp_one (h pins s σ H Q I hw)
theorem xO (ha:PE X a ta) (hb:PE X (.BoolOp .And (b :: rest) pos) tb):PE X (.BoolOp .And (a :: b :: rest) pos) (Ak ta tb):=by
 intro pins s σ H Q I h
 refine BoolOp_and (thn (ha pins s σ H _ I h) fun v s1 hz=>?_)
 obtain ⟨x,H1,I1,r1,q1⟩:=hz
 obtain ⟨c,rfl,q1⟩:=q1
 cases r1
 refine wpAny_truthy_bool ?_
 cases c with
 | true=>exact hb pins s1 σ H1 Q I1 q1
 | false=>exact ⟨.bl false,H1,I1,rfl,q1⟩
end
end L2
namespace L2
open PySem PySem.Spec PyProof.Rows
def SqL (K:PySem.W.Frag) (H:Hp) (a:Addr) (xs:List V):Prop:=
 Rd H a (.lst xs)\/
  ∃ (o:Obj) (its:Array Value) (n:Nat),K.lookup a=some o/\o.cls=.type "list" /\ o.dict=none/\o.data=.seq its n/\its.size<=sizeLine/\aQ xs its.toList
def SqT (K:PySem.W.Frag) (H:Hp) (a:Addr) (xs:List V):Prop:=
 Rd H a (.tup xs)\/
  ∃ (o:Obj) (its:Array Value) (n:Nat),K.lookup a=some o/\o.cls=.type "tuple" /\ o.data=.seq its n/\its.size<=sizeLine/\aQ xs its.toList/\o.dict=none
def Cr:Value->Option V
 | .none=>some .non
 | .bool b=>some (.bl b)
 | .int i _=>some (.int i)
 | .str x _=>some (.str x)
 | .bytes b _=>some (.byt b)
 | .float b _=>some (.flt b)
 | .ref a=>some (.ref a)
 | .type n=>some (.ty n)
 | _=>none
theorem RelV.abs {x:V} {u:Value} (r:RelV x u):Cr u=some x:=by
 cases x with
 | non=>cases r; rfl
 | bl _=>cases r; rfl
 | int _=>obtain ⟨t,rfl⟩:=r; rfl
 | str _=>obtain ⟨t,rfl⟩:=r; rfl
 | byt _=>obtain ⟨t,rfl⟩:=r; rfl
 | flt _=>obtain ⟨t,rfl⟩:=r; rfl
 | ref _=>cases r; rfl
 | ty _=>cases r; rfl
theorem RelV.inj {x y:V} {u:Value} (r:RelV x u) (q:RelV y u):x=y:=Option.some.inj (r.abs.symm.trans q.abs)
theorem aQ.inj:∀ {xs ys:List V} {us:List Value},aQ xs us->aQ ys us->xs=ys
 | _,_,_,.nil,.nil=>rfl
 | _,_,_,.cons r t,.cons r' t'=>by rw [r.inj r',aQ.inj t t']
section
variable {X:Cx} {pins:List (Addr×Obj)} {σ:St} {H:Hp} {s:Shared} {a:Addr} {xs ys:List V}
theorem SqL.of {K:PySem.W.Frag} (h:H a=some (.lst xs)):SqL K H a xs:=.inl (.inl h)
theorem SqT.of {K:PySem.W.Frag} (h:H a=some (.tup xs)):SqT K H a xs:=.inl (.inl h)
theorem Inv.list (I:Inv X pins σ H s) (h:SqL X.K H a xs):∃ its:List Value,aQ xs its/\PlainL s.heap a its.toArray/\xs.length<=sizeLine:=by
 rcases h with h | ⟨o,its,n,hk,hc,hd,hs,hz,r⟩
 ·obtain ⟨z,its,n,r,e⟩:=h.ok I.hok
  exact ⟨its,r,⟨_,n,e,rfl,rfl,rfl⟩,z⟩
 ·refine ⟨its.toList,r,⟨o,n,I.kIn a o hk,hc,hd,by simpa using hs⟩,?_⟩
  have e:=r.length
  simp only [Array.length_toList] at e
  omega
theorem Inv.tuple (I:Inv X pins σ H s) (h:SqT X.K H a xs):∃ its:List Value,aQ xs its/\IsTup s.heap a its.toArray/\xs.length<=sizeLine:=by
 rcases h with h | ⟨o,its,n,hk,hc,hs,hz,r,_⟩
 ·obtain ⟨z,its,r,p⟩:=h.ok I.hok
  exact ⟨its,r,p.is,z⟩
 ·refine ⟨its.toList,r,⟨o,I.kIn a o hk,hc,n,by simpa using hs⟩,?_⟩
  have e:=r.length
  simp only [Array.length_toList] at e
  omega
theorem Inv.list_inj (I:Inv X pins σ H s) (h:SqL X.K H a xs) (h':SqL X.K H a ys):xs=ys:=by
 obtain ⟨its,r,⟨o,n,e,_,_,d⟩,_⟩:=I.list h
 obtain ⟨its',r',⟨o',n',e',_,_,d'⟩,_⟩:=I.list h'
 rw [e] at e'; cases e'
 rw [d] at d'
 injection d' with d1 _
 have:its=its':=by simpa using congrArg Array.toList d1
 subst this
 exact r.inj r'
theorem Inv.tuple_inj (I:Inv X pins σ H s) (h:SqT X.K H a xs) (h':SqT X.K H a ys):xs=ys:=by
 obtain ⟨its,r,⟨o,e,_,n,d⟩,_⟩:=I.tuple h
 obtain ⟨its',r',⟨o',e',_,n',d'⟩,_⟩:=I.tuple h'
 rw [e] at e'; cases e'
 rw [d] at d'
 injection d' with d1 _
 have:its=its':=by simpa using congrArg Array.toList d1
 subst this
 exact r.inj r'
end
abbrev Cx.wish (X:Cx) (E:Value->Shared->Prop):Cx:={ X with xe:=E }
abbrev Cx.nox (X:Cx):Cx:=X.wish fun _ _=>False
theorem Cx.Ok.wish {X:Cx} (ok:X.Ok) (E:Value->Shared->Prop):(X.wish E).Ok:=
 ⟨ok.mod,ok.kind,ok.glob,ok.blt,ok.above,ok.inj,ok.has,ok.cab,ok.hd,ok.frames,ok.stk,ok.exf,ok.bs,ok.bsz,ok.noex,ok.exfs,ok.funs,ok.frf⟩
theorem Cx.Ok.unwish {X:Cx} {E:Value->Shared->Prop} (ok:(X.wish E).Ok):X.Ok:=
 ⟨ok.mod,ok.kind,ok.glob,ok.blt,ok.above,ok.inj,ok.has,ok.cab,ok.hd,ok.frames,ok.stk,ok.exf,ok.bs,ok.bsz,ok.noex,ok.exfs,ok.funs,ok.frf⟩
section
variable {X:Cx} {pins:List (Addr×Obj)} {σ:St} {H:Hp} {s:Shared} {E:Value->Shared->Prop}
theorem Inv.wish (I:Inv X pins σ H s) (E:Value->Shared->Prop):Inv (X.wish E) pins σ H s:=⟨I.ok.wish E,I.os,I.bare,I.base,I.loc,I.cell,I.free,I.freeC,I.pin,I.hok,I.len⟩
theorem Inv.unwish (I:Inv (X.wish E) pins σ H s):Inv X pins σ H s:=⟨I.ok.unwish,I.os,I.bare,I.base,I.loc,I.cell,I.free,I.freeC,I.pin,I.hok,I.len⟩
theorem SP.unwish {D:Ends} {f:Flow} {s':Shared} (h:SP (X.wish E) pins D f s'):SP X pins D f s':=by
 cases f with
 | next=>obtain ⟨σ',H',I,q⟩:=h; exact ⟨σ',H',I.unwish,q⟩
 | brk=>obtain ⟨σ',H',I,q⟩:=h; exact ⟨σ',H',I.unwish,q⟩
 | cont=>obtain ⟨σ',H',I,q⟩:=h; exact ⟨σ',H',I.unwish,q⟩
 | ret u=>obtain ⟨v,σ',H',I,r,q⟩:=h; exact ⟨v,σ',H',I.unwish,r,q⟩
theorem PSs.nox {st:List Stmt} {t:TS} (h:PSs X.nox st t):PSs X st t:=fun pins s σ H D I hw=>
 wpAny_mono (h pins s σ H D (I.wish _) hw) (fun _ _ q=>q.unwish) fun _ _ z=>False.elim z
end
section
variable {X:Cx} {st:Stmt} {rest:List Stmt} {t u:TS} {e:Expr} {te:TE} {pos:Pos}
def Al:TS:=fun D σ H=>D.nx σ H
def Cs (t u:TS):TS:=fun D σ H=>t { D with nx:=u D } σ H
theorem kD:PSs X [] Al:=fun _ _ σ H _ I h=>wpAny_execs_nil ⟨σ,H,I,h⟩
theorem dE (h1:PS X st t) (h2:PSs X rest u):PSs X (st :: rest) (Cs t u):=by
 intro pins s σ H D I h
 refine wpAny_execs_cons (thn (h1 pins s σ H { D with nx:=u D } I h) fun f s1 q=>?_)
 cases f with
 | next=>
  obtain ⟨σ',H',I',q⟩:=q
  exact h2 pins s1 σ' H' D I' q
 | ret v=>exact q
 | brk=>exact q
 | cont=>exact q
theorem fM (h1:PS X st t):PSs X [st] t:=by
 intro pins s σ H D I h
 refine wpAny_execs_cons (thn (h1 pins s σ H D I h) fun f s1 q=>?_)
 cases f with
 | next=>exact wpAny_execs_nil q
 | ret v=>exact q
 | brk=>exact q
 | cont=>exact q
theorem Inv.quiet {pins:List (Addr×Obj)} {σ:St} {H:Hp} {s:Shared} (I:Inv X pins σ H s):interactive X.env=false:=by simp [interactive,I.ok.kind]
def Am (te:TE):TS:=fun D σ H=>te σ H fun _ H1=>D.nx σ H1
theorem tV (he:PE X e te) (hs:swapsWith e none pos.line X.env=pure false:=by rfl):PS X (.Expr e pos) (Am te):=by
 intro pins s σ H D I h
 exact wpAny_Expr_any (thn (he pins s σ H _ I h) fun v s1 ⟨x,H1,I1,r1,q1⟩=>⟨σ,H1,I1,q1⟩) I.quiet hs
def Ct (te:TE):TS:=fun D σ H=>te σ H D.rt
theorem rA (he:PE X e te):PS X (.Return (some e) pos) (Ct te):=by
 intro pins s σ H D I h
 exact wpAny_Return_some (thn (he pins s σ H _ I h) fun v s1 ⟨x,H1,I1,r1,q1⟩=>⟨x,σ,H1,I1,r1,q1⟩)
def Cu (c:TT) (t u:TS):TS:=fun D σ H=>c σ H fun b H1=>if b=true then t D σ H1 else u D σ H1
theorem oG {c:Expr} {a b:List Stmt} {tc:TT} (hc:PT X c tc) (ha:PSs X a t) (hb:PSs X b u):PS X (.If c a b pos) (Cu tc t u):=by
 intro pins s σ H D I h
 refine wpAny_If (thn (hc pins s σ H _ I h) fun d s1 ⟨H1,I1,q1⟩=>?_)
 cases d with
 | true=>exact ha pins s1 σ H1 D I1 q1
 | false=>exact hb pins s1 σ H1 D I1 q1
def xP:TS:=fun _ _ _=>False
theorem eV {sts:List Stmt}:PSs X sts xP:=fun _ _ _ _ _ _ h=>h.elim
end
abbrev TG:=V->St->Hp->(St->Hp->Prop)->Prop
abbrev TGs:=List V->St->Hp->(St->Hp->Prop)->Prop
def PG (X:Cx) (target:Expr) (t:TG):Prop:=
 ∀ (pins:List (Addr×Obj)) (s:Shared) (σ:St) (H:Hp) (v:V) (u:Value) (Q:St->Hp->Prop),Inv X pins σ H s->RelV v u->t v σ H Q->
  wpAny (model X.prog X.w) X.A (assign target X.env u) (fun _ s'=>∃ σ' H',Inv X pins σ' H' s'/\Q σ' H') X.xe s
def PGs (X:Cx) (ts:List Expr) (t:TGs):Prop:=
 ∀ (pins:List (Addr×Obj)) (s:Shared) (σ:St) (H:Hp) (vs:List V) (us:List Value) (Q:St->Hp->Prop),Inv X pins σ H s->aQ vs us->t vs σ H Q->
  wpAny (model X.prog X.w) X.A (assignInOrder ((assignEach ts X.env).map (·.2)) us) (fun _ s'=>∃ σ' H',Inv X pins σ' H' s'/\Q σ' H') X.xe s
section
variable {X:Cx} {pos:Pos}
def wC (i:Nat):TG:=fun v σ H Q=>Q (σ.set i (some v)) H
theorem tW {i:Nat} {x:Str} (hN:X.N.Nodup) (hi:X.N[i]?=some x) (hx:Loc X.env.scope x) (hf:X.fn x=true\/X.env.scope.names.lookup x=some .local:=by first | exact .inl rfl | exact .inr rfl | assumption):PG X (.Name x pos) (wC i):=by
 intro pins s σ H v u Q I r h
 exact wpAny_assign_Name (hW I hN hi hx r (fun s' I'=>⟨_,H,I',h⟩) hf)
def Cv:TGs:=fun vs σ H Q=>vs=[]/\Q σ H
def An (t:TG) (u:TGs):TGs:=fun vs σ H Q=>∃ v r,vs=v :: r/\t v σ H fun σ' H'=>u r σ' H' Q
theorem tX:PGs X [] Cv:=by
 intro pins s σ H vs us Q I r h
 obtain ⟨e,h⟩:=h
 subst e
 cases r
 exact assignInOrder_nil ⟨σ,H,I,h⟩
theorem rB {e:Expr} {es:List Expr} {t:TG} {u:TGs} (h1:PG X e t) (h2:PGs X es u)
  (hs:(assignEach (e :: es) X.env).map (·.2)=assign e X.env :: (assignEach es X.env).map (·.2):=by rfl):PGs X (e :: es) (An t u):=by
 intro pins s σ H vs us Q I r h
 obtain ⟨v,vr,e1,h⟩:=h
 subst e1
 cases r with
 | cons r rr=>
  rw [hs]
  refine assignInOrder_cons (thn (h1 pins s σ H _ _ _ I r h) fun _ s1 ⟨σ1,H1,I1,q1⟩=>?_)
  exact h2 pins s1 σ1 H1 _ _ Q I1 rr q1
def Ao (K:PySem.W.Frag) (n:Nat) (t:TGs):TG:=fun v σ H Q=>∃ a xs,v=.ref a/\SqT K H a xs/\xs.length=n/\t xs σ H Q
theorem xQ {es:List Expr} {k:Nat} {t:TGs} {n:Nat} (hc:X.calm=true) (h:PGs X es t)
  (hn:(assignEach es X.env).length=n:=by rfl) (hst:(assignEach es X.env).findIdx? (·.1)=none:=by rfl):PG X (.Tuple es k pos) (Ao X.K n t):=by
 intro pins s σ H v u Q I r hw
 obtain ⟨a,xs,e1,hq,hl,hw⟩:=hw
 subst e1
 cases r
 obtain ⟨its,rv,ht,hz⟩:=I.tuple hq
 refine assign_Tuple_tuple (I.ok.hd hc) ht (by simp [hn,<- hl,rv.length]) hst fun h' hx=>?_
 have I1:Inv X pins σ H { s with heap:=h' }:=I.kept (t':=s.toks) fun b o e=>hx b o (Nat.ne_of_lt (Heap.lt_size e)) e
 exact h pins _ σ H xs _ Q I1 (by simpa using rv) hw
def Ap (te:TE) (g:TG):TS:=fun D σ H=>te σ H fun x H1=>g x σ H1 D.nx
theorem xR {tg e:Expr} {te:TE} {g:TG} (he:PE X e te) (hg:PG X tg g) (hs:swapsWithSole [tg] e pos.line X.env=pure false:=by rfl) (hw:swappedStores [tg] e X.env=pure none:=by rfl)
  (h1:(assignEach [tg] X.env).map (·.2)=[assign tg X.env]:=by rfl):PS X (.Assign [tg] e pos) (Ap te g):=by
 intro pins s σ H D I h
 refine wpAny_Assign_stores (thn (he pins s σ H _ I h) fun v s1 hz=>?_) hs hw
 obtain ⟨x,H1,I1,r1,q1⟩:=hz
 rw [h1]
 exact thn (hg pins s1 σ H1 x v _ I1 r1 q1) fun _ s2 q=>q
theorem mZ {i:Nat} {x:Str} {e:Expr} {te:TE} {pos':Pos} (hN:X.N.Nodup) (hi:X.N[i]?=some x) (hx:Loc X.env.scope x) (he:PE X e te) (hs:swapsWith e (some (.Name x pos')) pos.line X.env=pure false:=by rfl) (hf:X.fn x=true\/X.env.scope.names.lookup x=some .local:=by first | exact .inl rfl | exact .inr rfl | assumption):
  PS X (.Assign [.Name x pos'] e pos) (Ap te (wC i)):=by
 intro pins s σ H D I h
 refine wpAny_Assign_Name (thn (he pins s σ H _ I h) fun v s1 hz=>?_) hs
 obtain ⟨y,H1,I1,r1,q1⟩:=hz
 exact hW I1 hN hi hx r1 (fun s2 I2=>⟨_,H1,I2,q1⟩) hf
end
section
variable {X:Cx} {pos:Pos}
end
structure It where
 go:Nat->Hp->Prop
 yld:Nat->Hp->V->Hp->Prop
 stop:Nat->Hp->Prop
def pU (X:Cx) (pins:List (Addr×Obj)) (H:Hp) (b:Addr):Prop:=
 H b=none/\b≠X.env.locals/\b∉X.fs/\(b∈X.ex\/X.s₀.heap.objs.size<=b)/\(∀ x c,X.env.cells.lookup x=some c->c≠b)/\∀ p∈X.pn++pins,p.1≠b
theorem Inv.fpOk {X:Cx} {pins:List (Addr×Obj)} {σ:St} {H H':Hp} {s:Shared} {b:Addr} (I:Inv X pins σ H s) (hb:s.heap.objs.size<=b) (hn:H' b=none):pU X pins H' b:=by
 refine ⟨hn,Nat.ne_of_gt (Nat.lt_of_lt_of_le I.lt hb),I.nofs hb,.inr (Nat.le_trans I.sz hb),fun x c e z=>?_,fun p hp z=>?_⟩
 ·obtain ⟨v,q⟩:=I.cell x c e
  exact absurd (Nat.lt_of_lt_of_le q.lt (by rw [z]; exact hb)) (Nat.lt_irrefl _)
 ·exact absurd (Nat.lt_of_lt_of_le (Heap.lt_size (I.pin p hp).1) (by rw [z]; exact hb)) (Nat.lt_irrefl _)
structure Turn (P:Program) (w:World) (K:PySem.W.Frag) (tg:Expr) (J:It) (fp:List Addr) (it:Addr) (tn:Nat->Heap->Prop):Prop where
 mem:it∈fp
 obj:∀ i h,tn i h->∀ b∈fp,∃ o,h.get? b=some o/\∀ v,o.data≠.cell v
 keep:∀ i h h',tn i h->(∀ b∈fp,∀ o,h.get? b=some o->h'.get? b=some o)->tn i h'
 item:∀ (X:Cx),X.prog=P->X.w=w->X.K=K->X.calm=true->∀ (i:Nat) (pins:List (Addr×Obj)) (s:Shared) (σ:St) (H:Hp) (E:Value->Shared->Prop),Inv X pins σ H s->(∀ b∈fp,pU X pins H b)->tn i s.heap->J.go i H->
  wpAny (model P w) X.A (pyNext (.ref it)) (fun r s1=>∃ u,r=some u/\
   wpAny (model P w) X.A (letOwnedTupleGo tg (.ref it) u) (fun _ s2=>∃ x H',Inv X pins σ H' s2/\RelV x u/\J.yld i H x H'/\tn (i+1) s2.heap/\∀ b∈fp,H' b=none) E s1) E s
 done:∀ (X:Cx),X.prog=P->X.w=w->X.K=K->X.calm=true->∀ (i:Nat) (pins:List (Addr×Obj)) (s:Shared) (σ:St) (H:Hp) (E:Value->Shared->Prop),Inv X pins σ H s->(∀ b∈fp,pU X pins H b)->tn i s.heap->J.stop i H->
  wpAny (model P w) X.A (pyNext (.ref it)) (fun r s1=>r=none/\Inv X pins σ H s1) E s
 self:∀ (A:Around) (i:Nat) (s:Shared) (Q:Value->Shared->Prop) (E:Value->Shared->Prop),tn i s.heap->Q (.ref it) s->wpAny (model P w) A (pyIter (.ref it)) Q E s
abbrev TI:=St->Hp->(It->Hp->Prop)->Prop
def PIE (X:Cx) (pins:List (Addr×Obj)) (σ:St) (tg:Expr) (R:It->Hp->Prop) (itv:Value) (s2:Shared):Prop:=
 ∃ (it:Addr) (fp:List Addr) (tn:Nat->Heap->Prop) (J:It) (H':Hp),itv=.ref it/\Inv X pins σ H' s2/\Turn X.prog X.w X.K tg J fp it tn/\tn 0 s2.heap/\(∀ b∈fp,pU X pins H' b)/\R J H'
def PI (X:Cx) (tg iter:Expr) (wi:TI):Prop:=
 ∀ (pins:List (Addr×Obj)) (s:Shared) (σ:St) (H:Hp) (R:It->Hp->Prop),Inv X pins σ H s->wi σ H R->
  wpAny (model X.prog X.w) X.A (eval iter X.env) (fun v s1=>wpAny (model X.prog X.w) X.A (pyIter v) (PIE X pins σ tg R) X.xe s1) X.xe s
theorem rC {M:Model} {A:Around} {E:Value->Shared->Prop} {s:Shared} {tg:Expr} {it:Addr} {u:Value} {o:Obj} {n:String} {vs:Array Value} {Q:Unit->Shared->Prop} (ho:s.heap.get? it=some o) (hc:o.cls=.type n) (hd:o.data=.fields vs)
  (hn:["enumerate","zip","dict_itemiterator","dict_reverseitemiterator","odict_iterator","itertools.zip_longest","itertools.pairwise"].contains n=false) (hQ:Q () s):wpAny M A (letOwnedTupleGo tg (.ref it) u) Q E s:=by
 unfold letOwnedTupleGo
 cases tg <;> first
  | exact wpAny_pure hQ
  | (cases u <;> first
    | exact wpAny_pure hQ
    | (refine wpAny_bind (wpAny_load ho ?_)
       rw [hc,hd]
       show wpAny M A (if (["enumerate","zip","dict_itemiterator","dict_reverseitemiterator","odict_iterator","itertools.zip_longest","itertools.pairwise"].contains n && vs[0]? == some (rawInt _))=true then _ else _) Q E s
       rw [if_neg (by intro h; rw [hn,Bool.false_and] at h; cases h)]
       exact wpAny_pure hQ))
def Itl (K:PySem.W.Frag) (a:Addr):It:=
 ⟨fun i H=>∃ xs x,SqL K H a xs/\xs[i]?=some x,fun i H x H'=>H'=H/\∀ xs,SqL K H a xs->xs[i]?=some x,fun i H=>∃ xs,SqL K H a xs/\xs.length<=i⟩
def Itt (K:PySem.W.Frag) (a:Addr):It:=
 ⟨fun i H=>∃ xs x,SqT K H a xs/\xs[i]?=some x,fun i H x H'=>H'=H/\∀ xs,SqT K H a xs->xs[i]?=some x,fun i H=>∃ xs,SqT K H a xs/\xs.length<=i⟩
def Itr (lo:Int) (n:Nat):It:=⟨fun i _=>i < n,fun i H x H'=>H'=H/\x=.int (lo+i),fun i _=>n<=i⟩
theorem jF {P:Program} {w:World} {K:PySem.W.Frag} {tg:Expr} (a it:Addr):Turn P w K tg (Itl K a) [it] it (fun i h=>h.IsListIter it a i) where
 mem:=by simp
 obj:=fun i h st b hb=>by
  have e:b=it:=by simpa using hb
  subst e
  obtain ⟨o,e,c,d⟩:=st
  exact ⟨o,e,fun v z=>by rw [d] at z; cases z⟩
 keep:=fun i h h' st k=>st.at fun o e=>k it (by simp) o e
 item:=by
  intro X hP hw hK hc i pins s σ H E I hf st hg
  subst hP hw hK
  obtain ⟨xs,x,hq,hx⟩:=hg
  obtain ⟨its,rv,p,hz⟩:=I.list hq
  obtain ⟨u,hu,ru⟩:=rv.get hx
  obtain ⟨f0,f1,f2,f3,f4,f5⟩:=hf it (by simp)
  refine wpAny_pyNext_list_item st p.isList (x:=u) (by simpa using hu) fun h' st' sb=>?_
  have I1:Inv X pins σ H { s with heap:=h' }:=I.turned (t':=s.toks) (fun b o hb e=>(sb.2 b hb).trans e) f0 f1 f3 f4 f5
  obtain ⟨o,e,c,d⟩:=id st'
  exact ⟨u,rfl,rC (s:={ s with heap:=h' }) e c d (by decide) ⟨x,H,I1,ru,⟨rfl,fun ys hy=>by rw [I.list_inj hy hq]; exact hx⟩,st',fun b hb=>(hf b hb).1⟩⟩
 done:=by
  intro X hP hw hK hc i pins s σ H E I hf st hg
  subst hP hw hK
  obtain ⟨xs,hq,hx⟩:=hg
  obtain ⟨its,rv,p,hz⟩:=I.list hq
  obtain ⟨f0,f1,f2,f3,f4,f5⟩:=hf it (by simp)
  have hl:=rv.length
  exact wpAny_pyNext_list_end (I.ok.hd hc) st p.isList (by simp; omega) fun h' eb=>⟨rfl,I.turned (t':=s.toks) (fun b o hb e=>eb b o hb e) f0 f1 f3 f4 f5⟩
 self:=fun _ _ _ _ _ st h=>wpAny_pyIter_listiter st h
theorem nA {P:Program} {w:World} {K:PySem.W.Frag} {tg:Expr} (a it:Addr):Turn P w K tg (Itt K a) [it] it (fun i h=>h.IsTupleIter it a i) where
 mem:=by simp
 obj:=fun i h st b hb=>by
  have e:b=it:=by simpa using hb
  subst e
  obtain ⟨o,e,c,d⟩:=st
  exact ⟨o,e,fun v z=>by rw [d] at z; cases z⟩
 keep:=fun i h h' st k=>st.at fun o e=>k it (by simp) o e
 item:=by
  intro X hP hw hK hc i pins s σ H E I hf st hg
  subst hP hw hK
  obtain ⟨xs,x,hq,hx⟩:=hg
  obtain ⟨its,rv,p,hz⟩:=I.tuple hq
  obtain ⟨u,hu,ru⟩:=rv.get hx
  obtain ⟨f0,f1,f2,f3,f4,f5⟩:=hf it (by simp)
  refine wpAny_pyNext_tuple_item st (show s.heap.IsTuple a its.toArray from p) (x:=u) (by simpa using hu) fun h' st' sb=>?_
  have I1:Inv X pins σ H { s with heap:=h' }:=I.turned (t':=s.toks) (fun b o hb e=>(sb.2 b hb).trans e) f0 f1 f3 f4 f5
  obtain ⟨o,e,c,d⟩:=id st'
  exact ⟨u,rfl,rC (s:={ s with heap:=h' }) e c d (by decide) ⟨x,H,I1,ru,⟨rfl,fun ys hy=>by rw [I.tuple_inj hy hq]; exact hx⟩,st',fun b hb=>(hf b hb).1⟩⟩
 done:=by
  intro X hP hw hK hc i pins s σ H E I hf st hg
  subst hP hw hK
  obtain ⟨xs,hq,hx⟩:=hg
  obtain ⟨its,rv,p,hz⟩:=I.tuple hq
  obtain ⟨f0,f1,f2,f3,f4,f5⟩:=hf it (by simp)
  have hl:=rv.length
  exact wpAny_pyNext_tuple_end (I.ok.hd hc) st (show s.heap.IsTuple a its.toArray from p) (by simp; omega) fun h' eb=>⟨rfl,I.turned (t':=s.toks) (fun b o hb e=>eb b o hb e) f0 f1 f3 f4 f5⟩
 self:=fun _ _ _ _ _ st h=>wpAny_pyIter_tupleiter st h
theorem nB {P:Program} {w:World} {K:PySem.W.Frag} {tg:Expr} (it:Addr) (lo:Int) (n:Nat):Turn P w K tg (Itr lo n) [it] it (fun i h=>IsRangeIter h it (lo+(i:Nat)*1) ((n:Int) - (i:Nat)) 1) where
 mem:=by simp
 obj:=fun i h st b hb=>by
  have e:b=it:=by simpa using hb
  subst e
  exact ⟨_,st,fun v z=>by
   have z':Data.fields _=Data.cell v:=z
   cases z'⟩
 keep:=fun i h h' st k=>k it (by simp) _ st
 item:=by
  intro X hP hw hK hc i pins s σ H E I hf st hg
  subst hP hw hK
  obtain ⟨f0,f1,f2,f3,f4,f5⟩:=hf it (by simp)
  have W:=Walks.range (prog:=X.prog) (w:=X.w) (I.ok.hd hc) it lo 1 n
  refine W.item i s _ _ hg st fun v h' tk hv st' kk=>?_
  obtain ⟨t,rfl⟩:=hv
  have I1:Inv X pins σ H { s with heap:=h',toks:=tk }:=I.turned (fun b o hb e=>kk b o (by simpa using hb) e) f0 f1 f3 f4 f5
  refine ⟨_,rfl,rC (s:={ s with heap:=h',toks:=tk }) (n:="range_iterator") st' rfl rfl (by decide) ⟨.int (lo+i),H,I1,⟨t,?_⟩,⟨rfl,rfl⟩,st',fun b hb=>(hf b hb).1⟩⟩
  rw [Int.mul_one]
 done:=by
  intro X hP hw hK hc i pins s σ H E I hf st hg
  subst hP hw hK
  obtain ⟨f0,f1,f2,f3,f4,f5⟩:=hf it (by simp)
  exact wpAny_pyNext_range_end (I.ok.hd hc) st (by have:n<=i:=hg; omega) fun h' eb=>⟨rfl,I.turned (t':=s.toks) (fun b o hb e=>eb b o hb e) f0 f1 f3 f4 f5⟩
 self:=fun _ _ _ _ _ st h=>wpAny_pyIter_rangeiter st h
end L2
namespace L2
open PySem PySem.Spec PyProof.Rows
section
variable {X:Cx} {tg:Expr}
theorem rD {pins:List (Addr×Obj)} {σ:St} {H:Hp} {s:Shared} {R:It->Hp->Prop} {E:Value->Shared->Prop} {lo hi:Int} {t u v:Tok} {tk:Nat} (I:Inv X pins σ H s) (h1:-(2 ^ 62)<=lo) (h2:lo < 2 ^ 62) (h3:-(2 ^ 62)<=hi) (h4:hi < 2 ^ 62)
  (q:R (Itr lo (hi - lo).toNat) H):wpAny (model X.prog X.w) X.A (pyIter (.ref s.heap.objs.size)) (PIE X pins σ tg R) E { s with heap:=s.heap.push { cls:=.type "range",data:=.fields #[.int lo t,.int hi u,.int 1 v] },toks:=tk }:=by
 refine wpAny_pyIter_range (IsRange.new ..) (small_one h1 h2 h3 h4) ?_
 have I1:Inv X pins σ H { s with heap:=s.heap.push { cls:=.type "range",data:=.fields #[.int lo t,.int hi u,.int 1 v] },toks:=tk }:=I.kept fun b o e=>Heap.get?_push_of_some _ e
 refine ⟨(s.heap.push { cls:=.type "range",data:=.fields #[.int lo t,.int hi u,.int 1 v] }).objs.size,[(s.heap.push { cls:=.type "range",data:=.fields #[.int lo t,.int hi u,.int 1 v] }).objs.size],_,_,H,rfl,
  I1.kept (t':=tk) fun b o e=>Heap.get?_push_of_some _ e,nB _ lo (hi - lo).toNat,?_,fun b hb=>?_,q⟩
 ·have e1:lo+((0:Nat):Int)*1=lo:=by simp
  have e2:(((hi - lo).toNat:Nat):Int) - ((0:Nat):Int)=Builtin.Range.rangeSize lo hi 1:=by rw [rangeSize_one]; split <;> omega
  show IsRangeIter _ _ (lo+((0:Nat):Int)*1) ((((hi - lo).toNat:Nat):Int) - ((0:Nat):Int)) 1
  rw [e1,e2]
  exact Heap.get?_push_size _ rfl
 ·have e:b=(s.heap.push { cls:=.type "range",data:=.fields #[.int lo t,.int hi u,.int 1 v] }).objs.size:=by simpa using hb
  subst e
  exact I1.fpOk (Nat.le_refl _) (I1.hok.fresh (Nat.le_refl _))
def Cw (wi:TI) (g:TG) (tb:TS):TS:=fun D σ H=>wi σ H fun J H1=>∃ W:Nat->Nat->St->Hp->Prop,(∃ m,W 0 m σ H1)/\∀ i m σ H,W i m σ H->
 (J.stop i H/\D.nx σ H)\/(J.go i H/\∃ N:St->Hp->Prop,(∀ σ' H',N σ' H'->∃ m',m' < m/\W (i+1) m' σ' H')/\∀ x H',J.yld i H x H'->g x σ H' fun σ2 H2=>tb { D with nx:=N,ct:=N,bk:=D.nx } σ2 H2)
def kE (fp:List Addr) (h:Heap):List (Addr×Obj):=fp.filterMap fun b=>(h.get? b).map fun o=>(b,o)
theorem hZ {fp:List Addr} {h:Heap} {b:Addr} {o:Obj} (hb:b∈fp) (e:h.get? b=some o):(b,o)∈kE fp h:=List.mem_filterMap.mpr ⟨b,hb,by rw [e]; rfl⟩
theorem pV {fp:List Addr} {h:Heap} {p:Addr×Obj} (hp:p∈kE fp h):p.1∈fp/\h.get? p.1=some p.2:=by
 obtain ⟨b,hb,e⟩:=List.mem_filterMap.mp hp
 cases q:h.get? b with
 | none=>rw [q] at e; cases e
 | some o=>
  rw [q] at e
  have e':(b,o)=p:=Option.some.inj e
  subst e'
  exact ⟨hb,q⟩
theorem Inv.pinned {pins:List (Addr×Obj)} {σ:St} {H:Hp} {s:Shared} {fp:List Addr} (I:Inv X pins σ H s) (hf:∀ b∈fp,pU X pins H b) (ho:∀ b∈fp,∃ o,s.heap.get? b=some o/\∀ v,o.data≠.cell v):Inv X (pins++kE fp s.heap) σ H s:=
 I.pins_of fun p hp=>(List.mem_append.mp hp).elim (fun z=>I.pin p (List.mem_append_right _ z)) fun z=>by
  obtain ⟨hb,e⟩:=pV z
  obtain ⟨f0,f1,f2,_⟩:=hf p.1 hb
  obtain ⟨o,e',d⟩:=ho p.1 hb
  rw [e] at e'; cases e'
  exact ⟨e,f0,f1,f2,d⟩
theorem Inv.unpinned {pins pl:List (Addr×Obj)} {σ:St} {H:Hp} {s:Shared} (I:Inv X (pins++pl) σ H s):Inv X pins σ H s:=I.pins_of fun p hp=>I.pin p (List.mem_append_right _ (List.mem_append_left _ hp))
theorem xS {iter:Expr} {body:List Stmt} {wi:TI} {g:TG} {tb:TS} {pos:Pos} (hp:PassesOwn (model X.prog X.w) X.A X.env X.xe) (hc:X.calm=true) (hi:PI X tg iter wi) (hg:PG X tg g) (hb:PSs X body tb)
  (hs:∀ x,foldedSetIterable iter X.env x=pure x:=by intro _; rfl):PS X (.For tg iter body [] pos) (Cw wi g tb):=by
 intro pins s σ H D I h
 refine wpAny_For (thn (hi pins s σ H _ I h) fun v s1 h1=>thn h1 fun itv s2 h2=>?_) hs
 obtain ⟨it,fp,tn,J,H2,e,I2,T,st2,f2,W,⟨m0,w0⟩,turn⟩:=h2
 subst e
 -- what stays true of the iterator's objects through the loop
 have stat:∀ {H':Hp},(∀ b∈fp,H' b=none)->∀ b∈fp,pU X pins H' b:=fun hn b hb=>⟨hn b hb,(f2 b hb).2⟩
 refine codeAny_forLoop_any (fun n s'=>∃ i σ' H',Inv X pins σ' H' s'/\tn i s'.heap/\(∀ b∈fp,H' b=none)/\W i n σ' H') ?_ m0 ⟨0,σ,H2,I2,st2,fun b hb=>(f2 b hb).1,w0⟩
 rintro n s3 ⟨i,σ3,H3,I3,st3,fr3,w3⟩
 rcases turn i n σ3 H3 w3 with ⟨stop,qn⟩ | ⟨go,N,hN,step⟩
 ·refine wpAny_passesOwn hp (thn (T.done X rfl rfl rfl hc i pins s3 σ3 H3 X.xe I3 (stat fr3) st3 stop) fun r s4 ⟨hr,I4⟩=>?_)
  subst hr
  exact wpAny_execs_nil ⟨σ3,H3,I4,qn⟩
 ·refine wpAny_passesOwn hp (thn (T.item X rfl rfl rfl hc i pins s3 σ3 H3 X.xe I3 (stat fr3) st3 go) fun r s4 ⟨u,hr,h4⟩=>?_)
  subst hr
  refine wpAny_passesOwn hp (thn h4 fun _ s5 hz=>?_)
  obtain ⟨x,H5,I5,r5,y5,st5,fr5⟩:=hz
  have I5':=I5.pinned (stat fr5) (T.obj _ _ st5)
  refine wpAny_passesOwn hp (thn (hg _ s5 σ3 H5 x u _ I5' r5 (step x H5 y5)) fun _ s6 ⟨σ6,H6,I6,q6⟩=>?_)
  refine wpAny_passesOwn hp (thn (hb _ s6 σ6 H6 _ I6 q6) fun f s7 q7=>?_)
  have again:∀ {σ7:St} {H7:Hp},Inv X (pins++kE fp s5.heap) σ7 H7 s7->N σ7 H7->∃ m,m < n/\∃ i σ' H',Inv X pins σ' H' s7/\tn i s7.heap/\(∀ b∈fp,H' b=none)/\W i m σ' H':=fun {σ7 H7} I7 n7=>by
   obtain ⟨m',hm,w7⟩:=hN σ7 H7 n7
   refine ⟨m',hm,i+1,σ7,H7,I7.unpinned,T.keep _ _ _ st5 fun b hb o e=>(I7.pin (b,o) (List.mem_append_right _ (List.mem_append_right _ (hZ hb e)))).1,fun b hb=>?_,w7⟩
   obtain ⟨o,e,d⟩:=T.obj _ _ st5 b hb
   exact (I7.pin (b,o) (List.mem_append_right _ (List.mem_append_right _ (hZ hb e)))).2.1
  cases f with
  | next=>obtain ⟨σ7,H7,I7,n7⟩:=q7; exact again I7 n7
  | cont=>obtain ⟨σ7,H7,I7,n7⟩:=q7; exact again I7 n7
  | brk=>obtain ⟨σ7,H7,I7,q7⟩:=q7; exact ⟨σ7,H7,I7.unpinned,q7⟩
  | ret v=>obtain ⟨x7,σ7,H7,I7,r7,q7⟩:=q7; exact ⟨x7,σ7,H7,I7.unpinned,r7,q7⟩
end
end L2
namespace L2
open PySem PySem.Spec PyProof.Rows
abbrev R2:=V->V->Hp->VK->Prop
def OpR (X:Cx) (f:Value->Value->Sem Value) (r:R2):Prop:=
 ∀ (pins:List (Addr×Obj)) (s:Shared) (σ:St) (H:Hp) (x y:V) (v u:Value) (Q:VK),Inv X pins σ H s->RelV x v->RelV y u->r x y H Q->
  wpAny (model X.prog X.w) X.A (f v u) (EP X pins σ Q) X.xe s
def UnR (X:Cx) (f:Value->Sem Value) (r:V->Hp->VK->Prop):Prop:=
 ∀ (pins:List (Addr×Obj)) (s:Shared) (σ:St) (H:Hp) (x:V) (v:Value) (Q:VK),Inv X pins σ H s->RelV x v->r x H Q->
  wpAny (model X.prog X.w) X.A (f v) (EP X pins σ Q) X.xe s
def eI (X:Cx) (f:Value) (r:List V->Hp->VK->Prop):Prop:=
 ∀ (pins:List (Addr×Obj)) (s:Shared) (σ:St) (H:Hp) (xs:List V) (us:List Value) (Q:VK),Inv X pins σ H s->aQ xs us->r xs H Q->
  wpAny (model X.prog X.w) X.A (call f us) (EP X pins σ Q) X.xe s
def Cy (X:Cx) (r:V->Hp->(Bool->Hp->Prop)->Prop):Prop:=
 ∀ (pins:List (Addr×Obj)) (s:Shared) (σ:St) (H:Hp) (x:V) (v:Value) (Q:Bool->Hp->Prop),Inv X pins σ H s->RelV x v->r x H Q->
  wpAny (model X.prog X.w) X.A (truthy v) (TP X pins σ Q) X.xe s
def tOp (r:R2) (ta tb:TE):TE:=fun σ H Q=>ta σ H fun x H1=>tb σ H1 fun y H2=>r x y H2 Q
def tUn (r:V->Hp->VK->Prop) (ta:TE):TE:=fun σ H Q=>ta σ H fun x H1=>r x H1 Q
def rI (C:Int->Int->Prop) (g:Int->Int->V):R2:=fun x y H Q=>∃ i j,x=.int i/\y=.int j/\C i j/\Q (g i j) H
def rI0 (g:Int->Int->V):R2:=fun x y H Q=>∃ i j,x=.int i/\y=.int j/\Q (g i j) H
def rU (g:Int->V):V->Hp->VK->Prop:=fun x H Q=>∃ i,x=.int i/\Q (g i) H
section
variable {X:Cx} {a b c:Expr} {ta tb tc:TE} {pos:Pos}
theorem xT (ha:PE X a ta) (hb:PE X b tb) {pins:List (Addr×Obj)} {s:Shared} {σ:St} {H:Hp} {R:V->V->Hp->Prop} (I:Inv X pins σ H s)
  (h:ta σ H fun x H1=>tb σ H1 fun y H2=>R x y H2) {Q:Value->Shared->Prop} {f:Value->Value->Sem Value}
  (hf:∀ v u s2 x y H2,Inv X pins σ H2 s2->RelV x v->RelV y u->R x y H2->wpAny (model X.prog X.w) X.A (f v u) Q X.xe s2):
  wpAny (model X.prog X.w) X.A (eval a X.env) (fun v s₁=>wpAny (model X.prog X.w) X.A (eval b X.env) (fun u s₂=>wpAny (model X.prog X.w) X.A (f v u) Q X.xe s₂) X.xe s₁) X.xe s:=by
 refine thn (ha pins s σ H _ I h) fun v s1 hz=>?_
 obtain ⟨x,H1,I1,r1,q1⟩:=hz
 refine thn (hb pins s1 σ H1 _ I1 q1) fun u s2 hz=>?_
 obtain ⟨y,H2,I2,r2,q2⟩:=hz
 exact hf v u s2 x y H2 I2 r1 r2 q2
theorem Aq {op:Operator} {r:R2} (ho:OpR X (binaryOp op) r) (ha:PE X a ta) (hb:PE X b tb):PE X (.BinOp a op b pos) (tOp r ta tb):=by
 intro pins s σ H Q I h
 exact wpAny_BinOp (xT ha hb I h fun v u s2 x y H2 I2 rx ry q=>ho pins s2 σ H2 x y v u Q I2 rx ry q)
theorem Ar {op:UnaryOp} {r:V->Hp->VK->Prop} (ho:UnR X (unaryOp op) r) (ha:PE X a ta):PE X (.UnaryOp op a pos) (tUn r ta):=by
 intro pins s σ H Q I h
 exact UnaryOp_ (thn (ha pins s σ H _ I h) fun v s1 ⟨x,H1,I1,r1,q1⟩=>ho pins s1 σ H1 x v Q I1 r1 q1)
theorem opI {f:Value->Value->Sem Value} {C:Int->Int->Prop} {g:Int->Int->Int}
  (rule:∀ (i j:Int) (t u:Tok) (s:Shared) (Q:Value->Shared->Prop) (E:Value->Shared->Prop),C i j->Q (.int (g i j) s.toks) { s with toks:=s.toks+1 }->wpAny (model X.prog X.w) X.A (f (.int i t) (.int j u)) Q E s):
  OpR X f (rI C fun i j=>.int (g i j)):=by
 intro pins s σ H x y v u Q I rx ry h
 obtain ⟨i,j,rfl,rfl,hc,q⟩:=h
 obtain ⟨t,rfl⟩:=rx
 obtain ⟨t',rfl⟩:=ry
 exact rule i j t t' s _ _ hc ⟨.int (g i j),H,I.tok _,⟨_,rfl⟩,q⟩
theorem As {f:Value->Value->Sem Value} {g:Int->Int->Int}
  (rule:∀ (i j:Int) (t u:Tok) (s:Shared) (Q:Value->Shared->Prop) (E:Value->Shared->Prop),Q (.int (g i j) s.toks) { s with toks:=s.toks+1 }->wpAny (model X.prog X.w) X.A (f (.int i t) (.int j u)) Q E s):
  OpR X f (rI0 fun i j=>.int (g i j)):=by
 intro pins s σ H x y v u Q I rx ry h
 obtain ⟨i,j,rfl,rfl,q⟩:=h
 obtain ⟨t,rfl⟩:=rx
 obtain ⟨t',rfl⟩:=ry
 exact rule i j t t' s _ _ ⟨.int (g i j),H,I.tok _,⟨_,rfl⟩,q⟩
theorem Au {f:Value->Value->Sem Value} {g:Int->Int->Bool}
  (rule:∀ (i j:Int) (t u:Tok) (s:Shared) (Q:Value->Shared->Prop) (E:Value->Shared->Prop),Q (.bool (g i j)) s->wpAny (model X.prog X.w) X.A (f (.int i t) (.int j u)) Q E s):
  OpR X f (rI0 fun i j=>.bl (g i j)):=by
 intro pins s σ H x y v u Q I rx ry h
 obtain ⟨i,j,rfl,rfl,q⟩:=h
 obtain ⟨t,rfl⟩:=rx
 obtain ⟨t',rfl⟩:=ry
 exact rule i j t t' s _ _ ⟨.bl (g i j),H,I,rfl,q⟩
def rE (i j:Int):Prop:=0 < j/\j < 1073741824
def Cz (i j:Int):Prop:=0<=j/\j<=1000000/\i.natAbs < 2 ^ 64
def lO (i j:Int):Prop:=(-(2 ^ 64) < i/\i < 2 ^ 64)\/(-(2 ^ 64) < j/\j < 2 ^ 64)
theorem lO.ok {i j:Int} (h:lO i j):IntMulOk i j:=by
 rcases h with ⟨h1,h2⟩ | ⟨h1,h2⟩
 ·exact .of_left (intBits_le_64 h1 h2)
 ·exact .of_right (intBits_le_64 h1 h2)
theorem xU:OpR X (binaryOp .Add) (rI0 fun i j=>.int (i+j)):=As fun _ _ _ _ _ _ _ q=>add_int q
theorem xV:OpR X (binaryOp .Sub) (rI0 fun i j=>.int (i - j)):=As fun _ _ _ _ _ _ _ q=>sub_int q
theorem xW:OpR X (binaryOp .Mult) (rI lO fun i j=>.int (i*j)):=opI fun _ _ _ _ _ _ _ hc q=>mul_int q hc.ok
theorem tY:OpR X (binaryOp .FloorDiv) (rI rE fun i j=>.int (i / j)):=opI fun i j _ _ _ _ _ hc q=>by
 have h1:(0:Int) < j:=hc.1
 have h2:j < 1073741824:=hc.2
 exact floordiv_int (by omega) (by rw [Int.fdiv_eq_ediv_of_nonneg i (by omega)]; exact q) (.inl (PyProof.noPylong_small (by omega)))
theorem xX:OpR X (binaryOp .Mod) (rI (fun _ j=>0 < j) fun i j=>.int (i % j)):=opI fun i j _ _ _ _ _ hc q=>by
 have h1:(0:Int) < j:=hc
 exact mod_int' (by omega) (by rw [Int.fmod_eq_emod_of_nonneg i (by omega)]; exact q)
theorem unI {f:Value->Sem Value} {g:Int->Int}
  (rule:∀ (i:Int) (t:Tok) (s:Shared) (Q:Value->Shared->Prop) (E:Value->Shared->Prop),Q (.int (g i) s.toks) { s with toks:=s.toks+1 }->wpAny (model X.prog X.w) X.A (f (.int i t)) Q E s):
  UnR X f (rU fun i=>.int (g i)):=by
 intro pins s σ H x v Q I rx h
 obtain ⟨i,rfl,q⟩:=h
 obtain ⟨t,rfl⟩:=rx
 exact rule i t s _ _ ⟨.int (g i),H,I.tok _,⟨_,rfl⟩,q⟩
theorem xY:UnR X (unaryOp .USub) (rU fun i=>.int (-i)):=unI fun _ _ _ _ _ q=>neg_int q
end
section
variable {X:Cx} {a b c:Expr} {ta tb tc:TE} {pos:Pos}
theorem kF {pins:List (Addr×Obj)} {σ:St} {H:Hp} {s:Shared} {Q:VK} {k k':Bool} (I:Inv X pins σ H s) (q:Q (.bl k) H) (e:k=k'):EP X pins σ Q (.bool k') s:=by
 subst e
 exact ⟨.bl k,H,I,rfl,q⟩
theorem Av:OpR X (compareOp .Lt) (rI0 fun i j=>.bl (decide (i < j))):=Au fun _ _ _ _ _ _ _ q=>lt_int q
theorem Aw:OpR X (compareOp .Gt) (rI0 fun i j=>.bl (decide (j < i))):=Au fun _ _ _ _ _ _ _ q=>gt_int q
theorem pW:OpR X (compareOp .Lt) (fun x y H Q=>∃ i j,x=.str i/\y=.str j/\Q (.bl (decide (i.cps.toList < j.cps.toList))) H):=by
 intro pins s σ H x y v u Q I rx ry h
 obtain ⟨i,j,rfl,rfl,q⟩:=h
 obtain ⟨t,rfl⟩:=rx
 obtain ⟨t',rfl⟩:=ry
 exact lt_str (kF I q rfl)
theorem xZ:OpR X (compareOp .Is) (fun x y H Q=>y=.non/\Q (.bl (decide (x=.non))) H):=by
 intro pins s σ H x y v u Q I rx ry h
 obtain ⟨rfl,q⟩:=h
 cases ry
 refine is_none_gen (kF I q ?_)
 cases x <;> first
  | (cases rx; rfl)
  | (obtain ⟨t,rfl⟩:=rx; rfl)
theorem tZ:OpR X (compareOp .IsNot) (fun x y H Q=>y=.non/\Q (.bl (!decide (x=.non))) H):=by
 intro pins s σ H x y v u Q I rx ry h
 obtain ⟨rfl,q⟩:=h
 cases ry
 refine isnot_none_gen (kF I q ?_)
 cases x <;> first
  | (cases rx; rfl)
  | (obtain ⟨t,rfl⟩:=rx; rfl)
theorem OpR.or {f:Value->Value->Sem Value} {r r':R2} (h:OpR X f r) (h':OpR X f r'):OpR X f (fun x y H Q=>r x y H Q\/r' x y H Q):=by
 intro pins s σ H x y v u Q I rx ry q
 rcases q with q | q
 ·exact h pins s σ H x y v u Q I rx ry q
 ·exact h' pins s σ H x y v u Q I rx ry q
theorem nC (b:Expr) {op:CmpOp} (h:op≠.In:=by decide) (h2:op≠.NotIn:=by decide):behindInMarks op b=false:=by
 have e1:(op == CmpOp.In)=false:=by cases op <;> first | rfl | exact absurd rfl h
 have e2:(op == CmpOp.NotIn)=false:=by cases op <;> first | rfl | exact absurd rfl h2
 cases b <;> simp [behindInMarks,e1,e2]
theorem oH {op:CmpOp} {r:R2} (ho:OpR X (compareOp op) r) (ha:PE X a ta) (hb:PE X b tb) (hm:behindInMarks op b=false):PE X (.Compare a [op] [b] pos) (tOp r ta tb):=by
 intro pins s σ H Q I h
 exact wpAny_Compare1 (xT ha hb I h fun v u s2 x y H2 I2 rx ry q=>ho pins s2 σ H2 x y v u Q I2 rx ry q) hm
def uA (K:PySem.W.Frag) (x:V) (H:Hp) (k:Bool):Prop:=
 match x with
 | .non=>k=false
 | .bl b=>k=b
 | .int i=>k=(i != 0)
 | .str y=>y.length<=sizeLine/\k=((y.length:Int) != 0)
 | .byt y=>y.size<=sizeLine/\k=((y.size:Int) != 0)
 | .ref p=>(∃ xs,SqL K H p xs/\k=!xs.isEmpty)\/(∃ xs,SqT K H p xs/\k=!xs.isEmpty)\/∃ kvs,H p=some (.dK kvs)/\k=!kvs.isEmpty
 | _=>False
theorem nD {κ:Type} {kvs:List (κ×V)} {vs:List (κ×Value)} (r:KV kvs vs):(!vs.isEmpty)=!kvs.isEmpty:=by
 cases r <;> rfl
theorem iA {xs:List V} {its:List Value} (r:aQ xs its):(!its.toArray.isEmpty)=!xs.isEmpty:=by
 cases r <;> simp
theorem gB:(sizeLine:Nat) < 2 ^ 63:=by rw [sizeLine_eq]; decide
theorem rF:Cy X (fun x H Q=>∃ k,uA X.K x H k/\Q k H):=by
 intro pins s σ H x v Q I rx h
 obtain ⟨k,e,q⟩:=h
 have hl:=gB
 have hs:sizeLine=16777216:=sizeLine_eq
 cases x with
 | non=>
  cases rx
  have e':k=false:=e
  subst e'
  exact truthy_none ⟨H,I,q⟩
 | bl b=>
  cases rx
  have e':k=b:=e
  subst e'
  exact wpAny_truthy_bool ⟨H,I,q⟩
 | int i=>
  obtain ⟨t,rfl⟩:=rx
  have e':k=(i != 0):=e
  subst e'
  exact PySem.P.truthy_int ⟨H,I,q⟩
 | str y=>
  obtain ⟨t,rfl⟩:=rx
  obtain ⟨hy,e'⟩:y.length<=sizeLine/\k=((y.length:Int) != 0):=e
  subst e'
  exact PySem.P.truthy_str (by omega) ⟨H,I.tok _,q⟩
 | byt y=>
  obtain ⟨t,rfl⟩:=rx
  obtain ⟨hy,e'⟩:y.size<=sizeLine/\k=((y.size:Int) != 0):=e
  subst e'
  exact PySem.W.truthy_bytes (by omega) ⟨H,I.tok _,q⟩
 | ref p=>
  cases rx
  have e':(∃ xs,SqL X.K H p xs/\k=!xs.isEmpty)\/(∃ xs,SqT X.K H p xs/\k=!xs.isEmpty)\/∃ kvs,H p=some (.dK kvs)/\k=!kvs.isEmpty:=e
  rcases e' with ⟨xs,hx,e'⟩ | ⟨xs,hx,e'⟩ | ⟨kvs,hx,e'⟩
  ·subst e'
   obtain ⟨its,r,pl,hz⟩:=I.list hx
   have hlen:=r.length
   exact wpAny_truthy_list pl.isList (by simp only [List.size_toArray]; omega) ⟨H,I.tok _,by rw [iA r]; exact q⟩
  ·subst e'
   obtain ⟨its,r,pl,hz⟩:=I.tuple hx
   have hlen:=r.length
   exact truthy_tuple pl (by simp only [List.size_toArray]; omega) ⟨H,I.tok _,by rw [iA r]; exact q⟩
  ·subst e'
   obtain ⟨hz,hS,vs,r,m⟩:kvs.length<=sizeLine/\(p == sysModules)=false/\∃ vs,KV kvs vs/\s.heap.DictOf (cI X.prog X.w) p vs:=I.hok p _ hx
   have hlen:kvs.length=vs.length:=Paired.length r
   exact wpAny_truthy_dict hS m (by omega) ⟨H,I.tok _,by rw [nD r]; exact q⟩
 | _=>exact (show False from e).elim
theorem rG (ha:PE X a ta) (he:∀ whole,isTrue a X.env whole=(do let v <- whole; standAt a.pos; holding [v] (truthy v))):
  PT X a (fun σ H Q=>ta σ H fun x H'=>∃ k,uA X.K x H' k/\Q k H'):=by
 intro pins s σ H Q I h
 exact isTrue_plain (thn (ha pins s σ H _ I h) fun v s1 ⟨x,H1,I1,r1,q1⟩=>rF pins s1 σ H1 x v Q I1 r1 q1) (he _)
theorem nE:OpR X (binaryOp .Add) (fun x y H Q=>∃ i j,x=.str i/\y=.str j/\i.length+j.length<=sizeLine/\Q (.str (i++j)) H):=by
 intro pins s σ H x y v u Q I rx ry h
 obtain ⟨i,j,rfl,rfl,hz,q⟩:=h
 obtain ⟨t,rfl⟩:=rx
 obtain ⟨t',rfl⟩:=ry
 exact add_str (fun t' tk=>⟨.str (i++j),H,I.tok _,⟨_,rfl⟩,q⟩) hz
theorem vals1 {x:V} {us:List Value} (r:aQ [x] us):∃ u,us=[u]/\RelV x u:=by
 cases r with
 | cons r1 r2=>cases r2; exact ⟨_,rfl,r1⟩
theorem vals2 {x y:V} {us:List Value} (r:aQ [x,y] us):∃ u w',us=[u,w']/\RelV x u/\RelV y w':=by
 cases r with
 | cons r1 r2=>
  cases r2 with
  | cons r3 r4=>cases r4; exact ⟨_,_,rfl,r1,r3⟩
theorem pX (hc:X.calm=true):eI X (.builtin "min") (fun xs H Q=>∃ i j,xs=[.int i,.int j]/\Q (.int (if j < i then j else i)) H):=by
 intro pins s σ H xs us Q I r h
 obtain ⟨i,j,rfl,q⟩:=h
 obtain ⟨u,w',rfl,⟨t,rfl⟩,⟨t',rfl⟩⟩:=vals2 r
 refine min_two_ints (I.ok.hd hc) fun h' tk k=>⟨_,H,I.kept k,?_,q⟩
 by_cases hj:j < i
 ·rw [if_pos hj,if_pos hj]; exact ⟨_,rfl⟩
 ·rw [if_neg hj,if_neg hj]; exact ⟨_,rfl⟩
def CA (K:PySem.W.Frag) (x:V) (H:Hp) (n:Nat):Prop:=
 match x with
 | .str y=>y.length<=sizeLine/\n=y.length
 | .byt y=>y.size<=sizeLine/\n=y.size
 | .ref p=>(∃ xs,SqL K H p xs/\n=xs.length)\/∃ xs,SqT K H p xs/\n=xs.length
 | _=>False
theorem rH:eI X (.builtin "len") (fun xs H Q=>∃ x n,xs=[x]/\CA X.K x H n/\Q (.int n) H):=by
 intro pins s σ H xs us Q I r h
 obtain ⟨x,n,rfl,e,q⟩:=h
 obtain ⟨u,rfl,rx⟩:=vals1 r
 have hl:=gB
 have hs:sizeLine=16777216:=sizeLine_eq
 cases x with
 | str y=>
  obtain ⟨t,rfl⟩:=rx
  obtain ⟨hy,e'⟩:y.length<=sizeLine/\n=y.length:=e
  subst e'
  exact len_str (by omega) ⟨.int _,H,I.tok _,⟨_,rfl⟩,q⟩
 | byt y=>
  obtain ⟨t,rfl⟩:=rx
  obtain ⟨hy,e'⟩:y.size<=sizeLine/\n=y.size:=e
  subst e'
  exact PySem.W.len_bytes (by omega) ⟨.int _,H,I.tok _,⟨_,rfl⟩,q⟩
 | ref p=>
  cases rx
  have e':(∃ xs,SqL X.K H p xs/\n=xs.length)\/∃ xs,SqT X.K H p xs/\n=xs.length:=e
  rcases e' with ⟨xs,hx,e'⟩ | ⟨xs,hx,e'⟩
  ·subst e'
   obtain ⟨its,r',pl,hz⟩:=I.list hx
   have hlen:=r'.length
   exact Calls.call_len_list pl.isList (by simp only [List.size_toArray]; omega) ⟨.int xs.length,H,I.tok _,⟨_,by simp only [List.size_toArray]; rw [hlen]⟩,q⟩
  ·subst e'
   obtain ⟨its,r',pl,hz⟩:=I.tuple hx
   have hlen:=r'.length
   exact len_tuple pl (by simp only [List.size_toArray]; omega) ⟨.int xs.length,H,I.tok _,⟨_,by simp only [List.size_toArray]; rw [hlen]⟩,q⟩
 | _=>exact (show False from e).elim
end
end L2
namespace L2
open PySem PySem.Spec PyProof.Rows
structure yA (h:Heap) (x dx C:Addr) (mA:Str->Option Value):Prop where
 obj:h.get? x=some (PySem.W.instObj C dx)
 ns:h.Ns1 dx mA
 ne:dx≠x
theorem pY {h:Heap} {dx:Addr} {mA:Str->Option Value} (n:h.Ns1 dx mA):∃ od,h.get? dx=some od/\∀ name,PySem.W.lookIn name od=some (mA name):=by
 obtain ⟨o,es,ep,ho,hd,hk,_,hm⟩:=n
 refine ⟨o,ho,fun name=>?_⟩
 have e:=hm name
 unfold nsFind findBy at e
 rw [<- Array.find?_toList] at e
 unfold PySem.W.lookIn
 rw [hd]
 dsimp only
 split
 ·rename_i y q
  rw [q] at e
  exact congrArg some e
 ·rename_i q
  rw [q] at e
  have a:es.toList.any (·.refKey)=false:=by
   rw [List.any_eq_false]
   intro y hy
   obtain ⟨z,t,hkey⟩:=hk y (Array.mem_toList_iff.mp hy)
   simp [DictEntry.refKey,hkey]
  have a':¬ es.toList.any (·.refKey)=true:=by rw [a]; exact Bool.false_ne_true
  rw [if_neg a']
  exact congrArg some e
theorem yA.look {h:Heap} {x dx C:Addr} {mA:Str->Option Value} (I:yA h x dx C mA):∃ od,PySem.W.InstAt h x (PySem.W.instObj C dx) C (some od)/\∀ name,PySem.W.lookIn name od=some (mA name):=
 let ⟨od,ho,hl⟩:=pY I.ns
 ⟨od,⟨I.obj,rfl,rfl,ho⟩,hl⟩
section
variable {prog:Program} {w:World} {A:Around} {E:Value->Shared->Prop} {s:Shared} {K:PySem.W.Frag} {x dx C f:Addr} {mA:Str->Option Value} {name:Str} {v:Value}
end
theorem jZ.some_of {v:V} {o:Option Value} (r:jZ (some v) o):∃ u,o=some u/\RelV v u:=by
 cases o with
 | none=>exact (show False from r).elim
 | some u=>exact ⟨u,rfl,r⟩
section
variable {P:Program} {w:World} {H H':Hp} {h h':Heap} {a C dx:Addr} {fs fs':List (Str×V)}
theorem uB (hok:HOk P w H h) (e:H a=some (.ins C dx fs)):∃ mA,yA h a dx C mA/\(∀ f,jZ (fs.lookup f) (mA f))/\PySem.Within mA (fs.map (·.1))/\fs.length<=1000/\H dx=some (.own a):=by
 obtain ⟨d,z,ne,ob,mA,n,r,q⟩:=(show bS P w H h a (.ins C dx fs) from hok a _ e)
 exact ⟨mA,⟨ob,n,ne⟩,r,q,z,d⟩
end
structure Cls (K:PySem.W.Frag) (C:Addr):Prop where
 pg:PySem.W.plainGet K C Str.empty=true
 hd:PySem.W.hasDictIn K C=true
 po:PySem.W.plainOver K C=true
 sa:PySem.W.findIn K (.ref C) "__setattr__" = some (some (.builtin "object.__setattr__"))
theorem Cls.get {K:PySem.W.Frag} {C:Addr} (c:Cls K C) (f:Str):PySem.W.plainGet K C f=true:=c.pg
structure Con (K:PySem.W.Frag) (C:Addr) (f:Str) (v:V) (u:Value):Prop where
 at_:PySem.W.findIn K (.ref C) f=some (some u)
 rel:RelV v u
 get:PySem.W.specialIn K u "__get__" = some none
 cp:PySem.W.copiedNames.contains f=false
structure DC (K:PySem.W.Frag) (C:Addr) (m:Str) (f:Addr):Prop where
 at_:PySem.W.findIn K (.ref C) m=some (some (.ref f))
 fn:PySem.W.isFn K (.ref f)=true
 kp:PySem.W.keepIn K (.ref f)=true
section
variable {X:Cx} {pins:List (Addr×Obj)} {σ:St} {H:Hp} {s:Shared} {a C dx:Addr} {fs:List (Str×V)} {f:Str} {v:V} {A:Around} {E:Value->Shared->Prop}
theorem uC {prog:Program} {w:World} {env:Env} {e:Expr} {f:Str} {pos:Pos} {s:Shared} {Q:Value->Shared->Prop} (hb:attributeBase e f env (eval e env)=eval e env)
  (h:wpAny (model prog w) A (eval e env) (fun o s₁=>wpAny (model prog w) A (getAttr o f true) Q E s₁) E s):wpAny (model prog w) A (eval (.Attribute e f pos) env) Q E s:=
 Attribute_any_ h (by rw [arm_eval_Attribute,hb])
end
section
variable {X:Cx} {o e value:Expr} {f:Str} {pos pos' tpos:Pos} {ta tv:TE}
end
section
variable {X:Cx} {pins:List (Addr×Obj)} {σ:St} {H:Hp} {s:Shared} {A:Around} {E:Value->Shared->Prop} {Q:Value->Shared->Prop} {c:Value} {b:Bool}
inductive fN (K:PySem.W.Frag) (H:Hp):V->Value->Prop where
 | non:fN K H .non (.type "NoneType")
 | bl (x:Bool):fN K H (.bl x) (.type "bool")
 | int (i:Int):fN K H (.int i) (.type "int")
 | str (x:Str):fN K H (.str x) (.type "str")
 | flt (x:UInt64):fN K H (.flt x) (.type "float")
 | lst {a:Addr} {xs:List V} (e:H a=some (.lst xs)):fN K H (.ref a) (.type "list")
 | frz {a:Addr} {o:Obj} {xs:List V} (e:H a=some (.frz o (.lst xs))):fN K H (.ref a) (.type "list")
 | tup {a:Addr} {xs:List V} (e:H a=some (.tup xs)):fN K H (.ref a) (.type "tuple")
 | dK {a:Addr} {kvs:List (Key×V)} (e:H a=some (.dK kvs)):fN K H (.ref a) (.type "dict")
 | dT {a:Addr} {kvs:List (List Key×V)} (e:H a=some (.dT kvs)):fN K H (.ref a) (.type "dict")
 | ins {a C dx:Addr} {fs:List (Str×V)} (e:H a=some (.ins C dx fs)) (cl:Cls K C) (ha:PySem.W.findIn K (.ref C) "__class__" = some (some (.builtin "object.__class__")))
   (hn:PySem.W.specialIn K (.builtin "object.__class__") "__get__" = some (some (.builtin "getset_descriptor.__get__"))) (htk:PySem.W.takesIn K (.builtin "object.__class__")=some true)
   (hm:PySem.W.mroIn K C (.type "object")=some true):fN K H (.ref a) (.ref C)
theorem pZ {x:V} {u t:Value} (I:Inv X pins σ H s) (rx:RelV x u) (ty:fN X.K H x t) (e:PySem.W.kitOne X.K t c=some b) (h:∀ tk,Q (.bool b) { s with toks:=tk }):
  wpAny (model X.prog X.w) A (call (.builtin "isinstance") [u,c]) Q E s:=by
 cases ty with
 | non=>cases (show u=Value.none from rx); exact PySem.W.kia_one PySem.W.kitx_none I.kIn True.intro e (fun z=>nomatch z) h
 | bl y=>cases (show u=Value.bool y from rx); exact PySem.W.kia_one PySem.W.kitx_bool I.kIn True.intro e (fun z=>nomatch z) h
 | int i=>obtain ⟨t,q⟩:=(show ∃ t,u=Value.int i t from rx); cases q; exact PySem.W.kia_one PySem.W.kitx_int I.kIn True.intro e (fun z=>nomatch z) h
 | str y=>obtain ⟨t,q⟩:=(show ∃ t,u=Value.str y t from rx); cases q; exact PySem.W.kia_one PySem.W.kitx_str I.kIn True.intro e (fun z=>nomatch z) h
 | flt y=>obtain ⟨t,q⟩:=(show ∃ t,u=Value.float y t from rx); cases q; exact PySem.W.kia_one PySem.W.kitx_float I.kIn True.intro e (fun z=>nomatch z) h
 | @lst a xs ea=>
  cases (show u=Value.ref a from rx)
  obtain ⟨_,_,n,_,h1⟩:=(show bS X.prog X.w H s.heap a (.lst xs) from I.hok a _ ea)
  exact PySem.W.kia_one PySem.W.kitx_list I.kIn ⟨_,h1,rfl⟩ e (fun z=>nomatch z) h
 | @frz a ob xs ea=>
  cases (show u=Value.ref a from rx)
  obtain ⟨_,_,_,n,_,h1⟩:=(show bS X.prog X.w H s.heap a (.frz ob (.lst xs)) from I.hok a _ ea)
  exact PySem.W.kia_one PySem.W.kitx_list I.kIn ⟨_,h1,rfl⟩ e (fun z=>nomatch z) h
 | @tup a xs ea=>
  cases (show u=Value.ref a from rx)
  obtain ⟨_,_,_,p⟩:=(show bS X.prog X.w H s.heap a (.tup xs) from I.hok a _ ea)
  obtain ⟨o,h1,h2,_⟩:=p
  exact PySem.W.kia_one PySem.W.kitx_tuple I.kIn ⟨o,h1,h2⟩ e (fun z=>nomatch z) h
 | @dK a kvs ea=>
  cases (show u=Value.ref a from rx)
  obtain ⟨_,_,vs,_,p⟩:=(show bS X.prog X.w H s.heap a (.dK kvs) from I.hok a _ ea)
  obtain ⟨o,es,ep,h1,h2,_⟩:=p
  exact PySem.W.kia_one PySem.W.kitx_dict I.kIn ⟨o,h1,h2.1⟩ e (fun z=>nomatch z) h
 | @dT a kvs ea=>
  cases (show u=Value.ref a from rx)
  obtain ⟨_,_,xs,_,o,es,ep,h1,h2,_⟩:=(show bS X.prog X.w H s.heap a (.dT kvs) from I.hok a _ ea)
  exact PySem.W.kia_one PySem.W.kitx_dict I.kIn ⟨o,h1,h2.1⟩ e (fun z=>nomatch z) h
 | @ins a C dx fs ea cl ha hn htk hm=>
  cases (show u=Value.ref a from rx)
  obtain ⟨mA,O,_⟩:=uB I.hok ea
  obtain ⟨od,J,_⟩:=O.look
  exact PySem.W.kia_one (PySem.W.kitx_own (cl.get _) cl.hd ha hn htk hm) I.kIn J e (fun z=>nomatch z) h
end
end L2
namespace L2
open PySem PySem.Spec PyProof.Rows
structure cQ (k:Nat) (A:Around):Prop where
 hd:A.handled=none
 dp:A.depth+3*k+5 < recursionLimit
 un:A.units+16*k+200 < cLine
theorem cQ.mono {j k:Nat} {A:Around} (r:cQ k A) (h:j<=k):cQ j A:=⟨r.hd,by have:=r.dp; omega,by have:=r.un; omega⟩
theorem cQ.deeper {k:Nat} {A:Around} (r:cQ (k+1) A) (env:Env):cQ k (A.deeper env):=
 ⟨r.hd,by have:=r.dp; show A.depth+1+3*k+5 < _; omega,by have:=r.un; show A.units+3+16*k+200 < _; omega⟩
theorem nF {A:Around} {C:Addr} {us:List Value} {kw:List (Str×Value)}:(A.under (.builtin "type.__call__" ⟨.ref C :: us,kw⟩)).depth=A.depth+1:=by
 first | rfl | simp [Around.under,Code.weight,Code.isCreation,Code.isGuard,Code.isCaller,Code.frames,Code.isFrame,guardIds]
theorem nG {A:Around} {C:Addr} {us:List Value} {kw:List (Str×Value)}:(A.under (.builtin "type.__call__" ⟨.ref C :: us,kw⟩)).units=A.units+1:=by
 first | rfl | simp [Around.under,Code.cUnits,Code.frames,Code.isFrame]
theorem cQ.make {k:Nat} {A:Around} (r:cQ (k+1) A) (C:Addr) (us:List Value) (kw:List (Str×Value)):cQ k (A.under (.builtin "type.__call__" ⟨.ref C :: us,kw⟩)):=
 ⟨r.hd,by have:=r.dp; rw [nF]; omega,by have:=r.un; rw [nG]; omega⟩
theorem cQ.depth {k:Nat} {A:Around} (r:cQ k A):A.depth < recursionLimit:=by have:=r.dp; omega
theorem cQ.units {k:Nat} {A:Around} (r:cQ k A):A.units+64 < cLine:=by have:=r.un; omega
def Ax:TA:=fun _ H Q=>Q [] H
def rJ (ta:TE) (tr:TA):TA:=fun σ H Q=>ta σ H fun x H1=>tr σ H1 fun xs H2=>Q (x :: xs) H2
section
variable {X:Cx} {e:Expr} {es:List Expr} {te:TE} {t:TA} {pos:Pos}
theorem iB:PA X [] Ax:=fun _ _ _ _ H Q I h=>Calls.spliced_nil ⟨[],H,I,.nil,h⟩
theorem dI (ha:PE X e te) (hr:PA X es t) (hs:starEach (e :: es) X.env=(false,eval e X.env) :: starEach es X.env:=by rfl):PA X (e :: es) (rJ te t):=by
 intro pos pins s σ H Q I h
 rw [hs]
 show wpAny _ _ (spliced ((false,eval e X.env) :: backTo pos (starEach es X.env))) _ _ s
 refine Calls.spliced_cons (thn (ha pins s σ H _ I h) fun u s1 hz=>?_)
 obtain ⟨x,H1,I1,r1,q1⟩:=hz
 exact thn (hr pos pins s1 σ H1 _ I1 q1) fun us s2 ⟨xs,H2,I2,r2,q2⟩=>⟨x :: xs,H2,I2,.cons r1 r2,q2⟩
def CB (t:TA):TE:=fun σ H Q=>t σ H fun xs H1=>xs.length<=sizeLine/\∀ p,H1 p=none->Q (.ref p) (upd H1 p (.tup xs))
def CC (t:TA):TE:=fun σ H Q=>t σ H fun xs H1=>xs.length<=sizeLine/\∀ p,H1 p=none->Q (.ref p) (upd H1 p (.lst xs))
theorem yB {x1} (h:PA X es t):PE X (.Tuple es x1 pos) (CB t):=by
 intro pins s σ H Q I hq
 refine wpAny_Tuple_spliced (thn (h pos pins s σ H _ I hq) fun us s1 ⟨xs,H1,I1,r,z,q⟩=>⟨by rw [<- r.length]; exact z,?_⟩)
 have hf:H1 s1.heap.objs.size=none:=I1.hok.fresh (Nat.le_refl _)
 refine ⟨.ref s1.heap.objs.size,upd H1 s1.heap.objs.size (.tup xs),I1.laid (t':=s1.toks) (fun b u e=>Heap.get?_push_of_some _ e) (Nat.le_refl _) ?_,rfl,q _ hf⟩
 exact ⟨z,us,r,⟨_,Heap.get?_push_size _ rfl,rfl,⟨_,rfl⟩,rfl⟩⟩
theorem yC (h:PA X es t):PE X (.List es pos) (CC t):=by
 intro pins s σ H Q I hq
 refine wpAny_List_spliced (thn (h pos pins s σ H _ I hq) fun us s1 ⟨xs,H1,I1,r,z,q⟩=>⟨by rw [<- r.length]; exact z,?_⟩)
 have hf:H1 s1.heap.objs.size=none:=I1.hok.fresh (Nat.le_refl _)
 refine ⟨.ref s1.heap.objs.size,upd H1 s1.heap.objs.size (.lst xs),I1.laid (t':=s1.toks) (fun b u e=>Heap.get?_push_of_some _ e) (Nat.le_refl _) ?_,rfl,q _ hf⟩
 exact ⟨z,us,0,r,Heap.get?_push_size _ rfl⟩
end
abbrev Sp:=List V->Hp->VK->XK->Prop
abbrev CXT:=List Env->Hp->Shared->XK->Value->Shared->Prop
structure nH (P:Program) (w:World) (K:PySem.W.Frag) (mg:Str->Option Value) (base:Heap) (A:Around) (outer:List Env) (s:Shared) (H:Hp):Prop where
 frames:A.frames=some outer
 mod:Mod K mg base
 bs:∀ b o,base.get? b=some o->s.heap.get? b=some o/\H b=none
 bsz:base.objs.size<=s.heap.objs.size
 funs:s.heap.FunFrames base outer
 frf:∀ b∈frs outer,H b=none
 hok:HOk P w H s.heap
 bare:AllBare s.gens
def CE (outer:List Env) (P:Program) (w:World) (H:Hp) (s:Shared) (Q:VK) (u:Value) (s':Shared):Prop:=
 ∃ v H',s'.os=s.os/\AllBare s'.gens/\Un (frs outer) [] H H' s.heap s'.heap/\HOk P w H' s'.heap/\RelV v u/\Q v H'
def CR (CX:CXT) (outer:List Env) (P:Program) (w:World) (H:Hp) (s:Shared) (Q:VK) (E:XK) (r:Result) (s':Shared):Prop:=
 match r with
 | .ok (.ret u)=>CE outer P w H s Q u s'
 | .ok _=>False
 | .error e=>CX outer H s E e s'
structure aO (P:Program) (w:World) (K:PySem.W.Frag) (mg:Str->Option Value) (base:Heap) (CX:CXT) (k:Nat) (f:Addr) (fd:FuncData) (ps:List Str) (sp:Sp):Prop where
 len:∀ vs H Q E,sp vs H Q E->vs.length=ps.length
 run:∀ (A:Around) (outer:List Env) (s:Shared) (H:Hp) (args:Args) (us:List Value) (vs:List V) (Q:VK) (E:XK),cQ k A->nH P w K mg base A outer s H->BindsTo s fd args (ps.zip us)->aQ vs us->sp vs H Q E->
  codeAny (model P w) A (.call (.ref f) args) (CR CX outer P w H s Q E) s
theorem nH.make {P:Program} {w:World} {K:PySem.W.Frag} {mg:Str->Option Value} {base:Heap} {A:Around} {outer:List Env} {s:Shared} {H:Hp} (e:nH P w K mg base A outer s H) (C:Addr) (us:List Value) (kw:List (Str×Value)):
  nH P w K mg base (A.under (.builtin "type.__call__" ⟨.ref C :: us,kw⟩)) outer s H:=⟨by first | exact e.frames | (simpa [Around.under,Code.envs,Code.isFrame,pushEnvs] using e.frames),e.mod,e.bs,e.bsz,e.funs,e.frf,e.hok,e.bare⟩
section
variable {X:Cx} {pins:List (Addr×Obj)} {σ:St} {H:Hp} {s s':Shared}
theorem Inv.env0 (I:Inv X pins σ H s):nH X.prog X.w X.K X.mg X.base X.A X.stack s H:=
 ⟨I.ok.frames,I.ok.mod,I.bs,Nat.le_trans I.ok.bsz I.sz,I.stack,I.stkFree,I.hok,I.bare⟩
theorem Inv.after {Q:VK} {u:Value} (I:Inv X pins σ H s) (h:CE X.stack X.prog X.w H s Q u s'):EP X pins σ Q u s':=by
 obtain ⟨v,H',os,bare,un,hok,r,q⟩:=h
 obtain ⟨hh,g,d,t,os'⟩:=s'
 obtain rfl:os'=s.os:=os
 exact ⟨v,H',I.call (h':=hh) (g':=g) (d':=d) (t':=t) (ch:=[]) un hok bare (fun b z=>absurd z (by simp)),r,q⟩
end
def wD (sp:Sp) (dvs:List V) (E:XK) (t:TA):TE:=fun σ H Q=>t σ H fun vs H1=>sp (vs++dvs) H1 Q E
def Binds (K:PySem.W.Frag) (fd:FuncData) (ps:List Str) (ds:List Value):Prop:=
 ∀ (s:Shared) (us:List Value),K.In s.heap->(us++ds).length=ps.length->BindsTo s fd ⟨us,[]⟩ (ps.zip (us++ds))
theorem Binds.all {K:PySem.W.Frag} {fd:FuncData} {ps:List Str} (h:∀ us:List Value,us.length=ps.length->bindArgs fd ⟨us,[]⟩=pure (ps.zip us)):Binds K fd ps []:=fun s us _ hl=>by
 rw [List.append_nil] at hl ⊢
 exact .of_eq (h us hl)
def nI (CX:CXT) (X:Cx) (E:XK):Prop:=∀ (pins:List (Addr×Obj)) (σ:St) (H:Hp) (s:Shared) (e:Value) (s':Shared),Inv X pins σ H s->CX X.stack H s E e s'->X.xe e s'
section
variable {X:Cx} {CX:CXT} {k:Nat} {f C:Addr} {fd:FuncData} {ps:List Str} {sp:Sp} {dvs:List V} {ds:List Value} {E:XK} {x m:Str} {p pos apos:Pos} {e o:Expr} {es:List Expr} {ta:TE} {t:TA}
theorem yD {pins:List (Addr×Obj)} {σ:St} {H:Hp} {s:Shared} {Q:VK} {us:List Value} {vs:List V} (F:aO X.prog X.w X.K X.mg X.base CX k f fd ps sp) (hr:cQ k X.A) (hb:Binds X.K fd ps ds) (hd:aQ dvs ds) (hx:nI CX X E)
  (I:Inv X pins σ H s) (r:aQ vs us) (h:sp (vs++dvs) H Q E):wpAny (model X.prog X.w) X.A (call (.ref f) us) (EP X pins σ Q) X.xe s:=by
 have r2:aQ (vs++dvs) (us++ds):=r.append hd
 have hl:(us++ds).length=ps.length:=by rw [<- r2.length]; exact F.len _ _ _ _ h
 refine wpAny_call (codeAny_mono (F.run X.A X.stack s H ⟨us,[]⟩ (us++ds) (vs++dvs) Q E hr I.env0 (hb s us I.kIn hl) r2 h) fun r s' hq=>?_)
 cases r with
 | error e=>exact hx pins σ H s e s' I hq
 | ok fl=>
  cases fl with
  | ret u=>exact I.after hq
  | next=>exact False.elim hq
  | brk=>exact False.elim hq
  | cont=>exact False.elim hq
theorem uD (F:aO X.prog X.w X.K X.mg X.base CX k f fd ps sp) (hr:cQ k X.A) (hg:Gl X x) (hm:X.mg x=some (.ref f)) (hk:PySem.W.keepIn X.K (.ref f)=true) (hb:Binds X.K fd ps ds) (hd:aQ dvs ds) (hx:nI CX X E)
  (ha:PA X (e :: es) t) (hdb:(x == ("__debug__" : Str))=false:=by decide) (he:starEach (e :: es) X.env=(false,eval e X.env) :: starEach es X.env:=by rfl) (hpl:(backTo pos (starEach es X.env)).any (·.1)=false:=by rfl):
  PE X (.Call (.Name x p) (e :: es) [] pos) (wD sp dvs E t):=by
 intro pins s σ H Q I h
 refine wpAny_Call_Name_kw (fL I hg hm ?_ hdb)
 refine PySem.W.callWith_K (h₀:=X.base) I.ok.mod.kin hk (thn (ha pos pins s σ H _ I h) fun us s1 ⟨vs,H1,I1,r,q⟩=>⟨I1.kIn,?_⟩) he hpl
 exact yD F hr hb hd hx I1 r q
structure Mk (K:PySem.W.Frag) (C f:Addr):Prop where
 makes:PySem.W.makesIn K C=true
 init:PySem.W.findIn K (.ref C) "__init__" = some (some (.ref f))
 fn:PySem.W.isFn K (.ref f)=true
 kp:PySem.W.keepIn K (.ref C)=true
end
section
variable {X:Cx} {CX:CXT} {k:Nat} {f C:Addr} {fd:FuncData} {ps ks:List Str} {sp:Sp} {E:XK} {x m:Str} {p pos apos kpos:Pos} {e o:Expr} {es:List Expr} {kws:List Keyword} {te ta:TE} {t tk:TA} {nm:Option Str}
structure CD (K:PySem.W.Frag) (fd:FuncData) (ps ks:List Str) (g:List Value->List Value->List Value) (gV:List V->List V->List V):Prop where
 to:∀ (s:Shared) (us ws:List Value),K.In s.heap->(g us ws).length=ps.length->BindsTo s fd ⟨us,ks.zip ws⟩ (ps.zip (g us ws))
 rel:∀ {vs:List V} {us:List Value} {zs:List V} {ws:List Value},aQ vs us->aQ zs ws->aQ (gV vs zs) (g us ws)
variable {g:List Value->List Value->List Value} {gV:List V->List V->List V}
end
structure aY (N P:List Str) (sc:Scope):Prop where
 kind:sc.kind=.function
 co:sc.isCoroutine=false
 gen:sc.isGenerator=false
 nd:N.Nodup
 pre:N.take P.length=P
 par:∀ x∈P,sc.names.lookup x=some .local\/sc.names.lookup x=some .cell
 nofree:∀ y∈sc.names,y.2≠.free
theorem jG {kindOf:Str->Option NameKind} {x:Str}:∀ {binds:List (Str×Value)} {m:Str->Option Value},(∀ v,(x,v)∉binds)->bindL kindOf binds m x=m x
 | [],_,_=>rfl
 | (n,v) :: r,m,h=>by
  unfold bindL
  rw [jG fun w hw=>h w (List.mem_cons_of_mem _ hw)]
  split
  ·have:x≠n:=by rintro rfl; exact h v List.mem_cons_self
   simp [this]
  ·rfl
theorem jH {kindOf:Str->Option NameKind} {x:Str}:∀ {binds:List (Str×Value)} {m:Str->Option Value},(∀ v,(x,v)∉binds)->bindC kindOf binds m x=m x
 | [],_,_=>rfl
 | (n,v) :: r,m,h=>by
  unfold bindC
  rw [jH fun w hw=>h w (List.mem_cons_of_mem _ hw)]
  split
  ·rfl
  ·have:x≠n:=by rintro rfl; exact h v List.mem_cons_self
   simp [this]
theorem jI {kindOf:Str->Option NameKind} {x:Str} {v:Value}:∀ {P:List Str} {vs:List Value} {i:Nat} {m:Str->Option Value},P.Nodup->P[i]?=some x->vs[i]?=some v->kindOf x=some .local->
  bindL kindOf (P.zip vs) m x=some v
 | [],_,_,_,_,h,_,_=>by simp at h
 | _ :: _,[],_,_,_,_,h,_=>by simp at h
 | p :: P,w :: vs,0,m,nd,h1,h2,hk=>by
  simp at h1 h2; subst h1; subst h2
  show bindL kindOf ((p,w) :: P.zip vs) m p=_
  unfold bindL
  rw [jG fun v hv=>(List.nodup_cons.mp nd).1 (List.of_mem_zip hv).1,if_pos hk]
  simp
 | p :: P,w :: vs,i+1,m,nd,h1,h2,hk=>by
  show bindL kindOf ((p,w) :: P.zip vs) m x=_
  unfold bindL
  exact jI (i:=i) (List.nodup_cons.mp nd).2 (by simpa using h1) (by simpa using h2) hk
theorem jJ {kindOf:Str->Option NameKind} {x:Str} {v:Value}:∀ {P:List Str} {vs:List Value} {i:Nat} {m:Str->Option Value},P.Nodup->P[i]?=some x->vs[i]?=some v->kindOf x≠some .local->
  bindC kindOf (P.zip vs) m x=some v
 | [],_,_,_,_,h,_,_=>by simp at h
 | _ :: _,[],_,_,_,_,h,_=>by simp at h
 | p :: P,w :: vs,0,m,nd,h1,h2,hk=>by
  simp at h1 h2; subst h1; subst h2
  show bindC kindOf ((p,w) :: P.zip vs) m p=_
  unfold bindC
  rw [jH fun v hv=>(List.nodup_cons.mp nd).1 (List.of_mem_zip hv).1,if_neg hk]
  simp
 | p :: P,w :: vs,i+1,m,nd,h1,h2,hk=>by
  show bindC kindOf ((p,w) :: P.zip vs) m x=_
  unfold bindC
  exact jJ (i:=i) (List.nodup_cons.mp nd).2 (by simpa using h1) (by simpa using h2) hk
def start (N:List Str) (vs:List V):St:=vs.map some++List.replicate (N.length - vs.length) none
def gY (CX:CXT) (P:Program) (w:World) (K:PySem.W.Frag) (mg:Str->Option Value) (base:Heap) (N:List Str) (qual:Str) (scope:Scope) (f:Addr) (cd:Value) (A:Around) (outer:List Env) (s:Shared) (H:Hp) (E:XK):Cx where
 prog:=P
 w:=w
 K:=K
 mg:=mg
 base:=base
 A:=A.deeper (envOfC qual scope s.heap.objs.size f cd)
 N:=N
 s₀:=s
 H₀:=H
 env:=envOfC qual scope s.heap.objs.size f cd
 outer:=outer
 stack:=envOfC qual scope s.heap.objs.size f cd :: outer
 ex:=[]
 calm:=true
 fn:=fun _=>true
 pn:=[]
 xe:=fun e s'=>wpAny (model P w) (A.deeper (envOfC qual scope s.heap.objs.size f cd)) (leaving (envOfC qual scope s.heap.objs.size f cd) e) (fun _ s''=>CX outer H s E e s'') (fun e' s''=>CX outer H s E e' s'') s'
theorem lP {sc:Scope} {n:Nat} {x:Str} (h:sc.names.lookup x=some .cell):∃ c,(cellsFrom n sc.names []).lookup x=some c:=by
 have q:=PySem.W.cellsFrom_some sc.names n [] (.inl h)
 exact Option.isSome_iff_exists.mp q
theorem qA {CX:CXT} {P:Program} {w:World} {K:PySem.W.Frag} {mg:Str->Option Value} {base:Heap} {N ps:List Str} {qual:Str} {scope:Scope} {f:Addr} {cd:Value} {A:Around} {outer:List Env} {s s1:Shared} {H:Hp} {E:XK} {us:List Value} {vs:List V}
  (S:aY N ps scope) (hd:A.handled=none) (e0:nH P w K mg base A outer s H) (hl:vs.length=ps.length) (r:aQ vs us)
  (x:InCallC s s.heap.objs.size (bindL (envOfC qual scope s.heap.objs.size f cd).kindOf (ps.zip us) fun _=>none) (cellsFrom (s.heap.objs.size+1) scope.names []) (bindC (envOfC qual scope s.heap.objs.size f cd).kindOf (ps.zip us) fun _=>none) s1):
  Inv (gY CX P w K mg base N qual scope f cd A outer s H E) [] (start N vs) H s1:=by
 have hpl:ps.length<=N.length:=by have:=congrArg List.length S.pre; rw [List.length_take] at this; omega
 obtain ⟨h1,tk,rfl,hk⟩:=x.done
 have noA:∀ b:Addr,b∉(gY CX P w K mg base N qual scope f cd A outer s H E).ex:=fun b z=>absurd (show b∈([]:List Addr) from z) (by simp)
 refine ⟨⟨e0.mod,S.kind,rfl,rfl,Nat.le_refl _,fun y z c h1 h2=>?_,fun y hy=>?_,fun y c _ h=>?_,fun _=>hd,Around.frames_deeper e0.frames,.inr ⟨rfl,rfl⟩,fun b z=>absurd z (noA b),e0.bs,e0.bsz,fun b _ _=>noA b,fun b z=>absurd z (noA b),e0.funs,e0.frf⟩,
  rfl,e0.bare,Un.kept hk,⟨_,x.toInCall.ns,fun i y v h1 h2 h3=>?_⟩,fun y c h=>⟨_,x.cell y c h⟩,e0.hok.fresh (Nat.le_refl _),fun y c h=>?_,fun p hp=>absurd (show p∈([]:List (Addr×Obj)) from hp) (by simp),e0.hok.kept hk,?_⟩
 ·exact name_of_addr x.apart (PySem.mem_of_lookup h1) (PySem.mem_of_lookup h2)
 ·have hy:scope.names.lookup y=some .cell\/scope.names.lookup y=some .free:=hy
  rcases hy with hy | hy
  ·exact lP hy
  ·exact absurd rfl (S.nofree _ (PySem.mem_of_lookup hy))
 ·exact Nat.le_of_lt (x.above y c (PySem.mem_of_lookup h))
 ·have hi:i < vs.length:=by
   unfold start at h2
   by_cases hi:i < vs.length
   ·exact hi
   ·rw [List.getElem?_append_right (by simpa using hi)] at h2
    rw [List.getElem?_replicate] at h2
    split at h2 <;> cases h2
  have ha:vs[i]?=some v:=by
   unfold start at h2
   rw [List.getElem?_append_left (by simpa using hi),List.getElem?_map] at h2
   cases e:vs[i]? with
   | none=>rw [e] at h2; cases h2
   | some a=>rw [e] at h2; cases h2; rfl
  obtain ⟨u,hu,rv⟩:=r.get ha
  have hp:ps[i]?=some y:=by
   rw [<- S.pre,List.getElem?_take_of_lt (by omega)]; exact h1
  have ndP:ps.Nodup:=by rw [<- S.pre]; exact S.nd.sublist (List.take_sublist _ _)
  refine ⟨u,rv,?_⟩
  rcases S.par y (List.mem_of_getElem? hp) with k | k
  ·exact .inl ⟨k,jI ndP hp hu k⟩
  ·obtain ⟨c,e⟩:=lP (n:=s.heap.objs.size+1) k
   refine .inr ⟨.inl k,c,e,?_⟩
   have q:=x.cell y c e
   rw [jJ ndP hp hu (by show scope.names.lookup y≠_; rw [k]; decide)] at q
   exact q
 ·exact e0.hok.fresh (Nat.le_of_lt (x.above y c (PySem.mem_of_lookup h)))
 ·unfold start
  show _=N.length
  rw [List.length_append,List.length_map,List.length_replicate]
  omega
theorem wF {CX:CXT} {P:Program} {w:World} {K:PySem.W.Frag} {mg:Str->Option Value} {base:Heap} {k:Nat} {f:Addr} {name qual:Str} {params:Arguments} {body:List Stmt} {scope:Scope} {dV kV doc pm cdv ct oc:Value} {an od:Option Addr}
  {osl:Array (Option Value)} {N ps:List Str} {sp:Sp} (lk:K.lookup f=some ⟨oc,od,.func (PySem.W.fnOf name qual params body scope dV kV doc pm an cdv ct),osl⟩) (hcd:PySem.W.codeIn K cdv qual=true) (S:aY N ps scope)
  (len:∀ vs H Q E,sp vs H Q E->vs.length=ps.length)
  (hbody:∀ (A:Around) (outer:List Env) (s:Shared) (H:Hp) (vs:List V) (Q:VK) (E:XK),cQ k (A.deeper (envOfC qual scope s.heap.objs.size f cdv))->sp vs H Q E->
   ∃ t,PSs (gY CX P w K mg base N qual scope f cdv A outer s H E) body t/\t { nx:=fun _ H'=>Q .non H',rt:=Q } (start N vs) H):
  aO P w K mg base CX (k+1) f (PySem.W.fnOf name qual params body scope dV kV doc pm an cdv ct) ps sp:=by
 refine ⟨len,fun A outer s H args us vs Q E hr e0 hb r hsp=>?_⟩
 have hl:=len _ _ _ _ hsp
 have KX:K.In s.heap:=e0.mod.kin.keeps fun b o e=>(e0.bs b o e).1
 have lim:s.heap.NoLimit:=e0.mod.nolimit.keeps fun b o e=>(e0.bs b o e).1
 have hkind:∀ y∈ps.zip us,scope.names.lookup y.1=some .local\/(scope.names.lookup y.1=some .cell/\((cellsFrom (s.heap.objs.size+1) scope.names []).lookup y.1).isSome=true):=fun ⟨n,v⟩ hy=>by
  rcases S.par n (List.of_mem_zip hy).1 with q | q
  ·exact .inl q
  ·exact .inr ⟨q,PySem.W.cellsFrom_some _ _ _ (.inl q)⟩
 refine codeAny_call_function hr.depth (KX _ _ lk) rfl S.co S.gen rfl (PySem.W.codeRec_of KX hcd) (hb _ _ _ _ ?_)
 refine wpAny_newFunctionEnv_cells S.kind hkind fun env he s1 x=>?_
 subst he
 refine ⟨lim.keeps x.toInCall.keep,codeAny_func ?_⟩
 obtain ⟨t,ht,hq⟩:=hbody A outer s H vs Q E (hr.deeper _) hsp
 have I:Inv (gY CX P w K mg base N qual scope f cdv A outer s H E) [] (start N vs) H s1:=qA S hr.hd e0 hl r x
 refine wpAny_mono (ht [] s1 (start N vs) H _ I hq) (fun fl s' hs=>?_) fun e s' hs=>hs
 have fin:∀ {σ':St} {H':Hp} {v:V} {u:Value},Inv (gY CX P w K mg base N qual scope f cdv A outer s H E) [] σ' H' s'->RelV v u->Q v H'->CE outer P w H s Q u s':=
  fun {σ' H' v u} J rv q=>⟨v,H',J.os,J.bare,J.base,J.hok,rv,q⟩
 cases fl with
 | ret u=>
  obtain ⟨v,σ',H',J,rv,q⟩:=hs
  exact fin J rv q
 | next=>
  obtain ⟨σ',H',J,q⟩:=hs
  exact fin (v:=V.non) (u:=Value.none) J rfl q
 | brk=>
  obtain ⟨_,_,_,q⟩:=hs
  exact False.elim q
 | cont=>
  obtain ⟨_,_,_,q⟩:=hs
  exact False.elim q
end L2
namespace L2
open PySem PySem.Spec PyProof.Rows
section
variable {X:Cx} {x:Str} {p pos:Pos} {e:Expr} {es:List Expr} {t:TA} {id T:String} {r:List V->Hp->VK->Prop}
def tCB (r:List V->Hp->VK->Prop) (t:TA):TE:=fun σ H Q=>t σ H fun vs H1=>r vs H1 Q
theorem iC (hc:eI X (.builtin id) r) (hg:Gl X x) (hm:X.mg x=none) (hv:bootBuiltins x=some (.builtin id)) (ha:PA X (e :: es) t) (hn:x≠"__name__" := by decide) (hdb:(x == ("__debug__" : Str))=false:=by decide)
  (he:starEach (e :: es) X.env=(false,eval e X.env) :: starEach es X.env:=by rfl) (hpl:(backTo pos (starEach es X.env)).any (·.1)=false:=by rfl):PE X (.Call (.Name x p) (e :: es) [] pos) (tCB r t):=by
 intro pins s σ H Q I h
 refine wpAny_Call_Name_kw (mW I hg hm hv ?_ hn hdb)
 exact PyProof.Rows.callWith_builtin1 (thn (ha pos pins s σ H _ I h) fun us s1 ⟨vs,H1,I1,r1,q1⟩=>hc pins s1 σ H1 vs us Q I1 r1 q1) he hpl
end
end L2
namespace HT
open PySem PyProof.Rows
section
open PySem.SeqAt
open PySem.AutoSeq1 (wpAny_loadPart')
open PySem.MeetsSeq PySem.MeetsSeq2 PySem.MeetsSeq3
end
section
variable {prog:Program} {w:World} {A:Around} {E:Value->Shared->Prop} {s:Shared}
theorem cat_tup {t b:Addr} {vs ws:List Value} {Q:Value->Shared->Prop} (ht:IsTup s.heap t vs.toArray) (hb:IsTup s.heap b ws.toArray) (hv:vs≠[])
  (h1:ws=[]->Q (.ref t) s) (h2:ws≠[]->Q (.ref s.heap.objs.size) { s with heap:=s.heap.push { cls:=.type "tuple",data:=.seq (vs++ws).toArray } })
  (hsz:vs.length+ws.length<=sizeLine):wpAny (model prog w) A (binaryOp .Add (.ref t) (.ref b)) Q E s:=by
 obtain ⟨⟨cls,dd,data,sl⟩,ho,hc,n,hd⟩:=id ht
 obtain ⟨⟨cls2,dd2,data2,sl2⟩,ho2,hc2,n2,hd2⟩:=id hb
 simp only at hc hd hc2 hd2
 subst hc hd hc2 hd2
 have e:vs.toArray++ws.toArray=(vs++ws).toArray:=by simp
 by_cases hw:ws=[]
 ·exact concat_meets ⟨_,ho,rfl⟩ ⟨_,ho2,rfl⟩ noFill_tuple_add seq_tuple_add PySem.F.slot_tuple_add PySem.F.entry_tuple_add (PySem.F.args_tuple_add_2 _ _)
   (tuple_addW1 t b vs.toArray ws.toArray n n2 dd dd2 sl sl2 (by simpa using hv) (by simp [hw])) ⟨ho,ho2,h1 hw⟩
 ·refine concat_meets ⟨_,ho,rfl⟩ ⟨_,ho2,rfl⟩ noFill_tuple_add seq_tuple_add PySem.F.slot_tuple_add PySem.F.entry_tuple_add (PySem.F.args_tuple_add_2 _ _)
   (tuple_addW2 t b vs.toArray ws.toArray n n2 dd dd2 sl sl2 (by simpa using hv) (by simpa using hw) (by rw [List.size_toArray,List.size_toArray]; exact hsz)) ⟨ho,ho2,?_⟩
  rw [e]
  exact h2 hw
def sIx (n d:Nat):Option Int->Nat
 | none=>d
 | some v=>if v < 0 then (v+(n:Int)).toNat else min v.toNat n
theorem yE (n d:Nat) (hd:d<=n) (o:Option Int):sIx n d o<=n:=by
 cases o with
 | none=>exact hd
 | some v=>
  show (if v < 0 then (v+(n:Int)).toNat else min v.toNat n)<=n
  by_cases hv:v < 0
  ·rw [if_pos hv]; omega
  ·rw [if_neg hv]; exact Nat.min_le_right _ _
theorem oI (v:Int) (n d:Nat):(if v < 0 then max (v+(n:Int)) 0 else min v (n:Int))=((sIx n d (some v):Nat):Int):=by
 show (if v < 0 then max (v+(n:Int)) 0 else min v (n:Int))=(((if v < 0 then (v+(n:Int)).toNat else min v.toNat n):Nat):Int)
 by_cases hv:v < 0
 ·simp only [if_pos hv]; omega
 ·simp only [if_neg hv]; omega
theorem nJ (lo hi:Option Int) (n:Nat):Builtin.Slice.sliceAdjust lo hi 1 (n:Int)=(((sIx n 0 lo:Nat):Int),((sIx n n hi:Nat):Int)):=by
 have h1:¬ ((1:Int) < 0):=by omega
 unfold Builtin.Slice.sliceAdjust
 simp only [h1,if_false]
 refine Prod.ext ?_ ?_
 ·cases lo with
  | none=>rfl
  | some v=>exact oI v n 0
 ·cases hi with
  | none=>rfl
  | some v=>exact oI v n n
theorem nK (i j:Nat):Builtin.Slice.slicePlaces (i:Int) (j:Int) 1=j - i:=by
 unfold Builtin.Slice.slicePlaces
 have h1:(1:Int) > 0:=by omega
 simp only [h1,if_true,Int.ediv_one]
 split <;> omega
theorem iD {v:Value} {o:Option Int} {Q:Option Int->Shared->Prop} (p:IsPart v o) (h:Q o s):wpAny (model prog w) A (Builtin.Slice.slicePartIndex v) Q E s:=by
 cases p with
 | none=>exact slicePart_none h
 | int i t=>exact slicePart_int h
theorem sliceApplied_gen {sl:Addr} {vl vu:Value} {lo hi:Option Int} {n:Nat} {Q:Int×Int×Nat->Shared->Prop} (hs:s.heap.IsSliceOf sl vl vu .none) (pl:IsPart vl lo) (pu:IsPart vu hi)
  (h:Q (((sIx n 0 lo:Nat):Int),1,sIx n n hi - sIx n 0 lo) s):wpAny (model prog w) A (Builtin.Slice.sliceApplied (.ref sl) (pure (n:Int))) Q E s:=by
 obtain ⟨os,hos,hcs,hds⟩:=id hs
 unfold Builtin.Slice.sliceApplied Builtin.Slice.sliceFields
 refine wpAny_bind (wpAny_bind (wpAny_field hos hds (x:=vl) rfl (wpAny_bind (wpAny_field hos hds (x:=vu) rfl (wpAny_bind (wpAny_field hos hds (x:=.none) rfl (wpAny_pure ?_)))))))
 refine wpAny_bind (slicePart_none ?_)
 show wpAny _ _ (if ((1:Int) == 0)=true then _ else _) _ _ s
 rw [if_neg (by decide)]
 refine wpAny_bind (iD pl (wpAny_bind (iD pu (wpAny_bind (wpAny_pure ?_)))))
 show wpAny _ _ (match Builtin.Slice.sliceAdjust lo hi 1 (n:Int) with | (lo,hi)=>pure (lo,(1:Int),Builtin.Slice.slicePlaces lo hi 1)) _ _ s
 rw [nJ lo hi n]
 show wpAny _ _ (pure (((sIx n 0 lo:Nat):Int),(1:Int),Builtin.Slice.slicePlaces ((sIx n 0 lo:Nat):Int) ((sIx n n hi:Nat):Int) 1)) _ _ s
 rw [nK]
 exact wpAny_pure h
theorem rK (xs:Array Value) (i k:Nat):((List.range k).filterMap fun (m:Nat)=>xs[((i:Int)+(m:Int)*1).toNat]?).toArray=((xs.toList.drop i).take k).toArray:=by
 have e:(fun (m:Nat)=>xs[((i:Int)+(m:Int)*1).toNat]?)=fun m=>xs[i+m]?:=by
  funext m
  have:((i:Int)+(m:Int)*1).toNat=i+m:=by omega
  rw [this]
 rw [e]
 have:=pick_run xs i k
 rw [List.filterMap_map] at this
 have e2:((fun x=>xs[x]?) ∘ fun x=>i+x)=fun m=>xs[i+m]?:=rfl
 rw [e2] at this
 rw [this]
theorem getItem_tuple_cut {t sl:Addr} {items:Array Value} {vl vu:Value} {lo hi:Option Int} {Q:Value->Shared->Prop} (ht:IsTup s.heap t items) (hs:s.heap.IsSliceOf sl vl vu .none) (pl:IsPart vl lo) (pu:IsPart vu hi)
  (hw:¬ (sIx items.size 0 lo=0/\sIx items.size items.size hi=items.size))
  (h:Q (.ref s.heap.objs.size) { s with heap:=s.heap.push { cls:=.type "tuple",data:=.seq ((items.toList.drop (sIx items.size 0 lo)).take (sIx items.size items.size hi - sIx items.size 0 lo)).toArray } })
  (hsz:items.size<=sizeLine):wpAny (model prog w) A (getItem (.ref t) (.ref sl)) Q E s:=by
 have htake:sizeOk (.seq ((items.toList.drop (sIx items.size 0 lo)).take (sIx items.size items.size hi - sIx items.size 0 lo)).toArray):=by
  show ((items.toList.drop (sIx items.size 0 lo)).take (sIx items.size items.size hi - sIx items.size 0 lo)).toArray.size<=sizeLine
  rw [List.size_toArray,List.length_take,List.length_drop,Array.length_toList]
  omega
 have hj:sIx items.size items.size hi<=items.size:=yE _ _ (Nat.le_refl _) hi
 obtain ⟨os,hos,hcs,hds⟩:=id hs
 have hTs:s.TypeIs (.ref sl) "slice" := ⟨os,hos,hcs⟩
 unfold getItem
 try with_reducible refine wpAny_holding ?_
 first | refine wpAny_bind (wpAny_pure ?_) | skip
 refine wpAny_bind (wpAny_sequenceKey ht.typeIs (by decide) ?_)
 refine wpAny_bind (wpAny_callSpecial?_slot (name:=Str.ofString "__getitem__") ht.typeIs PyProof.Rows.slot_tuple_getitem
  (wpAny_call_entry PyProof.Rows.slot_tuple_getitem ht.typeIs entry_tuple_getitem ?_ (args_tuple_getitem _ _)))
 show wpAny _ _ (Builtin.Tuple.tupleItemsOf (.ref t) >>= _) _ _ s
 refine wpAny_bind (tupleItemsOf_ ht ?_)
 refine wpAny_bind (wpAny_typeOf hTs ?_)
 rw [if_pos (by decide)]
 refine wpAny_bind (sliceApplied_gen hs pl pu ?_)
 have hno:¬ ((((sIx items.size 0 lo:Nat):Int) == 0 && (1:Int) == 1 && (sIx items.size items.size hi - sIx items.size 0 lo) == items.size)=true):=by
  intro q
  rw [Bool.and_eq_true,Bool.and_eq_true] at q
  have q1:((sIx items.size 0 lo:Nat):Int)=0:=eq_of_beq q.1.1
  have q2:sIx items.size items.size hi - sIx items.size 0 lo=items.size:=eq_of_beq q.2
  exact hw ⟨by omega,by omega⟩
 show wpAny _ _ (if (((sIx items.size 0 lo:Nat):Int) == 0 && (1:Int) == 1 && (sIx items.size items.size hi - sIx items.size 0 lo) == items.size)=true then _ else _) _ _ s
 rw [if_neg hno,rK]
 first
  | exact wpAny_bind (m:=Builtin.Tuple.tupleExact _) (wpAny_newObj_type (wpAny_pure ⟨_,rfl,wpAny_pure h⟩) htake)
  | exact wpAny_bind (m:=Builtin.Tuple.tupleExact _) (wpAny_newObj_type (wpAny_bind (wpAny_pure (wpAny_pure ⟨_,rfl,wpAny_pure h⟩))) htake)
  | exact wpAny_bind (wpAny_bind (m:=Builtin.Tuple.tupleExact _) (wpAny_newObj_type (wpAny_pure (wpAny_pure ⟨_,rfl,wpAny_pure h⟩)) htake))
  | exact wpAny_bind (wpAny_bind (m:=Builtin.Tuple.tupleExact _) (wpAny_newObj_type (wpAny_pure ⟨_,rfl,wpAny_pure h⟩) htake))
end
end HT
namespace L2
open PySem PySem.Spec PyProof.Rows
abbrev TO:=St->Hp->(Option Int->Hp->Prop)->Prop
def PO (X:Cx) (e:Option Expr) (t:TO):Prop:=
 ∀ (pins:List (Addr×Obj)) (s:Shared) (σ:St) (H:Hp) (Q:Option Int->Hp->Prop),Inv X pins σ H s->t σ H Q->
  wpAny (model X.prog X.w) X.A (evalPart e X.env) (fun u s'=>∃ o H',Inv X pins σ H' s'/\IsPart u o/\Q o H') X.xe s
def uE:TO:=fun _ H Q=>Q none H
section
variable {X:Cx} {e:Expr} {te:TE} {lo hi:Option Expr} {tl th:TO} {pos p2:Pos}
theorem uF:PO X none uE:=by
 intro pins s σ H Q I h
 rw [evalPart_none]
 exact wpAny_pure ⟨none,H,I,.none,h⟩
def SlR (X:Cx) (r:V->Option Int->Option Int->Hp->VK->Prop):Prop:=
 ∀ (pins:List (Addr×Obj)) (s:Shared) (σ:St) (H:Hp) (x:V) (v vl vu:Value) (lo hi:Option Int) (sl:Addr) (Q:VK),Inv X pins σ H s->RelV x v->s.heap.IsSliceOf sl vl vu .none->IsPart vl lo->IsPart vu hi->r x lo hi H Q->
  ∃ T id,typeLookup (.type T) "__getitem__" = pure (some (.builtin id))/\s.TypeIs v T/\wpAny (model X.prog X.w) X.A (getItem v (.ref sl)) (EP X pins σ Q) X.xe s
theorem SlR.or {r r':V->Option Int->Option Int->Hp->VK->Prop} (h:SlR X r) (h':SlR X r'):SlR X (fun x lo hi H Q=>r x lo hi H Q\/r' x lo hi H Q):=by
 intro pins s σ H x v vl vu lo hi sl Q I rx hs pl pu q
 rcases q with q | q
 ·exact h pins s σ H x v vl vu lo hi sl Q I rx hs pl pu q
 ·exact h' pins s σ H x v vl vu lo hi sl Q I rx hs pl pu q
def tSl (r:V->Option Int->Option Int->Hp->VK->Prop) (te:TE) (tl th:TO):TE:=fun σ H Q=>te σ H fun x H1=>tl σ H1 fun l H2=>th σ H2 fun u H3=>r x l u H3 Q
theorem rN {r:V->Option Int->Option Int->Hp->VK->Prop} (hr:SlR X r) (he:PE X e te) (hl:PO X lo tl) (hu:PO X hi th):PE X (.Subscript e (.Slice lo hi none p2) pos) (tSl r te tl th):=by
 intro pins s σ H Q I h
 refine Subscript_ (thn (he pins s σ H _ I h) fun v s1 hz=>?_)
 obtain ⟨x,H1,I1,r1,q1⟩:=hz
 refine wpAny_Slice (thn (hl pins s1 σ H1 _ I1 q1) fun vl s2 ⟨l,H2,I2,pl,q2⟩=>thn (hu pins s2 σ H2 _ I2 q2) fun vu s3 hz=>?_)
 obtain ⟨u,H3,I3,pu,q3⟩:=hz
 rw [evalPart_none]
 refine wpAny_pure ?_
 have I4:Inv X pins σ H3 { s3 with heap:=s3.heap.push { cls:=.type "slice",data:=.fields #[vl,vu,.none] } }:=I3.kept (t':=s3.toks) fun b ob q=>Heap.get?_push_of_some _ q
 obtain ⟨T,id,hT,ht,hg⟩:=hr pins { s3 with heap:=s3.heap.push { cls:=.type "slice",data:=.fields #[vl,vu,.none] } } σ H3 x v vl vu l u s3.heap.objs.size Q I4 r1 (Heap.IsSliceOf.new ..) pl pu q3
 show wpAny (model X.prog X.w) X.A (subscriptTail e (.Slice lo hi none p2) v (.ref s3.heap.objs.size)) (EP X pins σ Q) X.xe { s3 with heap:=s3.heap.push { cls:=.type "slice",data:=.fields #[vl,vu,.none] } }
 exact tail_any (ops:=[.ref s3.heap.objs.size,v]) ht hT hg (by with_unfolding_all rfl)
def lQ (xs:List V) (lo hi:Option Int):List V:=(xs.drop (HT.sIx xs.length 0 lo)).take (HT.sIx xs.length xs.length hi - HT.sIx xs.length 0 lo)
theorem gM (xs:List V) (lo hi:Option Int):(lQ xs lo hi).length<=xs.length:=by
 unfold lQ
 rw [List.length_take,List.length_drop]
 omega
def Ay (K:PySem.W.Frag):V->Option Int->Option Int->Hp->VK->Prop:=fun x lo hi H Q=>∃ a xs,x=.ref a/\SqT K H a xs/\
 ¬ (HT.sIx xs.length 0 lo=0/\HT.sIx xs.length xs.length hi=xs.length)/\∀ p,H p=none->Q (.ref p) (upd H p (.tup (lQ xs lo hi)))
theorem yF:SlR X (Ay X.K):=by
 intro pins s σ H x v vl vu lo hi sl Q I rx hs pl pu h
 obtain ⟨a,xs,rfl,hx,hw,q⟩:=h
 cases rx
 obtain ⟨its,r,ht,hz⟩:=I.tuple hx
 have hlen:its.toArray.size=xs.length:=by rw [List.size_toArray]; exact r.length.symm
 refine ⟨"tuple",_,PyProof.Rows.slot_tuple_getitem.lookup,ht.typeIs,?_⟩
 refine HT.getItem_tuple_cut ht hs pl pu (by rw [hlen]; exact hw) ?_ (by rw [hlen]; exact hz)
 rw [hlen]
 refine ⟨.ref s.heap.objs.size,_,I.laid (t':=s.toks) (o:=.tup (lQ xs lo hi)) (fun b ob q=>Heap.get?_push_of_some _ q) (Nat.le_refl _) ?_,rfl,q _ (I.hok.fresh (Nat.le_refl _))⟩
 exact ⟨Nat.le_trans (gM xs lo hi) hz,_,(r.drop (HT.sIx xs.length 0 lo)).take (HT.sIx xs.length xs.length hi - HT.sIx xs.length 0 lo),jB.new _ _⟩
def wG (K:PySem.W.Frag):R2:=fun x y H Q=>∃ a b xs ys,x=.ref a/\y=.ref b/\SqT K H a xs/\SqT K H b ys/\xs≠[]/\xs.length+ys.length<=sizeLine/\
 (ys=[]->Q (.ref a) H)/\(ys≠[]->∀ p,H p=none->Q (.ref p) (upd H p (.tup (xs++ys))))
theorem aQ.nil_iff {xs:List V} {us:List Value} (r:aQ xs us):us=[] ↔ xs=[]:=by
 cases r with
 | nil=>simp
 | cons _ _=>simp
theorem uG:OpR X (binaryOp .Add) (wG X.K):=by
 intro pins s σ H x y v u Q I rx ry h
 obtain ⟨a,b,xs,ys,rfl,rfl,ha,hb,hx,hz,q1,q2⟩:=h
 cases rx
 cases ry
 obtain ⟨its,r1,p1,_⟩:=I.tuple ha
 obtain ⟨its2,r2,p2,_⟩:=I.tuple hb
 refine HT.cat_tup p1 p2 (fun z=>hx (r1.nil_iff.mp z)) (fun z=>⟨.ref a,H,I,rfl,q1 (r2.nil_iff.mp z)⟩) (fun z=>?_) (by rw [<- r1.length,<- r2.length]; exact hz)
 refine ⟨.ref s.heap.objs.size,_,I.laid (t':=s.toks) (o:=.tup (xs++ys)) (fun b ob q=>Heap.get?_push_of_some _ q) (Nat.le_refl _) ?_,rfl,q2 (fun w=>z (r2.nil_iff.mpr w)) _ (I.hok.fresh (Nat.le_refl _))⟩
 exact ⟨by rw [List.length_append]; exact hz,_,r1.append r2,jB.new _ _⟩
end
end L2
namespace L2
open PySem PySem.Spec PyProof.Rows
def ixN (n:Nat) (i:Int):Option Nat:=if 0<=i then (if i < n then some i.toNat else none) else if -(n:Int)<=i then some (i+n).toNat else none
def atI {α:Type} (xs:List α) (i:Int):Option α:=(ixN xs.length i).bind fun j=>xs[j]?
theorem uH {n:Nat} {i:Int} {j:Nat} (h:ixN n i=some j):seqIndex? i n=some j/\j < n/\-(n:Int)<=i/\i < n:=by
 unfold ixN at h
 by_cases h0:0<=i
 ·rw [if_pos h0] at h
  by_cases h1:i < n
  ·rw [if_pos h1] at h
   have e:i.toNat=j:=Option.some.inj h
   exact ⟨by rw [seqIndex_of h0 h1,e],by omega,by omega,h1⟩
  ·rw [if_neg h1] at h; cases h
 ·rw [if_neg h0] at h
  by_cases h1:-(n:Int)<=i
  ·rw [if_pos h1] at h
   have e:(i+n).toNat=j:=Option.some.inj h
   exact ⟨by rw [seqIndex_neg (by omega) h1,e],by omega,h1,by omega⟩
  ·rw [if_neg h1] at h; cases h
theorem kG {α:Type} {xs:List α} {i:Int} {v:α} (h:atI xs i=some v):∃ j,seqIndex? i xs.length=some j/\xs[j]?=some v/\j < xs.length/\-(xs.length:Int)<=i/\i < xs.length:=by
 unfold atI at h
 cases e:ixN xs.length i with
 | none=>rw [e] at h; cases h
 | some j=>
  rw [e] at h
  obtain ⟨h1,h2,h3,h4⟩:=uH e
  exact ⟨j,h1,h,h2,h3,h4⟩
def kH (b:Expr):Prop:=∀ o i,subscripted b false o i=operate [o,i] (getItem o i)
def IxR (X:Cx) (r:R2):Prop:=
 ∀ (value slice:Expr) (pins:List (Addr×Obj)) (s:Shared) (σ:St) (H:Hp) (x y:V) (v u:Value) (Q:VK),Inv X pins σ H s->RelV x v->RelV y u->r x y H Q->
  subscripted slice false v u=operate [v,u] (getItem v u)->wpAny (model X.prog X.w) X.A (subscriptTail value slice v u) (EP X pins σ Q) X.xe s
def MtR (X:Cx) (id:String) (r:V->List V->Hp->VK->Prop):Prop:=
 ∀ (pins:List (Addr×Obj)) (s:Shared) (σ:St) (H:Hp) (x:V) (xs:List V) (v:Value) (us:List Value) (Q:VK),Inv X pins σ H s->RelV x v->aQ xs us->r x xs H Q->
  wpAny (model X.prog X.w) X.A (call (.builtin id) (v :: us)) (EP X pins σ Q) X.xe s
section
variable {X:Cx} {a b:Expr} {ta tb:TE} {pos:Pos}
theorem IxR.or {r r':R2} (h:IxR X r) (h':IxR X r'):IxR X (fun x y H Q=>r x y H Q\/r' x y H Q):=by
 intro value slice pins s σ H x y v u Q I rx ry q hs
 rcases q with q | q
 ·exact h value slice pins s σ H x y v u Q I rx ry q hs
 ·exact h' value slice pins s σ H x y v u Q I rx ry q hs
theorem Az {r:R2} (hr:IxR X r) (ha:PE X a ta) (hb:PE X b tb) (hs:kH b):PE X (.Subscript a b pos) (tOp r ta tb):=by
 intro pins s σ H Q I h
 exact Subscript_ (xT ha hb I h fun v u s2 x y H2 I2 rx ry q=>hr a b pins s2 σ H2 x y v u Q I2 rx ry q (hs _ _))
def CF (K:PySem.W.Frag):R2:=fun x y H Q=>∃ p xs i v,x=.ref p/\y=.int i/\SqL K H p xs/\atI xs i=some v/\Q v H
def CG (K:PySem.W.Frag):R2:=fun x y H Q=>∃ p xs i v,x=.ref p/\y=.int i/\SqT K H p xs/\atI xs i=some v/\Q v H
def CH:R2:=fun x y H Q=>∃ z i c,x=.str z/\y=.int i/\z.length<=sizeLine/\atI z.cps.toList i=some c/\Q (.str ⟨#[c]⟩) H
theorem uI:IxR X (CF X.K):=by
 intro value slice pins s σ H x y v u Q I rx ry h hs
 obtain ⟨p,xs,i,z,rfl,rfl,hq,he,q⟩:=h
 cases rx
 obtain ⟨t,rfl⟩:=ry
 obtain ⟨its,r,pl,hz⟩:=I.list hq
 obtain ⟨j,h1,h2,h3,h4,h5⟩:=kG he
 obtain ⟨w,ew,rw'⟩:=r.get h2
 have hl:=r.length
 have hn:=gB
 have fin:EP X pins σ Q w s:=⟨z,H,I,rw',q⟩
 by_cases h0:0<=i
 ·have hj:i.toNat=j:=by
   rw [seqIndex_of h0 h5] at h1
   exact Option.some.inj h1
  exact item_listR pl.isList h0 (by omega) (by rw [hj]; simpa using ew) fin hs
 ·have hj:(i+(its.toArray.size:Int)).toNat=j:=by
   rw [seqIndex_neg (by omega) h4] at h1
   rw [List.size_toArray,<- hl]
   exact Option.some.inj h1
  exact subscriptTail_builtinR (x:=w) pl.isList.typeIs slot_list_getitem.lookup
   (wpAny_getItem_list_neg (Q:=fun r s'=>r=w/\EP X pins σ Q r s') pl.isList (by omega) (by rw [List.size_toArray] <;> omega) (by omega) (by rw [hj]; simpa using ew) ⟨rfl,fin⟩) hs
theorem yG:IxR X (CG X.K):=by
 intro value slice pins s σ H x y v u Q I rx ry h hs
 obtain ⟨p,xs,i,z,rfl,rfl,hq,he,q⟩:=h
 cases rx
 obtain ⟨t,rfl⟩:=ry
 obtain ⟨its,r,pl,hz⟩:=I.tuple hq
 obtain ⟨j,h1,h2,h3,h4,h5⟩:=kG he
 obtain ⟨w,ew,rw'⟩:=r.get h2
 have hl:=r.length
 have hn:=gB
 have fin:EP X pins σ Q w s:=⟨z,H,I,rw',q⟩
 exact subscriptTail_builtinR (x:=w) pl.typeIs slot_tuple_getitem.lookup
  (getItem_tuple (j:=j) (Q:=fun r s'=>r=w/\EP X pins σ Q r s') pl (by omega) (by omega) (by rw [List.size_toArray,<- hl]; exact h1) (by simpa using ew) ⟨rfl,fin⟩) hs
theorem yH:IxR X CH:=by
 intro value slice pins s σ H x y v u Q I rx ry h hs
 obtain ⟨z,i,c,rfl,rfl,hz,he,q⟩:=h
 obtain ⟨t,rfl⟩:=rx
 obtain ⟨t',rfl⟩:=ry
 obtain ⟨j,h1,h2,h3,h4,h5⟩:=kG he
 have hl:z.cps.toList.length=z.length:=by simp [Str.length]
 rw [hl] at h1 h4 h5
 have hn:=gB
 exact tail_any (typeIs_str s z t) slot_str_getitem.lookup (getItem_str (c:=c) (by
  have e1:decide (i < -(2 ^ 63:Int))=false:=decide_eq_false (by omega)
  have e2:decide (i >= 2 ^ 63)=false:=decide_eq_false (by omega)
  rw [e1,e2,Bool.or_false]) (by rw [h1]; simpa using h2) ⟨.str ⟨#[c]⟩,H,I.tok _,⟨_,rfl⟩,q⟩) hs
theorem kI (lo hi:Option Int) (n:Nat):(sliceBounds lo hi none n).1=((HT.sIx n 0 lo:Nat):Int)/\(sliceBounds lo hi none n).2.1=((HT.sIx n n hi:Nat):Int)/\(sliceBounds lo hi none n).2.2=1:=by
 refine ⟨?_,?_,rfl⟩
 ·cases lo with
  | none=>simp [sliceBounds,HT.sIx]
  | some i=>
   simp only [sliceBounds,HT.sIx,Option.getD_none,show (1:Int) > 0 by decide,if_true]
   by_cases h:i < 0
   ·simp only [h,if_true] <;> omega
   ·simp only [h,if_false] <;> omega
 ·cases hi with
  | none=>simp [sliceBounds,HT.sIx]
  | some i=>
   simp only [sliceBounds,HT.sIx,Option.getD_none,show (1:Int) > 0 by decide,if_true]
   by_cases h:i < 0
   ·simp only [h,if_true] <;> omega
   ·simp only [h,if_false] <;> omega
theorem jC (its:List Value) (lo hi:Option Int):slicePick its.toArray lo hi none=((its.drop (HT.sIx its.length 0 lo)).take (HT.sIx its.length its.length hi - HT.sIx its.length 0 lo)).toArray:=by
 obtain ⟨h1,h2,h3⟩:=kI lo hi its.toArray.size
 unfold slicePick
 rw [h1,h2,h3]
 simp only [sliceRange_one,pick_run,List.size_toArray] <;> rfl
def AA (K:PySem.W.Frag):V->Option Int->Option Int->Hp->VK->Prop:=fun x lo hi H Q=>∃ a xs,x=.ref a/\SqL K H a xs/\∀ p,H p=none->Q (.ref p) (upd H p (.lst (lQ xs lo hi)))
theorem uJ:SlR X (AA X.K):=by
 intro pins s σ H x v vl vu lo hi sl Q I rx hs pl pu h
 obtain ⟨a,xs,rfl,hx,q⟩:=h
 cases rx
 obtain ⟨its,r,ht,hz⟩:=I.list hx
 have hlen:=r.length
 refine ⟨"list",_,slot_list_getitem.lookup,ht.isList.typeIs,?_⟩
 refine wpAny_getItem_list_slice ht.isList hs pl pu .none (by simp) ?_ (by rw [List.size_toArray] <;> omega)
 rw [jC,<- hlen]
 refine ⟨.ref s.heap.objs.size,_,I.laid (t':=s.toks) (o:=.lst (lQ xs lo hi)) (fun b ob q=>Heap.get?_push_of_some _ q) (Nat.le_refl _) ?_,rfl,q _ (I.hok.fresh (Nat.le_refl _))⟩
 exact ⟨Nat.le_trans (gM xs lo hi) hz,_,0,(r.drop (HT.sIx xs.length 0 lo)).take (HT.sIx xs.length xs.length hi - HT.sIx xs.length 0 lo),Heap.get?_push_size _ rfl⟩
theorem kJ:eI X (.builtin "len") (fun xs H Q=>∃ p ys,xs=[.ref p]/\(SqL X.K H p ys\/SqT X.K H p ys)/\Q (.int ys.length) H):=by
 intro pins s σ H xs us Q I r h
 obtain ⟨p,ys,rfl,hq,q⟩:=h
 obtain ⟨u,rfl,rx⟩:=vals1 r
 cases rx
 have hn:=gB
 rcases hq with hq | hq
 ·obtain ⟨its,r',pl,hz⟩:=I.list hq
  have hlen:=r'.length
  exact Calls.call_len_list pl.isList (by simp only [List.size_toArray] <;> omega) ⟨.int ys.length,H,I.tok _,⟨s.toks+1,by rw [List.size_toArray,hlen]⟩,q⟩
 ·obtain ⟨its,r',pl,hz⟩:=I.tuple hq
  have hlen:=r'.length
  exact len_tuple pl (by simp only [List.size_toArray] <;> omega) ⟨.int ys.length,H,I.tok _,⟨s.toks+1,by rw [List.size_toArray,hlen]⟩,q⟩
def tyV (K:PySem.W.Frag) (T:String) (x:V) (H:Hp):Prop:=match x with
 | .str _=>T="str"
 | .int _=>T="int"
 | .ref p=>(T="list" /\ ∃ xs,SqL K H p xs)\/(T="tuple" /\ ∃ o,K.lookup p=some o/\o.cls=.type "tuple" /\ o.dict=none)\/
   (T="dict" /\ ((∃ kvs,H p=some (.dK kvs))\/∃ kvs,H p=some (.dT kvs)))\/(T="set" /\ ∃ S n,H p=some (.set S n))
 | _=>False
theorem yI {pins:List (Addr×Obj)} {σ:St} {H:Hp} {s:Shared} {T:String} {x:V} {v:Value} (I:Inv X pins σ H s) (r:RelV x v) (ty:tyV X.K T x H):
  s.TypeIs v T/\∀ a,v=.ref a->∃ ob,s.heap.get? a=some ob/\ob.dict=none:=by
 cases x with
 | str z=>
  obtain ⟨t,rfl⟩:=r
  cases (show T="str" from ty)
  exact ⟨typeIs_str s z t,fun _ e=>nomatch e⟩
 | int i=>
  obtain ⟨t,rfl⟩:=r
  cases (show T="int" from ty)
  exact ⟨typeIs_int s i t,fun _ e=>nomatch e⟩
 | ref p=>
  cases r
  rcases ty with ⟨rfl,xs,hq⟩ | ⟨rfl,o,hk,hc,hd⟩ | ⟨rfl,hk⟩ | ⟨rfl,S,n,hk⟩
  ·obtain ⟨its,_,pl,_⟩:=I.list hq
   refine ⟨pl.isList.typeIs,fun a e=>?_⟩
   cases e
   obtain ⟨o,n,e,c,hd,_⟩:=pl
   exact ⟨o,e,hd⟩
  ·refine ⟨⟨o,I.kIn p o hk,hc⟩,fun a e=>?_⟩
   cases e
   exact ⟨o,I.kIn _ o hk,hd⟩
  ·have z:∃ o,s.heap.get? p=some o/\o.ExactDict:=by
    rcases hk with ⟨kvs,hk⟩ | ⟨kvs,hk⟩
    ·obtain ⟨_,_,_,_,o,_,_,e,ex,_⟩:=I.hok p _ hk
     exact ⟨o,e,ex⟩
    ·obtain ⟨_,_,_,_,o,_,_,e,ex,_⟩:=I.hok p _ hk
     exact ⟨o,e,ex⟩
   obtain ⟨o,e,ex⟩:=z
   refine ⟨⟨o,e,ex.1⟩,fun a e2=>?_⟩
   cases e2
   exact ⟨o,e,ex.2.1⟩
  ·obtain ⟨o,_,_,_,e,ex,_⟩:=I.hok p _ hk
   refine ⟨⟨o,e,ex.1⟩,fun a e2=>?_⟩
   cases e2
   exact ⟨o,e,ex.2.1⟩
 | _=>exact False.elim ty
def tBM (K:PySem.W.Frag) (T:String) (r:V->List V->Hp->VK->Prop) (to:TE) (t:TA):TE:=fun σ H Q=>to σ H fun x H1=>tyV K T x H1/\t σ H1 fun xs H2=>r x xs H2 Q
variable {o e:Expr} {es:List Expr} {to:TE} {t:TA} {name:Str} {apos cpos:Pos} {T id:String} {r:V->List V->Hp->VK->Prop}
theorem AB (pa:PlainAttrs T) (slot:Slot T name id) (hty:typeOf (.builtin id)=pure (.type "method_descriptor")) (hm:MtR X id r) (ho:PE X o to) (ha:PA X (e :: es) t)
  (hbase:attributeBase o name X.env (eval o X.env)=eval o X.env:=by rfl)
  (hfew:((backTo cpos (starEach (e :: es) X.env)).all (fun x=>!x.1) && (backToKw cpos (keywordEach [] X.env)).all (fun x=>x.1.isSome)
   && decide ((e :: es).length+([]:List Keyword).length+(if ([]:List Keyword).isEmpty then 0 else 1) < 30))=true:=by rfl)
  (hline:(apos.endLine == cpos.line)=true:=by rfl) (hs:starEach (e :: es) X.env=(false,eval e X.env) :: starEach es X.env:=by rfl) (hplain:(backTo cpos (starEach es X.env)).any (·.1)=false:=by rfl):
  PE X (.Call (.Attribute o name apos) (e :: es) [] cpos) (tBM X.K T r to t):=by
 intro pins s σ H Q I h
 refine wpAny_Call_method_late hbase hfew hline rfl (thn (ho pins s σ H _ I h) fun v s1 hz=>?_)
 obtain ⟨x,H1,I1,r1,ty,q1⟩:=hz
 obtain ⟨h1,h2⟩:=yI I1 r1 ty
 refine ⟨T,id,pa,slot,hty,h1,h2,?_⟩
 have hA:=ha cpos pins s1 σ H1 _ I1 q1
 rw [hs] at hA ⊢
 refine Calls.callWith_builtin (by show (false || (backTo cpos (starEach es X.env)).any (·.1))=false; rw [hplain] <;> rfl) (Calls.evalArgs_plain ?_)
 exact thn hA fun us s2 ⟨vs,H2,I2,r2,q2⟩=>hm pins s2 σ H2 x vs v us Q I2 r1 r2 q2
end
end L2
namespace L2
open PySem PySem.Spec PyProof.Rows
def MtM (X:Cx) (id:String) (r:V->List V->Hp->VK->Prop):Prop:=
 ∀ (pins:List (Addr×Obj)) (s:Shared) (σ:St) (H:Hp) (x:V) (xs:List V) (v:Value) (us:List Value) (Q:VK),Inv X pins σ H s->RelV x v->aQ xs us->r x xs H Q->
  wpAny (model X.prog X.w) X.A (call (.builtin id) (v :: us)) (EP X pins σ Q) X.xe s
theorem aQ.one:∀ {x:V} {us:List Value},aQ [x] us->∃ u,us=[u]/\RelV x u
 | _,_,.cons r .nil=>⟨_,rfl,r⟩
section
variable {X:Cx} {pins:List (Addr×Obj)} {σ:St} {H:Hp} {s:Shared} {l b:Addr} {xs ys zs:List V}
theorem Inv.lset {its its':List Value} {n:Nat} {f:Array Value->Array Value} {t':Nat} (I:Inv X pins σ H s) (hH:H l=some (.lst xs))
  (e:s.heap.get? l=some { cls:=.type "list",data:=.seq its.toArray n }) (hf:f its.toArray=its'.toArray) (hv:aQ ys its') (hz:ys.length<=sizeLine):
  Inv X pins σ (upd H l (.lst ys)) { s with heap:=s.heap.update l (Obj.mapSeq f),toks:=t' }:=by
 have q:=PySem.IsL.update e f
 rw [hf] at q
 refine I.write (x:=l) (e:=l) (by rw [hH]; exact trivial) (.inl rfl) (fun b' u hb hu=>(Heap.get?_update_other s.heap (Obj.mapSeq f) (Ne.symm hb)).trans hu) ⟨_,q⟩ ?_
 exact ⟨hz,its',_,hv,q⟩
theorem Inv.lnew {its:List Value} {t':Nat} (I:Inv X pins σ H s) (hv:aQ ys its) (hz:ys.length<=sizeLine):
  Inv X pins σ (upd H s.heap.objs.size (.lst ys)) { s with heap:=s.heap.push { cls:=.type "list",data:=.seq its.toArray },toks:=t' }:=
 I.laid (fun _ _ q=>Heap.get?_push_of_some _ q) (Nat.le_refl _) ⟨hz,its,0,hv,Heap.get?_push_size _ rfl⟩
theorem Inv.fresh (I:Inv X pins σ H s):H s.heap.objs.size=none:=I.hok.fresh (Nat.le_refl _)
theorem Inv.lstM (I:Inv X pins σ H s) (hH:H l=some (.lst xs)):xs.length<=sizeLine/\∃ (its:List Value) (n:Nat),aQ xs its/\xs.length=its.length/\s.heap.get? l=some { cls:=.type "list",data:=.seq its.toArray n }:=by
 obtain ⟨z,its,n,r,e⟩:=I.hok l _ hH
 exact ⟨z,its,n,r,r.length,e⟩
end
section
variable {X:Cx}
def oJ:V->List V->Hp->VK->Prop:=fun x vs H Q=>∃ l xs y,x=.ref l/\vs=[y]/\H l=some (.lst xs)/\xs.length < sizeLine/\Q .non (upd H l (.lst (xs++[y])))
theorem qB:MtM X "list.append" oJ:=by
 intro pins s σ H x vs v us Q I rx rv h
 obtain ⟨l,xs,y,rfl,rfl,hH,hz,q⟩:=h
 cases rx
 obtain ⟨u,rfl,ru⟩:=rv.one
 obtain ⟨z,its,n,r,hl,e⟩:=I.lstM hH
 refine call_meets F.slot_list_append ⟨_,e,rfl⟩ F.entry_list_append (F.args_list_append_2 _ _) (PySem.list_append l its.toArray n u (by rw [List.size_toArray]; omega)) ⟨e,?_⟩
 refine ⟨.non,_,I.lset (its':=its++[u]) hH e (by simp) (r.append (.cons ru .nil)) ?_,rfl,q⟩
 rw [List.length_append,List.length_singleton]
 omega
def AC:R2:=fun x y H Q=>∃ l b xs zs,x=.ref l/\y=.ref b/\H l=some (.lst xs)/\H b=some (.lst zs)/\xs.length+zs.length<=sizeLine/\∀ p,H p=none->Q (.ref p) (upd H p (.lst (xs++zs)))
theorem yJ:OpR X (binaryOp .Add) AC:=by
 intro pins s σ H x y v u Q I rx ry h
 obtain ⟨l,b,xs,zs,rfl,rfl,hH,hB,hz,q⟩:=h
 cases rx
 cases ry
 obtain ⟨z,its,n,r,hl,e⟩:=I.lstM hH
 obtain ⟨z2,its2,n2,r2,hl2,e2⟩:=I.lstM hB
 refine PySem.P.add_list e e2 ?_ (by rw [List.size_toArray,List.size_toArray]; omega)
 have ea:its.toArray++its2.toArray=(its++its2).toArray:=by simp
 rw [ea]
 exact ⟨.ref _,_,I.lnew (t':=s.toks) (r.append r2) (by rw [List.length_append]; omega),rfl,q _ I.fresh⟩
end
section
variable {prog:Program} {w:World} {A:Around} {E:Value->Shared->Prop} {s:Shared}
end
section
variable {X:Cx}
end
end L2
namespace Att
open PySem PySem.W PySem.Calls PyProof.Rows
theorem gZ {P:Params} {h:Heap}:∀ (ns:List Int) (vs:List Value),WellAll P h vs (ns.map WData.int)->IntsAre vs ns:=by
 intro ns
 induction ns with
 | nil=>
  intro vs w
  rw [List.map_nil] at w
  cases w
  exact .nil
 | cons n ns ih=>
  intro vs w
  rw [List.map_cons] at w
  cases w with
  | cons a b=>
   cases a
   exact .cons _ _ (ih _ b)
theorem qC {l:OpenLaw} {n:Nat} (hn:l.most=some n) {P:Params} {h:Heap} {args:List WData} {vals:List Value}
  (hpre:l.row.toRowW.claim.pre args=true) (hwl:WellAll P h vals args):
  ∃ a vs ns,vals=[Value.ref a]/\args=[WData.list (ns.map WData.int)]/\h.get? a=some { cls:=.type "list",data:=.seq vs.toArray }/\IntsAre vs ns/\ns.length<=n:=by
 have hsh:WShape.hasAll [] args [.list .int]=true:=(pre_splitW hpre).1
 have hc:l.pre.holds [] { args:=args }=true:=(pre_splitW hpre).2
 obtain ⟨d,r,rfl,h1,h2⟩:=hasAllW_cons hsh
 obtain rfl:=hasAllW_nil h2
 obtain ⟨xs,rfl,h3⟩:=hasW_list h1
 obtain ⟨ns,rfl⟩:=items_int h3
 have hlen:ns.length<=n:=by
  unfold OpenLaw.pre at hc
  have h4:(WTm.not (.lt (.lit (.int (n:Int))) (.len (.arg 0)))).holds [] { args:=[.list (ns.map .int)] }=true:=by
   have h4:=(holds_andW hc).1
   rw [hn] at h4
   exact h4
  have h5:=condW_of h4 (w_not (w_lt w_lit (w_len_list (w_arg rfl))))
  rw [List.length_map] at h5
  refine Nat.le_of_not_lt fun q=>?_
  have q':(n:Int) < ((ns.length:Nat):Int):=by omega
  first
   | (rw [decide_eq_true q'] at h5; exact absurd h5 (by decide))
   | (simp at h5; omega)
 cases hwl with
 | cons w1 w2=>
  cases w2
  cases w1 with
  | list ho hall=>exact ⟨_,_,ns,rfl,rfl,ho,gZ ns _ hall,hlen⟩
theorem qE (l:OpenLaw) (args:List WData):l.row.toRowW.claim.post args (.bool true) args=true:=
 postW_of (r:=l.row.toRowW) (X:=(true == true))
  (show WShape.has [] (.bool true) .bool=true by first | rfl | decide | simp [WShape.has,WShape.arms,WShape.armsAll])
  (show (WTm.eq .res (.lit (.bool true))).value [] { args:=args,res:=some (.bool true),after:=args }=some (.bool (true == true)) from w_eq_bool (w_res rfl) w_lit) rfl
theorem attach_call {l:OpenLaw} {n:Nat} {q:Program} {loose:List Str} {XP:(Str->Option Value)->Heap->Prop} {YP:World->Heap->Prop} {d:DefRec}
  (hn:l.most=some n) (hdf:d.params.defaults=[])
  (call:∀ (w:World) (s₀ s₁:Shared) (mg mb:Str->Option Value) (fa:Addr) (o:Obj) (pm cd doc:Value) (a:Addr) (vs:List Value) (ns:List Int),
   Ground q loose [] XP w s₀ mg mb s₁.heap->YP w s₁.heap->
   s₁.heap.get? fa=some o->o.data=.func (docDef d.name d.params d.body d.scope pm cd doc)->s₁.heap.CodeRec cd d.name->mg d.name=some (.ref fa)->
   s₁.heap.get? a=some { cls:=.type "list",data:=.seq vs.toArray }->IntsAre vs ns->ns.length<=n->s₁.gens=#[]->
   codeAny (model l.prog w) callerA (.call (.ref fa) ⟨[.ref a],[]⟩) (fun r s'=>r=.ok (.ret (.bool true))/\OldK s₁.heap s'.heap/\s'.os=s₁.os/\AllBare s'.gens) s₁):
  WalkO q loose XP YP l.row.toRowW d [] (fun f vs=>PySem.call f vs):=by
 intro w s₀ s₁ mg mb G Y fa o pm cd doc dV kV ho hd hcd hD hmg hg args vals as hpre hlay hrd hwl hlo
 obtain rfl:dV=.none:=Dflts.none hD hdf
 obtain rfl:kV=.none:=Dflts.noKw hD
 obtain ⟨a,vs,ns,rfl,rfl,hobj,hints,hlen⟩:=qC hn hpre hwl
 refine enter_call (codeAny_mono (call w s₀ s₁ mg mb fa o pm cd doc a vs ns G Y ho (fd_plain hd) hcd hmg hobj hints hlen hg) fun r s' hq=>?_)
 obtain ⟨rfl,h2,h3,h4⟩:=hq
 exact ⟨.inl ⟨.bool true,.bool true,[],rfl,fun _=>rfl,.bool true,qE l _,fun _=>⟨List.Pairwise.nil,fun _ hm=>(nomatch hm)⟩⟩,h2,h3,h4⟩
section
variable {prog:Program} {w:World} {A:Around} {E:Value->Shared->Prop} {s:Shared} {K:Frag}
end
end Att
namespace L2
open PySem PySem.Spec PyProof.Rows
theorem jK:∀ {vs:List Value} {ns:List Int},IntsAre vs ns->aQ (ns.map V.int) vs
 | _,_,.nil=>.nil
 | _,_,.cons n t h=>.cons ⟨t,rfl⟩ (jK h)
def uK (H:Hp):Prop:=∀ b,H b=none\/∃ o xs,H b=some (.frz o (.lst xs))
theorem rO {P:Program} {w:World} {K:PySem.W.Frag} {mg mb:Str->Option Value} {CX:CXT} {k:Nat} {fa a:Addr} {fd:FuncData} {x:Str} {sp:Sp} {s₁:Shared} {vs:List Value} {ns:List Int}
  (KX:K.In s₁.heap) (hns:s₁.heap.Ns mainGlobals mg) (hb:s₁.heap.Ns builtinsNs mb) (hbb:∀ x:Str,x≠"__name__" -> mb x=bootBuiltins x) (hlim:s₁.heap.NoLimit) (hg:s₁.gens=#[])
  (ha:s₁.heap.get? a=some { cls:=.type "list",data:=.seq vs.toArray }) (hi:IntsAre vs ns) (hl:ns.length<=sizeLine) (hr:cQ k callerA)
  (F:∀ base:Heap,K.In base->base.Ns mainGlobals mg->aO P w K mg base CX k fa fd [x] sp) (hbind:∀ (s:Shared) (u:Value),BindsTo s fd ⟨[u],[]⟩ [(x,u)])
  (hsp:∀ H:Hp,uK H->SqL K H a (ns.map V.int)->sp [.ref a] H (fun v _=>v=.bl true) fun _ _ _=>False)
  (hCX:∀ H e s',CX [] H s₁ (fun _ _ _=>False) e s'->False):
  codeAny (model P w) callerA (.call (.ref fa) ⟨[.ref a],[]⟩) (fun r s'=>r=.ok (.ret (.bool true))/\OldK s₁.heap s'.heap/\s'.os=s₁.os/\AllBare s'.gens) s₁:=by
 have rv:=jK hi
 have lenV:=hi.length
 -- from an abstract heap in which nothing but the script may be tracked
 have core:∀ H:Hp,uK H->SqL K H a (ns.map V.int)->HOk P w H s₁.heap->(∀ b,H b≠none->b=a)->(H a≠none->K.lookup a=none)->
   codeAny (model P w) callerA (.call (.ref fa) ⟨[.ref a],[]⟩) (fun r s'=>r=.ok (.ret (.bool true))/\OldK s₁.heap s'.heap/\s'.os=s₁.os/\AllBare s'.gens) s₁:=by
  intro H hO hS hok hA hK
  have base_of:∀ {b:Addr} {o:Obj},s₁.heap.get? b=some o->H b=none->(kA s₁.heap H).get? b=some o:=fun e n=>qX e n
  have noA:∀ {b:Addr} {o:Obj} {es:Array DictEntry} {ep:Nat},s₁.heap.get? b=some o->o.data=.dict es ep->H b=none:=fun {b o es ep} e d=>by
   cases q:H b with
   | none=>rfl
   | some u=>
    have e':b=a:=hA b (by rw [q]; simp)
    subst e'
    rw [ha] at e; cases e
    have d':Data.seq vs.toArray _=Data.dict es ep:=d
    cases d'
  have nsK:∀ {b:Addr} {m:Str->Option Value},s₁.heap.Ns b m->(kA s₁.heap H).Ns b m:=fun {b m} ⟨o,es,ep,e,d,r⟩=>⟨o,es,ep,base_of e (noA e d),d,r⟩
  have hKb:K.In (kA s₁.heap H):=fun b o e=>base_of (KX b o e) (by
   cases q:H b with
   | none=>rfl
   | some u=>
    have e':b=a:=hA b (by rw [q]; simp)
    subst e'
    rw [hK (by rw [q]; simp)] at e; cases e)
  have hM:Mod K mg (kA s₁.heap H):=⟨hKb,nsK hns,⟨mb,nsK hb,hbb⟩,let ⟨mc,h1,h2⟩:=hlim; ⟨mc,nsK h1,h2⟩⟩
  have e0:nH P w K mg (kA s₁.heap H) callerA [] s₁ H:=⟨rfl,hM,fun b o e=>tS e,Nat.le_of_eq (pR _ _),trivial,fun b hb=>absurd (show b∈([]:List Addr) from hb) (by simp),hok,.of_eq hg⟩
  refine codeAny_mono ((F _ hKb (nsK hns)).run callerA [] s₁ H ⟨[.ref a],[]⟩ [.ref a] [.ref a] _ _ hr e0 (hbind s₁ (.ref a)) (.cons rfl .nil) (hsp H hO hS)) fun r s' h=>?_
  cases r with
  | error e=>exact (hCX H e s' h).elim
  | ok fl=>
   cases fl with
   | next=>exact False.elim h
   | brk=>exact False.elim h
   | cont=>exact False.elim h
   | ret u=>
    obtain ⟨v,H',os,bare,un,hok',r',q⟩:=h
    have q':v=.bl true:=q
    subst q'
    obtain rfl:u=Value.bool true:=r'
    refine ⟨rfl,OldK.of_keep fun b o e=>?_,os,bare⟩
    cases q:H b with
    | none=>exact un.keep b o e q (by intro z; exact absurd (show b∈([]:List Addr) from z) (by simp)) (by simp)
    | some u=>
     rcases hO b with z | ⟨ob,xs,z⟩
     ·rw [q] at z; cases z
     ·have z2:=un.frzs b ob _ z
      obtain ⟨e1,_⟩:=hok b _ z
      obtain ⟨e2,_⟩:=hok' b _ z2
      rw [e] at e1; cases e1
      exact e2
 cases hk:K.lookup a with
 | some o=>
  -- the script is one of the module's own objects
  have e:=KX a o hk
  rw [ha] at e
  cases e
  refine core (fun _=>none) (fun _=>.inl rfl) (.inr ⟨_,vs.toArray,_,hk,rfl,rfl,rfl,by rw [List.size_toArray,lenV]; exact hl,by simpa using rv⟩) (fun b u z=>by have z':(none:Option HO)=some u:=z; cases z') (fun b z=>absurd rfl z) fun z=>absurd rfl z
 | none=>
  refine core (fun b=>if b=a then some (.frz { cls:=.type "list",data:=.seq vs.toArray } (.lst (ns.map V.int))) else none) (fun b=>?_) (.inl (.inr ⟨{ cls:=.type "list",data:=.seq vs.toArray },if_pos rfl⟩)) (fun b u z=>?_) (fun b z=>?_) fun _=>hk
  ·by_cases hb:b=a
   ·exact .inr ⟨_,_,if_pos hb⟩
   ·exact .inl (if_neg hb)
  ·by_cases hb:b=a
   ·have z':=(if_pos hb).symm.trans z
    cases z'
    subst hb
    exact ⟨ha,by rw [List.length_map]; exact hl,vs,_,rv,ha⟩
   ·have z':=(if_neg hb).symm.trans z
    cases z'
  ·by_cases hb:b=a
   ·exact hb
   ·exact absurd (if_neg hb) z
end L2
namespace L2
open PySem PySem.Spec PyProof.Rows
theorem walk_of {l:PySem.W.OpenLaw} {n k:Nat} {q:Program} {loose:List Str} {XP:(Str->Option Value)->Heap->Prop} {YP:World->Heap->Prop} {d:DefRec} {K:Params->PySem.W.Frag} {CX:World->CXT} {sp:World->Sp} {x:Str}
  (hn:l.most=some n) (hn2:n<=sizeLine) (hdf:d.params.defaults=[]) (hr:cQ k callerA)
  (hY:∀ (w:World) (h:Heap),YP w h->(K w.params).In h)
  (F:∀ (w:World) (mg:Str->Option Value) (fa:Addr) (h:Heap),(K w.params).In h->h.Ns mainGlobals mg->mg d.name=some (.ref fa)->
   ∃ fd:FuncData,(∀ (s:Shared) (u:Value),BindsTo s fd ⟨[u],[]⟩ [(x,u)])/\
    ∀ base:Heap,(K w.params).In base->base.Ns mainGlobals mg->aO l.prog w (K w.params) mg base (CX w) k fa fd [x] (sp w))
  (hsp:∀ (w:World) (H:Hp) (a:Addr) (ns:List Int),ns.length<=n->uK H->SqL (K w.params) H a (ns.map V.int)->sp w [.ref a] H (fun v _=>v=.bl true) fun _ _ _=>False)
  (hCX:∀ (w:World) (H:Hp) (s:Shared) (e:Value) (s':Shared),CX w [] H s (fun _ _ _=>False) e s'->False):
  PySem.W.WalkO q loose XP YP l.row.toRowW d [] (fun f vs=>PySem.call f vs):=by
 refine Att.attach_call hn hdf fun w s₀ s₁ mg mb fa o pm cd doc a vs ns G Y ho hd hcd hmg hobj hints hlen hg=>?_
 have KX:=hY w _ Y
 obtain ⟨fd,hb,hF⟩:=F w mg fa _ KX G.T.g hmg
 exact rO KX G.T.g G.T.b G.T.builtins G.T.nolimit hg hobj hints (Nat.le_trans hlen hn2) hr hF hb (fun H hO hS=>hsp w H a ns hlen hO hS) fun H e s'=>hCX w H s₁ e s'
end L2
namespace L2
open PySem PySem.Spec PyProof.Rows
def inClass (s:Stmt) (j:Nat):Stmt:=match s with
 | .ClassDef _ _ _ body _ _ _ _ _ _ _=>body.getD j (.Pass ⟨0,0,0,0⟩)
 | _=>.Pass ⟨0,0,0,0⟩
def aU (s:Stmt):Arguments:=match s with
 | .FunctionDef _ a _ _ _ _ _ _ _ _=>a
 | _=>{ posonlyargs:=[],args:=[],vararg:=none,kwonlyargs:=[],kw_defaults:=[],kwarg:=none,defaults:=[] }
def aN (s:Stmt):List Stmt:=match s with
 | .FunctionDef _ _ b _ _ _ _ _ _ _=>b
 | _=>[]
def aF (s:Stmt):Scope:=match s with
 | .FunctionDef _ _ _ _ _ _ sc _ _ _=>sc
 | _=>{ kind:=.function,names:=[],isGenerator:=false,isCoroutine:=false }
abbrev CX0:CXT:=fun _ _ _ _ _ _=>False
abbrev E0:XK:=fun _ _ _=>False
theorem AD {X:Cx}:nI CX0 X E0:=fun _ _ _ _ _ _ _ h=>h.elim
structure Fun (K:PySem.W.Frag) (x qual:Str) (st:Stmt) (f:Addr) (fd:FuncData):Prop where
 ex:∃ (oc:Value) (od:Option Addr) (kV doc pm:Value) (an:Option Addr) (cdv ct:Value) (osl:Array (Option Value)),
  fd=PySem.W.fnOf x qual (aU st) (aN st) (aF st) .none kV doc pm an cdv ct/\K.lookup f=some ⟨oc,od,.func fd,osl⟩/\PySem.W.codeIn K cdv qual=true
 kp:PySem.W.keepIn K (.ref f)=true
section
variable {P:Program} {w:World} {K:PySem.W.Frag} {mg:Str->Option Value} {base:Heap}
theorem Fun.ok {x qual:Str} {st:Stmt} {f:Addr} {fd:FuncData} {N ps:List Str} {k:Nat} {sp:Sp} (F:Fun K x qual st f fd) (S:aY N ps (aF st)) (len:∀ vs H Q E,sp vs H Q E->vs.length=ps.length)
  (hbody:∀ (cdv:Value) (A:Around) (outer:List Env) (s:Shared) (H:Hp) (vs:List V) (Q:VK) (E:XK),cQ k (A.deeper (envOfC qual (aF st) s.heap.objs.size f cdv))->sp vs H Q E->
   ∃ t,PSs (gY CX0 P w K mg base N qual (aF st) f cdv A outer s H E).nox (aN st) t/\t { nx:=fun _ H'=>Q .non H',rt:=Q } (start N vs) H):aO P w K mg base CX0 (k+1) f fd ps sp:=by
 obtain ⟨oc,od,kV,doc,pm,an,cdv,ct,osl,rfl,lk,hcd⟩:=F.ex
 refine wF lk hcd S len fun A outer s H vs Q E hr hsp=>?_
 obtain ⟨t,h,q⟩:=hbody cdv A outer s H vs Q E hr hsp
 exact ⟨t,h.nox,q⟩
theorem Fun.binds {x qual:Str} {st:Stmt} {f:Addr} {fd:FuncData} {ps:List Str} (F:Fun K x qual st f fd)
  (h:∀ (kV doc pm:Value) (an:Option Addr) (cdv ct:Value) (us:List Value),us.length=ps.length->bindArgs (PySem.W.fnOf x qual (aU st) (aN st) (aF st) .none kV doc pm an cdv ct) ⟨us,[]⟩=pure (ps.zip us)):Binds K fd ps []:=by
 obtain ⟨oc,od,kV,doc,pm,an,cdv,ct,osl,rfl,lk,hcd⟩:=F.ex
 exact .all (h kV doc pm an cdv ct)
theorem kK {x qual:Str} {st:Stmt} {f:Addr} {oc:Value} {od an:Option Addr} {osl:Array (Option Value)} {kV doc pm cdv ct:Value} (l:K.lookup f=some ⟨oc,od,.func (PySem.W.fnOf x qual (aU st) (aN st) (aF st) .none kV doc pm an cdv ct),osl⟩)
  (c:PySem.W.codeIn K cdv qual=true) (k:PySem.W.keepIn K (.ref f)=true):Fun K x qual st f (PySem.W.fnOf x qual (aU st) (aN st) (aF st) .none kV doc pm an cdv ct):=⟨⟨oc,od,kV,doc,pm,an,cdv,ct,osl,rfl,l,c⟩,k⟩
end
theorem AE {A:Around} {k:Nat} (hr:cQ k A):A.units+1 < cLine:=Nat.lt_of_le_of_lt (Nat.add_le_add_left (by decide:1<=64) _) hr.units
theorem qF {n:Nat} (h:n<=1000):n < sizeLine:=Nat.lt_of_le_of_lt h (by decide)
section
variable {X:Cx}
theorem pv (i:Nat) {x:Str} {pos:Pos} (hN:X.N[i]?=some x:=by rfl) (hv:Vis X.env.scope x:=by first | exact Or.inl rfl | exact Or.inr (Or.inl rfl) | exact Or.inr (Or.inr rfl)) (hd:(x == ("__debug__" : Str))=false:=by decide)
  (hcd:(x == ("__classdict__" : Str))=false:=by decide):PE X (.Name x pos) (xG i):=kB hN hv hd hcd
end
theorem kL {A B:Prop} (h:B):if false=true then A else B:=by
 rw [if_neg Bool.false_ne_true]
 exact h
theorem qG {A B:Prop} (h:A):if true=true then A else B:=by
 rw [if_pos rfl]
 exact h
def rP (H H':Hp):Prop:=∀ b o,H b=some o->H' b=some o
end L2
namespace L2
open PySem PySem.Spec PyProof.Rows
section
variable {κ:Type} [DecidableEq κ]
def fO (kvs:List (κ×V)) (k:κ):Option V:=(kvs.find? fun kv=>decide (kv.1=k)).map (·.2)
theorem iE {p:κ×V} {r:List (κ×V)} {k:κ} (e:p.1=k):fO (p :: r) k=some p.2:=by simp [fO,List.find?_cons,e]
theorem iF {p:κ×V} {r:List (κ×V)} {k:κ} (e:¬ p.1=k):fO (p :: r) k=fO r k:=by simp [fO,List.find?_cons,e]
theorem KV.val {kvs:List (κ×V)} {vs:List (κ×Value)} (r:KV kvs vs) (k:κ):jZ (fO kvs k) (valueAt vs k):=by
 unfold KV at r
 induction r with
 | nil=>exact True.intro
 | @cons p q ps qs h t ih=>
  obtain ⟨h1,h2⟩:=h
  by_cases e:p.1=k
  ·have e':q.1=k:=h1.symm.trans e
   have b:valueAt (q :: qs) k=some q.2:=by simp [valueAt,List.find?_cons,e']
   rw [iE e,b]; exact h2
  ·have e':¬ q.1=k:=fun z=>e (h1.trans z)
   have b:valueAt (q :: qs) k=valueAt qs k:=by simp [valueAt,List.find?_cons,e']
   rw [iF e,b]; exact ih
theorem KV.length {kvs:List (κ×V)} {vs:List (κ×Value)} (r:KV kvs vs):kvs.length=vs.length:=Paired.length r
end
theorem wH {P:Program} {w:World} {k:Key} {u:Value} (r:RelV (kV k) u):(cI P w).is k u=true:=by
 cases k with
 | inl i=>obtain ⟨t,e⟩:=(show ∃ t,u=Value.int i t from r); subst e; exact lM P w i t
 | inr x=>obtain ⟨t,e⟩:=(show ∃ t,u=Value.str x t from r); subst e; exact lN P w x t
theorem jL {P:Program} {w:World}:∀ {ks:List Key} {us:List Value},aQ (ks.map kV) us->ItemsAre (cI P w) ks us
 | [],_,r=>by rw [List.map_nil] at r; cases r; exact .nil
 | k :: ks,_,r=>by
  rw [List.map_cons] at r
  cases r with
  | cons h t=>exact .cons (wH h) (jL t)
abbrev KT (H:Hp):List (List Key×V)->List (List Key×Addr×Value)->Prop:=Paired fun p q=>p.1=q.1/\H q.2.1=some (.tup (p.1.map kV))/\RelV p.2 q.2.2
theorem KT.val {H:Hp} {kvs:List (List Key×V)} {xs:List (List Key×Addr×Value)} (r:KT H kvs xs) (k:List Key):jZ (fO kvs k) ((atKey xs k).map (·.2)):=by
 induction r with
 | nil=>exact True.intro
 | @cons p q ps qs h t ih=>
  obtain ⟨h1,_,h2⟩:=h
  by_cases e:p.1=k
  ·have e':q.1=k:=h1.symm.trans e
   have b:atKey (q :: qs) k=some q.2:=by simp [atKey,List.find?_cons,e']
   rw [iE e,b]; exact h2
  ·have e':¬ q.1=k:=fun z=>e (h1.trans z)
   have b:atKey (q :: qs) k=atKey qs k:=by simp [atKey,List.find?_cons,e']
   rw [iF e,b]; exact ih
section
variable {P:Program} {w:World} {H:Hp} {h:Heap} {a:Addr}
theorem wI {u:HO} (ok:HOk P w H h) (e:Rd H a u):bS P w H h a u:=e.ok ok
theorem rQ {kvs:List (Key×V)} (ok:HOk P w H h) (e:Rd H a (.dK kvs)):kvs.length<=sizeLine/\(a == sysModules)=false/\∃ vs,KV kvs vs/\h.DictOf (cI P w) a vs:=
 show bS P w H h a (.dK kvs) from wI ok e
theorem rR {ks:List Key} (ok:HOk P w H h) (e:H a=some (.tup (ks.map kV))):(tupleKind (cI P w)).is h ks a:=by
 obtain ⟨_,its,r,o,h1,h2,⟨n,h3⟩,_⟩:=(show bS P w H h a (.tup (ks.map kV)) from ok a _ e)
 exact ⟨o,its.toArray,n,h1,h2,h3,by simpa using jL r⟩
theorem wJ {kvs:List (List Key×V)} (ok:HOk P w H h) (e:Rd H a (.dT kvs)):kvs.length<=sizeLine/\(a == sysModules)=false/\
  ∃ xs,KT H kvs xs/\h.DictOfH (tupleKind (cI P w)) a xs:=by
 obtain ⟨z,y,xs,r,o,es,ep,h1,h2,h3,h4,h5⟩:=(show bS P w H h a (.dT kvs) from wI ok e)
 refine ⟨z,y,xs,r,o,es,ep,h1,h2,h3,h4,fun x hx=>?_,h5⟩
 have all:∀ {l:List (List Key×V)} {m:List (List Key×Addr×Value)},KT H l m->∀ x∈m,(tupleKind (cI P w)).is h x.1 x.2.1:=by
  intro l m q
  induction q with
  | nil=>intro x hx; exact nomatch hx
  | @cons p q ps qs hq t ih=>
   intro x hx
   rcases List.mem_cons.mp hx with e | hx
   ·subst e
    exact rR ok (by rw [<- hq.1]; exact hq.2.1)
   ·exact ih x hx
 exact all r x hx
end
def lR (H:Hp) (a:Addr) (y:V) (r:Option V):Prop:=
 (∃ kvs k,Rd H a (.dK kvs)/\y=kV k/\r=fO kvs k)\/∃ kvs k b,Rd H a (.dT kvs)/\y=.ref b/\H b=some (.tup (k.map kV))/\r=fO kvs k
theorem lR.k {H:Hp} {a:Addr} {kvs:List (Key×V)} {k:Key} (e:H a=some (.dK kvs)):lR H a (kV k) (fO kvs k):=.inl ⟨kvs,k,.inl e,rfl,rfl⟩
section
variable {X:Cx} {pins:List (Addr×Obj)} {σ:St} {H:Hp} {s:Shared} {a:Addr} {y v:V} {u r:Value} {o:Option V} {A:Around} {E:Value->Shared->Prop}
theorem qH {Q:Value->Shared->Prop} (hu:A.units+1 < cLine) (I:Inv X pins σ H s) (g:lR H a y (some v)) (ry:RelV y u) (h:∀ w' s',Inv X pins σ H s'->RelV v w'->Q w' s'):
  wpAny (model X.prog X.w) A (getItem (.ref a) u) Q E s:=by
 rcases g with ⟨kvs,k,e,ey,l⟩ | ⟨kvs,k,b,e,ey,eb,l⟩
 ·subst ey
  obtain ⟨z,hd,vs,rel,dd⟩:=rQ I.hok e
  obtain ⟨w',hw,rw'⟩:=jZ.some_of (v:=v) (o:=valueAt vs k) (by rw [l]; exact rel.val k)
  exact wpAny_getItem_of (wH ry) dd.mapOf hw (h w' _ (I.tok _) rw')
 ·subst ey
  cases (show u=Value.ref b from ry)
  obtain ⟨z,hd,xs,rel,dd⟩:=wJ I.hok e
  obtain ⟨w',hw,rw'⟩:=jZ.some_of (v:=v) (o:=(atKey xs k).map (·.2)) (by rw [l]; exact rel.val k)
  obtain ⟨p,hp,hp2⟩:=Option.map_eq_some_iff.mp hw
  refine wpAny_getItem_heap (tupleKind_room_in1 hu) (rR I.hok eb) dd hp ?_
  rw [hp2]
  exact h w' _ (I.tok _) rw'
end
section
variable {X:Cx} {pins:List (Addr×Obj)} {σ:St} {H:Hp} {s:Shared} {a:Addr} {kvs:List (Key×V)} {k:Key} {u:Value} {A:Around} {E:Value->Shared->Prop}
theorem AF {Q:Value->Shared->Prop} (I:Inv X pins σ H s) (e:Rd H a (.dK kvs)) (h:∀ t s',Inv X pins σ H s'->Q (.int kvs.length t) s'):wpAny (model X.prog X.w) A (call (.builtin "len") [.ref a]) Q E s:=by
 obtain ⟨z,hd,vs,rel,dd⟩:=rQ I.hok e
 refine call_len_dict hd dd (by rw [<- rel.length]; rw [sizeLine_eq] at z; omega) ?_
 rw [<- rel.length]
 exact h _ _ (I.tok _)
end
theorem lS {X:Cx} {pins:List (Addr×Obj)} {σ:St} {H:Hp} {s:Shared} {a:Addr} {y:V} {o:Option V} (I:Inv X pins σ H s) (g:lR H a y o):s.TypeIs (.ref a) "dict" := by
 rcases g with ⟨kvs,k,e,_,_⟩ | ⟨kvs,k,b,e,_,_,_⟩
 ·obtain ⟨_,_,vs,_,dd⟩:=rQ I.hok e
  exact dd.typeIs
 ·obtain ⟨_,_,xs,_,dd⟩:=wJ I.hok e
  exact dd.typeIs
section
variable {X:Cx} {o i e value:Expr} {pos pos' tpos:Pos} {td ty tv:TE}
end
section
variable {X:Cx} {pos:Pos}
end
structure M1 (X:Cx) (o:Expr) (m:Str) (apos:Pos) (e:Expr) (cpos:Pos):Prop where
 base:attributeBase o m X.env (eval o X.env)=eval o X.env
 few:((backTo cpos (starEach [e] X.env)).all (fun x=>!x.1) && (backToKw cpos (keywordEach [] X.env)).all (fun x=>x.1.isSome)
  && decide (([e]:List Expr).length+([]:List Keyword).length+(if ([]:List Keyword).isEmpty then 0 else 1) < 30))=true
 line:(apos.endLine == cpos.line)=true
 trees:backTo cpos (starEach [e] X.env)=[(false,eval e X.env)]
structure M2 (X:Cx) (o:Expr) (m:Str) (apos:Pos) (e f:Expr) (cpos:Pos):Prop where
 base:attributeBase o m X.env (eval o X.env)=eval o X.env
 few:((backTo cpos (starEach [e,f] X.env)).all (fun x=>!x.1) && (backToKw cpos (keywordEach [] X.env)).all (fun x=>x.1.isSome)
  && decide (([e,f]:List Expr).length+([]:List Keyword).length+(if ([]:List Keyword).isEmpty then 0 else 1) < 30))=true
 line:(apos.endLine == cpos.line)=true
 trees:backTo cpos (starEach [e,f] X.env)=[(false,eval e X.env),(false,eval f X.env)]
section
variable {X:Cx} {pins:List (Addr×Obj)} {σ:St} {H:Hp} {s:Shared} {a:Addr} {y d:V} {u r:Value} {o:Option V} {A:Around} {E:Value->Shared->Prop}
end
section
variable {X:Cx} {o e f:Expr} {apos cpos:Pos} {td ty tx:TE}
end
section
variable {X:Cx} {pins:List (Addr×Obj)} {σ:St} {H:Hp} {s:Shared} {a:Addr} {kvs:List (Key×V)} {A:Around} {E:Value->Shared->Prop}
end
section
variable {X:Cx} {pins:List (Addr×Obj)} {σ:St} {H:Hp} {s:Shared} {a:Addr} {y:V} {u:Value} {A:Around} {E:Value->Shared->Prop}
end
end L2
namespace L2
open PySem PySem.Spec PyProof.Rows
section
variable {X:Cx}
theorem qI:eI X (.builtin "len") (fun xs H Q=>∃ a kvs,xs=[V.ref a]/\H a=some (.dK kvs)/\Q (.int kvs.length) H):=by
 intro pins s σ H xs us Q I r h
 obtain ⟨a,kvs,rfl,ha,q⟩:=h
 obtain ⟨u,rfl,ru⟩:=vals1 r
 cases ru
 exact AF I (.inl ha) fun t s' I'=>⟨.int kvs.length,H,I',⟨t,rfl⟩,q⟩
end
section
variable {κ:Type} [DecidableEq κ]
end
end L2
set_option Elab.async false
set_option linter.all false
set_option maxRecDepth 100000
set_option maxHeartbeats 4000000
namespace L2
open PySem PySem.Spec PyProof.Rows
section
variable {M:Model} {A:Around} {E:Value->Shared->Prop} {s:Shared}
variable {left:Bool} {key:Keyed} {arr:Array Keyed} {base n hint:Nat} {bey:Nat->Bool} {st:SortSt} {Q:Option Nat->SortSt->Prop}
end
end L2
set_option Elab.async false
set_option linter.all false
set_option maxRecDepth 100000
set_option maxHeartbeats 4000000
namespace L2
open PySem PySem.Spec PyProof.Rows
structure Ask (M:Model) (A:Around) (E:Value->Shared->Prop) (s:Shared) (κ:SortKind) (pr:Nat->Keyed) (n:Nat) (lt:Nat->Nat->Bool):Prop where
 tr:∀ i j k,i < n->j < n->k < n->lt j i=false->lt k j=false->lt k i=false
 as:∀ i j,i < n->j < n->lt i j=true->lt j i=false
 run:∀ (st:SortSt) i j,kindOf st=κ->i < n->j < n->∀ Q:Option Bool->SortSt->Prop,Q (some (lt i j)) st->wpS M A E s (lt' (pr i) (pr j)) Q st
def arr (pr:Nat->Keyed) (l:List Nat):Array Keyed:=(l.map pr).toArray
structure MI (lt:Nat->Nat->Bool) (la lb lo:List Nat) (ia ib:Nat):Prop where
 perm:(lo++(la.drop ia++lb.drop ib)).Perm (la++lb)
 srt:lo.Pairwise fun i j=>lt j i=false
 low:∀ o∈lo,∀ x∈la.drop ia++lb.drop ib,lt x o=false
structure Two (lt:Nat->Nat->Bool) (n:Nat) (la lb:List Nat):Prop where
 sa:la.Pairwise fun i j=>lt j i=false
 sb:lb.Pairwise fun i j=>lt j i=false
 na:∀ x∈la,x < n
 nb:∀ x∈lb,x < n
section
variable {lt:Nat->Nat->Bool} {n:Nat} {la lb lo:List Nat} {ia ib:Nat}
end
section
variable {M:Model} {A:Around} {E:Value->Shared->Prop} {s:Shared} {κ:SortKind} {pr:Nat->Keyed} {n:Nat} {lt:Nat->Nat->Bool}
end
end L2
set_option Elab.async false
set_option linter.all false
set_option maxRecDepth 100000
set_option maxHeartbeats 4000000
namespace L2
open PySem PySem.Spec PyProof.Rows
section
variable {M:Model} {A:Around} {E:Value->Shared->Prop} {s:Shared} {κ:SortKind} {pr:Nat->Keyed} {n:Nat} {lt:Nat->Nat->Bool} {la lb:List Nat}
end
end L2
set_option Elab.async false
set_option linter.all false
set_option maxRecDepth 100000
set_option maxHeartbeats 4000000
namespace L2
open PySem PySem.Spec PyProof.Rows
structure MH (lt:Nat->Nat->Bool) (la lb lo:List Nat) (na nb:Nat):Prop where
 perm:(la.take na++(lb.take nb++lo)).Perm (la++lb)
 srt:lo.Pairwise fun i j=>lt i j=false
 hi:∀ o∈lo,∀ x∈la.take na++lb.take nb,lt o x=false
section
variable {lt:Nat->Nat->Bool} {n:Nat} {la lb lo:List Nat} {na nb k:Nat}
end
section
variable {M:Model} {A:Around} {E:Value->Shared->Prop} {s:Shared} {κ:SortKind} {pr:Nat->Keyed} {n:Nat} {lt:Nat->Nat->Bool} {la lb:List Nat}
end
end L2
set_option Elab.async false
set_option linter.all false
set_option maxRecDepth 100000
set_option maxHeartbeats 4000000
namespace L2
open PySem PySem.Spec PyProof.Rows
section
variable {M:Model} {A:Around} {E:Value->Shared->Prop} {s:Shared} {κ:SortKind} {pr:Nat->Keyed} {n:Nat} {lt:Nat->Nat->Bool}
def Srt (lt:Nat->Nat->Bool) (l:List Nat):Prop:=l.Pairwise fun i j=>lt j i=false
end
end L2
set_option Elab.async false
set_option linter.all false
set_option maxRecDepth 100000
set_option maxHeartbeats 4000000
namespace L2
open PySem PySem.Spec PyProof.Rows
section
variable {M:Model} {A:Around} {E:Value->Shared->Prop} {s:Shared} {κ:SortKind} {pr:Nat->Keyed} {n:Nat} {lt:Nat->Nat->Bool}
structure Tl (pr:Nat->Keyed) (κ:SortKind) (X Z:List Nat) (pd:Array (Nat×Nat×Nat)) (st:SortSt):Prop where
 a:arrOf st=arr pr (X++Z)
 k:kindOf st=κ
 p:pendingOf st=pd
 f:failedOf st=none
end
end L2
set_option Elab.async false
set_option linter.all false
set_option maxRecDepth 100000
set_option maxHeartbeats 4000000
namespace L2
open PySem PySem.Spec PyProof.Rows
section
variable {M:Model} {A:Around} {E:Value->Shared->Prop} {s:Shared} {κ:SortKind} {pr:Nat->Keyed} {n:Nat} {lt:Nat->Nat->Bool}
end
end L2
set_option Elab.async false
set_option linter.all false
set_option maxRecDepth 100000
set_option maxHeartbeats 4000000
namespace L2
open PySem PySem.Spec PyProof.Rows
def wK:Nat->List (List Nat×Nat)->List (Nat×Nat×Nat)
 | _,[]=>[]
 | b,(u,w) :: r=>(b,u.length,w) :: wK (b+u.length) r
def wL (g:List (List Nat×Nat)):List Nat:=(g.map Prod.fst).flatten
structure Rn (pr:Nat->Keyed) (κ:SortKind) (lt:Nat->Nat->Bool) (n:Nat) (g:List (List Nat×Nat)) (R:List Nat) (st:SortSt):Prop where
 a:arrOf st=arr pr (wL g++R)
 k:kindOf st=κ
 f:failedOf st=none
 p:(pendingOf st).toList=wK 0 g
 s:∀ u∈g,Srt lt u.1/\0 < u.1.length
 q:(wL g++R).Perm (List.range n)
section
variable {M:Model} {A:Around} {E:Value->Shared->Prop} {s:Shared} {κ:SortKind} {pr:Nat->Keyed} {n:Nat} {lt:Nat->Nat->Bool}
end
end L2
set_option Elab.async false
set_option linter.all false
set_option maxRecDepth 100000
set_option maxHeartbeats 4000000
namespace L2
open PySem PySem.Spec PyProof.Rows
section
variable {M:Model} {A:Around} {E:Value->Shared->Prop} {s:Shared} {κ:SortKind} {pr:Nat->Keyed} {n:Nat} {lt:Nat->Nat->Bool}
end
end L2
set_option Elab.async false
set_option linter.all false
set_option maxRecDepth 100000
set_option maxHeartbeats 4000000
namespace L2
open PySem PySem.Spec PyProof.Rows
section
variable {prog:Program} {w:World} {A:Around} {E:Value->Shared->Prop} {s:Shared} {ks vs:List Value} {κ:SortKind}
end
end L2
set_option Elab.async false
set_option linter.all false
set_option maxRecDepth 100000
namespace L2
open PySem PySem.Spec PyProof.Rows
section
variable {prog:Program} {w:World} {A:Around} {R:Result->Shared->Prop} {s:Shared}
end
structure CI (os:Scope) (oN:List Str) (sc:Scope) (N:List Str) (js:List (Option Nat)):Prop where
 kind:sc.kind=.function
 own:∀ y∈sc.names,y.2=.cell->sc.names.lookup y.1=some .cell
 nm:∀ y∈sc.names,y.2=.local->sc.names.lookup y.1=some .local
 fr:∀ y∈sc.names,y.2=.free->os.names.lookup y.1=some .cell\/os.names.lookup y.1=some .free
 len:js.length=N.length
 cap:∀ (i j:Nat),js[i]?=some (some j)->∃ x,N[i]?=some x/\oN[j]?=some x/\sc.names.lookup x=some .free
def uL:St->Nat->Option V
 | [],_=>none
 | x :: _,0=>x
 | _ :: r,n+1=>uL r n
theorem lT:∀ {σ:St} {i:Nat} {v:V},uL σ i=some v->σ[i]?=some (some v)
 | [],_,_,h=>by cases h
 | x :: _,0,v,h=>by
  have h':x=some v:=h
  simp [h']
 | _ :: r,n+1,v,h=>by
  rw [List.getElem?_cons_succ]
  exact lT (σ:=r) (i:=n) h
section
variable {X:Cx} {elt iter tg:Expr} {ifs:List Expr} {sc:Scope} {pos:Pos} {os:Scope} {oN N:List Str} {js:List (Option Nat)} {wi:TI} {g:TG} {tt:TT} {te:TE}
structure Off (X:Cx) (pins:List (Addr×Obj)) (H:Hp) (C:Addr) (s:Shared):Prop where
 ns:∃ m,s.heap.Ns C m
 none:H C=none
 loc:C≠X.env.locals
 new:X.s₀.heap.objs.size<=C
 cells:∀ x c,X.env.cells.lookup x=some c->c≠C
 pins:∀ p∈X.pn++pins,p.1≠C
end
section
variable {K:PySem.W.Frag} {js:List (Option Nat)} {g:TG} {tt:TT} {te:TE} {σ:St} {H:Hp} {R:Hp->Prop} {acc a:Addr}
end
end L2
set_option Elab.async false
set_option linter.all false
set_option maxRecDepth 100000
namespace L2
open PySem PySem.Spec PyProof.Rows
section
variable {X:Cx}
def AG:V->Option Int->Option Int->Hp->VK->Prop:=fun x lo hi H Q=>∃ z,x=.str z/\z.length<=sizeLine/\Q (.str (Txt.slice z lo hi)) H
theorem part_of {v:Value} {o:Option Int} (h:IsPart v o):∃ p:Option (Int×Tok),v=partValue p/\p.map (·.1)=o:=by
 cases h with
 | none=>exact ⟨none,rfl,rfl⟩
 | int i t=>exact ⟨some (i,t),rfl,rfl⟩
theorem yK:SlR X AG:=by
 intro pins s σ H x v vl vu lo hi sl Q I rx hs pl pu h
 obtain ⟨z,rfl,hz,q⟩:=h
 obtain ⟨t,rfl⟩:=rx
 obtain ⟨l,rfl,rfl⟩:=part_of pl
 obtain ⟨u,rfl,rfl⟩:=part_of pu
 obtain ⟨o,ho,hc,hd⟩:=hs
 refine ⟨"str",_,PySem.F.slot_str_getitem.lookup,typeIs_str s z t,?_⟩
 refine wpAny_getItem_str_slice (l:=l) (u:=u) (st:=none) ⟨o,ho,hc,hd⟩ rfl ?_
 have e:sliceMade z t l u none=if ((1:Int) == 1 && (Builtin.Str.strSliceIndices (l.map (·.1)) (u.map (·.1)) 1 z.length).length == z.length)=true then Made.val (.str z t) else Made.str ⟨((Builtin.Str.strSliceIndices (l.map (·.1)) (u.map (·.1)) 1 z.length).filterMap (z.cps[·]?)).toArray⟩:=rfl
 have hle:=Txt.slice_le z (l.map (·.1)) (u.map (·.1))
 unfold Txt.slice at q hle
 rw [e]
 by_cases hc':((1:Int) == 1 && (Builtin.Str.strSliceIndices (l.map (·.1)) (u.map (·.1)) 1 z.length).length == z.length)=true
 ·rw [if_pos hc'] at q ⊢
  exact ⟨.str z,H,I,⟨t,rfl⟩,q⟩
 ·rw [if_neg hc'] at q hle ⊢
  exact ⟨Nat.le_trans hle hz,.str _,H,I.tok _,⟨_,rfl⟩,q⟩
theorem gT {es:List Expr} {k:Nat} {t:TGs} {n:Nat} {pos:Pos} (K:PySem.W.Frag) (hK:X.K=K) (hc:X.calm=true) (h:PGs X es t)
  (hn:(assignEach es X.env).length=n:=by rfl) (hst:(assignEach es X.env).findIdx? (·.1)=none:=by rfl):PG X (.Tuple es k pos) (Ao K n t):=by subst hK; exact xQ hc h hn hst
end
end L2
set_option Elab.async false
set_option linter.all false
set_option maxRecDepth 100000
namespace L2
open PySem PySem.Spec PyProof.Rows
section
variable {X:Cx} {e a b:Expr} {t t' ta tb:TE} {pos:Pos}
theorem PE.imp (h:PE X e t) (i:∀ σ H Q,t' σ H Q->t σ H Q):PE X e t':=fun pins s σ H Q I q=>h pins s σ H Q I (i σ H Q q)
theorem PT.imp {t t':TT} (h:PT X e t) (i:∀ σ H Q,t' σ H Q->t σ H Q):PT X e t':=fun pins s σ H Q I q=>h pins s σ H Q I (i σ H Q q)
theorem OpR.imp {f:Value->Value->Sem Value} {r r':R2} (h:OpR X f r) (i:∀ x y H Q,r' x y H Q->r x y H Q):OpR X f r':=fun pins s σ H x y v u Q I rx ry q=>h pins s σ H x y v u Q I rx ry (i x y H Q q)
theorem eI.imp {f:Value} {r r':List V->Hp->VK->Prop} (h:eI X f r) (i:∀ xs H Q,r' xs H Q->r xs H Q):eI X f r':=fun pins s σ H xs us Q I rx q=>h pins s σ H xs us Q I rx (i xs H Q q)
def cV (i:Nat):TE:=fun σ H Q=>match uL σ i with
 | some v=>Q v H
 | none=>False
theorem cv (i:Nat) {x:Str} (hN:X.N[i]?=some x:=by rfl) (hv:Vis X.env.scope x:=by first | exact Or.inl rfl | exact Or.inr (Or.inl rfl) | exact Or.inr (Or.inr rfl)) (hd:(x == ("__debug__" : Str))=false:=by decide)
  (hcd:(x == ("__classdict__" : Str))=false:=by decide):PE X (.Name x pos) (cV i):=by
 refine (kB hN hv hd hcd).imp fun σ H Q h=>?_
 unfold cV at h
 cases e:uL σ i with
 | none=>rw [e] at h; exact h.elim
 | some v=>rw [e] at h; exact ⟨v,lT e,h⟩
def AH (K:PySem.W.Frag):R2:=fun x y H Q=>match x,y with
 | .int i,.int j=>Q (.int (i+j)) H
 | .str i,.str j=>i.length+j.length<=sizeLine/\Q (.str (i++j)) H
 | .ref _,.ref _=>AC x y H Q\/wG K x y H Q
 | _,_=>False
theorem uM (K:PySem.W.Frag) (hK:X.K=K):OpR X (binaryOp .Add) (AH K):=by
 subst hK
 refine (xU.or (nE.or (yJ.or uG))).imp fun x y H Q h=>?_
 cases x <;> cases y <;> first
  | exact .inl ⟨_,_,rfl,rfl,h⟩
  | exact .inr (.inl ⟨_,_,rfl,rfl,h.1,h.2⟩)
  | exact .inr (.inr h)
  | exact h.elim
def lU (C:Int->Int->Prop) (f:Int->Int->Int):R2:=fun x y H Q=>match x,y with
 | .int i,.int j=>C i j/\Q (.int (f i j)) H
 | _,_=>False
def rS (f:Int->Int->Int):R2:=fun x y H Q=>match x,y with
 | .int i,.int j=>Q (.int (f i j)) H
 | _,_=>False
theorem kM {f:Value->Value->Sem Value} {C:Int->Int->Prop} {g:Int->Int->Int} (h:OpR X f (rI C fun i j=>.int (g i j))):OpR X f (lU C g):=
 h.imp fun x y H Q q=>by cases x <;> cases y <;> first | exact ⟨_,_,rfl,rfl,q.1,q.2⟩ | exact q.elim
theorem rT {f:Value->Value->Sem Value} {g:Int->Int->Int} (h:OpR X f (rI0 fun i j=>.int (g i j))):OpR X f (rS g):=
 h.imp fun x y H Q q=>by cases x <;> cases y <;> first | exact ⟨_,_,rfl,rfl,q⟩ | exact q.elim
theorem uN:OpR X (binaryOp .Sub) (rS fun i j=>i - j):=rT xV
theorem uO:OpR X (binaryOp .Mult) (lU lO fun i j=>i*j):=kM xW
theorem uP:OpR X (binaryOp .FloorDiv) (lU rE fun i j=>i / j):=kM tY
theorem uQ:OpR X (binaryOp .Mod) (lU (fun _ j=>0 < j) fun i j=>i % j):=kM xX
def oK (f:Int->Int->Bool) (g:List Nat->List Nat->Bool):R2:=fun x y H Q=>match x,y with
 | .int i,.int j=>Q (.bl (f i j)) H
 | .str i,.str j=>Q (.bl (g i.cps.toList j.cps.toList)) H
 | _,_=>False
theorem oM {f:Value->Value->Sem Value} {p:Int->Int->Bool} {g:List Nat->List Nat->Bool} (h1:OpR X f (rI0 fun i j=>.bl (p i j)))
  (h2:OpR X f (fun x y H Q=>∃ i j,x=.str i/\y=.str j/\Q (.bl (g i.cps.toList j.cps.toList)) H)):OpR X f (oK p g):=
 (h1.or h2).imp fun x y H Q q=>by cases x <;> cases y <;> first | exact .inl ⟨_,_,rfl,rfl,q⟩ | exact .inr ⟨_,_,rfl,rfl,q⟩ | exact q.elim
theorem yL:OpR X (compareOp .Lt) (oK (fun i j=>decide (i < j)) fun i j=>decide (i < j)):=oM Av pW
theorem yM:OpR X (compareOp .Gt) (oK (fun i j=>decide (j < i)) fun i j=>decide (j < i)):=oM Aw fun pins s σ H x y v u Q I rx ry h=>by
 obtain ⟨i,j,rfl,rfl,q⟩:=h
 obtain ⟨t,rfl⟩:=rx
 obtain ⟨t',rfl⟩:=ry
 exact PySem.P.gt_str (kF I q rfl)
end
structure DD (t:TE):Prop where
 go:∀ σ H (Q Q':VK),(∀ v H1,Q v H1->Q' v H1)->t σ H Q->t σ H Q'
section
variable {X:Cx} {e a b:Expr} {t t' ta tb:TE} {pos:Pos}
theorem AI {x:V} {Q:Bool->Prop} (h:match x with | .bl c=>Q c | _=>False):∃ c,x=.bl c/\Q c:=by
 cases x <;> first | exact ⟨_,rfl,h⟩ | exact h.elim
theorem pec {op:CmpOp} {r:R2} (ho:OpR X (compareOp op) r) (ha:PE X a ta) (hb:PE X b tb) (hm:behindInMarks op b=false:=by first | exact nC _ | rfl):PE X (.Compare a [op] [b] pos) (tOp r ta tb):=oH ho ha hb hm
def CJ (ta tb:TE):TE:=fun σ H Q=>ta σ H fun x H1=>match x with
 | .bl c=>if c=true then tb σ H1 Q else Q (.bl false) H1
 | _=>False
theorem uR {rest:List Expr} (ha:PE X a ta) (hb:PE X (.BoolOp .And (b :: rest) pos) tb):PE X (.BoolOp .And (a :: b :: rest) pos) (CJ ta tb):=by
 intro pins s σ H Q I h
 refine BoolOp_and (thn (ha pins s σ H _ I h) fun v s1 hz=>?_)
 obtain ⟨x,H1,I1,r1,q1⟩:=hz
 obtain ⟨c,rfl,q1⟩:=AI q1
 cases r1
 refine wpAny_truthy_bool ?_
 cases c with
 | true=>exact hb pins s1 σ H1 Q I1 q1
 | false=>exact ⟨.bl false,H1,I1,rfl,q1⟩
theorem uS (hu:X.A.units+1 < cLine):IxR X (fun x y H Q=>∃ p v,x=.ref p/\lR H p y (some v)/\Q v H):=by
 intro value slice pins s σ H x y v u Q I rx ry h hs
 obtain ⟨p,w,rfl,g,q⟩:=h
 cases rx
 have hT:=lS I g
 unfold subscriptTail
 refine wpAny_bind ?_
 rw [getitemInPython_of_ne hT.not_modules]
 refine wpAny_bind (wpAny_specialOf hT PySem.F.slot_dict_getitem.lookup ?_)
 have fin:wpAny (model X.prog X.w) X.A (subscripted slice false (.ref p) u) (fun r s₃=>wpAny (model X.prog X.w) X.A (letTemporaryGo value (.ref p) r >>= fun _=>pure r) (EP X pins σ Q) X.xe s₃) X.xe s:=by
  rw [hs]
  exact wpAny_operating (qH hu I g ry fun w' s3 I3 rw'=>wpAny_bind (wpAny_letTemporaryGo (wpAny_pure ⟨w,H,I3,rw',q⟩)))
 first
  | exact wpAny_pure (wpAny_bind fin)
  | exact wpAny_bind (wpAny_pure (wpAny_bind fin))
  | exact wpAny_bind fin
def yN (K:PySem.W.Frag):R2:=fun x y H Q=>match x with
 | .str z=>(match y with
  | .int i=>z.length<=sizeLine/\∃ c,atI z.cps.toList i=some c/\Q (.str ⟨#[c]⟩) H
  | _=>False)
 | .ref p=>(∃ xs i v,y=.int i/\(SqL K H p xs\/SqT K H p xs)/\atI xs i=some v/\Q v H)\/∃ v,lR H p y (some v)/\Q v H
 | _=>False
theorem IxR.imp {r r':R2} (h:IxR X r) (i:∀ x y H Q,r' x y H Q->r x y H Q):IxR X r':=fun a b pins s σ H x y v u Q I rx ry q hs=>h a b pins s σ H x y v u Q I rx ry (i x y H Q q) hs
theorem ixC (hu:X.A.units+1 < cLine) (K:PySem.W.Frag) (hK:X.K=K):IxR X (yN K):=by
 subst hK
 refine (uI.or (yG.or (yH.or (uS hu)))).imp fun x y H Q h=>?_
 cases x with
 | str z=>
  cases y with
  | int i=>obtain ⟨h1,c,h2,h3⟩:=h; exact .inr (.inr (.inl ⟨z,i,c,rfl,rfl,h1,h2,h3⟩))
  | _=>exact h.elim
 | ref p=>
  rcases h with ⟨xs,i,v,rfl,hs | hs,ha,hq⟩ | ⟨v,g,hq⟩
  ·exact .inl ⟨p,xs,i,v,rfl,rfl,hs,ha,hq⟩
  ·exact .inr (.inl ⟨p,xs,i,v,rfl,rfl,hs,ha,hq⟩)
  ·exact .inr (.inr (.inr ⟨p,v,rfl,g,hq⟩))
 | _=>exact h.elim
theorem pix (hu:X.A.units+1 < cLine) (K:PySem.W.Frag) (hK:X.K=K) (ha:PE X a ta) (hb:PE X b tb) (hs:kH b:=by intro _ _; rfl):PE X (.Subscript a b pos) (tOp (yN K) ta tb):=Az (ixC hu K hK) ha hb hs
def AJ (K:PySem.W.Frag):List V->Hp->VK->Prop:=fun xs H Q=>match xs with
 | [.str y]=>y.length<=sizeLine/\Q (.int y.length) H
 | [.ref p]=>(∃ xs,(SqL K H p xs\/SqT K H p xs)/\Q (.int xs.length) H)\/∃ kvs,H p=some (.dK kvs)/\Q (.int kvs.length) H
 | _=>False
theorem qJ (K:PySem.W.Frag) (hK:X.K=K):eI X (.builtin "len") (AJ K):=by
 subst hK
 intro pins s σ H xs us Q I r h
 match xs,h with
 | [.str y],h=>exact rH pins s σ H _ us Q I r ⟨_,_,rfl,⟨h.1,rfl⟩,h.2⟩
 | [.ref p],h=>
  rcases h with ⟨ys,hs,q⟩ | ⟨kvs,hs,q⟩
  ·exact kJ pins s σ H _ us Q I r ⟨p,ys,rfl,hs,q⟩
  ·exact qI pins s σ H _ us Q I r ⟨p,kvs,rfl,hs,q⟩
def AK (ta:TA):TI:=fun σ H R=>ta σ H fun vs H1=>match vs with
 | [.int j]=>(-(2 ^ 62)<=j/\j < 2 ^ 62)/\R (Itr 0 j.toNat) H1
 | _=>False
theorem uT {vs:List V} {Q:Int->Prop} (h:match vs with | [.int i]=>Q i | _=>False):∃ i,vs=[.int i]/\Q i:=by
 split at h
 · exact ⟨_,rfl,h⟩
 · exact h.elim
theorem pr1 {x:Expr} {ta:TA} {tg:Expr} {p pos:Pos} (hg:Gl X "range") (hm:X.mg "range" = none) (ha:PA X [x] ta) (hs:starEach [x] X.env=[(false,eval x X.env)]:=by rfl):PI X tg (.Call (.Name "range" p) [x] [] pos) (AK ta):=by
 intro pins s σ H R I h
 refine Call_ (mW I hg hm boot_range (PyProof.Rows.callWith_type1 (thn (ha pos pins s σ H _ I h) fun us s1 hz=>?_) hs rfl))
 obtain ⟨vs,H1,I1,r1,q1⟩:=hz
 obtain ⟨j,rfl,⟨h1,h2⟩,q⟩:=uT q1
 obtain ⟨u,rfl,t,rfl⟩:=vals1 r1
 exact call_range_1 (rD I1 (by omega) (by omega) h1 h2 (by simpa using q))
def AL (t:TE):TO:=fun σ H Q=>t σ H fun x H1=>match x with
 | .int i=>Q (some i) H1
 | _=>False
theorem rV {x:Expr} {te:TE} (h:PE X x te):PO X (some x) (AL te):=by
 intro pins s σ H Q I hw
 rw [evalPart_some]
 refine thn (h pins s σ H _ I hw) fun u s1 hz=>?_
 obtain ⟨x,H1,I1,r1,q1⟩:=hz
 cases x with
 | int i=>
  obtain ⟨t,rfl⟩:=r1
  exact ⟨some i,H1,I1,.int i t,q1⟩
 | _=>exact q1.elim
end
end L2
namespace L2
open PySem PySem.Spec PyProof.Rows
structure Def (K:PySem.W.Frag) (mg:Str->Option Value) (x:Str) (st:Stmt) (f:Addr) (fd:FuncData) (ps:List Str):Prop where
 fn:Fun K x x st f fd
 mg:mg x=some (.ref f)
 bd:Binds K fd ps []
section
variable {X:Cx}
theorem AM {x:Str} {st:Stmt} {f:Addr} {fd:FuncData} {ps:List Str} {k:Nat} {sp:Sp} {e:Expr} {es:List Expr} {t:TA} {p pos:Pos} (D:Def X.K X.mg x st f fd ps) (G:aO X.prog X.w X.K X.mg X.base CX0 k f fd ps sp) (hr:cQ k X.A) (ha:PA X (e :: es) t)
  (hg:Gl X x:=by rfl) (hdb:(x == ("__debug__" : Str))=false:=by decide) (he:starEach (e :: es) X.env=(false,eval e X.env) :: starEach es X.env:=by rfl) (hpl:(backTo pos (starEach es X.env)).any (·.1)=false:=by rfl):
  PE X (.Call (.Name x p) (e :: es) [] pos) (wD sp [] E0 t):=uD G hr hg D.mg D.fn.kp D.bd .nil AD ha hdb he hpl
end
theorem nL {α:Type} {xs:List α} {i:Int} (h0:0<=i) (h1:i < xs.length):∃ v,atI xs i=some v/\xs[i.toNat]?=some v:=by
 have h2:i.toNat < xs.length:=by omega
 refine ⟨xs[i.toNat],?_,by simp [h2]⟩
 unfold atI ixN
 rw [if_pos h0,if_pos h1]
 simp [h2]
theorem gC {α:Type} {xs:List α} {i:Nat} {v:α} (h:xs[i]?=some v):atI xs (i:Int)=some v:=by
 have h1:=(List.getElem?_eq_some_iff.mp h).1
 unfold atI ixN
 rw [if_pos (by omega),if_pos (by omega)]
 simpa using h
theorem rP.upd {H:Hp} {a:Addr} {o:HO} (h:H a=none):rP H (upd H a o):=fun b u e=>by
 rw [aK (bR e h)]; exact e
theorem Def.mk' {K:PySem.W.Frag} {mg:Str->Option Value} {h:Heap} {x:Str} {st:Stmt} {f:Addr} {ps:List Str} {oc:Value} {od an:Option Addr} {osl:Array (Option Value)} {kV doc pm cdv ct:Value} (X:K.In h) (G:h.Ns mainGlobals mg)
  (a:PySem.W.nsIn K mainGlobals x=some (some (.ref f))) (l:K.lookup f=some ⟨oc,od,.func (PySem.W.fnOf x x (aU st) (aN st) (aF st) .none kV doc pm an cdv ct),osl⟩)
  (c:PySem.W.codeIn K cdv x=true) (k:PySem.W.keepIn K (.ref f)=true)
  (b:∀ (kV doc pm:Value) (an:Option Addr) (cdv ct:Value) (us:List Value),us.length=ps.length->bindArgs (PySem.W.fnOf x x (aU st) (aN st) (aF st) .none kV doc pm an cdv ct) ⟨us,[]⟩=pure (ps.zip us)):
  Def K mg x st f (PySem.W.fnOf x x (aU st) (aN st) (aF st) .none kV doc pm an cdv ct) ps:=
 ⟨kK l c k,PySem.W.mg_of X G a,(kK (st:=st) l c k).binds b⟩
end L2
set_option Elab.async false
set_option linter.all false
set_option maxRecDepth 100000
namespace L2
open PySem PySem.Spec PyProof.Rows PySem.SeqAt
inductive D where
 | non | bl (b:Bool) | int (i:Int) | str (x:Str) | tup (xs:List D)
mutual
def D.depth:D->Nat
 | .tup xs=>D.depths xs+1
 | _=>0
def D.depths:List D->Nat
 | []=>0
 | x :: xs=>max (D.depth x) (D.depths xs)
end
theorem D.depths_le:∀ {xs:List D} {i:Nat} {d:D},xs[i]?=some d->d.depth<=D.depths xs
 | [],_,_,h=>by simp at h
 | x :: xs,0,d,h=>by
  have:x=d:=by simpa using h
  subst this
  show x.depth<=max x.depth (D.depths xs)
  omega
 | x :: xs,i+1,d,h=>by
  have:=D.depths_le (xs:=xs) (i:=i) (d:=d) (by simpa using h)
  show d.depth<=max x.depth (D.depths xs)
  omega
mutual
/-- the value x is the datum,in the heap H -/
def Rep (K:PySem.W.Frag) (H:Hp):D->V->Prop
 | .non,v=>v=.non
 | .bl b,v=>v=.bl b
 | .int i,v=>v=.int i
 | .str x,v=>v=.str x
 | .tup ds,v=>∃ a vs,v=.ref a/\SqT K H a vs/\dP K H ds vs
def dP (K:PySem.W.Frag) (H:Hp):List D->List V->Prop
 | [],[]=>True
 | d :: ds,v :: vs=>Rep K H d v/\dP K H ds vs
 | [],_ :: _=>False
 | _ :: _,[]=>False
end
mutual
/-- == -/
def eqD:D->D->Bool
 | .non,.non=>true
 | .bl a,.bl b=>a == b
 | .bl a,.int b=>(if a then 1 else 0) == b
 | .int a,.bl b=>a == (if b then 1 else 0)
 | .int a,.int b=>a == b
 | .str a,.str b=>a == b
 | .tup xs,.tup ys=>dA xs ys
 | _,_=>false
def dA:List D->List D->Bool
 | [],[]=>true
 | x :: xs,y :: ys=>eqD x y && dA xs ys
 | [],_ :: _=>false
 | _ :: _,[]=>false
end
mutual
/-- < (none: an error) -/
def ltD:D->D->Option Bool
 | .int a,.int b=>some (decide (a < b))
 | .str a,.str b=>some (decide (a.cps.toList < b.cps.toList))
 | .tup xs,.tup ys=>fP xs ys
 | _,_=>none
def fP:List D->List D->Option Bool
 | [],[]=>some false
 | [],_ :: _=>some true
 | _ :: _,[]=>some false
 | x :: xs,y :: ys=>if eqD x y=true then fP xs ys else ltD x y
end
mutual
theorem iG:∀ d:D,eqD d d=true
 | .non=>rfl
 | .bl b=>by simp [eqD]
 | .int i=>by simp [eqD]
 | .str x=>by simp [eqD]
 | .tup xs=>by simp only [eqD]; exact jM xs
theorem jM:∀ ds:List D,dA ds ds=true
 | []=>rfl
 | d :: ds=>by simp only [dA,iG d,jM ds,Bool.and_self]
end
def dX (H H':Hp):Prop:=∀ a xs,Rd H a (.tup xs)->Rd H' a (.tup xs)
theorem dX.refl (H:Hp):dX H H:=fun _ _ h=>h
theorem dX.trans {H H1 H2:Hp} (a:dX H H1) (b:dX H1 H2):dX H H2:=fun c xs h=>b c xs (a c xs h)
theorem dX.same {H H':Hp} (s:rP H H'):dX H H':=fun a xs h=>by
 rcases h with h | ⟨o,h⟩
 ·exact .inl (s _ _ h)
 ·exact .inr ⟨o,s _ _ h⟩
def oO:Option HO->Prop
 | some (.tup _)=>False
 | some (.frz _ _)=>False
 | _=>True
theorem dX.upd {H:Hp} {p:Addr} {o:HO} (h:oO (H p)):dX H (upd H p o):=fun a xs q=>by
 have ne:a≠p:=by
  rintro rfl
  rcases q with q | ⟨ob,q⟩
  ·rw [q] at h; exact h
  ·rw [q] at h; exact h
 rcases q with q | ⟨ob,q⟩
 ·exact .inl (by rw [aK ne]; exact q)
 ·exact .inr ⟨ob,by rw [aK ne]; exact q⟩
theorem dX.sq {K:PySem.W.Frag} {H H':Hp} {a:Addr} {xs:List V} (t:dX H H') (h:SqT K H a xs):SqT K H' a xs:=by
 rcases h with h | h
 ·exact .inl (t a xs h)
 ·exact .inr h
section
variable {K:PySem.W.Frag} {H H':Hp}
mutual
theorem Rep.tp (t:dX H H'):∀ {d:D} {v:V},Rep K H d v->Rep K H' d v
 | .non,_,h=>h
 | .bl _,_,h=>h
 | .int _,_,h=>h
 | .str _,_,h=>h
 | .tup ds,_,⟨a,vs,e,q,r⟩=>⟨a,vs,e,t.sq q,dP.tp t r⟩
theorem dP.tp (t:dX H H'):∀ {ds:List D} {vs:List V},dP K H ds vs->dP K H' ds vs
 | [],[],_=>trivial
 | _ :: _,_ :: _,⟨h,r⟩=>⟨Rep.tp t h,dP.tp t r⟩
 | [],_ :: _,h=>h.elim
 | _ :: _,[],h=>h.elim
end
theorem dP.length:∀ {ds:List D} {vs:List V},dP K H ds vs->ds.length=vs.length
 | [],[],_=>rfl
 | _ :: _,_ :: _,⟨_,r⟩=>by simp [dP.length r]
 | [],_ :: _,h=>h.elim
 | _ :: _,[],h=>h.elim
theorem dP.get:∀ {ds:List D} {vs:List V} {i:Nat} {v:V},dP K H ds vs->vs[i]?=some v->∃ d,ds[i]?=some d/\Rep K H d v
 | [],[],_,_,_,e=>by simp at e
 | d :: _,w :: _,0,v,⟨h,_⟩,e=>by
  have:w=v:=by simpa using e
  subst this
  exact ⟨d,rfl,h⟩
 | _ :: ds,_ :: vs,i+1,v,⟨_,r⟩,e=>by
  obtain ⟨d,h1,h2⟩:=dP.get (ds:=ds) (vs:=vs) (i:=i) (v:=v) r (by simpa using e)
  exact ⟨d,by simpa using h1,h2⟩
 | [],_ :: _,_,_,h,_=>h.elim
 | _ :: _,[],_,_,h,_=>h.elim
theorem dP.at:∀ {ds:List D} {vs:List V} {i:Nat} {d:D},dP K H ds vs->ds[i]?=some d->∃ v,vs[i]?=some v/\Rep K H d v
 | [],[],_,_,_,e=>by simp at e
 | d :: _,w :: _,0,d',⟨h,_⟩,e=>by
  have:d=d':=by simpa using e
  subst this
  exact ⟨w,rfl,h⟩
 | _ :: ds,_ :: vs,i+1,d,⟨_,r⟩,e=>by
  obtain ⟨v,h1,h2⟩:=dP.at (ds:=ds) (vs:=vs) (i:=i) (d:=d) r (by simpa using e)
  exact ⟨v,by simpa using h1,h2⟩
 | [],_ :: _,_,_,h,_=>h.elim
 | _ :: _,[],_,_,h,_=>h.elim
end
section
variable {X:Cx} {pins:List (Addr×Obj)} {σ:St} {H:Hp} {s:Shared}
theorem iH {A:Around} {s:Shared} {v u:Value} {b:Bool} (h:RcAt A s v u b) (hs:v=u->b=true) (hf:∀ f t,v≠.float f t):EqAt A s v u b:=fun prog w E Q hq=>by
 unfold eqBool
 refine wpAny_holding ?_
 refine wpAny_ite_split (fun hab=>?_) (fun _=>?_)
 ·have e:=hs (eq_of_beq hab)
  subst e
  exact wpAny_bind (wpAny_rule (wpAny_pure hq))
 ·cases v <;> first | exact absurd rfl (hf _ _) | exact wpAny_bind (h prog w E _ (wpAny_truthy_bool hq)) | (cases u <;> exact wpAny_bind (h prog w E _ (wpAny_truthy_bool hq)))
theorem jN {K:PySem.W.Frag} {H:Hp} {d:D} {x:V} {v:Value} (h:Rep K H d x) (r:RelV x v):∀ f t,v≠.float f t:=fun f t e=>by
 subst e
 cases d with
 | non=>cases h; cases r
 | bl b=>cases h; cases r
 | int b=>cases h; obtain ⟨_,z⟩:=r; cases z
 | str b=>cases h; obtain ⟨_,z⟩:=r; cases z
 | tup ds=>obtain ⟨_,_,rfl,_⟩:=h; cases r
theorem kN (I:Inv X pins σ H s):∀ (n:Nat) (d e:D) (v:V),d.depth<=n->Rep X.K H d v->Rep X.K H e v->d=e
 | n,.non,e,v,_,h,h'=>by
  cases h
  cases e <;> first | (obtain ⟨_,_,z,_⟩:=h'; exact absurd z (by intro q; cases q)) | rfl | exact absurd h' (by intro z; cases z)
 | n,.bl b,e,v,_,h,h'=>by
  cases h
  cases e <;> first | (obtain ⟨_,_,z,_⟩:=h'; exact absurd z (by intro q; cases q)) | (cases h'; rfl) | exact absurd h' (by intro z; cases z)
 | n,.int i,e,v,_,h,h'=>by
  cases h
  cases e <;> first | (obtain ⟨_,_,z,_⟩:=h'; exact absurd z (by intro q; cases q)) | (cases h'; rfl) | exact absurd h' (by intro z; cases z)
 | n,.str x,e,v,_,h,h'=>by
  cases h
  cases e <;> first | (obtain ⟨_,_,z,_⟩:=h'; exact absurd z (by intro q; cases q)) | (cases h'; rfl) | exact absurd h' (by intro z; cases z)
 | 0,.tup ds,e,v,hd,h,h'=>absurd hd (by show ¬ D.depths ds+1<=0; omega)
 | n+1,.tup ds,e,v,hd,h,h'=>by
  obtain ⟨a,vs,rfl,q,r⟩:=h
  cases e with
  | tup es=>
   obtain ⟨a',vs',ea,q',r'⟩:=h'
   cases ea
   have:=I.tuple_inj q q'
   subst this
   have hd':D.depths ds+1<=n+1:=hd
   have:ds=es:=by
    apply List.ext_getElem?
    intro i
    cases hi:ds[i]? with
    | none=>
     have h1:=r.length
     have h2:=r'.length
     have:ds.length<=i:=List.getElem?_eq_none_iff.mp hi
     exact (List.getElem?_eq_none_iff.mpr (by omega)).symm
    | some d=>
     obtain ⟨v,hv,hr⟩:=r.at hi
     obtain ⟨e,he,hr'⟩:=r'.get hv
     rw [he,kN I n d e v (by have:=D.depths_le hi; omega) hr hr']
   rw [this]
  | _=>cases h'
theorem fQ {xs ys:List D}:((List.range (min xs.length ys.length)).all (fun j=>match xs[j]?,ys[j]? with | some x,some y=>eqD x y | _,_=>false) && xs.length == ys.length)=dA xs ys:=by
 induction xs generalizing ys with
 | nil=>
  cases ys with
  | nil=>rfl
  | cons y ys=>simp [dA]
 | cons x xs ih=>
  cases ys with
  | nil=>simp [dA]
  | cons y ys=>
   have:=ih (ys:=ys)
   have e:min (x :: xs).length (y :: ys).length=min xs.length ys.length+1:=by simp only [List.length_cons]; omega
   rw [e,List.range_succ_eq_map,List.all_cons,List.all_map]
   simp only [List.getElem?_cons_zero,Function.comp_def,List.getElem?_cons_succ,List.length_cons,dA]
   rw [<- this]
   have e2:(xs.length+1 == ys.length+1)=(xs.length == ys.length):=by simp
   rw [e2,Bool.and_assoc]
theorem AN (I:Inv X pins σ H s):∀ (n:Nat) (d e:D) (A:Around) (x y:V) (v u:Value),d.depth<=n->A.units+n < cLine->Rep X.K H d x->Rep X.K H e y->RelV x v->RelV y u->RcAt A s v u (eqD d e):=by
 intro n
 induction n with
 | zero=>
  intro d e A x y v u hd hu hx hy rx ry
  cases d with
  | tup ds=>exact absurd hd (by show ¬ D.depths ds+1<=0; omega)
  | non=>
   cases hx; cases rx
   cases e with
   | non=>cases hy; cases ry; exact RcAt.none_none
   | bl b=>cases hy; cases ry; exact RcAt.none_bool b
   | int b=>cases hy; obtain ⟨t,rfl⟩:=ry; exact RcAt.none_int b t
   | str b=>cases hy; obtain ⟨t,rfl⟩:=ry; exact RcAt.none_str b t
   | tup es=>obtain ⟨a,vs,rfl,q,r⟩:=hy; cases ry; obtain ⟨its,_,p,_⟩:=I.tuple q; exact RcAt.none_tuple p (by omega)
  | bl a=>
   cases hx; cases rx
   cases e with
   | non=>cases hy; cases ry; exact RcAt.bool_none a
   | bl b=>cases hy; cases ry; exact RcAt.bool_bool a b
   | int b=>cases hy; obtain ⟨t,rfl⟩:=ry; exact RcAt.bool_int a b t
   | str b=>cases hy; obtain ⟨t,rfl⟩:=ry; exact RcAt.bool_str a b t
   | tup es=>obtain ⟨a',vs,rfl,q,r⟩:=hy; cases ry; obtain ⟨its,_,p,_⟩:=I.tuple q; exact RcAt.bool_tuple a p (by omega)
  | int a=>
   cases hx; obtain ⟨t',rfl⟩:=rx
   cases e with
   | non=>cases hy; cases ry; exact RcAt.int_none a t'
   | bl b=>cases hy; cases ry; exact RcAt.int_bool a t' b
   | int b=>cases hy; obtain ⟨t,rfl⟩:=ry; exact RcAt.int_int a t' b t
   | str b=>cases hy; obtain ⟨t,rfl⟩:=ry; exact RcAt.int_str a t' b t
   | tup es=>obtain ⟨a',vs,rfl,q,r⟩:=hy; cases ry; obtain ⟨its,_,p,_⟩:=I.tuple q; exact RcAt.int_tuple a t' p (by omega)
  | str a=>
   cases hx; obtain ⟨t',rfl⟩:=rx
   cases e with
   | non=>cases hy; cases ry; exact RcAt.str_none a t'
   | bl b=>cases hy; cases ry; exact RcAt.str_bool a t' b
   | int b=>cases hy; obtain ⟨t,rfl⟩:=ry; exact RcAt.str_int a t' b t
   | str b=>cases hy; obtain ⟨t,rfl⟩:=ry; exact RcAt.str_str a t' b t
   | tup es=>obtain ⟨a',vs,rfl,q,r⟩:=hy; cases ry; obtain ⟨its,_,p,_⟩:=I.tuple q; exact RcAt.str_tuple a t' p (by omega)
 | succ n ih=>
  intro d e A x y v u hd hu hx hy rx ry
  by_cases h0:d.depth<=n
  ·exact ih d e A x y v u h0 (by omega) hx hy rx ry
  ·cases d with
   | non=>exact absurd (show D.depth .non<=n from Nat.zero_le n) h0
   | bl b=>exact absurd (show D.depth (.bl b)<=n from Nat.zero_le n) h0
   | int b=>exact absurd (show D.depth (.int b)<=n from Nat.zero_le n) h0
   | str b=>exact absurd (show D.depth (.str b)<=n from Nat.zero_le n) h0
   | tup ds=>
    have hds:D.depths ds<=n:=by have:D.depths ds+1<=n+1:=hd; omega
    obtain ⟨a,vs,rfl,q,r⟩:=hx
    cases rx
    obtain ⟨its,rv,p,_⟩:=I.tuple q
    cases e with
    | non=>cases hy; cases ry; exact RcAt.tuple_none p (by omega)
    | bl b=>cases hy; cases ry; exact RcAt.tuple_bool b p (by omega)
    | int b=>cases hy; obtain ⟨t,rfl⟩:=ry; exact RcAt.tuple_int b t p (by omega)
    | str b=>cases hy; obtain ⟨t,rfl⟩:=ry; exact RcAt.tuple_str b t p (by omega)
    | tup es=>
     obtain ⟨a',vs',rfl,q',r'⟩:=hy
     cases ry
     obtain ⟨its',rv',p',_⟩:=I.tuple q'
     have l1:=r.length
     have l2:=r'.length
     have l3:=rv.length
     have l4:=rv'.length
     have key:=RcAt.tuples (A:=A) (e:=fun j=>match ds[j]?,es[j]? with | some x,some y=>eqD x y | _,_=>false) p p' (by omega) (fun j h1 h2=>by
      have h1':j < ds.length:=by simp at h1; omega
      have h2':j < es.length:=by simp at h2; omega
      have g1:ds[j]?=some ds[j]:=by simp [h1']
      have g2:es[j]?=some es[j]:=by simp [h2']
      obtain ⟨xv,hxv,hrx⟩:=r.at g1
      obtain ⟨yv,hyv,hry⟩:=r'.at g2
      obtain ⟨xu,hxu,hru⟩:=rv.get hxv
      obtain ⟨yu,hyu,hru'⟩:=rv'.get hyv
      have e1:its.toArray[j]=xu:=by
       have:its[j]?=some xu:=hxu
       simpa using (List.getElem?_eq_some_iff.mp this).2
      have e2:its'.toArray[j]=yu:=by
       have:its'[j]?=some yu:=hyu
       simpa using (List.getElem?_eq_some_iff.mp this).2
      rw [e1,e2]
      simp only [g1,g2]
      have hdj:=D.depths_le g1
      refine iH (ih ds[j] es[j] A.in1 xv yv xu yu (by omega) (by show A.units+1+n < cLine; omega) hrx hry hru hru') (fun ev=>by
      subst ev
      have exy:xv=yv:=RelV.inj hru hru'
      subst exy
      rw [kN I n ds[j] es[j] xv (by omega) hrx hry]
      exact iG _) (jN hrx hru))
     have sz:((List.range (min its.toArray.size its'.toArray.size)).all (fun j=>match ds[j]?,es[j]? with | some x,some y=>eqD x y | _,_=>false) && its.toArray.size == its'.toArray.size)=eqD (.tup ds) (.tup es):=by
      have a1:its.toArray.size=ds.length:=by simp; omega
      have a2:its'.toArray.size=es.length:=by simp; omega
      rw [a1,a2]
      simp only [eqD]
      exact fQ
     rw [<- sz]
     exact key
theorem yO (I:Inv X pins σ H s) {n:Nat} {d e:D} {A:Around} {x y:V} {v u:Value} (hd:d.depth<=n) (hu:A.units+n < cLine) (hx:Rep X.K H d x) (hy:Rep X.K H e y) (rx:RelV x v) (ry:RelV y u):EqAt A s v u (eqD d e):=
 iH (AN I n d e A x y v u hd hu hx hy rx ry) (fun ev=>by
  subst ev
  have exy:x=y:=RelV.inj rx ry
  subst exy
  rw [kN I n d e x hd hx hy]
  exact iG _) (jN hx rx)
theorem yP (I:Inv X pins σ H s):∀ (n:Nat) (d e:D) (A:Around) (x y:V) (v u:Value),d.depth<=n->A.units+n < cLine->Rep X.K H d x->Rep X.K H e y->RelV x v->RelV y u->RcNeAt A s v u (!eqD d e):=by
 intro n
 induction n with
 | zero=>
  intro d e A x y v u hd hu hx hy rx ry
  cases d with
  | tup ds=>exact absurd hd (by show ¬ D.depths ds+1<=0; omega)
  | non=>
   cases hx; cases rx
   cases e with
   | non=>cases hy; cases ry; exact RcNeAt.none_none
   | bl b=>cases hy; cases ry; exact RcNeAt.none_bool b
   | int b=>cases hy; obtain ⟨t,rfl⟩:=ry; exact RcNeAt.none_int b t
   | str b=>cases hy; obtain ⟨t,rfl⟩:=ry; exact RcNeAt.none_str b t
   | tup es=>obtain ⟨a,vs,rfl,q,r⟩:=hy; cases ry; obtain ⟨its,_,p,_⟩:=I.tuple q; exact RcNeAt.none_tuple p (by omega)
  | bl a=>
   cases hx; cases rx
   cases e with
   | non=>cases hy; cases ry; exact RcNeAt.bool_none a
   | bl b=>cases hy; cases ry; exact RcNeAt.bool_bool a b
   | int b=>cases hy; obtain ⟨t,rfl⟩:=ry; exact RcNeAt.bool_int a b t
   | str b=>cases hy; obtain ⟨t,rfl⟩:=ry; exact RcNeAt.bool_str a b t
   | tup es=>obtain ⟨a',vs,rfl,q,r⟩:=hy; cases ry; obtain ⟨its,_,p,_⟩:=I.tuple q; exact RcNeAt.bool_tuple a p (by omega)
  | int a=>
   cases hx; obtain ⟨t',rfl⟩:=rx
   cases e with
   | non=>cases hy; cases ry; exact RcNeAt.int_none a t'
   | bl b=>cases hy; cases ry; exact RcNeAt.int_bool a t' b
   | int b=>cases hy; obtain ⟨t,rfl⟩:=ry; exact RcNeAt.int_int a t' b t
   | str b=>cases hy; obtain ⟨t,rfl⟩:=ry; exact RcNeAt.int_str a t' b t
   | tup es=>obtain ⟨a',vs,rfl,q,r⟩:=hy; cases ry; obtain ⟨its,_,p,_⟩:=I.tuple q; exact RcNeAt.int_tuple a t' p (by omega)
  | str a=>
   cases hx; obtain ⟨t',rfl⟩:=rx
   cases e with
   | non=>cases hy; cases ry; exact RcNeAt.str_none a t'
   | bl b=>cases hy; cases ry; exact RcNeAt.str_bool a t' b
   | int b=>cases hy; obtain ⟨t,rfl⟩:=ry; exact RcNeAt.str_int a t' b t
   | str b=>cases hy; obtain ⟨t,rfl⟩:=ry; exact RcNeAt.str_str a t' b t
   | tup es=>obtain ⟨a',vs,rfl,q,r⟩:=hy; cases ry; obtain ⟨its,_,p,_⟩:=I.tuple q; exact RcNeAt.str_tuple a t' p (by omega)
 | succ n ih=>
  intro d e A x y v u hd hu hx hy rx ry
  by_cases h0:d.depth<=n
  ·exact ih d e A x y v u h0 (by omega) hx hy rx ry
  ·cases d with
   | non=>exact absurd (show D.depth .non<=n from Nat.zero_le n) h0
   | bl b=>exact absurd (show D.depth (.bl b)<=n from Nat.zero_le n) h0
   | int b=>exact absurd (show D.depth (.int b)<=n from Nat.zero_le n) h0
   | str b=>exact absurd (show D.depth (.str b)<=n from Nat.zero_le n) h0
   | tup ds=>
    have hds:D.depths ds<=n:=by have:D.depths ds+1<=n+1:=hd; omega
    obtain ⟨a,vs,rfl,q,r⟩:=hx
    cases rx
    obtain ⟨its,rv,p,_⟩:=I.tuple q
    cases e with
    | non=>cases hy; cases ry; exact RcNeAt.tuple_none p (by omega)
    | bl b=>cases hy; cases ry; exact RcNeAt.tuple_bool b p (by omega)
    | int b=>cases hy; obtain ⟨t,rfl⟩:=ry; exact RcNeAt.tuple_int b t p (by omega)
    | str b=>cases hy; obtain ⟨t,rfl⟩:=ry; exact RcNeAt.tuple_str b t p (by omega)
    | tup es=>
     obtain ⟨a',vs',rfl,q',r'⟩:=hy
     cases ry
     obtain ⟨its',rv',p',_⟩:=I.tuple q'
     have l1:=r.length
     have l2:=r'.length
     have l3:=rv.length
     have l4:=rv'.length
     have key:=RcNeAt.tuples (A:=A) (e:=fun j=>match ds[j]?,es[j]? with | some x,some y=>eqD x y | _,_=>false) p p' (by omega) (fun j h1 h2=>by
      have h1':j < ds.length:=by simp at h1; omega
      have h2':j < es.length:=by simp at h2; omega
      have g1:ds[j]?=some ds[j]:=by simp [h1']
      have g2:es[j]?=some es[j]:=by simp [h2']
      obtain ⟨xv,hxv,hrx⟩:=r.at g1
      obtain ⟨yv,hyv,hry⟩:=r'.at g2
      obtain ⟨xu,hxu,hru⟩:=rv.get hxv
      obtain ⟨yu,hyu,hru'⟩:=rv'.get hyv
      have e1:its.toArray[j]=xu:=by
       have:its[j]?=some xu:=hxu
       simpa using (List.getElem?_eq_some_iff.mp this).2
      have e2:its'.toArray[j]=yu:=by
       have:its'[j]?=some yu:=hyu
       simpa using (List.getElem?_eq_some_iff.mp this).2
      rw [e1,e2]
      simp only [g1,g2]
      have hdj:=D.depths_le g1
      exact yO I (n:=n) (by omega) (by show A.units+1+n < cLine; omega) hrx hry hru hru')
     have sz:(!((List.range (min its.toArray.size its'.toArray.size)).all (fun j=>match ds[j]?,es[j]? with | some x,some y=>eqD x y | _,_=>false) && its.toArray.size == its'.toArray.size))=(!eqD (.tup ds) (.tup es)):=by
      have a1:its.toArray.size=ds.length:=by simp; omega
      have a2:its'.toArray.size=es.length:=by simp; omega
      rw [a1,a2]
      simp only [eqD]
      rw [fQ]
     rw [<- sz]
     exact key
def CK (K:PySem.W.Frag):R2:=fun x y H Q=>∃ d e,Rep K H d x/\Rep K H e y/\d.depth<=40/\Q (.bl (eqD d e)) H
def CL (K:PySem.W.Frag):R2:=fun x y H Q=>∃ d e,Rep K H d x/\Rep K H e y/\d.depth<=40/\Q (.bl (!eqD d e)) H
theorem rW (hu:X.A.units+64 < cLine) (K:PySem.W.Frag) (hK:X.K=K):OpR X (compareOp .Eq) (CK K):=by
 subst hK
 intro pins s σ H x y v u Q I rx ry h
 obtain ⟨d,e,hx,hy,hd,q⟩:=h
 exact AN I 40 d e X.A x y v u hd (by omega) hx hy rx ry X.prog X.w X.xe _ ⟨.bl _,H,I,rfl,q⟩
theorem yQ (hu:X.A.units+64 < cLine) (K:PySem.W.Frag) (hK:X.K=K):OpR X (compareOp .NotEq) (CL K):=by
 subst hK
 intro pins s σ H x y v u Q I rx ry h
 obtain ⟨d,e,hx,hy,hd,q⟩:=h
 exact yP I 40 d e X.A x y v u hd (by omega) hx hy rx ry X.prog X.w X.xe _ ⟨.bl _,H,I,rfl,q⟩
def qK (K:PySem.W.Frag) (H:Hp) (ds:List D) (v:V):Prop:=∃ a vs,v=.ref a/\SqL K H a vs/\dP K H ds vs
theorem jO {xs ys:List D} (h:xs.length=ys.length):(List.range xs.length).all (fun j=>match xs[j]?,ys[j]? with | some x,some y=>eqD x y | _,_=>false)=dA xs ys:=by
 have:=fQ (xs:=xs) (ys:=ys)
 rw [h,Nat.min_self,beq_self_eq_true,Bool.and_true] at this
 rw [h]
 exact this
theorem lV {xs ys:List D} (h:dA xs ys=true):xs.length=ys.length:=by
 rw [<- fQ,Bool.and_eq_true] at h
 exact eq_of_beq h.2
theorem iI {I:Inv X pins σ H s} {A:Around} {ds es:List D} {vs vs':List V} {its its':List Value} (r:dP X.K H ds vs) (r':dP X.K H es vs') (rv:aQ vs its) (rv':aQ vs' its') (hd:D.depths ds<=40) (hu:A.units+42 < cLine):
  ∀ j (h1:j < its.toArray.size) (h2:j < its'.toArray.size),EqAt A.in1 s its.toArray[j] its'.toArray[j] (match ds[j]?,es[j]? with | some x,some y=>eqD x y | _,_=>false):=fun j h1 h2=>by
 have l1:=r.length
 have l2:=r'.length
 have l3:=rv.length
 have l4:=rv'.length
 have h1':j < ds.length:=by simp at h1; omega
 have h2':j < es.length:=by simp at h2; omega
 have g1:ds[j]?=some ds[j]:=by simp [h1']
 have g2:es[j]?=some es[j]:=by simp [h2']
 obtain ⟨xv,hxv,hrx⟩:=r.at g1
 obtain ⟨yv,hyv,hry⟩:=r'.at g2
 obtain ⟨xu,hxu,hru⟩:=rv.get hxv
 obtain ⟨yu,hyu,hru'⟩:=rv'.get hyv
 have e1:its.toArray[j]=xu:=by simpa using (List.getElem?_eq_some_iff.mp hxu).2
 have e2:its'.toArray[j]=yu:=by simpa using (List.getElem?_eq_some_iff.mp hyu).2
 rw [e1,e2]
 simp only [g1,g2]
 have hdj:=D.depths_le g1
 exact yO I (n:=40) (by omega) (by show A.units+1+40 < cLine; omega) hrx hry hru hru'
def CM (K:PySem.W.Frag):R2:=fun x y H Q=>∃ ds es,qK K H ds x/\qK K H es y/\D.depths ds<=40/\Q (.bl (dA ds es)) H
def CN (K:PySem.W.Frag):R2:=fun x y H Q=>∃ ds es,qK K H ds x/\qK K H es y/\D.depths ds<=40/\Q (.bl (!dA ds es)) H
theorem rX (hu:X.A.units+64 < cLine) (K:PySem.W.Frag) (hK:X.K=K):OpR X (compareOp .Eq) (CM K):=by
 subst hK
 intro pins s σ H x y v u Q I rx ry h
 obtain ⟨ds,es,⟨a,vs,rfl,q,r⟩,⟨b,vs',rfl,q',r'⟩,hd,k⟩:=h
 cases rx; cases ry
 obtain ⟨its,rv,p,_⟩:=I.list q
 obtain ⟨its',rv',p',_⟩:=I.list q'
 have l1:=r.length
 have l2:=r'.length
 have l3:=rv.length
 have l4:=rv'.length
 by_cases hl:ds.length=es.length
 ·refine eq_listAt p.isList p'.isList (by simp; omega) (by omega) (iI (I:=I) r r' rv rv' hd (by omega)) ⟨.bl _,H,I,rfl,?_⟩
  have e1:its.toArray.size=ds.length:=by simp; omega
  rw [e1,jO hl]
  exact k
 ·refine eq_list_lengthsAt p.isList p'.isList (by simp; omega) (by omega) ⟨.bl false,H,I,rfl,?_⟩
  have e:dA ds es=false:=by
   cases h:dA ds es with
   | false=>rfl
   | true=>exact absurd (lV h) hl
  rw [e] at k
  exact k
theorem yR (hu:X.A.units+64 < cLine) (K:PySem.W.Frag) (hK:X.K=K):OpR X (compareOp .NotEq) (CN K):=by
 subst hK
 intro pins s σ H x y v u Q I rx ry h
 obtain ⟨ds,es,⟨a,vs,rfl,q,r⟩,⟨b,vs',rfl,q',r'⟩,hd,k⟩:=h
 cases rx; cases ry
 obtain ⟨its,rv,p,_⟩:=I.list q
 obtain ⟨its',rv',p',_⟩:=I.list q'
 have l1:=r.length
 have l2:=r'.length
 have l3:=rv.length
 have l4:=rv'.length
 by_cases hl:ds.length=es.length
 ·refine RcNeAt.lists p.isList p'.isList (by simp; omega) (by omega) (iI (I:=I) r r' rv rv' hd (by omega)) X.prog X.w X.xe _ ⟨.bl _,H,I,rfl,?_⟩
  have e1:its.toArray.size=ds.length:=by simp; omega
  rw [e1,jO hl]
  exact k
 ·refine RcNeAt.lists_lengths p.isList p'.isList (by simp; omega) (by omega) X.prog X.w X.xe _ ⟨.bl true,H,I,rfl,?_⟩
  have e:dA ds es=false:=by
   cases h:dA ds es with
   | false=>rfl
   | true=>exact absurd (lV h) hl
  rw [e] at k
  exact k
end
end L2
set_option Elab.async false
set_option linter.all false
set_option maxRecDepth 100000
namespace L2
open PySem
def keyLt:Sum Int Str->Sum Int Str->Bool
 | .inl a,.inl b=>decide (a < b)
 | .inr a,.inr b=>decide (a.cps.toList < b.cps.toList)
 | _,_=>false
def AO:List (Sum Int Str)->List (Sum Int Str)->Bool
 | [],[]=>false
 | [],_ :: _=>true
 | _ :: _,[]=>false
 | x :: xs,y :: ys=>if x=y then AO xs ys else keyLt x y
def AQ:Sum Int Str->Bool
 | .inl _=>true
 | .inr _=>false
abbrev shape (ks:List (Sum Int Str)):List Bool:=ks.map AQ
end L2
namespace L2
open PySem PySem.W PyProof.Rows
section
variable (lt:Nat->Nat->Bool)
abbrev pa' (p:Array Nat) (i:Nat):Nat:=p.getD i 0
def NIc (p:Array Nat) (k:Nat):Prop:=∀ i j,i<=j->j < k->lt (pa' p i) (pa' p j)=false
end
structure CO (lt:Nat->Nat->Bool) (p:Array Nat) (n f:Nat) (r:Array Nat×Nat×Nat):Prop where
 perm:r.1.Perm p
 lo:n<=r.2.1
 hi:r.2.1<=n+f
 q:r.2.2+1<=r.2.1
 ni:NIc lt r.1 r.2.1
 eq:∀ i j,r.2.1 - (r.2.2+1)<=i->i < r.2.1->r.2.1 - (r.2.2+1)<=j->j < r.2.1->lt (pa' r.1 i) (pa' r.1 j)=false
section
variable {lt:Nat->Nat->Bool} (tr:∀ i j k,lt j i=false->lt k j=false->lt k i=false) (as:∀ i j,lt i j=true->lt j i=false)
include tr as
end
end L2
set_option Elab.async false
set_option linter.all false
set_option maxRecDepth 100000
namespace L2
open PySem PySem.Spec PyProof.Rows PySem.SeqAt PySem.W
section
variable {n:Nat} (hn:0 < n)
include hn
end
section
variable {prog:Program} {w:World} {A:Around} {E:Value->Shared->Prop} {s:Shared}
end
end L2
set_option Elab.async false
set_option linter.all false
set_option maxRecDepth 100000
namespace L2
open PySem PySem.Spec PyProof.Rows PySem.SeqAt PySem.W
section
variable {prog:Program} {w:World} {A:Around} {E:Value->Shared->Prop} {s:Shared}
end
end L2
set_option Elab.async false
set_option linter.all false
set_option maxRecDepth 100000
namespace L2
open PySem PySem.Spec PyProof.Rows PySem.SeqAt PySem.W
section
variable {X:Cx} {pins:List (Addr×Obj)} {σ:St} {H:Hp} {s:Shared} {h':Heap}
end
section
variable {X:Cx}
end
end L2
set_option Elab.async false
set_option linter.all false
set_option maxRecDepth 100000
namespace L2
open PySem PySem.Spec PyProof.Rows
section
variable {prog:Program} {w:World} {K:Type} [DecidableEq K] {knd:KeyKind prog w K} {A:Around} {R:Result->Shared->Prop}
end
end L2
set_option Elab.async false
set_option linter.all false
set_option maxRecDepth 100000
namespace L2
open PySem PySem.Spec PyProof.Rows
section
variable {prog:Program} {w:World} {K:Type} [DecidableEq K] {A:Around} {E:Value->Shared->Prop} {s:Shared}
end
section
variable {prog:Program} {w:World} {K:Type} [DecidableEq K]
end
end L2
set_option Elab.async false
set_option linter.all false
set_option maxRecDepth 100000
namespace L2
open PySem PySem.Spec PyProof.Rows
section
variable {prog:Program} {w:World} {A:Around} {E:Value->Shared->Prop} {s:Shared} {v dc it:Addr} {oc:Obj} {es:Array DictEntry} {ep:Nat}
end
end L2
set_option Elab.async false
set_option linter.all false
set_option maxRecDepth 100000
namespace L2
open PySem PySem.Spec PyProof.Rows
namespace FR
end FR
section
variable {prog:Program} {w:World} {A:Around} {E:Value->Shared->Prop} {s:Shared} {it l:Addr} {items:Array Value}
end
end L2
set_option Elab.async false
set_option linter.all false
set_option maxRecDepth 100000
namespace L2
open PySem PySem.Spec PyProof.Rows
section
variable {prog:Program} {w:World} {A:Around} {E:Value->Shared->Prop} {s:Shared} {v dc it:Addr} {oc:Obj} {es:Array DictEntry} {ep:Nat} {ok ov:Value}
end
end L2
set_option Elab.async false
set_option linter.all false
set_option maxRecDepth 1000000
set_option maxHeartbeats 4000000
namespace L2
open PySem PySem.Spec PyProof.Rows
section
variable {prog:Program} {w:World} {A:Around} {E:Value->Shared->Prop} {s:Shared} {v dc it:Addr} {oc:Obj} {es:Array DictEntry} {ep:Nat}
end
end L2
set_option Elab.async false
set_option linter.all false
set_option maxRecDepth 1000000
set_option maxHeartbeats 4000000
namespace L2
open PySem PySem.Spec PyProof.Rows
structure TOk (bt:Bool) (t:SetTable):Prop where
 dum:t.dummies=#[]
 led:bt=false->t.led=true
 ris:t.plain=true->t.place.toList.Pairwise (· < ·)
end L2
set_option Elab.async false
set_option linter.all false
set_option maxRecDepth 1000000
set_option maxHeartbeats 4000000
namespace L2
open PySem PySem.Spec PyProof.Rows
section
variable {prog:Program} {w:World} {A:Around} {E:Value->Shared->Prop} {s:Shared} {a:Addr}
end
end L2
set_option Elab.async false
set_option linter.all false
set_option maxRecDepth 1000000
set_option maxHeartbeats 4000000
namespace L2
open PySem PySem.Spec PyProof.Rows
section
variable {prog:Program} {w:World} {A:Around} {E:Value->Shared->Prop} {s:Shared} {a:Addr}
end
end L2
set_option Elab.async false
set_option linter.all false
set_option maxRecDepth 1000000
set_option maxHeartbeats 4000000
namespace L2
open PySem PySem.Spec PyProof.Rows
section
variable {prog:Program} {w:World} {A:Around} {E:Value->Shared->Prop} {s:Shared} {a it:Addr} {o:Obj} {es:Array (Int×Value)} {ep:Nat} {t:SetTable}
end
end L2
set_option Elab.async false
set_option linter.all false
set_option maxRecDepth 1000000
set_option maxHeartbeats 4000000
namespace L2
open PySem PySem.Spec PyProof.Rows
section
variable {prog:Program} {w:World} {A:Around} {E:Value->Shared->Prop} {s:Shared} {a it:Addr} {o:Obj} {es:Array (Int×Value)} {ep:Nat} {t:SetTable}
end
end L2
set_option Elab.async false
set_option linter.all false
set_option maxRecDepth 1000000
set_option maxHeartbeats 4000000
namespace L2
open PySem PySem.Spec PyProof.Rows
section
variable {prog:Program} {w:World} {A:Around} {E:Value->Shared->Prop} {s:Shared} {a it:Addr} {o:Obj} {es:Array (Int×Value)} {ep:Nat} {t:SetTable}
end
end L2
set_option Elab.async false
set_option linter.all false
set_option maxRecDepth 1000000
set_option maxHeartbeats 4000000
namespace L2
open PySem PySem.Spec PyProof.Rows
section
variable {prog:Program} {w:World} {A:Around} {E:Value->Shared->Prop} {s:Shared} {a:Addr}
end
end L2
set_option Elab.async false
set_option linter.all false
set_option maxRecDepth 1000000
set_option maxHeartbeats 4000000
namespace L2
open PySem PySem.Spec PyProof.Rows
section
variable {prog:Program} {w:World} {A:Around} {E:Value->Shared->Prop} {s:Shared} {a:Addr}
end
end L2
set_option Elab.async false
set_option linter.all false
set_option maxRecDepth 100000
namespace L2
open PySem PySem.Spec PyProof.Rows PySem.SeqAt PySem.W
section
variable {prog:Program} {w:World} {A:Around} {E:Value->Shared->Prop} {s:Shared} {a kS:Addr} {b:Bool} {vs ks:List Value}
end
end L2
set_option Elab.async false
set_option linter.all false
set_option maxRecDepth 100000
namespace L2
open PySem PySem.Spec PyProof.Rows PySem.SeqAt
inductive PV where
 | non | bl (b:Bool) | int (i:Int) | str (x:Str) | tup (xs:List PV) | ref (n:Nat) | ty (n:String) | fl (xs:List PV)
mutual
def PV.beq:PV->PV->Bool
 | .non,.non=>true
 | .bl a,.bl b=>a == b
 | .int a,.int b=>a == b
 | .str a,.str b=>a == b
 | .tup a,.tup b=>PV.beqs a b
 | .ref a,.ref b=>a == b
 | .ty a,.ty b=>a == b
 | .fl a,.fl b=>PV.beqs a b
 | _,_=>false
def PV.beqs:List PV->List PV->Bool
 | [],[]=>true
 | x :: xs,y :: ys=>PV.beq x y && PV.beqs xs ys
 | _,_=>false
end
mutual
theorem PV.beq_self:∀ x:PV,PV.beq x x=true
 | .non=>rfl
 | .bl a=>by simp [PV.beq]
 | .int a=>by simp [PV.beq]
 | .str a=>by simp [PV.beq]
 | .tup a=>by simp only [PV.beq]; exact PV.beqs_self a
 | .ref a=>by simp [PV.beq]
 | .ty a=>by simp [PV.beq]
 | .fl a=>by simp only [PV.beq]; exact PV.beqs_self a
theorem PV.beqs_self:∀ x:List PV,PV.beqs x x=true
 | []=>rfl
 | x :: xs=>by simp only [PV.beqs,PV.beq_self x,PV.beqs_self xs,Bool.and_self]
end
mutual
theorem PV.beq_eq:∀ {x y:PV},PV.beq x y=true->x=y
 | .non,y,h=>by cases y <;> first | rfl | (simp [PV.beq] at h)
 | .bl a,y,h=>by cases y <;> first | (simp [PV.beq] at h; rw [h]) | (simp [PV.beq] at h)
 | .int a,y,h=>by cases y <;> first | (simp [PV.beq] at h; rw [h]) | (simp [PV.beq] at h)
 | .str a,y,h=>by cases y <;> first | (simp [PV.beq] at h; rw [h]) | (simp [PV.beq] at h)
 | .tup a,y,h=>by
  cases y with
  | tup b=>simp only [PV.beq] at h; rw [PV.beqs_eq h]
  | _=>simp [PV.beq] at h
 | .ref a,y,h=>by cases y <;> first | (simp [PV.beq] at h; rw [h]) | (simp [PV.beq] at h)
 | .ty a,y,h=>by cases y <;> first | (simp [PV.beq] at h; rw [h]) | (simp [PV.beq] at h)
 | .fl a,y,h=>by
  cases y with
  | fl b=>simp only [PV.beq] at h; rw [PV.beqs_eq h]
  | _=>simp [PV.beq] at h
theorem PV.beqs_eq:∀ {x y:List PV},PV.beqs x y=true->x=y
 | [],y,h=>by cases y <;> first | rfl | (simp [PV.beqs] at h)
 | x :: xs,y,h=>by
  cases y with
  | nil=>simp [PV.beqs] at h
  | cons y ys=>
   simp only [PV.beqs,Bool.and_eq_true] at h
   rw [PV.beq_eq h.1,PV.beqs_eq h.2]
end
instance:DecidableEq PV:=fun x y=>match h:PV.beq x y with
 | true=>isTrue (PV.beq_eq h)
 | false=>isFalse fun e=>by rw [e,PV.beq_self] at h; cases h
def PV.ky:Nat->PV->Bool
 | _,.int _=>true
 | _,.str _=>true
 | n+1,.tup xs=>xs.all (PV.ky n)
 | _,_=>false
section
variable (w:World)
mutual
def hsh:PV->Int
 | .int i=>xA w (.inl i)
 | .str x=>xA w (.inr x)
 | .tup xs=>reduceHash (Builtin.Tuple.tupleHashOf (AR xs))
 | _=>0
def AR:List PV->List Int
 | []=>[]
 | x :: xs=>hsh x :: AR xs
end
end
section
variable {prog:Program} {w:World}
end
def dDO (w:World) (a:Addr) (ks:List (PV×Addr×V)):HO:=.ext fun h=>ks.length<=sizeLine/\(a == sysModules)=false/\∃ xs:List (PV×Addr×Value),
 Paired (fun (p:PV×Addr×V) (q:PV×Addr×Value)=>p.1=q.1/\p.2.1=q.2.1/\RelV p.2.2 q.2.2) ks xs/\
 ∃ o es ep,h.get? a=some o/\o.ExactDict/\o.data=.dict es ep/\es.toList=xs.map (fun x=>(⟨hsh w x.1,.ref x.2.1,x.2.2⟩:DictEntry))/\(xs.map (·.1)).Nodup
def AS (kd:Nat) (v d:Addr):HO:=.ext fun h=>match kd with
 | 0=>h.IsItemsView v d
 | 1=>h.IsValuesView v d
 | _=>∃ o,h.get? v=some o/\o.cls=.type "dict_keys" /\ o.data=.fields #[.ref d]
end L2
set_option Elab.async false
set_option linter.all false
set_option maxRecDepth 100000
namespace L2
open PySem PySem.Spec PyProof.Rows
inductive MO where
 | lst (xs:List PV)
 | dK (kvs:List (Key×PV))
 | ins (C:Str) (fs:List (Str×PV))
 | dD (kvs:List (PV×PV))
 | vw (kd d:Nat)
 | fz (o:MO)
abbrev PH:=List MO
abbrev Ev:=List (Option PV)
structure PX where
 cls:Str
 fs:List (Str×PV)
inductive Rs (α:Type) where
 | ok (a:α) (h:PH)
 | exc (x:PX) (h:PH)
 | bad
inductive Fl where
 | nx (δ:Ev) (h:PH)
 | rt (p:PV) (h:PH)
 | bk (δ:Ev) (h:PH)
 | ct (δ:Ev) (h:PH)
 | exc (x:PX) (h:PH)
 | bad
abbrev Me:=Ev->PH->Rs PV
abbrev Ms:=Ev->PH->Fl
abbrev Fn:=List PV->PH->Rs PV
def Rs.bind {α β:Type} (r:Rs α) (f:α->PH->Rs β):Rs β:=match r with
 | .ok a h=>f a h
 | .exc x h=>.exc x h
 | .bad=>.bad
@[simp] theorem Rs.bind_ok {α β:Type} (a:α) (h:PH) (f:α->PH->Rs β):(Rs.ok a h).bind f=f a h:=rfl
@[simp] theorem Rs.bind_exc {α β:Type} (x:PX) (h:PH) (f:α->PH->Rs β):(Rs.exc x h:Rs α).bind f=.exc x h:=rfl
@[simp] theorem Rs.bind_bad {α β:Type} (f:α->PH->Rs β):(Rs.bad:Rs α).bind f=.bad:=rfl
structure MC where
 K:PySem.W.Frag
 cl:Str->Option Addr
 bs:List Str
 ex:List Addr->Hp->PX->Prop
 w:World
def SqF (K:PySem.W.Frag) (H:Hp) (a:Addr) (xs:List V):Prop:=
 (∃ o,H a=some (.frz o (.lst xs)))\/
  ∃ (o:Obj) (its:Array Value) (n:Nat),K.lookup a=some o/\o.cls=.type "list" /\ o.dict=none/\o.data=.seq its n/\its.size<=sizeLine/\aQ xs its.toList
theorem SqF.sq {K:PySem.W.Frag} {H:Hp} {a:Addr} {xs:List V} (h:SqF K H a xs):SqL K H a xs:=by
 rcases h with ⟨o,h⟩ | h
 ·exact .inl (.inr ⟨o,h⟩)
 ·exact .inr h
def Kp (H H':Hp):Prop:=dX H H'/\∀ a o u,H a=some (.frz o u)->H' a=some (.frz o u)
theorem Kp.refl (H:Hp):Kp H H:=⟨dX.refl H,fun _ _ _ h=>h⟩
theorem Kp.trans {H H1 H2:Hp} (a:Kp H H1) (b:Kp H1 H2):Kp H H2:=⟨a.1.trans b.1,fun c o u h=>b.2 c o u (a.2 c o u h)⟩
theorem Kp.same {H H':Hp} (s:rP H H'):Kp H H':=⟨dX.same s,fun _ _ _ h=>s _ _ h⟩
theorem Kp.new {H:Hp} {a:Addr} {o:HO} (h:H a=none):Kp H (upd H a o):=Kp.same (rP.upd h)
theorem Kp.upd {H:Hp} {p:Addr} {o:HO} (h:oO (H p)):Kp H (upd H p o):=⟨dX.upd h,fun a ob u q=>by
 have ne:a≠p:=by
  rintro rfl
  rw [q] at h; exact h
 rw [aK ne]; exact q⟩
theorem Kp.lst {H:Hp} {p:Addr} {o:HO} {xs:List V} (h:H p=some (.lst xs)):Kp H (L2.upd H p o):=Kp.upd (by rw [h]; trivial)
theorem Kp.sq {K:PySem.W.Frag} {H H':Hp} {a:Addr} {xs:List V} (t:Kp H H') (h:SqT K H a xs):SqT K H' a xs:=t.1.sq h
theorem Kp.sf {K:PySem.W.Frag} {H H':Hp} {a:Addr} {xs:List V} (t:Kp H H') (h:SqF K H a xs):SqF K H' a xs:=by
 rcases h with ⟨o,h⟩ | h
 ·exact .inl ⟨o,t.2 _ _ _ h⟩
 ·exact .inr h
section
variable (C:MC) (φ:List Addr) (H:Hp)
mutual
def RV:PV->V->Prop
 | .non,v=>v=.non
 | .bl b,v=>v=.bl b
 | .int i,v=>v=.int i
 | .str x,v=>v=.str x
 | .ty n,v=>v=.ty n
 | .tup ps,v=>∃ a vs,v=.ref a/\SqT C.K H a vs/\RVs ps vs
 | .ref n,v=>∃ a,v=.ref a/\φ[n]?=some a
 | .fl ps,v=>∃ a vs,v=.ref a/\SqF C.K H a vs/\RVs ps vs
def RVs:List PV->List V->Prop
 | [],[]=>True
 | p :: ps,v :: vs=>RV p v/\RVs ps vs
 | [],_ :: _=>False
 | _ :: _,[]=>False
end
def RKv {κ:Type}:List (κ×PV)->List (κ×V)->Prop:=Paired fun p q=>p.1=q.1/\RV C φ H p.2 q.2
def RKd:List (PV×PV)->List (PV×Addr×V)->Prop:=Paired fun p q=>p.1=q.1/\p.1.ky 6=true/\RV C φ H p.1 (.ref q.2.1)/\RV C φ H p.2 q.2.2
def RO (a:Addr):MO->Prop
 | .lst ps=>∃ vs,H a=some (.lst vs)/\RVs C φ H ps vs
 | .dK kvs=>∃ ks,H a=some (.dK ks)/\RKv C φ H kvs ks
 | .ins n fs=>∃ c dx ks,C.cl n=some c/\H a=some (.ins c dx ks)/\RKv C φ H fs ks
 | .dD kvs=>∃ ks,H a=some (dDO C.w a ks)/\RKd C φ H kvs ks
 | .vw kd d=>∃ b,φ[d]?=some b/\H a=some (AS kd a b)
 | .fz (.dK kvs)=>∃ ob ks,H a=some (.frz ob (.dK ks))/\RKv C φ H kvs ks
 | .fz (.dD kvs)=>∃ ob ks,H a=some (.frz ob (dDO C.w a ks))/\RKd C φ H kvs ks
 | .fz _=>False
structure RH (h:PH):Prop where
 len:φ.length=h.length
 nd:φ.Nodup
 at':∀ (n:Nat) (a:Addr) (o:MO),φ[n]?=some a->h[n]?=some o->RO C φ H a o
def RE (δ:Ev) (σ:St):Prop:=δ.length=σ.length/\∀ (i:Nat) (p:PV),δ[i]?=some (some p)->∃ v,σ[i]?=some (some v)/\RV C φ H p v
end
section
variable {C:MC} {φ φ':List Addr} {H H':Hp}
theorem kO {α:Type} {l l':List α} (p:l<+:l') {n:Nat} {a:α} (h:l[n]?=some a):l'[n]?=some a:=by
 obtain ⟨t,rfl⟩:=p
 have:=(List.getElem?_eq_some_iff.mp h).1
 rw [List.getElem?_append_left this]
 exact h
def Kq (H H':Hp):Prop:=dX H H'/\∀ a o xs,H a=some (.frz o (.lst xs))->H' a=some (.frz o (.lst xs))
theorem Kp.q (t:Kp H H'):Kq H H':=⟨t.1,fun a o xs h=>t.2 a o _ h⟩
theorem Kq.sq {K:PySem.W.Frag} {a:Addr} {xs:List V} (t:Kq H H') (h:SqT K H a xs):SqT K H' a xs:=t.1.sq h
theorem Kq.sf {K:PySem.W.Frag} {a:Addr} {xs:List V} (t:Kq H H') (h:SqF K H a xs):SqF K H' a xs:=by
 rcases h with ⟨o,h⟩ | h
 ·exact .inl ⟨o,t.2 _ _ _ h⟩
 ·exact .inr h
mutual
theorem RV.monoQ (p:φ<+:φ') (t:Kq H H'):∀ {x:PV} {v:V},RV C φ H x v->RV C φ' H' x v
 | .non,_,h=>h
 | .bl _,_,h=>h
 | .int _,_,h=>h
 | .str _,_,h=>h
 | .ty _,_,h=>h
 | .tup _,_,⟨a,vs,e,q,r⟩=>⟨a,vs,e,t.sq q,RVs.monoQ p t r⟩
 | .ref _,_,⟨a,e,q⟩=>⟨a,e,kO p q⟩
 | .fl _,_,⟨a,vs,e,q,r⟩=>⟨a,vs,e,t.sf q,RVs.monoQ p t r⟩
theorem RVs.monoQ (p:φ<+:φ') (t:Kq H H'):∀ {xs:List PV} {vs:List V},RVs C φ H xs vs->RVs C φ' H' xs vs
 | [],[],_=>trivial
 | _ :: _,_ :: _,⟨h,r⟩=>⟨RV.monoQ p t h,RVs.monoQ p t r⟩
 | [],_ :: _,h=>h.elim
 | _ :: _,[],h=>h.elim
end
theorem RV.mono (p:φ<+:φ') (t:Kp H H') {x:PV} {v:V} (h:RV C φ H x v):RV C φ' H' x v:=RV.monoQ p t.q h
theorem RVs.mono (p:φ<+:φ') (t:Kp H H') {xs:List PV} {vs:List V} (h:RVs C φ H xs vs):RVs C φ' H' xs vs:=RVs.monoQ p t.q h
theorem RVs.length:∀ {xs:List PV} {vs:List V},RVs C φ H xs vs->xs.length=vs.length
 | [],[],_=>rfl
 | _ :: _,_ :: _,⟨_,r⟩=>by simp [RVs.length r]
 | [],_ :: _,h=>h.elim
 | _ :: _,[],h=>h.elim
theorem RVs.get:∀ {xs:List PV} {vs:List V} {i:Nat} {v:V},RVs C φ H xs vs->vs[i]?=some v->∃ x,xs[i]?=some x/\RV C φ H x v
 | [],[],_,_,_,e=>by simp at e
 | x :: _,w :: _,0,v,⟨h,_⟩,e=>by
  have:w=v:=by simpa using e
  subst this
  exact ⟨x,rfl,h⟩
 | _ :: xs,_ :: vs,i+1,v,⟨_,r⟩,e=>by
  obtain ⟨x,h1,h2⟩:=RVs.get (xs:=xs) (vs:=vs) (i:=i) (v:=v) r (by simpa using e)
  exact ⟨x,by simpa using h1,h2⟩
 | [],_ :: _,_,_,h,_=>h.elim
 | _ :: _,[],_,_,h,_=>h.elim
theorem RVs.at:∀ {xs:List PV} {vs:List V} {i:Nat} {x:PV},RVs C φ H xs vs->xs[i]?=some x->∃ v,vs[i]?=some v/\RV C φ H x v
 | [],[],_,_,_,e=>by simp at e
 | x :: _,w :: _,0,x',⟨h,_⟩,e=>by
  have:x=x':=by simpa using e
  subst this
  exact ⟨w,rfl,h⟩
 | _ :: xs,_ :: vs,i+1,x,⟨_,r⟩,e=>by
  obtain ⟨v,h1,h2⟩:=RVs.at (xs:=xs) (vs:=vs) (i:=i) (x:=x) r (by simpa using e)
  exact ⟨v,by simpa using h1,h2⟩
 | [],_ :: _,_,_,h,_=>h.elim
 | _ :: _,[],_,_,h,_=>h.elim
theorem RVs.append:∀ {xs ys:List PV} {vs us:List V},RVs C φ H xs vs->RVs C φ H ys us->RVs C φ H (xs++ys) (vs++us)
 | [],_,[],_,_,h=>h
 | _ :: _,_,_ :: _,_,⟨h,r⟩,h'=>⟨h,RVs.append r h'⟩
 | [],_,_ :: _,_,h,_=>h.elim
 | _ :: _,_,[],_,h,_=>h.elim
theorem RVs.snoc {xs:List PV} {vs:List V} {x:PV} {v:V} (r:RVs C φ H xs vs) (h:RV C φ H x v):RVs C φ H (xs++[x]) (vs++[v]):=r.append ⟨h,trivial⟩
theorem RVs.drop:∀ {xs:List PV} {vs:List V} (n:Nat),RVs C φ H xs vs->RVs C φ H (xs.drop n) (vs.drop n)
 | _,_,0,h=>h
 | [],[],_+1,_=>trivial
 | _ :: _,_ :: _,n+1,⟨_,r⟩=>RVs.drop n r
 | [],_ :: _,_+1,h=>h.elim
 | _ :: _,[],_+1,h=>h.elim
theorem RVs.take:∀ {xs:List PV} {vs:List V} (n:Nat),RVs C φ H xs vs->RVs C φ H (xs.take n) (vs.take n)
 | [],[],0,_=>trivial
 | _ :: _,_ :: _,0,_=>trivial
 | [],[],_+1,_=>trivial
 | _ :: _,_ :: _,n+1,⟨h,r⟩=>⟨h,RVs.take n r⟩
 | [],_ :: _,_,h=>h.elim
 | _ :: _,[],_,h=>h.elim
theorem RKv.monoQ {κ:Type} (p:φ<+:φ') (t:Kq H H') {x:List (κ×PV)} {v:List (κ×V)} (h:RKv C φ H x v):RKv C φ' H' x v:=Paired.mapP h fun _ _ q=>⟨q.1,q.2.monoQ p t⟩
theorem RKd.monoQ (p:φ<+:φ') (t:Kq H H') {x:List (PV×PV)} {v:List (PV×Addr×V)} (h:RKd C φ H x v):RKd C φ' H' x v:=Paired.mapP h fun _ _ q=>⟨q.1,q.2.1,q.2.2.1.monoQ p t,q.2.2.2.monoQ p t⟩
theorem RE.mono (p:φ<+:φ') (t:Kp H H') {δ:Ev} {σ:St} (h:RE C φ H δ σ):RE C φ' H' δ σ:=⟨h.1,fun i x e=>let ⟨v,q,r⟩:=h.2 i x e; ⟨v,q,r.mono p t⟩⟩
theorem RE.set {δ:Ev} {σ:St} {x:PV} {v:V} (h:RE C φ H δ σ) (r:RV C φ H x v) (i:Nat):RE C φ H (δ.set i (some x)) (σ.set i (some v)):=by
 refine ⟨by rw [List.length_set,List.length_set]; exact h.1,fun j p e=>?_⟩
 by_cases hj:i=j
 ·subst hj
  by_cases hl:i < δ.length
  ·rw [List.getElem?_set_self hl] at e
   cases e
   exact ⟨v,by rw [List.getElem?_set_self (by rw [<- h.1]; exact hl)],r⟩
  ·rw [List.getElem?_eq_none (by rw [List.length_set]; omega)] at e
   cases e
 ·rw [List.getElem?_set_ne hj] at e
  rw [List.getElem?_set_ne hj]
  exact h.2 j p e
theorem RO.stayQ {a:Addr} {o:MO} (p:φ<+:φ') (t:Kq H H') (e:H' a=H a) (h:RO C φ H a o):RO C φ' H' a o:=by
 cases o with
 | lst ps=>obtain ⟨vs,q,r⟩:=h; exact ⟨vs,e.trans q,r.monoQ p t⟩
 | dK ps=>obtain ⟨vs,q,r⟩:=h; exact ⟨vs,e.trans q,r.monoQ p t⟩
 | ins n fs=>obtain ⟨c,dx,ks,hc,q,r⟩:=h; exact ⟨c,dx,ks,hc,e.trans q,r.monoQ p t⟩
 | dD kvs=>obtain ⟨ks,q,r⟩:=h; exact ⟨ks,e.trans q,r.monoQ p t⟩
 | vw kd d=>obtain ⟨b,hb,q⟩:=h; exact ⟨b,kO p hb,e.trans q⟩
 | fz o=>
  cases o with
  | dK kvs=>obtain ⟨ob,ks,q,r⟩:=h; exact ⟨ob,ks,e.trans q,r.monoQ p t⟩
  | dD kvs=>obtain ⟨ob,ks,q,r⟩:=h; exact ⟨ob,ks,e.trans q,r.monoQ p t⟩
  | _=>exact h.elim
theorem RO.stay {a:Addr} {o:MO} (p:φ<+:φ') (t:Kp H H') (e:H' a=H a) (h:RO C φ H a o):RO C φ' H' a o:=h.stayQ p t.q e
theorem RO.some {a:Addr} {o:MO} (h:RO C φ H a o):∃ u,H a=some u:=by
 cases o with
 | lst ps=>obtain ⟨vs,q,r⟩:=h; exact ⟨_,q⟩
 | dK ps=>obtain ⟨vs,q,r⟩:=h; exact ⟨_,q⟩
 | ins n fs=>obtain ⟨c,dx,ks,hc,q,r⟩:=h; exact ⟨_,q⟩
 | dD kvs=>obtain ⟨ks,q,r⟩:=h; exact ⟨_,q⟩
 | vw kd d=>obtain ⟨b,hb,q⟩:=h; exact ⟨_,q⟩
 | fz o=>
  cases o with
  | dK kvs=>obtain ⟨ob,ks,q,r⟩:=h; exact ⟨_,q⟩
  | dD kvs=>obtain ⟨ob,ks,q,r⟩:=h; exact ⟨_,q⟩
  | _=>exact h.elim
theorem RH.get {h:PH} (r:RH C φ H h) {n:Nat} {o:MO} (e:h[n]?=some o):∃ a,φ[n]?=some a/\RO C φ H a o:=by
 have hn:=(List.getElem?_eq_some_iff.mp e).1
 have:n < φ.length:=by rw [r.len]; exact hn
 exact ⟨φ[n],by simp [this],r.at' n _ o (by simp [this]) e⟩
theorem RH.tracked {h:PH} (r:RH C φ H h) {n:Nat} {a:Addr} (e:φ[n]?=some a):∃ u,H a=some u:=by
 have hn:=(List.getElem?_eq_some_iff.mp e).1
 have:n < h.length:=by rw [<- r.len]; exact hn
 exact (r.at' n a h[n] e (by simp [this])).some
theorem RH.aside {h:PH} (r:RH C φ H h) {a:Addr} {o:HO} (e:H a=none):RH C φ (upd H a o) h:=
 ⟨r.len,r.nd,fun n b ob h1 h2=>by
  have q:=r.at' n b ob h1 h2
  obtain ⟨u,hu⟩:=q.some
  exact q.stay (List.prefix_rfl) (Kp.new e) (aK (bR hu e))⟩
theorem RH.new {h:PH} (r:RH C φ H h) {a:Addr} {u:HO} {o:MO} (e:H a=none) (q:RO C (φ++[a]) (upd H a u) a o):RH C (φ++[a]) (upd H a u) (h++[o]):=by
 refine ⟨by simp [r.len],?_,fun n b ob h1 h2=>?_⟩
 ·rw [List.nodup_append]
  refine ⟨r.nd,by simp,fun x hx y hy z=>?_⟩
  rw [List.mem_singleton] at hy
  subst hy z
  obtain ⟨n,hn⟩:=List.mem_iff_getElem?.mp hx
  obtain ⟨u',hu⟩:=r.tracked hn
  rw [e] at hu; cases hu
 ·by_cases hn:n < φ.length
  ·rw [List.getElem?_append_left hn] at h1
   rw [List.getElem?_append_left (by rw [<- r.len]; exact hn)] at h2
   have q':=r.at' n b ob h1 h2
   obtain ⟨u',hu⟩:=q'.some
   exact q'.stay (List.prefix_append _ _) (Kp.new e) (aK (bR hu e))
  ·have hn':n=φ.length:=by
    have:=(List.getElem?_eq_some_iff.mp h1).1
    simp at this
    omega
   subst hn'
   rw [List.getElem?_append_right (Nat.le_refl _),Nat.sub_self] at h1
   rw [r.len,List.getElem?_append_right (Nat.le_refl _),Nat.sub_self] at h2
   cases h1
   cases h2
   exact q
theorem RH.write {h:PH} (r:RH C φ H h) {n:Nat} {a:Addr} {u:HO} {o:MO} (e:φ[n]?=some a) (t:oO (H a)) (q:RO C φ (upd H a u) a o):RH C φ (upd H a u) (h.set n o):=by
 refine ⟨by rw [List.length_set]; exact r.len,r.nd,fun m b ob h1 h2=>?_⟩
 by_cases hm:n=m
 ·subst hm
  rw [e] at h1; cases h1
  have hl:n < h.length:=by rw [<- r.len]; exact (List.getElem?_eq_some_iff.mp e).1
  rw [List.getElem?_set_self hl] at h2
  cases h2
  exact q
 ·rw [List.getElem?_set_ne hm] at h2
  have hb:b≠a:=fun z=>by
   subst z
   exact hm ((List.getElem?_inj (List.getElem?_eq_some_iff.mp e).1 r.nd).mp (e.trans h1.symm))
  exact (r.at' m b ob h1 h2).stay List.prefix_rfl (Kp.upd t) (aK hb)
end
section
variable (C:MC) (φ:List Addr) (H:Hp)
def post (r:Rs PV) (Q:VK):Prop:=match r with
 | .ok p h=>∀ φ' v H',φ<+:φ'->Kp H H'->RH C φ' H' h->RV C φ' H' p v->Q v H'
 | .exc x h=>∀ φ' H',φ<+:φ'->Kp H H'->RH C φ' H' h->C.ex φ' H' x
 | .bad=>False
def bJ (r:Rs Bool) (Q:Bool->Hp->Prop):Prop:=match r with
 | .ok b h=>∀ φ' H',φ<+:φ'->Kp H H'->RH C φ' H' h->Q b H'
 | .exc x h=>∀ φ' H',φ<+:φ'->Kp H H'->RH C φ' H' h->C.ex φ' H' x
 | .bad=>False
def postA (r:Rs (List PV)) (Q:List V->Hp->Prop):Prop:=match r with
 | .ok ps h=>∀ φ' vs H',φ<+:φ'->Kp H H'->RH C φ' H' h->RVs C φ' H' ps vs->Q vs H'
 | .exc x h=>∀ φ' H',φ<+:φ'->Kp H H'->RH C φ' H' h->C.ex φ' H' x
 | .bad=>False
def bK (r:Fl) (D:Ends):Prop:=match r with
 | .nx δ h=>∀ φ' σ H',φ<+:φ'->Kp H H'->RH C φ' H' h->RE C φ' H' δ σ->D.nx σ H'
 | .rt p h=>∀ φ' v H',φ<+:φ'->Kp H H'->RH C φ' H' h->RV C φ' H' p v->D.rt v H'
 | .bk δ h=>∀ φ' σ H',φ<+:φ'->Kp H H'->RH C φ' H' h->RE C φ' H' δ σ->D.bk σ H'
 | .ct δ h=>∀ φ' σ H',φ<+:φ'->Kp H H'->RH C φ' H' h->RE C φ' H' δ σ->D.ct σ H'
 | .exc x h=>∀ φ' H',φ<+:φ'->Kp H H'->RH C φ' H' h->C.ex φ' H' x
 | .bad=>False
end
section
variable {C:MC} {φ φ1:List Addr} {H H1:Hp}
theorem post.weak {r:Rs PV} {Q:VK} (p:φ<+:φ1) (t:Kp H H1) (h:post C φ H r Q):post C φ1 H1 r Q:=by
 cases r with
 | ok a h'=>exact fun φ' v H' p' t'=>h φ' v H' (p.trans p') (t.trans t')
 | exc a h'=>exact fun φ' H' p' t'=>h φ' H' (p.trans p') (t.trans t')
 | bad=>exact h
theorem bJ.weak {r:Rs Bool} {Q:Bool->Hp->Prop} (p:φ<+:φ1) (t:Kp H H1) (h:bJ C φ H r Q):bJ C φ1 H1 r Q:=by
 cases r with
 | ok a h'=>exact fun φ' H' p' t'=>h φ' H' (p.trans p') (t.trans t')
 | exc a h'=>exact fun φ' H' p' t'=>h φ' H' (p.trans p') (t.trans t')
 | bad=>exact h
theorem postA.weak {r:Rs (List PV)} {Q:List V->Hp->Prop} (p:φ<+:φ1) (t:Kp H H1) (h:postA C φ H r Q):postA C φ1 H1 r Q:=by
 cases r with
 | ok a h'=>exact fun φ' v H' p' t'=>h φ' v H' (p.trans p') (t.trans t')
 | exc a h'=>exact fun φ' H' p' t'=>h φ' H' (p.trans p') (t.trans t')
 | bad=>exact h
theorem bK.weak {r:Fl} {D:Ends} (p:φ<+:φ1) (t:Kp H H1) (h:bK C φ H r D):bK C φ1 H1 r D:=by
 cases r with
 | nx a h'=>exact fun φ' v H' p' t'=>h φ' v H' (p.trans p') (t.trans t')
 | rt a h'=>exact fun φ' v H' p' t'=>h φ' v H' (p.trans p') (t.trans t')
 | bk a h'=>exact fun φ' v H' p' t'=>h φ' v H' (p.trans p') (t.trans t')
 | ct a h'=>exact fun φ' v H' p' t'=>h φ' v H' (p.trans p') (t.trans t')
 | exc a h'=>exact fun φ' H' p' t'=>h φ' H' (p.trans p') (t.trans t')
 | bad=>exact h
theorem post.imp {r:Rs PV} {Q Q':VK} (h:post C φ H r Q) (i:∀ v H',Q v H'->Q' v H'):post C φ H r Q':=by
 cases r with
 | ok a h'=>exact fun φ' v H' p t rh rv=>i v H' (h φ' v H' p t rh rv)
 | exc a h'=>exact h
 | bad=>exact h
theorem post.bind {r:Rs PV} {f:PV->PH->Rs PV} {Q:VK} (h:post C φ H (r.bind f) Q):post C φ H r fun v H1=>∃ φ1 p h1,φ<+:φ1/\Kp H H1/\RH C φ1 H1 h1/\RV C φ1 H1 p v/\post C φ1 H1 (f p h1) Q:=by
 cases r with
 | ok a h'=>exact fun φ' v H' p t rh rv=>⟨φ',a,h',p,t,rh,rv,post.weak p t h⟩
 | exc a h'=>exact h
 | bad=>exact h
theorem post.bindB {r:Rs PV} {f:PV->PH->Rs Bool} {Q:Bool->Hp->Prop} (h:bJ C φ H (r.bind f) Q):post C φ H r fun v H1=>∃ φ1 p h1,φ<+:φ1/\Kp H H1/\RH C φ1 H1 h1/\RV C φ1 H1 p v/\bJ C φ1 H1 (f p h1) Q:=by
 cases r with
 | ok a h'=>exact fun φ' v H' p t rh rv=>⟨φ',a,h',p,t,rh,rv,bJ.weak p t h⟩
 | exc a h'=>exact h
 | bad=>exact h
theorem bJ.bindB {r:Rs Bool} {f:Bool->PH->Rs Bool} {Q:Bool->Hp->Prop} (h:bJ C φ H (r.bind f) Q):bJ C φ H r fun b H1=>∃ φ1 h1,φ<+:φ1/\Kp H H1/\RH C φ1 H1 h1/\bJ C φ1 H1 (f b h1) Q:=by
 cases r with
 | ok a h'=>exact fun φ' H' p t rh=>⟨φ',h',p,t,rh,bJ.weak p t h⟩
 | exc a h'=>exact h
 | bad=>exact h
theorem postA.bind {r:Rs (List PV)} {f:List PV->PH->Rs PV} {Q:VK} (h:post C φ H (r.bind f) Q):postA C φ H r fun vs H1=>∃ φ1 ps h1,φ<+:φ1/\Kp H H1/\RH C φ1 H1 h1/\RVs C φ1 H1 ps vs/\post C φ1 H1 (f ps h1) Q:=by
 cases r with
 | ok a h'=>exact fun φ' v H' p t rh rv=>⟨φ',a,h',p,t,rh,rv,post.weak p t h⟩
 | exc a h'=>exact h
 | bad=>exact h
theorem postA.bindA {r:Rs (List PV)} {f:List PV->PH->Rs (List PV)} {Q:List V->Hp->Prop} (h:postA C φ H (r.bind f) Q):postA C φ H r fun vs H1=>∃ φ1 ps h1,φ<+:φ1/\Kp H H1/\RH C φ1 H1 h1/\RVs C φ1 H1 ps vs/\postA C φ1 H1 (f ps h1) Q:=by
 cases r with
 | ok a h'=>exact fun φ' v H' p t rh rv=>⟨φ',a,h',p,t,rh,rv,postA.weak p t h⟩
 | exc a h'=>exact h
 | bad=>exact h
theorem post.bindA {r:Rs PV} {f:PV->PH->Rs (List PV)} {Q:List V->Hp->Prop} (h:postA C φ H (r.bind f) Q):post C φ H r fun v H1=>∃ φ1 p h1,φ<+:φ1/\Kp H H1/\RH C φ1 H1 h1/\RV C φ1 H1 p v/\postA C φ1 H1 (f p h1) Q:=by
 cases r with
 | ok a h'=>exact fun φ' v H' p t rh rv=>⟨φ',a,h',p,t,rh,rv,postA.weak p t h⟩
 | exc a h'=>exact h
 | bad=>exact h
theorem post.val {p:PV} {v:V} {h:PH} {Q:VK} (q:post C φ H (.ok p h) Q) (rh:RH C φ H h) (rv:RV C φ H p v):Q v H:=q φ v H List.prefix_rfl (Kp.refl H) rh rv
end
end L2
set_option Elab.async false
set_option linter.all false
set_option maxRecDepth 100000
namespace L2
open PySem PySem.Spec PyProof.Rows
structure Cxt (C:MC) (k:Nat) (X:Cx):Prop where
 K:X.K=C.K
 calm:X.calm=true
 room:cQ k X.A
 bn:∀ x∈C.bs,X.mg x=none
 w:X.w=C.w
theorem Cxt.hu {C:MC} {k:Nat} {X:Cx} (c:Cxt C k X):X.A.units+1 < cLine:=AE c.room
theorem Cxt.hu64 {C:MC} {k:Nat} {X:Cx} (c:Cxt C k X):X.A.units+64 < cLine:=c.room.units
section
variable (C:MC)
def rd (m:Me):TE:=fun σ H Q=>∃ φ δ h,RH C φ H h/\RE C φ H δ σ/\post C φ H (m δ h) Q
def rdB (m:Ev->PH->Rs Bool):TT:=fun σ H Q=>∃ φ δ h,RH C φ H h/\RE C φ H δ σ/\bJ C φ H (m δ h) Q
def rdA (m:Ev->PH->Rs (List PV)):TA:=fun σ H Q=>∃ φ δ h,RH C φ H h/\RE C φ H δ σ/\postA C φ H (m δ h) Q
def rdS (m:Ms):TS:=fun D σ H=>∃ φ δ h,RH C φ H h/\RE C φ H δ σ/\bK C φ H (m δ h) D
def r2 (g:PV->PV->PH->Rs PV):R2:=fun x y H Q=>∃ φ h p q,RH C φ H h/\RV C φ H p x/\RV C φ H q y/\post C φ H (g p q h) Q
def r1 (g:PV->PH->Rs PV):V->Hp->VK->Prop:=fun x H Q=>∃ φ h p,RH C φ H h/\RV C φ H p x/\post C φ H (g p h) Q
def rL (g:List PV->PH->Rs PV):List V->Hp->VK->Prop:=fun xs H Q=>∃ φ h ps,RH C φ H h/\RVs C φ H ps xs/\post C φ H (g ps h) Q
end
variable {C:MC} {k:Nat} {X:Cx}
def SE (C:MC) (k:Nat) (X:Cx) (e:Expr) (m:Me):Prop:=Cxt C k X->PE X e (rd C m)
def ST (C:MC) (k:Nat) (X:Cx) (e:Expr) (m:Ev->PH->Rs Bool):Prop:=Cxt C k X->PT X e (rdB C m)
def SA (C:MC) (k:Nat) (X:Cx) (es:List Expr) (m:Ev->PH->Rs (List PV)):Prop:=Cxt C k X->PA X es (rdA C m)
def SSt (C:MC) (k:Nat) (X:Cx) (st:Stmt) (m:Ms):Prop:=Cxt C k X->PS X st (rdS C m)
def SSs (C:MC) (k:Nat) (X:Cx) (st:List Stmt) (m:Ms):Prop:=Cxt C k X->PSs X st (rdS C m)
def OpS (C:MC) (k:Nat) (X:Cx) (f:Value->Value->Sem Value) (g:PV->PV->PH->Rs PV):Prop:=Cxt C k X->OpR X f (r2 C g)
def UnS (C:MC) (k:Nat) (X:Cx) (f:Value->Sem Value) (g:PV->PH->Rs PV):Prop:=Cxt C k X->UnR X f (r1 C g)
def oP (C:MC) (k:Nat) (X:Cx) (f:Value) (g:List PV->PH->Rs PV):Prop:=Cxt C k X->eI X f (rL C g)
def lW:Ev->Nat->Option PV
 | [],_=>none
 | x :: _,0=>x
 | _ :: r,n+1=>lW r n
@[simp] theorem A5 (x:Option PV) (r:Ev):lW (x :: r) 0=x:=(rfl)
@[simp] theorem A6 (x:Option PV) (r:Ev) (n:Nat):lW (x :: r) (n+1)=lW r n:=(rfl)
theorem lX:∀ {δ:Ev} {i:Nat} {p:PV},lW δ i=some p->δ[i]?=some (some p)
 | [],_,_,h=>by cases h
 | x :: _,0,p,h=>by
  have h':x=some p:=h
  simp [h']
 | _ :: r,n+1,p,h=>by
  rw [List.getElem?_cons_succ]
  exact lX (δ:=r) (i:=n) h
def mV (i:Nat):Me:=fun δ h=>match lW δ i with
 | some p=>.ok p h
 | none=>.bad
def mC (p:PV):Me:=fun _ h=>.ok p h
theorem aA (i:Nat) {x:Str} {pos:Pos} (hN:X.N[i]?=some x:=by rfl) (hv:Vis X.env.scope x:=by first | exact Or.inl rfl | exact Or.inr (Or.inl rfl) | exact Or.inr (Or.inr rfl)) (hd:(x == ("__debug__" : Str))=false:=by decide)
  (hcd:(x == ("__classdict__" : Str))=false:=by decide):SE C k X (.Name x pos) (mV i):=fun _=>by
 refine (kB hN hv hd hcd).imp fun σ H Q h=>?_
 obtain ⟨φ,δ,h,rh,re,p⟩:=h
 unfold mV at p
 cases e:lW δ i with
 | none=>rw [e] at p; exact p.elim
 | some x=>
  rw [e] at p
  obtain ⟨v,hv,rv⟩:=re.2 i x (lX e)
  exact ⟨v,hv,p.val rh rv⟩
theorem aD {i j pos}:SE C k X (.Constant (.int i) j pos) (mC (.int i)):=fun _=>xH.imp fun σ H Q ⟨φ,δ,h,rh,re,p⟩=>p.val rh rfl
theorem rY {i j pos}:SE C k X (.Constant (.bool i) j pos) (mC (.bl i)):=fun _=>Aj.imp fun σ H Q ⟨φ,δ,h,rh,re,p⟩=>p.val rh rfl
theorem iJ {j pos}:SE C k X (.Constant .none j pos) (mC .non):=fun _=>qY.imp fun σ H Q ⟨φ,δ,h,rh,re,p⟩=>p.val rh rfl
theorem oQ {i j pos}:SE C k X (.Constant (.str i) j pos) (mC (.str i)):=fun _=>xJ.imp fun σ H Q ⟨φ,δ,h,rh,re,p⟩=>p.val rh rfl
theorem rZ {x:Str} {n:String} {pos:Pos} (hv:bootBuiltins x=some (.type n)) (hb:x∈C.bs:=by decide) (hg:Gl X x:=by rfl) (hn:x≠"__name__" := by decide) (hd:(x == ("__debug__" : Str))=false:=by decide):SE C k X (.Name x pos) (mC (.ty n)):=fun c=>
 (kC (v:=.ty n) hg (c.bn x hb) hv rfl hn hd).imp fun σ H Q ⟨φ,δ,h,rh,re,p⟩=>p.val rh rfl
def aE (g:PV->PV->PH->Rs PV) (ma mb:Me):Me:=fun δ h=>(ma δ h).bind fun x h1=>(mb δ h1).bind fun y h2=>g x y h2
theorem oR {g:PV->PV->PH->Rs PV} {ma mb:Me} {σ:St} {H:Hp} {Q:VK} (h:rd C (aE g ma mb) σ H Q):tOp (r2 C g) (rd C ma) (rd C mb) σ H Q:=by
 obtain ⟨φ,δ,h,rh,re,p⟩:=h
 refine ⟨φ,δ,h,rh,re,(post.bind p).imp ?_⟩
 rintro v H1 ⟨φ1,x,h1,p1,t1,rh1,rv1,q1⟩
 refine ⟨φ1,δ,h1,rh1,re.mono p1 t1,(post.bind q1).imp ?_⟩
 rintro u H2 ⟨φ2,y,h2,p2,t2,rh2,rv2,q2⟩
 exact ⟨φ2,h2,x,y,rh2,rv1.mono p2 t2,rv2,q2⟩
section
variable {a b e:Expr} {ma mb:Me} {g:PV->PV->PH->Rs PV} {pos:Pos}
theorem aH {op:Operator} (ho:OpS C k X (binaryOp op) g) (ha:SE C k X a ma) (hb:SE C k X b mb):SE C k X (.BinOp a op b pos) (aE g ma mb):=fun c=>
 (Aq (ho c) (ha c) (hb c)).imp fun σ H Q h=>oR h
theorem jP {op:CmpOp} (ho:OpS C k X (compareOp op) g) (ha:SE C k X a ma) (hb:SE C k X b mb) (hm:behindInMarks op b=false:=by first | exact nC _ | rfl):SE C k X (.Compare a [op] [b] pos) (aE g ma mb):=fun c=>
 (oH (ho c) (ha c) (hb c) hm).imp fun σ H Q h=>oR h
def mUn (g:PV->PH->Rs PV) (ma:Me):Me:=fun δ h=>(ma δ h).bind g
theorem yS {op:UnaryOp} {g:PV->PH->Rs PV} (ho:UnS C k X (unaryOp op) g) (ha:SE C k X a ma):SE C k X (.UnaryOp op a pos) (mUn g ma):=fun c=>
 (Ar (ho c) (ha c)).imp fun σ H Q h=>by
  obtain ⟨φ,δ,h,rh,re,p⟩:=h
  refine ⟨φ,δ,h,rh,re,(post.bind p).imp ?_⟩
  rintro v H1 ⟨φ1,x,h1,p1,t1,rh1,rv1,q1⟩
  exact ⟨φ1,h1,x,rh1,rv1,q1⟩
end
def bG (h:PH) (n:Nat):Option (List PV):=match h[n]? with
 | some (.lst xs)=>some xs
 | _=>none
theorem dF {φ:List Addr} {H:Hp} {h:PH} {n:Nat} {xs:List PV} (rh:RH C φ H h) (e:bG h n=some xs):∃ a vs,φ[n]?=some a/\SqL C.K H a vs/\RVs C φ H xs vs:=by
 unfold bG at e
 cases q:h[n]? with
 | none=>rw [q] at e; cases e
 | some o=>
  rw [q] at e
  obtain ⟨a,ha,ro⟩:=rh.get q
  cases o with
  | lst ys=>cases e; obtain ⟨vs,q',r⟩:=ro; exact ⟨a,vs,ha,SqL.of q',r⟩
  | _=>cases e
def eJ (h:PH) (n:Nat):Option (List PV):=match h[n]? with
 | some (.lst xs)=>some xs
 | _=>none
theorem fR {h:PH} {n:Nat} {xs:List PV} (e:eJ h n=some xs):h[n]?=some (.lst xs):=by
 unfold eJ at e
 cases q:h[n]? with
 | none=>rw [q] at e; cases e
 | some o=>
  rw [q] at e
  cases o with
  | lst ys=>cases e; rfl
  | _=>cases e
def iK (x:PV) (h:PH):Option (List PV):=match x with
 | .ref n=>bG h n
 | .fl xs=>some xs
 | _=>none
theorem lY {φ:List Addr} {H:Hp} {h:PH} {x:PV} {v:V} {xs:List PV} (rh:RH C φ H h) (rv:RV C φ H x v) (e:iK x h=some xs):∃ a vs,v=.ref a/\SqL C.K H a vs/\RVs C φ H xs vs:=by
 cases x with
 | ref n=>
  obtain ⟨a,rfl,ha⟩:=rv
  obtain ⟨a2,vs,ha2,sa,ra⟩:=dF rh e
  rw [ha] at ha2; cases ha2
  exact ⟨a,vs,rfl,sa,ra⟩
 | fl ys=>
  cases e
  obtain ⟨a,vs,rfl,sa,ra⟩:=rv
  exact ⟨a,vs,rfl,sa.sq,ra⟩
 | _=>cases e
def wM:List PV->Bool
 | []=>true
 | _ :: _=>false
def yT:PV->PV->PH->Rs PV:=fun x y h=>match x,y with
 | .int i,.int j=>.ok (.int (i+j)) h
 | .str i,.str j=>if i.length+j.length<=sizeLine then .ok (.str (i++j)) h else .bad
 | .tup xs,.tup ys=>if wM xs=false/\xs.length+ys.length<=sizeLine then .ok (.tup (xs++ys)) h else .bad
 | .ref a,.ref b=>match eJ h a,eJ h b with
  | some xs,some ys=>if xs.length+ys.length<=sizeLine then .ok (.ref h.length) (h++[.lst (xs++ys)]) else .bad
  | _,_=>.bad
 | _,_=>.bad
theorem post.ite {φ:List Addr} {H:Hp} {c:Prop} [Decidable c] {r:Rs PV} {Q:VK} (h:post C φ H (if c then r else .bad) Q):c/\post C φ H r Q:=by
 by_cases hc:c
 ·rw [if_pos hc] at h; exact ⟨hc,h⟩
 ·rw [if_neg hc] at h; exact h.elim
theorem post.lnew {φ:List Addr} {H:Hp} {h:PH} {xs:List PV} {vs:List V} {Q:VK} (q:post C φ H (.ok (.ref h.length) (h++[.lst xs])) Q) (rh:RH C φ H h) (r:RVs C φ H xs vs) {p:Addr} (hp:H p=none):Q (.ref p) (upd H p (.lst vs)):=
 q (φ++[p]) (.ref p) _ (List.prefix_append _ _) (Kp.new hp) (rh.new hp ⟨vs,aV,r.mono (List.prefix_append _ _) (Kp.new hp)⟩) ⟨p,rfl,by rw [<- rh.len]; simp⟩
theorem post.tnew {φ:List Addr} {H:Hp} {h:PH} {xs:List PV} {vs:List V} {Q:VK} (q:post C φ H (.ok (.tup xs) h) Q) (rh:RH C φ H h) (r:RVs C φ H xs vs) {p:Addr} (hp:H p=none):Q (.ref p) (upd H p (.tup vs)):=
 q φ (.ref p) _ List.prefix_rfl (Kp.new hp) (rh.aside hp) ⟨p,vs,rfl,SqT.of aV,r.mono List.prefix_rfl (Kp.new hp)⟩
theorem post.lset {φ:List Addr} {H:Hp} {h:PH} {n:Nat} {a:Addr} {p:PV} {v:V} {xs:List PV} {ws vs:List V} {Q:VK} (q:post C φ H (.ok p (h.set n (.lst xs))) Q) (rh:RH C φ H h) (e:φ[n]?=some a) (hl:H a=some (.lst ws)) (r:RVs C φ H xs vs) (rv:RV C φ H p v):Q v (upd H a (.lst vs)):=
 q φ v _ List.prefix_rfl (Kp.lst hl) (rh.write e (by rw [hl]; trivial) ⟨vs,aV,r.mono List.prefix_rfl (Kp.lst hl)⟩) (rv.mono List.prefix_rfl (Kp.lst hl))
theorem sA {xs:List PV} {vs:List V} {φ:List Addr} {H:Hp} (r:RVs C φ H xs vs) (h:wM xs=false):vs≠[]:=by
 cases xs with
 | nil=>cases h
 | cons x xs=>
  cases vs with
  | nil=>exact r.elim
  | cons=>intro z; cases z
theorem AU:OpS C k X (binaryOp .Add) yT:=fun c=>(uM C.K c.K).imp fun x y H Q h=>by
 obtain ⟨φ,h,p,q,rh,rx,ry,po⟩:=h
 unfold yT at po
 cases p with
 | int i=>
  cases q with
  | int j=>cases rx; cases ry; exact po.val rh rfl
  | _=>exact po.elim
 | str i=>
  cases q with
  | str j=>cases rx; cases ry; exact ⟨po.ite.1,po.ite.2.val rh rfl⟩
  | _=>exact po.elim
 | tup xs=>
  cases q with
  | tup ys=>
   obtain ⟨a,vs,rfl,sa,ra⟩:=rx
   obtain ⟨b,us,rfl,sb,rb⟩:=ry
   obtain ⟨⟨h1,h2⟩,po⟩:=po.ite
   refine .inr ⟨a,b,vs,us,rfl,rfl,sa,sb,sA ra h1,by rw [<- ra.length,<- rb.length]; exact h2,fun z=>?_,fun z p hp=>po.tnew rh (ra.append rb) hp⟩
   subst z
   have e:ys=[]:=List.eq_nil_of_length_eq_zero rb.length
   subst e
   exact po.val rh ⟨a,vs,rfl,sa,by rw [List.append_nil]; exact ra⟩
  | _=>exact po.elim
 | ref n=>
  cases q with
  | ref m=>
   obtain ⟨a,rfl,ha⟩:=rx
   obtain ⟨b,rfl,hb⟩:=ry
   dsimp only at po
   cases e1:eJ h n with
   | none=>rw [e1] at po; exact po.elim
   | some xs=>
    cases e2:eJ h m with
    | none=>rw [e1,e2] at po; exact po.elim
    | some ys=>
     rw [e1,e2] at po
     obtain ⟨vs,h1,r1⟩:=rh.at' n a _ ha (fR e1)
     obtain ⟨us,h2,r2⟩:=rh.at' m b _ hb (fR e2)
     obtain ⟨hz,po⟩:=po.ite
     exact .inl ⟨a,b,vs,us,rfl,rfl,h1,h2,by rw [<- r1.length,<- r2.length]; exact hz,fun p hp=>po.lnew rh (r1.append r2) hp⟩
  | _=>exact po.elim
 | _=>exact po.elim
def vInt (P:Int->Int->Prop) [∀ i j,Decidable (P i j)] (f:Int->Int->Int):PV->PV->PH->Rs PV:=fun x y h=>match x,y with
 | .int i,.int j=>if P i j then .ok (.int (f i j)) h else .bad
 | _,_=>.bad
theorem sC {f:Value->Value->Sem Value} {P:Int->Int->Prop} [∀ i j,Decidable (P i j)] {g:Int->Int->Int} (ho:OpR X f (lU P g)):OpS C k X f (vInt P g):=fun c=>ho.imp fun x y H Q h=>by
 obtain ⟨φ,h,p,q,rh,rx,ry,po⟩:=h
 unfold vInt at po
 cases p with
 | int i=>
  cases q with
  | int j=>cases rx; cases ry; exact ⟨po.ite.1,po.ite.2.val rh rfl⟩
  | _=>exact po.elim
 | _=>exact po.elim
noncomputable instance (i j:Int):Decidable (lO i j):=Classical.propDecidable _
noncomputable instance (i j:Int):Decidable (rE i j):=Classical.propDecidable _
noncomputable instance (i j:Int):Decidable (Cz i j):=Classical.propDecidable _
def sD:PV->PV->PH->Rs PV:=fun x y h=>match x,y with
 | .int i,.int j=>.ok (.int (i - j)) h
 | _,_=>.bad
theorem wN:OpS C k X (binaryOp .Sub) sD:=fun c=>uN.imp fun x y H Q h=>by
 obtain ⟨φ,h,p,q,rh,rx,ry,po⟩:=h
 unfold sD at po
 cases p with
 | int i=>
  cases q with
  | int j=>cases rx; cases ry; exact po.val rh rfl
  | _=>exact po.elim
 | _=>exact po.elim
noncomputable abbrev nM:=vInt lO fun i j=>i*j
noncomputable abbrev dQ:=vInt rE fun i j=>i / j
abbrev cJ:=vInt (fun _ j=>0 < j) fun i j=>i % j
theorem lZ:OpS C k X (binaryOp .Mult) nM:=sC uO
theorem cL:OpS C k X (binaryOp .FloorDiv) dQ:=sC uP
theorem bH:OpS C k X (binaryOp .Mod) cJ:=sC uQ
def qL:PV->PH->Rs PV:=fun x h=>match x with
 | .int i=>.ok (.int (-i)) h
 | _=>.bad
end L2
set_option Elab.async false
set_option linter.all false
set_option maxRecDepth 100000
namespace L2
open PySem PySem.Spec PyProof.Rows
variable {C:MC} {k:Nat} {X:Cx}
def mB (f:Int->Int->Bool) (g:List Nat->List Nat->Bool):PV->PV->PH->Rs PV:=fun x y h=>match x,y with
 | .int i,.int j=>.ok (.bl (f i j)) h
 | .str i,.str j=>.ok (.bl (g i.cps.toList j.cps.toList)) h
 | _,_=>.bad
theorem wO {f:Value->Value->Sem Value} {p:Int->Int->Bool} {g:List Nat->List Nat->Bool} (ho:OpR X f (oK p g)):OpS C k X f (mB p g):=fun c=>ho.imp fun x y H Q h=>by
 obtain ⟨φ,h,p,q,rh,rx,ry,po⟩:=h
 unfold mB at po
 cases p with
 | int i=>
  cases q with
  | int j=>cases rx; cases ry; exact po.val rh rfl
  | _=>exact po.elim
 | str i=>
  cases q with
  | str j=>cases rx; cases ry; exact po.val rh rfl
  | _=>exact po.elim
 | _=>exact po.elim
abbrev vLt:=mB (fun i j=>decide (i < j)) fun i j=>decide (i < j)
abbrev vGt:=mB (fun i j=>decide (j < i)) fun i j=>decide (j < i)
abbrev vLe:=mB (fun i j=>decide (i<=j)) fun i j=>!decide (j < i)
abbrev vGe:=mB (fun i j=>decide (j<=i)) fun i j=>!decide (i < j)
theorem CP:OpS C k X (compareOp .Lt) vLt:=wO yL
theorem CQ:OpS C k X (compareOp .Gt) vGt:=wO yM
mutual
def PV.d:PV->Option D
 | .non=>some .non
 | .bl b=>some (.bl b)
 | .int i=>some (.int i)
 | .str x=>some (.str x)
 | .tup xs=>match PV.ds xs with
  | some ds=>some (.tup ds)
  | none=>none
 | .ref _=>none
 | .ty _=>none
 | .fl _=>none
def PV.ds:List PV->Option (List D)
 | []=>some []
 | x :: xs=>match PV.d x,PV.ds xs with
  | some d,some ds=>some (d :: ds)
  | _,_=>none
end
section
variable {φ:List Addr} {H:Hp}
mutual
theorem RV.rep:∀ {x:PV} {d:D} {v:V},RV C φ H x v->x.d=some d->Rep C.K H d v
 | .non,_,_,h,e=>by cases e; exact h
 | .bl _,_,_,h,e=>by cases e; exact h
 | .int _,_,_,h,e=>by cases e; exact h
 | .str _,_,_,h,e=>by cases e; exact h
 | .tup xs,d,v,⟨a,vs,e1,q,r⟩,e=>by
  unfold PV.d at e
  cases e2:PV.ds xs with
  | none=>rw [e2] at e; cases e
  | some ds=>
   rw [e2] at e
   cases e
   exact ⟨a,vs,e1,q,RVs.reps r e2⟩
 | .ref _,_,_,_,e=>by cases e
 | .ty _,_,_,_,e=>by cases e
 | .fl _,_,_,_,e=>by cases e
theorem RVs.reps:∀ {xs:List PV} {ds:List D} {vs:List V},RVs C φ H xs vs->PV.ds xs=some ds->dP C.K H ds vs
 | [],_,[],_,e=>by cases e; trivial
 | x :: xs,_,v :: vs,⟨h,r⟩,e=>by
  unfold PV.ds at e
  cases e1:PV.d x with
  | none=>rw [e1] at e; cases e
  | some d=>
   cases e2:PV.ds xs with
   | none=>rw [e1,e2] at e; cases e
   | some ds=>
    rw [e1,e2] at e
    cases e
    exact ⟨RV.rep h e1,RVs.reps r e2⟩
 | [],_,_ :: _,h,_=>h.elim
 | _ :: _,_,[],h,_=>h.elim
end
end
def fD (x y:PV) (h:PH):Option Bool:=match x.d,y.d with
 | some d,some e=>if d.depth<=40 then some (eqD d e) else none
 | _,_=>match iK x h,iK y h with
   | some xs,some ys=>match PV.ds xs,PV.ds ys with
    | some ds,some es=>if D.depths ds<=40 then some (dA ds es) else none
    | _,_=>none
   | _,_=>none
def ofB (o:Option Bool) (h:PH):Rs PV:=match o with
 | some b=>.ok (.bl b) h
 | none=>.bad
def vEq:PV->PV->PH->Rs PV:=fun x y h=>ofB (fD x y h) h
def vNe:PV->PV->PH->Rs PV:=fun x y h=>ofB ((fD x y h).map not) h
theorem fG {φ:List Addr} {H:Hp} {h:PH} {p q:PV} {x y:V} {b:Bool} (rh:RH C φ H h) (rx:RV C φ H p x) (ry:RV C φ H q y) (e:fD p q h=some b):
  (∃ d e,Rep C.K H d x/\Rep C.K H e y/\d.depth<=40/\b=eqD d e)\/(∃ ds es,qK C.K H ds x/\qK C.K H es y/\D.depths ds<=40/\b=dA ds es):=by
 unfold fD at e
 split at e
 ·rename_i d e' h1 h2
  split at e
  ·rename_i hd
   cases e
   exact .inl ⟨d,e',rx.rep h1,ry.rep h2,hd,rfl⟩
  ·cases e
 ·split at e
  ·rename_i xs ys h1 h2
   split at e
   ·rename_i ds es h3 h4
    split at e
    ·rename_i hd
     cases e
     obtain ⟨a',vs,rfl,sa,ra⟩:=lY rh rx h1
     obtain ⟨b'',us,rfl,sb,rb⟩:=lY rh ry h2
     exact .inr ⟨ds,es,⟨a',vs,rfl,sa,ra.reps h3⟩,⟨b'',us,rfl,sb,rb.reps h4⟩,hd,rfl⟩
    ·cases e
   ·cases e
  ·cases e
theorem post.ofB {φ:List Addr} {H:Hp} {h:PH} {o:Option Bool} {Q:VK} (q:post C φ H (ofB o h) Q):∃ b,o=some b/\post C φ H (.ok (.bl b) h) Q:=by
 cases o with
 | none=>exact q.elim
 | some b=>exact ⟨b,rfl,q⟩
theorem dH:OpS C k X (compareOp .Eq) vEq:=fun c=>((rW c.hu64 C.K c.K).or (rX c.hu64 C.K c.K)).imp fun x y H Q h=>by
 obtain ⟨φ,h,p,q,rh,rx,ry,po⟩:=h
 obtain ⟨b,e,po⟩:=po.ofB
 rcases fG rh rx ry e with ⟨d,e',h1,h2,h3,rfl⟩ | ⟨d,e',h1,h2,h3,rfl⟩
 ·exact .inl ⟨d,e',h1,h2,h3,po.val rh rfl⟩
 ·exact .inr ⟨d,e',h1,h2,h3,po.val rh rfl⟩
theorem AV:OpS C k X (compareOp .NotEq) vNe:=fun c=>((yQ c.hu64 C.K c.K).or (yR c.hu64 C.K c.K)).imp fun x y H Q h=>by
 obtain ⟨φ,h,p,q,rh,rx,ry,po⟩:=h
 obtain ⟨b,e,po⟩:=po.ofB
 cases e0:fD p q h with
 | none=>rw [e0] at e; cases e
 | some b'=>
  rw [e0] at e
  cases e
  rcases fG rh rx ry e0 with ⟨d,e',h1,h2,h3,rfl⟩ | ⟨d,e',h1,h2,h3,rfl⟩
  ·exact .inl ⟨d,e',h1,h2,h3,po.val rh rfl⟩
  ·exact .inr ⟨d,e',h1,h2,h3,po.val rh rfl⟩
def yU:PV->Option Key
 | .int i=>some (.inl i)
 | .str x=>some (.inr x)
 | _=>none
def gO {κ:Type} [DecidableEq κ]:List (κ×PV)->κ->Option PV
 | [],_=>none
 | (a,p) :: r,b=>if a=b then some p else gO r b
def sE (h:PH) (n:Nat) (x:PV):Option (Option PV):=match h[n]? with
 | some (.dK kvs)=>match yU x with
  | some key=>some (gO kvs key)
  | none=>none
 | _=>none
def sF (x:PV) (ys:List PV):Option Bool:=match x.d,PV.ds ys with
 | some d,some ds=>if D.depths ds<=40 then some (ds.any fun e=>eqD e d) else none
 | _,_=>none
def DE (x y:PV) (h:PH):Option Bool:=match y with
 | .tup ys=>sF x ys
 | .ref n=>match bG h n with
  | some ys=>sF x ys
  | none=>(sE h n x).map Option.isSome
 | .fl ys=>sF x ys
 | _=>none
theorem yV {φ:List Addr} {H:Hp} {x:PV} {v:V} {key:Key} (r:RV C φ H x v) (e:yU x=some key):v=kV key:=by
 cases x <;> first | (cases e; exact r) | cases e
theorem qM {φ:List Addr} {H:Hp} {κ:Type} [DecidableEq κ] {kvs:List (κ×PV)} {ks:List (κ×V)} (r:RKv C φ H kvs ks) (a:κ):match gO kvs a,fO ks a with
  | some p,some v=>RV C φ H p v
  | none,none=>True
  | _,_=>False:=by
 unfold RKv at r
 induction r with
 | nil=>trivial
 | @cons p q ps qs h t ih=>
  obtain ⟨h1,h2⟩:=h
  obtain ⟨pk,pv⟩:=p
  by_cases e:pk=a
  ·have e':q.1=a:=h1.symm.trans e
   rw [iE e']
   unfold gO
   rw [if_pos e]
   exact h2
  ·have e':¬ q.1=a:=fun z=>e (h1.trans z)
   rw [iF e']
   unfold gO
   rw [if_neg e]
   exact ih
theorem nN {φ:List Addr} {H:Hp} {h:PH} {n:Nat} {a:Addr} {x:PV} {v:V} {o:Option PV} (rh:RH C φ H h) (ha:φ[n]?=some a) (rv:RV C φ H x v) (e:sE h n x=some o):
  ∃ o',lR H a v o'/\o.isSome=o'.isSome/\∀ p,o=some p->∃ w,o'=some w/\RV C φ H p w:=by
 unfold sE at e
 split at e
 ·rename_i kvs hk
  split at e
  ·rename_i key hkey
   cases e
   obtain ⟨ks,hH,rk⟩:=rh.at' n a _ ha hk
   have q:=qM rk key
   rw [yV rv hkey]
   refine ⟨fO ks key,lR.k hH,?_,fun p hp=>?_⟩
   ·cases e1:gO kvs key <;> cases e2:fO ks key <;> rw [e1,e2] at q <;> first | rfl | exact q.elim
   ·rw [hp] at q
    cases e2:fO ks key with
    | none=>rw [e2] at q; exact q.elim
    | some w=>rw [e2] at q; exact ⟨w,rfl,q⟩
  ·cases e
 ·cases e
def eM:PV->Bool
 | .non=>true
 | _=>false
def vIs:PV->PV->PH->Rs PV:=fun x y h=>match y with
 | .non=>.ok (.bl (eM x)) h
 | .bl b=>match x with
  | .bl a=>.ok (.bl (a == b)) h
  | _=>.bad
 | _=>.bad
def dY:PV->PV->PH->Rs PV:=fun x y h=>match y with
 | .non=>.ok (.bl (!eM x)) h
 | .bl b=>match x with
  | .bl a=>.ok (.bl (!(a == b))) h
  | _=>.bad
 | _=>.bad
theorem RV.isNon {φ:List Addr} {H:Hp} {p:PV} {v:V} (r:RV C φ H p v):decide (v=.non)=eM p:=by
 cases p with
 | non=>cases r; rfl
 | tup xs=>obtain ⟨a,vs,rfl,_⟩:=r; rfl
 | ref n=>obtain ⟨a,rfl,_⟩:=r; rfl
 | fl xs=>obtain ⟨a,vs,rfl,_⟩:=r; rfl
 | _=>cases r; rfl
theorem AW:OpS C k X (compareOp .Is) vIs:=fun c=>(xZ.or (fun pins s σ H x y v u Q I rx ry (h:∃ a b,x=.bl a/\y=.bl b/\Q (.bl (a == b)) H)=>by
  obtain ⟨a,b,rfl,rfl,q⟩:=h
  cases rx; cases ry
  exact PyProof.Rows.is_bool ⟨.bl _,H,I,rfl,q⟩)).imp fun x y H Q h=>by
 obtain ⟨φ,h,p,q,rh,rx,ry,po⟩:=h
 unfold vIs at po
 cases q with
 | non=>
  cases ry
  refine .inl ⟨rfl,?_⟩
  rw [rx.isNon]
  exact po.val rh rfl
 | bl b=>
  cases p with
  | bl a=>cases rx; cases ry; exact .inr ⟨a,b,rfl,rfl,po.val rh rfl⟩
  | _=>exact po.elim
 | _=>exact po.elim
theorem kQ:OpS C k X (compareOp .IsNot) dY:=fun c=>(tZ.or (fun pins s σ H x y v u Q I rx ry (h:∃ a b,x=.bl a/\y=.bl b/\Q (.bl (!(a == b))) H)=>by
  obtain ⟨a,b,rfl,rfl,q⟩:=h
  cases rx; cases ry
  exact PyProof.Rows.isnot_bool ⟨.bl _,H,I,rfl,q⟩)).imp fun x y H Q h=>by
 obtain ⟨φ,h,p,q,rh,rx,ry,po⟩:=h
 unfold dY at po
 cases q with
 | non=>
  cases ry
  refine .inl ⟨rfl,?_⟩
  rw [rx.isNon]
  exact po.val rh rfl
 | bl b=>
  cases p with
  | bl a=>cases rx; cases ry; exact .inr ⟨a,b,rfl,rfl,po.val rh rfl⟩
  | _=>exact po.elim
 | _=>exact po.elim
def tru (x:PV) (h:PH):Rs Bool:=match x with
 | .non=>.ok false h
 | .bl b=>.ok b h
 | .int i=>.ok (i != 0) h
 | .str y=>if y.length<=sizeLine then .ok ((y.length:Int) != 0) h else .bad
 | .tup xs=>.ok (!xs.isEmpty) h
 | .ref n=>match bG h n with
  | some xs=>.ok (!xs.isEmpty) h
  | none=>match h[n]? with
   | some (.dK kvs)=>.ok (!kvs.isEmpty) h
   | _=>.bad
 | .fl xs=>.ok (!xs.isEmpty) h
 | .ty _=>.bad
theorem RVs.isEmpty {φ:List Addr} {H:Hp} {xs:List PV} {vs:List V} (r:RVs C φ H xs vs):(!vs.isEmpty)=!xs.isEmpty:=by
 cases xs <;> cases vs <;> first | rfl | exact r.elim
theorem bJ.ite {φ:List Addr} {H:Hp} {c:Prop} [Decidable c] {r:Rs Bool} {Q:Bool->Hp->Prop} (h:bJ C φ H (if c then r else .bad) Q):c/\bJ C φ H r Q:=by
 by_cases hc:c
 ·rw [if_pos hc] at h; exact ⟨hc,h⟩
 ·rw [if_neg hc] at h; exact h.elim
theorem bJ.val {φ:List Addr} {H:Hp} {b:Bool} {h:PH} {Q:Bool->Hp->Prop} (q:bJ C φ H (.ok b h) Q) (rh:RH C φ H h):Q b H:=q φ H List.prefix_rfl (Kp.refl H) rh
theorem qN {φ:List Addr} {H:Hp} {h:PH} {p:PV} {v:V} {Q:Bool->Hp->Prop} (rh:RH C φ H h) (rv:RV C φ H p v) (po:bJ C φ H (tru p h) Q):∃ b,uA C.K v H b/\Q b H:=by
 unfold tru at po
 cases p with
 | non=>cases rv; exact ⟨_,rfl,po.val rh⟩
 | bl b=>cases rv; exact ⟨_,rfl,po.val rh⟩
 | int i=>cases rv; exact ⟨_,rfl,po.val rh⟩
 | str y=>cases rv; exact ⟨_,⟨po.ite.1,rfl⟩,po.ite.2.val rh⟩
 | tup xs=>
  obtain ⟨a,vs,rfl,sa,ra⟩:=rv
  exact ⟨_,.inr (.inl ⟨vs,sa,rfl⟩),by rw [ra.isEmpty]; exact po.val rh⟩
 | ref n=>
  obtain ⟨a,rfl,ha⟩:=rv
  dsimp only at po
  cases e:bG h n with
  | some xs=>
   rw [e] at po
   obtain ⟨a2,vs,ha2,sa,ra⟩:=dF rh e
   rw [ha] at ha2; cases ha2
   exact ⟨_,.inl ⟨vs,sa,rfl⟩,by rw [ra.isEmpty]; exact po.val rh⟩
  | none=>
   rw [e] at po
   dsimp only at po
   split at po
   ·rename_i kvs hk
    obtain ⟨ks,hH,rk⟩:=rh.at' n a _ ha hk
    refine ⟨_,.inr (.inr ⟨ks,hH,rfl⟩),?_⟩
    have:(!ks.isEmpty)=!kvs.isEmpty:=by cases rk <;> rfl
    rw [this]
    exact po.val rh
   ·exact po.elim
 | fl xs=>
  obtain ⟨a,vs,rfl,sa,ra⟩:=rv
  exact ⟨_,.inl ⟨vs,sa.sq,rfl⟩,by rw [ra.isEmpty]; exact po.val rh⟩
 | ty n=>exact po.elim
end L2
set_option Elab.async false
set_option linter.all false
set_option maxRecDepth 100000
namespace L2
open PySem PySem.Spec PyProof.Rows
variable {C:MC} {k:Nat} {X:Cx}
def bF (m:Me):Ev->PH->Rs Bool:=fun δ h=>(m δ h).bind tru
theorem sG {m:Me} {σ:St} {H:Hp} {Q:Bool->Hp->Prop} (h:rdB C (bF m) σ H Q):rd C m σ H fun v H1=>∃ b,uA C.K v H1 b/\Q b H1:=by
 obtain ⟨φ,δ,h,rh,re,p⟩:=h
 refine ⟨φ,δ,h,rh,re,(post.bindB p).imp ?_⟩
 rintro v H1 ⟨φ1,x,h1,p1,t1,rh1,rv1,q1⟩
 exact qN rh1 rv1 q1
section
variable {a b e c':Expr} {ma mb mc m:Me} {g g':PV->PV->PH->Rs PV} {pos:Pos} {ta tb:Ev->PH->Rs Bool}
theorem fF (h:SE C k X e m) (he:∀ whole,isTrue e X.env whole=(do let v <- whole; standAt e.pos; holding [v] (truthy v)):=by intro _; rfl):ST C k X e (bF m):=fun c=>
 (rG (h c) he).imp fun σ H Q q=>by rw [c.K]; exact sG q
theorem bC {op:CmpOp} (ho:OpS C k X (compareOp op) g) (ha:SE C k X a ma) (hb:SE C k X b mb) (hm:behindInMarks op b=false:=by first | exact nC _ | rfl):ST C k X (.Compare a [op] [b] pos) (bF (aE g ma mb)):=fun c=>by
 intro pins s σ H Q I h
 have h:=oR (sG h)
 refine wpAny_isTrue_Compare1 (thn (ha c pins s σ H _ I h) fun v s1 ⟨x,H1,I1,r1,q1⟩=>thn (hb c pins s1 σ H1 _ I1 q1) fun u s2 ⟨y,H2,I2,r2,q2⟩=>
  thn (ho c pins s2 σ H2 x y v u _ I2 r1 r2 q2) fun w s3 ⟨z,H3,I3,r3,q3⟩=>?_) hm
 rw [<- c.K] at q3
 exact rF pins s3 σ H3 z w Q I3 r3 q3
def wQ (z:PV) (h:PH):Rs PV:=match z with
 | .bl b=>.ok (.bl b) h
 | _=>.bad
def DF (g g':PV->PV->PH->Rs PV) (ma mb mc:Me):Me:=fun δ h=>(ma δ h).bind fun x h1=>(mb δ h1).bind fun y h2=>(g x y h2).bind fun z h3=>match z with
 | .bl true=>(mc δ h3).bind fun w h4=>(g' y w h4).bind wQ
 | .bl false=>.ok (.bl false) h3
 | _=>.bad
def eN (t:Ev->PH->Rs Bool):Ev->PH->Rs Bool:=fun δ h=>(t δ h).bind fun b h1=>.ok (!b) h1
def gP (ta tb:Ev->PH->Rs Bool):Ev->PH->Rs Bool:=fun δ h=>(ta δ h).bind fun b h1=>match b with
 | true=>tb δ h1
 | false=>.ok false h1
def mD (ta tb:Ev->PH->Rs Bool):Ev->PH->Rs Bool:=fun δ h=>(ta δ h).bind fun b h1=>match b with
 | true=>.ok true h1
 | false=>tb δ h1
theorem bJ.imp {φ:List Addr} {H:Hp} {r:Rs Bool} {Q Q':Bool->Hp->Prop} (h:bJ C φ H r Q) (i:∀ v H',Q v H'->Q' v H'):bJ C φ H r Q':=by
 cases r with
 | ok a h'=>exact fun φ' H' p t rh=>i a H' (h φ' H' p t rh)
 | exc a h'=>exact h
 | bad=>exact h
theorem gQ (h:ST C k X e ta):ST C k X (.UnaryOp .Not e pos) (eN ta):=fun c=>(mY (h c)).imp fun σ H Q q=>by
 obtain ⟨φ,δ,h,rh,re,p⟩:=q
 refine ⟨φ,δ,h,rh,re,(bJ.bindB p).imp ?_⟩
 rintro b H1 ⟨φ1,h1,p1,t1,rh1,q1⟩
 exact q1.val rh1
def SW (C:MC) (k:Nat) (X:Cx) (e:Expr) (m:Ev->PH->Rs Bool):Prop:=Cxt C k X->PW X e (rdB C m)
theorem SW.t (h:SW C k X e ta):ST C k X e ta:=fun c=>(h c).pt
theorem PW.imp {t t':TT} (h:PW X e t) (i:∀ σ H Q,t' σ H Q->t σ H Q):PW X e t':=fun w pins s σ H Q I q=>h w pins s σ H Q I (i σ H Q q)
theorem iL (ha:ST C k X a ta):SW C k X (.BoolOp .And [a] pos) ta:=fun c=>tU (ha c)
theorem oS (ha:ST C k X a ta):SW C k X (.BoolOp .Or [a] pos) ta:=fun c=>mX (ha c)
theorem w_and {rest:List Expr} (ha:ST C k X a ta) (hb:SW C k X (.BoolOp .And (b :: rest) pos) tb):SW C k X (.BoolOp .And (a :: b :: rest) pos) (gP ta tb):=fun c=>PW.imp (xK (ha c) (hb c)) fun σ H Q q=>by
 obtain ⟨φ,δ,h,rh,re,p⟩:=q
 refine ⟨φ,δ,h,rh,re,(bJ.bindB p).imp ?_⟩
 rintro b H1 ⟨φ1,h1,p1,t1,rh1,q1⟩
 cases b with
 | true=>exact qG ⟨φ1,δ,h1,rh1,re.mono p1 t1,q1⟩
 | false=>exact kL (q1.val rh1)
theorem w_or {rest:List Expr} (ha:ST C k X a ta) (hb:SW C k X (.BoolOp .Or (b :: rest) pos) tb):SW C k X (.BoolOp .Or (a :: b :: rest) pos) (mD ta tb):=fun c=>PW.imp (oF (ha c) (hb c)) fun σ H Q q=>by
 obtain ⟨φ,δ,h,rh,re,p⟩:=q
 refine ⟨φ,δ,h,rh,re,(bJ.bindB p).imp ?_⟩
 rintro b H1 ⟨φ1,h1,p1,t1,rh1,q1⟩
 cases b with
 | true=>exact qG (q1.val rh1)
 | false=>exact kL ⟨φ1,δ,h1,rh1,re.mono p1 t1,q1⟩
def oU (ma mb:Me):Me:=fun δ h=>(ma δ h).bind fun x h1=>match x with
 | .bl true=>mb δ h1
 | .bl false=>.ok (.bl false) h1
 | _=>.bad
theorem AX {op} (h:SE C k X a ma):SE C k X (.BoolOp op [a] pos) ma:=fun c=>qZ (h c)
theorem AY {rest:List Expr} (ha:SE C k X a ma) (hb:SE C k X (.BoolOp .And (b :: rest) pos) mb):SE C k X (.BoolOp .And (a :: b :: rest) pos) (oU ma mb):=fun c=>(uR (ha c) (hb c)).imp fun σ H Q q=>by
 obtain ⟨φ,δ,h,rh,re,p⟩:=q
 refine ⟨φ,δ,h,rh,re,(post.bind p).imp ?_⟩
 rintro v H1 ⟨φ1,x,h1,p1,t1,rh1,rv,q1⟩
 cases x with
 | bl b=>
  cases rv
  cases b with
  | true=>exact qG ⟨φ1,δ,h1,rh1,re.mono p1 t1,q1⟩
  | false=>exact kL (q1.val rh1 rfl)
 | _=>exact q1.elim
end
theorem RVs.atI {φ:List Addr} {H:Hp} {xs:List PV} {vs:List V} {i:Int} {x:PV} (r:RVs C φ H xs vs) (e:L2.atI xs i=some x):∃ v,L2.atI vs i=some v/\RV C φ H x v:=by
 unfold L2.atI at e ⊢
 rw [<- r.length]
 cases q:ixN xs.length i with
 | none=>rw [q] at e; cases e
 | some j=>
  rw [q] at e
  exact r.at e
def ofO (o:Option PV) (h:PH):Rs PV:=match o with
 | some p=>.ok p h
 | none=>.bad
def vIx:PV->PV->PH->Rs PV:=fun x y h=>match x with
 | .str z=>(match y with
  | .int i=>if z.length<=sizeLine then ofO ((atI z.cps.toList i).map fun c=>.str ⟨#[c]⟩) h else .bad
  | _=>.bad)
 | .tup xs=>(match y with
  | .int i=>ofO (atI xs i) h
  | _=>.bad)
 | .fl xs=>(match y with
  | .int i=>ofO (atI xs i) h
  | _=>.bad)
 | .ref n=>(match bG h n with
  | some xs=>(match y with
   | .int i=>ofO (atI xs i) h
   | _=>.bad)
  | none=>(match sE h n y with
   | some o=>ofO o h
   | none=>.bad))
 | _=>.bad
theorem post.ofO {φ:List Addr} {H:Hp} {h:PH} {o:Option PV} {Q:VK} (q:post C φ H (ofO o h) Q):∃ p,o=some p/\post C φ H (.ok p h) Q:=by
 cases o with
 | none=>exact q.elim
 | some b=>exact ⟨b,rfl,q⟩
theorem AZ {x y:V} {H:Hp} {Q:VK} (h:r2 C vIx x y H Q):yN C.K x y H Q:=by
 obtain ⟨φ,h,p,q,rh,rx,ry,po⟩:=h
 unfold vIx at po
 cases p with
 | str z=>
  cases rx
  cases q with
  | int i=>
   cases ry
   obtain ⟨hz,po⟩:=po.ite
   obtain ⟨p,e,po⟩:=po.ofO
   cases e':atI z.cps.toList i with
   | none=>rw [e'] at e; cases e
   | some c=>rw [e'] at e; cases e; exact ⟨hz,c,e',po.val rh rfl⟩
  | _=>exact po.elim
 | tup xs=>
  obtain ⟨a,vs,rfl,sa,ra⟩:=rx
  cases q with
  | int i=>
   cases ry
   obtain ⟨p,e,po⟩:=po.ofO
   obtain ⟨v,hv,rv⟩:=ra.atI e
   exact .inl ⟨vs,i,v,rfl,.inr sa,hv,po.val rh rv⟩
  | _=>exact po.elim
 | fl xs=>
  obtain ⟨a,vs,rfl,sa,ra⟩:=rx
  cases q with
  | int i=>
   cases ry
   obtain ⟨p,e,po⟩:=po.ofO
   obtain ⟨v,hv,rv⟩:=ra.atI e
   exact .inl ⟨vs,i,v,rfl,.inl sa.sq,hv,po.val rh rv⟩
  | _=>exact po.elim
 | ref n=>
  obtain ⟨a,rfl,ha⟩:=rx
  dsimp only at po
  cases e:bG h n with
  | some xs=>
   rw [e] at po
   obtain ⟨a2,vs,ha2,sa,ra⟩:=dF rh e
   rw [ha] at ha2; cases ha2
   cases q with
   | int i=>
    cases ry
    obtain ⟨p,e,po⟩:=po.ofO
    obtain ⟨v,hv,rv⟩:=ra.atI e
    exact .inl ⟨vs,i,v,rfl,.inl sa,hv,po.val rh rv⟩
   | _=>exact po.elim
  | none=>
   rw [e] at po
   dsimp only at po
   cases e':sE h n q with
   | none=>rw [e'] at po; exact po.elim
   | some o=>
    rw [e'] at po
    obtain ⟨p,eo,po⟩:=po.ofO
    obtain ⟨o',g,_,hp⟩:=nN rh ha ry e'
    obtain ⟨w,rfl,rw'⟩:=hp p eo
    exact .inr ⟨w,g,po.val rh rw'⟩
 | _=>exact po.elim
theorem cW {a b:Expr} {ma mb:Me} {pos:Pos} (ha:SE C k X a ma) (hb:SE C k X b mb) (hs:kH b:=by intro _ _; rfl):SE C k X (.Subscript a b pos) (aE vIx ma mb):=fun c=>
 (pix c.hu C.K c.K (ha c) (hb c) hs).imp fun σ H Q h=>by
  obtain ⟨φ,δ,h,rh,re,p⟩:=oR h
  refine ⟨φ,δ,h,rh,re,p.imp ?_⟩
  rintro v H1 ⟨φ,δ,h,rh,re,p⟩
  refine ⟨φ,δ,h,rh,re,p.imp ?_⟩
  rintro u H2 q
  exact AZ q
theorem fE {prog:Program} {w:World} {A:Around} {E:Value->Shared->Prop} {s:Shared} {t sl:Addr} {items:Array Value} {vl vu:Value} {lo hi:Option Int} {Q:Value->Shared->Prop} (ht:IsTup s.heap t items) (hs:s.heap.IsSliceOf sl vl vu .none) (pl:IsPart vl lo) (pu:IsPart vu hi)
  (hw:HT.sIx items.size 0 lo=0/\HT.sIx items.size items.size hi=items.size) (h:Q (.ref t) s):wpAny (model prog w) A (getItem (.ref t) (.ref sl)) Q E s:=by
 obtain ⟨os,hos,hcs,hds⟩:=id hs
 have hTs:s.TypeIs (.ref sl) "slice" := ⟨os,hos,hcs⟩
 unfold getItem
 try with_reducible refine wpAny_holding ?_
 first | refine wpAny_bind (wpAny_pure ?_) | skip
 refine wpAny_bind (wpAny_sequenceKey ht.typeIs (by decide) ?_)
 refine wpAny_bind (wpAny_callSpecial?_slot (name:=Str.ofString "__getitem__") ht.typeIs PyProof.Rows.slot_tuple_getitem
  (wpAny_call_entry PyProof.Rows.slot_tuple_getitem ht.typeIs entry_tuple_getitem ?_ (args_tuple_getitem _ _)))
 show wpAny _ _ (Builtin.Tuple.tupleItemsOf (.ref t) >>= _) _ _ s
 refine wpAny_bind (tupleItemsOf_ ht ?_)
 refine wpAny_bind (wpAny_typeOf hTs ?_)
 rw [if_pos (by decide)]
 refine wpAny_bind (HT.sliceApplied_gen hs pl pu ?_)
 have hno:((((HT.sIx items.size 0 lo:Nat):Int) == 0 && (1:Int) == 1 && (HT.sIx items.size items.size hi - HT.sIx items.size 0 lo) == items.size)=true):=by
  rw [hw.1,hw.2]; simp
 show wpAny _ _ (if (((HT.sIx items.size 0 lo:Nat):Int) == 0 && (1:Int) == 1 && (HT.sIx items.size items.size hi - HT.sIx items.size 0 lo) == items.size)=true then _ else _) _ _ s
 rw [if_pos hno]
 refine wpAny_bind ?_
 unfold Builtin.Tuple.tupleIsExact
 refine wpAny_bind (wpAny_typeOf ht.typeIs (wpAny_pure ?_))
 rw [if_pos (by decide)]
 refine wpAny_bind (wpAny_rule ?_)
 exact wpAny_pure ⟨_,rfl,wpAny_pure h⟩
end L2
set_option Elab.async false
set_option linter.all false
set_option maxRecDepth 100000
namespace L2
open PySem PySem.Spec PyProof.Rows
variable {C:MC} {k:Nat} {X:Cx}
def bO {α:Type} (xs:List α) (lo hi:Option Int):List α:=(xs.drop (HT.sIx xs.length 0 lo)).take (HT.sIx xs.length xs.length hi - HT.sIx xs.length 0 lo)
theorem RVs.cut {φ:List Addr} {H:Hp} {xs:List PV} {vs:List V} (r:RVs C φ H xs vs) (lo hi:Option Int):RVs C φ H (bO xs lo hi) (lQ vs lo hi):=by
 unfold bO lQ
 rw [<- r.length]
 exact (r.drop _).take _
def vSl:PV->Option Int->Option Int->PH->Rs PV:=fun x lo hi h=>match x with
 | .str z=>if z.length<=sizeLine then .ok (.str (Txt.slice z lo hi)) h else .bad
 | .tup xs=>.ok (.tup (bO xs lo hi)) h
 | .ref n=>match bG h n with
  | some xs=>.ok (.ref h.length) (h++[.lst (bO xs lo hi)])
  | none=>.bad
 | .fl xs=>.ok (.ref h.length) (h++[.lst (bO xs lo hi)])
 | _=>.bad
def B0 (K:PySem.W.Frag):V->Option Int->Option Int->Hp->VK->Prop:=fun x lo hi H Q=>∃ a xs,x=.ref a/\SqT K H a xs/\(HT.sIx xs.length 0 lo=0/\HT.sIx xs.length xs.length hi=xs.length)/\Q (.ref a) H
theorem sH:SlR X (B0 X.K):=by
 intro pins s σ H x v vl vu lo hi sl Q I rx hs pl pu h
 obtain ⟨a,xs,rfl,hx,hw,q⟩:=h
 cases rx
 obtain ⟨its,r,ht,hz⟩:=I.tuple hx
 have hlen:its.toArray.size=xs.length:=by rw [List.size_toArray]; exact r.length.symm
 refine ⟨"tuple",_,PyProof.Rows.slot_tuple_getitem.lookup,ht.typeIs,?_⟩
 exact fE ht hs pl pu (by rw [hlen]; exact hw) ⟨.ref a,H,I,rfl,q⟩
theorem SlR.imp {r r':V->Option Int->Option Int->Hp->VK->Prop} (h:SlR X r) (i:∀ x lo hi H Q,r' x lo hi H Q->r x lo hi H Q):SlR X r':=fun pins s σ H x v vl vu lo hi sl Q I rx hs pl pu q=>h pins s σ H x v vl vu lo hi sl Q I rx hs pl pu (i x lo hi H Q q)
def r3 (C:MC) (g:PV->Option Int->Option Int->PH->Rs PV):V->Option Int->Option Int->Hp->VK->Prop:=fun x lo hi H Q=>∃ φ h p,RH C φ H h/\RV C φ H p x/\post C φ H (g p lo hi h) Q
theorem yW (hK:X.K=C.K):SlR X (r3 C vSl):=by
 have e:SlR X (fun x lo hi H Q=>AG x lo hi H Q\/Ay C.K x lo hi H Q\/AA C.K x lo hi H Q\/B0 C.K x lo hi H Q):=by rw [<- hK]; exact yK.or (yF.or (uJ.or sH))
 refine e.imp fun x lo hi H Q h=>?_
 obtain ⟨φ,h,p,rh,rv,po⟩:=h
 unfold vSl at po
 cases p with
 | str z=>cases rv; exact .inl ⟨z,rfl,po.ite.1,po.ite.2.val rh rfl⟩
 | tup xs=>
  obtain ⟨a,vs,rfl,sa,ra⟩:=rv
  by_cases hw:HT.sIx vs.length 0 lo=0/\HT.sIx vs.length vs.length hi=vs.length
  ·refine .inr (.inr (.inr ⟨a,vs,rfl,sa,hw,po.val rh ⟨a,vs,rfl,sa,?_⟩⟩))
   have e:bO xs lo hi=xs:=by
    unfold bO
    rw [ra.length,hw.1,hw.2,List.drop_zero,Nat.sub_zero,<- ra.length,List.take_length]
   rw [e]
   exact ra
  ·exact .inr (.inl ⟨a,vs,rfl,sa,hw,fun p hp=>po.tnew rh (ra.cut lo hi) hp⟩)
 | ref n=>
  obtain ⟨a,rfl,ha⟩:=rv
  dsimp only at po
  cases e:bG h n with
  | none=>rw [e] at po; exact po.elim
  | some xs=>
   rw [e] at po
   obtain ⟨a2,vs,ha2,sa,ra⟩:=dF rh e
   rw [ha] at ha2; cases ha2
   exact .inr (.inr (.inl ⟨a,vs,rfl,sa,fun p hp=>po.lnew rh (ra.cut lo hi) hp⟩))
 | fl xs=>
  obtain ⟨a,vs,rfl,sa,ra⟩:=rv
  exact .inr (.inr (.inl ⟨a,vs,rfl,sa.sq,fun p hp=>po.lnew rh (ra.cut lo hi) hp⟩))
 | _=>exact po.elim
abbrev Mo:=Ev->PH->Rs (Option Int)
def gR (C:MC) (φ:List Addr) (H:Hp) (r:Rs (Option Int)) (Q:Option Int->Hp->Prop):Prop:=match r with
 | .ok b h=>∀ φ' H',φ<+:φ'->Kp H H'->RH C φ' H' h->Q b H'
 | .exc x h=>∀ φ' H',φ<+:φ'->Kp H H'->RH C φ' H' h->C.ex φ' H' x
 | .bad=>False
def rdO (C:MC) (m:Mo):TO:=fun σ H Q=>∃ φ δ h,RH C φ H h/\RE C φ H δ σ/\gR C φ H (m δ h) Q
def SO (C:MC) (k:Nat) (X:Cx) (e:Option Expr) (m:Mo):Prop:=Cxt C k X->PO X e (rdO C m)
def gD:Mo:=fun _ h=>.ok none h
def mP (m:Me):Mo:=fun δ h=>(m δ h).bind fun x h1=>match x with
 | .int i=>.ok (some i) h1
 | _=>.bad
theorem dZ:SO C k X none gD:=fun c pins s σ H Q I h=>by
 obtain ⟨φ,δ,h,rh,re,p⟩:=h
 exact uF pins s σ H Q I (p φ H List.prefix_rfl (Kp.refl H) rh)
theorem eA {e:Expr} {m:Me} (h:SE C k X e m):SO C k X (some e) (mP m):=fun c pins s σ H Q I q=>by
 refine rV (h c) pins s σ H Q I ?_
 obtain ⟨φ,δ,h,rh,re,p⟩:=q
 refine ⟨φ,δ,h,rh,re,?_⟩
 unfold mP at p
 cases e':m δ h with
 | ok x h1=>
  rw [e'] at p
  intro φ' v H' p' t' rh' rv'
  cases x with
  | int i=>cases rv'; exact p φ' H' p' t' rh'
  | _=>exact p.elim
 | exc x h1=>rw [e'] at p; exact p
 | bad=>rw [e'] at p; exact p
def mSl (me:Me) (ml mh:Mo):Me:=fun δ h=>(me δ h).bind fun x h1=>(ml δ h1).bind fun l h2=>(mh δ h2).bind fun u h3=>vSl x l u h3
theorem gR.bind {φ:List Addr} {H:Hp} {r:Rs (Option Int)} {f:Option Int->PH->Rs PV} {Q:VK} (h:post C φ H (r.bind f) Q):gR C φ H r fun b H1=>∃ φ1 h1,φ<+:φ1/\Kp H H1/\RH C φ1 H1 h1/\post C φ1 H1 (f b h1) Q:=by
 cases r with
 | ok a h'=>exact fun φ' H' p t rh=>⟨φ',h',p,t,rh,post.weak p t h⟩
 | exc a h'=>exact h
 | bad=>exact h
theorem gR.imp {φ:List Addr} {H:Hp} {r:Rs (Option Int)} {Q Q':Option Int->Hp->Prop} (h:gR C φ H r Q) (i:∀ v H',Q v H'->Q' v H'):gR C φ H r Q':=by
 cases r with
 | ok a h'=>exact fun φ' H' p t rh=>i a H' (h φ' H' p t rh)
 | exc a h'=>exact h
 | bad=>exact h
theorem kR {e:Expr} {lo hi:Option Expr} {me:Me} {ml mh:Mo} {p2 pos:Pos} (he:SE C k X e me) (hl:SO C k X lo ml) (hh:SO C k X hi mh):SE C k X (.Subscript e (.Slice lo hi none p2) pos) (mSl me ml mh):=fun c=>
 (rN (yW c.K) (he c) (hl c) (hh c)).imp fun σ H Q h=>by
  obtain ⟨φ,δ,h,rh,re,p⟩:=h
  refine ⟨φ,δ,h,rh,re,(post.bind p).imp ?_⟩
  rintro v H1 ⟨φ1,x,h1,p1,t1,rh1,rv1,q1⟩
  refine ⟨φ1,δ,h1,rh1,re.mono p1 t1,(gR.bind q1).imp ?_⟩
  rintro l H2 ⟨φ2,h2,p2,t2,rh2,q2⟩
  refine ⟨φ2,δ,h2,rh2,re.mono (p1.trans p2) (t1.trans t2),(gR.bind q2).imp ?_⟩
  rintro u H3 ⟨φ3,h3,p3,t3,rh3,q3⟩
  exact ⟨φ3,h3,x,rh3,rv1.mono (p2.trans p3) (t2.trans t3),q3⟩
abbrev Ma:=Ev->PH->Rs (List PV)
def aL:Ma:=fun _ h=>.ok [] h
def aC (m:Me) (ms:Ma):Ma:=fun δ h=>(m δ h).bind fun x h1=>(ms δ h1).bind fun xs h2=>.ok (x :: xs) h2
theorem PA.imp {es:List Expr} {t t':TA} (h:PA X es t) (i:∀ σ H Q,t' σ H Q->t σ H Q):PA X es t':=fun pos pins s σ H Q I q=>h pos pins s σ H Q I (i σ H Q q)
theorem aI:SA C k X [] aL:=fun c=>iB.imp fun σ H Q h=>by
 obtain ⟨φ,δ,h,rh,re,p⟩:=h
 exact p φ [] H List.prefix_rfl (Kp.refl H) rh trivial
theorem postA.imp {φ:List Addr} {H:Hp} {r:Rs (List PV)} {Q Q':List V->Hp->Prop} (h:postA C φ H r Q) (i:∀ v H',Q v H'->Q' v H'):postA C φ H r Q':=by
 cases r with
 | ok a h'=>exact fun φ' v H' p t rh rv=>i v H' (h φ' v H' p t rh rv)
 | exc a h'=>exact h
 | bad=>exact h
theorem aB {e:Expr} {es:List Expr} {m:Me} {ms:Ma} (he:SE C k X e m) (hs:SA C k X es ms) (hh:starEach (e :: es) X.env=(false,eval e X.env) :: starEach es X.env:=by rfl):SA C k X (e :: es) (aC m ms):=fun c=>(dI (he c) (hs c) hh).imp fun σ H Q h=>by
 obtain ⟨φ,δ,h,rh,re,p⟩:=h
 refine ⟨φ,δ,h,rh,re,(post.bindA p).imp ?_⟩
 rintro v H1 ⟨φ1,x,h1,p1,t1,rh1,rv1,q1⟩
 refine ⟨φ1,δ,h1,rh1,re.mono p1 t1,(postA.bindA q1).imp ?_⟩
 rintro vs H2 ⟨φ2,xs,h2,p2,t2,rh2,rv2,q2⟩
 exact q2 φ2 (v :: vs) H2 List.prefix_rfl (Kp.refl H2) rh2 ⟨rv1.mono p2 t2,rv2⟩
def cB (ms:Ma):Me:=fun δ h=>(ms δ h).bind fun xs h1=>if xs.length<=sizeLine then .ok (.tup xs) h1 else .bad
def uU (ms:Ma):Me:=fun δ h=>(ms δ h).bind fun xs h1=>if xs.length<=sizeLine then .ok (.ref h1.length) (h1++[.lst xs]) else .bad
theorem bI {es:List Expr} {ms:Ma} {x1} {pos:Pos} (hs:SA C k X es ms):SE C k X (.Tuple es x1 pos) (cB ms):=fun c=>(yB (hs c)).imp fun σ H Q h=>by
 obtain ⟨φ,δ,h,rh,re,p⟩:=h
 refine ⟨φ,δ,h,rh,re,(postA.bind p).imp ?_⟩
 rintro vs H1 ⟨φ1,xs,h1,p1,t1,rh1,rv1,q1⟩
 exact ⟨by rw [<- rv1.length]; exact q1.ite.1,fun p hp=>q1.ite.2.tnew rh1 rv1 hp⟩
theorem wR {es:List Expr} {ms:Ma} {pos:Pos} (hs:SA C k X es ms):SE C k X (.List es pos) (uU ms):=fun c=>(yC (hs c)).imp fun σ H Q h=>by
 obtain ⟨φ,δ,h,rh,re,p⟩:=h
 refine ⟨φ,δ,h,rh,re,(postA.bind p).imp ?_⟩
 rintro vs H1 ⟨φ1,xs,h1,p1,t1,rh1,rv1,q1⟩
 exact ⟨by rw [<- rv1.length]; exact q1.ite.1,fun p hp=>q1.ite.2.lnew rh1 rv1 hp⟩
def yX:Me:=fun _ h=>.ok (.ref h.length) (h++[.dK []])
def mCB (g:List PV->PH->Rs PV) (ms:Ma):Me:=fun δ h=>(ms δ h).bind g
theorem B1 {g:List PV->PH->Rs PV} {ms:Ma} {σ:St} {H:Hp} {Q:VK} (h:rd C (mCB g ms) σ H Q):tCB (rL C g) (rdA C ms) σ H Q:=by
 obtain ⟨φ,δ,h,rh,re,p⟩:=h
 refine ⟨φ,δ,h,rh,re,(postA.bind p).imp ?_⟩
 rintro vs H1 ⟨φ1,xs,h1,p1,t1,rh1,rv1,q1⟩
 exact ⟨φ1,h1,xs,rh1,rv1,q1⟩
section
variable {x:Str} {p pos:Pos} {e:Expr} {es:List Expr} {ms:Ma} {id T:String} {g:List PV->PH->Rs PV}
theorem aW (hc:oP C k X (.builtin id) g) (hv:bootBuiltins x=some (.builtin id)) (ha:SA C k X (e :: es) ms) (hb:x∈C.bs:=by decide) (hg:Gl X x:=by rfl) (hn:x≠"__name__" := by decide) (hdb:(x == ("__debug__" : Str))=false:=by decide)
  (he:starEach (e :: es) X.env=(false,eval e X.env) :: starEach es X.env:=by rfl) (hpl:(backTo pos (starEach es X.env)).any (·.1)=false:=by rfl):SE C k X (.Call (.Name x p) (e :: es) [] pos) (mCB g ms):=fun c=>
 (iC (hc c) hg (c.bn x hb) hv (ha c) hn hdb he hpl).imp fun σ H Q h=>B1 h
def spM (C:MC) (n:Nat) (f:Fn):Sp:=fun vs H Q _=>∃ φ h ps,RH C φ H h/\RVs C φ H ps vs/\ps.length=n/\post C φ H (f ps h) Q
def aZ (n:Nat) (f:Fn) (ms:Ma):Me:=fun δ h=>(ms δ h).bind fun ps h1=>if ps.length=n then f ps h1 else .bad
theorem s_call {st:Stmt} {a:Addr} {fd:FuncData} {ps:List Str} {j n:Nat} {f:Fn} (D:Def C.K X.mg x st a fd ps) (G:aO X.prog X.w C.K X.mg X.base CX0 j a fd ps (spM C n f)) (ha:SA C k X (e :: es) ms) (hj:j<=k:=by decide)
  (hg:Gl X x:=by rfl) (hdb:(x == ("__debug__" : Str))=false:=by decide) (he:starEach (e :: es) X.env=(false,eval e X.env) :: starEach es X.env:=by rfl) (hpl:(backTo pos (starEach es X.env)).any (·.1)=false:=by rfl):
  SE C k X (.Call (.Name x p) (e :: es) [] pos) (aZ n f ms):=fun c=>by
 have e1:=c.K
 have D':Def X.K X.mg x st a fd ps:=by rw [e1]; exact D
 have G':aO X.prog X.w X.K X.mg X.base CX0 j a fd ps (spM C n f):=by rw [e1]; exact G
 refine (AM D' G' (c.room.mono hj) (ha c) hg hdb he hpl).imp fun σ H Q h=>?_
 obtain ⟨φ,δ,h,rh,re,p⟩:=h
 refine ⟨φ,δ,h,rh,re,(postA.bind p).imp ?_⟩
 rintro vs H1 ⟨φ1,xs,h1,p1,t1,rh1,rv1,q1⟩
 refine ⟨φ1,h1,xs,rh1,by rw [List.append_nil]; exact rv1,q1.ite.1,q1.ite.2⟩
end
def cX:List PV->PH->Rs PV:=fun xs h=>match xs with
 | [.str y]=>if y.length<=sizeLine then .ok (.int y.length) h else .bad
 | [.tup ys]=>.ok (.int ys.length) h
 | [.fl ys]=>.ok (.int ys.length) h
 | [.ref n]=>match bG h n with
  | some ys=>.ok (.int ys.length) h
  | none=>match h[n]? with
   | some (.dK kvs)=>.ok (.int kvs.length) h
   | _=>.bad
 | _=>.bad
theorem RVs.one {φ:List Addr} {H:Hp} {x:PV} {vs:List V} (r:RVs C φ H [x] vs):∃ v,vs=[v]/\RV C φ H x v:=by
 match vs,r with
 | [v],⟨h,_⟩=>exact ⟨v,rfl,h⟩
 | [],h=>exact h.elim
 | _ :: _ :: _,⟨_,h⟩=>exact h.elim
theorem RVs.two {φ:List Addr} {H:Hp} {x y:PV} {vs:List V} (r:RVs C φ H [x,y] vs):∃ v w,vs=[v,w]/\RV C φ H x v/\RV C φ H y w:=by
 match vs,r with
 | [v,w],⟨h,h',_⟩=>exact ⟨v,w,rfl,h,h'⟩
 | [],h=>exact h.elim
 | [_],⟨_,h⟩=>exact h.elim
 | _ :: _ :: _ :: _,⟨_,_,h⟩=>exact h.elim
theorem cZ:oP C k X (.builtin "len") cX:=fun c=>(qJ C.K c.K).imp fun vs H Q h=>by
 obtain ⟨φ,h,ps,rh,rv,po⟩:=h
 unfold cX at po
 split at po
 ·obtain ⟨v,rfl,rx⟩:=rv.one
  cases rx
  exact ⟨po.ite.1,po.ite.2.val rh rfl⟩
 ·obtain ⟨v,rfl,rx⟩:=rv.one
  obtain ⟨a,vs,rfl,sa,ra⟩:=rx
  exact .inl ⟨vs,.inr sa,by rw [<- ra.length]; exact po.val rh rfl⟩
 ·obtain ⟨v,rfl,rx⟩:=rv.one
  obtain ⟨a,vs,rfl,sa,ra⟩:=rx
  exact .inl ⟨vs,.inl sa.sq,by rw [<- ra.length]; exact po.val rh rfl⟩
 ·rename_i n
  obtain ⟨v,rfl,rx⟩:=rv.one
  obtain ⟨a,rfl,ha⟩:=rx
  split at po
  ·rename_i ys e
   obtain ⟨a2,vs,ha2,sa,ra⟩:=dF rh e
   rw [ha] at ha2; cases ha2
   exact .inl ⟨vs,.inl sa,by rw [<- ra.length]; exact po.val rh rfl⟩
  ·split at po
   ·rename_i kvs hk
    obtain ⟨ks,hH,rk⟩:=rh.at' n a _ ha hk
    refine .inr ⟨ks,hH,?_⟩
    have:ks.length=kvs.length:=(Paired.length rk).symm
    rw [this]
    exact po.val rh rfl
   ·exact po.elim
 ·exact po.elim
def B2:List PV->PH->Rs PV:=fun xs h=>match xs with
 | [.int i,.int j]=>.ok (.int (if j > i then j else i)) h
 | _=>.bad
end L2
set_option Elab.async false
set_option linter.all false
set_option maxRecDepth 100000
namespace L2
open PySem PySem.Spec PyProof.Rows
variable {C:MC} {k:Nat} {X:Cx}
def Rs.fl {α:Type} (r:Rs α) (f:α->PH->Fl):Fl:=match r with
 | .ok a h=>f a h
 | .exc x h=>.exc x h
 | .bad=>.bad
@[simp] theorem Rs.fl_ok {α:Type} (a:α) (h:PH) (f:α->PH->Fl):(Rs.ok a h).fl f=f a h:=(rfl)
@[simp] theorem Rs.fl_exc {α:Type} (x:PX) (h:PH) (f:α->PH->Fl):(Rs.exc x h:Rs α).fl f=.exc x h:=(rfl)
@[simp] theorem Rs.fl_bad {α:Type} (f:α->PH->Fl):(Rs.bad:Rs α).fl f=.bad:=(rfl)
section
variable {φ:List Addr} {H:Hp}
theorem post.fl {r:Rs PV} {f:PV->PH->Fl} {D:Ends} (h:bK C φ H (r.fl f) D):post C φ H r fun v H1=>∃ φ1 p h1,φ<+:φ1/\Kp H H1/\RH C φ1 H1 h1/\RV C φ1 H1 p v/\bK C φ1 H1 (f p h1) D:=by
 cases r with
 | ok a h'=>exact fun φ' v H' p t rh rv=>⟨φ',a,h',p,t,rh,rv,bK.weak p t h⟩
 | exc a h'=>exact h
 | bad=>exact h
theorem bJ.fl {r:Rs Bool} {f:Bool->PH->Fl} {D:Ends} (h:bK C φ H (r.fl f) D):bJ C φ H r fun b H1=>∃ φ1 h1,φ<+:φ1/\Kp H H1/\RH C φ1 H1 h1/\bK C φ1 H1 (f b h1) D:=by
 cases r with
 | ok a h'=>exact fun φ' H' p t rh=>⟨φ',h',p,t,rh,bK.weak p t h⟩
 | exc a h'=>exact h
 | bad=>exact h
theorem bK.nx {δ:Ev} {h:PH} {D:Ends} {σ:St} (q:bK C φ H (.nx δ h) D) (rh:RH C φ H h) (re:RE C φ H δ σ):D.nx σ H:=q φ σ H List.prefix_rfl (Kp.refl H) rh re
theorem bK.rt {p:PV} {h:PH} {D:Ends} {v:V} (q:bK C φ H (.rt p h) D) (rh:RH C φ H h) (rv:RV C φ H p v):D.rt v H:=q φ v H List.prefix_rfl (Kp.refl H) rh rv
end
abbrev Mg:=PV->Ev->Option Ev
abbrev Mgs:=List PV->Ev->Option Ev
def rdG (C:MC) (t:Mg):TG:=fun v σ H Q=>∃ φ δ h p δ',RH C φ H h/\RE C φ H δ σ/\RV C φ H p v/\t p δ=some δ'/\∀ σ',RE C φ H δ' σ'->Q σ' H
def CS (C:MC) (t:Mgs):TGs:=fun vs σ H Q=>∃ φ δ h ps δ',RH C φ H h/\RE C φ H δ σ/\RVs C φ H ps vs/\t ps δ=some δ'/\∀ σ',RE C φ H δ' σ'->Q σ' H
def SG (C:MC) (k:Nat) (X:Cx) (e:Expr) (t:Mg):Prop:=Cxt C k X->PG X e (rdG C t)
def SGs (C:MC) (k:Nat) (X:Cx) (es:List Expr) (t:Mgs):Prop:=Cxt C k X->PGs X es (CS C t)
def gN (i:Nat):Mg:=fun p δ=>some (δ.set i (some p))
def gNl:Mgs:=fun ps δ=>match ps with
 | []=>some δ
 | _ :: _=>none
def gCn (t:Mg) (u:Mgs):Mgs:=fun ps δ=>match ps with
 | p :: r=>(t p δ).bind (u r)
 | []=>none
def gTp (n:Nat) (u:Mgs):Mg:=fun p δ=>match p with
 | .tup ps=>if ps.length=n then u ps δ else none
 | _=>none
theorem PG.imp {e:Expr} {t t':TG} (h:PG X e t) (i:∀ v σ H Q,t' v σ H Q->t v σ H Q):PG X e t':=fun pins s σ H v u Q I r q=>h pins s σ H v u Q I r (i v σ H Q q)
theorem PGs.imp {es:List Expr} {t t':TGs} (h:PGs X es t) (i:∀ v σ H Q,t' v σ H Q->t v σ H Q):PGs X es t':=fun pins s σ H v u Q I r q=>h pins s σ H v u Q I r (i v σ H Q q)
theorem eB {i:Nat} {x:Str} {pos:Pos} (hN:X.N.Nodup) (hi:X.N[i]?=some x:=by rfl) (hx:Loc X.env.scope x:=by first | exact Or.inl rfl | exact Or.inr rfl) (hf:X.fn x=true\/X.env.scope.names.lookup x=some .local:=by first | exact .inl rfl | exact .inr rfl):SG C k X (.Name x pos) (gN i):=fun c=>
 (tW hN hi hx hf).imp fun v σ H Q h=>by
  obtain ⟨φ,δ,h,p,δ',rh,re,rv,e,q⟩:=h
  cases e
  exact q _ (re.set rv i)
theorem B3:SGs C k X [] gNl:=fun c=>tX.imp fun v σ H Q h=>by
 obtain ⟨φ,δ,h,ps,δ',rh,re,rv,e,q⟩:=h
 cases ps with
 | nil=>
  cases e
  cases v with
  | nil=>exact ⟨rfl,q σ re⟩
  | cons=>exact rv.elim
 | cons=>cases e
theorem kT {e:Expr} {es:List Expr} {t:Mg} {u:Mgs} (h1:SG C k X e t) (h2:SGs C k X es u) (hs:(assignEach (e :: es) X.env).map (·.2)=assign e X.env :: (assignEach es X.env).map (·.2):=by rfl):SGs C k X (e :: es) (gCn t u):=fun c=>
 (rB (h1 c) (h2 c) hs).imp fun vs σ H Q h=>by
  obtain ⟨φ,δ,h,ps,δ',rh,re,rv,e,q⟩:=h
  cases ps with
  | nil=>cases e
  | cons p r=>
   cases vs with
   | nil=>exact rv.elim
   | cons v vs=>
    obtain ⟨δ1,e1,e2⟩:=Option.bind_eq_some_iff.mp (show (t p δ).bind (u r)=some δ' from e)
    exact ⟨v,vs,rfl,φ,δ,h,p,δ1,rh,re,rv.1,e1,fun σ' re'=>⟨φ,δ1,h,r,δ',rh,re',rv.2,e2,q⟩⟩
theorem B4 {es:List Expr} {j:Nat} {u:Mgs} {n:Nat} {pos:Pos} (h:SGs C k X es u) (hn:(assignEach es X.env).length=n:=by rfl) (hst:(assignEach es X.env).findIdx? (·.1)=none:=by rfl):SG C k X (.Tuple es j pos) (gTp n u):=fun c=>
 (gT C.K c.K c.calm (h c) hn hst).imp fun v σ H Q h=>by
  obtain ⟨φ,δ,h,p,δ',rh,re,rv,e,q⟩:=h
  cases p with
  | tup ps=>
   obtain ⟨a,vs,rfl,sa,ra⟩:=rv
   by_cases hl:ps.length=n
   ·have e':u ps δ=some δ':=by
     have:(if ps.length=n then u ps δ else none)=some δ':=e
     rw [if_pos hl] at this
     exact this
    exact ⟨a,vs,rfl,sa,by rw [<- ra.length]; exact hl,φ,δ,h,ps,δ',rh,re,ra,e',q⟩
   ·have:(if ps.length=n then u ps δ else none)=some δ':=e
    rw [if_neg hl] at this
    cases this
  | _=>cases e
theorem PS.imp {st:Stmt} {t t':TS} (h:PS X st t) (i:∀ D σ H,t' D σ H->t D σ H):PS X st t':=fun pins s σ H D I q=>h pins s σ H D I (i D σ H q)
theorem PSs.imp {st:List Stmt} {t t':TS} (h:PSs X st t) (i:∀ D σ H,t' D σ H->t D σ H):PSs X st t':=fun pins s σ H D I q=>h pins s σ H D I (i D σ H q)
def aS (a b:Ms):Ms:=fun δ h=>match a δ h with
 | .nx δ1 h1=>b δ1 h1
 | r=>r
def cH:Ms:=fun δ h=>.nx δ h
def CT:Ms:=fun δ h=>.bk δ h
def CU:Ms:=fun δ h=>.ct δ h
def bY (i:Nat) (m:Me):Ms:=fun δ h=>(m δ h).fl fun p h1=>.nx (δ.set i (some p)) h1
def uV (m:Me) (t:Mg):Ms:=fun δ h=>(m δ h).fl fun p h1=>match t p δ with
 | some δ'=>.nx δ' h1
 | none=>.bad
def uW (m:Me):Ms:=fun δ h=>(m δ h).fl fun _ h1=>.nx δ h1
def bP (m:Me):Ms:=fun δ h=>(m δ h).fl fun p h1=>.rt p h1
def B5:Ms:=fun _ h=>.rt .non h
def cD (t:Ev->PH->Rs Bool) (a b:Ms):Ms:=fun δ h=>(t δ h).fl fun c h1=>match c with
 | true=>a δ h1
 | false=>b δ h1
section
variable {st:Stmt} {rest:List Stmt} {a b:Ms} {e:Expr} {m:Me} {pos:Pos}
theorem aR:SSs C k X [] cH:=fun c=>kD.imp fun D σ H h=>by
 obtain ⟨φ,δ,h,rh,re,p⟩:=h
 exact p.nx rh re
theorem yY {φ:List Addr} {H:Hp} {r:Fl} {b:Ms} {D:Ends} (h:bK C φ H (match r with | .nx δ1 h1=>b δ1 h1 | r=>r) D):bK C φ H r { D with nx:=rdS C b D }:=by
 cases r with
 | nx δ h'=>exact fun φ' σ H' p t rh re=>⟨φ',δ,h',rh,re,bK.weak p t h⟩
 | rt p h'=>exact h
 | bk δ h'=>exact h
 | ct δ h'=>exact h
 | exc x h'=>exact h
 | bad=>exact h
theorem aG (h1:SSt C k X st a) (h2:SSs C k X rest b):SSs C k X (st :: rest) (aS a b):=fun c=>(dE (h1 c) (h2 c)).imp fun D σ H h=>by
 obtain ⟨φ,δ,h,rh,re,p⟩:=h
 exact ⟨φ,δ,h,rh,re,yY p⟩
theorem aJ (h1:SSt C k X st a):SSs C k X [st] a:=fun c=>fM (h1 c)
theorem bD {i:Nat} {x:Str} {pos':Pos} (hN:X.N.Nodup) (he:SE C k X e m) (hi:X.N[i]?=some x:=by rfl) (hx:Loc X.env.scope x:=by first | exact Or.inl rfl | exact Or.inr rfl) (hs:swapsWith e (some (.Name x pos')) pos.line X.env=pure false:=by rfl)
  (hf:X.fn x=true\/X.env.scope.names.lookup x=some .local:=by first | exact .inl rfl | exact .inr rfl):SSt C k X (.Assign [.Name x pos'] e pos) (bY i m):=fun c=>(mZ hN hi hx (he c) hs hf).imp fun D σ H h=>by
 obtain ⟨φ,δ,h,rh,re,p⟩:=h
 refine ⟨φ,δ,h,rh,re,(post.fl p).imp ?_⟩
 rintro v H1 ⟨φ1,x,h1,p1,t1,rh1,rv1,q1⟩
 exact q1.nx rh1 ((re.mono p1 t1).set rv1 i)
theorem B6 {tg:Expr} {t:Mg} (he:SE C k X e m) (hg:SG C k X tg t) (hs:swapsWithSole [tg] e pos.line X.env=pure false:=by rfl) (hw:swappedStores [tg] e X.env=pure none:=by rfl)
  (h1:(assignEach [tg] X.env).map (·.2)=[assign tg X.env]:=by rfl):SSt C k X (.Assign [tg] e pos) (uV m t):=fun c=>(xR (he c) (hg c) hs hw h1).imp fun D σ H h=>by
 obtain ⟨φ,δ,h,rh,re,p⟩:=h
 refine ⟨φ,δ,h,rh,re,(post.fl p).imp ?_⟩
 rintro v H1 ⟨φ1,x,h1,p1,t1,rh1,rv1,q1⟩
 cases et:t x δ with
 | none=>rw [et] at q1; exact q1.elim
 | some δ'=>
  rw [et] at q1
  exact ⟨φ1,δ,h1,x,δ',rh1,re.mono p1 t1,rv1,et,fun σ' re'=>q1.nx rh1 re'⟩
theorem B7 (he:SE C k X e m) (hs:swapsWith e none pos.line X.env=pure false:=by rfl):SSt C k X (.Expr e pos) (uW m):=fun c=>(tV (he c) hs).imp fun D σ H h=>by
 obtain ⟨φ,δ,h,rh,re,p⟩:=h
 refine ⟨φ,δ,h,rh,re,(post.fl p).imp ?_⟩
 rintro v H1 ⟨φ1,x,h1,p1,t1,rh1,rv1,q1⟩
 exact q1.nx rh1 (re.mono p1 t1)
theorem aX (he:SE C k X e m):SSt C k X (.Return (some e) pos) (bP m):=fun c=>(rA (he c)).imp fun D σ H h=>by
 obtain ⟨φ,δ,h,rh,re,p⟩:=h
 refine ⟨φ,δ,h,rh,re,(post.fl p).imp ?_⟩
 rintro v H1 ⟨φ1,x,h1,p1,t1,rh1,rv1,q1⟩
 exact q1.rt rh1 rv1
theorem cK {cnd:Expr} {as bs:List Stmt} {t:Ev->PH->Rs Bool} (hc:ST C k X cnd t) (ha:SSs C k X as a) (hb:SSs C k X bs b):SSt C k X (.If cnd as bs pos) (cD t a b):=fun c=>(oG (hc c) (ha c) (hb c)).imp fun D σ H h=>by
 obtain ⟨φ,δ,h,rh,re,p⟩:=h
 refine ⟨φ,δ,h,rh,re,(bJ.fl p).imp ?_⟩
 rintro d H1 ⟨φ1,h1,p1,t1,rh1,q1⟩
 cases d with
 | true=>exact qG ⟨φ1,δ,h1,rh1,re.mono p1 t1,q1⟩
 | false=>exact kL ⟨φ1,δ,h1,rh1,re.mono p1 t1,q1⟩
end
structure Wk where
 xs:List PV
 g:PH->Bool
def uX (C:MC) (J:It) (w:Wk) (φ0:List Addr) (H0:Hp):Prop:=∀ φ H h,φ0<+:φ->Kp H0 H->RH C φ H h->w.g h=true->∀ i:Nat,
 (i < w.xs.length->J.go i H/\∀ x H',J.yld i H x H'->(∃ p,w.xs[i]?=some p/\RV C φ H' p x)/\Kp H H'/\RH C φ H' h)/\(w.xs.length<=i->J.stop i H)
abbrev Mi:=Ev->PH->Rs Wk
def dR (C:MC) (φ:List Addr) (H:Hp) (r:Rs Wk) (R:It->Hp->Prop):Prop:=match r with
 | .ok w h=>∀ φ' H' J,φ<+:φ'->Kp H H'->RH C φ' H' h->uX C J w φ' H'->R J H'
 | .exc x h=>∀ φ' H',φ<+:φ'->Kp H H'->RH C φ' H' h->C.ex φ' H' x
 | .bad=>False
def rdI (C:MC) (m:Mi):TI:=fun σ H R=>∃ φ δ h,RH C φ H h/\RE C φ H δ σ/\dR C φ H (m δ h) R
def SI (C:MC) (k:Nat) (X:Cx) (tg iter:Expr) (m:Mi):Prop:=Cxt C k X->PI X tg iter (rdI C m)
def uY (n:Nat) (xs:List PV) (h':PH):Bool:=match bG h' n with
 | some ys=>PV.beqs ys xs
 | none=>false
def ofSeq (x:PV) (h:PH):Rs Wk:=match x with
 | .tup xs=>.ok ⟨xs,fun _=>true⟩ h
 | .ref n=>match bG h n with
  | some xs=>.ok ⟨xs,uY n xs⟩ h
  | none=>.bad
 | .fl xs=>.ok ⟨xs,fun _=>true⟩ h
 | _=>.bad
def mE (m:Me):Mi:=fun δ h=>(m δ h).bind ofSeq
theorem B8 {tg iter:Expr} {m:Me} (h:SE C k X iter m):SI C k X tg iter (mE m):=fun c=>by
 intro pins s σ H R I q
 obtain ⟨φ,δ,hh,rh,re,p⟩:=q
 have key:rd C m σ H fun v H1=>∃ φ1 x h1,φ<+:φ1/\Kp H H1/\RH C φ1 H1 h1/\RV C φ1 H1 x v/\dR C φ1 H1 (ofSeq x h1) R:=by
  refine ⟨φ,δ,hh,rh,re,?_⟩
  unfold mE at p
  cases e:m δ hh with
  | ok x h1=>
   rw [e] at p
   intro φ' v H' p' t' rh' rv'
   refine ⟨φ',x,h1,p',t',rh',rv',?_⟩
   show dR C φ' H' (ofSeq x h1) R
   have p0:dR C φ H (ofSeq x h1) R:=p
   cases e2:ofSeq x h1 with
   | ok w h2=>rw [e2] at p0; exact fun φ2 H2 J p2 t2=>p0 φ2 H2 J (p'.trans p2) (t'.trans t2)
   | exc z h2=>rw [e2] at p0; exact fun φ2 H2 p2 t2=>p0 φ2 H2 (p'.trans p2) (t'.trans t2)
   | bad=>rw [e2] at p0; exact p0
  | exc x h1=>rw [e] at p; exact p
  | bad=>rw [e] at p; exact p
 refine thn (h c pins s σ H _ I key) fun v s1 hz=>?_
 obtain ⟨x,H1,I1,r1,φ1,x',h1,p1,t1,rh1,rv1,q1⟩:=hz
 unfold ofSeq at q1
 cases x' with
 | tup xs=>
  obtain ⟨a,vs,rfl,sa,ra⟩:=rv1
  cases r1
  rw [<- c.K] at sa
  obtain ⟨its,rv,p,hz⟩:=I1.tuple sa
  refine wpAny_pyIter_tuple (show s1.heap.IsTuple a its.toArray from p) ?_
  refine ⟨s1.heap.objs.size,[s1.heap.objs.size],_,_,H1,rfl,I1.kept (t':=s1.toks) fun b o e=>Heap.get?_push_of_some _ e,nA a _,⟨_,Heap.get?_push_size _ rfl,rfl,rfl⟩,fun b hb=>?_,?_⟩
  ·have e:b=s1.heap.objs.size:=by simpa using hb
   subst e
   exact I1.fpOk (Nat.le_refl _) (I1.hok.fresh (Nat.le_refl _))
  ·refine q1 φ1 H1 (Itt X.K a) List.prefix_rfl (Kp.refl H1) rh1 fun φ2 H2 h2 p2 t2 rh2 _ i=>⟨fun hi=>?_,fun hi=>⟨vs,t2.sq sa,by rw [<- ra.length]; exact hi⟩⟩
   have hi':i < vs.length:=by rw [<- ra.length]; exact hi
   refine ⟨⟨vs,vs[i],t2.sq sa,by simp [hi']⟩,fun x H' y=>?_⟩
   obtain ⟨e,y⟩:=y
   subst e
   obtain ⟨x2,e2,r2⟩:=ra.get (y vs (t2.sq sa))
   exact ⟨⟨x2,e2,r2.mono p2 t2⟩,Kp.refl _,rh2⟩
 | ref n=>
  obtain ⟨a,rfl,ha⟩:=rv1
  cases r1
  dsimp only at q1
  cases e:bG h1 n with
  | none=>rw [e] at q1; exact q1.elim
  | some xs=>
   rw [e] at q1
   obtain ⟨a2,vs,ha2,sa,ra⟩:=dF rh1 e
   rw [ha] at ha2; cases ha2
   have sa':SqL X.K H1 a vs:=by rw [c.K]; exact sa
   obtain ⟨its,rv,p,hz⟩:=I1.list sa'
   refine wpAny_pyIter_list p.isList ?_
   refine ⟨s1.heap.objs.size,[s1.heap.objs.size],_,_,H1,rfl,I1.kept (t':=s1.toks) fun b o e=>Heap.get?_push_of_some _ e,jF a _,⟨_,Heap.get?_push_size _ rfl,rfl,rfl⟩,fun b hb=>?_,?_⟩
   ·have e:b=s1.heap.objs.size:=by simpa using hb
    subst e
    exact I1.fpOk (Nat.le_refl _) (I1.hok.fresh (Nat.le_refl _))
   ·refine q1 φ1 H1 (Itl X.K a) List.prefix_rfl (Kp.refl H1) rh1 fun φ2 H2 h2 p2 t2 rh2 hg i=>?_
    have hg:(match bG h2 n with | some ys=>PV.beqs ys xs | none=>false)=true:=hg
    cases e2:bG h2 n with
    | none=>rw [e2] at hg; cases hg
    | some ys=>
     rw [e2] at hg
     have hxy:=PV.beqs_eq hg
     subst hxy
     obtain ⟨a3,us,ha3,su,ru⟩:=dF rh2 e2
     rw [kO p2 ha] at ha3; cases ha3
     rw [<- c.K] at su
     refine ⟨fun hi=>?_,fun hi=>⟨us,su,by rw [<- ru.length]; exact hi⟩⟩
     have hi':i < us.length:=by rw [<- ru.length]; exact hi
     refine ⟨⟨us,us[i],su,by simp [hi']⟩,fun x H' y=>?_⟩
     obtain ⟨e,y⟩:=y
     subst e
     obtain ⟨x2,e2,r2⟩:=ru.get (y us su)
     exact ⟨⟨x2,e2,r2⟩,Kp.refl _,rh2⟩
 | fl xs=>
  obtain ⟨a,vs,rfl,sa,ra⟩:=rv1
  cases r1
  rw [<- c.K] at sa
  obtain ⟨its,rv,p,hz⟩:=I1.list sa.sq
  refine wpAny_pyIter_list p.isList ?_
  refine ⟨s1.heap.objs.size,[s1.heap.objs.size],_,_,H1,rfl,I1.kept (t':=s1.toks) fun b o e=>Heap.get?_push_of_some _ e,jF a _,⟨_,Heap.get?_push_size _ rfl,rfl,rfl⟩,fun b hb=>?_,?_⟩
  ·have e:b=s1.heap.objs.size:=by simpa using hb
   subst e
   exact I1.fpOk (Nat.le_refl _) (I1.hok.fresh (Nat.le_refl _))
  ·refine q1 φ1 H1 (Itl X.K a) List.prefix_rfl (Kp.refl H1) rh1 fun φ2 H2 h2 p2 t2 rh2 _ i=>⟨fun hi=>?_,fun hi=>⟨vs,(t2.sf sa).sq,by rw [<- ra.length]; exact hi⟩⟩
   have hi':i < vs.length:=by rw [<- ra.length]; exact hi
   refine ⟨⟨vs,vs[i],(t2.sf sa).sq,by simp [hi']⟩,fun x H' y=>?_⟩
   obtain ⟨e,y⟩:=y
   subst e
   obtain ⟨x2,e2,r2⟩:=ra.get (y vs (t2.sf sa).sq)
   exact ⟨⟨x2,e2,r2.mono p2 t2⟩,Kp.refl _,rh2⟩
 | _=>exact q1.elim
def upTo (lo:Int):Nat->List PV
 | 0=>[]
 | n+1=>.int lo :: upTo (lo+1) n
theorem cR:∀ (n:Nat) (lo:Int),(upTo lo n).length=n
 | 0,_=>rfl
 | n+1,lo=>by simp [upTo,cR n]
theorem iM:∀ (n:Nat) (lo:Int) (i:Nat),i < n->(upTo lo n)[i]?=some (.int (lo+i))
 | 0,_,_,h=>by omega
 | n+1,lo,0,_=>by simp [upTo]
 | n+1,lo,i+1,h=>by
  simp only [upTo,List.getElem?_cons_succ]
  rw [iM n (lo+1) i (by omega)]
  congr 2
  omega
open Classical in
noncomputable def sI:List PV->PH->Rs Wk:=fun xs h=>match xs with
 | [.int j]=>if -(2 ^ 62)<=j/\j < 2 ^ 62 then .ok ⟨upTo 0 j.toNat,fun _=>true⟩ h else .bad
 | _=>.bad
noncomputable def gS (ms:Ma):Mi:=fun δ h=>(ms δ h).bind sI
theorem yZ (lo:Int) (n:Nat) (φ:List Addr) (H:Hp):uX C (Itr lo n) ⟨upTo lo n,fun _=>true⟩ φ H:=fun φ2 H2 h2 p2 t2 rh2 _ i=>by
 refine ⟨fun hi=>?_,fun hi=>?_⟩
 ·have hi':i < n:=by rw [<- cR n lo]; exact hi
  refine ⟨hi',fun x H' y=>?_⟩
  obtain ⟨e,y⟩:=y
  subst e y
  exact ⟨⟨.int (lo+i),iM n lo i hi',rfl⟩,Kp.refl _,rh2⟩
 ·have:(upTo lo n).length<=i:=hi
  rw [cR] at this
  exact this
theorem postA.bindI {φ:List Addr} {H:Hp} {r:Rs (List PV)} {f:List PV->PH->Rs Wk} {R:It->Hp->Prop} (h:dR C φ H (r.bind f) R):postA C φ H r fun vs H1=>∃ φ1 ps h1,φ<+:φ1/\Kp H H1/\RH C φ1 H1 h1/\RVs C φ1 H1 ps vs/\dR C φ1 H1 (f ps h1) R:=by
 cases r with
 | ok a h'=>
  intro φ' v H' p' t' rh rv
  refine ⟨φ',a,h',p',t',rh,rv,?_⟩
  have p0:dR C φ H (f a h') R:=h
  cases e2:f a h' with
  | ok w h2=>rw [e2] at p0; exact fun φ2 H2 J p2 t2=>p0 φ2 H2 J (p'.trans p2) (t'.trans t2)
  | exc z h2=>rw [e2] at p0; exact fun φ2 H2 p2 t2=>p0 φ2 H2 (p'.trans p2) (t'.trans t2)
  | bad=>rw [e2] at p0; exact p0
 | exc a h'=>exact h
 | bad=>exact h
theorem PI.imp {tg iter:Expr} {t t':TI} (h:PI X tg iter t) (i:∀ σ H R,t' σ H R->t σ H R):PI X tg iter t':=fun pins s σ H R I q=>h pins s σ H R I (i σ H R q)
theorem kU {x:Expr} {ms:Ma} {tg:Expr} {p pos:Pos} (ha:SA C k X [x] ms) (hb:("range" : Str)∈C.bs:=by decide) (hg:Gl X "range" := by rfl) (hs:starEach [x] X.env=[(false,eval x X.env)]:=by rfl):SI C k X tg (.Call (.Name "range" p) [x] [] pos) (gS ms):=fun c=>
 (pr1 hg (c.bn _ hb) (ha c) hs).imp fun σ H R h=>by
  obtain ⟨φ,δ,h,rh,re,p⟩:=h
  refine ⟨φ,δ,h,rh,re,(postA.bindI p).imp ?_⟩
  rintro vs H1 ⟨φ1,xs,h1,p1,t1,rh1,rv1,q1⟩
  unfold sI at q1
  split at q1
  ·obtain ⟨v,rfl,rx⟩:=rv1.one
   cases rx
   rename_i j
   by_cases hj:-(2 ^ 62)<=j/\j < 2 ^ 62
   ·rw [if_pos hj] at q1
    exact ⟨hj,q1 φ1 H1 _ List.prefix_rfl (Kp.refl _) rh1 (yZ 0 j.toNat φ1 H1)⟩
   ·rw [if_neg hj] at q1; exact q1.elim
  ·exact q1.elim
def dJ (g:PH->Bool) (tg:Mg) (body:Ms):List PV->Ev->PH->Fl
 | [],δ,h=>if g h=true then .nx δ h else .bad
 | x :: xs,δ,h=>if g h=true then (match tg x δ with
  | none=>.bad
  | some δ1=>match body δ1 h with
   | .nx δ2 h2=>dJ g tg body xs δ2 h2
   | .ct δ2 h2=>dJ g tg body xs δ2 h2
   | .bk δ2 h2=>.nx δ2 h2
   | r=>r) else .bad
def iN (mi:Mi) (tg:Mg) (body:Ms):Ms:=fun δ h=>(mi δ h).fl fun w h1=>dJ w.g tg body w.xs δ h1
theorem dR.fl {φ:List Addr} {H:Hp} {r:Rs Wk} {f:Wk->PH->Fl} {D:Ends} (h:bK C φ H (r.fl f) D):dR C φ H r fun J H1=>∃ φ1 w h1,φ<+:φ1/\Kp H H1/\RH C φ1 H1 h1/\uX C J w φ1 H1/\bK C φ1 H1 (f w h1) D:=by
 cases r with
 | ok a h'=>exact fun φ' H' J p t rh wk=>⟨φ',a,h',p,t,rh,wk,bK.weak p t h⟩
 | exc a h'=>exact h
 | bad=>exact h
theorem dR.imp {φ:List Addr} {H:Hp} {r:Rs Wk} {Q Q':It->Hp->Prop} (h:dR C φ H r Q) (i:∀ v H',Q v H'->Q' v H'):dR C φ H r Q':=by
 cases r with
 | ok a h'=>exact fun φ' H' J p t rh wk=>i J H' (h φ' H' J p t rh wk)
 | exc a h'=>exact h
 | bad=>exact h
theorem drop_cons {α:Type} {xs:List α} {i:Nat} {p:α} (h:xs[i]?=some p):xs.drop i=p :: xs.drop (i+1):=by
 obtain ⟨h1,h2⟩:=List.getElem?_eq_some_iff.mp h
 rw [List.drop_eq_getElem_cons h1,h2]
theorem fS {J:It} {w:Wk} {φ0:List Addr} {H0:Hp} {tg:Mg} {body:Ms} {D:Ends} {σ:St} {δ:Ev} {h:PH} (wk:uX C J w φ0 H0) (rh:RH C φ0 H0 h) (re:RE C φ0 H0 δ σ) (p:bK C φ0 H0 (dJ w.g tg body w.xs δ h) D):
  ∃ W:Nat->Nat->St->Hp->Prop,(∃ m,W 0 m σ H0)/\∀ i m σ H,W i m σ H->
   (J.stop i H/\D.nx σ H)\/(J.go i H/\∃ N:St->Hp->Prop,(∀ σ' H',N σ' H'->∃ m',m' < m/\W (i+1) m' σ' H')/\∀ x H',J.yld i H x H'->rdG C tg x σ H' fun σ2 H2=>rdS C body { D with nx:=N,ct:=N,bk:=D.nx } σ2 H2):=by
 refine ⟨fun i m σ H=>m=w.xs.length - i/\i<=w.xs.length/\∃ φ δ h,φ0<+:φ/\Kp H0 H/\RH C φ H h/\RE C φ H δ σ/\bK C φ H (dJ w.g tg body (w.xs.drop i) δ h) D,
  ⟨w.xs.length,by simp,Nat.zero_le _,φ0,δ,h,List.prefix_rfl,Kp.refl _,rh,re,by rw [List.drop_zero]; exact p⟩,?_⟩
 rintro i m σ H ⟨rfl,hi,φ,δ,h,pp,tt,rh,re,p⟩
 by_cases hlt:i < w.xs.length
 ·have hd:w.xs.drop i=w.xs[i] :: w.xs.drop (i+1):=drop_cons (by simp [hlt])
  rw [hd] at p
  unfold dJ at p
  by_cases hg:w.g h=true
  ·rw [if_pos hg] at p
   obtain ⟨go,step⟩:=(wk φ H h pp tt rh hg i).1 hlt
   refine .inr ⟨go,fun σ' H'=>∃ φ δ h,φ0<+:φ/\Kp H0 H'/\RH C φ H' h/\RE C φ H' δ σ'/\bK C φ H' (dJ w.g tg body (w.xs.drop (i+1)) δ h) D,fun σ' H' ⟨φ',δ',h',q⟩=>⟨w.xs.length - (i+1),by omega,rfl,hlt,φ',δ',h',q⟩,fun x H' y=>?_⟩
   obtain ⟨⟨q,eq,rv⟩,t1,rh1⟩:=step x H' y
   have eq':w.xs[i]=q:=by
    have:w.xs[i]?=some w.xs[i]:=by simp [hlt]
    rw [this] at eq
    exact Option.some.inj eq
   rw [eq'] at p
   cases et:tg q δ with
   | none=>rw [et] at p; exact p.elim
   | some δ1=>
    rw [et] at p
    dsimp only at p
    refine ⟨φ,δ,h,q,δ1,rh1,re.mono List.prefix_rfl t1,rv,et,fun σ2 re2=>⟨φ,δ1,h,rh1,re2,?_⟩⟩
    have p:=bK.weak List.prefix_rfl t1 p
    cases eb:body δ1 h with
    | nx δ2 h2=>rw [eb] at p; exact fun φ3 σ3 H3 p3 t3 rh3 re3=>⟨φ3,δ2,h2,pp.trans p3,(tt.trans t1).trans t3,rh3,re3,bK.weak p3 t3 p⟩
    | ct δ2 h2=>rw [eb] at p; exact fun φ3 σ3 H3 p3 t3 rh3 re3=>⟨φ3,δ2,h2,pp.trans p3,(tt.trans t1).trans t3,rh3,re3,bK.weak p3 t3 p⟩
    | bk δ2 h2=>rw [eb] at p; exact p
    | rt z h2=>rw [eb] at p; exact p
    | exc z h2=>rw [eb] at p; exact p
    | bad=>rw [eb] at p; exact p
  ·rw [if_neg hg] at p
   exact p.elim
 ·have e:i=w.xs.length:=by omega
  subst e
  rw [List.drop_length] at p
  unfold dJ at p
  by_cases hg:w.g h=true
  ·rw [if_pos hg] at p
   exact .inl ⟨(wk φ H h pp tt rh hg _).2 (Nat.le_refl _),p.nx rh re⟩
  ·rw [if_neg hg] at p
   exact p.elim
theorem mF {tg iter:Expr} {body:List Stmt} {mi:Mi} {t:Mg} {mb:Ms} {pos:Pos} (hi:SI C k X tg iter mi) (hg:SG C k X tg t) (hb:SSs C k X body mb) (hp:PassesOwn (model X.prog X.w) X.A X.env X.xe:=by exact PassesOwn.never)
  (hs:∀ x,foldedSetIterable iter X.env x=pure x:=by intro _; rfl):SSt C k X (.For tg iter body [] pos) (iN mi t mb):=fun c=>(xS hp c.calm (hi c) (hg c) (hb c) hs).imp fun D σ H h=>by
 obtain ⟨φ,δ,h,rh,re,p⟩:=h
 refine ⟨φ,δ,h,rh,re,(dR.fl p).imp ?_⟩
 rintro J H1 ⟨φ1,w,h1,p1,t1,rh1,wk,q1⟩
 exact fS wk rh1 (re.mono p1 t1) q1
end L2
set_option Elab.async false
set_option linter.all false
set_option maxRecDepth 100000
namespace L2
open PySem PySem.Spec PyProof.Rows
variable {C:MC} {k:Nat} {X:Cx}
section
variable {elt iter tg:Expr} {ifs:List Expr} {sc:Scope} {pos:Pos} {os:Scope} {oN N:List Str} {js:List (Option Nat)} {mi:Mi} {g:Mg} {tt:Ev->PH->Rs Bool} {me:Me}
end
def mFn (N:Nat) (body:Ms):Fn:=fun args h=>match body (args.map some++List.replicate (N - args.length) none) h with
 | .nx _ h'=>.ok .non h'
 | .rt p h'=>.ok p h'
 | .exc x h'=>.exc x h'
 | _=>.bad
theorem RE.start {φ:List Addr} {H:Hp} {ps:List PV} {vs:List V} (r:RVs C φ H ps vs) (N:List Str):RE C φ H (ps.map some++List.replicate (N.length - ps.length) none) (start N vs):=by
 unfold L2.start
 refine ⟨by simp [r.length],fun i p e=>?_⟩
 by_cases hi:i < ps.length
 ·rw [List.getElem?_append_left (by simpa using hi),List.getElem?_map] at e
  rw [List.getElem?_append_left (by simpa [<- r.length] using hi),List.getElem?_map]
  cases q:ps[i]? with
  | none=>rw [q] at e; cases e
  | some x=>
   rw [q] at e
   cases e
   obtain ⟨v,hv,rv⟩:=r.at q
   exact ⟨v,by rw [hv]; rfl,rv⟩
 ·rw [List.getElem?_append_right (by simpa using hi)] at e
  rw [List.getElem?_replicate] at e
  split at e
  ·cases e
  ·cases e
theorem eO {P:Program} {mg:Str->Option Value} {base:Heap} {x qual:Str} {st:Stmt} {f:Addr} {fd:FuncData} {N ps:List Str} {body:Ms} (hex:∀ φ H x,¬ C.ex φ H x) (hbn:∀ x∈C.bs,mg x=none)
  (F:Fun C.K x qual st f fd) (S:aY N ps (aF st))
  (hb:∀ (cdv:Value) (A:Around) (outer:List Env) (s:Shared) (H:Hp) (E:XK),SSs C k (gY CX0 P C.w C.K mg base N qual (aF st) f cdv A outer s H E).nox (aN st) body):
  aO P C.w C.K mg base CX0 (k+1) f fd ps (spM C ps.length (mFn N.length body)):=by
 refine F.ok S (fun vs H Q E h=>?_) (fun cdv A outer s H vs Q E hr h=>?_)
 ·obtain ⟨φ,h,xs,rh,rv,hl,_⟩:=h
  rw [<- rv.length]
  exact hl
 ·obtain ⟨φ,h,xs,rh,rv,hl,p⟩:=h
  refine ⟨_,hb cdv A outer s H E ⟨rfl,rfl,hr,hbn,rfl⟩,φ,xs.map some++List.replicate (N.length - xs.length) none,h,rh,RE.start rv N,?_⟩
  unfold mFn at p
  cases e:body (xs.map some++List.replicate (N.length - xs.length) none) h with
  | nx δ h'=>rw [e] at p; exact fun φ' σ' H' pp tt rh' re'=>p φ' .non H' pp tt rh' rfl
  | rt z h'=>rw [e] at p; exact p
  | exc z h'=>rw [e] at p; exact fun φ' H' pp tt rh'=>(hex _ _ _ (p φ' H' pp tt rh')).elim
  | bk δ h'=>rw [e] at p; exact p.elim
  | ct δ h'=>rw [e] at p; exact p.elim
  | bad=>rw [e] at p; exact p.elim
theorem zA {f:Fn} {H:Hp} {Q:VK} {E:XK} {a:Addr} {ns:List Int} (hO:uK H) (ho:SqL C.K H a (ns.map V.int)) (hf:∃ h,f [.fl (ns.map PV.int)] []=.ok (.bl true) h) (hQ:∀ H',Q (.bl true) H'):spM C 1 f [.ref a] H Q E:=by
 have r0:∀ ns:List Int,RVs C [] H (ns.map PV.int) (ns.map V.int):=by
  intro ns
  induction ns with
  | nil=>trivial
  | cons n ns ih=>exact ⟨rfl,ih⟩
 have hs:SqF C.K H a (ns.map V.int):=by
  rcases ho with (h | ⟨o,h⟩) | h
  ·rcases hO a with z | ⟨o,xs,z⟩
   ·rw [z] at h; cases h
   ·rw [z] at h; cases h
  ·exact .inl ⟨o,h⟩
  ·exact .inr h
 refine ⟨[],[],[.fl (ns.map PV.int)],⟨rfl,by simp,fun n b ob h1 h2=>by simp at h1⟩,⟨⟨a,_,rfl,hs,r0 ns⟩,trivial⟩,rfl,?_⟩
 obtain ⟨h,e⟩:=hf
 rw [e]
 intro φ' v H' _ _ _ rv
 cases rv
 exact hQ H'
end L2
set_option Elab.async false
set_option linter.all false
set_option maxRecDepth 100000
namespace L2
open PySem PySem.Spec PyProof.Rows
variable {C:MC} {k:Nat} {X:Cx}
def tyN (x:PV) (h:PH):Option String:=match x with
 | .non=>some "NoneType"
 | .bl _=>some "bool"
 | .int _=>some "int"
 | .str _=>some "str"
 | .tup _=>some "tuple"
 | .fl _=>some "list"
 | .ref n=>match h[n]? with
  | some (.lst _)=>some "list"
  | some (.dK _)=>some "dict"
  | _=>none
 | .ty _=>none
def eK (t c:String):Bool:=t == c || (t == "bool" && c == "int")
def known:List String:=["int","str","bool","list","tuple","dict"]
theorem zB {K:PySem.W.Frag} {t c:String} (ht:t∈"NoneType" :: known) (hc:c∈known):PySem.W.kitOne K (.type t) (.type c)=some (eK t c):=by
 simp only [known,List.mem_cons,List.not_mem_nil,or_false] at ht hc
 rcases ht with rfl | rfl | rfl | rfl | rfl | rfl | rfl <;> rcases hc with rfl | rfl | rfl | rfl | rfl | rfl <;> rfl
def mG:List PV->PH->Rs PV:=fun xs h=>match xs with
 | [x,.ty c]=>match tyN x h with
  | some t=>if c∈known then .ok (.bl (eK t c)) h else .bad
  | none=>.bad
 | _=>.bad
theorem mH (hK:X.K=C.K):eI X (.builtin "isinstance") (fun xs H Q=>∃ x c t b,xs=[x,.ty c]/\(fN C.K H x (.type t)\/(∃ a vs,x=.ref a/\SqT C.K H a vs/\t="tuple")\/(∃ a vs,x=.ref a/\SqL C.K H a vs/\t="list"))/\PySem.W.kitOne C.K (.type t) (.type c)=some b/\Q (.bl b) H):=by
 intro pins s σ H xs us Q I r h
 obtain ⟨x,c,t,b,rfl,ty,e,q⟩:=h
 obtain ⟨u,v,rfl,ru,rv⟩:=vals2 r
 cases rv
 rw [<- hK] at e ty
 rcases ty with ty | ⟨a,vs,rfl,sa,rfl⟩ | ⟨a,vs,rfl,sa,rfl⟩
 ·exact pZ I ru ty e fun tk=>⟨.bl b,H,I.tok tk,rfl,q⟩
 ·cases ru
  obtain ⟨its,_,⟨o,h1,h2,_⟩,_⟩:=I.tuple sa
  exact PySem.W.kia_one PySem.W.kitx_tuple I.kIn ⟨o,h1,h2⟩ e (fun z=>nomatch z) fun tk=>⟨.bl b,H,I.tok tk,rfl,q⟩
 ·cases ru
  obtain ⟨its,_,⟨o,n,h1,h2,_⟩,_⟩:=I.list sa
  exact PySem.W.kia_one PySem.W.kitx_list I.kIn ⟨o,h1,h2⟩ e (fun z=>nomatch z) fun tk=>⟨.bl b,H,I.tok tk,rfl,q⟩
theorem fT:oP C k X (.builtin "isinstance") mG:=fun c=>(mH c.K).imp fun vs H Q h=>by
 obtain ⟨φ,h,ps,rh,rv,po⟩:=h
 unfold mG at po
 split at po
 ·rename_i x n
  obtain ⟨v,w,rfl,rx,ry⟩:=rv.two
  cases ry
  split at po
  ·rename_i t ht
   obtain ⟨hn,po⟩:=po.ite
   have fin:∀ {t:String},t∈"NoneType" :: known->post C φ H (.ok (.bl (eK t n)) h) Q->PySem.W.kitOne C.K (.type t) (.type n)=some (eK t n)/\Q (.bl (eK t n)) H:=fun hm po=>⟨zB hm hn,po.val rh rfl⟩
   unfold tyN at ht
   cases x with
   | non=>cases ht; cases rx; exact ⟨_,n,_,_,rfl,.inl .non,fin (by decide) po⟩
   | bl b=>cases ht; cases rx; exact ⟨_,n,_,_,rfl,.inl (.bl _),fin (by decide) po⟩
   | int b=>cases ht; cases rx; exact ⟨_,n,_,_,rfl,.inl (.int _),fin (by decide) po⟩
   | str b=>cases ht; cases rx; exact ⟨_,n,_,_,rfl,.inl (.str _),fin (by decide) po⟩
   | tup xs=>
    cases ht
    obtain ⟨a,vs,rfl,sa,ra⟩:=rx
    exact ⟨_,n,_,_,rfl,.inr (.inl ⟨a,vs,rfl,sa,rfl⟩),fin (by decide) po⟩
   | fl xs=>
    cases ht
    obtain ⟨a,vs,rfl,sa,ra⟩:=rx
    exact ⟨_,n,_,_,rfl,.inr (.inr ⟨a,vs,rfl,sa.sq,rfl⟩),fin (by decide) po⟩
   | ref m=>
    obtain ⟨a,rfl,ha⟩:=rx
    dsimp only at ht
    split at ht
    ·rename_i xs hx
     cases ht
     obtain ⟨vs,hH,ra⟩:=rh.at' m a _ ha hx
     exact ⟨_,n,_,_,rfl,.inl (.lst hH),fin (by decide) po⟩
    ·rename_i xs hx
     cases ht
     obtain ⟨vs,hH,ra⟩:=rh.at' m a _ ha hx
     exact ⟨_,n,_,_,rfl,.inl (.dK hH),fin (by decide) po⟩
    ·cases ht
   | ty z=>cases ht
  ·exact po.elim
 ·exact po.elim
def sJ:List PV->PH->Rs PV:=fun xs h=>match xs with
 | [.int i,.int j]=>.ok (.int (if j < i then j else i)) h
 | _=>.bad
theorem B9:oP C k X (.builtin "min") sJ:=fun c=>(pX c.calm).imp fun vs H Q h=>by
 obtain ⟨φ,h,ps,rh,rv,po⟩:=h
 unfold sJ at po
 split at po
 ·obtain ⟨v,w,rfl,rx,ry⟩:=rv.two
  cases rx; cases ry
  exact ⟨_,_,rfl,po.val rh rfl⟩
 ·exact po.elim
def mMt (ty:PV->PH->Bool) (g:PV->List PV->PH->Rs PV) (mo:Me) (ms:Ma):Me:=fun δ h=>(mo δ h).bind fun x h1=>if ty x h1=true then (ms δ h1).bind fun ps h2=>g x ps h2 else .bad
def CV (ty:PV->PH->Bool) (g:PV->List PV->PH->Rs PV) (mo:Me):Me:=fun δ h=>(mo δ h).bind fun x h1=>if ty x h1=true then g x [] h1 else .bad
def rM (C:MC) (g:PV->List PV->PH->Rs PV):V->List V->Hp->VK->Prop:=fun x xs H Q=>∃ φ h p ps,RH C φ H h/\RV C φ H p x/\RVs C φ H ps xs/\post C φ H (g p ps h) Q
def MtS (C:MC) (k:Nat) (X:Cx) (T:String) (ty:PV->PH->Bool) (id:String) (g:PV->List PV->PH->Rs PV):Prop:=Cxt C k X->MtR X id (rM C g)/\∀ φ H h p x,RH C φ H h->RV C φ H p x->ty p h=true->tyV C.K T x H
section
variable {o e:Expr} {es:List Expr} {mo:Me} {ms:Ma} {name:Str} {apos cpos:Pos} {T id:String} {ty:PV->PH->Bool} {g:PV->List PV->PH->Rs PV}
theorem CW (pa:PlainAttrs T) (slot:Slot T name id) (hty:typeOf (.builtin id)=pure (.type "method_descriptor")) (hm:MtS C k X T ty id g) (ho:SE C k X o mo) (ha:SA C k X (e :: es) ms)
  (hbase:attributeBase o name X.env (eval o X.env)=eval o X.env:=by rfl)
  (hfew:((backTo cpos (starEach (e :: es) X.env)).all (fun x=>!x.1) && (backToKw cpos (keywordEach [] X.env)).all (fun x=>x.1.isSome)
   && decide ((e :: es).length+([]:List Keyword).length+(if ([]:List Keyword).isEmpty then 0 else 1) < 30))=true:=by rfl)
  (hline:(apos.endLine == cpos.line)=true:=by rfl) (hs:starEach (e :: es) X.env=(false,eval e X.env) :: starEach es X.env:=by rfl) (hplain:(backTo cpos (starEach es X.env)).any (·.1)=false:=by rfl):
  SE C k X (.Call (.Attribute o name apos) (e :: es) [] cpos) (mMt ty g mo ms):=fun c=>(AB pa slot hty (hm c).1 (ho c) (ha c) hbase hfew hline hs hplain).imp fun σ H Q h=>by
 obtain ⟨φ,δ,h,rh,re,p⟩:=h
 refine ⟨φ,δ,h,rh,re,(post.bind p).imp ?_⟩
 rintro v H1 ⟨φ1,x,h1,p1,t1,rh1,rv1,q1⟩
 obtain ⟨ht,q1⟩:=q1.ite
 refine ⟨by rw [c.K]; exact (hm c).2 φ1 H1 h1 x v rh1 rv1 ht,φ1,δ,h1,rh1,re.mono p1 t1,(postA.bind q1).imp ?_⟩
 rintro vs H2 ⟨φ2,xs,h2,p2,t2,rh2,rv2,q2⟩
 exact ⟨φ2,h2,x,xs,rh2,rv1.mono p2 t2,rv2,q2⟩
end
theorem MtR.imp {id:String} {r r':V->List V->Hp->VK->Prop} (h:MtR X id r) (i:∀ x xs H Q,r' x xs H Q->r x xs H Q):MtR X id r':=fun pins s σ H x xs v us Q I rx rs q=>h pins s σ H x xs v us Q I rx rs (i x xs H Q q)
def isL (x:PV) (h:PH):Bool:=match x with
 | .ref n=>(eJ h n).isSome
 | _=>false
theorem zC {φ:List Addr} {H:Hp} {h:PH} {p:PV} {x:V} (rh:RH C φ H h) (rv:RV C φ H p x) (e:isL p h=true):tyV C.K "list" x H:=by
 cases p with
 | ref n=>
  obtain ⟨a,rfl,ha⟩:=rv
  obtain ⟨xs,hx⟩:=Option.isSome_iff_exists.mp (show (eJ h n).isSome=true from e)
  obtain ⟨vs,hH,ra⟩:=rh.at' n a _ ha (fR hx)
  exact .inl ⟨rfl,vs,SqL.of hH⟩
 | _=>cases e
def onL (f:List PV->List PV->Option (PV×List PV)):PV->List PV->PH->Rs PV:=fun x ps h=>match x with
 | .ref n=>match eJ h n with
  | some xs=>match f xs ps with
   | some (r,ys)=>.ok r (h.set n (.lst ys))
   | none=>.bad
  | none=>.bad
 | _=>.bad
theorem zD {f:List PV->List PV->Option (PV×List PV)} {x:V} {xs:List V} {H:Hp} {Q:VK} (h:rM C (onL f) x xs H Q):∃ φ l ps ys vs r zs,x=.ref l/\H l=some (.lst vs)/\RVs C φ H ys vs/\RVs C φ H ps xs/\f ys ps=some (r,zs)/\
  ∀ (v:V) (ws:List V),RV C φ H r v->RVs C φ H zs ws->Q v (upd H l (.lst ws)):=by
 obtain ⟨φ,h,p,ps,rh,rx,rs,po⟩:=h
 unfold onL at po
 cases p with
 | ref n=>
  obtain ⟨a,rfl,ha⟩:=rx
  dsimp only at po
  cases e:eJ h n with
  | none=>rw [e] at po; exact po.elim
  | some ys=>
   rw [e] at po
   dsimp only at po
   obtain ⟨vs,hH,ra⟩:=rh.at' n a _ ha (fR e)
   cases ef:f ys ps with
   | none=>rw [ef] at po; exact po.elim
   | some rz=>
    rw [ef] at po
    obtain ⟨r,zs⟩:=rz
    exact ⟨φ,a,ps,ys,vs,r,zs,rfl,hH,ra,rs,ef,fun v ws rv rw'=>po.lset rh ha hH rw' rv⟩
 | _=>exact po.elim
def eW:List PV->List PV->Option (PV×List PV):=fun xs ps=>match ps with
 | [p]=>if xs.length < sizeLine then some (.non,xs++[p]) else none
 | _=>none
theorem qO:MtR X "list.append" (rM C (onL eW)):=MtR.imp (show MtR X "list.append" oJ from qB) fun x xs H Q h=>by
 obtain ⟨φ,l,ps,ys,vs,r,zs,rfl,hH,ra,rs,ef,q⟩:=zD h
 unfold eW at ef
 split at ef
 ·split at ef
  ·rename_i hz
   cases ef
   obtain ⟨v,rfl,rx⟩:=rs.one
   exact ⟨l,vs,v,rfl,rfl,hH,by rw [<- ra.length]; exact hz,q .non _ rfl (ra.snoc rx)⟩
  ·cases ef
 ·cases ef
theorem sL:MtS C k X "list" isL "list.append" (onL eW):=fun c=>⟨qO,fun φ H h p x rh rv e=>zC rh rv e⟩
def B' (K:PySem.W.Frag):R2:=fun x y H Q=>∃ a b ys,x=.ref a/\y=.ref b/\SqT K H a []/\SqT K H b ys/\Q (.ref b) H
theorem uZ:OpR X (binaryOp .Add) (B' X.K):=by
 intro pins s σ H x y v u Q I rx ry h
 obtain ⟨a,b,ys,rfl,rfl,ha,hb,q⟩:=h
 cases rx
 cases ry
 obtain ⟨its,r1,p1,_⟩:=I.tuple ha
 obtain ⟨its2,r2,p2,_⟩:=I.tuple hb
 cases r1
 obtain ⟨⟨cls,dd,data,sl⟩,ho,hc,n,hd⟩:=id p1
 obtain ⟨⟨cls2,dd2,data2,sl2⟩,ho2,hc2,n2,hd2⟩:=id p2
 simp only at hc hd hc2 hd2
 subst hc hd hc2 hd2
 exact concat_meets ⟨_,ho,rfl⟩ ⟨_,ho2,rfl⟩ noFill_tuple_add seq_tuple_add PySem.F.slot_tuple_add PySem.F.entry_tuple_add (PySem.F.args_tuple_add_2 _ _)
   (tuple_addW0 a b ([]:List Value).toArray its2.toArray n n2 dd dd2 sl sl2 (by simp)) ⟨ho,ho2,⟨.ref b,H,I,rfl,q⟩⟩
def aP:PV->PV->PH->Rs PV:=fun x y h=>match x,y with
 | .tup [],.tup ys=>.ok (.tup ys) h
 | x,y=>yT x y h
theorem aT:OpS C k X (binaryOp .Add) aP:=fun c=>((AU c).or (by have:=uZ (X:=X); rw [c.K] at this; exact this)).imp fun x y H Q h=>by
 obtain ⟨φ,h,p,q,rh,rx,ry,po⟩:=h
 unfold aP at po
 split at po
 ·obtain ⟨a,vs,rfl,sa,ra⟩:=rx
  obtain ⟨b,us,rfl,sb,rb⟩:=ry
  have:vs=[]:=by cases vs <;> first | rfl | exact ra.elim
  subst this
  exact .inr ⟨a,b,us,rfl,rfl,sa,sb,po.val rh ⟨b,us,rfl,sb,rb⟩⟩
 ·exact .inl ⟨φ,h,p,q,rh,rx,ry,po⟩
end L2
set_option Elab.async false
set_option linter.all false
set_option maxRecDepth 100000
namespace L2
open PySem PySem.Spec PyProof.Rows
variable {C:MC} {k:Nat} {X:Cx}
theorem sM:UnS C k X (unaryOp .USub) qL:=fun c=>by
 have h:UnR X (unaryOp .USub) (rU fun i=>.int (-i)):=xY
 intro pins s σ H x v Q I rx q
 refine h pins s σ H x v Q I rx ?_
 obtain ⟨φ,h,p,rh,rv,po⟩:=q
 unfold qL at po
 cases p with
 | int i=>cases rv; exact ⟨i,rfl,po.val rh rfl⟩
 | _=>exact po.elim
end L2
set_option Elab.async false
set_option linter.all false
set_option maxRecDepth 100000
namespace L2
open PySem
@[irreducible] def Rs.W {α:Type} (r:Rs α) (Q:α->PH->Prop):Prop:=match r with
 | .ok a h=>Q a h
 | _=>False
structure FE where
 nx:Ev->PH->Prop
 rt:PV->PH->Prop
 bk:Ev->PH->Prop:=fun _ _=>False
 ct:Ev->PH->Prop:=fun _ _=>False
@[irreducible] def Fl.W (r:Fl) (E:FE):Prop:=match r with
 | .nx δ h=>E.nx δ h
 | .rt p h=>E.rt p h
 | .bk δ h=>E.bk δ h
 | .ct δ h=>E.ct δ h
 | _=>False
@[irreducible] def Lt (b:Ms) (E:FE) (δ:Ev) (h:PH):Prop:=(b δ h).W E
section
unseal Rs.W Fl.W Lt
variable {α β:Type} {Q:α->PH->Prop} {E:FE} {δ:Ev} {h:PH}
@[simp] theorem zE {a:α}:(Rs.ok a h).W Q=Q a h:=(rfl)
@[simp] theorem DG:(Fl.nx δ h).W E=E.nx δ h:=(rfl)
@[simp] theorem DH {p:PV}:(Fl.rt p h).W E=E.rt p h:=(rfl)
@[simp] theorem DI:(Fl.bk δ h).W E=E.bk δ h:=(rfl)
@[simp] theorem DJ:(Fl.ct δ h).W E=E.ct δ h:=(rfl)
@[simp] theorem CY {Q:β->PH->Prop} {r:Rs α} {f:α->PH->Rs β}:(r.bind f).W Q=r.W fun a h=>(f a h).W Q:=by cases r <;> rfl
@[simp] theorem CZ {r:Rs α} {f:α->PH->Fl}:(r.fl f).W E=r.W fun a h=>(f a h).W E:=by cases r <;> rfl
@[simp] theorem Do {c:Prop} [Decidable c] {x y:Rs α}:(if c then x else y).W Q=if c then x.W Q else y.W Q:=by split <;> rfl
@[simp] theorem Dp:(Rs.bad:Rs α).W Q=False:=(rfl)
@[simp] theorem D0:Fl.bad.W E=False:=(rfl)
theorem qP {r:Rs α} (w:r.W Q):∃ a h,r=.ok a h/\Q a h:=by
 cases r with
 | ok a h=>exact ⟨a,h,rfl,w⟩
 | exc=>exact w.elim
 | bad=>exact w.elim
variable {a b:Ms} {m ma mb mc:Me} {t ta tb:Ev->PH->Rs Bool} {g g':PV->PV->PH->Rs PV}
theorem cY:(aS a b δ h).W E=(a δ h).W { E with nx:=fun δ h=>(b δ h).W E }:=by
 show (match a δ h with | .nx δ1 h1=>b δ1 h1 | r=>r).W E=_
 cases a δ h <;> rfl
theorem bE:(aS a b δ h).W E=(a δ h).W { E with nx:=Lt b E }:=by
 show (match a δ h with | .nx δ1 h1=>b δ1 h1 | r=>r).W E=_
 cases a δ h <;> rfl
theorem now {b:Ms} (w:(b δ h).W E):Lt b E δ h:=w
@[simp] theorem Dq:(cH δ h).W E=E.nx δ h:=(rfl)
@[simp] theorem Dr:(CT δ h).W E=E.bk δ h:=(rfl)
@[simp] theorem Ds:(CU δ h).W E=E.ct δ h:=(rfl)
@[simp] theorem Dt {i:Nat}:(bY i m δ h).W E=(m δ h).W fun p h=>E.nx (δ.set i (some p)) h:=by simp [bY]
@[simp] theorem Du {t:Mg}:(uV m t δ h).W E=(m δ h).W fun p h=>∃ δ',t p δ=some δ'/\E.nx δ' h:=by
 unfold uV
 cases m δ h with
 | ok p h1=>
  show (match t p δ with | some δ'=>Fl.nx δ' h1 | none=>.bad).W E=∃ δ',t p δ=some δ'/\E.nx δ' h1
  cases t p δ <;> simp [Fl.W]
 | exc=>rfl
 | bad=>rfl
@[simp] theorem Dv:(uW m δ h).W E=(m δ h).W fun _ h=>E.nx δ h:=by simp [uW]
@[simp] theorem Dw:(bP m δ h).W E=(m δ h).W E.rt:=by simp [bP]
@[simp] theorem D1:(B5 δ h).W E=E.rt .non h:=(rfl)
@[simp] theorem Dx:(cD t a b δ h).W E=(t δ h).W fun c h=>if c=true then (a δ h).W E else (b δ h).W E:=by
 unfold cD
 rw [CZ]
 congr
 funext c h
 cases c <;> simp
@[simp] theorem Dy {i:Nat}:mV i δ h=match lW δ i with | some p=>.ok p h | none=>.bad:=(rfl)
@[simp] theorem Dz {p:PV}:mC p δ h=.ok p h:=(rfl)
@[simp] theorem BX:aE g ma mb δ h=(ma δ h).bind fun x h1=>(mb δ h1).bind fun y h2=>g x y h2:=(rfl)
@[simp] theorem D2 {g:PV->PH->Rs PV}:mUn g ma δ h=(ma δ h).bind g:=(rfl)
@[simp] theorem BY:bF m δ h=(m δ h).bind tru:=(rfl)
@[simp] theorem Ba:eN t δ h=(t δ h).bind fun b h1=>.ok (!b) h1:=(rfl)
@[simp] theorem Bb:gP ta tb δ h=(ta δ h).bind fun b h1=>if b=true then tb δ h1 else .ok false h1:=by
 unfold gP; congr 1; funext b h1; cases b <;> simp
@[simp] theorem BZ:mD ta tb δ h=(ta δ h).bind fun b h1=>if b=true then .ok true h1 else tb δ h1:=by
 unfold mD; congr 1; funext b h1; cases b <;> simp
def bl2 (x:PV) (f g:Rs PV):Rs PV:=match x with
 | .bl true=>f
 | .bl false=>g
 | _=>.bad
@[simp] theorem D3 {b:Bool} {f g:Rs PV}:bl2 (.bl b) f g=if b=true then f else g:=by cases b <;> simp [bl2]
@[simp] theorem Bc:oU ma mb δ h=(ma δ h).bind fun x h1=>bl2 x (mb δ h1) (.ok (.bl false) h1):=by
 unfold oU; first | rfl | (congr 1; funext x h1; cases x <;> first | rfl | (rename_i b; cases b <;> rfl))
@[simp] theorem Bd {b:Bool}:wQ (.bl b) h=.ok (.bl b) h:=(rfl)
@[simp] theorem C0 {ms:Ma}:cB ms δ h=(ms δ h).bind fun xs h1=>if xs.length<=sizeLine then .ok (.tup xs) h1 else .bad:=(rfl)
@[simp] theorem C1 {ms:Ma}:uU ms δ h=(ms δ h).bind fun xs h1=>if xs.length<=sizeLine then .ok (.ref h1.length) (h1++[.lst xs]) else .bad:=(rfl)
@[simp] theorem A7:yX δ h=.ok (.ref h.length) (h++[.dK []]):=(rfl)
@[simp] theorem C2:aL δ h=.ok [] h:=(rfl)
@[simp] theorem Be {ms:Ma}:aC m ms δ h=(m δ h).bind fun x h1=>(ms δ h1).bind fun xs h2=>.ok (x :: xs) h2:=(rfl)
@[simp] theorem D4 {g:List PV->PH->Rs PV} {ms:Ma}:mCB g ms δ h=(ms δ h).bind g:=(rfl)
@[simp] theorem Bf {n:Nat} {f:Fn} {ms:Ma}:aZ n f ms δ h=(ms δ h).bind fun ps h1=>if ps.length=n then f ps h1 else .bad:=(rfl)
@[simp] theorem C3:gD δ h=.ok none h:=(rfl)
def sN (x:PV) (h:PH):Rs (Option Int):=match x with
 | .int i=>.ok (some i) h
 | _=>.bad
@[simp] theorem zF {i:Int}:sN (.int i) h=.ok (some i) h:=(rfl)
@[simp] theorem DA:mP m δ h=(m δ h).bind sN:=(rfl)
@[simp] theorem D5 {ml mh:Mo}:mSl m ml mh δ h=(m δ h).bind fun x h1=>(ml δ h1).bind fun l h2=>(mh δ h2).bind fun u h3=>vSl x l u h3:=(rfl)
@[simp] theorem D6 {ty:PV->PH->Bool} {g:PV->List PV->PH->Rs PV} {ms:Ma}:mMt ty g m ms δ h=(m δ h).bind fun x h1=>if ty x h1=true then (ms δ h1).bind fun ps h2=>g x ps h2 else .bad:=(rfl)
@[simp] theorem C4 {ty:PV->PH->Bool} {g:PV->List PV->PH->Rs PV}:CV ty g m δ h=(m δ h).bind fun x h1=>if ty x h1=true then g x [] h1 else .bad:=(rfl)
@[simp] theorem vA:sizeLine=16777216:=by rw [sizeLine_eq]
theorem vB {i j:Int} {h:PH} (c:(-18446744073709551616 < i/\i < 18446744073709551616)\/(-18446744073709551616 < j/\j < 18446744073709551616)):nM (.int i) (.int j) h=.ok (.int (i*j)) h:=by
 show (if lO i j then _ else _)=_
 exact if_pos c
@[simp] theorem Bg {i j:Int} (c:(-18446744073709551616 < i/\i < 18446744073709551616)\/(-18446744073709551616 < j/\j < 18446744073709551616)):vInt lO (fun i j=>i*j) (.int i) (.int j) h=.ok (.int (i*j)) h:=vB c
@[simp] theorem C5 {i j:Int} (c:0 < j/\j < 1073741824):vInt rE (fun i j=>i / j) (.int i) (.int j) h=.ok (.int (i / j)) h:=if_pos c
@[simp] theorem C6 {i j:Int} (c:0 < j):vInt (fun _ j=>0 < j) (fun i j=>i % j) (.int i) (.int j) h=.ok (.int (i % j)) h:=if_pos c
@[simp] theorem C7 {i j:Int}:sD (.int i) (.int j) h=.ok (.int (i - j)) h:=(rfl)
@[simp] theorem C8 {i:Int}:qL (.int i) h=.ok (.int (-i)) h:=(rfl)
@[simp] theorem A8 {i j:Int}:aP (.int i) (.int j) h=.ok (.int (i+j)) h:=(rfl)
@[simp] theorem A9 {x y:Str} (c:x.length+y.length<=16777216):aP (.str x) (.str y) h=.ok (.str (x++y)) h:=if_pos c
@[simp] theorem jQ {xs ys:List PV} (c:xs.length+ys.length<=16777216):aP (.tup xs) (.tup ys) h=.ok (.tup (xs++ys)) h:=by
 cases xs with
 | nil=>rfl
 | cons x xs=>exact if_pos ⟨rfl,c⟩
@[simp] theorem Bh {f:Int->Int->Bool} {g:List Nat->List Nat->Bool} {i j:Int}:mB f g (.int i) (.int j) h=.ok (.bl (f i j)) h:=(rfl)
@[simp] theorem Bi {f:Int->Int->Bool} {g:List Nat->List Nat->Bool} {i j:Str}:mB f g (.str i) (.str j) h=.ok (.bl (g i.cps.toList j.cps.toList)) h:=(rfl)
@[simp] theorem D7 {b:Bool}:tru (.bl b) h=.ok b h:=(rfl)
@[simp] theorem C9:tru .non h=.ok false h:=(rfl)
@[simp] theorem C' {i:Int}:tru (.int i) h=.ok (i != 0) h:=(rfl)
@[simp] theorem Ca {xs:List PV}:tru (.tup xs) h=.ok (!xs.isEmpty) h:=(rfl)
@[simp] theorem Bj {p:PV}:ofO (some p) h=.ok p h:=(rfl)
@[simp] theorem Bk {b:Bool}:ofB (some b) h=.ok (.bl b) h:=(rfl)
@[simp] theorem Cb {xs:List PV} {i:Int}:vIx (.tup xs) (.int i) h=ofO (atI xs i) h:=(rfl)
@[simp] theorem D8 {xs:List PV} {i:Int}:vIx (.fl xs) (.int i) h=ofO (atI xs i) h:=(rfl)
theorem hI {n:Nat} {xs:List PV} {i:Int} (e:h[n]?=some (.lst xs)):vIx (.ref n) (.int i) h=ofO (atI xs i) h:=by simp [vIx,bG,e]
@[simp] theorem Cd {z:Str} {i:Int} (c:z.length<=16777216):vIx (.str z) (.int i) h=ofO ((atI z.cps.toList i).map fun c=>.str ⟨#[c]⟩) h:=if_pos c
@[simp] theorem Bl {xs:List PV}:cX [.tup xs] h=.ok (.int xs.length) h:=(rfl)
@[simp] theorem Ce {xs:List PV}:cX [.fl xs] h=.ok (.int xs.length) h:=(rfl)
@[simp] theorem Bm {x:Str} (c:x.length<=16777216):cX [.str x] h=.ok (.int x.length) h:=if_pos c
theorem fU {n:Nat} {xs:List PV} (e:h[n]?=some (.lst xs)):cX [.ref n] h=.ok (.int xs.length) h:=by simp [cX,bG,e]
@[simp] theorem Cf {i j:Int}:sJ [.int i,.int j] h=.ok (.int (if j < i then j else i)) h:=(rfl)
@[simp] theorem Cg {i j:Int}:B2 [.int i,.int j] h=.ok (.int (if j > i then j else i)) h:=(rfl)
@[simp] theorem Bn {i:Int} {c:String}:mG [.int i,.ty c] h=if c∈known then .ok (.bl (eK "int" c)) h else .bad:=(rfl)
@[simp] theorem Bo {i:Str} {c:String}:mG [.str i,.ty c] h=if c∈known then .ok (.bl (eK "str" c)) h else .bad:=(rfl)
@[simp] theorem Ci {i:Bool} {c:String}:mG [.bl i,.ty c] h=if c∈known then .ok (.bl (eK "bool" c)) h else .bad:=(rfl)
@[simp] theorem Bp {i:List PV} {c:String}:mG [.tup i,.ty c] h=if c∈known then .ok (.bl (eK "tuple" c)) h else .bad:=(rfl)
theorem vC {n:Nat} {xs:List PV} (e:h[n]?=some (.lst xs)):isL (.ref n) h=true:=by simp [isL,eJ,e]
theorem nO {n:Nat} {xs:List PV} {p:PV} (e:h[n]?=some (.lst xs)) (c:xs.length < 16777216):onL eW (.ref n) [p] h=.ok .non (h.set n (.lst (xs++[p]))):=by simp [onL,eJ,e,eW,c]
theorem vD {α:Type} {xs:List α} {i:Int} (h0:0<=i) (h1:i < xs.length):atI xs i=xs[i.toNat]?:=by
 unfold atI ixN
 rw [if_pos h0,if_pos h1]; rfl
theorem nP {g:PH->Bool} {tg:Mg} {body:Ms} {E:FE} (I:Nat->Ev->PH->Prop):∀ (xs:List PV) (k:Nat) (δ:Ev) (h:PH),I k δ h->
  (∀ i x δ h,k<=i->xs[i - k]?=some x->I i δ h->g h=true/\∃ δ1,tg x δ=some δ1/\(body δ1 h).W { nx:=I (i+1),ct:=I (i+1),rt:=E.rt,bk:=E.nx })->
  (∀ δ h,I (k+xs.length) δ h->g h=true/\E.nx δ h)->(dJ g tg body xs δ h).W E
 | [],k,δ,h,i0,_,fin=>by
  obtain ⟨h1,h2⟩:=fin δ h i0
  simp [dJ,h1,h2]
 | x :: xs,k,δ,h,i0,step,fin=>by
  obtain ⟨h1,δ1,h2,h3⟩:=step k x δ h (Nat.le_refl _) (by simp) i0
  have go:∀ δ2 h2,I (k+1) δ2 h2->(dJ g tg body xs δ2 h2).W E:=fun δ2 h2 i2=>
   nP I xs (k+1) δ2 h2 i2 (fun i y δ h hk hy=>step i y δ h (by omega) (by
    have:i - k=(i - (k+1))+1:=by omega
    rw [this,List.getElem?_cons_succ]; exact hy)) (fun δ h hi=>fin δ h (by
    have e:k+(x :: xs).length=k+1+xs.length:=by simp; omega
    rw [e]; exact hi))
  unfold dJ
  rw [if_pos h1,h2]
  show Fl.W (match body δ1 h with | .nx δ2 h2=>dJ g tg body xs δ2 h2 | .ct δ2 h2=>dJ g tg body xs δ2 h2 | .bk δ2 h2=>.nx δ2 h2 | r=>r) E
  cases e:body δ1 h with
  | nx δ2 h2=>rw [e] at h3; exact go δ2 h2 h3
  | ct δ2 h2=>rw [e] at h3; exact go δ2 h2 h3
  | bk δ2 h2=>rw [e] at h3; exact h3
  | rt p h2=>rw [e] at h3; exact h3
  | exc=>rw [e] at h3; exact h3
  | bad=>rw [e] at h3; exact h3
theorem kW {ms:Ma} {i:Nat} {body:Ms} {j:Int} (I:Nat->Ev->PH->Prop) (e:ms δ h=.ok [.int j] h) (hj:-4611686018427387904<=j/\j < 4611686018427387904) (h0:I 0 δ h)
  (step:∀ (q:Nat) δ h,(q:Int) < j->I q δ h->(body (δ.set i (some (.int q))) h).W { nx:=I (q+1),ct:=I (q+1),rt:=E.rt,bk:=E.nx })
  (fin:∀ δ h,I j.toNat δ h->E.nx δ h):(iN (gS ms) (gN i) body δ h).W E:=by
 unfold iN gS
 rw [e]
 have hj':-(2 ^ 62)<=j/\j < 2 ^ 62:=hj
 simp only [Rs.bind_ok,sI,if_pos hj',Rs.fl_ok]
 refine nP I _ 0 δ h h0 (fun q x δ h _ hx hi=>?_) (fun δ h hi=>⟨rfl,fin δ h (by rw [cR,Nat.zero_add] at hi; exact hi)⟩)
 have hq:q < j.toNat:=by
  have:=(List.getElem?_eq_some_iff.mp hx).1
  rw [cR] at this
  omega
 rw [Nat.sub_zero,iM _ _ _ hq] at hx
 cases hx
 refine ⟨rfl,_,rfl,?_⟩
 rw [Int.zero_add]
 exact step q δ h (by omega) hi
theorem zG {m:Me} {tg:Mg} {body:Ms} {n:Nat} {xs:List PV} {h1:PH} (I:Nat->Ev->PH->Prop) (e:m δ h=.ok (.ref n) h1) (hn:h1[n]?=some (.lst xs)) (h0:I 0 δ h1)
  (keep:∀ q δ h,q<=xs.length->I q δ h->h[n]?=some (.lst xs))
  (step:∀ (q:Nat) x δ h,xs[q]?=some x->I q δ h->∃ δ1,tg x δ=some δ1/\(body δ1 h).W { nx:=I (q+1),ct:=I (q+1),rt:=E.rt,bk:=E.nx })
  (fin:∀ δ h,I xs.length δ h->E.nx δ h):(iN (mE m) tg body δ h).W E:=by
 have hk:∀ {h:PH},h[n]?=some (.lst xs)->uY n xs h=true:=fun {h} e=>by
  have e3:bG h n=some xs:=by unfold bG; rw [e]
  unfold uY; rw [e3]; exact PV.beqs_self xs
 unfold iN mE
 rw [e]
 have e2:ofSeq (.ref n) h1=.ok ⟨xs,uY n xs⟩ h1:=by
  have e3:bG h1 n=some xs:=by unfold bG; rw [hn]
  unfold ofSeq; simp only [e3]
 rw [Rs.bind_ok,e2,Rs.fl_ok]
 refine nP I _ 0 δ h1 h0 (fun q x δ h _ hx hi=>?_) (fun δ h hi=>?_)
 ·have hx':xs[q]?=some x:=by simpa using hx
  have:=(List.getElem?_eq_some_iff.mp hx').1
  exact ⟨hk (keep q δ h (by omega) hi),step q x δ h hx' hi⟩
 ·have hi':I xs.length δ h:=by simpa using hi
  exact ⟨hk (keep _ δ h (Nat.le_refl _) hi'),fin δ h hi'⟩
theorem iO {N:Nat} {body:Ms} {args:List PV} {Q:PV->PH->Prop} (w:(body (args.map some++List.replicate (N - args.length) none) h).W { nx:=fun _ h=>Q .non h,rt:=Q }):(mFn N body args h).W Q:=by
 unfold mFn
 cases e:body (args.map some++List.replicate (N - args.length) none) h with
 | nx δ h'=>rw [e] at w; exact w
 | rt p h'=>rw [e] at w; exact w
 | _=>rw [e] at w; exact w.elim
@[simp] theorem DB {i:Nat} {p:PV}:gN i p δ=some (δ.set i (some p)):=(rfl)
@[simp] theorem D9 {n:Nat} {u:Mgs} {ps:List PV}:gTp n u (.tup ps) δ=if ps.length=n then u ps δ else none:=(rfl)
@[simp] theorem Da {t:Mg} {u:Mgs} {p:PV} {r:List PV}:gCn t u (p :: r) δ=(t p δ).bind (u r):=(rfl)
@[simp] theorem Dc:gNl [] δ=some δ:=(rfl)
end
def Ext (h h':PH):Prop:=∀ (n:Nat) (o:MO),h[n]?=some o->h'[n]?=some o
theorem Ext.app (h g:PH):Ext h (h++g):=fun n o e=>by
 rw [List.getElem?_append_left (List.getElem?_eq_some_iff.mp e).1]; exact e
theorem vE {h:PH} {o:MO}:(h++[o])[h.length]?=some o:=by simp
theorem zH {h:PH} {n:Nat} {o o':MO} (e:h[n]?=some o):(h.set n o')[n]?=some o':=List.getElem?_set_self (List.getElem?_eq_some_iff.mp e).1
end L2
set_option Elab.async false
set_option linter.all false
set_option maxRecDepth 100000
namespace L2
open PySem
def PV.pl:Nat->PV->Bool
 | _,.non=>true
 | _,.int _=>true
 | _,.str _=>true
 | n+1,.tup xs=>xs.all (PV.pl n)
 | _,_=>false
theorem vF {x:PV} {xs:List PV} {d:D} {ds:List D} (h1:x.d=some d) (h2:PV.ds xs=some ds):PV.ds (x :: xs)=some (d :: ds):=by simp [PV.ds,h1,h2]
theorem Bq {xs:List PV} {ds:List D} (h:PV.ds xs=some ds):(PV.tup xs).d=some (.tup ds):=by simp [PV.d,h]
theorem bA {xs:List PV} {d:D} (h:(PV.tup xs).d=some d):∃ ds,PV.ds xs=some ds/\d=.tup ds:=by
 unfold PV.d at h
 split at h
 ·rename_i ds e; cases h; exact ⟨ds,e,rfl⟩
 ·cases h
theorem cE {x:PV} {xs:List PV} {ds:List D} (h:PV.ds (x :: xs)=some ds):∃ d r,x.d=some d/\PV.ds xs=some r/\ds=d :: r:=by
 unfold PV.ds at h
 split at h
 ·rename_i d r e1 e2; cases h; exact ⟨d,r,e1,e2,rfl⟩
 ·cases h
theorem gE:∀ (n:Nat) (x:PV),x.pl n=true->∃ d,x.d=some d/\d.depth<=n:=by
 intro n
 induction n with
 | zero=>
  intro x h
  cases x <;> first | exact ⟨_,rfl,Nat.le_refl _⟩ | (simp [PV.pl] at h)
 | succ n ih=>
  intro x h
  cases x with
  | tup xs=>
   have h:xs.all (PV.pl n)=true:=h
   have many:∀ (xs:List PV),xs.all (PV.pl n)=true->∃ ds,PV.ds xs=some ds/\D.depths ds<=n:=by
    intro xs
    induction xs with
    | nil=>intro _; exact ⟨[],rfl,Nat.zero_le _⟩
    | cons x xs ihx=>
     intro h
     simp only [List.all_cons,Bool.and_eq_true] at h
     obtain ⟨d,h1,h2⟩:=ih x h.1
     obtain ⟨ds,h3,h4⟩:=ihx h.2
     refine ⟨d :: ds,vF h1 h3,?_⟩
     show max d.depth (D.depths ds)<=n
     omega
   obtain ⟨ds,h1,h2⟩:=many xs h
   refine ⟨.tup ds,Bq h1,?_⟩
   show D.depths ds+1<=n+1
   omega
  | _=>first | exact ⟨_,rfl,Nat.zero_le _⟩ | (simp [PV.pl] at h)
theorem sO:∀ (n:Nat) (x y:PV) (d e:D),x.pl n=true->y.pl n=true->x.d=some d->y.d=some e->eqD d e=decide (x=y):=by
 intro n
 induction n with
 | zero=>
  intro x y d e hx hy h1 h2
  cases x <;> first | (simp [PV.pl] at hx; done) | skip
  all_goals cases h1
  all_goals cases y <;> first | (simp [PV.pl] at hy; done) | skip
  all_goals cases h2
  all_goals simp only [eqD]
  all_goals rw [Bool.eq_iff_iff]
  all_goals simp
 | succ n ih=>
  intro x y d e hx hy h1 h2
  have lists:∀ (xs ys:List PV) (ds es:List D),xs.all (PV.pl n)=true->ys.all (PV.pl n)=true->PV.ds xs=some ds->PV.ds ys=some es->dA ds es=decide (xs=ys):=by
   intro xs
   induction xs with
   | nil=>
    intro ys ds es _ _ h1 h2
    cases h1
    cases ys with
    | nil=>cases h2; rfl
    | cons y ys=>obtain ⟨d,r,_,_,rfl⟩:=cE h2; simp [dA]
   | cons x xs ihx=>
    intro ys ds es hx hy h1 h2
    obtain ⟨d,r,g1,g2,rfl⟩:=cE h1
    simp only [List.all_cons,Bool.and_eq_true] at hx
    cases ys with
    | nil=>cases h2; simp [dA]
    | cons y ys=>
     obtain ⟨e,q,g3,g4,rfl⟩:=cE h2
     simp only [List.all_cons,Bool.and_eq_true] at hy
     simp only [dA,ih x y d e hx.1 hy.1 g1 g3,ihx ys r q hx.2 hy.2 g2 g4]
     rw [Bool.eq_iff_iff]
     simp
  cases x with
  | tup xs=>
   obtain ⟨ds,g1,rfl⟩:=bA h1
   cases y with
   | tup ys=>
    obtain ⟨es,g2,rfl⟩:=bA h2
    simp only [eqD,lists xs ys ds es hx hy g1 g2]
    rw [Bool.eq_iff_iff]
    simp
   | non=>cases h2; simp [eqD]
   | int j=>cases h2; simp [eqD]
   | str j=>cases h2; simp [eqD]
   | _=>simp [PV.pl] at hy
  | non=>
   cases h1
   cases y with
   | tup ys=>obtain ⟨es,g2,rfl⟩:=bA h2; simp [eqD]
   | non=>cases h2; simp [eqD]
   | int j=>cases h2; simp [eqD]
   | str j=>cases h2; simp [eqD]
   | _=>simp [PV.pl] at hy
  | int i=>
   cases h1
   cases y with
   | tup ys=>obtain ⟨es,g2,rfl⟩:=bA h2; simp [eqD]
   | non=>cases h2; simp [eqD]
   | int j=>cases h2; simp only [eqD]; rw [Bool.eq_iff_iff]; simp
   | str j=>cases h2; simp [eqD]
   | _=>simp [PV.pl] at hy
  | str i=>
   cases h1
   cases y with
   | tup ys=>obtain ⟨es,g2,rfl⟩:=bA h2; simp [eqD]
   | non=>cases h2; simp [eqD]
   | int j=>cases h2; simp [eqD]
   | str j=>cases h2; simp only [eqD]; rw [Bool.eq_iff_iff]; simp
   | _=>simp [PV.pl] at hy
  | _=>simp [PV.pl] at hx
section
variable {x y:PV} {h:PH}
theorem oV (hx:x.pl 40=true) (hy:y.pl 40=true):fD x y h=some (decide (x=y)):=by
 obtain ⟨d,h1,h2⟩:=gE 40 x hx
 obtain ⟨e,h3,h4⟩:=gE 40 y hy
 unfold fD
 rw [h1,h3]
 simp only [h2,if_true,sO 40 x y d e hx hy h1 h3]
theorem nQ (hx:x.pl 40=true) (hy:y.pl 40=true):vEq x y h=.ok (.bl (decide (x=y))) h:=by unfold vEq; rw [oV hx hy]; rfl
theorem sP (hx:x.pl 40=true) (hy:y.pl 40=true):vNe x y h=.ok (.bl (!decide (x=y))) h:=by unfold vNe; rw [oV hx hy]; rfl
@[simp] theorem Cj {i j:Int}:vEq (.int i) (.int j) h=.ok (.bl (decide (i=j))) h:=by rw [nQ rfl rfl]; congr 2; simp
theorem sQ {n m:Nat} {xs ys:List PV} (e1:h[n]?=some (.lst xs)) (e2:h[m]?=some (.lst ys)) (hx:xs.all (PV.pl 39)=true) (hy:ys.all (PV.pl 39)=true):fD (.ref n) (.ref m) h=some (decide (xs=ys)):=by
 have e3:iK (.ref n) h=some xs:=by unfold iK bG; simp only [e1]
 have e4:iK (.ref m) h=some ys:=by unfold iK bG; simp only [e2]
 have hx':(PV.tup xs).pl 40=true:=hx
 have hy':(PV.tup ys).pl 40=true:=hy
 obtain ⟨d,h1,h2⟩:=gE 40 _ hx'
 obtain ⟨e,h3,h4⟩:=gE 40 _ hy'
 obtain ⟨ds,g1,rfl⟩:=bA h1
 obtain ⟨es,g2,rfl⟩:=bA h3
 have h5:=sO 40 _ _ _ _ hx' hy' h1 h3
 have h2':D.depths ds+1<=40:=h2
 have h5':dA ds es=decide (xs=ys):=by
  have:dA ds es=decide (PV.tup xs=PV.tup ys):=h5
  rw [this,Bool.eq_iff_iff]; simp
 unfold fD
 have n1:(PV.ref n).d=none:=rfl
 rw [n1]
 simp only [e3,e4,g1,g2,show D.depths ds<=40 by omega,if_true,h5']
theorem vG {n m:Nat} {xs ys:List PV} (e1:h[n]?=some (.lst xs)) (e2:h[m]?=some (.lst ys)) (hx:xs.all (PV.pl 39)=true) (hy:ys.all (PV.pl 39)=true):vEq (.ref n) (.ref m) h=.ok (.bl (decide (xs=ys))) h:=by unfold vEq; rw [sQ e1 e2 hx hy]; rfl
end
end L2
namespace L2
section
variable {α:Type} {a b c d e f g:α} {r:List α}
theorem oW {xs:List α} {v:α} (i:Nat) (h:xs[i]?=some v):atI xs (i:Int)=some v:=gC h
@[simp] theorem DK:atI (a :: r) 0=some a:=oW 0 rfl
@[simp] theorem DL:atI (a :: b :: r) 1=some b:=oW 1 rfl
theorem oX {xs:List α} {i:Int} (h:xs≠[]):∃ v,atI xs (i % (xs.length:Int))=some v/\v∈xs:=by
 have h0:0 < xs.length:=List.length_pos_iff.mpr h
 obtain ⟨v,h1,h2⟩:=nL (xs:=xs) (i:=i % (xs.length:Int)) (Int.emod_nonneg _ (by omega)) (Int.emod_lt_of_pos _ (by omega))
 exact ⟨v,h1,List.mem_of_getElem? h2⟩
end
end L2
namespace L2
theorem fV {x:PV} (hx:x.pl 40=true) (h:PH):vNe x x h=.ok (.bl false) h:=by rw [sP hx hx,decide_eq_true rfl]; rfl
theorem iP {x:PV} (hx:x.pl 40=true) (h:PH):vEq x x h=.ok (.bl true) h:=by rw [nQ hx hx,decide_eq_true rfl]
theorem qQ {x y:PV} (hx:x.pl 40=true) (hy:y.pl 40=true) (d:x≠y) (h:PH):vEq x y h=.ok (.bl false) h:=by rw [nQ hx hy,decide_eq_false d]
theorem qR {x y:PV} (hx:x.pl 40=true) (hy:y.pl 40=true) (d:x≠y) (h:PH):vNe x y h=.ok (.bl true) h:=by rw [sP hx hy,decide_eq_false d]; rfl
end L2
namespace L2
end L2
set_option Elab.async false
set_option linter.all false
set_option maxRecDepth 100000
namespace L2
open PySem PySem.Spec PyProof.Rows PySem.SeqAt
open PySem.AutoSeq1 (wpAny_loadPart')
open PySem.MeetsSeq PySem.MeetsSeq2 PySem.MeetsSeq3
def Br (A:Around) (s:Shared) (v u:Value) (b:Bool):Prop:=∀ (prog:Program) (w:World) (E:Value->Shared->Prop) (Q:Value->Shared->Prop),Q (.bool b) s->wpAny (model prog w) A (richCompare .Lt v u) Q E s
def Bs (A:Around) (s:Shared) (v u:Value) (d e:D):Prop:=EqAt A s v u (eqD d e)/\(eqD d e=false->∀ b,ltD d e=some b->Br A s v u b)
abbrev jR (A:Around) (s:Shared):List Value->List Value->List D->List D->Prop:=fun vs us ds es=>vs.length=ds.length/\us.length=es.length/\∀ (j:Nat) v u d e,vs[j]?=some v->us[j]?=some u->ds[j]?=some d->es[j]?=some e->Bs A s v u d e
theorem jR.tail {A:Around} {s:Shared} {v u:Value} {vs us:List Value} {d e:D} {ds es:List D} (h:jR A s (v :: vs) (u :: us) (d :: ds) (e :: es)):Bs A s v u d e/\jR A s vs us ds es:=
 ⟨h.2.2 0 v u d e rfl rfl rfl rfl,by have:=h.1; simpa using this,by have:=h.2.1; simpa using this,fun j v u d e h1 h2 h3 h4=>h.2.2 (j+1) v u d e (by simpa using h1) (by simpa using h2) (by simpa using h3) (by simpa using h4)⟩
theorem kX (l b:Addr) (items items2:Array Value) (n n2:Nat) (dd dd2:Option Addr) (sl sl2:Array (Option Value)) (ds es:List D) (c:Bool) (hc:fP ds es=some c):
  Meets (Builtin.«tuple.__lt__» ⟨[.ref l,.ref b],[]⟩)
   (fun A R s=>s.heap.get? l=some { cls:=.type "tuple",dict:=dd,data:=.seq items n,slots:=sl }/\s.heap.get? b=some { cls:=.type "tuple",dict:=dd2,data:=.seq items2 n2,slots:=sl2 }/\
    jR A.in1 s items.toList items2.toList ds es/\R (.ok (.ret (.bool c))) s):=
 .of_wp fun prog w A R s h=>by
  obtain ⟨hp,g,d,tk,os⟩:=s; obtain ⟨hl,hb,hit,h⟩:=h
  have f2:=AutoSeq1.sub_tuple_tuple
  have z1:items.size=ds.length:=by rw [<- hit.1]; simp
  have z2:items2.size=es.length:=by rw [<- hit.2.1]; simp
  wp_walk using wpAny_loadPart' hl,wpAny_loadPart' hb,wpAny_forIn_list _ (fun rest b s'=>b.1=none/\s'=⟨hp,g,d,tk,os⟩/\∃ (vs ws:List Value) (ns' ms':List D),rest=vs.zip ws/\
   jR A.in1 ⟨hp,g,d,tk,os⟩ vs ws ns' ms'/\ns'.length+items2.size=ms'.length+items.size/\fP ns' ms'=some c) _
  case turn=>
   rintro ⟨y,x⟩ rest b s' ⟨hb',rfl,vs,ws,ns',ms',hz,hvi,hlen,hR⟩
   cases vs with
   | nil=>rw [List.zip_nil_left] at hz; cases hz
   | cons v vs=>
    cases ws with
    | nil=>rw [List.zip_nil_right] at hz; cases hz
    | cons u ws=>
     rw [List.zip_cons_cons] at hz
     injection hz with hyx hrest
     injection hyx with hy hx
     subst hy hx
     cases ns' with
     | nil=>have:=hvi.1; simp at this
     | cons a ns'=>
      cases ms' with
      | nil=>have:=hvi.2.1; simp at this
      | cons e ms'=>
       obtain ⟨⟨h1,h2⟩,ht⟩:=jR.tail hvi
       simp only [List.length_cons] at hlen
       simp only [fP] at hR
       refine wpAny_bind (h1 prog w _ _ ?_)
       cases q:eqD a e with
       | true=>
        rw [q,if_pos rfl] at hR
        wp_walk
        exact ⟨rfl,rfl,_,_,_,_,hrest,ht,by omega,hR⟩
       | false=>
        rw [q,if_neg Bool.false_ne_true] at hR
        have hri:=h2 q c hR prog w
        wp_walk using hri
        exact ⟨_,rfl,by simpa using h⟩
  case fin=>
   rintro ⟨b1,b2⟩ s' ⟨hb',rfl,vs,ws,ns',ms',hz,hvi,hlen,hR⟩
   simp only at hb'
   subst hb'
   have hv:c=decide (items.size < items2.size):=by
    cases ns' with
    | nil=>
     cases ms' with
     | nil=>
      simp only [List.length_nil] at hlen
      simp only [fP] at hR
      cases hR
      exact (decide_eq_false (by omega)).symm
     | cons e ms'=>
      simp only [List.length_nil,List.length_cons] at hlen
      simp only [fP] at hR
      cases hR
      exact (decide_eq_true (by omega)).symm
    | cons a ns'=>
     cases ms' with
     | nil=>
      simp only [List.length_nil,List.length_cons] at hlen
      simp only [fP] at hR
      cases hR
      exact (decide_eq_false (by omega)).symm
     | cons e ms'=>
      exfalso
      cases vs with
      | nil=>have:=hvi.1; simp at this
      | cons v vs=>
       cases ws with
       | nil=>have:=hvi.2.1; simp at this
       | cons u ws=>rw [List.zip_cons_cons] at hz; cases hz
   rw [hv] at h
   wp_walk
   exact ⟨_,rfl,by simpa [Builtin.Tuple.tupleCompareSizes] using h⟩
  case h=>
   exact ⟨rfl,rfl,items.toList,items2.toList,ds,es,rfl,hit,by omega,hc⟩
section
variable {X:Cx} {pins:List (Addr×Obj)} {σ:St} {H:Hp} {s:Shared}
theorem Dd (I:Inv X pins σ H s):∀ (n:Nat) (d e:D) (A:Around) (x y:V) (v u:Value) (b:Bool),d.depth<=n->A.units+n < cLine->Rep X.K H d x->Rep X.K H e y->RelV x v->RelV y u->ltD d e=some b->Br A s v u b:=by
 intro n
 induction n with
 | zero=>
  intro d e A x y v u b hd hu hx hy rx ry hb
  cases d with
  | tup ds=>exact absurd hd (by show ¬ D.depths ds+1<=0; omega)
  | int i=>
   cases e with
   | int j=>
    cases hx; cases hy
    obtain ⟨t,rfl⟩:=rx
    obtain ⟨t',rfl⟩:=ry
    simp only [ltD] at hb
    cases hb
    exact fun prog w E Q q=>(PyProof.Rows.lt_int q:wpAny (model prog w) A (compareOp .Lt _ _) Q E s)
   | _=>simp [ltD] at hb
  | str i=>
   cases e with
   | str j=>
    cases hx; cases hy
    obtain ⟨t,rfl⟩:=rx
    obtain ⟨t',rfl⟩:=ry
    simp only [ltD] at hb
    cases hb
    exact fun prog w E Q q=>(PyProof.Rows.lt_str q:wpAny (model prog w) A (compareOp .Lt _ _) Q E s)
   | _=>simp [ltD] at hb
  | _=>cases e <;> simp [ltD] at hb
 | succ n ih=>
  intro d e A x y v u b hd hu hx hy rx ry hb
  by_cases h0:d.depth<=n
  ·exact ih d e A x y v u b h0 (by omega) hx hy rx ry hb
  ·cases d with
   | tup ds=>
    cases e with
    | tup es=>
     have hds:D.depths ds<=n:=by have:D.depths ds+1<=n+1:=hd; omega
     obtain ⟨a,vs,rfl,q,r⟩:=hx
     cases rx
     obtain ⟨its,rv,p,_⟩:=I.tuple q
     obtain ⟨a',vs',rfl,q',r'⟩:=hy
     cases ry
     obtain ⟨its',rv',p',_⟩:=I.tuple q'
     have hb':fP ds es=some b:=by simpa [ltD] using hb
     obtain ⟨⟨cls,dd,data,sl⟩,ho,hc,m,hdt⟩:=id p
     obtain ⟨⟨cls2,dd2,data2,sl2⟩,ho2,hc2,m2,hd2⟩:=id p'
     simp only at hc hdt hc2 hd2
     subst hc hdt hc2 hd2
     intro prog w E Q hq
     refine richCompare_meets_room (op:=.Lt) ⟨_,ho,rfl⟩ ⟨_,ho2,rfl⟩ PySem.F.slot_tuple_lt PySem.F.entry_tuple_lt (PySem.F.args_tuple_lt_2 _ _) (kX a a' its.toArray its'.toArray m m2 dd dd2 sl sl2 ds es b hb')
      ⟨ho,ho2,⟨?_,?_,?_⟩,show Value.bool b≠Value.notImplemented/\Q (.bool b) s from ⟨(fun x=>nomatch x),hq⟩⟩ (by omega)
     ·have l1:=r.length
      have l3:=rv.length
      show its.length=ds.length
      omega
     ·have l1:=r'.length
      have l3:=rv'.length
      show its'.length=es.length
      omega
     ·intro j v u d e h1 h2 h3 h4
      obtain ⟨xv,hxv,hrx⟩:=r.at h3
      obtain ⟨yv,hyv,hry⟩:=r'.at h4
      obtain ⟨xu,hxu,hru⟩:=rv.get hxv
      obtain ⟨yu,hyu,hru'⟩:=rv'.get hyv
      have e1:v=xu:=by
       have:its[j]?=some v:=h1
       rw [hxu] at this
       exact (Option.some.inj this).symm
      have e2:u=yu:=by
       have:its'[j]?=some u:=h2
       rw [hyu] at this
       exact (Option.some.inj this).symm
      subst e1 e2
      have hdj:=D.depths_le h3
      refine ⟨yO I (n:=n) (by omega) ?_ hrx hry hru hru',fun _ b hb=>ih d e _ xv yv v u b (by omega) ?_ hrx hry hru hru' hb⟩
      all_goals (show A.units+1+n < cLine; omega)
    | _=>simp [ltD] at hb
   | _=>exact absurd (Nat.zero_le n) h0
end
variable {C:MC} {k:Nat} {X:Cx}
def sR (x y:PV):Option Bool:=match x.d,y.d with
 | some d,some e=>if d.depth<=40 then ltD d e else none
 | _,_=>none
def eL:PV->PV->PH->Rs PV:=fun x y h=>match x,y with
 | .tup xs,.tup ys=>ofB (sR (.tup xs) (.tup ys)) h
 | x,y=>vLt x y h
theorem zI (hu:X.A.units+64 < cLine) (K:PySem.W.Frag) (hK:X.K=K):OpR X (compareOp .Lt) (fun x y H Q=>∃ d e b,Rep K H d x/\Rep K H e y/\d.depth<=40/\ltD d e=some b/\Q (.bl b) H):=by
 subst hK
 intro pins s σ H x y v u Q I rx ry h
 obtain ⟨d,e,b,hx,hy,hd,hb,q⟩:=h
 exact Dd I 40 d e X.A x y v u b hd (by omega) hx hy rx ry hb X.prog X.w X.xe _ ⟨.bl _,H,I,rfl,q⟩
theorem iQ:OpS C k X (compareOp .Lt) eL:=fun c=>((zI c.hu64 C.K c.K).or (CP c)).imp fun x y H Q h=>by
 obtain ⟨φ,h,p,q,rh,rx,ry,po⟩:=h
 unfold eL at po
 split at po
 ·obtain ⟨b,e,po⟩:=po.ofB
  unfold sR at e
  split at e
  ·rename_i d e' h1 h2
   split at e
   ·rename_i hd
    exact .inl ⟨d,e',b,rx.rep h1,ry.rep h2,hd,e,po.val rh rfl⟩
   ·cases e
  ·cases e
 ·exact .inr ⟨φ,h,p,q,rh,rx,ry,po⟩
section
variable {h:PH}
@[simp] theorem Aa {i j:Int}:eL (.int i) (.int j) h=.ok (.bl (decide (i < j))) h:=(rfl)
@[simp] theorem Ab {i j:Str}:eL (.str i) (.str j) h=.ok (.bl (decide (i.cps.toList < j.cps.toList))) h:=(rfl)
def ltL (f:PV->PV->Option Bool):List PV->List PV->Option Bool
 | [],[]=>some false
 | [],_ :: _=>some true
 | _ :: _,[]=>some false
 | x :: xs,y :: ys=>if x=y then ltL f xs ys else f x y
def ltP:Nat->PV->PV->Option Bool
 | _,.int a,.int b=>some (decide (a < b))
 | _,.str a,.str b=>some (decide (a.cps.toList < b.cps.toList))
 | n+1,.tup xs,.tup ys=>ltL (ltP n) xs ys
 | _,_,_=>none
theorem Bt:∀ (n:Nat) (x y:PV) (d e:D),x.pl n=true->y.pl n=true->x.d=some d->y.d=some e->ltD d e=ltP n x y:=by
 intro n
 induction n with
 | zero=>
  intro x y d e hx hy h1 h2
  cases x <;> first | (simp [PV.pl] at hx; done) | skip
  all_goals cases h1
  all_goals cases y <;> first | (simp [PV.pl] at hy; done) | skip
  all_goals cases h2
  all_goals simp [ltD,ltP]
 | succ n ih=>
  intro x y d e hx hy h1 h2
  have lists:∀ (xs ys:List PV) (ds es:List D),xs.all (PV.pl n)=true->ys.all (PV.pl n)=true->PV.ds xs=some ds->PV.ds ys=some es->fP ds es=ltL (ltP n) xs ys:=by
   intro xs
   induction xs with
   | nil=>
    intro ys ds es _ _ h1 h2
    cases h1
    cases ys with
    | nil=>cases h2; simp [fP,ltL]
    | cons y ys=>obtain ⟨d,r,_,_,rfl⟩:=cE h2; simp [fP,ltL]
   | cons x xs ihx=>
    intro ys ds es hx hy h1 h2
    obtain ⟨d,r,g1,g2,rfl⟩:=cE h1
    simp only [List.all_cons,Bool.and_eq_true] at hx
    cases ys with
    | nil=>cases h2; simp [fP,ltL]
    | cons y ys=>
     obtain ⟨e,q,g3,g4,rfl⟩:=cE h2
     simp only [List.all_cons,Bool.and_eq_true] at hy
     simp only [fP,ltL,sO n x y d e hx.1 hy.1 g1 g3,ihx ys r q hx.2 hy.2 g2 g4,ih x y d e hx.1 hy.1 g1 g3,decide_eq_true_eq]
  cases x with
  | tup xs=>
   obtain ⟨ds,g1,rfl⟩:=bA h1
   cases y with
   | tup ys=>
    obtain ⟨es,g2,rfl⟩:=bA h2
    simp only [ltD,lists xs ys ds es hx hy g1 g2,ltP]
   | non=>cases h2; simp [ltD,ltP]
   | int j=>cases h2; simp [ltD,ltP]
   | str j=>cases h2; simp [ltD,ltP]
   | _=>simp [PV.pl] at hy
  | non=>cases h1; cases y <;> first | (simp [PV.pl] at hy; done) | (obtain ⟨es,g2,rfl⟩:=bA h2; simp [ltD,ltP]; done) | (cases h2; simp [ltD,ltP])
  | int i=>cases h1; cases y <;> first | (simp [PV.pl] at hy; done) | (obtain ⟨es,g2,rfl⟩:=bA h2; simp [ltD,ltP]; done) | (cases h2; simp [ltD,ltP])
  | str i=>cases h1; cases y <;> first | (simp [PV.pl] at hy; done) | (obtain ⟨es,g2,rfl⟩:=bA h2; simp [ltD,ltP]; done) | (cases h2; simp [ltD,ltP])
  | _=>simp [PV.pl] at hx
theorem mI {xs ys:List PV} {b:Bool} (hx:(PV.tup xs).pl 40=true) (hy:(PV.tup ys).pl 40=true) (e:ltL (ltP 39) xs ys=some b):eL (.tup xs) (.tup ys) h=.ok (.bl b) h:=by
 obtain ⟨d,h1,h2⟩:=gE 40 _ hx
 obtain ⟨d',h3,h4⟩:=gE 40 _ hy
 have:=Bt 40 _ _ d d' hx hy h1 h3
 have e':ltP 40 (.tup xs) (.tup ys)=some b:=e
 unfold eL sR
 simp only [h1,h3,h2,if_true,this,e']
 rfl
end
end L2
set_option Elab.async false
set_option linter.all false
set_option maxRecDepth 100000
namespace L2
open PySem PySem.Spec PyProof.Rows
variable {C:MC} {k:Nat} {X:Cx}
def sS:List PV->Option (List Int)
 | []=>some []
 | .int i :: r=>(sS r).map (i :: ·)
 | _ :: _=>none
open Classical in
noncomputable def vH:PV->PV->PH->Rs PV:=fun x y h=>match x,y with
 | .str z,.int n=>if z.length<=16/\-(2 ^ 63)<=n/\n<=1000 then .ok (.str (Txt.mul z n)) h else .bad
 | _,_=>.bad
theorem Bu:OpS C k X (binaryOp .Mult) vH:=fun c=>by
 intro pins s σ H x y v u Q I rx ry h
 obtain ⟨φ,h,p,q,rh,rp,rq,po⟩:=h
 unfold vH at po
 split at po
 ·cases rp; cases rq
  obtain ⟨t,rfl⟩:=rx
  obtain ⟨t',rfl⟩:=ry
  obtain ⟨⟨h1,h2,h3⟩,po⟩:=po.ite
  refine PySem.W.KXi.mul rfl h1 h2 (by omega) fun t'' tk _ _=>⟨.str _,H,I.tok _,⟨_,rfl⟩,po.val rh rfl⟩
 ·exact po.elim
end L2
set_option Elab.async false
set_option linter.all false
namespace L2
open PySem
section
variable {h:PH} {lo hi:Option Int}
@[simp] theorem Ck {z:Str} (c:z.length<=16777216):vSl (.str z) lo hi h=.ok (.str (Txt.slice z lo hi)) h:=if_pos c
@[simp] theorem Cm {xs:List PV}:vSl (.tup xs) lo hi h=.ok (.tup (bO xs lo hi)) h:=(rfl)
@[simp] theorem De {xs:List PV}:vSl (.fl xs) lo hi h=.ok (.ref h.length) (h++[.lst (bO xs lo hi)]):=(rfl)
@[simp] theorem Df {a b:Bool}:vIs (.bl a) (.bl b) h=.ok (.bl (a == b)) h:=(rfl)
@[simp] theorem Ac {a b:Bool}:dY (.bl a) (.bl b) h=.ok (.bl (!(a == b))) h:=(rfl)
@[simp] theorem Cn {x:PV}:vIs x .non h=.ok (.bl (eM x)) h:=(rfl)
@[simp] theorem zJ {x:PV}:dY x .non h=.ok (.bl (!eM x)) h:=(rfl)
theorem vI {α:Type} {xs:List α} {i:Int} (h0:-(xs.length:Int)<=i) (h1:i < xs.length):∃ v,atI xs i=some v/\v∈xs:=by
 unfold atI ixN
 by_cases hi:0<=i
 ·rw [if_pos hi,if_pos h1]
  have:i.toNat < xs.length:=by omega
  exact ⟨xs[i.toNat],by simp [this],List.getElem_mem _⟩
 ·rw [if_neg hi,if_pos h0]
  have:(i+xs.length).toNat < xs.length:=by omega
  exact ⟨xs[(i+xs.length).toNat],by simp [this],List.getElem_mem _⟩
theorem oY {n d:Nat} {i:Int} (h0:0<=i):HT.sIx n d (some i)=min i.toNat n:=by
 show (if i < 0 then (i+(n:Int)).toNat else min i.toNat n)=_
 rw [if_neg (by omega)]
theorem kY {α:Type} {xs:List α} {j:Int} (h0:0<=j):bO xs none (some j)=xs.take j.toNat:=by
 unfold bO
 rw [oY h0]
 simp only [HT.sIx,List.drop_zero,Nat.sub_zero]
 rw [List.take_eq_take_iff]
 omega
theorem sT {α:Type} {xs:List α} {j:Int} (h0:0<=j):bO xs (some j) none=xs.drop j.toNat:=by
 unfold bO
 rw [oY h0]
 simp only [HT.sIx]
 by_cases hj:j.toNat<=xs.length
 ·rw [Nat.min_eq_left hj,List.take_of_length_le (by rw [List.length_drop]; omega)]
 ·rw [Nat.min_eq_right (by omega),List.drop_of_length_le (Nat.le_refl _),List.drop_of_length_le (by omega)]
  simp
theorem kZ {α β:Type} {f:α->β} {xs:List α}:bO (xs.map f) lo hi=(bO xs lo hi).map f:=by
 unfold bO
 rw [List.length_map,List.map_take,List.map_drop]
theorem lA {α:Type} {xs:List α} {x:α} (hx:x∈bO xs lo hi):x∈xs:=List.mem_of_mem_drop (List.mem_of_mem_take hx)
theorem hJ {α:Type} {xs:List α}:(bO xs lo hi).length<=xs.length:=by
 unfold bO
 rw [List.length_take,List.length_drop]
 omega
end
end L2
namespace L2
theorem jS {c:Prop} [Decidable c] {α:Type} {P:α->Prop} (G:α->Prop) (a b:α) (ga:G a) (gb:G b) (h:∀ x,G x->P x):if c then P a else P b:=by
 split
 ·exact h _ ga
 ·exact h _ gb
end L2
set_option Elab.async false
set_option linter.all false
namespace L2
open PySem
section
variable {δ:Ev} {h h1:PH} {js:List (Option Nat)} {tg:Mg} {tst:Ev->PH->Rs Bool} {elt:Me} {g:PH->Bool} {n:Nat}
end
end L2
namespace L2
open PySem
end L2
set_option Elab.async false
set_option linter.all false
set_option maxRecDepth 100000
namespace L2
open PySem PySem.Spec PyProof.Rows
section
variable {X:Cx} {pins:List (Addr×Obj)} {σ:St} {H:Hp} {s:Shared} {C:MC} {φ:List Addr}
def Bv (h:PH) (n:Nat):Option (List (PV×PV)):=match h[n]? with
 | some (.dD kvs)=>some kvs
 | some (.dK [])=>some []
 | _=>none
def PV.isKt:PV->Bool
 | .tup xs=>(PV.tup xs).ky 6
 | _=>false
def Dg {κ:Type} [DecidableEq κ] (kvs:List (κ×PV)) (k:κ) (p:PV):List (κ×PV):=if (gO kvs k).isSome then kvs.map (fun kv=>if kv.1=k then (kv.1,p) else kv) else kvs++[(k,p)]
end
section
variable {C:MC} {k:Nat} {X:Cx}
def zK (x y:PV) (h:PH):Option (Option PV):=match y with
 | .ref n=>if x.isKt=true then (Bv h n).map fun kvs=>gO kvs x else none
 | _=>none
end
end L2
set_option Elab.async false
set_option linter.all false
set_option maxRecDepth 100000
namespace L2
open PySem PySem.Spec PyProof.Rows
section
variable {C:MC} {k:Nat} {X:Cx}
section
variable {o e:Expr} {es:List Expr} {mo:Me} {ms:Ma} {name:Str} {apos cpos:Pos} {T id:String} {ty:PV->PH->Bool} {g:PV->List PV->PH->Rs PV}
end
end
end L2
set_option Elab.async false
set_option linter.all false
set_option maxRecDepth 100000
namespace L2
open PySem PySem.Spec PyProof.Rows
def kP:Key->PV
 | .inl i=>.int i
 | .inr x=>.str x
def wU:List PV->Option (List Key)
 | []=>some []
 | x :: xs=>match yU x,wU xs with
  | some a,some r=>some (a :: r)
  | _,_=>none
def wV:List PV->Option (List (List Key))
 | []=>some []
 | .tup xs :: r=>match wU xs,wV r with
  | some a,some b=>some (a :: b)
  | _,_=>none
 | _ :: _=>none
def Dh (kss:List (List Key)):Bool:=match kss with
 | []=>true
 | a :: r=>(!a.isEmpty) && r.all fun x=>shape x == shape a
section
variable {C:MC} {k:Nat} {X:Cx}
end
end L2
set_option Elab.async false
set_option linter.all false
set_option maxRecDepth 100000
namespace L2
open PySem
section
variable {h:PH}
@[simp] theorem Bw {x:PV} {xs:List PV}:zK x (.tup xs) h=none:=(rfl)
@[simp] theorem Co {x:PV} {xs:List PV}:zK x (.fl xs) h=none:=(rfl)
@[simp] theorem Ad {x:PV} {z:Str}:zK x (.str z) h=none:=(rfl)
end
end L2
set_option Elab.async false
set_option linter.all false
set_option maxRecDepth 100000
namespace L2
open PySem PySem.Spec PyProof.Rows
section
variable {C:MC} {k:Nat} {X:Cx}
end
end L2
set_option Elab.async false
set_option linter.all false
set_option maxRecDepth 100000
namespace L2
open PySem PySem.Spec PyProof.Rows
section
variable {C:MC} {k:Nat} {X:Cx}
def vJ (h:PH) (d:Nat):Option (List PV):=match h[d]? with
 | some (.dK kvs)=>some (kvs.map (·.2))
 | some (.dD kvs)=>some (kvs.map (·.2))
 | _=>none
def sU (h:PH) (n:Nat):Option (List PV):=match h[n]? with
 | some (.vw 1 d)=>vJ h d
 | _=>none
end
end L2
set_option Elab.async false
set_option linter.all false
set_option maxRecDepth 100000
namespace L2
open PySem PySem.Spec PyProof.Rows
section
variable {C:MC} {k:Nat} {X:Cx}
end
section
variable {h:PH}
end
end L2
set_option Elab.async false
set_option linter.all false
set_option maxRecDepth 100000
namespace L2
open PySem PySem.Spec PyProof.Rows PySem.SeqAt PySem.W
def Di (l:List Nat):List Int:=l.map (fun (c:Nat)=>(c:Int)+2)++[1]
mutual
def enc:PV->List Int
 | .int i=>[i]
 | .str x=>Di x.cps.toList
 | .tup xs=>Bx xs
 | _=>[]
def Bx:List PV->List Int
 | []=>[0]
 | x :: xs=>1 :: (enc x++Bx xs)
end
def ltN (x y:PV):Bool:=decide (enc x < enc y)
section
variable {α:Type} (key:α->PV)
def By (x:α):List α->List α
 | []=>[x]
 | y :: ys=>if ltN (key y) (key x) then y :: By x ys else x :: y :: ys
def wW:List α->List α
 | []=>[]
 | x :: xs=>By key x (wW xs)
end
section
variable {prog:Program} {w:World} {A:Around} {E:Value->Shared->Prop} {s:Shared}
def fk:PV->Nat
 | .tup (.int _ :: _)=>0
 | .tup (.str _ :: _)=>1
 | .tup (.tup _ :: _)=>2
 | _=>3
end
structure OkN (m:Nat) (xs:List PV):Prop where
 m3:m < 3
 ky:∀ x∈xs,x.ky 20=true
 fk:∀ x∈xs,fk x=m
 lt:∀ x∈xs,∀ y∈xs,(ltP 20 x y).isSome=true
section
variable {C:MC} {k:Nat} {X:Cx}
end
end L2
set_option Elab.async false
set_option linter.all false
set_option maxRecDepth 100000
namespace L2
open PySem PySem.Spec PyProof.Rows
abbrev KP:=List Key×PV
def wX (x:KP):List KP->List KP
 | []=>[x]
 | y :: ys=>if AO y.1 x.1=true then y :: wX x ys else x :: y :: ys
def sV:List KP->List KP
 | []=>[]
 | x :: xs=>wX x (sV xs)
open Classical in
noncomputable def sortBy (b:Bool) (ks ys:List PV):Option (List PV):=match wV ks with
 | some kss=>if kss.length < 1000000/\kss.length=ys.length/\Dh kss=true/\kss.Nodup then some ((PySem.W.katRev b (sV (kss.zip ys))).map (·.2)) else none
 | none=>none
noncomputable def oZ (f:Fn) (b:Bool) (ys:List PV):List PV->List PV->PH->Rs PV
 | [],ks,h=>match sortBy b ks ys with
  | some zs=>.ok (.ref h.length) (h++[.lst zs])
  | none=>.bad
 | x :: xs,ks,h=>(f [x] h).bind fun k h1=>oZ f b ys xs (ks++[k]) h1
def sW (x:PV) (h:PH):Option (List PV):=match x with
 | .ref n=>match bG h n with
  | some ys=>some ys
  | none=>sU h n
 | .fl ys=>some ys
 | _=>none
noncomputable def sX (f:Fn) (b:Bool) (x:PV) (h:PH):Rs PV:=match sW x h with
 | some ys=>if ys.length < 1000000 then oZ f b ys ys [] h else .bad
 | none=>.bad
noncomputable def zL (f:Fn) (b:Bool) (me:Me):Me:=fun δ h=>(me δ h).bind fun x h1=>sX f b x h1
section
variable {C:MC} {k:Nat} {X:Cx}
section
variable {x:Str} {st:Stmt} {q:Addr} {fd:FuncData} {pn:List Str} {j:Nat} {f:Fn}
end
section
variable {kf:Str} {st:Stmt} {q:Addr} {fd:FuncData} {pn:List Str} {j jb:Nat} {f:Fn} {e:Expr} {me:Me} {p pos kp kpos rp rpos:Pos}
end
end
end L2
set_option Elab.async false
set_option linter.all false
set_option maxRecDepth 100000
namespace L2
open PySem
section
variable {α:Type} (key:α->List Key)
variable {key}
end
section
variable {δ:Ev} {h:PH} {m:Me}
@[simp] theorem Ae {f:Fn} {b:Bool}:zL f b m δ h=(m δ h).bind fun x h1=>sX f b x h1:=(rfl)
@[simp] theorem zM {xs:List PV}:eM (.tup xs)=false:=(rfl)
@[simp] theorem zN:eM .non=true:=(rfl)
end
section
variable {δ:Ev} {h h1:PH} {js:List (Option Nat)} {tg:Mg} {elt:Me} {g:PH->Bool}
end
end L2
set_option Elab.async false
set_option linter.all false
set_option maxRecDepth 100000
namespace L2
open PySem PySem.Spec PyProof.Rows
section
variable {C:MC} {k:Nat} {X:Cx}
section
variable {e o value:Expr} {f:Str} {m mo mv:Me} {pos pos' tpos:Pos}
end
section
variable {o e:Expr} {es:List Expr} {m:Str} {n:Nat} {tb:Str->Option Fn} {mo:Me} {ms:Ma} {pos apos:Pos} {pl:Sem Bool}
end
def Bz (cn:Str) (n:Nat) (f:Fn) (ms:Ma):Me:=fun δ h=>(ms δ h).bind fun ps h1=>if ps.length=n then (f (.ref h1.length :: ps) (h1++[.ins cn []])).bind fun v h2=>(match v with
 | .non=>.ok (.ref h1.length) h2
 | _=>.bad) else .bad
section
variable {x cn:Str} {ca f:Addr} {fd:FuncData} {ps:List Str} {j n:Nat} {fn:Fn} {e:Expr} {es:List Expr} {ms:Ma} {p pos:Pos}
end
end
def BA:List PV->PH->Rs PV:=fun xs h=>match xs with
 | [.bl b]=>.ok (.int (if b then 1 else 0)) h
 | [.int i]=>.ok (.int i) h
 | _=>.bad
section
variable {C:MC} {k:Nat} {X:Cx}
end
section
variable {δ:Ev} {h:PH} {m mo mv:Me} {E:FE}
@[simp] theorem BB {cn:Str} {n:Nat} {f:Fn} {ms:Ma}:Bz cn n f ms δ h=(ms δ h).bind fun ps h1=>if ps.length=n then (f (.ref h1.length :: ps) (h1++[.ins cn []])).bind fun v h2=>(match v with | .non=>.ok (.ref h1.length) h2 | _=>.bad) else .bad:=(rfl)
@[simp] theorem BC {b:Bool}:BA [.bl b] h=.ok (.int (if b then 1 else 0)) h:=(rfl)
end
end L2
set_option Elab.async false
set_option linter.all false
set_option maxRecDepth 100000
namespace L2
open PySem PySem.Spec PyProof.Rows
section
variable {C:MC} {k:Nat} {X:Cx} {e:Expr} {me:Me} {p pos p2 pos2:Pos}
end
section
variable {h:PH}
end
end L2
namespace L2
open PySem PySem.Spec PyProof.Rows
section
variable {C:MC} {k:Nat} {X:Cx} {e st:Expr} {me:Me} {pos p2:Pos}
end
end L2
set_option Elab.async false
set_option linter.all false
set_option maxRecDepth 100000
namespace L2
open PySem PySem.Spec PyProof.Rows
def BD:List Int->Int
 | []=>0
 | [x]=>x
 | x :: y :: r=>max x (BD (y :: r))
def BE:List Int->Int
 | []=>0
 | [x]=>x
 | x :: y :: r=>min x (BE (y :: r))
def BF:List PV->PH->Rs PV:=fun xs h=>match xs with
 | [.ref n]=>match bG h n with
  | some ys=>match sS ys with
   | some (a :: ns)=>.ok (.int (BD (a :: ns))) h
   | _=>.bad
  | none=>.bad
 | _=>B2 xs h
def BG:List PV->PH->Rs PV:=fun xs h=>match xs with
 | [.ref n]=>match bG h n with
  | some ys=>match sS ys with
   | some (a :: ns)=>.ok (.int (BE (a :: ns))) h
   | _=>.bad
  | none=>.bad
 | _=>sJ xs h
section
variable {prog:Program} {w:World} {A:Around} {E:Value->Shared->Prop} {s:Shared} {d:Addr} {oc:Obj} {es:Array DictEntry} {ep:Nat}
end
section
variable {C:MC} {k:Nat} {X:Cx}
end
section
variable {h:PH}
@[simp] theorem Af {i j:Int}:BF [.int i,.int j] h=.ok (.int (if j > i then j else i)) h:=(rfl)
@[simp] theorem Ag {i j:Int}:BG [.int i,.int j] h=.ok (.int (if j < i then j else i)) h:=(rfl)
end
end L2
set_option Elab.async false
set_option linter.all false
set_option maxRecDepth 100000
namespace L2
open PySem PySem.Spec PyProof.Rows
section
variable {prog:Program} {w:World} {K:Type} [DecidableEq K] {knd:HeapKind prog w K} {A:Around} {R:Result->Shared->Prop}
end
section
variable {C:MC} {k:Nat} {X:Cx} {φ:List Addr} {H:Hp} {pins:List (Addr×Obj)} {σ:St} {s:Shared}
end
end L2
set_option Elab.async false
set_option linter.all false
set_option maxRecDepth 100000
namespace L2
open PySem PySem.Spec PyProof.Rows PySem.SeqAt
open PySem.AutoSeq1 (wpAny_loadPart')
open PySem.MeetsSeq PySem.MeetsSeq2 PySem.MeetsSeq3
section
variable {X:Cx} {pins:List (Addr×Obj)} {σ:St} {H:Hp} {s:Shared}
end
section
variable {C:MC} {k:Nat} {X:Cx}
def BH:PV->PV->PH->Rs PV:=fun x y h=>match x,y with
 | .tup xs,.tup ys=>ofB ((sR (.tup xs) (.tup ys)).map (!·)) h
 | x,y=>vGe x y h
variable {h:PH}
@[simp] theorem BI {i j:Int}:BH (.int i) (.int j) h=.ok (.bl (decide (j<=i))) h:=(rfl)
@[simp] theorem BJ {i j:Str}:BH (.str i) (.str j) h=.ok (.bl (!decide (i.cps.toList < j.cps.toList))) h:=(rfl)
end
end L2
set_option Elab.async false
set_option linter.all false
set_option maxRecDepth 100000
namespace L2
open PySem PySem.Spec PyProof.Rows
section
variable {prog:Program} {w:World} {A:Around} {E:Value->Shared->Prop} {s:Shared} {v dc it:Addr} {oc:Obj} {es:Array DictEntry} {ep:Nat}
end
section
variable {C:MC} {k:Nat} {X:Cx}
end
section
variable {C:MC} {k:Nat} {X:Cx}
end
section
variable {C:MC} {k:Nat} {X:Cx} {ke ve:Expr} {mk mv:Me} {pos:Pos}
def putD (x y:PV) (n:Nat) (h:PH):Rs PV:=if x.isKt=true then (match Bv h n with
 | some kvs=>if kvs.length < sizeLine then .ok (.ref n) (h.set n (.dD (Dg kvs x y))) else .bad
 | none=>.bad) else .bad
def zO (mk mv:Me):Me:=fun δ h=>(mk δ (h++[.dK []])).bind fun x h2=>(mv δ h2).bind fun y h3=>putD x y h.length h3
end
section
variable {C:MC} {k:Nat} {X:Cx} {x:Str} {a:Addr} {o:Obj} {its:Array Value} {n:Nat} {vs:List V} {ps:List PV} {pos:Pos}
end
section
@[simp] theorem Ah {mk mv:Me} {δ:Ev} {h:PH}:zO mk mv δ h=(mk δ (h++[.dK []])).bind fun x h2=>(mv δ h2).bind fun y h3=>putD x y h.length h3:=(rfl)
end
end L2
set_option Elab.async false
set_option linter.all false
set_option maxRecDepth 100000
namespace L2
open PySem PySem.Spec PyProof.Rows PySem.SeqAt
section
variable {prog:Program} {w:World} {A:Around} {E:Value->Shared->Prop} {s:Shared}
variable {K:Type} [DecidableEq K] {knd:HeapKind prog w K}
end
section
variable {C:MC} {k:Nat} {X:Cx}
variable {h:PH}
end
end L2
set_option Elab.async false
set_option linter.all false
set_option maxRecDepth 100000
namespace L2
open PySem PySem.Spec PyProof.Rows
def BK:HO->Prop
 | .tup _=>False
 | .own _=>False
 | .tbl _=>False
 | _=>True
section
variable {X:Cx} {pins:List (Addr×Obj)} {σ:St} {H:Hp} {s:Shared}
end
def sY:MO->Option (List PV)
 | .dK kvs=>some (kvs.map fun kv=>.tup [kP kv.1,kv.2])
 | .dD kvs=>some (kvs.map fun kv=>.tup [kv.1,kv.2])
 | _=>none
def BL:MO->Option (List PV)
 | .dK kvs=>some (kvs.map fun kv=>kP kv.1)
 | .dD kvs=>some (kvs.map (·.1))
 | _=>none
section
variable {C:MC} {k:Nat} {X:Cx} {pins:List (Addr×Obj)} {σ:St} {H:Hp} {s:Shared} {φ:List Addr}
structure DM (C:MC) (φ:List Addr) (H:Hp) (s:Shared) (b:Addr) (o:MO) (ks:List (V×V)) (u:HO) (oc:Obj) (es:Array DictEntry) (ep:Nat):Prop where
 at':H b=some u
 nf:BK u
 nz:∀ o z,u≠.frz o z
 nt:oO (some u)
 get:s.heap.get? b=some oc
 cls:oc.cls=.type "dict"
 data:oc.data=.dict es ep
 nsys:(b == sysModules)=false
 fz:∀ φ' H',φ<+:φ'->H' b=some (.frz oc u)->Kp H H'->RO C φ' H' b (.fz o)
 len:ks.length=es.size
 ent:∀ (i:Nat) (hi:i < es.size),∃ kv,ks[i]?=some kv/\RelV kv.1 es[i].key/\RelV kv.2 es[i].val
 keys:∀ xs,BL o=some xs->RVs C φ H xs (ks.map (·.1))
 items:∀ xs,sY o=some xs->xs.length=ks.length/\∀ (i:Nat) p,xs[i]?=some p->∃ p1 p2 kv,p=.tup [p1,p2]/\ks[i]?=some kv/\RV C φ H p1 kv.1/\RV C φ H p2 kv.2
end
section
variable {h h1:PH} {δ:Ev}
end
end L2
set_option Elab.async false
set_option linter.all false
set_option maxRecDepth 100000
namespace L2
open PySem PySem.Spec PyProof.Rows
section
variable {C:MC} {k:Nat} {X:Cx}
end
section
variable {h:PH}
end
end L2
set_option Elab.async false
set_option linter.all false
set_option maxRecDepth 100000
namespace L2
open PySem PySem.Spec PyProof.Rows PySem.SeqAt
section
variable {X:Cx} {pins:List (Addr×Obj)} {σ:St} {H:Hp} {s:Shared}
end
section
variable {C:MC} {k:Nat} {X:Cx} {pins:List (Addr×Obj)} {σ:St} {H:Hp} {s:Shared} {φ:List Addr} {h:PH}
end
end L2
set_option Elab.async false
set_option linter.all false
set_option maxRecDepth 100000
namespace L2
open PySem PySem.Spec PyProof.Rows PySem.SeqAt PySem.W
section
variable {X:Cx} {pins:List (Addr×Obj)} {σ:St} {H:Hp} {s:Shared} {A:Around} {E:Value->Shared->Prop}
end
def hdk:PV->Option Nat
 | .tup (.int _ :: _)=>some 0
 | .tup (.str _ :: _)=>some 1
 | .tup (.tup _ :: _)=>some 2
 | _=>none
def ltV (x y:PV):Bool:=match x.d,y.d with
 | some d,some e=>ltD d e == some true
 | _,_=>false
structure OkV (b:Bool) (ks:List PV):Prop where
 dat:∀ x∈ks,∃ xs ds,x=.tup xs/\PV.ds xs=some ds/\D.depths ds<=40
 hd:∃ t,((t == 2)=!b)/\t<=2/\∀ x∈ks,hdk x=some t
 can:∀ x∈ks,∀ y∈ks,∃ d e c,x.d=some d/\y.d=some e/\ltD d e=some c
 tr:∀ x∈ks,∀ y∈ks,∀ z∈ks,ltV y x=false->ltV z y=false->ltV z x=false
 as:∀ x∈ks,∀ y∈ks,ltV x y=true->ltV y x=false
 tot:∀ x∈ks,∀ y∈ks,ltV x y=false->ltV y x=false->x=y
section
variable {C:MC} {k:Nat} {X:Cx} {pins:List (Addr×Obj)} {σ:St} {H:Hp} {s:Shared} {φ:List Addr} {A:Around} {E:Value->Shared->Prop}
end
section
variable {C:MC} {k:Nat} {X:Cx}
section
variable {x:Str} {st:Stmt} {q:Addr} {fd:FuncData} {pn:List Str} {j:Nat} {f:Fn}
end
section
variable {kf:Str} {st:Stmt} {q:Addr} {fd:FuncData} {pn:List Str} {j jb:Nat} {f:Fn} {e:Expr} {me:Me} {p pos kp kpos rp rpos:Pos}
end
end
section
variable {prog:Program} {w:World} {A:Around} {E:Value->Shared->Prop} {s:Shared}
end
section
variable {C:MC} {k:Nat} {X:Cx}
end
section
variable {h:PH}
end
end L2
set_option Elab.async false
set_option linter.all false
set_option maxRecDepth 100000
namespace L2
open PySem PySem.Spec PyProof.Rows
section
variable {prog:Program} {w:World} {A:Around} {E:Value->Shared->Prop} {s:Shared} {a:Addr}
end
section
variable {C:MC} {k:Nat} {X:Cx}
end
end L2
set_option Elab.async false
set_option linter.all false
set_option maxRecDepth 100000
namespace L2
open PySem PySem.Spec PyProof.Rows
section
variable {C:MC} {k:Nat} {X:Cx}
end
section
variable {δ:Ev} {h:PH} {E:FE}
end
end L2
set_option Elab.async false
set_option linter.all false
set_option maxRecDepth 100000
namespace L2
open PySem PySem.Spec PyProof.Rows
section
variable {C:MC} {k:Nat} {X:Cx}
end
end L2
set_option Elab.async false
set_option linter.all false
set_option maxRecDepth 100000
namespace L2
open PySem PySem.Spec PyProof.Rows PySem.SeqAt
structure Mk0 (K:PySem.W.Frag) (C:Addr):Prop where
 makes:PySem.W.makesIn K C=true
 init:PySem.W.findIn K (.ref C) "__init__" = some (some (.builtin "object.__init__"))
 kp:PySem.W.keepIn K (.ref C)=true
section
variable {X:Cx} {C:Addr}
end
def zP (cn:Str):Me:=fun δ h=>.ok (.ref h.length) (h++[.ins cn []])
section
variable {C:MC} {k:Nat} {X:Cx} {x cn:Str} {ca:Addr} {p pos:Pos}
end
section
@[simp] theorem Ai {cn:Str} {δ:Ev} {h:PH}:zP cn δ h=.ok (.ref h.length) (h++[.ins cn []]):=(rfl)
end
end L2
set_option Elab.async false
set_option linter.all false
set_option maxRecDepth 100000
namespace L2
open PySem PySem.Spec PyProof.Rows
section
variable {X:Cx} {pins:List (Addr×Obj)} {σ:St} {H:Hp} {s:Shared} {C:MC} {φ:List Addr}
end
section
variable {C:MC} {k:Nat} {X:Cx}
end
end L2
set_option Elab.async false
set_option linter.all false
set_option maxRecDepth 100000
namespace L2
open PySem PySem.Spec PyProof.Rows
section
variable {prog:Program} {w:World} {A:Around} {E:Value->Shared->Prop} {s:Shared} {a:Addr}
end
section
variable {C:MC} {k:Nat} {X:Cx}
end
end L2
set_option Elab.async false
set_option linter.all false
set_option maxRecDepth 100000
namespace L2
open PySem PySem.Spec PyProof.Rows PySem.SeqAt PySem.W
open Classical in
noncomputable def BM (b:Bool) (m:Nat) (ks ys:List PV):Option (List PV):=if ks.length < 1000000/\ks.length=ys.length/\OkN m ks/\(∀ a∈ks.zip ys,∀ c∈ks.zip ys,a.1=c.1->a.2=c.2) then some ((PySem.W.katRev b (wW Prod.fst (ks.zip ys))).map (·.2)) else none
noncomputable def iR (f:Fn) (b:Bool) (kb:Nat) (ys:List PV):List PV->List PV->PH->Rs PV
 | [],ks,h=>match BM b kb ks ys with
  | some zs=>.ok (.ref h.length) (h++[.lst zs])
  | none=>.bad
 | x :: xs,ks,h=>(f [x] h).bind fun k h1=>iR f b kb ys xs (ks++[k]) h1
noncomputable def pA (f:Fn) (b:Bool) (kb:Nat) (x:PV) (h:PH):Rs PV:=match sW x h with
 | some ys=>if ys.length < 1000000 then iR f b kb ys ys [] h else .bad
 | none=>.bad
noncomputable def vK (f:Fn) (b:Bool) (kb:Nat) (me:Me):Me:=fun δ h=>(me δ h).bind fun x h1=>pA f b kb x h1
section
variable {C:MC} {k:Nat} {X:Cx}
section
variable {x:Str} {st:Stmt} {q:Addr} {fd:FuncData} {pn:List Str} {j:Nat} {f:Fn}
end
section
variable {kf:Str} {st:Stmt} {q:Addr} {fd:FuncData} {pn:List Str} {j jb:Nat} {f:Fn} {e:Expr} {me:Me} {p pos kp kpos rp rpos:Pos}
end
end
section
variable {α:Type}
end
section
variable {δ:Ev} {h:PH} {m:Me}
@[simp] theorem zQ {f:Fn} {b:Bool} {n:Nat}:vK f b n m δ h=(m δ h).bind fun x h1=>pA f b n x h1:=(rfl)
end
end L2
set_option Elab.async false
set_option linter.all false
set_option maxRecDepth 100000
namespace L2
open PySem PySem.Spec PyProof.Rows PySem.SeqAt
section
variable {C:MC} {k:Nat} {X:Cx} {pins:List (Addr×Obj)} {σ:St} {H:Hp} {s:Shared} {φ:List Addr} {h:PH}
end
end L2
set_option Elab.async false
set_option linter.all false
set_option maxRecDepth 100000
namespace L2
open PySem PySem.Spec PyProof.Rows PySem.SeqAt
open PySem.AutoSeq1 (wpAny_loadPart')
open PySem.MeetsSeq PySem.MeetsSeq2 PySem.MeetsSeq3
section
variable {X:Cx} {pins:List (Addr×Obj)} {σ:St} {H:Hp} {s:Shared}
end
section
variable {C:MC} {k:Nat} {X:Cx}
def Dj:PV->PV->PH->Rs PV:=fun x y h=>match x,y with
 | .tup xs,.tup ys=>ofB (if (PV.tup xs).d.all (fun d=>decide (d.depth<=40)) then (sR (.tup ys) (.tup xs)).map (!·) else none) h
 | x,y=>vLe x y h
variable {h:PH}
@[simp] theorem BN {i j:Int}:Dj (.int i) (.int j) h=.ok (.bl (decide (i<=j))) h:=(rfl)
end
end L2
set_option Elab.async false
set_option linter.all false
set_option maxRecDepth 100000
namespace L2
open PySem PySem.Spec PyProof.Rows PySem.SeqAt PySem.W
section
variable {prog:Program} {w:World} {A:Around} {E:Value->Shared->Prop} {s:Shared}
end
section
variable {C:MC} {k:Nat} {X:Cx} {x:Str} {st:Stmt} {q:Addr} {fd:FuncData} {pn:List Str} {j:Nat} {f:Fn}
end
section
variable {C:MC} {k:Nat} {X:Cx} {kf:Str} {st:Stmt} {q:Addr} {fd:FuncData} {pn:List Str} {j jn:Nat} {f:Fn} {e:Expr} {me:Me} {p pos kp kpos rp rpos:Pos}
end
end L2
set_option Elab.async false
set_option linter.all false
set_option maxRecDepth 100000
namespace L2
open PySem PySem.Spec PyProof.Rows PySem.SeqAt PySem.W
section
variable {C:MC} {k:Nat} {X:Cx}
end
end L2
set_option Elab.async false
set_option linter.all false
set_option maxRecDepth 100000
namespace L2
open PySem PySem.Spec PyProof.Rows PySem.SeqAt PySem.W
section
variable {C:MC} {k:Nat} {X:Cx} {e1 e2:Expr} {ms:Ma} {p pos p2 pos2:Pos}
end
end L2
set_option Elab.async false
set_option linter.all false
set_option maxRecDepth 100000
namespace L2
open PySem PySem.Spec PyProof.Rows PySem.SeqAt PySem.W
section
variable {prog:Program} {w:World} {A:Around} {E:Value->Shared->Prop} {s:Shared} {K:Type} [DecidableEq K] {knd:HeapKind prog w K}
end
section
variable {C:MC} {k:Nat} {X:Cx}
end
end L2
set_option Elab.async false
set_option linter.all false
set_option maxRecDepth 100000
namespace L2
open PySem PySem.Spec PyProof.Rows
structure ZA (z TI TO i1 i2:Addr) (f1 f2:List Addr):Prop where
 TIz:TI≠z
 TOz:TO≠z
 i1z:i1≠z
 i2z:i2≠z
 TITO:TI≠TO
 TIi1:TI≠i1
 TIi2:TI≠i2
 TOi1:TO≠i1
 TOi2:TO≠i2
 i12:i1≠i2
 a1:∀ b∈f1,b≠z/\b≠TO/\b≠i2
 a2:∀ b∈f2,b≠z/\b≠TO/\b≠i1
section
variable {prog:Program} {w:World} {A:Around} {E:Value->Shared->Prop} {s:Shared} {z TI TO i1 i2:Addr} {f1 f2:List Addr} {n1 n2:Nat} {P1 P2:Nat->Value->Prop} {S1 S2:Nat->Heap->Prop}
end
end L2
set_option Elab.async false
set_option linter.all false
set_option maxRecDepth 100000
namespace L2
open PySem PySem.Spec PyProof.Rows
section
variable {prog:Program} {w:World} {A:Around} {E:Value->Shared->Prop} {s:Shared} {z TI TO i1 i2:Addr} {f1 f2:List Addr} {n1 n2:Nat} {P1 P2:Nat->Value->Prop} {S1 S2:Nat->Heap->Prop}
end
section
variable {prog:Program} {w:World} {A:Around} {E:Value->Shared->Prop} {s:Shared}
end
end L2
set_option Elab.async false
set_option linter.all false
set_option maxRecDepth 100000
namespace L2
open PySem PySem.Spec PyProof.Rows
end L2
set_option Elab.async false
set_option linter.all false
set_option maxRecDepth 100000
namespace L2
open PySem PySem.Spec PyProof.Rows
section
variable {C:MC} {k:Nat} {X:Cx}
end
end L2
set_option Elab.async false
set_option linter.all false
set_option maxRecDepth 100000
namespace L2
open PySem PySem.Spec PyProof.Rows
section
variable {prog:Program} {w:World} {A:Around} {E:Value->Shared->Prop} {s:Shared} {v dc it:Addr} {oc:Obj} {es:Array DictEntry} {ep:Nat} {ok ov f0:Value} {f1:Bool}
end
end L2
set_option Elab.async false
set_option linter.all false
set_option maxRecDepth 100000
namespace L2
open PySem PySem.Spec PyProof.Rows
section
variable {C:MC} {k:Nat} {X:Cx} {pins:List (Addr×Obj)} {σ:St} {H:Hp} {s:Shared} {φ:List Addr}
end
end L2
set_option Elab.async false
set_option linter.all false
set_option maxRecDepth 100000
namespace L2
open PySem PySem.Spec PyProof.Rows
structure Prs (es:Array DictEntry) (lo:Addr) (h:Heap) (as:List Addr):Prop where
 above:∀ a∈as,lo < a
 rise:as.Pairwise (· < ·)
 pairs:∀ (j:Nat) a,as[j]?=some a->∃ e,es[j]?=some e/\h.get? a=some { cls:=.type "tuple",data:=.seq #[e.key,e.val] }
section
variable {prog:Program} {w:World} {A:Around} {s:Shared} {es:Array DictEntry} {ep:Nat} {oc:Obj} {R:Result->Shared->Prop}
end
end L2
set_option Elab.async false
set_option linter.all false
set_option maxRecDepth 100000
namespace L2
open PySem PySem.Spec PyProof.Rows PySem.W
section
variable {prog:Program} {w:World} {A:Around} {E:Value->Shared->Prop} {s:Shared} {es:Array DictEntry} {ep:Nat} {oc:Obj} {r d:Addr}
end
end L2
set_option Elab.async false
set_option linter.all false
set_option maxRecDepth 100000
namespace L2
open PySem PySem.Spec PyProof.Rows PySem.W
section
variable {prog:Program} {w:World} {A:Around} {E:Value->Shared->Prop} {s:Shared} {es:Array DictEntry} {ep:Nat} {oc:Obj} {r d:Addr}
end
end L2
set_option Elab.async false
set_option linter.all false
set_option maxRecDepth 100000
namespace L2
open PySem PySem.Spec PyProof.Rows PySem.W
section
variable {X:Cx} {pins:List (Addr×Obj)} {σ:St} {H:Hp} {s:Shared} {h':Heap}
end
section
variable {C:MC} {k:Nat} {X:Cx} {φ:List Addr} {H:Hp}
end
end L2
set_option Elab.async false
set_option linter.all false
set_option maxRecDepth 100000
namespace L2
open PySem PySem.Spec PyProof.Rows PySem.W
section
variable {C:MC} {k:Nat} {X:Cx}
def vL (h:PH) (n:Nat):Option (List PV):=match h[n]? with
 | some (.vw 0 d)=>match h[d]? with
  | some o=>sY o
  | none=>none
 | _=>none
end
end L2
set_option Elab.async false
set_option linter.all false
set_option maxRecDepth 100000
namespace L2
open PySem PySem.Spec PyProof.Rows PySem.SeqAt PySem.W
def zR (x:PV) (h:PH):Option (List PV):=match x with
 | .ref n=>match bG h n with
  | some ys=>some ys
  | none=>vL h n
 | .fl ys=>some ys
 | _=>none
noncomputable def pB (f:Fn) (b:Bool) (kb:Nat) (x:PV) (h:PH):Rs PV:=match zR x h with
 | some ys=>if ys.length < 1000000 then iR f b kb ys ys [] h else .bad
 | none=>.bad
noncomputable def vM (f:Fn) (b:Bool) (kb:Nat) (me:Me):Me:=fun δ h=>(me δ h).bind fun x h1=>pB f b kb x h1
section
variable {C:MC} {k:Nat} {X:Cx}
section
variable {x:Str} {st:Stmt} {q:Addr} {fd:FuncData} {pn:List Str} {j:Nat} {f:Fn}
end
section
variable {kf:Str} {st:Stmt} {q:Addr} {fd:FuncData} {pn:List Str} {j jb:Nat} {f:Fn} {e:Expr} {me:Me} {p pos kp kpos rp rpos:Pos}
end
end
section
variable {α:Type}
end
section
variable {δ:Ev} {h:PH} {m:Me}
@[simp] theorem zS {f:Fn} {b:Bool} {n:Nat}:vM f b n m δ h=(m δ h).bind fun x h1=>pB f b n x h1:=(rfl)
end
end L2
set_option Elab.async false
set_option linter.all false
set_option maxRecDepth 100000
namespace L2
open PySem PySem.Spec PyProof.Rows PySem.W
section
variable {C:MC} {k:Nat} {X:Cx}
end
end L2
set_option Elab.async false
set_option linter.all false
set_option maxRecDepth 100000
namespace L2
open PySem PySem.Spec PyProof.Rows PySem.W
section
variable {C:MC} {k:Nat} {X:Cx}
def wY:Ms:=fun _ _=>.bad
theorem BO {st:Stmt}:SSt C k X st wY:=fun c _ _ σ H _ I h=>by
 obtain ⟨φ,δ,h,rh,re,p⟩:=h
 exact p.elim
end
end L2
set_option Elab.async false
set_option linter.all false
set_option maxRecDepth 100000
namespace L2
open PySem PySem.Spec PyProof.Rows
section
variable {prog:Program} {w:World} {K:Type} [DecidableEq K] {knd:HeapKind prog w K} {A:Around} {R:Result->Shared->Prop}
end
section
variable {C:MC} {k:Nat} {X:Cx} {φ:List Addr} {H:Hp} {pins:List (Addr×Obj)} {σ:St} {s:Shared}
end
end L2
set_option Elab.async false
set_option linter.all false
set_option maxRecDepth 100000
namespace L2
open PySem PySem.Spec PyProof.Rows
abbrev xo (a:Addr) (p:Obj->Prop):HO:=.ext fun h=>∃ o,h.get? a=some o/\p o
theorem sZ {P:Program} {w:World} {H:Hp} {h:Heap} {a:Addr} {p:Obj->Prop} (e:∃ o,h.get? a=some o/\p o):bS P w H h a (xo a p):=
 ⟨e,let ⟨o,q,_⟩:=e; ⟨o,q⟩,fun _ _ ⟨o,q,r⟩ k=>⟨o,k o q,r⟩⟩
section
variable {X:Cx} {pins:List (Addr×Obj)} {σ:St} {H:Hp} {s:Shared} {a:Addr} {p q:Obj->Prop} {o:Obj} {f:Obj->Obj}
theorem Inv.xo (I:Inv X pins σ H s) (h:H a=some (xo a p)):∃ o,s.heap.get? a=some o/\p o:=(I.hok _ _ h).1
theorem Inv.xoNew {t':Nat} (I:Inv X pins σ H s) (ho:q o) (hf:o.isFreed=false):Inv X pins σ (upd H s.heap.objs.size (L2.xo s.heap.objs.size q)) { s with heap:=s.heap.push o,toks:=t' }:=
 I.laid (fun b u e=>Heap.get?_push_of_some _ e) (Nat.le_refl _) (sZ ⟨o,Heap.get?_push_size _ hf,ho⟩)
theorem Inv.xoPut {t':Nat} (I:Inv X pins σ H s) (h:H a=some (L2.xo a p)) (e:s.heap.get? a=some o) (hf:(f o).isFreed=false) (hq:q (f o)):Inv X pins σ (upd H a (L2.xo a q)) { s with heap:=s.heap.update a f,toks:=t' }:=
 I.write (by rw [h]; trivial) (.inl rfl) (fun b u n e=>(Heap.get?_update_other _ _ (Ne.symm n)).trans e) ⟨_,Heap.get?_update_self _ e hf⟩ (sZ ⟨_,Heap.get?_update_self _ e hf,hq⟩)
theorem Inv.slots {h1:Heap} (I:Inv X pins σ H s) (hs:Heap.SlotsOnly (frs X.stack) s.heap h1):Inv X pins σ H { s with heap:=h1 }:=by
 refine I.call (h':=h1) (g':=s.gens) (d':=s.drawn) (t':=s.toks) (ch:=[]) ⟨fun b o e n nf _=>(hs.2.1 b nf).trans e,fun b o e n _ _=>hs.2.2 b o e,fun _ _ _ n _=>n,fun b o e _=>let ⟨sl,q⟩:=hs.2.2 b o e; ⟨_,q⟩,fun _ _ e=>e,fun _ _ _ e=>e,fun b ps e=>⟨#[],by rw [e]; simp⟩⟩ (fun b o e=>?_) I.bare (fun b z=>absurd z (by simp))
 refine (I.hok b o e).stay (fun c v hc q=>(hs.2.1 c fun z=>?_).trans q) (fun _ q=>q) fun _ _ q=>q
 have:=I.stkFree c z
 rcases hc with rfl | hc
 ·rw [e] at this; cases this
 ·rw [hc] at this; cases this
end
def pE (C:Addr) (dx:Option Addr) (tb:Value):Obj->Prop:=fun o=>o.cls=.ref C/\o.dict=dx/\∃ vs,o.data=.fields vs/\vs[1]?=some tb
def pT (fl:Value):Obj->Prop:=fun o=>∃ ts,o.data=.fields ts/\ts[3]?=some fl
theorem pE.put {C:Addr} {dx:Option Addr} {tb v:Value} {o:Obj} (h:pE C dx tb o):pE C dx v (o.mapFields (·.setIfInBounds 1 v))/\(o.mapFields (·.setIfInBounds 1 v)).isFreed=false:=by
 obtain ⟨h1,h2,vs,h3,h4⟩:=h
 have hd:=Obj.data_mapFields h3 (·.setIfInBounds 1 v)
 refine ⟨⟨(Obj.cls_mapFields _ _).trans h1,?_,_,hd,?_⟩,Obj.isFreed_of_fields hd⟩
 ·obtain ⟨oc,od,oda,osl⟩:=o
  cases h3
  exact h2
 ·have:=(Array.getElem?_eq_some_iff.mp h4).1
  simp [this]
theorem pT.put {fl v:Value} {o:Obj} (h:pT fl o):pT v (o.mapFields (·.setIfInBounds 3 v))/\(o.mapFields (·.setIfInBounds 3 v)).isFreed=false:=by
 obtain ⟨vs,h3,h4⟩:=h
 have hd:=Obj.data_mapFields h3 (·.setIfInBounds 3 v)
 have:=(Array.getElem?_eq_some_iff.mp h4).1
 exact ⟨⟨_,hd,by simp [this]⟩,Obj.isFreed_of_fields hd⟩
section
variable {X:Cx} {pins:List (Addr×Obj)} {σ:St} {H:Hp} {s:Shared} {M:Model} {A:Around} {E:Value->Shared->Prop} {e C:Addr} {dx:Option Addr} {tb:Value}
def Tb (H:Hp) (e:Addr) (tb fl:Value):Prop:=tb=.none\/∃ T,tb=.ref T/\T≠e/\H T=some (xo T (pT fl))
theorem tD {head:Value} {b:Bool} {Q:Unit->Shared->Prop} (I:Inv X pins σ H s) (hA:A.frames=some X.stack) (hst:X.stack=X.env :: X.outer) (hf:X.env.frame=some X.env.locals) (he:H e=some (xo e (pE C dx tb)))
  (h:∀ s' T,Inv X pins σ (upd (upd H T (xo T (pT (rawInt X.env.locals)))) e (xo e (pE C dx (.ref T)))) s'->H T=none->Q () s'):
  wpAny M A (do let a <- frameOf X.env; let pl <- entryPlaceOf X.env.locals b; let c <- EntryCells.newEntry head a .none (rawInt X.env.locals) .none pl; setField (.ref e) 1 c) Q E s:=by
 have hl:=I.stack
 rw [hst] at hl hA
 refine wpAny_bind (wpAny_frameOf_fun hA hl hf fun h₁ hs₁=>?_)
 have I1:=I.slots (h1:=h₁) (by unfold frs; rw [hst]; exact hs₁)
 refine wpAny_bind (wpAny_entryPlaceOf fun pl hpl=>?_)
 unfold EntryCells.newEntry newFields
 refine wpAny_bind (wpAny_newObj_type ?_ (hpl.sizeOk5 _ _ _ _ _))
 have I2:=I1.xoNew (t':=s.toks) (q:=pT (rawInt X.env.locals)) (o:={ cls:=.type "traceback",dict:=none,data:=.fields ([head,.ref X.env.locals,.none,rawInt X.env.locals,.none]++(if pl.isEmpty then List.replicate 6 Value.none else pl)).toArray }) ⟨_,rfl,by first | (simp; done) | (rcases hpl with rfl | ⟨_,_,_,_,_,_,_,rfl⟩ <;> simp)⟩ rfl
 have hne:e≠h₁.objs.size:=fun z=>by have:=I1.fresh; rw [<- z,he] at this; cases this
 have he2:upd H h₁.objs.size (xo h₁.objs.size (pT (rawInt X.env.locals))) e=some (xo e (pE C dx tb)):=by rw [aK hne]; exact he
 obtain ⟨oe,q1,q2⟩:=I2.xo he2
 obtain ⟨z1,z2,vs,z3,z4⟩:=id q2
 refine wpAny_setField q1 z3 (Array.getElem?_eq_some_iff.mp z4).1 ?_
 exact h _ _ (I2.xoPut (t':=s.toks) he2 q1 q2.put.2 q2.put.1) I1.fresh
theorem vN {Q:Unit->Shared->Prop} (I:Inv X pins σ H s) (hA:A.frames=some X.stack) (hst:X.stack=X.env :: X.outer) (hf:X.env.frame=some X.env.locals) (he:H e=some (xo e (pE C dx tb))) (ht:Tb H e tb .none)
  (h:∀ s' H' T,Inv X pins σ H' s'->H' e=some (xo e (pE C dx (.ref T)))->H' T=some (xo T (pT (rawInt X.env.locals)))->T≠e->H T=none->(∀ b,b≠e->b≠T->tb≠.ref b->H' b=H b)->Q () s'):
  wpAny M A (noteFrame (.ref e) X.env) Q E s:=by
 obtain ⟨oe,q1,q2⟩:=I.xo he
 obtain ⟨z1,z2,vs,z3,z4⟩:=id q2
 unfold noteFrame
 simp only [hf]
 refine wpAny_bind (wpAny_field q1 z3 z4 ?_)
 have fin:∀ (H1:Hp) (s1:Shared),Inv X pins σ H1 s1->H1 e=some (xo e (pE C dx tb))->(∀ b,tb≠.ref b->H1 b=H b)->(∀ b,H1 b=none->H b=none)->∀ b,wpAny M A (do let a <- frameOf X.env; let pl <- entryPlaceOf X.env.locals b; let c <- EntryCells.newEntry tb a .none (rawInt X.env.locals) .none pl; setField (.ref e) 1 c) Q E s1:=fun H1 s1 I1 he1 k n b=>
  tD I1 hA hst hf he1 fun s' T I' hT=>by
   have hne:T≠e:=fun z=>by rw [z,he1] at hT; cases hT
   exact h s' _ T I' aV (by rw [aK hne,aV]) hne (n T hT) fun b h1 h2 h3=>by rw [aK h1,aK h2,k b h3]
 rcases ht with rfl | ⟨T,rfl,hne,hT⟩
 ·rw [if_neg (by decide)]
  exact fin H s I he (fun _ _=>rfl) (fun _ e=>e) _
 ·rw [if_pos (show (Value.ref T != Value.none)=true from by simp)]
  obtain ⟨oT,y1,y2⟩:=I.xo hT
  obtain ⟨ts,y3,y4⟩:=id y2
  refine wpAny_bind (wpAny_field y1 y3 y4 ?_)
  rw [if_neg (show ¬ ((Value.none == rawInt X.env.locals)=true) from by simp [rawInt])]
  refine wpAny_bind (wpAny_setField y1 y3 (Array.getElem?_eq_some_iff.mp y4).1 ?_)
  refine fin _ _ (I.xoPut (t':=s.toks) hT y1 y2.put.2 y2.put.1) (by rw [aK (Ne.symm hne)]; exact he) (fun b hb=>aK fun z=>hb (by rw [z])) (fun b hb=>?_) _
  by_cases z:b=T
  ·rw [z,aV] at hb; cases hb
  ·rw [aK z] at hb; exact hb
theorem qS {fl:Value} {Q:Unit->Shared->Prop} {T:Addr} (I:Inv X pins σ H s) (he:H e=some (xo e (pE C dx (.ref T)))) (hne:T≠e) (hT:H T=some (xo T (pT fl)))
  (h:∀ s' H',Inv X pins σ H' s'->H' e=some (xo e (pE C dx (.ref T)))->H' T=some (xo T (pT .none))->(∀ b,b≠T->H' b=H b)->Q () s'):
  wpAny M A (setFlight (.ref e) none) Q E s:=by
 obtain ⟨oe,q1,q2⟩:=I.xo he
 obtain ⟨z1,z2,vs,z3,z4⟩:=id q2
 obtain ⟨oT,y1,y2⟩:=I.xo hT
 obtain ⟨ts,y3,y4⟩:=id y2
 unfold setFlight
 refine wpAny_bind (wpAny_field q1 z3 z4 ?_)
 rw [if_pos (show (Value.ref T != Value.none)=true from by simp)]
 refine wpAny_setField y1 y3 (Array.getElem?_eq_some_iff.mp y4).1 (h _ _ (I.xoPut (t':=s.toks) hT y1 y2.put.2 y2.put.1) ?_ aV fun b hb=>aK hb)
 rw [aK (Ne.symm hne)]
 exact he
end
end L2
set_option Elab.async false
set_option linter.all false
set_option maxRecDepth 100000
namespace L2
open PySem PySem.Spec PyProof.Rows
abbrev bmV:List Value:=[.type "ValueError",.type "Exception",.type "BaseException",.type "object"]
structure XCl (K:PySem.W.Frag) (C fI:Addr):Prop where
 ob:∃ nm q N bs M sn sub ab col dd k0 k1 k2 k3 k5,K.lookup C=some (excClassObj nm q C N bs (.ref M :: bmV) true sn sub ab col dd k0 k1 k2 k3 k5 "ValueError.__new__")/\PySem.W.tailIn K bmV (.ref M :: bmV)=true
 init:PySem.W.findIn K (.ref C) "__init__" = some (some (.ref fI))
 fn:PySem.W.typeIn K (.ref fI)=some (.type "function")
 kp:PySem.W.keepIn K (.ref C)=true
 sa:PySem.W.findIn K (.ref C) "__setattr__" = some (some (.builtin "object.__setattr__"))
 ga:PySem.W.findIn K (.ref C) "__getattribute__" = some (some (.builtin "BaseException.__getattribute__"))
 gt:PySem.W.findIn K (.ref C) "__getattr__" = some none
def pD (f:Str) (v:V):Obj->Prop:=fun o=>∃ u,RelV v u/\PySem.W.lookIn f o=some (some u)
section
variable {prog:Program} {w:World} {A:Around} {E:Value->Shared->Prop} {h:Heap} {g:Array GenState} {d:Drawn} {t:Nat} {os:OsState} {K:PySem.W.Frag} {C fI:Addr}
abbrev tE (rest:List Value):Obj:={ cls:=.type "tuple",data:=.seq rest.toArray }
abbrev qT (C t:Addr):Obj:={ cls:=.ref C,data:=.fields #[.ref t,.none,.none,.none,.bool false,.none] }
theorem nR {rest:List Value} {Q:Fin->Shared->Prop} (X:K.In h) (c:XCl K C fI) (hrest:rest.length<=sizeLine)
  (hq:wpAny (model prog w) A (call (.ref fI) (.ref (h.objs.size+1) :: rest)) (fun r s'=>r=.none/\Q (.done (.ret (.ref (h.objs.size+1)))) s') E ⟨(h.push (tE rest)).push (qT C h.objs.size),g,d,t,os⟩):
  wpAny (model prog w) A (Builtin.«type.__call__» ⟨.ref C :: rest,[]⟩) Q E ⟨h,g,d,t,os⟩:=by
 obtain ⟨nm,q,N,bs,M,sn,sub,ab,col,dd,k0,k1,k2,k3,k5,ho,ht⟩:=c.ob
 have hC:=X _ _ ho
 have T:=PySem.W.tail_of_in X ht
 repeat (first | with_reducible refine wpAny_loadPart_at hC ?_ | with_reducible refine wpAny_madeBy_exc hC ?_ | wp_step)
 refine codeAny_call_builtin_code (Code.quiet_builtin _ PySem.F.excBase_ValueError.quiet) (wpAny_check_new_subT PySem.F.excBase_ValueError T hC ?_)
 refine codeAny_exc_new_subT PySem.F.excBase_ValueError T hC ?_ hrest
 show wpAny _ _ _ _ _ _
 have k:∀ b o,h.get? b=some o->((h.push (tE rest)).push (qT C h.objs.size)).get? b=some o:=fun b o e=>Heap.get?_push_of_some _ (Heap.get?_push_of_some _ e)
 have X1:=X.keeps k
 have hC₁:=k _ _ hC
 have hget:((h.push (tE rest)).push (qT C h.objs.size)).get? (h.objs.size+1)=some (qT C h.objs.size):=by heap_get
 have hcC:(Value.ref C :: .ref M :: bmV).contains (.ref C)=true:=by simp
 unfold isInstance
 repeat (first | with_reducible refine wpAny_loadPart_at hget ?_ | (with_reducible refine wpAny_isSubtype_exc hC₁ ?_; rw [hcC]) | wp_step)
 show wpAny _ _ (typeLookup (.ref C) _) _ _ _
 refine (PySem.W.looks_findIn X1 c.init).at ?_
 refine wpAny_holding (wpAny_bind ((PySem.W.bind_fn X1 _ c.fn).at ?_))
 refine wpAny_bind (wpAny_mono hq (fun r s' hr=>?_) fun _ _ x=>x)
 obtain ⟨rfl,hQ⟩:=hr
 wp_walk
 exact hQ
theorem x_call {rest:List Value} {Q:Value->Shared->Prop} (X:K.In h) (c:XCl K C fI) (hrest:rest.length<=sizeLine)
  (hq:wpAny (model prog w) (A.under (.builtin "type.__call__" ⟨.ref C :: rest,[]⟩)) (call (.ref fI) (.ref (h.objs.size+1) :: rest)) (fun r s'=>r=.none/\Q (.ref (h.objs.size+1)) s') E ⟨(h.push (tE rest)).push (qT C h.objs.size),g,d,t,os⟩):
  wpAny (model prog w) A (call (.ref C) rest) Q E ⟨h,g,d,t,os⟩:=by
 obtain ⟨nm,q,N,bs,M,sn,sub,ab,col,dd,k0,k1,k2,k3,k5,ho,ht⟩:=c.ob
 have hC:=X _ _ ho
 have f1:=tc_lookup
 have f2:=tc_bind (.ref C)
 have hT:(⟨h,g,d,t,os⟩:Shared).TypeIs (.ref C) "type" := ⟨_,hC,rfl⟩
 refine wpAny_call (codeAny_of_tree ?_)
 show wpAny _ _ (callAny (.ref C) _) _ _ _
 repeat (any_goals (first | assumption | with_reducible refine wpAny_loadPart_at hC ?_ | wp_step))
 refine ⟨rfl,?_⟩
 refine codeAny_call_builtin_at (Code.quiet_builtin _ (by decide +kernel)) entry_typeCall (wpAny_check_type_call_sub hC (nR X c hrest ?_))
 exact hq
end
theorem Dk {H:Hp} {a b:Addr} {x y z:HO} (h:a≠b):upd (upd (upd H a x) b y) a z=upd (upd H a z) b y:=by
 funext c
 by_cases h1:c=a
 ·subst h1; rw [aV,aK h,aV]
 ·rw [aK h1]
  by_cases h2:c=b
  ·subst h2; rw [aV,aV]
  ·rw [aK h2,aK h1,aK h2,aK h1]
section
variable {X:Cx} {pins:List (Addr×Obj)} {σ:St} {H:Hp} {s:Shared} {A:Around} {E:Value->Shared->Prop} {e C fI:Addr}
theorem XCl.cls {K:PySem.W.Frag} (c:XCl K C fI):∃ M cd,PySem.W.clsIn K C=some cd/\cd.mro=.ref C :: .ref M :: bmV/\cd.hasDict=true:=by
 obtain ⟨nm,q,N,bs,M,sn,sub,ab,col,dd,k0,k1,k2,k3,k5,ho,ht⟩:=c.ob
 exact ⟨M,_,by unfold PySem.W.clsIn; rw [ho],rfl,rfl⟩
theorem BP {name:Str} {Q:Unit->Shared->Prop} {y:V} {u:Value} (I:Inv X pins σ H s) (he:H e=some (xo e (pE C none .none))) (xc:XCl X.K C fI) (nt:PySem.W.takerIn X.K C name=some none) (ry:RelV y u)
  (h:∀ s' dx,H dx=none->dx≠e->Inv X pins σ (upd (upd H dx (xo dx (pD name y))) e (xo e (pE C (some dx) .none))) s'->Q () s'):wpAny (model X.prog X.w) A (setAttr (.ref e) name u) Q E s:=by
 obtain ⟨oe,q1,q2⟩:=I.xo he
 obtain ⟨z1,z2,vs,z3,z4⟩:=id q2
 obtain ⟨M,cd,hc,hm,hd⟩:=xc.cls
 have J:PySem.W.InstAt s.heap e oe C none:=⟨q1,z1,by unfold PySem.W.notCls; rw [z3],by rw [z2]; trivial⟩
 refine PySem.W.set_plain I.kIn J xc.sa ?_
 have SF:=PySem.F.store_object
 have sub:PySem.W.Looks (model X.prog X.w) s.heap (isInstance (.ref e) (.type "object")) true:=J.type.andThen (PySem.W.looks_mroIn I.kIn (by unfold PySem.W.mroIn; rw [hc,Option.bind_some,hm]; rfl))
 refine codeAny_call_builtin SF.slot.plain SF.entry (@PySem.W.check_slot (model X.prog X.w) _ _ _ "object.__setattr__" "object" "__setattr__" (.ref e) [.str name s.toks,u] [] _ SF.kind SF.split sub (SF.args (.ref e) (.str name s.toks) u) ?_)
 obtain ⟨attr,ha,hr⟩:=Option.bind_eq_some_iff.mp nt
 have hmr:PySem.W.Looks (model X.prog X.w) s.heap (mroOf (.ref C)) cd.mro:=(PySem.W.looks_clsIn I.kIn hc).andThen .now
 have L3:PySem.W.Looks (model X.prog X.w) s.heap (Builtin.ObjectAttr.storeTaker? attr) none:=by
  cases attr with
  | none=>exact .now
  | some a=>
   obtain ⟨b,hb,hb2⟩:=Option.map_eq_some_iff.mp hr
   refine (PySem.W.looks_takesIn I.kIn hb).andThen ?_
   cases b
   ·exact .now
   ·cases hb2
 rw [PySem.W.osa_eq,refuse_eq]
 refine wpAny_bind (wpAny_bind (J.type.at (wpAny_bind (hmr.at ?_))))
 rw [hm,refuseLoop_ref,refuseLoop_ref,PySem.F.store_ValueError.passes]
 refine wpAny_pure (wpAny_bind (J.type.at (wpAny_bind ((PySem.W.looks_findIn I.kIn ha).at (wpAny_bind (L3.at ?_))))))
 obtain ⟨oc,odi,oda,osl⟩:=oe
 dsimp only at z1 z2 z3
 subst z1 z2 z3
 refine wpAny_bind (wpAny_pure (wpAny_bind (wpAny_bind (wpAny_loadPart q1 (wpAny_bind ((PySem.W.looks_clsIn I.kIn hc).at ?_))))))
 rw [hd]
 rw [if_neg (by decide)]
 dsimp only
 rw [if_neg (by simp [typeHasDict])]
 have hf:=I.fresh
 have hxs:e≠s.heap.objs.size:=fun z=>by rw [<- z,he] at hf; cases hf
 refine wpAny_bind (wpAny_alloc' ?_)
 refine wpAny_bind (wpAny_update' (Heap.get?_push_of_some _ q1) ?_)
 refine wpAny_pure ?_
 have I1:=I.xoNew (t':=s.toks+1) (q:=fun _=>True) (o:={ cls:=.type "dict",data:=.dict #[] }) trivial rfl
 have I2:=I1.xoPut (t':=s.toks+1) (q:=pE C (some s.heap.objs.size) .none) (f:=fun o=>{ cls:=o.cls,dict:=some s.heap.objs.size,data:=o.data,slots:=o.slots }) (by rw [aK hxs]; exact he) (Heap.get?_push_of_some _ q1) rfl ⟨rfl,rfl,vs,rfl,z4⟩
 have hnd:((s.heap.push { cls:=.type "dict",data:=.dict #[] }).update e fun o=>{ cls:=o.cls,dict:=some s.heap.objs.size,data:=o.data,slots:=o.slots }).Ns s.heap.objs.size (fun _=>none):=
  ⟨_,#[],_,(Heap.get?_update_ne _ _ _ _ hxs.symm).trans (Heap.get?_push_at rfl rfl),rfl,fun e he=>absurd he (by simp),fun _=>rfl⟩
 show wpAny _ _ (Builtin.ObjectAttr.storeInDict s.heap.objs.size (.str name _) name u) _ _ _
 unfold Builtin.ObjectAttr.storeInDict Builtin.ObjectAttr.newKeyGuard
 refine wpAny_bind (wpAny_pure (wpAny_bind (wpAny_nsSet1 (Heap.Ns1.of_empty hnd) fun h' hn' hs=>?_)))
 obtain ⟨oD,esD,epD,hoD,hdD,hcD⟩:=hn'.count (Within.cons name u Within.nil)
 refine wpAny_bind (wpAny_lookBehind hoD (by rw [hdD]; exact pastItsLine_dict (Nat.le_trans hcD (by rw [List.length_cons,List.length_nil,sizeLine_eq]; omega))) ?_)
 refine wpAny_pure (h _ s.heap.objs.size hf hxs.symm ?_)
 have hd2:upd (upd H s.heap.objs.size (xo s.heap.objs.size fun _=>True)) e (xo e (pE C (some s.heap.objs.size) .none)) s.heap.objs.size=some (xo s.heap.objs.size fun _=>True):=by rw [aK hxs.symm,aV]
 have I3:=I2.write (x:=s.heap.objs.size) (e:=s.heap.objs.size) (o:=xo s.heap.objs.size (pD name y)) (h':=h') (t':=s.toks+1+1) (by rw [hd2]; trivial) (.inl rfl) (fun b u n e=>(hs.2 b n).trans e) ⟨oD,hoD⟩ (sZ ?_)
 ·rw [Dk hxs.symm] at I3
  exact I3
 ·obtain ⟨o,es,ep,e1,e2,e3,e4,e5⟩:=hn'
  refine ⟨o,e1,u,ry,?_⟩
  have e6:nsFind es name=some u:=(e5 name).trans (if_pos rfl)
  unfold nsFind findBy at e6
  rw [<- Array.find?_toList] at e6
  unfold PySem.W.lookIn
  rw [e2]
  dsimp only
  cases q:es.toList.find? (·.key.isStr name) with
  | none=>rw [q] at e6; cases e6
  | some en=>rw [q] at e6; cases e6; rfl
end
end L2
set_option Elab.async false
set_option linter.all false
set_option maxRecDepth 100000
namespace L2
open PySem PySem.Spec PyProof.Rows
structure Fly (C:Addr) (f:Str) (v:V) (H H':Hp) (e dx:Addr) (tb fl:Value):Prop where
 ne:H e=none
 nd:H dx=none
 dn:dx≠e
 at':H' e=some (xo e (pE C (some dx) tb))
 dt:H' dx=some (xo dx (pD f v))
 tr:tb=.none\/∃ T,tb=.ref T/\T≠e/\T≠dx/\H T=none/\H' T=some (xo T (pT fl))
 same:∀ b,H b≠none->H' b=H b
section
variable {X:Cx} {pins:List (Addr×Obj)} {σ:St} {H H0:Hp} {s:Shared} {M:Model} {A:Around} {E:Value->Shared->Prop} {e C dx fI:Addr} {tb fl:Value} {f:Str} {v:V}
theorem Fly.nn (F:Fly C f v H0 H e dx tb fl) {b:Addr} (h:H b=none):H0 b=none:=by
 cases q:H0 b with
 | none=>rfl
 | some o=>rw [<- h,F.same b (by rw [q]; exact fun z=>nomatch z),q]
theorem Fly.note {Q:Unit->Shared->Prop} (F:Fly C f v H0 H e dx tb .none) (I:Inv X pins σ H s) (hA:A.frames=some X.stack) (hst:X.stack=X.env :: X.outer) (hf:X.env.frame=some X.env.locals)
  (h:∀ s' H' T,Inv X pins σ H' s'->Fly C f v H0 H' e dx (.ref T) (rawInt X.env.locals)->Q () s'):wpAny M A (noteFrame (.ref e) X.env) Q E s:=by
 refine vN I hA hst hf F.at' (F.tr.imp id fun ⟨T,h1,h2,_,_,h3⟩=>⟨T,h1,h2,h3⟩) fun s' H' T I' h1 h2 h3 h4 h5=>h s' H' T I' ⟨F.ne,F.nd,F.dn,h1,?_,.inr ⟨T,rfl,h3,fun z=>?_,F.nn h4,h2⟩,fun b hb=>?_⟩
 ·rw [h5 dx F.dn (fun z=>by rw [<- z,F.dt] at h4; cases h4) ?_]
  ·exact F.dt
  ·rcases F.tr with z | ⟨T',z,_,z2,_⟩
   ·rw [z]; exact fun q=>nomatch q
   ·rw [z]; exact fun q=>z2 (by cases q; rfl)
 ·rw [z,F.dt] at h4; cases h4
 ·rw [h5 b (fun z=>hb (by rw [z]; exact F.ne)) (fun z=>hb (by rw [z]; exact F.nn h4)) ?_]
  ·exact F.same b hb
  ·rcases F.tr with z | ⟨T',z,_,_,z3,_⟩
   ·rw [z]; exact fun q=>nomatch q
   ·rw [z]; exact fun q=>hb (by cases q; exact z3)
theorem Fly.flight {Q:Unit->Shared->Prop} {T:Addr} (F:Fly C f v H0 H e dx (.ref T) fl) (I:Inv X pins σ H s)
  (h:∀ s' H',Inv X pins σ H' s'->Fly C f v H0 H' e dx (.ref T) .none->Q () s'):wpAny M A (setFlight (.ref e) none) Q E s:=by
 rcases F.tr with z | ⟨T',z,h1,h2,h3,h4⟩
 ·cases z
 ·cases z
  exact qS I F.at' h1 h4 fun s' H' I' q1 q2 q3=>h s' H' I' ⟨F.ne,F.nd,F.dn,q1,(q3 dx (Ne.symm h2)).trans F.dt,.inr ⟨T,rfl,h1,h2,h3,q2⟩,fun b hb=>(q3 b fun z=>hb (by rw [z]; exact h3)).trans (F.same b hb)⟩
theorem Fly.leave {Q:Unit->Shared->Prop} (F:Fly C f v H0 H e dx tb .none) (I:Inv X pins σ H s) (hA:A.frames=some X.stack) (hst:X.stack=X.env :: X.outer) (hf:X.env.frame=some X.env.locals)
  (h:∀ s' H' T,Inv X pins σ H' s'->Fly C f v H0 H' e dx (.ref T) .none->Q () s'):wpAny M A (leaving X.env (.ref e)) Q E s:=by
 unfold leaving
 exact wpAny_bind (F.note I hA hst hf fun s1 H1 T I1 F1=>F1.flight I1 fun s2 H2 I2 F2=>h s2 H2 T I2 F2)
end
def CX1 (P:Program) (w:World):CXT:=fun outer H s E x s'=>∃ dx H',s'.os=s.os/\AllBare s'.gens/\Un (frs outer) [] H H' s.heap s'.heap/\HOk P w H' s'.heap/\E x (some dx) H'
theorem BQ {P:Program} {w:World} {K:PySem.W.Frag} {mg:Str->Option Value} {base:Heap} {N:List Str} {qual:Str} {scope:Scope} {f:Addr} {cd:Value} {A:Around} {outer:List Env} {s s':Shared} {H H0 H1:Hp} {E:XK} {pins:List (Addr×Obj)} {σ:St} {C e dx:Addr} {g:Str} {v:V}
  (I:Inv (gY (CX1 P w) P w K mg base N qual scope f cd A outer s H E) pins σ H1 s') (F:Fly C g v H0 H1 e dx .none .none) (hE:∀ H2 T,Fly C g v H0 H2 e dx (.ref T) .none->E (.ref e) (some dx) H2):(gY (CX1 P w) P w K mg base N qual scope f cd A outer s H E).xe (.ref e) s':=
 F.leave I I.ok.frames rfl rfl fun s2 H2 T I2 F2=>⟨dx,H2,I2.os,I2.bare,I2.base,I2.hok,hE H2 T F2⟩
section
variable {X:Cx} {o value e₀:Expr} {ta tv:TE} {f x:Str} {pos pos' np cpos:Pos} {C fI:Addr}
def sXF (C:Addr) (f:Str) (ta tv:TE):TS:=fun D σ H=>tv σ H fun y H1=>ta σ H1 fun x H2=>∃ e,x=.ref e/\H2 e=some (xo e (pE C none .none))/\∀ dx,H2 dx=none->dx≠e->D.nx σ (upd (upd H2 dx (xo dx (pD f y))) e (xo e (pE C (some dx) .none)))
theorem vO (ha:PE X o ta) (hv:PE X value tv) (xc:XCl X.K C fI) (nt:PySem.W.takerIn X.K C f=some none) (hs:swapsWith value (some (.Attribute o f pos')) pos.line X.env=pure false:=by rfl):PS X (.Assign [.Attribute o f pos'] value pos) (sXF C f ta tv):=by
 intro pins s σ H D I h
 refine plainObj_wpAny_Assign_Attribute (thn (hv pins s σ H _ I h) fun u s1 ⟨y,H1,I1,ry,q⟩=>thn (ha pins s1 σ H1 _ I1 q) fun ov s2 hz=>?_) hs
 obtain ⟨x,H2,I2,rx,a,ex,ea,q2⟩:=hz
 subst ex
 obtain rfl:ov=Value.ref a:=rx
 exact BP I2 ea xc nt ry fun s3 dx h1 h2 I3=>⟨σ,_,I3,q2 dx h1 h2⟩
def spI (C:Addr) (f:Str):Sp:=fun vs H Q _=>∃ e v,vs=[.ref e,v]/\H e=some (xo e (pE C none .none))/\∀ dx,H dx=none->dx≠e->Q .non (upd (upd H dx (xo dx (pD f v))) e (xo e (pE C (some dx) .none)))
def zT (X:Cx) (C:Addr) (f:Str) (t:TA):TS:=fun D σ H=>t σ H fun vs H1=>∃ v,vs=[v]/\∀ pins e dx H2 s',Inv X pins σ H2 s'->Fly C f v H1 H2 e dx .none .none->X.xe (.ref e) s'
theorem x_raise {K:PySem.W.Frag} {M:Model} {A:Around} {E:Value->Shared->Prop} {env:Env} {s:Shared} {y:Sem Value} {Q:Flow->Shared->Prop} (c:XCl K C fI) (hh:A.handled=none)
  (h:wpAny M A y (fun v s₁=>∃ e oe dx,v=.ref e/\K.In s₁.heap/\s₁.heap.get? e=some oe/\pE C dx .none oe/\E (.ref e) s₁) E s):wpAny M A (raiseStmt env (some y) none) Q E s:=by
 obtain ⟨nm,q,N,bs,M,sn,sub,ab,col,dd,k0,k1,k2,k3,k5,ho,ht⟩:=c.ob
 have hcB:(Value.ref C :: .ref M :: bmV).contains (.type "BaseException")=true:=rfl
 unfold raiseStmt
 refine wpAny_bind (wpAny_mono h (fun v s₁ h₁=>?_) fun _ _ x=>x)
 obtain ⟨e,oe,dx,rfl,X,he,⟨hc,hd,vs,hv,h4⟩,hE⟩:=h₁
 obtain ⟨hp,g,d,tk,os⟩:=s₁
 have hC:=X _ _ ho
 obtain ⟨oc,od,oda,osl⟩:=oe
 dsimp only at hc hd hv
 subst hc hd hv
 repeat (first | with_reducible refine wpAny_loadPart_at he ?_ | with_reducible refine wpAny_loadPart_at hC ?_ | (with_reducible refine wpAny_isSubtype_exc hC ?_; rw [hcB]) | with_reducible refine wpAny_field he rfl h4 ?_ | wp_step)
 exact wpAny_raiseNew_none hh hE
theorem tF {k:Nat} {fd:FuncData} {ps:List Str} {t:TA} (xc:XCl X.K C fI) (F:aO X.prog X.w X.K X.mg X.base CX0 k fI fd ps (spI C f)) (hb:Binds X.K fd ps []) (hr:cQ (k+1) X.A) (hc:X.calm=true) (hg:Gl X x) (hm:X.mg x=some (.ref C)) (ha:PA X [e₀] t)
  (hdb:(x == ("__debug__" : Str))=false:=by decide) (he:starEach [e₀] X.env=[(false,eval e₀ X.env)]:=by rfl) (hpl:(backTo cpos (starEach [] X.env)).any (·.1)=false:=by rfl):
  PS X (.Raise (some (.Call (.Name x np) [e₀] [] cpos)) none pos) (zT X C f t):=by
 intro pins s σ H D I h
 rw [arm_exec_Raise]
 have go:wpAny (model X.prog X.w) X.A (eval (.Call (.Name x np) [e₀] [] cpos) X.env) (fun v s₁=>∃ e oe dx,v=.ref e/\X.K.In s₁.heap/\s₁.heap.get? e=some oe/\pE C dx .none oe/\X.xe (.ref e) s₁) X.xe s:=by
  refine wpAny_Call_Name_kw (fL I hg hm ?_ hdb)
  refine PySem.W.callWith_K (h₀:=X.base) I.ok.mod.kin xc.kp (thn (ha cpos pins s σ H _ I h) fun us s1 ⟨vs,H1,I1,r,v,ev,q⟩=>⟨I1.kIn,?_⟩) he hpl
  subst ev
  cases r with
  | @cons _ u _ us ru r=>
   cases r
   obtain ⟨hp,g,d,tk,os⟩:=s1
   have hz:[u].length<=sizeLine:=Nat.le_of_lt (qF (by simp))
   refine x_call I1.kIn xc hz ?_
   have I2:=I1.kept (t':=tk) (h':=hp.push (tE [u])) fun b o e=>Heap.get?_push_of_some _ e
   have I3:=I2.xoNew (t':=tk) (q:=pE C none .none) (o:=qT C hp.objs.size) ⟨rfl,rfl,_,rfl,rfl⟩ rfl
   have hf1:H1 (hp.objs.size+1)=none:=I1.hok.fresh (Nat.le_succ _)
   dsimp only at I3
   rw [Heap.size_push] at I3
   generalize hp.objs.size+1=ea at I3 hf1 ⊢
   have r2:aQ [V.ref ea,v] [Value.ref ea,u]:=.cons rfl (.cons ru .nil)
   have hsp:spI C f [V.ref ea,v] (upd H1 ea (xo ea (pE C none .none))) (fun z H'=>z=.non/\∃ dx,H1 dx=none/\dx≠ea/\H'=upd (upd (upd H1 ea (xo ea (pE C none .none))) dx (xo dx (pD f v))) ea (xo ea (pE C (some dx) .none))) E0:=
    ⟨ea,v,rfl,aV,fun dx h1 h2=>⟨rfl,dx,by rw [aK h2] at h1; exact h1,h2,rfl⟩⟩
   have hl:[Value.ref ea,u].length=ps.length:=by rw [<- r2.length]; exact F.len _ _ _ _ hsp
   refine wpAny_call (codeAny_mono (F.run _ X.stack _ _ ⟨[Value.ref ea,u],[]⟩ [Value.ref ea,u] _ _ E0 (hr.make C [u] []) (I3.env0.make C [u] []) (by have:=hb _ [Value.ref ea,u] I3.kIn (by simpa using hl); simpa using this) r2 hsp) fun r s' hq'=>?_)
   cases r with
   | error e=>exact hq'.elim
   | ok fl=>
    cases fl with
    | ret z=>
     obtain ⟨zv,H',I4,rv,ev,dx,h1,h2,eH⟩:=I3.after hq'
     subst ev
     have hd:H' dx=some (xo dx (pD f v)):=by rw [eH,aK h2,aV]
     have hE:H' ea=some (xo ea (pE C (some dx) .none)):=by rw [eH,aV]
     obtain ⟨oe,y1,y2⟩:=I4.xo hE
     refine ⟨rv,ea,oe,some dx,rfl,I4.kIn,y1,y2,q pins ea dx H' s' I4 ⟨hf1,h1,h2,hE,hd,.inl rfl,fun b hb=>?_⟩⟩
     have n1:b≠ea:=fun z=>hb (by rw [z]; exact hf1)
     rw [eH,aK n1,aK (fun z=>hb (by rw [z]; exact h1)),aK n1]
    | next=>exact False.elim hq'
    | brk=>exact False.elim hq'
    | cont=>exact False.elim hq'
 show wpAny (model X.prog X.w) X.A (do standAt pos; raiseStmt X.env (some (do let v <- eval (.Call (.Name x np) [e₀] [] cpos) X.env; standAt pos; pure v)) none) _ _ s
 exact wpAny_bind (wpAny_standAt (x_raise xc (I.ok.hd hc) (wpAny_bind (wpAny_mono go (fun v s₁ h₁=>wpAny_bind (wpAny_standAt (wpAny_pure h₁))) fun _ _ x=>x))))
end
end L2
set_option Elab.async false
set_option linter.all false
set_option maxRecDepth 100000
namespace L2
open PySem PySem.Spec PyProof.Rows
abbrev Cx.marked (X:Cx) (e:Addr) (E:Value->Shared->Prop):Cx:={ X with A:=X.A.mark (some (.ref e)),calm:=false,xe:=E }
section
variable {X:Cx} {pins:List (Addr×Obj)} {σ:St} {H:Hp} {s:Shared} {E:Value->Shared->Prop} {e:Addr}
theorem Cx.Ok.marked (ok:X.Ok) (e:Addr) (E:Value->Shared->Prop):(X.marked e E).Ok:=
 ⟨ok.mod,ok.kind,ok.glob,ok.blt,ok.above,ok.inj,ok.has,ok.cab,(fun z=>nomatch z),ok.frames,ok.stk,ok.exf,ok.bs,ok.bsz,ok.noex,ok.exfs,ok.funs,ok.frf⟩
theorem Inv.marked (I:Inv X pins σ H s) (e:Addr) (E:Value->Shared->Prop):Inv (X.marked e E) pins σ H s:=⟨I.ok.marked e E,I.os,I.bare,I.base,I.loc,I.cell,I.free,I.freeC,I.pin,I.hok,I.len⟩
theorem Inv.unmark (ok:X.Ok) (I:Inv (X.marked e E) pins σ H s):Inv X pins σ H s:=⟨ok,I.os,I.bare,I.base,I.loc,I.cell,I.free,I.freeC,I.pin,I.hok,I.len⟩
theorem Inv.gone {h':Heap} {t':Nat} {j:Nat} {n:Str} {m:Str->Option Value} {v:Option Value} (I:Inv X pins σ H s) (hN:X.N.Nodup) (hj:X.N[j]?=some n) (hn:s.heap.Ns X.env.locals m)
  (hl:∀ (i:Nat) (x:Str) (v:V),X.N[i]?=some x->σ[i]?=some (some v)->Vis X.env.scope x->∃ u,RelV v u/\Look X.env s.heap m x u)
  (hn':h'.Ns X.env.locals fun x=>if x=n then v else m x) (hs:Heap.SameBut X.env.locals s.heap h'):Inv X pins (σ.set j none) H { s with heap:=h',toks:=t' }:=by
 obtain ⟨oL,_,_,hoL,_⟩:=id hn
 refine ⟨I.ok,I.os,I.bare,⟨fun b o e n hb hx=>?_,fun b o e n hb hx=>?_,I.base.free,fun b o e hx=>?_,I.base.tups,I.base.frzs,I.base.tbls⟩,⟨_,hn',fun i y v' e1 e2 e3=>?_⟩,fun y c e=>?_,I.free,I.freeC,fun p hp=>?_,fun b ob e=>?_,by simpa using I.len⟩
 ·exact (hs.2 b (Nat.ne_of_lt (Nat.lt_of_lt_of_le (Heap.lt_size e) I.ok.above))).trans (I.base.keep b o e n hb hx)
 ·obtain ⟨sl,e1⟩:=I.base.slot b o e n hb hx
  exact ⟨sl,(hs.2 b (Nat.ne_of_lt (Nat.lt_of_lt_of_le (Heap.lt_size e) I.ok.above))).trans e1⟩
 ·obtain ⟨o',e1⟩:=I.base.there b o e hx
  exact ⟨o',(hs.2 b (Nat.ne_of_lt (Nat.lt_of_lt_of_le (Heap.lt_size e) I.ok.above))).trans e1⟩
 ·by_cases hi:i=j
  ·subst hi
   by_cases hlt:i < σ.length
   ·rw [List.getElem?_set_self hlt] at e2; cases e2
   ·rw [List.getElem?_eq_none (by rw [List.length_set]; omega)] at e2; cases e2
  ·rw [List.getElem?_set_ne (Ne.symm hi)] at e2
   obtain ⟨u',r',q⟩:=hl i y v' e1 e2 e3
   refine ⟨u',r',?_⟩
   rcases q with ⟨k,e⟩ | ⟨k,c,e,z⟩
   ·refine .inl ⟨k,?_⟩
    have:y≠n:=fun e=>hi (hV hN e1 (e ▸ hj))
    simp [this,e]
   ·exact .inr ⟨k,c,e,z.sameBut hs (I.cne y c e)⟩
 ·obtain ⟨w',z⟩:=I.cell y c e
  exact ⟨w',z.sameBut hs (I.cne y c e)⟩
 ·obtain ⟨e,n,ne,nf,d⟩:=I.pin p hp
  exact ⟨(hs.2 p.1 ne).trans e,n,ne,nf,d⟩
 ·refine (I.hok b ob e).stay (fun c w' hc q=>(hs.2 c ?_).trans q) (fun _ q=>q) fun _ _ q=>q
  rintro rfl
  have hf:=I.free
  rcases hc with rfl | hc
  ·rw [hf] at e; cases e
  ·rw [hf] at hc; cases hc
theorem vP {A:Around} {j:Nat} {n:Str} {pos:Pos} {Q:Unit->Shared->Prop} (I:Inv X pins σ H s) (hN:X.N.Nodup) (hj:X.N[j]?=some n) (hl:X.env.scope.names.lookup n=some .local)
  (h:∀ s',Inv X pins (σ.set j none) H s'->Q () s'):wpAny (model X.prog X.w) A (do bindName X.env n .none; unbindBehindTheSuite X.env n pos) Q E s:=by
 obtain ⟨m,hn,hlo⟩:=I.loc
 exact wpAny_nameGoes_keeps hl hn (by rw [I.ok.kind]; rfl) fun h' v hn' hs=>h _ (I.gone (t':=s.toks+1) hN hj hn hlo hn' hs)
end
structure XM (K:PySem.W.Frag) (C Mm:Addr):Prop where
 ob:∃ dd cd sl,K.lookup Mm=some ⟨.type "type",dd,.cls cd,sl⟩
 top:PySem.W.subIn K (.ref Mm) (.type "BaseException")=some true
 sub:PySem.W.subIn K (.ref C) (.ref Mm)=some true
theorem vQ {K:PySem.W.Frag} {M:Model} {A:Around} {E:Value->Shared->Prop} {s:Shared} {C Mm e:Addr} {oe:Obj} {Q:Bool->Shared->Prop} (X:K.In s.heap) (m:XM K C Mm) (he:s.heap.get? e=some oe) (hc:oe.cls=.ref C) (h:Q true s):
  wpAny M A (excMatches (.ref e) (.ref Mm)) Q E s:=by
 obtain ⟨dd,cd,sl,ho⟩:=m.ob
 have hM:=X _ _ ho
 have l1:=PySem.W.looks_subIn (M:=M) X m.top
 have l2:=PySem.W.looks_subIn (M:=M) X m.sub
 have l3:PySem.W.Looks M s.heap (isSubtype (.type "type") (.type "tuple")) false:=.of_pure tc_notTuple
 have l4:PySem.W.Looks M s.heap (typeOf (.ref e)) (.ref C):=hc ▸ (PySem.W.Looks.ld he).andThen .now
 have l5:PySem.W.Looks M s.heap (typeOf (.ref Mm)) (.type "type"):=(PySem.W.Looks.ld hM).andThen .now
 have l6:PySem.W.Looks M s.heap (isExcClass (.ref Mm)) true:=by
  unfold isExcClass isType
  exact (((PySem.W.Looks.ld hM).andThen .now).andThen l1)
 unfold excMatches isInstance
 refine wpAny_bind (wpAny_bind (l5.here (l3.here ?_)))
 refine wpAny_bind (wpAny_pure ?_)
 simp only [List.forIn_cons,List.forIn_nil]
 refine wpAny_bind (wpAny_bind (wpAny_bind (l6.here ?_)))
 refine wpAny_pure (wpAny_pure (wpAny_bind (l4.here (wpAny_bind (wpAny_bind (wpAny_bind (l2.here ?_)))))))
 exact wpAny_pure (wpAny_pure (wpAny_pure h))
def Dl (C:Addr) (f:Str) (sp:Sp) (t:TA) (jy jn:Nat):TS:=fun D σ H=>t σ H fun vs H1=>∃ E:XK,sp vs H1 (fun _ _=>False) E/\
 ∀ x d H2,E x d H2->∃ e dx T v H0,x=.ref e/\Fly C f v H0 H2 e dx (.ref T) .none/\∀ H3 T',Fly C f v H0 H3 e dx (.ref T') .none->D.nx (((σ.set jn (some (.ref e))).set jy (some (.ref e))).set jn none) H3
theorem zU {X:Cx} {C Mm q:Addr} {fd:FuncData} {ps:List Str} {f g mx n y:Str} {e₁:Expr} {es:List Expr} {sp:Sp} {t:TA} {k jy jn:Nat} {gp cpos xpos mp yp np apos hpos pos:Pos}
  (F:aO X.prog X.w X.K X.mg X.base (CX1 X.prog X.w) k q fd ps sp) (hr:cQ k X.A) (hg:Gl X g) (hm:X.mg g=some (.ref q)) (hk:PySem.W.keepIn X.K (.ref q)=true) (hb:Binds X.K fd ps [])
  (ha:∀ E,PA (X.wish E) (e₁ :: es) t) (hst:X.stack=X.env :: X.outer) (hf:X.env.frame=some X.env.locals) (m:XM X.K C Mm) (hgm:Gl X mx) (hmm:X.mg mx=some (.ref Mm))
  (hN:X.N.Nodup) (hjn:X.N[jn]?=some n) (hjy:X.N[jy]?=some y) (hln:X.env.scope.names.lookup n=some .local) (hly:X.env.scope.names.lookup y=some .local)
  (hdb:(g == ("__debug__" : Str))=false:=by decide) (hdm:(mx == ("__debug__" : Str))=false:=by decide) (hdn:(n == ("__debug__" : Str))=false:=by decide) (hdc:(n == ("__classdict__" : Str))=false:=by decide)
  (he:starEach (e₁ :: es) X.env=(false,eval e₁ X.env) :: starEach es X.env:=by rfl) (hpl:(backTo cpos (starEach es X.env)).any (·.1)=false:=by rfl)
  (hs:swapsWith (.Call (.Name g gp) (e₁ :: es) [] cpos) none xpos.line X.env=pure false:=by rfl) (hs2:swapsWith (.Name n np) (some (.Name y yp)) apos.line X.env=pure false:=by rfl):
  PS X (.Try [.Expr (.Call (.Name g gp) (e₁ :: es) [] cpos) xpos] [.ExceptHandler (some (.Name mx mp)) (some n) [.Assign [.Name y yp] (.Name n np) apos] hpos] [] [] pos) (Dl C f sp t jy jn):=by
 intro pins s σ H D I h
 have go:∀ E1:Value->Shared->Prop,(∀ e dx T v H0 H' s',Inv X pins σ H' s'->Fly C f v H0 H' e dx (.ref T) .none->(∀ H3 T',Fly C f v H0 H3 e dx (.ref T') .none->D.nx (((σ.set jn (some (.ref e))).set jy (some (.ref e))).set jn none) H3)->E1 (.ref e) s')->
   wpAny (model X.prog X.w) X.A (eval (.Call (.Name g gp) (e₁ :: es) [] cpos) X.env) (fun _ _=>False) E1 s:=by
  intro E1 kk
  refine wpAny_Call_Name_kw (fL I hg hm ?_ hdb)
  have hA:wpAny (model X.prog X.w) X.A (spliced (backTo cpos (starEach (e₁ :: es) X.env))) _ E1 s:=ha E1 cpos pins s σ H _ (I.wish E1) h
  refine PySem.W.callWith_K (h₀:=X.base) I.ok.mod.kin hk (thn hA fun us s1 ⟨vs,H1,I1,r,EE,hsp,qD⟩=>⟨I1.kIn,?_⟩) he hpl
  have I1:=I1.unwish
  have hl:(us++[]).length=ps.length:=by rw [List.append_nil,<- r.length]; exact F.len _ _ _ _ hsp
  have hb1:=hb s1 us I1.kIn hl
  rw [List.append_nil] at hb1
  refine wpAny_call (codeAny_mono (F.run X.A X.stack s1 H1 ⟨us,[]⟩ us vs _ _ hr I1.env0 hb1 r hsp) fun r s' hq=>?_)
  cases r with
  | ok fl=>
   cases fl with
   | ret u=>obtain ⟨_,_,_,_,_,_,_,z⟩:=hq; exact z.elim
   | next=>exact False.elim hq
   | brk=>exact False.elim hq
   | cont=>exact False.elim hq
  | error x=>
   obtain ⟨dx0,H',os,bare,un,hok,hE⟩:=hq
   obtain ⟨e,dx,T,v,H0,rfl,F1,qD⟩:=qD _ _ _ hE
   exact kk e dx T v H0 H' s' (I1.call' (ch:=[]) os un hok bare (fun b z=>absurd z (by simp))) F1 qD
 refine wpAny_Try_except (wpAny_execs_cons (wpAny_mono (wpAny_Expr_any (Q:=fun _ _=>False) (go _ fun e dx T v H1 H' s' I2 F1 qD=>?_) I.quiet hs) (fun _ _ z=>z.elim) fun _ _ z=>z))
 refine F1.note I2 I2.ok.frames hst hf fun s2 H2 T2 I3 F2=>F2.flight I3 fun s3 H3 I4 F3=>?_
 obtain ⟨oe,y1,y2⟩:=I4.xo F3.at'
 refine wpAny_handleBy_cons (codeAny_handlers_test (fL (X:=X.marked e fun _ _=>True) (I4.marked e _) hgm hmm ?_ hdm)) (by intro q; cases q)
 refine vQ I4.kIn m y1 y2.1 ?_
 refine codeAny_handlers_suite_as (F3.flight I4 fun s4 H4 I5 F4=>hW I5 hN hjn (.inl hln) (v:=.ref e) rfl (fun s5 I6=>?_) (.inr hln))
 have hlen:=I6.len
 have hjl:jn < σ.length:=by rw [I5.len]; exact (List.getElem?_eq_some_iff.mp hjn).1
 refine wpAny_mono (fM (mZ (X:=X.marked e _) hN hjy (.inl hly) (kB hjn (.inl hln) hdn hdc) hs2 (.inr hly)) pins s5 _ H4 { nx:=fun σ' H'=>σ'=(σ.set jn (some (.ref e))).set jy (some (.ref e))/\H'=H4,rt:=fun _ _=>False } (I6.marked e _) ⟨.ref e,by rw [List.getElem?_set_self hjl],rfl,rfl⟩) (fun fl s6 q=>?_) fun _ _ z=>z
 cases fl with
 | next=>
  obtain ⟨σ',H5,I7,rfl,rfl⟩:=q
  exact vP (I7.unmark I.ok) hN hjn hln fun s7 I8=>⟨_,_,I8,qD _ T2 F4⟩
 | brk=>obtain ⟨_,_,_,z⟩:=q; exact z.elim
 | cont=>obtain ⟨_,_,_,z⟩:=q; exact z.elim
 | ret u=>obtain ⟨_,_,_,_,_,z⟩:=q; exact z.elim
end L2
set_option Elab.async false
set_option linter.all false
set_option maxRecDepth 100000
namespace L2
open PySem PySem.Spec PyProof.Rows
section
variable {prog:Program} {w:World} {A:Around} {E:Value->Shared->Prop} {h:Heap} {g:Array GenState} {d:Drawn} {t:Nat} {os:OsState} {K:PySem.W.Frag} {C fI a:Addr} {oa:Obj} {od:Option Obj} {name:Str} {tk:Tok} {u:Value}
theorem BR {R:Result->Shared->Prop} (X:K.In h) (c:XCl K C fI) (J:PySem.W.InstAt h a oa C od)
  (hq:wpAny (model prog w) A.in1 (Builtin.«object.__getattribute__» ⟨[.ref a,.str name tk],[]⟩) (fun fin s'=>match fin with | .done f=>R (.ok f) s' | .again c'=>c'.quiet=true/\codeAny (model prog w) A c' R s') (fun e s'=>R (.error e) s') ⟨h,g,d,t,os⟩):
  codeAny (model prog w) A (.call (.builtin "BaseException.__getattribute__") ⟨[.ref a,.str name tk],[]⟩) R ⟨h,g,d,t,os⟩:=by
 obtain ⟨M,cd,hc,hm,_⟩:=c.cls
 have sub:PySem.W.Looks (model prog w) h (isInstance (.ref a) (.type "BaseException")) true:=J.type.andThen (PySem.W.looks_mroIn X (by unfold PySem.W.mroIn; rw [hc,Option.bind_some,hm]; rfl))
 exact codeAny_call_builtin (by decide +kernel) PySem.F.entry_bexc_ga (@PySem.W.check_slot (model prog w) _ _ ⟨h,g,d,t,os⟩ "BaseException.__getattribute__" "BaseException" "__getattribute__" (.ref a) [.str name tk] [] _ (by decide +kernel) (by decide +kernel) sub (PySem.F.args_bexc_ga _ _) hq)
theorem BS {Q:Fin->Shared->Prop} (X:K.In h) (J:PySem.W.InstAt h a oa C od) (hf:PySem.W.findObj K C od name=some (.value u)) (hq:Q (.done (.ret u)) ⟨h,g,d,t,os⟩):
  wpAny (model prog w) A (Builtin.«object.__getattribute__» ⟨[.ref a,.str name tk],[]⟩) Q E ⟨h,g,d,t,os⟩:=by
 have L0:=J.type (M:=model prog w)
 have L1:=PySem.W.looks_find (M:=model prog w) X J hf
 exact wpAny_bind (wpAny_pure (wpAny_bind (wpAny_pure (wpAny_bind (L0.at (wpAny_bind (L1.at (wpAny_pure hq))))))))
theorem zV {Q:Fin->Shared->Prop} (X:K.In h) (J:PySem.W.InstAt h a oa C od) (hf:PySem.W.findObj K C od name=some (.bind (.builtin "getset_descriptor.__get__") (.builtin "object.__class__"))) (hm:PySem.W.mroIn K C (.type "object")=some true) (hq:Q (.done (.ret (.ref C))) ⟨h,g,d,t,os⟩):
  wpAny (model prog w) A (Builtin.«object.__getattribute__» ⟨[.ref a,.str name tk],[]⟩) Q E ⟨h,g,d,t,os⟩:=by
 have L0:=J.type (M:=model prog w)
 have L1:=PySem.W.looks_find (M:=model prog w) X J hf
 refine wpAny_bind (wpAny_pure (wpAny_bind (wpAny_pure (wpAny_bind (L0.at (wpAny_bind (L1.at ?_)))))))
 show wpAny _ _ (holding [.builtin "object.__class__"] (call (.builtin "getset_descriptor.__get__") [.builtin "object.__class__",.ref a,.ref C]) >>= ret) _ _ _
 exact wpAny_bind (wpAny_holding (wpAny_call (PySem.W.class_get X J hm (wpAny_pure hq))))
theorem BU {fill expr:Bool} {Q:Value->Shared->Prop} (X:K.In h) (c:XCl K C fI) (J:PySem.W.InstAt h a oa C od) (hv:handedOut u=pure u)
  (hcall:∀ (A:Around) (R:Result->Shared->Prop),R (.ok (.ret u)) ⟨h,g,d,t,os⟩->codeAny (model prog w) A (.call (.builtin "BaseException.__getattribute__") ⟨[.ref a,.str name tk],[]⟩) R ⟨h,g,d,t,os⟩) (hq:Q u ⟨h,g,d,t,os⟩):
  wpAny (model prog w) A (getAttrBy (.ref a) (.str name tk) fill expr) Q E ⟨h,g,d,t,os⟩:=by
 have L0:=J.type (M:=model prog w)
 have L1:=PySem.W.looks_findIn (M:=model prog w) X c.ga
 have L2:=PySem.W.looks_findIn (M:=model prog w) X c.gt
 have f3:=PySem.F.attr_ValueError.ga.bind (.ref a)
 have hx0:(expr && onTheHeap (Value.builtin "BaseException.__getattribute__"))=false:=by cases expr <;> rfl
 have hx2:(Value.builtin "BaseException.__getattribute__" == Value.builtin "object.__getattribute__")=false:=by decide +kernel
 have hx1:(onTheHeap (Value.ref C) && Value.builtin "BaseException.__getattribute__" == Value.builtin "object.__getattribute__")=false:=by rw [hx2]; rfl
 unfold getAttrBy
 refine wpAny_holding (wpAny_bind (L0.at (wpAny_bind (L1.at ?_))))
 repeat (any_goals (first | assumption | with_reducible refine PySem.W.Looks.at (by assumption) ?_ | wp_step))
 refine hcall _ _ ?_
 repeat (any_goals (first | assumption | wp_step))
end
end L2
set_option Elab.async false
set_option linter.all false
set_option maxRecDepth 100000
namespace L2
open PySem PySem.Spec PyProof.Rows
section
variable {X:Cx} {o e₀:Expr} {ta te:TE} {f cx:Str} {pos p p2:Pos} {C fI:Addr} {cv:V} {cu:Value} {b:Bool}
def wZ (C:Addr) (f:Str) (ta:TE):TE:=fun σ H Q=>ta σ H fun x H1=>∃ e dx tb q,x=.ref e/\H1 e=some (xo e (pE C (some dx) tb))/\H1 dx=some (xo dx (pD f (.ref q)))/\Q (.ref q) H1
theorem Inv.inst {pins:List (Addr×Obj)} {σ:St} {H:Hp} {s:Shared} {e dx:Addr} {tb:Value} {v:V} (I:Inv X pins σ H s) (he:H e=some (L2.xo e (pE C (some dx) tb))) (hd:H dx=some (L2.xo dx (pD f v))):
  ∃ oe od u,PySem.W.InstAt s.heap e oe C (some od)/\RelV v u/\PySem.W.lookIn f od=some (some u):=by
 obtain ⟨oe,q1,z1,z2,vs,z3,z4⟩:=I.xo he
 obtain ⟨od,y1,u,y2,y3⟩:=I.xo hd
 exact ⟨oe,od,u,⟨q1,z1,by unfold PySem.W.notCls; rw [z3],by rw [z2]; exact y1⟩,y2,y3⟩
theorem pC (ha:PE X o ta) (xc:XCl X.K C fI) (np:PySem.W.findIn X.K (.ref C) f=some none) (hb:attributeBase o f X.env (eval o X.env)=eval o X.env:=by rfl):PE X (.Attribute o f pos) (wZ C f ta):=by
 intro pins s σ H Q I h
 refine uC hb (thn (ha pins s σ H _ I h) fun u s1 hz=>?_)
 obtain ⟨x,H1,I1,rx,e,dx,tb,q,ex,he,hd,qq⟩:=hz
 subst ex
 obtain rfl:u=Value.ref e:=rx
 obtain ⟨oe,od,u,J,ru,hl⟩:=I1.inst he hd
 obtain rfl:u=Value.ref q:=ru
 obtain ⟨M,cd,hc,hm,hdi⟩:=xc.cls
 have hf:PySem.W.findObj X.K C (some od) f=some (.value (.ref q)):=by
  unfold PySem.W.findObj
  rw [hc,Option.bind_some,np,Option.bind_some]
  simp [PySem.W.ownOf,hdi,hl]
 unfold getAttr
 refine wpAny_bind (wpAny_mkText ?_)
 obtain ⟨hp,g,d,tk,os⟩:=s1
 exact BU I1.kIn xc J rfl (fun A R hR=>BR I1.kIn xc J (BS I1.kIn J hf hR)) ⟨.ref q,H1,I1.tok _,rfl,qq⟩
structure XI (K:PySem.W.Frag) (C:Addr):Prop where
 ha:PySem.W.findIn K (.ref C) "__class__" = some (some (.builtin "object.__class__"))
 hn:PySem.W.specialIn K (.builtin "object.__class__") "__get__" = some (some (.builtin "getset_descriptor.__get__"))
 htk:PySem.W.takesIn K (.builtin "object.__class__")=some true
theorem zW {K:PySem.W.Frag} {x:Addr} {ox od:Obj} (c:XCl K C fI) (i:XI K C):PySem.W.KitX K (.ref x) (.ref C) (fun h=>PySem.W.InstAt h x ox C (some od)) where
 ty:=fun _ _ _ I=>I.type
 it:=fun _ _ X _=>by
  obtain ⟨nm,q,N,bs,M,sn,sub,ab,col,dd,k0,k1,k2,k3,k5,ho,ht⟩:=c.ob
  intro A' Q' E' s' k q
  unfold isType loadHead
  exact wpAny_bind (wpAny_loadPart (k _ _ (X _ _ ho)) (wpAny_pure q))
 ne:=fun h tp dd its n sl X htp=>by
  obtain ⟨nm,q,N,bs,M,sn,sub,ab,col,dd,k0,k1,k2,k3,k5,ho,ht⟩:=c.ob
  refine Bool.eq_false_iff.mpr fun q=>?_
  have e:C=tp:=Value.ref.inj (beq_iff_eq.mp q)
  subst e
  have z:Value.type "type" = Value.type "tuple" := congrArg Obj.cls (Option.some.inj ((X _ _ ho).symm.trans htp))
  injection z with z
  exact absurd z (by decide)
 ca:=fun {prog w A E Q s} X I k=>by
  obtain ⟨M,cd,hc,hm,_⟩:=c.cls
  have hf:PySem.W.findObj K C (some od) "__class__" = some (.bind (.builtin "getset_descriptor.__get__") (.builtin "object.__class__")):=PySem.W.findObj_data (by rw [hc]; rfl) i.ha i.hn i.htk
  have hmo:PySem.W.mroIn K C (.type "object")=some true:=by unfold PySem.W.mroIn; rw [hc,Option.bind_some,hm]; rfl
  unfold getAttr? getAttrBy?
  obtain ⟨hp,g,d,tk,os⟩:=s
  exact wpAny_bind (wpAny_mkText (wpAny_bind (wpAny_attempt (BU X c I rfl (fun A R hR=>BR X c I (zV X I hf hmo hR)) (wpAny_pure k)))))
def Dm (C:Addr) (f:Str) (cv:V) (b:Bool) (te:TE):TE:=fun σ H Q=>te σ H fun x H1=>∃ y,[x,cv]=[y,cv]/\∃ e dx tb v,y=.ref e/\H1 e=some (xo e (pE C (some dx) tb))/\H1 dx=some (xo dx (pD f v))/\Q (.bl b) H1
theorem iS (f:Str) (xc:XCl X.K C fI) (xi:XI X.K C) (he:PE X e₀ te) (hc:PE X (.Name cx p2) (tC cv)) (hcv:∀ u,RelV cv u->u=cu) (hk:PySem.W.kitOne X.K (.ref C) cu=some b) (hm:X.mg "isinstance" = none) (hg:Gl X "isinstance" := by rfl)
  (hs1:starEach [e₀,.Name cx p2] X.env=(false,eval e₀ X.env) :: starEach [.Name cx p2] X.env:=by rfl) (hs2:starEach [.Name cx p2] X.env=(false,eval (.Name cx p2) X.env) :: starEach [] X.env:=by rfl) (hpl:(backTo pos (starEach [.Name cx p2] X.env)).any (·.1)=false:=by rfl):
  PE X (.Call (.Name "isinstance" p) [e₀,.Name cx p2] [] pos) (Dm C f cv b te):=by
 have call:eI X (.builtin "isinstance") (fun xs H Q=>∃ y,xs=[y,cv]/\∃ e dx tb v,y=.ref e/\H e=some (xo e (pE C (some dx) tb))/\H dx=some (xo dx (pD f v))/\Q (.bl b) H):=by
  intro pins s σ H xs us Q I r h
  obtain ⟨y,rfl,e,dx,tb,v,rfl,he,hd,q⟩:=h
  obtain ⟨u,u2,rfl,ru,rv⟩:=vals2 r
  obtain rfl:=hcv _ rv
  obtain rfl:u=Value.ref e:=ru
  obtain ⟨oe,od,u,J,_,_⟩:=I.inst he hd
  exact PySem.W.kia_one (zW xc xi) I.kIn J hk (fun z=>nomatch z) fun tk=>⟨.bl b,H,I.tok tk,rfl,q⟩
 exact iC call hg hm PyProof.Rows.Boot.«isinstance» (dI he (dI hc iB hs2) hs1) (by decide) (by decide) hs1 hpl
theorem Fun.okX {CX:CXT} {P:Program} {w:World} {K:PySem.W.Frag} {mg:Str->Option Value} {base:Heap} {x qual:Str} {st:Stmt} {f:Addr} {fd:FuncData} {N ps:List Str} {k:Nat} {sp:Sp} (F:Fun K x qual st f fd) (S:aY N ps (aF st)) (len:∀ vs H Q E,sp vs H Q E->vs.length=ps.length)
  (hbody:∀ (cdv:Value) (A:Around) (outer:List Env) (s:Shared) (H:Hp) (vs:List V) (Q:VK) (E:XK),cQ k (A.deeper (envOfC qual (aF st) s.heap.objs.size f cdv))->sp vs H Q E->
   ∃ t,PSs (gY CX P w K mg base N qual (aF st) f cdv A outer s H E) (aN st) t/\t { nx:=fun _ H'=>Q .non H',rt:=Q } (start N vs) H):aO P w K mg base CX (k+1) f fd ps sp:=by
 obtain ⟨oc,od,kV,doc,pm,an,cdv,ct,osl,rfl,lk,hcd⟩:=F.ex
 exact wF lk hcd S len fun A outer s H vs Q E hr hsp=>hbody cdv A outer s H vs Q E hr hsp
end
end L2
set_option Elab.async false
set_option linter.all false
set_option maxRecDepth 100000
set_option maxHeartbeats 4000000
namespace K33
open PySem L2
noncomputable section
def gF:Ms:=
 (bP (aE aP (mV 0) (cB (aC (cB (aC (mC (.int 0)) aL)) aL))))
def cM:Fn:=mFn 1 gF
def iT:Ms:=
 (bP (aE eL (aZ 1 cM (aC (mV 0) aL)) (aZ 1 cM (aC (mV 1) aL))))
def aM:Fn:=mFn 2 iT
def pF:Ms:=
 (aS (cD (bF (aE vIs (mV 1) (mC .non)))
  (bP (cB (aC (mV 0) (aC (mC (.int 1)) aL))))
  cH)
 (aS (cD (eN (bF (aZ 2 aM (aC (mV 0) (aC (mV 1) aL)))))
  wY
  cH)
 (aS (cD (bF (aE vEq (mSl (mV 1) gD (mP (mCB cX (aC (mV 0) aL)))) (mV 0)))
  (bP (cB (aC (mV 1) (aC (mUn qL (mC (.int 1))) aL))))
  cH)
 (bP (cB (aC (mV 0) (aC (mC (.int 1)) aL)))))))
def dM:Fn:=mFn 2 pF
def lB:Ms:=
 (aS (bY 2 (aE cJ (aE nM (aE aP (aE aP (mV 0) (aE nM (mC (.int 7919)) (mV 1))) (mC (.int 1))) (mC (.int 48271))) (mC (.int 2147483647))))
 (bP (aE cJ (aE nM (mV 2) (aE aP (aE dQ (mV 2) (mC (.int 1009))) (mC (.int 69621)))) (mC (.int 2147483647)))))
def bV:Fn:=mFn 3 lB
def mJ:Ms:=
 (aS (bY 2 (aE aP (mV 2) (aE vIx (mV 1) (aE cJ (mV 3) (mC (.int 26))))))
  (bY 3 (aE dQ (mV 3) (mC (.int 26)))))
def nS:Ms:=
 (aS (bY 1 (mC (.str "abcdefghijklmnopqrstuvwxyz")))
 (aS (cD (bF (aE eL (aE cJ (mV 0) (mC (.int 4))) (mC (.int 2))))
  (bP (aE vIx (mV 1) (aE cJ (aE dQ (mV 0) (mC (.int 4))) (mC (.int 3)))))
  cH)
 (aS (cD (bF (aE vEq (aE cJ (mV 0) (mC (.int 4))) (mC (.int 2))))
  (bP (aE vH (mC (.str "a")) (aE aP (mC (.int 1)) (aE cJ (aE dQ (mV 0) (mC (.int 4))) (mC (.int 8))))))
  cH)
 (aS (bY 2 (mC (.str "")))
 (aS (bY 3 (aE dQ (mV 0) (mC (.int 32))))
 (aS (iN (gS (aC (aE aP (mC (.int 1)) (aE cJ (aE dQ (mV 0) (mC (.int 4))) (mC (.int 8)))) aL)) (gN 4) mJ)
 (bP (mV 2))))))))
def eC:Fn:=mFn 5 nS
def nT:Ms:=
 (aS (bY 1 (aE aP (mC (.int 1)) (aE cJ (aZ 2 bV (aC (mV 0) (aC (mC (.int 3)) aL))) (mC (.int 3)))))
 (aS (cD (bF (aE vEq (aE cJ (aE dQ (mV 0) (mC (.int 2))) (mC (.int 4))) (mC (.int 3))))
  (bY 1 (aE aP (aE aP (mC (.int 1)) (aE nM (aZ 2 bV (aC (mV 0) (aC (mC (.int 5)) aL))) (mC (.int 461)))) (aE cJ (mV 0) (mC (.int 461)))))
  cH)
 (bP (cB (aC (aE sD (aE nM (aE cJ (mV 0) (mC (.int 2))) (mC (.int 2))) (mC (.int 1))) (aC (aZ 1 eC (aC (aZ 2 bV (aC (mV 0) (aC (mC (.int 2)) aL))) aL)) (aC (mV 1) (aC (aE cJ (aZ 2 bV (aC (mV 0) (aC (mC (.int 4)) aL))) (mC (.int 12))) aL))))))))
def eD:Fn:=mFn 2 nT
def gG:Ms:=
 (aS (uV (mV 0) (gTp 4 (gCn (gN 2) (gCn (gN 3) (gCn (gN 4) (gCn (gN 5) gNl))))))
 (aS (bY 6 (aE cJ (mV 1) (mC (.int 5))))
 (aS (cD (bF (aE vEq (mV 6) (mC (.int 0))))
  (bP (cB (aC (aE sD (mC (.int 0)) (mV 2)) (aC (mV 3) (aC (mV 4) (aC (mV 5) aL))))))
  cH)
 (aS (cD (gP (bF (aE vEq (mV 6) (mC (.int 1)))) (bF (aE vEq (mCB cX (aC (mV 3) aL)) (mC (.int 8)))))
  (bP (cB (aC (mV 2) (aC (mSl (mV 3) gD (mP (mC (.int 7)))) (aC (mV 4) (aC (mV 5) aL))))))
  cH)
 (aS (cD (bF (aE vEq (mV 6) (mC (.int 1))))
  (bP (cB (aC (mV 2) (aC (aE aP (mV 3) (aE vIx (mC (.str "abz")) (aE cJ (aE dQ (mV 1) (mC (.int 5))) (mC (.int 3))))) (aC (mV 4) (aC (mV 5) aL))))))
  cH)
 (aS (cD (bF (aE vEq (mV 6) (mC (.int 2))))
  (bP (cB (aC (mV 2) (aC (mV 3) (aC (aE aP (aE cJ (mV 4) (mC (.int 999999999999))) (mC (.int 1))) (aC (mV 5) aL))))))
  cH)
 (aS (cD (bF (aE vEq (mV 6) (mC (.int 3))))
  (bP (cB (aC (mV 2) (aC (mV 3) (aC (mV 4) (aC (aE cJ (aE aP (aE aP (mV 5) (mC (.int 1))) (aE cJ (aE dQ (mV 1) (mC (.int 5))) (mC (.int 11)))) (mC (.int 12))) aL))))))
  cH)
 (bP (aZ 1 eD (aC (aE dQ (mV 1) (mC (.int 5))) aL))))))))))
def dS:Fn:=mFn 7 gG
def nU:Ms:=
 (aS (bY 2 (aE cJ (mV 1) (mC (.int 7))))
 (aS (cD (mD (bF (aE vEq (mV 0) (uU aL))) (bF (aE vEq (mV 2) (mC (.int 0)))))
  (bP (cB (aC (aE aP (cB (aC (mC (.int 1)) aL)) (mSl (aZ 1 eD (aC (aE dQ (mV 1) (mC (.int 7))) aL)) (mP (mC (.int 1))) gD)) aL)))
  cH)
 (aS (bY 3 (aE vIx (mV 0) (aE cJ (aE dQ (mV 1) (mC (.int 7))) (mCB cX (aC (mV 0) aL)))))
 (aS (bY 4 (aZ 2 bV (aC (mV 1) (aC (mC (.int 3)) aL))))
 (aS (bY 5 (aE cJ (aE dQ (mV 4) (mC (.int 7))) (mCB cX (aC (mV 3) aL))))
 (aS (cD (bF (aE eL (mV 2) (mC (.int 4))))
  (bP (aE aP (mV 3) (cB (aC (aZ 1 eD (aC (mV 4) aL)) aL))))
  cH)
 (aS (cD (bF (aE vEq (mV 2) (mC (.int 4))))
  (bP (mSl (mV 3) gD (mP (aE aP (mC (.int 1)) (mV 5)))))
  cH)
 (aS (cD (bF (aE vEq (mV 2) (mC (.int 5))))
  (aS (bY 6 (aZ 2 dS (aC (aE vIx (mV 3) (mV 5)) (aC (mV 4) aL))))
  (aS (cD (bF (aE vEq (mV 5) (mC (.int 0))))
   (bY 6 (aE aP (cB (aC (mC (.int 1)) aL)) (mSl (mV 6) (mP (mC (.int 1))) gD)))
   cH)
  (bP (aE aP (aE aP (mSl (mV 3) gD (mP (mV 5))) (cB (aC (mV 6) aL))) (mSl (mV 3) (mP (aE aP (mV 5) (mC (.int 1)))) gD)))))
  cH)
 (bP (mV 3))))))))))
def iU:Fn:=mFn 7 nU
def dO:Ms:=
 (cD (bF (aE vNe (aE vIx (mV 0) (mV 2)) (aE vIx (mV 1) (mV 2))))
   (bP (aE eL (aE vIx (mV 0) (mV 2)) (aE vIx (mV 1) (mV 2))))
   cH)
def eP:Ms:=
 (aS (iN (gS (aC (mCB sJ (aC (mCB cX (aC (mV 0) aL)) (aC (mCB cX (aC (mV 1) aL)) aL))) aL)) (gN 2) dO)
 (aS (cD (bF (aE eL (mCB cX (aC (mV 0) aL)) (mCB cX (aC (mV 1) aL))))
  (bP (aE vEq (aE vIx (aE vIx (mV 1) (mCB cX (aC (mV 0) aL))) (mC (.int 0))) (mC (.int 1))))
  cH)
 (bP (oU (aE vGt (mCB cX (aC (mV 0) aL)) (mCB cX (aC (mV 1) aL))) (aE vEq (aE vIx (aE vIx (mV 0) (mCB cX (aC (mV 1) aL))) (mC (.int 0))) (mUn qL (mC (.int 1))))))))
def bN:Fn:=mFn 3 eP
def qU:Ms:=fun δ h=>match δ with
 | some (.tup l) :: some (.tup r) :: _=>match aM [.tup l,.tup r] h with
  | .ok (.bl false) h1=>if fD (.tup l) (.tup l) h1=some true then .rt (.bl true) h1 else .bad
  | _=>.bad
 | _=>.bad
def bW:Fn:=mFn 4 qU
def dC:Ms:=
 (aS (cD (mD (eN (bF (aZ 2 bN (aC (mV 0) (aC (mV 5) aL))))) (eN (bF (aZ 2 aM (aC (mV 0) (aC (mV 5) aL))))))
   (bP (mC (.bl false)))
   cH)
  (aS (cD (gP (bF (aE dY (mV 1) (mC .non))) (eN (gP (bF (aZ 2 bN (aC (mV 5) (aC (mV 1) aL)))) (bF (aZ 2 aM (aC (mV 5) (aC (mV 1) aL)))))))
   (bP (mC (.bl false)))
   cH)
  (aS (bY 0 (mV 5))
  (bY 5 (aE aP (mV 5) (cB (aC (cB (aC (mC (.int 1)) (aC (aE vIx (mV 2) (mC (.int 0))) (aC (aE vIx (mV 2) (mC (.int 1))) (aC (aE aP (mV 6) (mC (.int 1))) aL))))) aL)))))))
def eX:Ms:=
 (aS (cD (gP (bF (aE dY (mV 1) (mC .non))) (eN (bF (aZ 2 bN (aC (mV 0) (aC (mV 1) aL))))))
  (bP (aZ 2 bW (aC (mV 0) (aC (mV 1) aL))))
  cH)
 (aS (bY 3 (aZ 2 dM (aC (mV 0) (aC (mV 1) aL))))
 (aS (bY 4 (cB (aC (mV 0) (aC (mC (.int 1)) aL))))
 (aS (cD (gP (bF (aE dY (mV 1) (mC .non))) (bF (aE vEq (mSl (mV 1) gD (mP (mCB cX (aC (mV 0) aL)))) (mV 0))))
  (bY 4 (cB (aC (mV 1) (aC (mUn qL (mC (.int 1))) aL))))
  cH)
 (aS (cD (mD (eN (bF (mCB mG (aC (mV 3) (aC (mC (.ty "tuple")) aL))))) (mD (bF (aE vNe (mV 3) (mV 4))) (bF (mCB mG (aC (aE vIx (mV 3) (mC (.int 1))) (aC (mC (.ty "bool")) aL))))))
  (bP (mC (.bl false)))
  cH)
 (aS (bY 5 (aE aP (aE vIx (mV 4) (mC (.int 0))) (cB (aC (cB (aC (aE vIx (mV 4) (mC (.int 1))) (aC (aE vIx (mV 2) (mC (.int 0))) (aC (aE vIx (mV 2) (mC (.int 1))) (aC (mC (.int 0)) aL))))) aL))))
 (aS (iN (gS (aC (mC (.int 3)) aL)) (gN 6) dC)
 (bP (mC (.bl true))))))))))
def eY:Fn:=mFn 7 eX
def pG:Ms:=
 (uW (mMt isL (onL eW) (mV 1) (aC (aZ 2 iU (aC (mV 1) (aC (mV 2) aL))) aL)))
def pH:Ms:=
 (aS (bY 4 (aZ 2 bV (aC (aE vIx (mV 0) (mV 3)) (aC (mC (.int 1)) aL))))
  (aS (bY 5 (aE vIx (mV 1) (mV 3)))
  (aS (bY 6 (aE vIx (mV 1) (aE cJ (aE aP (aE dQ (mV 4) (mC (.int 12))) (mV 3)) (mCB cX (aC (mV 1) aL)))))
  (aS (cD (bF (aE vEq (aE cJ (mV 4) (mC (.int 2))) (mC (.int 1))))
   (aS (bY 5 (aE vIx (mV 1) (aE cJ (aE aP (aE dQ (mV 4) (mC (.int 12))) (mV 3)) (mCB cX (aC (mV 1) aL)))))
   (bY 6 (aE vIx (mV 1) (mV 3))))
   cH)
  (aS (cD (bF (aE vEq (aE cJ (aE dQ (mV 4) (mC (.int 2))) (mC (.int 6))) (mC (.int 4))))
   (bY 5 (cB aL))
   cH)
  (aS (cD (mD (bF (aE vEq (aE cJ (aE dQ (mV 4) (mC (.int 2))) (mC (.int 6))) (mC (.int 5)))) (bF (aE vEq (aE cJ (aE cJ (mV 4) (mC (.int 2000003))) (mC (.int 36))) (mC (.int 7)))))
   (bY 6 (mC .non))
   cH)
  (cD (eN (bF (aZ 3 eY (aC (mV 5) (aC (mV 6) (aC (cB (aC (aZ 1 eC (aC (mV 4) aL)) (aC (aE aP (mC (.int 1)) (aE dQ (mV 4) (mC (.int 5)))) aL))) aL))))))
   (bP (mC (.bl false)))
   cH)))))))
def tG:Ms:=
 (aS (bY 1 (uU aL))
 (aS (iN (mE (mSl (mV 0) gD (mP (mC (.int 40))))) (gN 2) pG)
 (aS (iN (gS (aC (mCB cX (aC (mV 1) aL)) aL)) (gN 3) pH)
 (bP (aE vEq (aZ 2 dM (aC (cB aL) (aC (mC .non) aL))) (cB (aC (cB aL) (aC (mC (.int 1)) aL))))))))
def jT:Fn:=mFn 7 tG
end
end K33
set_option Elab.async false
set_option linter.all false
set_option maxRecDepth 100000
set_option maxHeartbeats 1000000
namespace K33
open PySem L2
structure St where
 s:Int
 h:Str
 n:Int
 k:Int
 deriving DecidableEq
def stp (x:St):PV:=.tup [.int x.s,.str x.h,.int x.n,.int x.k]
theorem lC {x y:St} (h:stp x=stp y):x=y:=by
 obtain ⟨a,b,c,d⟩:=x
 obtain ⟨a',b',c',d'⟩:=y
 simp [stp] at h
 simp [h]
def pl (xs:List St):PV:=.tup (xs.map stp)
theorem zX {xs ys:List St} (h:pl xs=pl ys):xs=ys:=by
 have h:xs.map stp=ys.map stp:=by simpa [pl] using h
 induction xs generalizing ys with
 | nil=>cases ys <;> simp at h ⊢
 | cons x xs ih=>
  cases ys with
  | nil=>simp at h
  | cons y ys=>
   simp at h
   rw [lC h.1,ih (by simp [pl,h.2]) h.2]
theorem jU (xs:List St):(pl xs).pl 40=true:=by
 show (xs.map stp).all (PV.pl 39)=true
 rw [List.all_eq_true]
 intro p hp
 obtain ⟨x,_,rfl⟩:=List.mem_map.mp hp
 rfl
def okS (x:St):Prop:=(x.s=1\/x.s=-1)/\x.h.length<=8
def Good (b:Nat) (p:PV):Prop:=∃ xs:List St,p=pl xs/\xs≠[]/\(∀ x∈xs,okS x)/\xs.length<=b
theorem Good.mono {b c:Nat} {p:PV} (h:Good b p) (hc:b<=c):Good c p:=let ⟨xs,e,h0,h1,h2⟩:=h; ⟨xs,e,h0,h1,by omega⟩
abbrev jD:PV:=.tup [.int 0]
def lD (x y:St):Bool:=if x.s=y.s then (if x.h=y.h then (if x.n=y.n then decide (x.k < y.k) else decide (x.n < y.n)) else decide (x.h.cps.toList < y.h.cps.toList)) else decide (x.s < y.s)
def bef:List St->List St->Bool
 | [],[]=>false
 | [],y :: _=>decide (0<=y.s)
 | x :: _,[]=>decide (x.s < 0)
 | x :: xs,y :: ys=>if x=y then bef xs ys else lD x y
theorem tH (n:Nat) (x y:St) (hne:x≠y):ltP (n+1) (stp x) (stp y)=some (lD x y):=by
 obtain ⟨a,b,c,d⟩:=x
 obtain ⟨a',b',c',d'⟩:=y
 by_cases h1:a=a'
 ·by_cases h2:b=b'
  ·by_cases h3:c=c'
   ·by_cases h4:d=d'
    ·exact absurd (by simp [h1,h2,h3,h4]) hne
    ·simp [ltP,ltL,stp,lD,h1,h2,h3,h4]
   ·simp [ltP,ltL,stp,lD,h1,h2,h3]
  ·simp [ltP,ltL,stp,lD,h1,h2]
 ·simp [ltP,ltL,stp,lD,h1]
theorem tI:∀ xs ys:List St,ltL (ltP 39) (xs.map stp++[jD]) (ys.map stp++[jD])=some (bef xs ys)
 | [],[]=>by simp [ltL,bef]
 | [],y :: ys=>by
  have hne:jD≠stp y:=by simp [stp,jD]
  simp only [List.map_nil,List.nil_append,List.map_cons,List.cons_append,ltL,if_neg hne,bef]
  simp only [ltP,stp,ltL]
  by_cases h:(0:Int)=y.s
  ·simp [<- h]
  ·have:decide ((0:Int) < y.s)=decide (0<=y.s):=by
    rw [Bool.eq_iff_iff]; simp; omega
   simp [h,this]
 | x :: xs,[]=>by
  have hne:stp x≠jD:=by simp [stp,jD]
  simp only [List.map_nil,List.nil_append,List.map_cons,List.cons_append,ltL,if_neg hne,bef]
  simp only [ltP,stp,ltL]
  by_cases h:x.s=0
  ·simp [h]
  ·simp [h]
 | x :: xs,y :: ys=>by
  simp only [List.map_cons,List.cons_append,ltL,bef]
  by_cases h:x=y
  ·subst h
   simp only [if_true]
   exact tI xs ys
  ·rw [if_neg fun z=>h (lC z),if_neg h]
   exact tH 38 x y h
theorem pI (xs:List St):(PV.tup (xs.map stp++[jD])).pl 40=true:=by
 show (xs.map stp++[jD]).all (PV.pl 39)=true
 rw [List.all_append,Bool.and_eq_true]
 exact ⟨jU xs,rfl⟩
theorem pJ (xs:List St) (h:PH) (hx:xs.length<=1000):cM [pl xs] h=.ok (.tup (xs.map stp++[jD])) h:=by
 have w:(cM [pl xs] h).W fun p h'=>p=.tup (xs.map stp++[jD])/\h'=h:=by
  refine iO ?_
  simp (disch:=first | omega | (simp; omega)) [gF,pl]
 obtain ⟨p,h',e,rfl,rfl⟩:=qP w
 exact e
theorem eZ (xs ys:List St) (h:PH) (hx:xs.length<=1000) (hy:ys.length<=1000):aM [pl xs,pl ys] h=.ok (.bl (bef xs ys)) h:=by
 have w:(aM [pl xs,pl ys] h).W fun p h'=>p=.bl (bef xs ys)/\h'=h:=by
  refine iO ?_
  simp [iT,pJ xs _ hx,pJ ys _ hy,mI (pI xs) (pI ys) (tI xs ys)]
 obtain ⟨p,h',e,rfl,rfl⟩:=qP w
 exact e
theorem mK:∀ xs:List St,bef xs xs=false
 | []=>rfl
 | x :: xs=>by simp [bef,mK xs]
def mixed (c k:Int):Int:=
 let n:=(c+7919*k+1)*48271 % 2147483647
 n*(n / 1009+69621) % 2147483647
theorem mL (c k:Int):0<=mixed c k/\mixed c k < 2147483647:=⟨Int.emod_nonneg _ (by decide),Int.emod_lt_of_pos _ (by decide)⟩
@[simp] theorem BV (c k:Int) (h:PH):bV [.int c,.int k] h=.ok (.int (mixed c k)) h:=by
 simp (disch:=omega) [bV,mFn,lB,aS,bY,bP,mixed]
abbrev tJ:Str:="abcdefghijklmnopqrstuvwxyz"
theorem tK:tJ.cps.toList.length=26:=by decide +kernel
theorem jV:tJ.length=26:=by decide +kernel
theorem mN {x:Str} {c:Nat}:(x++(⟨#[c]⟩:Str)).length=x.length+1:=by
 rw [Str.length_append]; rfl
theorem pK {i:Int} (h0:0<=i) (h1:i < 26):∃ c,atI tJ.cps.toList i=some c:=by
 obtain ⟨v,hv,_⟩:=nL (xs:=tJ.cps.toList) h0 (by rw [tK]; exact h1)
 exact ⟨v,hv⟩
theorem vR (z:Str) (n:Int):(Txt.mul z n).length=z.length*n.toNat:=by
 have h:=PyProof.Rows.len_mul z n
 by_cases h0:n < 0
 ·rw [if_pos (by simpa using h0)] at h
  have:n.toNat=0:=by omega
  rw [this]; omega
 ·rw [if_neg (by simpa using h0)] at h
  have e:((n.toNat:Nat):Int)=n:=by omega
  have h2:((Txt.mul z n).length:Int)=((z.length*n.toNat:Nat):Int):=by rw [h,Int.natCast_mul,e]
  exact Int.ofNat.inj h2
theorem pL (n:Int) (h:PH) (Q:PV->PH->Prop) (k:∀ w:Str,w.length<=8->Q (.str w) h):(eC [.int n] h).W Q:=by
 refine iO ?_
 have hl:=jV
 simp (disch:=omega) [nS,cY]
 split
 ·obtain ⟨c,hc⟩:=pK (i:=n / 4 % 3) (by omega) (by omega)
  have hl2:(Str.ofString "abcdefghijklmnopqrstuvwxyz").length=26:=jV
  simp (disch:=omega) [hc]
  exact k _ (by show 1<=8; omega)
 ·split
  ·simp only [vH]
   rw [if_pos ⟨by decide +kernel,by omega,by omega⟩]
   simp
   refine k _ ?_
   have:=vR (Str.ofString "a") (1+n / 4 % 8)
   have e:(Str.ofString "a").length=1:=by decide +kernel
   rw [this,e]
   omega
  ·refine kW (j:=1+n / 4 % 8) (fun q δ h'=>h'=h/\∃ w r x4,δ=[some (.int n),some (.str tJ),some (.str w),some (.int r),x4]/\w.length=q) ?_ ?_ ?_ ?_ ?_
   ·simp (disch:=omega)
   ·omega
   ·exact ⟨rfl,_,_,_,rfl,rfl⟩
   ·rintro q δ h' hq ⟨rfl,w,r,x4,rfl,hw⟩
    obtain ⟨c,hc⟩:=pK (i:=r % 26) (by omega) (by omega)
    have h1:(⟨#[c]⟩:Str).length=1:=rfl
    simp (disch:=omega) [mJ,hc,cY]
    rw [mN]; omega
   ·rintro δ h' ⟨rfl,w,r,x4,rfl,hw⟩
    simp
    exact k w (by omega)
theorem lE (c:Int) (h:PH) (Q:PV->PH->Prop) (k:∀ x:St,okS x->Q (stp x) h):(eD [.int c] h).W Q:=by
 refine iO ?_
 have m5:=mL c 5
 simp (disch:=omega) [nT,cY]
 have go:∀ n:Int,(eC [.int (mixed c 2)] h).W fun a h=>Q (.tup [.int (c % 2*2 - 1),a,.int n,.int (mixed c 4 % 12)]) h:=fun n=>by
  refine pL _ _ _ fun w hw=>?_
  exact k ⟨c % 2*2 - 1,w,n,mixed c 4 % 12⟩ ⟨by show c % 2*2 - 1=1\/c % 2*2 - 1=-1; omega,hw⟩
 split
 ·exact go _
 ·exact go _
theorem vS:(Str.ofString "abz").length=3:=by decide +kernel
theorem zY {i:Int} (h0:0<=i) (h1:i < 3):∃ c,atI (Str.ofString "abz").cps.toList i=some c:=by
 obtain ⟨v,hv,_⟩:=nL (xs:=(Str.ofString "abz").cps.toList) h0 (by rw [show (Str.ofString "abz").cps.toList.length=3 by decide +kernel]; exact h1)
 exact ⟨v,hv⟩
theorem lF {z:Str} {j:Int} (h0:0<=j) (h1:j<=z.length):(Txt.slice z none (some j)).length=j.toNat:=by
 have h1':j<=z.cps.toList.length:=by simpa [Str.length] using h1
 have e:Txt.slice z none (some j)=⟨((z.cps.toList.drop 0).take (j - 0).toNat).toArray⟩:=StrLaws.sliceText_to ⟨h0,h1'⟩
 rw [e]
 simp only [Str.length,List.drop_zero,Int.sub_zero,List.size_toArray,List.length_take]
 omega
theorem nV (x:St) (hx:okS x) (c:Int) (h:PH) (Q:PV->PH->Prop) (k:∀ y:St,okS y->Q (stp y) h):(dS [stp x,.int c] h).W Q:=by
 refine iO ?_
 obtain ⟨s,hd,n,q⟩:=x
 obtain ⟨hs,hl⟩:=hx
 have hs:s=1\/s=-1:=hs
 have hl:hd.length<=8:=hl
 have a3:=vS
 simp (disch:=omega) [gG,bE,stp]
 refine now ?_
 rw [bE]; simp (disch:=omega)
 refine now ?_
 rw [bE]; simp (disch:=omega)
 split
 ·exact k ⟨-s,hd,n,q⟩ ⟨by show -s=1\/-s=-1; omega,hl⟩
 refine now ?_
 rw [bE]; simp (disch:=omega)
 split
 ·split
  ·rename_i h8
   exact k ⟨s,_,n,q⟩ ⟨hs,by show (Txt.slice hd none (some 7)).length<=8; rw [lF (by decide) (by omega)]; decide⟩
  ·refine now ?_
   rw [bE]; simp (disch:=omega)
   obtain ⟨a,ha⟩:=zY (i:=c / 5 % 3) (by omega) (by omega)
   rename_i hw h8
   have h1:(⟨#[a]⟩:Str).length=1:=rfl
   simp (disch:=omega) [ha,hw]
   exact k ⟨s,_,n,q⟩ ⟨hs,by show (hd++(⟨#[a]⟩:Str)).length<=8; rw [mN]; omega⟩
 refine now ?_
 rename_i hw
 rw [bE]; simp (disch:=omega) [hw]
 refine now ?_
 rw [bE]; simp (disch:=omega)
 split
 ·exact k ⟨s,hd,_,q⟩ ⟨hs,hl⟩
 refine now ?_
 rw [bE]; simp (disch:=omega)
 split
 ·exact k ⟨s,hd,n,_⟩ ⟨hs,hl⟩
 refine now ?_
 simp (disch:=omega)
 exact lE _ _ _ k
theorem vT (met:List PV) (b:Nat) (hb:b<=900) (l:Nat) (c:Int) (h:PH) (Q:PV->PH->Prop) (hl:h[l]?=some (.lst met)) (hm:∀ p∈met,Good b p) (k:∀ p h',Ext h h'->Good (b+1) p->Q p h'):(iU [.ref l,.int c] h).W Q:=by
 refine iO ?_
 simp (disch:=omega) [nU,bE]
 refine now ?_
 have hpl:met.all (PV.pl 39)=true:=by
  rw [List.all_eq_true]
  intro p hp
  obtain ⟨xs,rfl,_⟩:=hm p hp
  have:=jU xs
  show (xs.map stp).all (PV.pl 38)=true
  rw [List.all_eq_true]
  intro p hp
  obtain ⟨x,_,rfl⟩:=List.mem_map.mp hp
  rfl
 have hl1:=Ext.app h [MO.lst []] _ _ hl
 have hx1:=Ext.app h [MO.lst []]
 rw [bE]; simp (disch:=omega) [vG hl1 vE hpl rfl]
 have first:∀ h',Ext h h'->(eD [.int (c / 7)] h').W fun a h=>(vSl a (some 1) none h).W fun a h=>(aP (.tup [.int 1]) a h).W fun a h=>Q (.tup [a]) h:=fun h' hx=>by
  refine lE _ _ _ fun x hx'=>?_
  simp (disch:=first | omega | (simp [bO,HT.sIx])) [stp]
  refine k _ _ hx ⟨[⟨1,x.h,x.n,x.k⟩],?_,by simp,?_,by simp⟩
  ·simp [pl,stp,bO,HT.sIx]
  ·intro y hy
   rw [List.mem_singleton.mp hy]
   exact ⟨.inl rfl,hx'.2⟩
 split
 ·exact first _ hx1
 split
 ·exact first _ hx1
 rename_i hne _
 generalize h++[MO.lst []]=h1 at hl1 hx1
 refine now ?_
 obtain ⟨one,e1,hmem⟩:=oX (xs:=met) (i:=c / 7) hne
 obtain ⟨xs,rfl,hxs,hok,hlen⟩:=hm one hmem
 have hpos:0 < met.length:=List.length_pos_iff.mpr hne
 have hxpos:0 < xs.length:=List.length_pos_iff.mpr hxs
 rw [bE]; simp (disch:=omega) [fU hl1,hI hl1,e1]
 refine now ?_
 rw [bE]; simp (disch:=omega)
 have hn3:=mL c 3
 generalize mixed c 3=n3 at hn3
 refine now ?_
 rw [bE]; simp (disch:=omega) [pl]
 have hat:0<=n3 / 7 % (xs.length:Int)/\n3 / 7 % (xs.length:Int) < xs.length:=⟨Int.emod_nonneg _ (by omega),Int.emod_lt_of_pos _ (by omega)⟩
 generalize n3 / 7 % (xs.length:Int)=at' at hat
 have hok':∀ {ys:List St},(∀ y∈ys,y∈xs)->∀ y∈ys,okS y:=fun h y hy=>hok y (h y hy)
 refine now ?_
 rw [bE]; simp (disch:=omega)
 split
 ·refine lE _ _ _ fun x hx=>?_
  simp (disch:=first | omega | (simp; omega))
  refine k _ _ hx1 ⟨xs++[x],by simp [pl],by simp,fun y hy=>?_,by simp; omega⟩
  rcases List.mem_append.mp hy with hy | hy
  ·exact hok y hy
  ·rw [List.mem_singleton.mp hy]; exact hx
 refine now ?_
 rw [bE]; simp (disch:=omega)
 split
 ·rw [kZ]
  refine k _ _ hx1 ⟨bO xs none (some (1+at')),rfl,?_,fun y hy=>hok y (lA hy),Nat.le_trans hJ (by omega)⟩
  rw [kY (by omega)]
  intro z
  have:=congrArg List.length z
  rw [List.length_take,List.length_nil] at this
  omega
 refine now ?_
 rw [bE]; simp (disch:=omega)
 split
 ·obtain ⟨x,ex⟩:∃ x,xs[at'.toNat]?=some x:=⟨xs[at'.toNat]'(by omega),by simp⟩
  have e2:atI (xs.map stp) at'=some (stp x):=by
   rw [vD hat.1 (by rw [List.length_map]; exact hat.2),List.getElem?_map,ex]; rfl
  rw [bE]; simp (disch:=omega) [e2]
  refine nV x (hok x (List.mem_of_getElem? ex)) _ _ _ fun y hy=>?_
  refine now ?_
  have fin:∀ z:St,okS z->Lt (bP (aE aP (aE aP (mSl (mV 3) gD (mP (mV 5))) (cB (aC (mV 6) aL))) (mSl (mV 3) (mP (aE aP (mV 5) (mC (PV.int 1)))) gD)))
    { nx:=Lt (bP (mV 3)) { nx:=fun x h=>Q PV.non h,rt:=Q },rt:=Q } [some (PV.ref l),some (PV.int c),some (PV.int (c % 7)),some (PV.tup (xs.map stp)),some (PV.int n3),some (PV.int at'),some (stp z)] h1:=fun z hz=>by
   refine now ?_
   have c1:=hJ (xs:=xs.map stp) (lo:=none) (hi:=some at')
   have c2:=hJ (xs:=xs.map stp) (lo:=some (at'+1)) (hi:=none)
   rw [List.length_map] at c1 c2
   simp (disch:=first | omega | (simp; omega))
   refine k _ _ hx1 ⟨bO xs none (some at')++z :: bO xs (some (at'+1)) none,by simp [pl,kZ],by simp,fun y hy=>?_,?_⟩
   ·rcases List.mem_append.mp hy with hy | hy
    ·exact hok y (lA hy)
    ·rcases List.mem_cons.mp hy with rfl | hy
     ·exact hz
     ·exact hok y (lA hy)
   ·rw [kY hat.1,sT (by omega)]
    simp
    omega
  rw [bE]; simp (disch:=omega)
  split
  ·simp (disch:=first | omega | (simp [bO,HT.sIx])) [stp]
   have e3:PV.tup (PV.int 1 :: bO [PV.int y.s,PV.str y.h,PV.int y.n,PV.int y.k] (some 1) none)=stp ⟨1,y.h,y.n,y.k⟩:=by simp [stp,bO,HT.sIx]
   rw [e3]
   exact fin _ ⟨.inl rfl,hy.2⟩
  ·exact fin _ hy
 refine now ?_
 simp
 exact k _ _ hx1 ⟨xs,rfl,hxs,hok,by omega⟩
theorem kY {α:Type} {xs:List α} {n:Nat}:bO xs none (some (n:Int))=xs.take n:=by
 have e:HT.sIx xs.length xs.length (some (n:Int))=min n xs.length:=by
  show (if (n:Int) < 0 then ((n:Int)+(xs.length:Int)).toNat else min (n:Int).toNat xs.length)=_
  rw [if_neg (by omega)]
  rfl
 unfold bO
 rw [e]
 show (xs.drop 0).take (min n xs.length - 0)=_
 rw [List.drop_zero,List.take_eq_take_iff]
 omega
theorem zZ (xs ys:List St) (hx:∀ x∈xs,okS x) (hy:∀ y∈ys,okS y) (lx:xs.length<=1000) (ly:ys.length<=1000) (h:PH) (Q:PV->PH->Prop) (k:Q (.bl (bef xs ys)) h):(bN [pl xs,pl ys] h).W Q:=by
 refine iO ?_
 simp [eP,bE,pl]
 refine kW (j:=if (ys.length:Int) < xs.length then ys.length else xs.length) (fun q δ h'=>h'=h/\∃ x2,δ=[some (.tup (xs.map stp)),some (.tup (ys.map stp)),x2]/\bef (xs.drop q) (ys.drop q)=bef xs ys) ?_ ?_ ?_ ?_ ?_
 ·simp
 ·split <;> omega
 ·exact ⟨rfl,_,rfl,rfl⟩
 ·rintro q δ h' hq ⟨rfl,x2,rfl,hb⟩
  have hq1:q < xs.length/\q < ys.length:=by split at hq <;> omega
  have e1:atI (xs.map stp) (q:Int)=some (stp xs[q]):=gC (by simp [hq1.1])
  have e2:atI (ys.map stp) (q:Int)=some (stp ys[q]):=gC (by simp [hq1.2])
  have d1:xs.drop q=xs[q] :: xs.drop (q+1):=drop_cons (by simp [hq1.1])
  have d2:ys.drop q=ys[q] :: ys.drop (q+1):=drop_cons (by simp [hq1.2])
  rw [d1,d2] at hb
  generalize xs[q]=x at e1 hb
  generalize ys[q]=y at e2 hb
  simp only [bef] at hb
  by_cases e:x=y
  ·subst e
   rw [if_pos rfl] at hb
   simp [dO,e1,e2,fV (x:=stp x) rfl]
   exact hb
  ·rw [if_neg e] at hb
   have e3:eL (stp x) (stp y) h'=.ok (.bl (lD x y)) h':=mI rfl rfl (tH 39 x y e)
   simp [dO,e1,e2,qR (x:=stp x) (y:=stp y) rfl rfl (fun z=>e (lC z)),e3]
   rw [hb]
   exact k
 ·rintro δ h' ⟨rfl,x2,rfl,hb⟩
  refine now ?_
  rw [bE]; simp
  split
  ·rename_i hlt
   have hj:(if (ys.length:Int) < xs.length then (ys.length:Int) else xs.length).toNat=xs.length:=by rw [if_neg (by omega)]; omega
   rw [hj,List.drop_length] at hb
   have e2:atI (ys.map stp) (xs.length:Int)=some (stp ys[xs.length]):=gC (by simp [hlt])
   have d2:ys.drop xs.length=ys[xs.length] :: ys.drop (xs.length+1):=drop_cons (by simp [hlt])
   have hok:=hy ys[xs.length] (List.getElem_mem hlt)
   rw [d2] at hb
   generalize ys[xs.length]=y at e2 hb hok
   simp only [bef] at hb
   simp [e2,stp]
   have:decide (y.s=1)=decide (0<=y.s):=by
    rw [Bool.eq_iff_iff]
    have:=hok.1
    simp
    omega
   rw [this,hb]
   exact k
  ·rename_i hlt
   refine now ?_
   simp
   split
   ·rename_i hgt
    have hj:(if (ys.length:Int) < xs.length then (ys.length:Int) else xs.length).toNat=ys.length:=by rw [if_pos (by omega)]; omega
    rw [hj,List.drop_length] at hb
    have e2:atI (xs.map stp) (ys.length:Int)=some (stp xs[ys.length]):=gC (by simp [hgt])
    have d2:xs.drop ys.length=xs[ys.length] :: xs.drop (ys.length+1):=drop_cons (by simp [hgt])
    have hok:=hx xs[ys.length] (List.getElem_mem hgt)
    rw [d2] at hb
    generalize xs[ys.length]=y at e2 hb hok
    simp only [bef] at hb
    simp [e2,stp]
    have:decide (y.s=-1)=decide (y.s < 0):=by
     rw [Bool.eq_iff_iff]
     have:=hok.1
     simp
     omega
    rw [this,hb]
    exact k
   ·rename_i hgt
    have hj:(if (ys.length:Int) < xs.length then (ys.length:Int) else xs.length).toNat=xs.length:=by rw [if_neg (by omega)]; omega
    have hl:xs.length=ys.length:=by omega
    rw [hj,List.drop_length,hl,List.drop_length] at hb
    have hb:false=bef xs ys:=hb
    rw [<- hb] at k
    exact k
theorem gH (z:St) (zs:List St):∀ xs:List St,bef xs (xs++z :: zs)=decide (0<=z.s)
 | []=>rfl
 | x :: xs=>by
  show (if x=x then bef xs (xs++z :: zs) else _)=_
  rw [if_pos rfl,gH z zs xs]
theorem mO (z:St) (zs:List St):∀ xs:List St,bef (xs++z :: zs) xs=decide (z.s < 0)
 | []=>rfl
 | x :: xs=>by
  show (if x=x then bef (xs++z :: zs) xs else _)=_
  rw [if_pos rfl,mO z zs xs]
theorem mQ (zs:List St):∀ (xs ys:List St),ys.take xs.length≠xs->bef (xs++zs) ys=bef xs ys
 | [],ys,h=>absurd (by simp) h
 | x :: xs,[],_=>rfl
 | x :: xs,y :: ys,h=>by
  show (if x=y then bef (xs++zs) ys else lD x y)=if x=y then bef xs ys else lD x y
  by_cases e:x=y
  ·subst e
   rw [if_pos rfl,if_pos rfl]
   exact mQ zs xs ys fun z=>h (by simp [z])
  ·rw [if_neg e,if_neg e]
def pre (xs ys:List St):Bool:=decide (ys.take xs.length=xs)
theorem tL (xs ys:List St) (h:PH):vEq (.tup (bO (ys.map stp) none (some (xs.length:Int)))) (pl xs) h=.ok (.bl (pre xs ys)) h:=by
 have e:PV.tup (bO (ys.map stp) none (some (xs.length:Int)))=pl (ys.take xs.length):=by rw [kY,<- List.map_take]; rfl
 rw [e]
 by_cases q:ys.take xs.length=xs
 ·rw [q,iP (jU xs)]
  simp [pre,q]
 ·rw [qQ (jU _) (jU xs) fun z=>q (zX z)]
  simp [pre,q]
theorem pM (xs:List St) (h:PH):dM [pl xs,.non] h=.ok (.tup [pl xs,.int 1]) h:=by
 have w:(dM [pl xs,.non] h).W fun p h'=>p=.tup [pl xs,.int 1]/\h'=h:=by
  refine iO ?_
  simp [pF,cY]
 obtain ⟨p,h',e,rfl,rfl⟩:=qP w
 exact e
def gp (xs ys:List St):PV:=if pre xs ys=true then .tup [pl ys,.int (-1)] else .tup [pl xs,.int 1]
theorem A0 (xs ys:List St) (lx:xs.length<=1000) (ly:ys.length<=1000) (hb:bef xs ys=true) (h:PH):dM [pl xs,pl ys] h=.ok (gp xs ys) h:=by
 have w:(dM [pl xs,pl ys] h).W fun p h'=>p=gp xs ys/\h'=h:=by
  refine iO ?_
  have e1:∀ h,vEq (.tup (bO (ys.map stp) none (some (xs.length:Int)))) (.tup (xs.map stp)) h=.ok (.bl (pre xs ys)) h:=fun h=>tL xs ys h
  have e2:∀ h,aM [.tup (xs.map stp),.tup (ys.map stp)] h=.ok (.bl (bef xs ys)) h:=fun h=>eZ xs ys h lx ly
  simp [pF,cY,pl,e1,e2,hb,gp]
 obtain ⟨p,h',e,rfl,rfl⟩:=qP w
 exact e
theorem nW (xs ys:List St) (lx:xs.length<=1000) (ly:ys.length<=1000) (hb:bef xs ys=false) (h:PH):bW [pl xs,pl ys] h=.ok (.bl true) h:=by
 have e2:aM [.tup (xs.map stp),.tup (ys.map stp)] h=.ok (.bl false) h:=by rw [<- hb]; exact eZ xs ys h lx ly
 have e3:fD (.tup (xs.map stp)) (.tup (xs.map stp)) h=some true:=by
  have z:=iP (jU xs) h
  unfold vEq at z
  cases q:fD (pl xs) (pl xs) h with
  | none=>rw [q] at z; cases z
  | some b=>
   rw [q] at z
   have z:Rs.ok (PV.bl b) h=.ok (.bl true) h:=z
   cases z
   exact q
 show (match (match aM [.tup (xs.map stp),.tup (ys.map stp)] h with
    | .ok (.bl false) h1=>if fD (.tup (xs.map stp)) (.tup (xs.map stp)) h1=some true then Fl.rt (.bl true) h1 else .bad
    | _=>.bad) with
    | .nx _ h'=>Rs.ok PV.non h'
    | .rt p h'=>.ok p h'
    | .exc x h'=>.exc x h'
    | _=>.bad)=_
 rw [e2]
 dsimp only
 rw [if_pos e3]
def rt:Option (List St)->PV
 | none=>.non
 | some ys=>pl ys
def vU (r:Option (List St)):Prop:=∀ ys,r=some ys->(∀ y∈ys,okS y)/\ys.length<=900
theorem nX (xs ys:List St) (hx:∀ x∈xs,okS x) (hy:∀ y∈ys,okS y) (lx:xs.length<=1000) (ly:ys.length<=1000) (h:PH):bN [pl xs,pl ys] h=.ok (.bl (bef xs ys)) h:=by
 obtain ⟨p,h',e,rfl,rfl⟩:=qP (zZ xs ys hx hy lx ly h (fun p h'=>p=.bl (bef xs ys)/\h'=h) ⟨rfl,rfl⟩)
 exact e
theorem vV (w:Str) (n:Int) (hw:w.length<=8) (F D:PV) (r:Option (List St)) (hr:vU r) (base left:List St) (s0:St) (rest:List St) (q:Nat) (x6:Option PV) (h:PH) (E:FE) (ol:∀ x∈left,okS x) (ll:left.length<=980) (op:∀ x∈base++s0 :: rest,okS x) (lp:(base++s0 :: rest).length<=980)
  (h1:bef left (base++s0 :: rest)=true) (h2:∀ ys,r=some ys->bef (base++s0 :: rest) ys=true)
  (k:E.nx [some (pl (base++s0 :: rest)),some (rt r),some (.tup [.str w,.int n]),some F,some D,some (pl (base++s0 :: (rest++[⟨1,w,n,q+1⟩]))),some (.int q)] h):
  (dC ([some (pl left),some (rt r),some (.tup [.str w,.int n]),some F,some D,some (pl (base++s0 :: rest)),x6].set 6 (some (.int q))) h).W E:=by
 have fin:(aP (pl (base++s0 :: rest)) (.tup [.tup [.int 1,.str w,.int n,.int (q+1)]]) h)=.ok (pl (base++s0 :: (rest++[⟨1,w,n,q+1⟩]))) h:=by
  have z:PV.tup ((base++s0 :: rest).map stp++[stp ⟨1,w,n,q+1⟩])=pl (base++s0 :: (rest++[⟨1,w,n,q+1⟩])):=by simp [pl]
  rw [<- z]
  exact jQ (by simp; simp at lp; omega)
 have a1:=nX left (base++s0 :: rest) ol op (by omega) (by omega) h
 have a2:=eZ left (base++s0 :: rest) h (by omega) (by omega)
 rw [h1] at a1 a2
 generalize pl (base++s0 :: (rest++[⟨1,w,n,q+1⟩]))=N at fin k
 cases r with
 | none=>
  generalize pl (base++s0 :: rest)=P at fin k a1 a2 ⊢
  generalize pl left=L at a1 a2 ⊢
  simp [dC,rt,a1,a2,cY,fin]
  exact k
 | some ys=>
  obtain ⟨oy,ly⟩:=hr ys rfl
  have b1:=nX (base++s0 :: rest) ys op oy (by omega) (by omega) h
  have b2:=eZ (base++s0 :: rest) ys h (by omega) (by omega)
  rw [h2 ys rfl] at b1 b2
  have b3:∀ h,dY (pl ys) .non h=.ok (.bl true) h:=fun h=>rfl
  have k:E.nx [some (pl (base++s0 :: rest)),some (pl ys),some (.tup [.str w,.int n]),some F,some D,some N,some (.int q)] h:=k
  generalize pl (base++s0 :: rest)=P at fin k a1 a2 b1 b2 ⊢
  generalize pl left=L at a1 a2 ⊢
  show (dC ([some L,some (pl ys),some (.tup [.str w,.int n]),some F,some D,some P,x6].set 6 (some (.int q))) h).W E
  generalize pl ys=Y at k b1 b2 b3 ⊢
  simp [dC,a1,a2,b1,b2,b3,cY,fin]
  exact k
theorem fS (w:Str) (n:Int) (hw:w.length<=8) (F D:PV) (r:Option (List St)) (hr:vU r) (base xs:List St) (s0:St) (x6:Option PV) (h:PH) (Q:PV->PH->Prop) (ox:∀ x∈xs,okS x) (lx:xs.length<=950) (ob:∀ x∈base,okS x) (lb:base.length<=950) (o0:okS s0)
  (h1:bef xs (base++[s0])=true) (h2:∀ rest ys,r=some ys->bef (base++s0 :: rest) ys=true) (k:Q (.bl true) h):
  (iN (gS (aC (mC (.int 3)) aL)) (gN 6) dC [some (pl xs),some (rt r),some (.tup [.str w,.int n]),some F,some D,some (pl (base++[s0])),x6] h).W { nx:=fun δ h=>Q (.bl true) h,rt:=Q }:=by
 refine kW (j:=3) (fun q δ h'=>h'=h/\∃ left rest x6,δ=[some (pl left),some (rt r),some (.tup [.str w,.int n]),some F,some D,some (pl (base++s0 :: rest)),x6]/\(∀ x∈left,okS x)/\left.length<=951+q/\(∀ x∈rest,okS x)/\rest.length<=q/\bef left (base++s0 :: rest)=true) ?_ (by decide) ?_ ?_ ?_
 ·simp
 ·exact ⟨rfl,xs,[],x6,rfl,ox,by omega,by simp,by simp,h1⟩
 ·rintro q δ h' hq ⟨rfl,left,rest,x6,rfl,ol,ll,or,lr,hb⟩
  have op:∀ x∈base++s0 :: rest,okS x:=fun x hx=>by
   rcases List.mem_append.mp hx with z | z
   ·exact ob x z
   ·rcases List.mem_cons.mp z with z | z
    ·rw [z]; exact o0
    ·exact or x z
  have lp:(base++s0 :: rest).length<=951+q:=by simp; omega
  refine vV w n hw F D r hr base left s0 rest q x6 h' _ ol (by omega) op (by omega) hb (h2 rest) ⟨rfl,base++s0 :: rest,rest++[⟨1,w,n,q+1⟩],_,rfl,op,by omega,fun x hx=>?_,by simp; omega,?_⟩
  ·rcases List.mem_append.mp hx with z | z
   ·exact or x z
   ·rw [List.mem_singleton.mp z]
    exact ⟨.inl rfl,hw⟩
  ·have e:base++s0 :: (rest++[⟨1,w,n,(q:Int)+1⟩])=(base++s0 :: rest)++[⟨1,w,n,(q:Int)+1⟩]:=by simp
   rw [e,gH]
   rfl
 ·rintro δ h' ⟨rfl,_⟩
  exact k
theorem lG (xs:List St) (d:Int):(PV.tup [pl xs,.int d]).pl 40=true:=by
 show (((xs.map stp).all (PV.pl 38)) && true)=true
 rw [Bool.and_true,List.all_eq_true]
 intro p hp
 obtain ⟨x,_,rfl⟩:=List.mem_map.mp hp
 rfl
theorem tM (xs:List St) (r:Option (List St)) (w:Str) (n:Int) (hw:w.length<=8) (ox:∀ x∈xs,okS x) (lx:xs.length<=900) (hr:vU r) (h:PH) (Q:PV->PH->Prop) (k:Q (.bl true) h):(eY [pl xs,rt r,.tup [.str w,.int n]] h).W Q:=by
 refine iO ?_
 have hp:∀ (base:List St) (d:Int) (h:PH),base.length<=950->aP (pl base) (.tup [.tup [.int d,.str w,.int n,.int 0]]) h=.ok (pl (base++[⟨d,w,n,0⟩])) h:=fun base d h l=>by
  have z:PV.tup (base.map stp++[stp ⟨d,w,n,0⟩])=pl (base++[⟨d,w,n,0⟩]):=by simp [pl]
  rw [<- z]
  exact jQ (by simp; omega)
 cases r with
 | none=>
  have g:=pM xs h
  have fin:=fS w n hw (.tup [pl xs,.int 1]) (.tup [pl xs,.int 1]) none hr xs xs ⟨1,w,n,0⟩ none h Q ox (by omega) ox (by omega) ⟨.inl rfl,hw⟩ (by rw [gH]; rfl) (fun _ _ z=>nomatch z) k
  have ne:=fV (x:=.tup [pl xs,.int 1]) (lG xs 1) h
  simp [eX,rt,cY,g,ne,known,eK]
  rw [hp xs 1 h (by omega),zE]
  exact fin
 | some ys=>
  obtain ⟨oy,ly⟩:=hr ys rfl
  have i1:=nX xs ys ox oy (by omega) (by omega) h
  have b3:∀ h,dY (pl ys) .non h=.ok (.bl true) h:=fun h=>rfl
  have b4:eM (pl ys)=false:=rfl
  have e1:=tL xs ys h
  cases hb:bef xs ys with
  | false=>
   rw [hb] at i1
   have i2:=nW xs ys (by omega) (by omega) hb h
   simp [eX,rt,cY,i1,i2,b3,b4]
   exact k
  | true=>
   rw [hb] at i1
   have g:=A0 xs ys (by omega) (by omega) hb h
   cases hq:pre xs ys with
   | false=>
    rw [hq] at e1
    have g:dM [pl xs,pl ys] h=.ok (.tup [pl xs,.int 1]) h:=by rw [g]; unfold gp; rw [hq]; rfl
    have hq:ys.take xs.length≠xs:=of_decide_eq_false hq
    have fin:=fS w n hw (.tup [pl xs,.int 1]) (.tup [pl xs,.int 1]) (some ys) hr xs xs ⟨1,w,n,0⟩ none h Q ox (by omega) ox (by omega) ⟨.inl rfl,hw⟩ (by rw [gH]; rfl) (fun rest zs z=>by
     cases z
     rw [mQ _ xs ys hq,hb]) k
    have ne:=fV (x:=.tup [pl xs,.int 1]) (lG xs 1) h
    have l1:cX [pl xs] h=.ok (.int xs.length) h:=by simp [pl]
    have l2:vSl (pl ys) none (some (xs.length:Int)) h=.ok (.tup (bO (ys.map stp) none (some (xs.length:Int)))) h:=rfl
    simp [eX,rt,cY,i1,b3,b4,g,ne,l1,l2,e1,known,eK]
    rw [hp xs 1 h (by omega),zE]
    exact fin
   | true=>
    rw [hq] at e1
    have g:dM [pl xs,pl ys] h=.ok (.tup [pl ys,.int (-1)]) h:=by rw [g]; unfold gp; rw [hq]; rfl
    have hq:ys.take xs.length=xs:=of_decide_eq_true hq
    have b0:bef xs (ys++[⟨-1,w,n,0⟩])=true:=by
     obtain ⟨zs,rfl⟩:∃ zs,ys=xs++zs:=⟨ys.drop xs.length,by conv=>{ lhs; rw [<- List.take_append_drop xs.length ys,hq] }⟩
     cases zs with
     | nil=>rw [List.append_nil,mK] at hb; cases hb
     | cons z zs=>
      rw [gH] at hb
      rw [List.append_assoc,List.cons_append,gH]
      exact hb
    have fin:=fS w n hw (.tup [pl ys,.int (-1)]) (.tup [pl ys,.int (-1)]) (some ys) hr ys xs ⟨-1,w,n,0⟩ none h Q ox (by omega) oy (by omega) ⟨.inr rfl,hw⟩ b0 (fun rest zs z=>by
     cases z
     rw [mO]
     rfl) k
    have ne:=fV (x:=.tup [pl ys,.int (-1)]) (lG ys (-1)) h
    have l1:cX [pl xs] h=.ok (.int xs.length) h:=by simp [pl]
    have l2:vSl (pl ys) none (some (xs.length:Int)) h=.ok (.tup (bO (ys.map stp) none (some (xs.length:Int)))) h:=rfl
    simp [eX,rt,cY,i1,b3,b4,g,ne,l1,l2,e1,known,eK]
    rw [hp ys (-1) h (by omega),zE]
    exact fin
theorem vW (h:PH):dM [.tup [],.non] h=.ok (.tup [.tup [],.int 1]) h:=pM [] h
theorem lH (zs:List St) (r:Option (List St)) (S:PV) (x2 x3:Option PV) (N:Int) (oz:∀ z∈zs,okS z) (lz:zs.length<=900) (hr:vU r) (h:PH) (E:FE) (k:E.nx [some S,some (.ref 0),x2,x3,some (.int N),some (pl zs),some (rt r)] h):
  Lt (cD (eN (bF (aZ 3 eY (aC (mV 5) (aC (mV 6) (aC (cB (aC (aZ 1 eC (aC (mV 4) aL)) (aC (aE aP (mC (.int 1)) (aE dQ (mV 4) (mC (.int 5)))) aL))) aL)))))) (bP (mC (.bl false))) cH) E [some S,some (.ref 0),x2,x3,some (.int N),some (pl zs),some (rt r)] h:=by
 refine now ?_
 simp
 refine pL N h _ fun w hw=>?_
 try simp
 refine tM zs r w _ hw oz lz hr h _ ?_
 simpa using k
theorem main (ns:List Int) (hl:ns.length<=63):∃ h,jT [.fl (ns.map PV.int)] []=.ok (.bl true) h:=by
 suffices w:(jT [.fl (ns.map PV.int)] []).W fun p _=>p=.bl true by
  obtain ⟨p,h,e,rfl⟩:=qP w
  exact ⟨h,e⟩
 refine iO ?_
 simp (disch:=omega) [bE,tG]
 refine now ?_
 rw [bE]
 have hcl:=hJ (xs:=ns) (lo:=none) (hi:=some 40)
 refine zG (n:=1) (xs:=(bO ns none (some 40)).map PV.int) (h1:=[.lst [],.lst ((bO ns none (some 40)).map PV.int)]) (fun q δ h=>h[1]?=some (.lst ((bO ns none (some 40)).map PV.int))/\∃ met,h[0]?=some (.lst met)/\met.length=q/\(∀ p∈met,Good q p)/\q<=63/\∃ x2 x3 x4 x5 x6,δ=[some (.fl (ns.map PV.int)),some (.ref 0),x2,x3,x4,x5,x6]) ?_ rfl ?_ ?_ ?_ ?_
 ·simp [kZ]
 ·exact ⟨rfl,[],rfl,rfl,by simp,by omega,_,_,_,_,_,rfl⟩
 ·rintro q δ h _ ⟨h1,_⟩
  exact h1
 ·rintro q x δ h hx ⟨h1,met,h0,hlen,hall,hq,x2,x3,x4,x5,x6,rfl⟩
  have hq':q < (bO ns none (some 40)).length:=by
   have:=(List.getElem?_eq_some_iff.mp hx).1
   simpa using this
  rw [List.getElem?_map] at hx
  obtain ⟨c,_,rfl⟩:=Option.map_eq_some_iff.mp hx
  refine ⟨_,rfl,?_⟩
  simp [pG,vC h0]
  refine vT met q (by omega) 0 c h _ h0 hall fun p h' hx' hp=>?_
  have h0':=hx' _ _ h0
  have h1':=hx' _ _ h1
  simp (disch:=omega) [nO h0']
  refine ⟨h1',met++[p],zH h0',by simp [hlen],fun z hz=>?_,by omega⟩
  rcases List.mem_append.mp hz with hz | hz
  ·exact (hall z hz).mono (by omega)
  ·rw [List.mem_singleton.mp hz]; exact hp
 ·rintro δ h ⟨h1,met,h0,hlen,hall,hq,x2,x3,x4,x5,x6,rfl⟩
  rw [List.length_map] at hlen hall hq
  refine now ?_
  rw [bE]
  refine kW (j:=met.length) (fun q δ h=>h[0]?=some (.lst met)/\∃ x2 x3 x4 x5 x6,δ=[some (.fl (ns.map PV.int)),some (.ref 0),x2,x3,x4,x5,x6]) ?_ (by omega) ⟨h0,_,_,_,_,_,rfl⟩ ?_ ?_
  ·simp [fU h0]
  ·rintro q δ h hq2 ⟨h0,x2,x3,x4,x5,x6,rfl⟩
   have hq3:q < ns.length:=by omega
   have e1:atI (ns.map PV.int) (q:Int)=some (.int ns[q]):=gC (by simp [hq3])
   generalize ns[q]=c at e1
   have hne:met≠[]:=by intro z; rw [z] at hq2; simp at hq2; omega
   obtain ⟨p1,a1,m1⟩:=vI (xs:=met) (i:=q) (by omega) (by omega)
   obtain ⟨p2,a2,m2⟩:=oX (xs:=met) (i:=mixed c 1 / 12+q) hne
   have hml:(0:Int) < met.length:=by omega
   simp (disch:=omega) [pH,bE,e1]
   generalize mixed c 1=N at a2
   refine now ?_
   rw [bE]; simp (disch:=omega) [hI h0,a1]
   refine now ?_
   rw [bE]; simp (disch:=omega) [hI h0,fU h0,a2]
   refine now ?_
   rw [bE]; simp (disch:=omega) [hI h0,fU h0,a1,a2,cY]
   refine jS (P:=fun pr:PV×PV=>Lt _ _ [some (.fl (ns.map PV.int)),some (.ref 0),x2,some (.int q),some (.int N),some pr.1,some pr.2] h) (fun pr=>pr.1∈met/\pr.2∈met) (p2,p1) (p1,p2) ⟨m2,m1⟩ ⟨m1,m2⟩ ?_
   rintro ⟨pa,pb⟩ ⟨ma,mb⟩
   obtain ⟨xs,rfl,_,ox,lx⟩:=hall pa ma
   obtain ⟨ys,rfl,_,oy,ly⟩:=hall pb mb
   refine now ?_
   rw [bE]; simp (disch:=omega)
   refine jS (P:=fun p:PV=>Lt _ _ [some (.fl (ns.map PV.int)),some (.ref 0),x2,some (.int q),some (.int N),some p,some (pl ys)] h) (fun p=>∃ zs:List St,p=pl zs/\(∀ z∈zs,okS z)/\zs.length<=900) (.tup []) (pl xs) ⟨[],rfl,by simp,by simp⟩ ⟨xs,rfl,ox,by omega⟩ ?_
   rintro p ⟨zs,rfl,oz,lz⟩
   refine now ?_
   rw [bE]; simp (disch:=omega)
   split
   ·exact lH zs none _ _ _ _ oz lz (fun _ z=>nomatch z) _ _ ⟨h0,_,_,_,_,_,rfl⟩
   ·split
    ·exact lH zs none _ _ _ _ oz lz (fun _ z=>nomatch z) _ _ ⟨h0,_,_,_,_,_,rfl⟩
    ·exact lH zs (some ys) _ _ _ _ oz lz (fun _ z=>by cases z; exact ⟨oy,by omega⟩) _ _ ⟨h0,_,_,_,_,_,rfl⟩
  ·rintro δ h ⟨h0,x2,x3,x4,x5,x6,rfl⟩
   refine now ?_
   simp [vW,iP (x:=.tup [.tup [],.int 1]) rfl]
end K33
set_option Elab.async false
set_option linter.all false
set_option maxRecDepth 100000
set_option maxHeartbeats 4000000
namespace K33
open PySem L2
def top (i:Nat):Stmt:=PySem.Challenge.pw_copymeet_k33_between.main.body.getD i (.Pass ⟨0,0,0,0⟩)
abbrev bsL:List Str:=["len","range","min","bool","isinstance","tuple"]
abbrev cC (w:World) (K:PySem.W.Frag):MC:=⟨K,fun _=>none,bsL,fun _ _ _=>False,w⟩
abbrev cN:Stmt:=top 7
theorem nY:aY ["place"] ["place"] (aF cN):=⟨rfl,rfl,rfl,by decide +kernel,rfl,by decide +kernel,by decide +kernel⟩
abbrev bZ:Stmt:=top 8
theorem qV:aY ["one","other"] ["one","other"] (aF bZ):=⟨rfl,rfl,rfl,by decide +kernel,rfl,by decide +kernel,by decide +kernel⟩
abbrev eQ:Stmt:=top 9
theorem tN:aY ["left","right"] ["left","right"] (aF eQ):=⟨rfl,rfl,rfl,by decide +kernel,rfl,by decide +kernel,by decide +kernel⟩
abbrev dB:Stmt:=top 11
theorem mR:aY ["_law_cell","_law_k","_law_number"] ["_law_cell","_law_k"] (aF dB):=⟨rfl,rfl,rfl,by decide +kernel,rfl,by decide +kernel,by decide +kernel⟩
abbrev eR:Stmt:=top 12
theorem eE:aY ["_law_number","_law_some","_law_word","_law_rest","_law_k"] ["_law_number"] (aF eR):=⟨rfl,rfl,rfl,by decide +kernel,rfl,by decide +kernel,by decide +kernel⟩
abbrev eS:Stmt:=top 13
theorem lI:aY ["_law_cell","_law_n"] ["_law_cell"] (aF eS):=⟨rfl,rfl,rfl,by decide +kernel,rfl,by decide +kernel,by decide +kernel⟩
abbrev cO:Stmt:=top 14
theorem cP:aY ["_law_step_here","_law_cell","_law_side","_law_hand_here","_law_n","_law_k","_law_way"] ["_law_step_here","_law_cell"] (aF cO):=⟨rfl,rfl,rfl,by decide +kernel,rfl,by decide +kernel,by decide +kernel⟩
abbrev fH:Stmt:=top 15
theorem eF:aY ["_law_met","_law_cell","_law_way","_law_one","_law_number","_law_at","_law_step_here"] ["_law_met","_law_cell"] (aF fH):=⟨rfl,rfl,rfl,by decide +kernel,rfl,by decide +kernel,by decide +kernel⟩
abbrev bT:Stmt:=top 16
theorem fW:aY ["_law_one","_law_other","_law_k"] ["_law_one","_law_other"] (aF bT):=⟨rfl,rfl,rfl,by decide +kernel,rfl,by decide +kernel,by decide +kernel⟩
abbrev cF:Stmt:=top 17
theorem iV:aY ["_law_left","_law_right","_law_fault","e"] ["_law_left","_law_right"] (aF cF):=⟨rfl,rfl,rfl,by decide +kernel,rfl,by decide +kernel,by decide +kernel⟩
abbrev eG:Stmt:=top 18
theorem cS:aY ["_law_left","_law_right","_law_name","_law_found","_law_due","_law_place","_law_k"] ["_law_left","_law_right","_law_name"] (aF eG):=⟨rfl,rfl,rfl,by decide +kernel,rfl,by decide +kernel,by decide +kernel⟩
abbrev fX:Stmt:=top 19
theorem dG:aY ["_law_script","_law_met","_law_cell","_law_k","_law_number","_law_left","_law_right"] ["_law_script"] (aF fX):=⟨rfl,rfl,rfl,by decide +kernel,rfl,by decide +kernel,by decide +kernel⟩
abbrev gI:Stmt:=inClass (top 3) 0
theorem vX:aY ["self","place"] ["self","place"] (aF gI):=⟨rfl,rfl,rfl,by decide +kernel,rfl,by decide +kernel,by decide +kernel⟩
section
variable {P:Program} {w:World} {K:PySem.W.Frag} {mg:Str->Option Value} {base:Heap}
theorem nZ {f:Addr} {fd:FuncData} (hbn:∀ x∈bsL,mg x=none) (F:Fun K "rank_of" "rank_of" cN f fd):aO P w K mg base CX0 1 f fd ["place"] (spM (cC w K) 1 cM):=
 eO (C:=cC w K) (k:=0) (N:=["place"]) (body:=gF) (fun _ _ _ h=>h) hbn F nY fun cdv A outer s H E=>
 (aJ (aX (aH aT (aA 0) (bI (aB (bI (aB aD aI)) aI)))))
theorem qW {f:Addr} {fd:FuncData} (hbn:∀ x∈bsL,mg x=none) (F:Fun K "before" "before" bZ f fd) {jW:Addr} {iW:FuncData} (dU:Def K mg "rank_of" cN jW iW ["place"]) (fA:aO P w K mg base CX0 1 jW iW ["place"] (spM (cC w K) 1 cM)):aO P w K mg base CX0 2 f fd ["one","other"] (spM (cC w K) 2 aM):=
 eO (C:=cC w K) (k:=1) (N:=["one","other"]) (body:=iT) (fun _ _ _ h=>h) hbn F qV fun cdv A outer s H E=>
 (aJ (aX (jP iQ (s_call dU fA (aB (aA 0) aI)) (s_call dU fA (aB (aA 1) aI)))))
theorem A1 {f:Addr} {fd:FuncData} (hbn:∀ x∈bsL,mg x=none) (F:Fun K "gap" "gap" eQ f fd) {bU:Addr} {bL:FuncData} (bM:Def K mg "before" bZ bU bL ["one","other"]) (bQ:aO P w K mg base CX0 2 bU bL ["one","other"] (spM (cC w K) 2 aM)):aO P w K mg base CX0 3 f fd ["left","right"] (spM (cC w K) 2 dM):=
 eO (C:=cC w K) (k:=2) (N:=["left","right"]) (body:=pF) (fun _ _ _ h=>h) hbn F tN fun cdv A outer s H E=>
 (aG (cK (bC AW (aA 1) iJ)
  (aJ (aX (bI (aB (aA 0) (aB aD aI)))))
  aR)
 (aG (cK (gQ (fF (s_call bM bQ (aB (aA 0) (aB (aA 1) aI)))))
  (aJ BO)
  aR)
 (aG (cK (bC dH (kR (aA 1) dZ (eA (aW cZ PyProof.Rows.Boot.«len» (aB (aA 0) aI) (hb:=(.head _))))) (aA 0))
  (aJ (aX (bI (aB (aA 1) (aB (yS sM aD) aI)))))
  aR)
 (aJ (aX (bI (aB (aA 0) (aB aD aI))))))))
theorem tO {f:Addr} {fd:FuncData} (hbn:∀ x∈bsL,mg x=none) (F:Fun K "_law_mixed" "_law_mixed" dB f fd):aO P w K mg base CX0 1 f fd ["_law_cell","_law_k"] (spM (cC w K) 2 bV):=
 eO (C:=cC w K) (k:=0) (N:=["_law_cell","_law_k","_law_number"]) (body:=lB) (fun _ _ _ h=>h) hbn F mR fun cdv A outer s H E=>
 (aG (bD (i:=2) mR.nd (aH bH (aH lZ (aH aT (aH aT (aA 0) (aH lZ aD (aA 1))) aD) aD) aD))
 (aJ (aX (aH bH (aH lZ (aA 2) (aH aT (aH cL (aA 2) aD) aD)) aD))))
theorem vY {f:Addr} {fd:FuncData} (hbn:∀ x∈bsL,mg x=none) (F:Fun K "_law_hand" "_law_hand" eR f fd):aO P w K mg base CX0 1 f fd ["_law_number"] (spM (cC w K) 1 eC):=
 eO (C:=cC w K) (k:=0) (N:=["_law_number","_law_some","_law_word","_law_rest","_law_k"]) (body:=nS) (fun _ _ _ h=>h) hbn F eE fun cdv A outer s H E=>
 (aG (bD (i:=1) eE.nd oQ)
 (aG (cK (bC iQ (aH bH (aA 0) aD) aD)
  (aJ (aX (cW (aA 1) (aH bH (aH cL (aA 0) aD) aD))))
  aR)
 (aG (cK (bC dH (aH bH (aA 0) aD) aD)
  (aJ (aX (aH Bu oQ (aH aT aD (aH bH (aH cL (aA 0) aD) aD)))))
  aR)
 (aG (bD (i:=2) eE.nd oQ)
 (aG (bD (i:=3) eE.nd (aH cL (aA 0) aD))
 (aG (mF (kU (aB (aH aT aD (aH bH (aH cL (aA 0) aD) aD)) aI) (hb:=(.tail _ (.head _)))) (eB eE.nd)
  (aG (bD (i:=2) eE.nd (aH aT (aA 2) (cW (aA 1) (aH bH (aA 3) aD))))
  (aJ (bD (i:=3) eE.nd (aH cL (aA 3) aD)))))
 (aJ (aX (aA 2)))))))))
theorem vZ {f:Addr} {fd:FuncData} (hbn:∀ x∈bsL,mg x=none) (F:Fun K "_law_step" "_law_step" eS f fd) {dN:Addr} {cT:FuncData} (bX:Def K mg "_law_mixed" dB dN cT ["_law_cell","_law_k"]) (cA:aO P w K mg base CX0 1 dN cT ["_law_cell","_law_k"] (spM (cC w K) 2 bV)) {iX:Addr} {fY:FuncData} (fJ:Def K mg "_law_hand" eR iX fY ["_law_number"]) (gJ:aO P w K mg base CX0 1 iX fY ["_law_number"] (spM (cC w K) 1 eC)):aO P w K mg base CX0 2 f fd ["_law_cell"] (spM (cC w K) 1 eD):=
 eO (C:=cC w K) (k:=1) (N:=["_law_cell","_law_n"]) (body:=nT) (fun _ _ _ h=>h) hbn F lI fun cdv A outer s H E=>
 (aG (bD (i:=1) lI.nd (aH aT aD (aH bH (s_call bX cA (aB (aA 0) (aB aD aI))) aD)))
 (aG (cK (bC dH (aH bH (aH cL (aA 0) aD) aD) aD)
  (aJ (bD (i:=1) lI.nd (aH aT (aH aT aD (aH lZ (s_call bX cA (aB (aA 0) (aB aD aI))) aD)) (aH bH (aA 0) aD))))
  aR)
 (aJ (aX (bI (aB (aH wN (aH lZ (aH bH (aA 0) aD) aD) aD) (aB (s_call fJ gJ (aB (s_call bX cA (aB (aA 0) (aB aD aI))) aI)) (aB (aA 1) (aB (aH bH (s_call bX cA (aB (aA 0) (aB aD aI))) aD) aI)))))))))
theorem oA {f:Addr} {fd:FuncData} (hbn:∀ x∈bsL,mg x=none) (F:Fun K "_law_changed" "_law_changed" cO f fd) {iY:Addr} {fZ:FuncData} (eT:Def K mg "_law_step" eS iY fZ ["_law_cell"]) (fK:aO P w K mg base CX0 2 iY fZ ["_law_cell"] (spM (cC w K) 1 eD)):aO P w K mg base CX0 3 f fd ["_law_step_here","_law_cell"] (spM (cC w K) 2 dS):=
 eO (C:=cC w K) (k:=2) (N:=["_law_step_here","_law_cell","_law_side","_law_hand_here","_law_n","_law_k","_law_way"]) (body:=gG) (fun _ _ _ h=>h) hbn F cP fun cdv A outer s H E=>
 (aG (B6 (aA 0) (B4 (kT (eB cP.nd) (kT (eB cP.nd) (kT (eB cP.nd) (kT (eB cP.nd) B3))))))
 (aG (bD (i:=6) cP.nd (aH bH (aA 1) aD))
 (aG (cK (bC dH (aA 6) aD)
  (aJ (aX (bI (aB (aH wN aD (aA 2)) (aB (aA 3) (aB (aA 4) (aB (aA 5) aI)))))))
  aR)
 (aG (cK (SW.t (w_and (bC dH (aA 6) aD) (iL (bC dH (aW cZ PyProof.Rows.Boot.«len» (aB (aA 3) aI) (hb:=(.head _))) aD))))
  (aJ (aX (bI (aB (aA 2) (aB (kR (aA 3) dZ (eA aD)) (aB (aA 4) (aB (aA 5) aI)))))))
  aR)
 (aG (cK (bC dH (aA 6) aD)
  (aJ (aX (bI (aB (aA 2) (aB (aH aT (aA 3) (cW oQ (aH bH (aH cL (aA 1) aD) aD))) (aB (aA 4) (aB (aA 5) aI)))))))
  aR)
 (aG (cK (bC dH (aA 6) aD)
  (aJ (aX (bI (aB (aA 2) (aB (aA 3) (aB (aH aT (aH bH (aA 4) aD) aD) (aB (aA 5) aI)))))))
  aR)
 (aG (cK (bC dH (aA 6) aD)
  (aJ (aX (bI (aB (aA 2) (aB (aA 3) (aB (aA 4) (aB (aH bH (aH aT (aH aT (aA 5) aD) (aH bH (aH cL (aA 1) aD) aD)) aD) aI)))))))
  aR)
 (aJ (aX (s_call eT fK (aB (aH cL (aA 1) aD) aI)))))))))))
theorem wA {f:Addr} {fd:FuncData} (hbn:∀ x∈bsL,mg x=none) (F:Fun K "_law_next" "_law_next" fH f fd) {dN:Addr} {cT:FuncData} (bX:Def K mg "_law_mixed" dB dN cT ["_law_cell","_law_k"]) (cA:aO P w K mg base CX0 1 dN cT ["_law_cell","_law_k"] (spM (cC w K) 2 bV)) {iY:Addr} {fZ:FuncData} (eT:Def K mg "_law_step" eS iY fZ ["_law_cell"]) (fK:aO P w K mg base CX0 2 iY fZ ["_law_cell"] (spM (cC w K) 1 eD)) {jX:Addr} {iZ:FuncData} (fB:Def K mg "_law_changed" cO jX iZ ["_law_step_here","_law_cell"]) (gK:aO P w K mg base CX0 3 jX iZ ["_law_step_here","_law_cell"] (spM (cC w K) 2 dS)):aO P w K mg base CX0 4 f fd ["_law_met","_law_cell"] (spM (cC w K) 2 iU):=
 eO (C:=cC w K) (k:=3) (N:=["_law_met","_law_cell","_law_way","_law_one","_law_number","_law_at","_law_step_here"]) (body:=nU) (fun _ _ _ h=>h) hbn F eF fun cdv A outer s H E=>
 (aG (bD (i:=2) eF.nd (aH bH (aA 1) aD))
 (aG (cK (SW.t (w_or (bC dH (aA 0) (wR aI)) (oS (bC dH (aA 2) aD))))
  (aJ (aX (bI (aB (aH aT (bI (aB aD aI)) (kR (s_call eT fK (aB (aH cL (aA 1) aD) aI)) (eA aD) dZ)) aI))))
  aR)
 (aG (bD (i:=3) eF.nd (cW (aA 0) (aH bH (aH cL (aA 1) aD) (aW cZ PyProof.Rows.Boot.«len» (aB (aA 0) aI) (hb:=(.head _))))))
 (aG (bD (i:=4) eF.nd (s_call bX cA (aB (aA 1) (aB aD aI))))
 (aG (bD (i:=5) eF.nd (aH bH (aH cL (aA 4) aD) (aW cZ PyProof.Rows.Boot.«len» (aB (aA 3) aI) (hb:=(.head _)))))
 (aG (cK (bC iQ (aA 2) aD)
  (aJ (aX (aH aT (aA 3) (bI (aB (s_call eT fK (aB (aA 4) aI)) aI)))))
  aR)
 (aG (cK (bC dH (aA 2) aD)
  (aJ (aX (kR (aA 3) dZ (eA (aH aT aD (aA 5))))))
  aR)
 (aG (cK (bC dH (aA 2) aD)
  (aG (bD (i:=6) eF.nd (s_call fB gK (aB (cW (aA 3) (aA 5)) (aB (aA 4) aI))))
  (aG (cK (bC dH (aA 5) aD)
   (aJ (bD (i:=6) eF.nd (aH aT (bI (aB aD aI)) (kR (aA 6) (eA aD) dZ))))
   aR)
  (aJ (aX (aH aT (aH aT (kR (aA 3) dZ (eA (aA 5))) (bI (aB (aA 6) aI))) (kR (aA 3) (eA (aH aT (aA 5) aD)) dZ))))))
  aR)
 (aJ (aX (aA 3)))))))))))
theorem lJ {f:Addr} {fd:FuncData} (hbn:∀ x∈bsL,mg x=none) (F:Fun K "_law_is_before" "_law_is_before" bT f fd):aO P w K mg base CX0 1 f fd ["_law_one","_law_other"] (spM (cC w K) 2 bN):=
 eO (C:=cC w K) (k:=0) (N:=["_law_one","_law_other","_law_k"]) (body:=eP) (fun _ _ _ h=>h) hbn F fW fun cdv A outer s H E=>
 (aG (mF (kU (aB (aW B9 PyProof.Rows.Boot.«min» (aB (aW cZ PyProof.Rows.Boot.«len» (aB (aA 0) aI) (hb:=(.head _))) (aB (aW cZ PyProof.Rows.Boot.«len» (aB (aA 1) aI) (hb:=(.head _))) aI)) (hb:=(.tail _ (.tail _ (.head _))))) aI) (hb:=(.tail _ (.head _)))) (eB fW.nd)
  (aJ (cK (bC AV (cW (aA 0) (aA 2)) (cW (aA 1) (aA 2)))
   (aJ (aX (jP iQ (cW (aA 0) (aA 2)) (cW (aA 1) (aA 2)))))
   aR)))
 (aG (cK (bC iQ (aW cZ PyProof.Rows.Boot.«len» (aB (aA 0) aI) (hb:=(.head _))) (aW cZ PyProof.Rows.Boot.«len» (aB (aA 1) aI) (hb:=(.head _))))
  (aJ (aX (jP dH (cW (cW (aA 1) (aW cZ PyProof.Rows.Boot.«len» (aB (aA 0) aI) (hb:=(.head _)))) aD) aD)))
  aR)
 (aJ (aX (AY (jP CQ (aW cZ PyProof.Rows.Boot.«len» (aB (aA 0) aI) (hb:=(.head _))) (aW cZ PyProof.Rows.Boot.«len» (aB (aA 1) aI) (hb:=(.head _)))) (AX (jP dH (cW (cW (aA 0) (aW cZ PyProof.Rows.Boot.«len» (aB (aA 1) aI) (hb:=(.head _)))) aD) (yS sM aD))))))))
structure XR (K:PySem.W.Frag) (mg:Str->Option Value) (C fI Mm a1 a2 a3:Addr) (fdI:FuncData):Prop where
 xc:XCl K C fI
 fn:Fun K "__init__" "NoPlace.__init__" gI fI fdI
 bd:Binds K fdI ["self","place"] []
 np:PySem.W.findIn K (.ref C) "place" = some none
 xi:XI K C
 xm:XM K C Mm
 mC:mg "NoPlace" = some (.ref C)
 mM:mg "MeetError" = some (.ref Mm)
 m1:mg "NoThing" = some (.ref a1)
 m2:mg "Ring" = some (.ref a2)
 m3:mg "Swept" = some (.ref a3)
 mV:mg "ValueError" = none
 kV:PySem.W.subIn K (.ref C) (.type "ValueError")=some true
 k1:PySem.W.kitOne K (.ref C) (.ref a1)=some false
 k2:PySem.W.kitOne K (.ref C) (.ref a2)=some false
 k3:PySem.W.kitOne K (.ref C) (.ref a3)=some false
theorem oB {a ca:Addr} (h0:(Value.ref a == Value.ref ca)=false) (h1:PySem.W.isClsIn K ca=true) (h2:PySem.W.typeIn K (.ref ca)=some (.type "type")) (h3:PySem.W.subIn K (.ref a) (.ref ca)=some false):PySem.W.kitOne K (.ref a) (.ref ca)=some false:=by
 unfold PySem.W.kitOne
 rw [h0]
 unfold PySem.W.kitCls
 have h1':(PySem.W.clsIn K ca).isSome=true:=h1
 simp only [h1',h2]
 exact h3
theorem tP {a:Addr}:PySem.W.kitOne K (.ref a) (.ref a)=some true:=by
 unfold PySem.W.kitOne
 exact if_pos (beq_self_eq_true _)
theorem A2 {a:Addr} (h:PySem.W.subIn K (.ref a) (.type "ValueError")=some true):PySem.W.kitOne K (.ref a) (.type "ValueError")=some true:=by
 unfold PySem.W.kitOne
 rw [if_neg (show ¬ (Value.ref a == Value.type "ValueError")=true from fun z=>nomatch z)]
 unfold PySem.W.kitCls
 dsimp only
 rw [if_pos (by decide +kernel)]
 exact h
theorem mS {x y:PV} {h:PH} (hne:bW [x,y] h≠.bad):∃ l r h1,x=.tup l/\y=.tup r/\aM [.tup l,.tup r] h=.ok (.bl false) h1/\fD (.tup l) (.tup l) h1=some true/\bW [x,y] h=.ok (.bl true) h1:=by
 cases x with
 | tup l=>
  cases y with
  | tup r=>
   have e:bW [.tup l,.tup r] h=(match (match aM [.tup l,.tup r] h with
    | .ok (.bl false) h1=>if fD (.tup l) (.tup l) h1=some true then Fl.rt (.bl true) h1 else .bad
    | _=>.bad) with
    | .nx _ h'=>.ok .non h'
    | .rt p h'=>.ok p h'
    | .exc x h'=>.exc x h'
    | _=>.bad):=rfl
   rw [e] at hne ⊢
   cases q:aM [.tup l,.tup r] h with
   | bad=>rw [q] at hne; exact absurd rfl hne
   | exc a b=>rw [q] at hne; exact absurd rfl hne
   | ok z h1=>
    rw [q] at hne
    cases z with
    | bl b=>
     cases b with
     | true=>exact absurd rfl hne
     | false=>
      dsimp only at hne ⊢
      by_cases g:fD (.tup l) (.tup l) h1=some true
      ·exact ⟨l,r,h1,rfl,rfl,q,g,by rw [if_pos g]⟩
      ·rw [if_neg g] at hne; exact absurd rfl hne
    | _=>exact absurd rfl hne
  | _=>exact absurd rfl hne
 | _=>exact absurd rfl hne
theorem wB {C fI Mm a1 a2 a3:Addr} {fdI:FuncData} (xr:XR K mg C fI Mm a1 a2 a3 fdI):aO P w K mg base CX0 1 fI fdI ["self","place"] (spI C "place"):=
 xr.fn.ok (k:=0) vX (fun vs H Q E h=>by obtain ⟨e,v,rfl,_⟩:=h; rfl) fun cdv A outer s H vs Q E hr h=>
  ⟨_,fM (vO (pv 0) (pv 1) xr.xc (show PySem.W.takerIn K C "place" = some none by unfold PySem.W.takerIn; rw [xr.np]; rfl)),by
   obtain ⟨e,v,rfl,he,hq⟩:=h
   exact ⟨v,rfl,.ref e,rfl,e,rfl,he,hq⟩⟩
def spG (C:MC) (Cc:Addr):Sp:=fun vs H Q E=>∃ φ h l r h1 v u,RH C φ H h/\vs=[v,u]/\RV C φ H (.tup l) v/\RV C φ H (.tup r) u/\aM [.tup l,.tup r] h=.ok (.bl false) h1/\
 ∀ v' φ1 H1 H2 e dx T,φ<+:φ1->Kp H H1->RH C φ1 H1 h1->RV C φ1 H1 (.tup l) v'->Fly Cc "place" v' H1 H2 e dx (.ref T) .none->E (.ref e) (some dx) H2
theorem BW {f:Addr} {fd:FuncData} {C fI Mm a1 a2 a3:Addr} {fdI:FuncData} (xr:XR K mg C fI Mm a1 a2 a3 fdI) (hbn:∀ x∈bsL,mg x=none) (F:Fun K "gap" "gap" eQ f fd) {bU:Addr} {bL:FuncData} (bM:Def K mg "before" bZ bU bL ["one","other"]) (bQ:aO P w K mg base CX0 2 bU bL ["one","other"] (spM (cC w K) 2 aM)):
  aO P w K mg base (CX1 P w) 3 f fd ["left","right"] (spG (cC w K) C):=
 F.okX (k:=2) tN (fun vs H Q E h=>by obtain ⟨_,_,_,_,_,v,u,_,rfl,_⟩:=h; rfl) fun cdv A outer s H vs Q E hr h=>by
  have c:Cxt (cC w K) 2 (gY (CX1 P w) P w K mg base ["left","right"] "gap" (aF eQ) f cdv A outer s H E):=⟨rfl,rfl,hr,hbn,rfl⟩
  refine ⟨_,dE (cK (bC AW (aA 1) iJ) (aJ (aX (bI (aB (aA 0) (aB aD aI))))) aR c) (dE (oG (gQ (C:=cC w K) (k:=2) (fF (s_call (C:=cC w K) bM bQ (aB (aA 0) (aB (aA 1) aI)))) c) (fM (tF xr.xc (wB xr) xr.bd hr rfl rfl xr.mC (dI (pv 0) iB))) eV) eV),?_⟩
  obtain ⟨φ,h,l,r,h1,v,u,rh,rfl,rv,ru,hb,hE⟩:=h
  have rvs:RVs (cC w K) φ H [.tup l,.tup r] [v,u]:=⟨rv,ru,trivial⟩
  refine ⟨φ,[some (.tup l),some (.tup r)],h,rh,RE.start rvs ["left","right"],?_⟩
  show bK _ _ _ (.nx [some (.tup l),some (.tup r)] h) _
  intro φ1 σ1 H1 p1 t1 rh1 re1
  refine ⟨φ1,[some (.tup l),some (.tup r)],h,rh1,re1,?_⟩
  have ht:(eN (bF (aZ 2 aM (aC (mV 0) (aC (mV 1) aL))))) [some (.tup l),some (.tup r)] h=.ok true h1:=by simp [hb]
  rw [ht]
  intro φ2 H2 p2 t2 rh2
  refine qG ?_
  obtain ⟨v1,e1,rv1⟩:=re1.2 0 (.tup l) rfl
  exact ⟨v1,e1,v1,rfl,fun pins e dx H3 s' I3 F3=>BQ I3 F3 fun H4 T F4=>hE v1 φ2 H2 H4 e dx T (p1.trans p2) (t1.trans t2) rh2 (rv1.mono p2 t2) F4⟩
theorem oC {f:Addr} {fd:FuncData} (hbn:∀ x∈bsL,mg x=none) (F:Fun K "_law_refused" "_law_refused" cF f fd) {bU:Addr} {bL:FuncData} (bM:Def K mg "before" bZ bU bL ["one","other"]) (bQ:aO P w K mg base CX0 2 bU bL ["one","other"] (spM (cC w K) 2 aM)) {gU:Addr} {eU:FuncData} (dW:Def K mg "gap" eQ gU eU ["left","right"]) (gW:aO P w K mg base CX0 3 gU eU ["left","right"] (spM (cC w K) 2 dM))
  {C fI Mm a1 a2 a3:Addr} {fdI:FuncData} (xr:XR K mg C fI Mm a1 a2 a3 fdI):aO P w K mg base CX0 4 f fd ["_law_left","_law_right"] (spM (cC w K) 2 bW):=by
 refine F.ok (k:=3) iV (fun vs H Q E h=>?_) (fun cdv A outer s H vs Q E hr h=>?_)
 ·obtain ⟨φ,h,xs,rh,rv,hl,_⟩:=h
  rw [<- rv.length]
  exact hl
 have c:Cxt (cC w K) 3 (gY CX0 P w K mg base ["_law_left","_law_right","_law_fault","e"] "_law_refused" (aF cF) f cdv A outer s H E).nox:=⟨rfl,rfl,hr,hbn,rfl⟩
 have nd:=iV.nd
 have hm:mg "isinstance" = none:=hbn _ (by decide)
 have ht:mg "tuple" = none:=hbn _ (by decide)
 refine ⟨_,dE (mZ nd (i:=2) rfl (.inl rfl) qY) (dE (zU (f:="place") (jy:=2) (jn:=3) (BW xr hbn dW.fn bM bQ) hr rfl dW.mg dW.fn.kp dW.bd (fun E=>dI (pv 0) (dI (pv 1) iB)) rfl rfl xr.xm rfl xr.mM nd rfl rfl rfl rfl)
  (dE (oG (oF (mY (hX (iS "place" xr.xc xr.xi (pv 2) (hG (v:=.ref C) (by rfl) xr.mC rfl) (fun u r=>r) tP hm))) (mX (mY (hX (iS "place" xr.xc xr.xi (pv 2) (kC (v:=.ty "ValueError") (by rfl) xr.mV PyProof.Rows.Boot.«ValueError» rfl) (fun u r=>r) (A2 xr.kV) hm))))).pt eV kD)
  (dE (oG (oF (hX (iS "place" xr.xc xr.xi (pv 2) (hG (v:=.ref a1) (by rfl) xr.m1 rfl) (fun u r=>r) xr.k1 hm)) (oF (hX (iS "place" xr.xc xr.xi (pv 2) (hG (v:=.ref a2) (by rfl) xr.m2 rfl) (fun u r=>r) xr.k2 hm)) (mX (hX (iS "place" xr.xc xr.xi (pv 2) (hG (v:=.ref a3) (by rfl) xr.m3 rfl) (fun u r=>r) xr.k3 hm))))).pt eV kD)
  (fM (rA (xO (pec ((rW c.hu64 K rfl).or (rX c.hu64 K rfl)) (pC (pv 2) xr.xc xr.np) (pv 0)) (qZ (iC (mH (C:=cC w K) rfl) rfl hm PyProof.Rows.Boot.«isinstance» (dI (pC (pv 2) xr.xc xr.np) (dI (kC (v:=.ty "tuple") (by rfl) ht PyProof.Rows.Boot.«tuple» rfl) iB)))))))))),?_⟩
 obtain ⟨φ,h,xs,rh,rv,hl,po⟩:=h
 obtain ⟨x,y,rfl⟩:∃ x y,xs=[x,y]:=match xs,hl with | [x,y],_=>⟨x,y,rfl⟩
 obtain ⟨v,u,rfl,rx,ry⟩:=rv.two
 have hne:bW [x,y] h≠.bad:=fun z=>by rw [z] at po; exact po
 obtain ⟨l,r,h1,rfl,rfl,hb,he,hr2⟩:=mS hne
 rw [hr2] at po
 refine ⟨v,rfl,u,rfl,fun x d H2=>∃ v' φ1 H1 e dx T,x=.ref e/\φ<+:φ1/\Kp H H1/\RH (cC w K) φ1 H1 h1/\RV (cC w K) φ1 H1 (.tup l) v'/\Fly C "place" v' H1 H2 e dx (.ref T) .none,⟨φ,h,l,r,h1,v,u,rh,rfl,rx,ry,hb,fun v' φ1 H1 H2 e dx T a b c d F=>⟨v',φ1,H1,e,dx,T,rfl,a,b,c,d,F⟩⟩,fun x d H2 hE=>?_⟩
 obtain ⟨v',φ1,H1,e,dx,T,rfl,p1,t1,rh1,rv1,F1⟩:=hE
 refine ⟨e,dx,T,v',H1,rfl,F1,fun H3 T' F3=>?_⟩
 have kp:Kp H1 H3:=Kp.same fun b o q=>(F3.same b (by rw [q]; exact fun z=>nomatch z)).trans q
 have rh3:RH (cC w K) φ1 H3 h1:=⟨rh1.len,rh1.nd,fun n a o q1 q2=>by
  have z:=rh1.at' n a o q1 q2
  obtain ⟨o',q3⟩:=z.some
  exact z.stay List.prefix_rfl kp (F3.same a (by rw [q3]; exact fun z=>nomatch z))⟩
 have rv3:=rv1.mono List.prefix_rfl kp
 have rx3:=rx.mono p1 (t1.trans kp)
 obtain ⟨a',vs',rfl,sa,ra⟩:=id rv3
 refine ⟨.ref e,rfl,.ref e,rfl,e,dx,_,_,rfl,F3.at',F3.dt,true,rfl,kL ?_⟩
 refine ⟨.ref e,rfl,.ref e,rfl,e,dx,_,_,rfl,F3.at',F3.dt,true,rfl,kL ?_⟩
 refine ⟨.ref e,rfl,.ref e,rfl,e,dx,_,_,rfl,F3.at',F3.dt,false,rfl,kL ?_⟩
 refine ⟨.ref e,rfl,.ref e,rfl,e,dx,_,_,rfl,F3.at',F3.dt,false,rfl,kL ?_⟩
 refine ⟨.ref e,rfl,.ref e,rfl,e,dx,_,_,rfl,F3.at',F3.dt,false,rfl,kL ?_⟩
 refine ⟨.ref e,rfl,e,dx,_,a',rfl,F3.at',F3.dt,v,rfl,?_⟩
 have fin:∃ c,V.bl true=.bl c/\if c=true then tCB (fun xs H Q=>∃ x c t b,xs=[x,.ty c]/\(fN K H x (.type t)\/(∃ a vs,x=.ref a/\SqT K H a vs/\t="tuple")\/(∃ a vs,x=.ref a/\SqL K H a vs/\t="list"))/\PySem.W.kitOne K (.type t) (.type c)=some b/\Q (.bl b) H) (rJ (wZ C "place" (xG 2)) (rJ (tC (.ty "tuple")) Ax)) [some v,some u,some (.ref e),none] H3 Q else Q (.bl false) H3:=
  ⟨true,rfl,qG ⟨.ref e,rfl,e,dx,_,a',rfl,F3.at',F3.dt,.ref a',"tuple","tuple",true,rfl,.inr (.inl ⟨a',vs',rfl,sa,rfl⟩),rfl,po φ1 (.bl true) H3 p1 (t1.trans kp) rh3 rfl⟩⟩
 rcases fG rh3 rv3 rx3 he with ⟨d,e',q1,q2,q3,q4⟩ | ⟨d,e',q1,q2,q3,q4⟩
 ·exact .inl ⟨d,e',q1,q2,q3,by rw [<- q4]; exact fin⟩
 ·exact .inr ⟨d,e',q1,q2,q3,by rw [<- q4]; exact fin⟩
theorem tQ {f:Addr} {fd:FuncData} (hbn:∀ x∈bsL,mg x=none) (F:Fun K "_law_given" "_law_given" eG f fd) {bU:Addr} {bL:FuncData} (bM:Def K mg "before" bZ bU bL ["one","other"]) (bQ:aO P w K mg base CX0 2 bU bL ["one","other"] (spM (cC w K) 2 aM)) {gU:Addr} {eU:FuncData} (dW:Def K mg "gap" eQ gU eU ["left","right"]) (gW:aO P w K mg base CX0 3 gU eU ["left","right"] (spM (cC w K) 2 dM)) {gX:Addr} {gA:FuncData} (cG:Def K mg "_law_is_before" bT gX gA ["_law_one","_law_other"]) (cU:aO P w K mg base CX0 1 gX gA ["_law_one","_law_other"] (spM (cC w K) 2 bN)) {jY:Addr} {jA:FuncData} (fC:Def K mg "_law_refused" cF jY jA ["_law_left","_law_right"]) (gL:aO P w K mg base CX0 4 jY jA ["_law_left","_law_right"] (spM (cC w K) 2 bW)):aO P w K mg base CX0 5 f fd ["_law_left","_law_right","_law_name"] (spM (cC w K) 3 eY):=
 eO (C:=cC w K) (k:=4) (N:=["_law_left","_law_right","_law_name","_law_found","_law_due","_law_place","_law_k"]) (body:=eX) (fun _ _ _ h=>h) hbn F cS fun cdv A outer s H E=>
 (aG (cK (SW.t (w_and (bC kQ (aA 1) iJ) (iL (gQ (fF (s_call cG cU (aB (aA 0) (aB (aA 1) aI))))))))
  (aJ (aX (s_call fC gL (aB (aA 0) (aB (aA 1) aI)))))
  aR)
 (aG (bD (i:=3) cS.nd (s_call dW gW (aB (aA 0) (aB (aA 1) aI))))
 (aG (bD (i:=4) cS.nd (bI (aB (aA 0) (aB aD aI))))
 (aG (cK (SW.t (w_and (bC kQ (aA 1) iJ) (iL (bC dH (kR (aA 1) dZ (eA (aW cZ PyProof.Rows.Boot.«len» (aB (aA 0) aI) (hb:=(.head _))))) (aA 0)))))
  (aJ (bD (i:=4) cS.nd (bI (aB (aA 1) (aB (yS sM aD) aI)))))
  aR)
 (aG (cK (SW.t (w_or (gQ (fF (aW fT PyProof.Rows.Boot.«isinstance» (aB (aA 3) (aB (rZ (n:="tuple") PyProof.Rows.Boot.«tuple» (hb:=(.tail _ (.tail _ (.tail _ (.tail _ (.tail _ (.head _)))))))) aI)) (hb:=(.tail _ (.tail _ (.tail _ (.tail _ (.head _))))))))) (w_or (bC AV (aA 3) (aA 4)) (oS (fF (aW fT PyProof.Rows.Boot.«isinstance» (aB (cW (aA 3) aD) (aB (rZ (n:="bool") PyProof.Rows.Boot.«bool» (hb:=(.tail _ (.tail _ (.tail _ (.head _)))))) aI)) (hb:=(.tail _ (.tail _ (.tail _ (.tail _ (.head _))))))))))))
  (aJ (aX rY))
  aR)
 (aG (bD (i:=5) cS.nd (aH aT (cW (aA 4) aD) (bI (aB (bI (aB (cW (aA 4) aD) (aB (cW (aA 2) aD) (aB (cW (aA 2) aD) (aB aD aI))))) aI))))
 (aG (mF (kU (aB aD aI) (hb:=(.tail _ (.head _)))) (eB cS.nd)
  (aG (cK (SW.t (w_or (gQ (fF (s_call cG cU (aB (aA 0) (aB (aA 5) aI))))) (oS (gQ (fF (s_call bM bQ (aB (aA 0) (aB (aA 5) aI))))))))
   (aJ (aX rY))
   aR)
  (aG (cK (SW.t (w_and (bC kQ (aA 1) iJ) (iL (gQ (SW.t (w_and (fF (s_call cG cU (aB (aA 5) (aB (aA 1) aI)))) (iL (fF (s_call bM bQ (aB (aA 5) (aB (aA 1) aI)))))))))))
   (aJ (aX rY))
   aR)
  (aG (bD (i:=0) cS.nd (aA 5))
  (aJ (bD (i:=5) cS.nd (aH aT (aA 5) (bI (aB (bI (aB aD (aB (cW (aA 2) aD) (aB (cW (aA 2) aD) (aB (aH aT (aA 6) aD) aI))))) aI)))))))))
 (aJ (aX rY)))))))))
theorem A3 {f:Addr} {fd:FuncData} (hbn:∀ x∈bsL,mg x=none) (F:Fun K "law" "law" fX f fd) {gU:Addr} {eU:FuncData} (dW:Def K mg "gap" eQ gU eU ["left","right"]) (gW:aO P w K mg base CX0 3 gU eU ["left","right"] (spM (cC w K) 2 dM)) {dN:Addr} {cT:FuncData} (bX:Def K mg "_law_mixed" dB dN cT ["_law_cell","_law_k"]) (cA:aO P w K mg base CX0 1 dN cT ["_law_cell","_law_k"] (spM (cC w K) 2 bV)) {iX:Addr} {fY:FuncData} (fJ:Def K mg "_law_hand" eR iX fY ["_law_number"]) (gJ:aO P w K mg base CX0 1 iX fY ["_law_number"] (spM (cC w K) 1 eC)) {tR:Addr} {pN:FuncData} (lK:Def K mg "_law_next" fH tR pN ["_law_met","_law_cell"]) (oE:aO P w K mg base CX0 4 tR pN ["_law_met","_law_cell"] (spM (cC w K) 2 iU)) {pO:Addr} {mT:FuncData} (hU:Def K mg "_law_given" eG pO mT ["_law_left","_law_right","_law_name"]) (lL:aO P w K mg base CX0 5 pO mT ["_law_left","_law_right","_law_name"] (spM (cC w K) 3 eY)):aO P w K mg base CX0 6 f fd ["_law_script"] (spM (cC w K) 1 jT):=
 eO (C:=cC w K) (k:=5) (N:=["_law_script","_law_met","_law_cell","_law_k","_law_number","_law_left","_law_right"]) (body:=tG) (fun _ _ _ h=>h) hbn F dG fun cdv A outer s H E=>
 (aG (bD (i:=1) dG.nd (wR aI))
 (aG (mF (B8 (kR (aA 0) dZ (eA aD))) (eB dG.nd)
  (aJ (B7 (CW PySem.F.plainAttrs_list PySem.F.slot_list_append PySem.F.type_list_append sL (aA 1) (aB (s_call lK oE (aB (aA 1) (aB (aA 2) aI))) aI)))))
 (aG (mF (kU (aB (aW cZ PyProof.Rows.Boot.«len» (aB (aA 1) aI) (hb:=(.head _))) aI) (hb:=(.tail _ (.head _)))) (eB dG.nd)
  (aG (bD (i:=4) dG.nd (s_call bX cA (aB (cW (aA 0) (aA 3)) (aB aD aI))))
  (aG (bD (i:=5) dG.nd (cW (aA 1) (aA 3)))
  (aG (bD (i:=6) dG.nd (cW (aA 1) (aH bH (aH aT (aH cL (aA 4) aD) (aA 3)) (aW cZ PyProof.Rows.Boot.«len» (aB (aA 1) aI) (hb:=(.head _))))))
  (aG (cK (bC dH (aH bH (aA 4) aD) aD)
   (aG (bD (i:=5) dG.nd (cW (aA 1) (aH bH (aH aT (aH cL (aA 4) aD) (aA 3)) (aW cZ PyProof.Rows.Boot.«len» (aB (aA 1) aI) (hb:=(.head _))))))
   (aJ (bD (i:=6) dG.nd (cW (aA 1) (aA 3)))))
   aR)
  (aG (cK (bC dH (aH bH (aH cL (aA 4) aD) aD) aD)
   (aJ (bD (i:=5) dG.nd (bI aI)))
   aR)
  (aG (cK (SW.t (w_or (bC dH (aH bH (aH cL (aA 4) aD) aD) aD) (oS (bC dH (aH bH (aH bH (aA 4) aD) aD) aD))))
   (aJ (bD (i:=6) dG.nd iJ))
   aR)
  (aJ (cK (gQ (fF (s_call hU lL (aB (aA 5) (aB (aA 6) (aB (bI (aB (s_call fJ gJ (aB (aA 4) aI)) (aB (aH aT aD (aH cL (aA 4) aD)) aI))) aI))))))
   (aJ (aX rY))
   aR)))))))))
 (aJ (aX (jP dH (s_call dW gW (aB (bI aI) (aB iJ aI))) (bI (aB (bI aI) (aB aD aI)))))))))
end
@[elab_as_elim] theorem A4 {P:List Value->Prop} (us:List Value) (hl:us.length=1) (h:∀ a0,P [a0]):P us:=by
 cases us with
 | nil=>cases hl
 | cons a0 us=>
  cases us with
  | nil=>exact h a0
  | cons b us=>
   simp only [List.length_cons] at hl
   omega
@[elab_as_elim] theorem mU {P:List Value->Prop} (us:List Value) (hl:us.length=2) (h:∀ a0 a1,P [a0,a1]):P us:=by
 cases us with
 | nil=>cases hl
 | cons a0 us=>
  cases us with
  | nil=>cases hl
  | cons a1 us=>
   cases us with
   | nil=>exact h a0 a1
   | cons b us=>
    simp only [List.length_cons] at hl
    omega
@[elab_as_elim] theorem Dn {P:List Value->Prop} (us:List Value) (hl:us.length=3) (h:∀ a0 a1 a2,P [a0,a1,a2]):P us:=by
 cases us with
 | nil=>cases hl
 | cons a0 us=>
  cases us with
  | nil=>cases hl
  | cons a1 us=>
   cases us with
   | nil=>cases hl
   | cons a2 us=>
    cases us with
    | nil=>exact h a0 a1 a2
    | cons b us=>
     simp only [List.length_cons] at hl
     omega
theorem all_mk {l:PySem.W.OpenLaw} {w:World} {K:PySem.W.Frag} {h:Heap} {mg:Str->Option Value} {fa f0 f1 f2 f3 f4 f5 f6 f7 f8 f9 f10 f11:Addr} (X:K.In h) (G:h.Ns mainGlobals mg) (hfa:mg "law" = some (.ref fa)) (hbn:∀ x∈bsL,mg x=none)
  {oc0 kV0 doc0 pm0 cdv0 ct0:Value} {od0 an0:Option Addr} {osl0:Array (Option Value)} (a0:PySem.W.nsIn K mainGlobals "rank_of" = some (some (.ref f0))) (l0:K.lookup f0=some ⟨oc0,od0,.func (PySem.W.fnOf "rank_of" "rank_of" (aU cN) (aN cN) (aF cN) .none kV0 doc0 pm0 an0 cdv0 ct0),osl0⟩) (c0:PySem.W.codeIn K cdv0 "rank_of" = true) (k0:PySem.W.keepIn K (.ref f0)=true)
  {oc1 kV1 doc1 pm1 cdv1 ct1:Value} {od1 an1:Option Addr} {osl1:Array (Option Value)} (a1:PySem.W.nsIn K mainGlobals "before" = some (some (.ref f1))) (l1:K.lookup f1=some ⟨oc1,od1,.func (PySem.W.fnOf "before" "before" (aU bZ) (aN bZ) (aF bZ) .none kV1 doc1 pm1 an1 cdv1 ct1),osl1⟩) (c1:PySem.W.codeIn K cdv1 "before" = true) (k1:PySem.W.keepIn K (.ref f1)=true)
  {oc2 kV2 doc2 pm2 cdv2 ct2:Value} {od2 an2:Option Addr} {osl2:Array (Option Value)} (a2:PySem.W.nsIn K mainGlobals "gap" = some (some (.ref f2))) (l2:K.lookup f2=some ⟨oc2,od2,.func (PySem.W.fnOf "gap" "gap" (aU eQ) (aN eQ) (aF eQ) .none kV2 doc2 pm2 an2 cdv2 ct2),osl2⟩) (c2:PySem.W.codeIn K cdv2 "gap" = true) (k2:PySem.W.keepIn K (.ref f2)=true)
  {oc3 kV3 doc3 pm3 cdv3 ct3:Value} {od3 an3:Option Addr} {osl3:Array (Option Value)} (a3:PySem.W.nsIn K mainGlobals "_law_mixed" = some (some (.ref f3))) (l3:K.lookup f3=some ⟨oc3,od3,.func (PySem.W.fnOf "_law_mixed" "_law_mixed" (aU dB) (aN dB) (aF dB) .none kV3 doc3 pm3 an3 cdv3 ct3),osl3⟩) (c3:PySem.W.codeIn K cdv3 "_law_mixed" = true) (k3:PySem.W.keepIn K (.ref f3)=true)
  {oc4 kV4 doc4 pm4 cdv4 ct4:Value} {od4 an4:Option Addr} {osl4:Array (Option Value)} (a4:PySem.W.nsIn K mainGlobals "_law_hand" = some (some (.ref f4))) (l4:K.lookup f4=some ⟨oc4,od4,.func (PySem.W.fnOf "_law_hand" "_law_hand" (aU eR) (aN eR) (aF eR) .none kV4 doc4 pm4 an4 cdv4 ct4),osl4⟩) (c4:PySem.W.codeIn K cdv4 "_law_hand" = true) (k4:PySem.W.keepIn K (.ref f4)=true)
  {oc5 kV5 doc5 pm5 cdv5 ct5:Value} {od5 an5:Option Addr} {osl5:Array (Option Value)} (a5:PySem.W.nsIn K mainGlobals "_law_step" = some (some (.ref f5))) (l5:K.lookup f5=some ⟨oc5,od5,.func (PySem.W.fnOf "_law_step" "_law_step" (aU eS) (aN eS) (aF eS) .none kV5 doc5 pm5 an5 cdv5 ct5),osl5⟩) (c5:PySem.W.codeIn K cdv5 "_law_step" = true) (k5:PySem.W.keepIn K (.ref f5)=true)
  {oc6 kV6 doc6 pm6 cdv6 ct6:Value} {od6 an6:Option Addr} {osl6:Array (Option Value)} (a6:PySem.W.nsIn K mainGlobals "_law_changed" = some (some (.ref f6))) (l6:K.lookup f6=some ⟨oc6,od6,.func (PySem.W.fnOf "_law_changed" "_law_changed" (aU cO) (aN cO) (aF cO) .none kV6 doc6 pm6 an6 cdv6 ct6),osl6⟩) (c6:PySem.W.codeIn K cdv6 "_law_changed" = true) (k6:PySem.W.keepIn K (.ref f6)=true)
  {oc7 kV7 doc7 pm7 cdv7 ct7:Value} {od7 an7:Option Addr} {osl7:Array (Option Value)} (a7:PySem.W.nsIn K mainGlobals "_law_next" = some (some (.ref f7))) (l7:K.lookup f7=some ⟨oc7,od7,.func (PySem.W.fnOf "_law_next" "_law_next" (aU fH) (aN fH) (aF fH) .none kV7 doc7 pm7 an7 cdv7 ct7),osl7⟩) (c7:PySem.W.codeIn K cdv7 "_law_next" = true) (k7:PySem.W.keepIn K (.ref f7)=true)
  {oc8 kV8 doc8 pm8 cdv8 ct8:Value} {od8 an8:Option Addr} {osl8:Array (Option Value)} (a8:PySem.W.nsIn K mainGlobals "_law_is_before" = some (some (.ref f8))) (l8:K.lookup f8=some ⟨oc8,od8,.func (PySem.W.fnOf "_law_is_before" "_law_is_before" (aU bT) (aN bT) (aF bT) .none kV8 doc8 pm8 an8 cdv8 ct8),osl8⟩) (c8:PySem.W.codeIn K cdv8 "_law_is_before" = true) (k8:PySem.W.keepIn K (.ref f8)=true)
  {oc9 kV9 doc9 pm9 cdv9 ct9:Value} {od9 an9:Option Addr} {osl9:Array (Option Value)} (a9:PySem.W.nsIn K mainGlobals "_law_refused" = some (some (.ref f9))) (l9:K.lookup f9=some ⟨oc9,od9,.func (PySem.W.fnOf "_law_refused" "_law_refused" (aU cF) (aN cF) (aF cF) .none kV9 doc9 pm9 an9 cdv9 ct9),osl9⟩) (c9:PySem.W.codeIn K cdv9 "_law_refused" = true) (k9:PySem.W.keepIn K (.ref f9)=true)
  {oc10 kV10 doc10 pm10 cdv10 ct10:Value} {od10 an10:Option Addr} {osl10:Array (Option Value)} (a10:PySem.W.nsIn K mainGlobals "_law_given" = some (some (.ref f10))) (l10:K.lookup f10=some ⟨oc10,od10,.func (PySem.W.fnOf "_law_given" "_law_given" (aU eG) (aN eG) (aF eG) .none kV10 doc10 pm10 an10 cdv10 ct10),osl10⟩) (c10:PySem.W.codeIn K cdv10 "_law_given" = true) (k10:PySem.W.keepIn K (.ref f10)=true)
  {oc11 kV11 doc11 pm11 cdv11 ct11:Value} {od11 an11:Option Addr} {osl11:Array (Option Value)} (a11:PySem.W.nsIn K mainGlobals "law" = some (some (.ref f11))) (l11:K.lookup f11=some ⟨oc11,od11,.func (PySem.W.fnOf "law" "law" (aU fX) (aN fX) (aF fX) .none kV11 doc11 pm11 an11 cdv11 ct11),osl11⟩) (c11:PySem.W.codeIn K cdv11 "law" = true) (k11:PySem.W.keepIn K (.ref f11)=true)
  {xC xM x1 x2 x3 xI:Addr} {xnm xq:Str} {xN:Addr} {xbs:List Value} {xsn:List Str} {xsub:List Value} {xab:Bool} {xcol:Option Bool} {xdd:Option Addr} {xk0 xk1 xk2 xk3 xk5:Option Value} {xoc xkV xdoc xpm xcdv xct:Value} {xod xan xMd:Option Addr} {xosl xMs:Array (Option Value)} {xMc:ClassData}
  (xn0:PySem.W.nsIn K mainGlobals "NoPlace" = some (some (.ref xC)))
  (xn1:PySem.W.nsIn K mainGlobals "MeetError" = some (some (.ref xM)))
  (xn2:PySem.W.nsIn K mainGlobals "NoThing" = some (some (.ref x1)))
  (xn3:PySem.W.nsIn K mainGlobals "Ring" = some (some (.ref x2)))
  (xn4:PySem.W.nsIn K mainGlobals "Swept" = some (some (.ref x3)))
  (xn5:PySem.W.nsIn K mainGlobals "ValueError" = some none)
  (xi:PySem.W.findIn K (.ref xC) "__init__" = some (some (.ref xI)))
  (xo:K.lookup xC=some (excClassObj xnm xq xC xN xbs (.ref xM :: bmV) true xsn xsub xab xcol xdd xk0 xk1 xk2 xk3 xk5 "ValueError.__new__"))
  (xl:K.lookup xI=some ⟨xoc,xod,.func (PySem.W.fnOf "__init__" "NoPlace.__init__" (aU gI) (aN gI) (aF gI) .none xkV xdoc xpm xan xcdv xct),xosl⟩)
  (xc:PySem.W.codeIn K xcdv "NoPlace.__init__" = true)
  (xk:PySem.W.keepIn K (.ref xI)=true)
  (xf:PySem.W.typeIn K (.ref xI)=some (.type "function"))
  (xkp:PySem.W.keepIn K (.ref xC)=true)
  (xsa:PySem.W.findIn K (.ref xC) "__setattr__" = some (some (.builtin "object.__setattr__")))
  (xga:PySem.W.findIn K (.ref xC) "__getattribute__" = some (some (.builtin "BaseException.__getattribute__")))
  (xgt:PySem.W.findIn K (.ref xC) "__getattr__" = some none)
  (xnp:PySem.W.findIn K (.ref xC) "place" = some none)
  (xia:PySem.W.findIn K (.ref xC) "__class__" = some (some (.builtin "object.__class__")))
  (xib:PySem.W.specialIn K (.builtin "object.__class__") "__get__" = some (some (.builtin "getset_descriptor.__get__")))
  (xic:PySem.W.takesIn K (.builtin "object.__class__")=some true)
  (xmo:K.lookup xM=some ⟨.type "type",xMd,.cls xMc,xMs⟩)
  (xmt:PySem.W.subIn K (.ref xM) (.type "BaseException")=some true)
  (xms:PySem.W.subIn K (.ref xC) (.ref xM)=some true)
  (xv:PySem.W.subIn K (.ref xC) (.type "ValueError")=some true)
  (xa1:PySem.W.isClsIn K x1=true)
  (xb1:PySem.W.typeIn K (.ref x1)=some (.type "type"))
  (xs1:PySem.W.subIn K (.ref xC) (.ref x1)=some false)
  (xa2:PySem.W.isClsIn K x2=true)
  (xb2:PySem.W.typeIn K (.ref x2)=some (.type "type"))
  (xs2:PySem.W.subIn K (.ref xC) (.ref x2)=some false)
  (xa3:PySem.W.isClsIn K x3=true)
  (xb3:PySem.W.typeIn K (.ref x3)=some (.type "type"))
  (xs3:PySem.W.subIn K (.ref xC) (.ref x3)=some false)
  (xt:PySem.W.tailIn K bmV (.ref xM :: bmV)=true)
  (xd1:(Value.ref xC == Value.ref x1)=false)
  (xd2:(Value.ref xC == Value.ref x2)=false)
  (xd3:(Value.ref xC == Value.ref x3)=false)
  : ∃ fd:FuncData,(∀ (s:Shared) (v:Value),BindsTo s fd ⟨[v],[]⟩ [("_law_script",v)])/\∀ base:Heap,K.In base->base.Ns mainGlobals mg->aO l.prog w K mg base CX0 6 fa fd ["_law_script"] (spM (cC w K) 1 jT):=by
 have e:=hfa.symm.trans (PySem.W.mg_of X G a11)
 cases e
 have dU:Def K mg "rank_of" cN f0 _ ["place"]:=Def.mk' X G a0 l0 c0 k0 (fun _ _ _ _ _ _ us hl=>A4 us hl fun _=>rfl)
 have bM:Def K mg "before" bZ f1 _ ["one","other"]:=Def.mk' X G a1 l1 c1 k1 (fun _ _ _ _ _ _ us hl=>mU us hl fun _ _=>rfl)
 have dW:Def K mg "gap" eQ f2 _ ["left","right"]:=Def.mk' X G a2 l2 c2 k2 (fun _ _ _ _ _ _ us hl=>mU us hl fun _ _=>rfl)
 have bX:Def K mg "_law_mixed" dB f3 _ ["_law_cell","_law_k"]:=Def.mk' X G a3 l3 c3 k3 (fun _ _ _ _ _ _ us hl=>mU us hl fun _ _=>rfl)
 have fJ:Def K mg "_law_hand" eR f4 _ ["_law_number"]:=Def.mk' X G a4 l4 c4 k4 (fun _ _ _ _ _ _ us hl=>A4 us hl fun _=>rfl)
 have eT:Def K mg "_law_step" eS f5 _ ["_law_cell"]:=Def.mk' X G a5 l5 c5 k5 (fun _ _ _ _ _ _ us hl=>A4 us hl fun _=>rfl)
 have fB:Def K mg "_law_changed" cO f6 _ ["_law_step_here","_law_cell"]:=Def.mk' X G a6 l6 c6 k6 (fun _ _ _ _ _ _ us hl=>mU us hl fun _ _=>rfl)
 have lK:Def K mg "_law_next" fH f7 _ ["_law_met","_law_cell"]:=Def.mk' X G a7 l7 c7 k7 (fun _ _ _ _ _ _ us hl=>mU us hl fun _ _=>rfl)
 have cG:Def K mg "_law_is_before" bT f8 _ ["_law_one","_law_other"]:=Def.mk' X G a8 l8 c8 k8 (fun _ _ _ _ _ _ us hl=>mU us hl fun _ _=>rfl)
 have fC:Def K mg "_law_refused" cF f9 _ ["_law_left","_law_right"]:=Def.mk' X G a9 l9 c9 k9 (fun _ _ _ _ _ _ us hl=>mU us hl fun _ _=>rfl)
 have hU:Def K mg "_law_given" eG f10 _ ["_law_left","_law_right","_law_name"]:=Def.mk' X G a10 l10 c10 k10 (fun _ _ _ _ _ _ us hl=>Dn us hl fun _ _ _=>rfl)
 refine ⟨PySem.W.fnOf "law" "law" (aU fX) (aN fX) (aF fX) .none kV11 doc11 pm11 an11 cdv11 ct11,fun s v=>.of_eq rfl,fun base _ _=>?_⟩
 have fA:aO l.prog w K mg base CX0 1 f0 _ ["place"] (spM (cC w K) 1 cM):=nZ hbn dU.fn
 have bQ:aO l.prog w K mg base CX0 2 f1 _ ["one","other"] (spM (cC w K) 2 aM):=qW hbn bM.fn dU fA
 have gW:aO l.prog w K mg base CX0 3 f2 _ ["left","right"] (spM (cC w K) 2 dM):=A1 hbn dW.fn bM bQ
 have cA:aO l.prog w K mg base CX0 1 f3 _ ["_law_cell","_law_k"] (spM (cC w K) 2 bV):=tO hbn bX.fn
 have gJ:aO l.prog w K mg base CX0 1 f4 _ ["_law_number"] (spM (cC w K) 1 eC):=vY hbn fJ.fn
 have fK:aO l.prog w K mg base CX0 2 f5 _ ["_law_cell"] (spM (cC w K) 1 eD):=vZ hbn eT.fn bX cA fJ gJ
 have gK:aO l.prog w K mg base CX0 3 f6 _ ["_law_step_here","_law_cell"] (spM (cC w K) 2 dS):=oA hbn fB.fn eT fK
 have oE:aO l.prog w K mg base CX0 4 f7 _ ["_law_met","_law_cell"] (spM (cC w K) 2 iU):=wA hbn lK.fn bX cA eT fK fB gK
 have cU:aO l.prog w K mg base CX0 1 f8 _ ["_law_one","_law_other"] (spM (cC w K) 2 bN):=lJ hbn cG.fn
 have F_init:=kK (st:=gI) xl xc xk
 have XRh:XR K mg xC xI xM x1 x2 x3 _:=⟨⟨⟨xnm,xq,xN,xbs,xM,xsn,xsub,xab,xcol,xdd,xk0,xk1,xk2,xk3,xk5,xo,xt⟩,xi,xf,xkp,xsa,xga,xgt⟩,F_init,F_init.binds (ps:=["self","place"]) (fun _ _ _ _ _ _ us hl=>mU us hl fun _ _=>rfl),xnp,⟨xia,xib,xic⟩,⟨⟨xMd,xMc,xMs,xmo⟩,xmt,xms⟩,
  PySem.W.mg_of X G xn0,PySem.W.mg_of X G xn1,PySem.W.mg_of X G xn2,PySem.W.mg_of X G xn3,PySem.W.mg_of X G xn4,PySem.W.mg_none_of X G xn5,xv,oB xd1 xa1 xb1 xs1,oB xd2 xa2 xb2 xs2,oB xd3 xa3 xb3 xs3⟩
 have gL:aO l.prog w K mg base CX0 4 f9 _ ["_law_left","_law_right"] (spM (cC w K) 2 bW):=oC hbn fC.fn bM bQ dW gW XRh
 have lL:aO l.prog w K mg base CX0 5 f10 _ ["_law_left","_law_right","_law_name"] (spM (cC w K) 3 eY):=tQ hbn hU.fn bM bQ dW gW cG cU fC gL
 exact A3 hbn (kK (st:=fX) l11 c11 k11) dW gW bX cA fJ gJ lK oE hU lL
theorem walk {l:PySem.W.OpenLaw} {q:Program} {loose:List Str} {XP:(Str->Option Value)->Heap->Prop} {YP:World->Heap->Prop} {d:DefRec} {K:Params->PySem.W.Frag} (hn:l.most=some 63) (hdf:d.params.defaults=[])
  (hY:∀ (w:World) (h:Heap),YP w h->(K w.params).In h)
  (F:∀ (w:World) (mg:Str->Option Value) (fa:Addr) (h:Heap),(K w.params).In h->h.Ns mainGlobals mg->mg d.name=some (.ref fa)->
   ∃ fd:FuncData,(∀ (s:Shared) (u:Value),BindsTo s fd ⟨[u],[]⟩ [("_law_script",u)])/\∀ base:Heap,(K w.params).In base->base.Ns mainGlobals mg->aO l.prog w (K w.params) mg base CX0 6 fa fd ["_law_script"] (spM (cC w (K w.params)) 1 jT)):
  PySem.W.WalkO q loose XP YP l.row.toRowW d [] (fun f vs=>PySem.call f vs):=
 L2.walk_of (n:=63) (k:=6) (x:="_law_script") (CX:=fun _=>CX0) (sp:=fun w=>spM (cC w (K w.params)) 1 jT) hn (by decide) hdf ⟨rfl,by decide,by decide⟩ hY F (fun w H a ns hl hO hS=>zA (C:=cC w (K w.params)) hO hS (main ns hl) fun _=>rfl) fun _ _ _ _ _ z=>z
end K33
open PySem PySem.W PyProof.Rows
set_option maxRecDepth 100000 in
set_option maxHeartbeats 0 in
inductive PySem.W.Fast|tw16929605466461259138|tw7171954774671452748|tw11653498176730775591|tw10598772455247646648|tw4898096752735216689|tw15933121490334118361|tw4397052754930488381|tw4255926260487243159|tw5243659293401742643|tw14813400704652600860|tw17817085832255289414|tw2080007705689364307|tw1652486818996720268|tw17799199201175914045|tw10094935860189852638|tw5524269602586589979|tw14752820438095369766|tw14873739713154597357|tw6601175003186848205|tw8040739224995691757|tw13104111861012044584|tw1583661597539199298|tw18321348493326744399|tw16409884885721852481|tw9198132753169930038|tw8628986857582520983|tw11854096579005412336|tw9154339931995071030|tw9801367537384146689|tw3800642790771678648|tw9554265113206481959|tw804575718451827578|tw11118158428027584475|tw5214838309446403624|tw4928178615148516382|tw3766512605087012555|tw1780228300593247867|tw4522787432686003472|tw6776039644339737017|tw16623288917507651885|tw14574010246798867689|tw13814532902331075612|tw16966580232606659580|tw7571082497616122054|tw5045603768455268202|tw6186700395935702719|tw7217639561725864265|tw11682068619732649028|tw13233284674364341340|tw5919140405881120499|tw9087224984996397202|tw16197975752025131164|tw11579619148495467632|tw5757879197786919440|tw329276257507995128|tw892914077102540153|tw7303761943465377144|tw567929194769885704|tw15968263375045031426|tw2666645711687201229|tw8125120979344775986|tw8727015556864792852|tw12499053129404252391|tw9380049112914746060|tw1176694649842448109|tw3110093338625204510|tw1434131681732407463|tw15923891566805210112|tw950057186750215767|tw2892743444750554617
theorem PySem.Challenge.cw_copymeet_k33_between_holds : PySem.Challenge.rw_copymeet_k33_between.Holds := by
 w_on; o_law; k_head; (case hw=>w_witness2)
 k_fill
 refine K33.walk (l:=PySem.Challenge.rw_copymeet_k33_between) rfl rfl (fun w h Y=>PySem.W.kIn_of Y) ?F
 case F=>
  intro w mg fa h KX G hmg
  have hbn:∀ x∈K33.bsL,mg x=none:=fun x hx=>by
   rcases List.mem_cons.mp hx with rfl | hx
   ·exact PySem.W.mg_none_of KX G (by k_is)
   rcases List.mem_cons.mp hx with rfl | hx
   ·exact PySem.W.mg_none_of KX G (by k_is)
   rcases List.mem_cons.mp hx with rfl | hx
   ·exact PySem.W.mg_none_of KX G (by k_is)
   rcases List.mem_cons.mp hx with rfl | hx
   ·exact PySem.W.mg_none_of KX G (by k_is)
   rcases List.mem_cons.mp hx with rfl | hx
   ·exact PySem.W.mg_none_of KX G (by k_is)
   rcases List.mem_cons.mp hx with rfl | hx
   ·exact PySem.W.mg_none_of KX G (by k_is)
   cases hx
  refine' K33.all_mk KX G hmg hbn ?a0 ?l0 ?c0 ?k0 ?a1 ?l1 ?c1 ?k1 ?a2 ?l2 ?c2 ?k2 ?a3 ?l3 ?c3 ?k3 ?a4 ?l4 ?c4 ?k4 ?a5 ?l5 ?c5 ?k5 ?a6 ?l6 ?c6 ?k6 ?a7 ?l7 ?c7 ?k7 ?a8 ?l8 ?c8 ?k8 ?a9 ?l9 ?c9 ?k9 ?a10 ?l10 ?c10 ?k10 ?a11 ?l11 ?c11 ?k11 ?xn0 ?xn1 ?xn2 ?xn3 ?xn4 ?xn5 ?xi ?xo ?xl ?xc ?xk ?xf ?xkp ?xsa ?xga ?xgt ?xnp ?xia ?xib ?xic ?xmo ?xmt ?xms ?xv ?xa1 ?xb1 ?xs1 ?xa2 ?xb2 ?xs2 ?xa3 ?xb3 ?xs3 ?xt ?xd1 ?xd2 ?xd3
  (case a0=>k_is); (case l0=>k_is); (case c0=>k_is); (case k0=>k_is)
  (case a1=>k_is); (case l1=>k_is); (case c1=>k_is); (case k1=>k_is)
  (case a2=>k_is); (case l2=>k_is); (case c2=>k_is); (case k2=>k_is)
  (case a3=>k_is); (case l3=>k_is); (case c3=>k_is); (case k3=>k_is)
  (case a4=>k_is); (case l4=>k_is); (case c4=>k_is); (case k4=>k_is)
  (case a5=>k_is); (case l5=>k_is); (case c5=>k_is); (case k5=>k_is)
  (case a6=>k_is); (case l6=>k_is); (case c6=>k_is); (case k6=>k_is)
  (case a7=>k_is); (case l7=>k_is); (case c7=>k_is); (case k7=>k_is)
  (case a8=>k_is); (case l8=>k_is); (case c8=>k_is); (case k8=>k_is)
  (case a9=>k_is); (case l9=>k_is); (case c9=>k_is); (case k9=>k_is)
  (case a10=>k_is); (case l10=>k_is); (case c10=>k_is); (case k10=>k_is)
  (case a11=>k_is); (case l11=>k_is); (case c11=>k_is); (case k11=>k_is)
  (case xn0=>k_is)
  (case xn1=>k_is)
  (case xn2=>k_is)
  (case xn3=>k_is)
  (case xn4=>k_is)
  (case xn5=>k_is)
  (case xi=>k_is)
  (case xo=>k_is)
  (case xl=>k_is)
  (case xc=>k_is)
  (case xk=>k_is)
  (case xf=>k_is)
  (case xkp=>k_is)
  (case xsa=>k_is)
  (case xga=>k_is)
  (case xgt=>k_is)
  (case xnp=>k_is)
  (case xia=>k_is)
  (case xib=>k_is)
  (case xic=>k_is)
  (case xmo=>k_is)
  (case xmt=>k_is)
  (case xms=>k_is)
  (case xv=>k_is)
  (case xa1=>k_is)
  (case xb1=>k_is)
  (case xs1=>k_is)
  (case xa2=>k_is)
  (case xb2=>k_is)
  (case xs2=>k_is)
  (case xa3=>k_is)
  (case xb3=>k_is)
  (case xs3=>k_is)
  (case xt=>kernel_rfl)
  (case xd1=>decide)
  (case xd2=>decide)
  (case xd3=>decide)
