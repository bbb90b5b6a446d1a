import PyProof.Rows.All
import Wide.All
import OpenK.AllK
import Wide.FinOn
import Lean
import PyProof.EqAt
import PyProof.EqKinds
import PyProof.TupleCall
import PyProof.NeKinds
import KE.KDictOf
import PyProof.AttrMissHeap
import PyProof.WalksMore
import PyProof.MeetsDict
import KE.KDictList
import KE.KRevIter
import PyProof.DictItemsLoops
import PyProof.DictWalks
import KE.KSortTup
import KE.KDictSum
import PyProof.SumAny
import PyProof.Conv_int_bool
import PyProof.Conv_int
import KE.KRevSl
import PyProof.MeetsStr
import PyProof.StrCalls3
import PyProof.Rows.TupDisplay
import PySem.Challenge.RW_copymeet_k05_seen_lies_ahead
set_option Elab.async false
set_option linter.all false
set_option maxRecDepth 100000
namespace L2
open PySem PySem.Spec PyProof.Rows
abbrev Key:=Sum Int Str
def lM:Key->Value->Bool
 | .inl k,v=>Value.isInt k v
 | .inr x,v=>Value.isStrOf x v
def GQ (w:World):Key->Int
 | .inl k=>hashInt k
 | .inr x=>hashStr w x
theorem aR:∀ {k:Key} {v:Value},lM k v=true->(∃ i t,k=Sum.inl i/\v=Value.int i t)\/(∃ x t,k=Sum.inr x/\v=Value.str x t)
 | .inl i,v,h=>by
  obtain ⟨t,e⟩:=Value.isInt_shape (k:=i) (v:=v) h
  exact .inl ⟨i,t,rfl,e⟩
 | .inr x,v,h=>by
  obtain ⟨t,e⟩:=Value.isStrOf_shape (x:=x) (v:=v) h
  exact .inr ⟨x,t,rfl,e⟩
theorem Ba (i:Int) (t:Tok):lM (.inl i) (.int i t)=true:=by simp [lM,Value.isInt]
theorem Bb (x:Str) (t:Tok):lM (.inr x) (.str x t)=true:=by simp [lM,Value.isStrOf]
theorem GR (a b:Int):decide ((Sum.inl a:Key)=Sum.inl b)=(a == b):=by
 by_cases e:a=b
 ·subst e; simp
 ·have h:¬ (Sum.inl a:Key)=Sum.inl b:=fun q=>e (Sum.inl.inj q)
  rw [decide_eq_false h]
  exact (beq_eq_false_iff_ne.mpr e).symm
theorem GS (a b:Str):decide ((Sum.inr a:Key)=Sum.inr b)=decide (a=b):=by
 by_cases e:a=b
 ·subst e; simp
 ·have h:¬ (Sum.inr a:Key)=Sum.inr b:=fun q=>e (Sum.inr.inj q)
  rw [decide_eq_false h,decide_eq_false e]
theorem GT (a:Int) (b:Str):decide ((Sum.inl a:Key)=Sum.inr b)=false:=decide_eq_false (fun q=>nomatch q)
theorem GU (a:Str) (b:Int):decide ((Sum.inr a:Key)=Sum.inl b)=false:=decide_eq_false (fun q=>nomatch q)
def aQ (prog:Program) (w:World):PySem.KeyKind prog w Key where
 is:=lM
 hash:=GQ w
 inj:=fun v a b ha hb=>by
  rcases aR ha with ⟨i,t,rfl,rfl⟩ | ⟨x,t,rfl,rfl⟩
  ·rcases aR hb with ⟨j,u,rfl,e⟩ | ⟨y,u,rfl,e⟩
   ·injection e with e1 _; rw [e1]
   ·exact nomatch e
  ·rcases aR hb with ⟨j,u,rfl,e⟩ | ⟨y,u,rfl,e⟩
   ·exact nomatch e
   ·injection e with e1 _; rw [e1]
 byValue:=fun k v h=>by
  rcases aR h with ⟨i,t,rfl,rfl⟩ | ⟨x,t,rfl,rfl⟩ <;> rfl
 pyHash:=fun hv h=>by
  rcases aR hv with ⟨i,t,rfl,rfl⟩ | ⟨x,t,rfl,rfl⟩
  ·exact wpAny_pyHash_int h
  ·exact wpAny_pyHash_str h
 eqBool:=fun hu hv h=>by
  rcases aR hu with ⟨i,t,rfl,rfl⟩ | ⟨x,t,rfl,rfl⟩
  ·rcases aR hv with ⟨j,u,rfl,rfl⟩ | ⟨y,u,rfl,rfl⟩
   ·rw [GR] at h; exact wpAny_eqBool_int h
   ·rw [GT] at h; exact SeqAt.EqAt.int_str i t y u _ _ _ _ h
  ·rcases aR hv with ⟨j,u,rfl,rfl⟩ | ⟨y,u,rfl,rfl⟩
   ·rw [GU] at h; exact SeqAt.EqAt.str_int x t j u _ _ _ _ h
   ·rw [GS] at h; exact wpAny_eqBool_str h
 «strs»:=fun k x t v h=>by
  rcases aR h with ⟨i,u,rfl,e⟩ | ⟨y,u,rfl,e⟩
  ·exact nomatch e
  ·injection e with e1 _
   subst e1
   cases v <;> rfl
theorem uW (prog:Program) (w:World) (i:Int) (t:Tok):(aQ prog w).is (.inl i) (.int i t)=true:=Ba i t
theorem uX (prog:Program) (w:World) (x:Str) (t:Tok):(aQ prog w).is (.inr x) (.str x t)=true:=Bb x t
end L2
namespace L2
open PySem PySem.Spec PyProof.Rows
inductive V where
 | non | bl (b:Bool) | int (i:Int) | str (x:Str) | byt (b:Array UInt8) | flt (b:UInt64) | ref (a:Addr) | ty (n:String)
 deriving DecidableEq
def RelV:V->Value->Prop
 | .non,u=>u=Value.none
 | .bl b,u=>u=Value.bool b
 | .int i,u=>∃ t,u=Value.int i t
 | .str x,u=>∃ t,u=Value.str x t
 | .byt b,u=>∃ t,u=Value.bytes b t
 | .flt b,u=>∃ t,u=Value.float b t
 | .ref a,u=>u=Value.ref a
 | .ty n,u=>u=Value.type n
abbrev aH:List V->List Value->Prop:=Paired RelV
theorem aH.length {xs:List V} {us:List Value} (r:aH xs us):xs.length=us.length:=Paired.length r
theorem aH.get:∀ {xs:List V} {us:List Value} {i:Nat} {x:V},aH xs us->xs[i]?=some x->∃ u,us[i]?=some u/\RelV x u
 | _,_,_,_,.nil,e=>by simp at e
 | _,_,0,_,.cons r _,e=>by simp at e; subst e; exact ⟨_,rfl,r⟩
 | _,_,i+1,x,.cons _ t,e=>by
  obtain ⟨u,h1,h2⟩:=aH.get (i:=i) (x:=x) t (by simpa using e)
  exact ⟨u,by simpa using h1,h2⟩
theorem aH.set {x:V} {u:Value} (r:RelV x u):∀ {xs:List V} {us:List Value} (i:Nat),aH xs us->aH (xs.set i x) (us.set i u)
 | _,_,_,.nil=>.nil
 | _,_,0,.cons _ t=>.cons r t
 | _,_,i+1,.cons q t=>.cons q (aH.set r i t)
theorem aH.append:∀ {xs ys:List V} {us ws:List Value},aH xs us->aH ys ws->aH (xs++ys) (us++ws)
 | _,_,_,_,.nil,s=>s
 | _,_,_,_,.cons r t,s=>.cons r (aH.append t s)
theorem aH.take:∀ {xs:List V} {us:List Value} (n:Nat),aH xs us->aH (xs.take n) (us.take n)
 | _,_,0,_=>.nil
 | _,_,_+1,.nil=>.nil
 | _,_,n+1,.cons r t=>.cons r (aH.take n t)
theorem aH.drop:∀ {xs:List V} {us:List Value} (n:Nat),aH xs us->aH (xs.drop n) (us.drop n)
 | _,_,0,r=>r
 | _,_,_+1,.nil=>.nil
 | _,_,n+1,.cons _ t=>aH.drop n t
def mM:Option V->Option Value->Prop
 | some v,some u=>RelV v u
 | none,none=>True
 | _,_=>False
def KV {κ:Type}:List (κ×V)->List (κ×Value)->Prop:=Paired fun (p:κ×V) (q:κ×Value)=>p.1=q.1/\RelV p.2 q.2
def kV:Key->V
 | .inl i=>.int i
 | .inr x=>.str x
inductive HO where
 /-- a list -/
 | lst (xs:List V)
 /-- a tuple (never changes) -/
 | tup (xs:List V)
 /-- a dict whose keys are ints and texts; one whose keys are tuples of ints and texts (the empty one is both) -/
 | dK (kvs:List (Key×V)) | dT (kvs:List (List Key×V))
 /-- a set of ints: its members,its size -/
 | set (S:Int->Bool) (n:Nat)
 /-- an instance of the class at C,its dict at dx,its attributes -/
 | ins (C dx:Addr) (fs:List (Str×V))
 /-- the dict of the instance at x -/
 | own (x:Addr)
 /-- the dict of an exception -/
 | xd (fs:List (Str×V))
 /-- a bound method,f of x -/
 | met (f x:Addr)
 /-- a range object lo,lo+1,.. below hi -/
 | rng (lo hi:Int)
 /-- a thing that is known to the object (the script; a dict while a loop walks it): read,never written while it is so -/
 | frz (o:Obj) (u:HO)
 /-- a code object's table -/
 | tbl (ps:Array Value)
 /-- any other thing,by what is true of its one object (a def of one's own: SetO a S n:=HO.ext fun h=>..) -/
 | ext (φ:Heap->Prop)
abbrev Hp:=Addr->Option HO
def upd (H:Hp) (a:Addr) (o:HO):Hp:=fun b=>if b=a then some o else H b
theorem aJ {H:Hp} {a:Addr} {o:HO}:upd H a o a=some o:=by unfold upd; rw [if_pos rfl]
theorem aE {H:Hp} {a b:Addr} {o:HO} (h:b≠a):upd H a o b=H b:=by unfold upd; rw [if_neg h]
theorem Jd {H:Hp} {a b:Addr} {o u:HO} (h:H a=some o) (h':H b=some u) (d:o≠u):a≠b:=by
 intro e; subst e; rw [h] at h'; exact d (Option.some.inj h')
theorem bR {H:Hp} {a b:Addr} {o:HO} (h:H a=some o) (h':H b=none):a≠b:=by
 intro e; subst e; rw [h] at h'; cases h'
def iY (h:Heap) (a:Addr) (items:Array Value):Prop:=∃ o,h.get? a=some o/\o.cls=.type "tuple" /\ (∃ n,o.data=.seq items n)/\o.dict=none
theorem iY.is {h:Heap} {a:Addr} {items:Array Value} (x:iY h a items):PyProof.Rows.IsTup h a items:=let ⟨o,h1,h2,h3,_⟩:=x; ⟨o,h1,h2,h3⟩
theorem iY.lt {h:Heap} {a:Addr} {items:Array Value} (x:iY h a items):a < h.objs.size:=let ⟨_,h1,_⟩:=x; Heap.lt_size h1
theorem iY.new (h:Heap) (items:Array Value):iY (h.push { cls:=.type "tuple",data:=.seq items 0 }) h.objs.size items:=⟨_,Heap.get?_push_size _ rfl,rfl,⟨_,rfl⟩,rfl⟩
section
variable (P:Program) (w:World)
def bK (H:Hp) (h:Heap) (a:Addr):HO->Prop
 | .lst xs=>xs.length<=sizeLine/\∃ (its:List Value) (n:Nat),aH xs its/\h.get? a=some { cls:=.type "list",data:=.seq its.toArray n }
 | .tup xs=>xs.length<=sizeLine/\∃ its:List Value,aH xs its/\iY h a its.toArray
 | .dK kvs=>kvs.length<=sizeLine/\(a == sysModules)=false/\∃ vs,KV kvs vs/\h.DictOf (aQ P w) a vs
 | .dT kvs=>kvs.length<=sizeLine/\(a == sysModules)=false/\∃ xs:List (List Key×Addr×Value),
   Paired (fun (p:List Key×V) (q:List Key×Addr×Value)=>p.1=q.1/\H q.2.1=some (.tup (p.1.map kV))/\RelV p.2 q.2.2) kvs xs/\
   ∃ o es ep,h.get? a=some o/\o.ExactDict/\o.data=.dict es ep/\es.toList=xs.map (entryOfKey (tupleKind (aQ P w)))/\(xs.map (·.1)).Nodup
 | .set S n=>h.SetOf (intKind P w) a S n
 | .ins C dx fs=>H dx=some (.own a)/\fs.length<=1000/\dx≠a/\h.get? a=some (PySem.W.instObj C dx)/\
   ∃ mA,h.Ns1 dx mA/\(∀ f,mM (fs.lookup f) (mA f))/\PySem.Within mA (fs.map (·.1))
 | .own _=>∃ o,h.get? a=some o
 | .xd fs=>∃ mA,h.Ns1 a mA/\∀ f,mM (fs.lookup f) (mA f)
 | .rng lo hi=>∃ t u v,h.get? a=some { cls:=.type "range",data:=.fields #[.int lo t,.int hi u,.int 1 v] }
 | .frz o u=>h.get? a=some o/\bK H h a u
 | .tbl ps=>h.get? a=some { cls:=.none,data:=.fields ps }
 | .met f x=>h.get? a=some (PySem.W.methodObj (.ref f) (.ref x))
 | .ext φ=>φ h/\(∃ o,h.get? a=some o)/\∀ h1 h2:Heap,φ h1->(∀ o,h1.get? a=some o->h2.get? a=some o)->φ h2
def HOk (H:Hp) (h:Heap):Prop:=∀ a o,H a=some o->bK P w H h a o
end
section
variable {P:Program} {w:World} {H H':Hp} {h h':Heap} {a:Addr} {o:HO}
theorem bK.lt (x:bK P w H h a o):a < h.objs.size:=by
 cases o with
 | lst xs=>obtain ⟨_,_,_,_,e⟩:=x; exact Heap.lt_size e
 | tup xs=>obtain ⟨_,_,_,p⟩:=x; exact iY.lt p
 | dK kvs=>obtain ⟨_,_,_,_,o,_,_,e,_⟩:=x; exact Heap.lt_size e
 | dT kvs=>obtain ⟨_,_,_,_,o,_,_,e,_⟩:=x; exact Heap.lt_size e
 | set S n=>obtain ⟨o,_,_,_,e,_⟩:=x; exact Heap.lt_size e
 | ins C dx fs=>obtain ⟨_,_,_,e,_⟩:=x; exact Heap.lt_size e
 | own y=>obtain ⟨_,e⟩:=x; exact Heap.lt_size e
 | xd fs=>obtain ⟨_,⟨_,_,_,e,_⟩,_⟩:=x; exact Heap.lt_size e
 | rng lo hi=>obtain ⟨_,_,_,e⟩:=x; exact Heap.lt_size e
 | frz ob u=>obtain ⟨e,_⟩:=x; exact Heap.lt_size e
 | tbl ps=>exact Heap.lt_size (show h.get? a=some _ from x)
 | met f y=>exact Heap.lt_size (show h.get? a=some _ from x)
 | ext φ=>obtain ⟨_,⟨_,e⟩,_⟩:=x; exact Heap.lt_size e
theorem Paired.mapP {α β:Type} {F G:α->β->Prop}:∀ {l₁:List α} {l₂:List β},Paired F l₁ l₂->(∀ a b,F a b->G a b)->Paired G l₁ l₂
 | _,_,.nil,_=>.nil
 | _,_,.cons r t,f=>.cons (f _ _ r) (Paired.mapP t f)
theorem bK.stay (x:bK P w H h a o) (k:∀ b u,(b=a\/H b=some (.own a))->h.get? b=some u->h'.get? b=some u)
  (ho:∀ b,H b=some (.own a)->H' b=some (.own a)) (ht:∀ b xs,H b=some (.tup xs)->H' b=some (.tup xs)):bK P w H' h' a o:=by
 induction o with
 | lst xs=>obtain ⟨z,its,n,r,e⟩:=x; exact ⟨z,its,n,r,k _ _ (.inl rfl) e⟩
 | tup xs=>obtain ⟨z,its,r,ob,e,c⟩:=x; exact ⟨z,its,r,ob,k _ _ (.inl rfl) e,c⟩
 | dK kvs=>obtain ⟨z,y,vs,r,ob,es,ep,e,c⟩:=x; exact ⟨z,y,vs,r,ob,es,ep,k _ _ (.inl rfl) e,c⟩
 | dT kvs=>
  obtain ⟨z,y,xs,r,ob,es,ep,e,c⟩:=x
  exact ⟨z,y,xs,Paired.mapP r fun p q z=>⟨z.1,ht _ _ z.2.1,z.2.2⟩,ob,es,ep,k _ _ (.inl rfl) e,c⟩
 | set S n=>obtain ⟨ob,es,ep,t,e,c⟩:=x; exact ⟨ob,es,ep,t,k _ _ (.inl rfl) e,c⟩
 | ins C dx fs=>
  obtain ⟨d,z,ne,e,mA,⟨od,es,ep,e2,c⟩,r⟩:=x
  exact ⟨ho _ d,z,ne,k _ _ (.inl rfl) e,mA,⟨od,es,ep,k _ _ (.inr d) e2,c⟩,r⟩
 | own y=>obtain ⟨ob,e⟩:=x; exact ⟨ob,k _ _ (.inl rfl) e⟩
 | xd fs=>obtain ⟨mA,⟨od,es,ep,e,c⟩,r⟩:=x; exact ⟨mA,⟨od,es,ep,k _ _ (.inl rfl) e,c⟩,r⟩
 | rng lo hi=>obtain ⟨t,u,v,e⟩:=x; exact ⟨t,u,v,k _ _ (.inl rfl) e⟩
 | frz ob u ih=>obtain ⟨e,q⟩:=x; exact ⟨k _ _ (.inl rfl) e,ih q⟩
 | tbl ps=>
  have e:h.get? a=some { cls:=.none,data:=.fields ps }:=x
  show h'.get? a=some { cls:=.none,data:=.fields ps }
  exact k a _ (.inl rfl) e
 | met f y=>
  have e:h.get? a=some (PySem.W.methodObj (.ref f) (.ref y)):=x
  show h'.get? a=some (PySem.W.methodObj (.ref f) (.ref y))
  exact k a _ (.inl rfl) e
 | ext φ=>obtain ⟨p,⟨o,e⟩,st⟩:=x; exact ⟨st _ _ p fun o q=>k _ _ (.inl rfl) q,⟨o,k _ _ (.inl rfl) e⟩,st⟩
theorem HOk.lt (x:HOk P w H h) (e:H a=some o):a < h.objs.size:=(x a o e).lt
theorem HOk.fresh (x:HOk P w H h) (e:h.objs.size<=a):H a=none:=by
 cases q:H a with
 | none=>rfl
 | some u=>exact absurd (Nat.lt_of_lt_of_le (x.lt q) e) (Nat.lt_irrefl _)
theorem HOk.kept (x:HOk P w H h) (k:∀ b u,h.get? b=some u->h'.get? b=some u):HOk P w H h':=fun a o e=>
 (x a o e).stay (fun b u _ q=>k b u q) (fun _ q=>q) fun _ _ q=>q
theorem HOk.laid (x:HOk P w H h) (k:∀ b u,h.get? b=some u->h'.get? b=some u) (hp:h.objs.size<=a) (new:bK P w (upd H a o) h' a o):HOk P w (upd H a o) h':=fun b u e=>by
 have hn:=x.fresh hp
 by_cases hb:b=a
 ·subst hb; rw [aJ] at e; cases e; exact new
 ·rw [aE hb] at e
  exact (x b u e).stay (fun c v _ q=>k c v q) (fun c q=>by rw [aE (bR q hn)]; exact q) fun c xs q=>by rw [aE (bR q hn)]; exact q
end
def Rd (H:Hp) (a:Addr) (u:HO):Prop:=H a=some u\/∃ o,H a=some (.frz o u)
theorem Rd.ok {P:Program} {w:World} {H:Hp} {h:Heap} {a:Addr} {u:HO} (r:Rd H a u) (x:HOk P w H h):bK P w H h a u:=by
 rcases r with r | ⟨o,r⟩
 ·exact x a u r
 ·obtain ⟨_,q⟩:=x a _ r
  exact q
def Mut:Option HO->Prop
 | some (.lst _)=>True
 | some (.dK _)=>True
 | some (.dT _)=>True
 | some (.set _ _)=>True
 | some (.ins _ _ _)=>True
 | some (.ext _)=>True
 | _=>False
section
variable {P:Program} {w:World} {H:Hp} {h h':Heap} {x e:Addr} {o':HO}
theorem HOk.write (ok:HOk P w H h) (mu:Mut (H x)) (he:e=x\/H e=some (.own x)) (k:∀ b u,b≠e->h.get? b=some u->h'.get? b=some u) (heo:∃ u,h'.get? e=some u)
  (new:bK P w (upd H x o') h' x o'):HOk P w (upd H x o') h':=fun b u q=>by
 have nown:∀ c y,H c=some (.own y)->c≠x:=fun c y r z=>by subst z; rw [r] at mu; exact mu
 have ntup:∀ c xs,H c=some (.tup xs)->c≠x:=fun c xs r z=>by subst z; rw [r] at mu; exact mu
 by_cases hb:b=x
 ·subst hb; rw [aJ] at q; cases q; exact new
 ·rw [aE hb] at q
  by_cases hbe:b=e
  ·have q':H b=some (.own x):=by
    rcases he with z | z
    ·exact absurd (hbe.trans z) hb
    ·rw [hbe]; exact z
   rw [q] at q'; cases q'
   obtain ⟨v,hv⟩:=heo
   exact ⟨v,by rw [hbe]; exact hv⟩
  ·refine (ok b u q).stay (fun c v hc r=>k c v ?_ r) (fun c r=>by rw [aE (nown c b r)]; exact r) fun c xs r=>by rw [aE (ntup c xs r)]; exact r
   rcases hc with rfl | hc
   ·exact hbe
   ·rintro rfl
    rcases he with z | z
    ·exact nown c b hc z
    ·rw [hc] at z; cases z; exact hb rfl
end
structure Un (fs ex:List Addr) (H H':Hp) (h h':Heap):Prop where
 keep:∀ b o,h.get? b=some o->H b=none->b∉fs->b∉ex->h'.get? b=some o
 slot:∀ b o,h.get? b=some o->H b=none->b∈fs->b∉ex->∃ sl,h'.get? b=some { o with slots:=sl }
 free:∀ b o,h.get? b=some o->H b=none->b∉ex->H' b=none
 there:∀ b o,h.get? b=some o->b∉ex->∃ o',h'.get? b=some o'
 tups:∀ b xs,H b=some (.tup xs)->H' b=some (.tup xs)
 frzs:∀ b o u,H b=some (.frz o u)->H' b=some (.frz o u)
 tbls:∀ b ps,H b=some (.tbl ps)->∃ more,H' b=some (.tbl (ps++more))
section
variable {fs fs' ex ex':List Addr} {H H1 H2:Hp} {h h1 h2 h':Heap} {a x e:Addr} {o:HO}
theorem Un.any (u:Un fs ex H H1 h h1) {b:Addr} {ob:Obj} (q:h.get? b=some ob) (n:H b=none) (hx:b∉ex):∃ sl,h1.get? b=some { ob with slots:=sl }:=by
 by_cases hb:b∈fs
 ·exact u.slot b ob q n hb hx
 ·exact ⟨ob.slots,u.keep b ob q n hb hx⟩
theorem Un.kept (k:∀ b u,h.get? b=some u->h'.get? b=some u):Un fs ex H H h h':=
 ⟨fun b ob q _ _ _=>k b ob q,fun b ob q _ _ _=>⟨ob.slots,k b ob q⟩,fun _ _ _ n _=>n,fun b ob q _=>⟨ob,k b ob q⟩,fun _ _ q=>q,fun _ _ _ q=>q,fun _ ps q=>⟨#[],by rw [q]; simp⟩⟩
theorem Un.refl:Un fs ex H H h h:=Un.kept fun _ _ q=>q
theorem Un.laid (k:∀ b u,h.get? b=some u->h'.get? b=some u) (hp:h.objs.size<=a) (hn:H a=none):Un fs ex H (upd H a o) h h' where
 keep:=fun b u q _ _ _=>k b u q
 slot:=fun b u q _ _ _=>⟨u.slots,k b u q⟩
 free:=fun b u q n _=>by rw [aE (Nat.ne_of_lt (Nat.lt_of_lt_of_le (Heap.lt_size q) hp))]; exact n
 there:=fun b u q _=>⟨u,k b u q⟩
 tups:=fun b xs q=>by rw [aE (bR q hn)]; exact q
 frzs:=fun b u xs q=>by rw [aE (bR q hn)]; exact q
 tbls:=fun b ps q=>⟨#[],by rw [aE (bR q hn),q]; simp⟩
theorem Un.write (mu:Mut (H x)) (he:e=x\/H e=some (.own x)) (k:∀ b u,b≠e->h.get? b=some u->h'.get? b=some u) (heo:∃ u,h'.get? e=some u):Un fs ex H (upd H x o) h h':=by
 have hx:∀ b,H b=none->b≠x:=fun b n z=>by subst z; rw [n] at mu; exact mu
 have hb:∀ b,H b=none->b≠e:=fun b n z=>by
  subst z
  rcases he with r | r
  ·exact hx b n r
  ·rw [n] at r; cases r
 have hm:∀ b u,H b=some u->¬ Mut (some u)->b≠x:=fun b u q nm z=>by subst z; rw [q] at mu; exact nm mu
 refine ⟨fun b u q n _ _=>k b u (hb b n) q,fun b u q n _ _=>⟨u.slots,k b u (hb b n) q⟩,fun b u q n _=>by rw [aE (hx b n)]; exact n,fun b u q _=>?_,
  fun b xs q=>by rw [aE (hm b _ q fun z=>z)]; exact q,fun b u xs q=>by rw [aE (hm b _ q fun z=>z)]; exact q,fun b ps q=>⟨#[],by rw [aE (hm b _ q fun z=>z),q]; simp⟩⟩
 by_cases hbe:b=e
 ·subst hbe; exact heo
 ·exact ⟨u,k b u hbe q⟩
end
def trk (h:Heap) (H:Hp):List Addr:=(List.range h.objs.size).filter fun a=>(H a).isSome
def sS (h:Heap) (H:Hp):Heap:=PySem.W.hideAll h (trk h H)
theorem Bc (h:Heap) (H:Hp):(sS h H).objs.size=h.objs.size:=PySem.W.hideAll_size _ _
theorem Cj {h:Heap} {H:Hp} {b:Addr} {o:Obj} (e:h.get? b=some o) (n:H b=none):(sS h H).get? b=some o:=
 PySem.W.hideAll_get _ e fun hm=>by
  have q:(H b).isSome=true:=(List.mem_filter.mp hm).2
  rw [n] at q; simp at q
theorem EN {h:Heap} {H:Hp} {b:Addr} {o:Obj} (e:(sS h H).get? b=some o):h.get? b=some o/\H b=none:=by
 have e':h.get? b=some o:=PySem.W.of_hideAll (trk h H) e
 refine ⟨e',?_⟩
 cases q:H b with
 | none=>rfl
 | some x=>
  have hm:b∈trk h H:=List.mem_filter.mpr ⟨List.mem_range.mpr (Heap.lt_size e'),by simp [q]⟩
  have z:(sS h H).get? b=none:=PySem.W.hideAll_none (trk h H) hm
  rw [z] at e; cases e
def EO (g h:Heap) (L:Addr):List (Addr×Obj):=(List.range h.objs.size).filterMap fun a=>if a=L\/(g.get? a).isSome=true then none else (h.get? a).map fun o=>(a,o)
def rest (g h:Heap) (L d:Addr):List (Addr×Obj):=(EO g h L).filter fun p=>decide (p.1≠d)
end L2
namespace L2
open PySem PySem.Spec PyProof.Rows
structure Mod (K:PySem.W.Frag) (mg:Str->Option Value) (base:Heap):Prop where
 kin:K.In base
 glob:base.Ns mainGlobals mg
 blt:∃ mb,base.Ns builtinsNs mb/\∀ x:Str,x≠"__name__" -> mb x=bootBuiltins x
 nolimit:base.NoLimit
structure Cx where
 prog:Program
 w:World
 K:PySem.W.Frag
 mg:Str->Option Value
 base:Heap
 A:Around
 N:List Str
 s₀:Shared
 H₀:Hp
 env:Env
 outer:List Env
 stack:List Env
 ex:List Addr
 fn:Str->Bool
 calm:Bool
 pn:List (Addr×Obj)
 xe:Value->Shared->Prop
def frs (l:List Env):List Addr:=l.filterMap (·.frame)
abbrev Cx.fs (X:Cx):List Addr:=frs X.outer
def Vis (sc:Scope) (x:Str):Prop:=sc.names.lookup x=some .local\/sc.names.lookup x=some .cell\/sc.names.lookup x=some .free
def Loc (sc:Scope) (x:Str):Prop:=sc.names.lookup x=some .local\/sc.names.lookup x=some .cell
def Look (env:Env) (h:Heap) (m:Str->Option Value) (x:Str) (u:Value):Prop:=
 (env.kindOf x=some .local/\m x=some u)\/((env.kindOf x=some .cell\/env.kindOf x=some .free)/\∃ c,env.cells.lookup x=some c/\h.IsCell c (some u))
structure Cx.Ok (X:Cx):Prop where
 mod:Mod X.K X.mg X.base
 kind:X.env.scope.kind=.function
 glob:X.env.globals=mainGlobals
 blt:X.env.builtins=builtinsNs
 above:X.s₀.heap.objs.size<=X.env.locals
 inj:∀ x y c,X.env.cells.lookup x=some c->X.env.cells.lookup y=some c->x=y
 has:∀ x,(X.env.kindOf x=some .cell\/X.env.kindOf x=some .free)->∃ c,X.env.cells.lookup x=some c
 cab:∀ x c,X.fn x=true->X.env.cells.lookup x=some c->X.s₀.heap.objs.size<=c
 hd:X.calm=true->X.A.handled=none
 frames:X.A.frames=some X.stack
 stk:X.stack=X.outer\/(X.stack=X.env :: X.outer/\X.env.frame=some X.env.locals)
 exf:∀ b∈X.ex,b≠X.env.locals/\∀ x c,X.env.cells.lookup x=some c->c≠b
 bs:∀ b o,X.base.get? b=some o->X.s₀.heap.get? b=some o/\X.H₀ b=none
 bsz:X.base.objs.size<=X.s₀.heap.objs.size
 noex:∀ b o,X.base.get? b=some o->b∉X.ex
 exfs:∀ b∈X.ex,b∉X.fs
 funs:X.s₀.heap.FunFrames X.base X.outer
 frf:∀ b∈X.fs,X.H₀ b=none
structure Inv (X:Cx) (pins:List (Addr×Obj)) (σ:List (Option V)) (H:Hp) (s:Shared):Prop where
 ok:X.Ok
 os:s.os=X.s₀.os
 bare:AllBare s.gens
 base:Un X.fs X.ex X.H₀ H X.s₀.heap s.heap
 loc:∃ m,s.heap.Ns X.env.locals m/\∀ (i:Nat) (x:Str) (v:V),X.N[i]?=some x->σ[i]?=some (some v)->Vis X.env.scope x->∃ u,RelV v u/\Look X.env s.heap m x u
 cell:∀ x c,X.env.cells.lookup x=some c->∃ v,s.heap.IsCell c v
 free:H X.env.locals=none
 freeC:∀ x c,X.env.cells.lookup x=some c->H c=none
 pin:∀ p∈X.pn++pins,s.heap.get? p.1=some p.2/\H p.1=none/\p.1≠X.env.locals/\p.1∉X.fs/\∀ v,p.2.data≠.cell v
 hok:HOk X.prog X.w H s.heap
 len:σ.length=X.N.length
section
variable {X:Cx} {pins:List (Addr×Obj)} {σ:List (Option V)} {H H':Hp} {s:Shared} {h':Heap}
theorem Cx.Ok.nofr (ok:X.Ok) {b:Addr} {o:Obj} (e:X.base.get? b=some o):b∉X.fs:=fun hb=>by
 have:=(ok.funs.mem hb).1
 rw [e] at this; cases this
theorem Inv.bs (I:Inv X pins σ H s):∀ b o,X.base.get? b=some o->s.heap.get? b=some o/\H b=none:=fun b o e=>
 ⟨I.base.keep b o (I.ok.bs b o e).1 (I.ok.bs b o e).2 (I.ok.nofr e) (I.ok.noex b o e),I.base.free b o (I.ok.bs b o e).1 (I.ok.bs b o e).2 (I.ok.noex b o e)⟩
theorem Inv.bk (I:Inv X pins σ H s):∀ b o,X.base.get? b=some o->s.heap.get? b=some o:=fun b o e=>(I.bs b o e).1
theorem Inv.mod (I:Inv X pins σ H s):Mod X.K X.mg X.base:=I.ok.mod
theorem Inv.kIn (I:Inv X pins σ H s):X.K.In s.heap:=I.ok.mod.kin.keeps I.bk
theorem Inv.lt (I:Inv X pins σ H s):X.env.locals < s.heap.objs.size:=let ⟨_,hn,_⟩:=I.loc; hn.lt
theorem Inv.sz (I:Inv X pins σ H s):X.s₀.heap.objs.size<=s.heap.objs.size:=Nat.le_trans I.ok.above (Nat.le_of_lt I.lt)
theorem Inv.nofs (I:Inv X pins σ H s) {a:Addr} (h:s.heap.objs.size<=a):a∉X.fs:=fun hb=>by
 obtain ⟨_,o,ho,_⟩:=I.ok.funs.mem hb
 exact absurd (Nat.lt_of_lt_of_le (Heap.lt_size ho) (Nat.le_trans I.sz h)) (Nat.lt_irrefl _)
theorem Inv.cne (I:Inv X pins σ H s):∀ x c,X.env.cells.lookup x=some c->c≠X.env.locals:=fun x c e z=>by
 obtain ⟨v,o,ho,hd⟩:=I.cell x c e
 obtain ⟨m,⟨o',es,ep,ho',hd',_⟩,_⟩:=I.loc
 rw [z,ho'] at ho; cases ho; rw [hd'] at hd; cases hd
theorem Inv.funs (I:Inv X pins σ H s):s.heap.FunFrames X.base X.outer:=by
 have all:∀ (l:List Env),(∀ b∈frs l,b∈X.fs)->X.s₀.heap.FunFrames X.base l->s.heap.FunFrames X.base l:=by
  intro l
  induction l with
  | nil=>intro _ _; trivial
  | cons env r ih=>
   intro hs hl
   obtain ⟨hk,⟨L,o,hf,hn,ho,hd⟩,hr⟩:=hl
   have hL:L∈X.fs:=hs L (by unfold frs; rw [List.filterMap_cons,hf]; exact List.mem_cons_self)
   obtain ⟨sl,e⟩:=I.base.slot L o ho (I.ok.frf L hL) hL fun z=>I.ok.exfs L z hL
   exact ⟨hk,⟨L,_,hf,hn,e,hd⟩,ih (fun b hb=>hs b (by unfold frs; rw [List.filterMap_cons,hf]; exact List.mem_cons_of_mem _ hb)) hr⟩
 exact all X.outer (fun _ hb=>hb) I.ok.funs
theorem Inv.stack (I:Inv X pins σ H s):s.heap.FunFrames X.base X.stack:=by
 rcases I.ok.stk with e | ⟨e,hf⟩
 ·rw [e]; exact I.funs
 ·rw [e]
  obtain ⟨m,hn,_⟩:=I.loc
  refine .cons (by rw [I.ok.kind]; decide) hf hn ?_ I.funs
  exact Heap.get?_none_of_le (Nat.le_trans I.ok.bsz I.ok.above)
theorem Inv.stkSub (I:Inv X pins σ H s):∀ b∈frs X.stack,b∈X.env.locals :: X.fs:=fun b hb=>by
 rcases I.ok.stk with e | ⟨e,hf⟩
 ·rw [e] at hb; exact List.mem_cons_of_mem _ hb
 ·rw [e] at hb
  unfold frs at hb
  rw [List.filterMap_cons,hf] at hb
  exact hb
theorem Inv.stkFree (I:Inv X pins σ H s):∀ b∈frs X.stack,H b=none:=fun b hb=>by
 rcases List.mem_cons.mp (I.stkSub b hb) with e | hb
 ·rw [e]; exact I.free
 ·obtain ⟨_,o,ho,_⟩:=I.ok.funs.mem hb
  exact I.base.free b o ho (I.ok.frf b hb) fun z=>I.ok.exfs b z hb
theorem Inv.step {g':Array GenState} {t':Nat} {d':Drawn} {ch:List Addr} (I:Inv X pins σ H s)
  (hch:∀ b∈ch,(b∈X.ex\/X.s₀.heap.objs.size<=b)/\b≠X.env.locals/\(∀ x c,X.env.cells.lookup x=some c->c≠b)/\∀ p∈X.pn++pins,p.1≠b)
  (keep:∀ b o,b≠X.env.locals->b∉X.fs->b∉ch->s.heap.get? b=some o->H b=none->h'.get? b=some o)
  (slot:∀ b o,b≠X.env.locals->b∈X.fs->b∉ch->s.heap.get? b=some o->H b=none->∃ sl,h'.get? b=some { o with slots:=sl }) (free:∀ b o,b∉ch->s.heap.get? b=some o->H b=none->H' b=none)
  (there:∀ b o,b∉ch->s.heap.get? b=some o->∃ o',h'.get? b=some o')
  (tups:∀ b xs,H b=some (.tup xs)->H' b=some (.tup xs)) (frzs:∀ b o u,H b=some (.frz o u)->H' b=some (.frz o u)) (tbls:∀ b ps,H b=some (.tbl ps)->∃ more,H' b=some (.tbl (ps++more)))
  (ns:∀ m,s.heap.Ns X.env.locals m->h'.Ns X.env.locals m) (hok:HOk X.prog X.w H' h') (hg:AllBare g'):
  Inv X pins σ H' { s with heap:=h',gens:=g',drawn:=d',toks:=t' }:=by
 have neL:∀ b o,X.s₀.heap.get? b=some o->b≠X.env.locals:=fun b o e=>Nat.ne_of_lt (Nat.lt_of_lt_of_le (Heap.lt_size e) I.ok.above)
 have neC:∀ b o,X.s₀.heap.get? b=some o->b∉X.ex->b∉ch:=fun b o e hx hb=>by
  rcases (hch b hb).1 with z | z
  ·exact hx z
  ·exact absurd (Nat.lt_of_lt_of_le (Heap.lt_size e) z) (Nat.lt_irrefl _)
 have cellK:∀ x c,X.env.cells.lookup x=some c->∀ v,s.heap.IsCell c v->h'.IsCell c v:=fun x c e v ⟨o,ho,hd⟩=>by
  have nch:c∉ch:=fun z=>(hch c z).2.2.1 x c e rfl
  by_cases hc:c∈X.fs
  ·obtain ⟨sl,q⟩:=slot c o (I.cne x c e) hc nch ho (I.freeC x c e)
   exact ⟨_,q,hd⟩
  ·exact ⟨o,keep c o (I.cne x c e) hc nch ho (I.freeC x c e),hd⟩
 refine ⟨I.ok,I.os,hg,⟨fun b o e n hb hx=>?_,fun b o e n hb hx=>?_,fun b o e n hx=>?_,fun b o e hx=>?_,fun b xs e=>tups b xs (I.base.tups b xs e),fun b o xs e=>frzs b o xs (I.base.frzs b o xs e),fun b ps e=>?_⟩,?_,fun x c e=>?_,?_,fun x c e=>?_,fun p hp=>?_,hok,I.len⟩
 ·exact keep b o (neL b o e) hb (neC b o e hx) (I.base.keep b o e n hb hx) (I.base.free b o e n hx)
 ·obtain ⟨sl,e1⟩:=I.base.slot b o e n hb hx
  obtain ⟨sl',e2⟩:=slot b _ (neL b o e) hb (neC b o e hx) e1 (I.base.free b o e n hx)
  exact ⟨sl',e2⟩
 ·obtain ⟨o',e1⟩:=I.base.there b o e hx
  exact free b o' (neC b o e hx) e1 (I.base.free b o e n hx)
 ·obtain ⟨o',e1⟩:=I.base.there b o e hx
  exact there b o' (neC b o e hx) e1
 ·obtain ⟨m1,e1⟩:=I.base.tbls b ps e
  obtain ⟨m2,e2⟩:=tbls b _ e1
  exact ⟨m1++m2,by rw [e2,Array.append_assoc]⟩
 ·obtain ⟨m,hn,hl⟩:=I.loc
  refine ⟨m,ns m hn,fun i x v e1 e2 e3=>?_⟩
  obtain ⟨u,r,l⟩:=hl i x v e1 e2 e3
  refine ⟨u,r,?_⟩
  rcases l with l | ⟨k,c,e,z⟩
  ·exact .inl l
  ·exact .inr ⟨k,c,e,cellK x c e _ z⟩
 ·obtain ⟨v,z⟩:=I.cell x c e
  exact ⟨v,cellK x c e v z⟩
 ·obtain ⟨m,⟨o,_,_,ho,_⟩,_⟩:=I.loc
  exact free _ o (fun z=>(hch _ z).2.1 rfl) ho I.free
 ·obtain ⟨v,o,ho,hd⟩:=I.cell x c e
  exact free c o (fun z=>(hch c z).2.2.1 x c e rfl) ho (I.freeC x c e)
 ·obtain ⟨e,n,ne,nf,d⟩:=I.pin p hp
  have nch:p.1∉ch:=fun z=>(hch p.1 z).2.2.2 p hp rfl
  exact ⟨keep p.1 p.2 ne nf nch e n,free p.1 p.2 nch e n,ne,nf,d⟩
theorem Inv.un {t':Nat} (I:Inv X pins σ H s) (u:Un X.fs [] H H' s.heap h') (hok:HOk X.prog X.w H' h'):Inv X pins σ H' { s with heap:=h',toks:=t' }:=by
 obtain ⟨m,⟨o,es,ep,ho,r⟩,_⟩:=id I.loc
 obtain ⟨sl,hL⟩:=u.any ho I.free (by simp)
 exact I.step (g':=s.gens) (d':=s.drawn) (ch:=[]) (fun _ z=>nomatch z) (fun b o _ hb _ e n=>u.keep b o e n hb (by simp)) (fun b o _ hb _ e n=>u.slot b o e n hb (by simp)) (fun b o _ e n=>u.free b o e n (by simp)) (fun b o _ e=>u.there b o e (by simp)) u.tups u.frzs u.tbls (fun m' hm=>by
  obtain ⟨o',es',ep',ho',r'⟩:=hm
  rw [ho] at ho'; cases ho'
  exact ⟨_,es',ep',hL,r'⟩) hok I.bare
theorem Inv.call {g':Array GenState} {t':Nat} {d':Drawn} {ch:List Addr} (I:Inv X pins σ H s) (u:Un (frs X.stack) ch H H' s.heap h') (hok:HOk X.prog X.w H' h') (hg:AllBare g')
  (hch:∀ b∈ch,(b∈X.ex\/X.s₀.heap.objs.size<=b)/\b≠X.env.locals/\(∀ x c,X.env.cells.lookup x=some c->c≠b)/\∀ p∈X.pn++pins,p.1≠b):
  Inv X pins σ H' { s with heap:=h',gens:=g',drawn:=d',toks:=t' }:=by
 obtain ⟨m,⟨o,es,ep,ho,r⟩,_⟩:=id I.loc
 obtain ⟨sl,hL⟩:=u.any ho I.free fun z=>(hch _ z).2.1 rfl
 exact I.step (ch:=ch) hch (fun b o hL hb hc e n=>u.keep b o e n (fun z=>(List.mem_cons.mp (I.stkSub b z)).elim hL hb) hc) (fun b o _ _ hc e n=>u.any e n hc) (fun b o hc e n=>u.free b o e n hc) (fun b o hc e=>u.there b o e hc) u.tups u.frzs u.tbls (fun m' hm=>by
  obtain ⟨o',es',ep',ho',r'⟩:=hm
  rw [ho] at ho'; cases ho'
  exact ⟨_,es',ep',hL,r'⟩) hok hg
theorem Inv.turned {t':Nat} {it:Addr} (I:Inv X pins σ H s) (k:∀ b o,b≠it->s.heap.get? b=some o->h'.get? b=some o) (hn:H it=none) (hL:it≠X.env.locals)
  (h1:it∈X.ex\/X.s₀.heap.objs.size<=it) (h2:∀ x c,X.env.cells.lookup x=some c->c≠it) (h3:∀ p∈X.pn++pins,p.1≠it):Inv X pins σ H { s with heap:=h',toks:=t' }:=by
 have nit:∀ b u,H b=some u->b≠it:=fun b u e z=>by rw [z,hn] at e; cases e
 refine I.step (g':=s.gens) (d':=s.drawn) (ch:=[it]) (fun b hb=>?_) (fun b o _ _ hc e _=>k b o (fun z=>hc (by simp [z])) e) (fun b o _ _ hc e _=>⟨o.slots,k b o (fun z=>hc (by simp [z])) e⟩) (fun _ _ _ _ n=>n)
  (fun b o hc e=>⟨o,k b o (fun z=>hc (by simp [z])) e⟩) (fun _ _ e=>e) (fun _ _ _ e=>e) (fun b ps e=>⟨#[],by rw [e]; simp⟩) (fun m hm=>?_) (fun b u e=>?_) I.bare
 ·have e:b=it:=by simpa using hb
  subst e
  exact ⟨h1,hL,h2,h3⟩
 ·obtain ⟨o,es,ep,ho,r⟩:=hm
  exact ⟨o,es,ep,k _ o (Ne.symm hL) ho,r⟩
 ·refine (I.hok b u e).stay (fun c v hc q=>k c v ?_ q) (fun _ q=>q) fun _ _ q=>q
  rcases hc with z | z
  ·rw [z]; exact nit b u e
  ·exact nit c _ z
theorem Inv.tok (I:Inv X pins σ H s) (t:Nat):Inv X pins σ H { s with toks:=t }:=I.un (h':=s.heap) (t':=t) Un.refl I.hok
theorem Inv.kept {t':Nat} (I:Inv X pins σ H s) (k:∀ b u,s.heap.get? b=some u->h'.get? b=some u):Inv X pins σ H { s with heap:=h',toks:=t' }:=I.un (Un.kept k) (I.hok.kept k)
theorem Inv.laid {a:Addr} {o:HO} {t':Nat} (I:Inv X pins σ H s) (k:∀ b u,s.heap.get? b=some u->h'.get? b=some u) (hp:s.heap.objs.size<=a) (new:bK X.prog X.w (upd H a o) h' a o):
  Inv X pins σ (upd H a o) { s with heap:=h',toks:=t' }:=I.un (Un.laid k hp (I.hok.fresh hp)) (I.hok.laid k hp new)
theorem Inv.write {x e:Addr} {o:HO} {t':Nat} (I:Inv X pins σ H s) (mu:Mut (H x)) (he:e=x\/H e=some (.own x)) (k:∀ b u,b≠e->s.heap.get? b=some u->h'.get? b=some u) (heo:∃ u,h'.get? e=some u)
  (new:bK X.prog X.w (upd H x o) h' x o):Inv X pins σ (upd H x o) { s with heap:=h',toks:=t' }:=I.un (Un.write mu he k heo) (I.hok.write mu he k heo new)
theorem Inv.pins_of {pins':List (Addr×Obj)} (I:Inv X pins σ H s) (h:∀ p∈pins',s.heap.get? p.1=some p.2/\H p.1=none/\p.1≠X.env.locals/\p.1∉X.fs/\∀ v,p.2.data≠.cell v):Inv X pins' σ H s:=
 ⟨I.ok,I.os,I.bare,I.base,I.loc,I.cell,I.free,I.freeC,fun p hp=>(List.mem_append.mp hp).elim (fun z=>I.pin p (List.mem_append_left _ z)) (h p),I.hok,I.len⟩
theorem uY {N:List Str} (hN:N.Nodup) {i j:Nat} {x:Str} (a:N[i]?=some x) (b:N[j]?=some x):i=j:=by
 obtain ⟨h1,e1⟩:=List.getElem?_eq_some_iff.mp a
 obtain ⟨h2,e2⟩:=List.getElem?_eq_some_iff.mp b
 exact (List.getElem_inj hN).mp (e1.trans e2.symm)
theorem qP {M:Model} {A:Around} {E:Value->Shared->Prop} {i:Nat} {x:Str} {v:V} {u:Value} {Q:Unit->Shared->Prop} (I:Inv X pins σ H s) (hN:X.N.Nodup) (hi:X.N[i]?=some x) (hx:Loc X.env.scope x) (r:RelV v u)
  (h:∀ s',Inv X pins (σ.set i (some v)) H s'->(∃ a,Heap.SameBut a s.heap s'.heap/\(a=X.env.locals\/X.env.cells.lookup x=some a))->Q () s') (hf:X.fn x=true\/X.env.scope.names.lookup x=some .local:=by first | exact .inl rfl | exact .inr rfl | assumption):wpAny M A (storeName X.env x u) Q E s:=by
 obtain ⟨m,hn,hl⟩:=id I.loc
 have hcls:(X.env.scope.kind == .class || (X.env.scope.kind == .module && X.env.locals != X.env.globals))=false:=by rw [I.ok.kind]; rfl
 have hiσ:i < σ.length:=by rw [I.len]; exact (List.getElem?_eq_some_iff.mp hi).1
 have cne:=I.cne
 have tracked:∀ {a:Addr} {h':Heap},(∃ o,s.heap.get? a=some o/\H a=none)->Heap.SameBut a s.heap h'->HOk X.prog X.w H h':=fun {a h'} ha hs b ob e=>by
  obtain ⟨_,_,hfree⟩:=ha
  refine (I.hok b ob e).stay (fun c w' hc q=>(hs.2 c ?_).trans q) (fun _ q=>q) fun _ _ q=>q
  rintro rfl
  rcases hc with rfl | hc
  ·rw [hfree] at e; cases e
  ·rw [hfree] at hc; cases hc
 rcases hx with hk | hk
 ·refine wpAny_storeName_local hk hn (fun h' hn' hs=>?_) hcls
  obtain ⟨oL,_,_,hoL,_⟩:=id hn
  refine h _ ⟨I.ok,I.os,I.bare,⟨fun b o e n hb hx=>?_,fun b o e n hb hx=>?_,I.base.free,fun b o e hx=>?_,I.base.tups,I.base.frzs,I.base.tbls⟩,⟨_,hn',fun j y v' e1 e2 e3=>?_⟩,fun y c e=>?_,I.free,I.freeC,fun p hp=>?_,tracked ⟨oL,hoL,I.free⟩ hs,by simpa using I.len⟩ ⟨_,hs,.inl rfl⟩
  ·exact (hs.2 b (Nat.ne_of_lt (Nat.lt_of_lt_of_le (Heap.lt_size e) I.ok.above))).trans (I.base.keep b o e n hb hx)
  ·obtain ⟨sl,e1⟩:=I.base.slot b o e n hb hx
   exact ⟨sl,(hs.2 b (Nat.ne_of_lt (Nat.lt_of_lt_of_le (Heap.lt_size e) I.ok.above))).trans e1⟩
  ·obtain ⟨o',e1⟩:=I.base.there b o e hx
   exact ⟨o',(hs.2 b (Nat.ne_of_lt (Nat.lt_of_lt_of_le (Heap.lt_size e) I.ok.above))).trans e1⟩
  ·by_cases hj:j=i
   ·subst hj
    rw [hi] at e1; cases e1
    rw [List.getElem?_set_self hiσ] at e2
    cases e2
    exact ⟨u,r,.inl ⟨hk,by simp⟩⟩
   ·rw [List.getElem?_set_ne (Ne.symm hj)] at e2
    obtain ⟨u',r',q⟩:=hl j y v' e1 e2 e3
    refine ⟨u',r',?_⟩
    rcases q with ⟨k,e⟩ | ⟨k,c,e,z⟩
    ·refine .inl ⟨k,?_⟩
     have:y≠x:=fun e=>hj (uY hN e1 (e ▸ hi))
     simp [this,e]
    ·exact .inr ⟨k,c,e,z.sameBut hs (cne y c e)⟩
  ·obtain ⟨w',z⟩:=I.cell y c e
   exact ⟨w',z.sameBut hs (cne y c e)⟩
  ·obtain ⟨e,n,ne,nf,d⟩:=I.pin p hp
   exact ⟨(hs.2 p.1 ne).trans e,n,ne,nf,d⟩
 ·have hfn:X.fn x=true:=by
   rcases hf with z | z
   ·exact z
   ·rw [z] at hk; cases hk
  obtain ⟨c,hc⟩:=I.ok.has x (.inl hk)
  obtain ⟨w',z⟩:=I.cell x c hc
  refine wpAny_storeName_cell I.ok.kind hk hc z (fun h' hc' hs=>?_)
  obtain ⟨oc,hoc,hocd⟩:=id z
  refine h { s with heap:=h' } ⟨I.ok,I.os,I.bare,⟨fun b o e n hb hx=>?_,fun b o e n hb hx=>?_,I.base.free,fun b o e hx=>?_,I.base.tups,I.base.frzs,I.base.tbls⟩,⟨m,hn.sameBut hs (Ne.symm (cne x c hc)),fun j y v' e1 e2 e3=>?_⟩,fun y c' e=>?_,I.free,I.freeC,fun p hp=>?_,tracked ⟨oc,hoc,I.freeC x c hc⟩ hs,by simpa using I.len⟩ ⟨c,hs,.inr hc⟩
  ·exact (hs.2 b (Nat.ne_of_lt (Nat.lt_of_lt_of_le (Heap.lt_size e) (I.ok.cab x c hfn hc)))).trans (I.base.keep b o e n hb hx)
  ·obtain ⟨sl,e1⟩:=I.base.slot b o e n hb hx
   exact ⟨sl,(hs.2 b (Nat.ne_of_lt (Nat.lt_of_lt_of_le (Heap.lt_size e) (I.ok.cab x c hfn hc)))).trans e1⟩
  ·obtain ⟨o',e1⟩:=I.base.there b o e hx
   exact ⟨o',(hs.2 b (Nat.ne_of_lt (Nat.lt_of_lt_of_le (Heap.lt_size e) (I.ok.cab x c hfn hc)))).trans e1⟩
  ·by_cases hj:j=i
   ·subst hj
    rw [hi] at e1; cases e1
    rw [List.getElem?_set_self hiσ] at e2
    cases e2
    exact ⟨u,r,.inr ⟨.inl hk,c,hc,hc'⟩⟩
   ·rw [List.getElem?_set_ne (Ne.symm hj)] at e2
    obtain ⟨u',r',q⟩:=hl j y v' e1 e2 e3
    refine ⟨u',r',?_⟩
    rcases q with q | ⟨k,c',e,z'⟩
    ·exact .inl q
    ·refine .inr ⟨k,c',e,z'.sameBut hs ?_⟩
     rintro rfl
     exact hj (uY hN e1 (I.ok.inj _ _ _ e hc ▸ hi))
  ·by_cases hcc:c'=c
   ·subst hcc; exact ⟨_,hc'⟩
   ·obtain ⟨w2,z2⟩:=I.cell y c' e
    exact ⟨w2,z2.sameBut hs hcc⟩
  ·obtain ⟨e,n,ne,nf,d⟩:=I.pin p hp
   refine ⟨(hs.2 p.1 ?_).trans e,n,ne,nf,d⟩
   intro q
   rw [q,hoc] at e
   have q':oc=p.2:=Option.some.inj e
   exact d w' (by rw [<- q']; exact hocd)
theorem uZ {M:Model} {A:Around} {E:Value->Shared->Prop} {i:Nat} {x:Str} {v:V} {u:Value} {Q:Unit->Shared->Prop} (I:Inv X pins σ H s) (hN:X.N.Nodup) (hi:X.N[i]?=some x) (hx:Loc X.env.scope x) (r:RelV v u)
  (h:∀ s',Inv X pins (σ.set i (some v)) H s'->Q () s') (hf:X.fn x=true\/X.env.scope.names.lookup x=some .local:=by first | exact .inl rfl | exact .inr rfl | assumption):wpAny M A (storeName X.env x u) Q E s:=
 qP I hN hi hx r (fun s' I' _=>h s' I') hf
theorem Inv.call' {s':Shared} {ch:List Addr} (I:Inv X pins σ H s) (ho:s'.os=s.os) (u:Un (frs X.stack) ch H H' s.heap s'.heap) (hok:HOk X.prog X.w H' s'.heap) (hg:AllBare s'.gens)
  (hch:∀ b∈ch,(b∈X.ex\/X.s₀.heap.objs.size<=b)/\b≠X.env.locals/\(∀ x c,X.env.cells.lookup x=some c->c≠b)/\∀ p∈X.pn++pins,p.1≠b):Inv X pins σ H' s':=by
 obtain ⟨h',g',d',t',o'⟩:=s'
 have e:o'=s.os:=ho
 subst e
 exact I.call (g':=g') (t':=t') (d':=d') u hok hg hch
end
abbrev XK:=Value->Option Addr->Hp->Prop
abbrev St:=List (Option V)
abbrev VK:=V->Hp->Prop
abbrev TE:=St->Hp->VK->Prop
abbrev TT:=St->Hp->(Bool->Hp->Prop)->Prop
abbrev TA:=St->Hp->(List V->Hp->Prop)->Prop
structure Ends where
 nx:St->Hp->Prop
 rt:VK
 bk:St->Hp->Prop:=fun _ _=>False
 ct:St->Hp->Prop:=fun _ _=>False
abbrev TS:=Ends->St->Hp->Prop
def EP (X:Cx) (pins:List (Addr×Obj)) (σ:St) (Q:VK) (u:Value) (s':Shared):Prop:=∃ v H',Inv X pins σ H' s'/\RelV v u/\Q v H'
def TP (X:Cx) (pins:List (Addr×Obj)) (σ:St) (Q:Bool->Hp->Prop) (b:Bool) (s':Shared):Prop:=∃ H',Inv X pins σ H' s'/\Q b H'
def AP (X:Cx) (pins:List (Addr×Obj)) (σ:St) (Q:List V->Hp->Prop) (us:List Value) (s':Shared):Prop:=∃ vs H',Inv X pins σ H' s'/\aH vs us/\Q vs H'
def SP (X:Cx) (pins:List (Addr×Obj)) (D:Ends) (f:Flow) (s':Shared):Prop:=
 match f with
 | .next=>∃ σ' H',Inv X pins σ' H' s'/\D.nx σ' H'
 | .brk=>∃ σ' H',Inv X pins σ' H' s'/\D.bk σ' H'
 | .cont=>∃ σ' H',Inv X pins σ' H' s'/\D.ct σ' H'
 | .ret u=>∃ v σ' H',Inv X pins σ' H' s'/\RelV v u/\D.rt v H'
def PE (X:Cx) (e:Expr) (t:TE):Prop:=
 ∀ (pins:List (Addr×Obj)) (s:Shared) (σ:St) (H:Hp) (Q:VK),Inv X pins σ H s->t σ H Q->wpAny (model X.prog X.w) X.A (eval e X.env) (EP X pins σ Q) X.xe s
def PT (X:Cx) (e:Expr) (t:TT):Prop:=
 ∀ (pins:List (Addr×Obj)) (s:Shared) (σ:St) (H:Hp) (Q:Bool->Hp->Prop),Inv X pins σ H s->t σ H Q->wpAny (model X.prog X.w) X.A (isTrue e X.env (eval e X.env)) (TP X pins σ Q) X.xe s
def PW (X:Cx) (e:Expr) (t:TT):Prop:=
 ∀ (whole:Sem Value) (pins:List (Addr×Obj)) (s:Shared) (σ:St) (H:Hp) (Q:Bool->Hp->Prop),Inv X pins σ H s->t σ H Q->wpAny (model X.prog X.w) X.A (isTrue e X.env whole) (TP X pins σ Q) X.xe s
theorem PW.pt {X:Cx} {e:Expr} {t:TT} (h:PW X e t):PT X e t:=h _
def PA (X:Cx) (es:List Expr) (t:TA):Prop:=
 ∀ (pos:Pos) (pins:List (Addr×Obj)) (s:Shared) (σ:St) (H:Hp) (Q:List V->Hp->Prop),Inv X pins σ H s->t σ H Q->wpAny (model X.prog X.w) X.A (spliced (backTo pos (starEach es X.env))) (AP X pins σ Q) X.xe s
def PS (X:Cx) (st:Stmt) (t:TS):Prop:=
 ∀ (pins:List (Addr×Obj)) (s:Shared) (σ:St) (H:Hp) (D:Ends),Inv X pins σ H s->t D σ H->wpAny (model X.prog X.w) X.A (exec st X.env) (SP X pins D) X.xe s
def PSs (X:Cx) (st:List Stmt) (t:TS):Prop:=
 ∀ (pins:List (Addr×Obj)) (s:Shared) (σ:St) (H:Hp) (D:Ends),Inv X pins σ H s->t D σ H->wpAny (model X.prog X.w) X.A (execs st X.env) (SP X pins D) X.xe s
theorem thn {α:Type} {t:Sem α} {Q Q':α->Shared->Prop} {M:Model} {A:Around} {E:Value->Shared->Prop} {s:Shared} (h:wpAny M A t Q E s) (hQ:∀ a s,Q a s->Q' a s):wpAny M A t Q' E s:=wpAny_mono h hQ fun _ _ x=>x
end L2
namespace L2
open PySem PySem.Spec PyProof.Rows
section
variable {X:Cx}
def Je (i:Nat):TE:=fun σ H Q=>∃ v,σ[i]?=some (some v)/\Q v H
def tC (v:V):TE:=fun _ H Q=>Q v H
theorem yG {i:Nat} {x:Str} {pos:Pos} (hN:X.N[i]?=some x) (hv:Vis X.env.scope x) (hd:(x == ("__debug__" : Str))=false:=by decide) (hcd:(x == ("__classdict__" : Str))=false:=by decide):PE X (.Name x pos) (Je i):=by
 intro pins s σ H Q I h
 obtain ⟨v,e,h⟩:=h
 obtain ⟨m,hn,hl⟩:=I.loc
 obtain ⟨u,r,l⟩:=hl i x v hN e hv
 have fin:EP X pins σ Q u s:=⟨v,H,I,r,h⟩
 rcases l with ⟨hk,hm⟩ | ⟨hk,c,hc,hcell⟩
 ·exact wpAny_Name (wpAny_loadName_local I.ok.kind hk hn hm fin) hd
 ·rcases hk with hk | hk
  ·exact wpAny_Name (wpAny_loadName_cell I.ok.kind hk hc hcell fin) hd
  ·exact wpAny_Name (wpAny_loadName_free I.ok.kind hk hc hcell fin hcd) hd
theorem GV {i j pos}:PE X (.Constant (.int i) j pos) (tC (.int i)):=fun _ _ _ H _ I h=>wpAny_Constant_int ⟨.int i,H,I.tok _,⟨_,rfl⟩,h⟩
theorem Jf {b j pos}:PE X (.Constant (.bool b) j pos) (tC (.bl b)):=fun _ _ _ H _ I h=>Constant_bool ⟨.bl b,H,I,rfl,h⟩
theorem GW {x j pos}:PE X (.Constant (.str x) j pos) (tC (.str x)):=fun _ _ _ H _ I h=>Calls.Constant_str ⟨.str x,H,I.tok _,⟨_,rfl⟩,h⟩
def Gl (X:Cx) (x:Str):Prop:=X.env.kindOf x=some .globalImplicit
theorem An {E:Value->Shared->Prop} {pins:List (Addr×Obj)} {s:Shared} {σ:St} {H:Hp} {x:Str} {u:Value} {pos:Pos} {Q:Value->Shared->Prop} (I:Inv X pins σ H s) (hg:Gl X x) (hm:X.mg x=some u) (h:Q u s)
  (hd:(x == ("__debug__" : Str))=false:=by decide):wpAny (model X.prog X.w) X.A (eval (.Name x pos) X.env) Q E s:=
 Calls.Name_function_global I.ok.kind hg (Calls.loadGlobal_global (by rw [I.ok.glob]; exact I.mod.glob.keeps I.bk) hm h) hd
theorem kI {E:Value->Shared->Prop} {pins:List (Addr×Obj)} {s:Shared} {σ:St} {H:Hp} {x:Str} {u:Value} {pos:Pos} {Q:Value->Shared->Prop} (I:Inv X pins σ H s) (hg:Gl X x) (hm:X.mg x=none) (hv:bootBuiltins x=some u) (h:Q u s)
  (hn:x≠"__name__" := by decide) (hd:(x == ("__debug__" : Str))=false:=by decide):wpAny (model X.prog X.w) X.A (eval (.Name x pos) X.env) Q E s:=by
 obtain ⟨mb,h1,h2⟩:=I.mod.blt
 exact Calls.Name_function_global I.ok.kind hg (Calls.loadGlobal_builtin (by rw [I.ok.glob]; exact I.mod.glob.keeps I.bk) hm (by rw [I.ok.blt]; exact h1.keeps I.bk) ((h2 x hn).trans hv) h) hd
variable {a b:Expr} {ta tb:TE} {pos:Pos}
variable {tA tB':TT} {rest:List Expr}
def Lv (t u:TT):TT:=fun σ H Q=>t σ H fun c H1=>if c=true then u σ H1 Q else Q false H1
def tOr (t u:TT):TT:=fun σ H Q=>t σ H fun c H1=>if c=true then Q true H1 else u σ H1 Q
def Lw (t:TT):TT:=fun σ H Q=>t σ H fun c H1=>Q (!c) H1
theorem ER (ha:PT X a tA):PW X (.BoolOp .And [a] pos) tA:=by
 intro wh pins s σ H Q I h
 refine isTrue_and (thn (ha pins s σ H Q I h) fun c s1 e=>?_)
 cases c with
 | true=>exact isTrue_and_nil e
 | false=>exact e
theorem GX (ha:PT X a tA):PW X (.BoolOp .Or [a] pos) tA:=by
 intro wh pins s σ H Q I h
 refine isTrue_or (thn (ha pins s σ H Q I h) fun c s1 e=>?_)
 cases c with
 | false=>exact isTrue_or_nil e
 | true=>exact e
theorem GY (ha:PT X a tA) (hb:PW X (.BoolOp .And (b :: rest) pos) tB'):PW X (.BoolOp .And (a :: b :: rest) pos) (Lv tA tB'):=by
 intro wh pins s σ H Q I h
 refine isTrue_and (thn (ha pins s σ H _ I h) fun c s1 ⟨H1,I1,q1⟩=>?_)
 cases c with
 | true=>exact hb wh pins s1 σ H1 Q I1 q1
 | false=>exact ⟨H1,I1,q1⟩
theorem Jg (ha:PT X a tA) (hb:PW X (.BoolOp .Or (b :: rest) pos) tB'):PW X (.BoolOp .Or (a :: b :: rest) pos) (tOr tA tB'):=by
 intro wh pins s σ H Q I h
 refine isTrue_or (thn (ha pins s σ H _ I h) fun c s1 ⟨H1,I1,q1⟩=>?_)
 cases c with
 | true=>exact ⟨H1,I1,q1⟩
 | false=>exact hb wh pins s1 σ H1 Q I1 q1
theorem GZ (ha:PT X a tA):PT X (.UnaryOp .Not a pos) (Lw tA):=by
 intro pins s σ H Q I h
 exact isTrue_not (ha pins s σ H (fun c H1=>Q (!c) H1) I h)
end
end L2
namespace L2
open PySem PySem.Spec PyProof.Rows
def SqL (K:PySem.W.Frag) (H:Hp) (a:Addr) (xs:List V):Prop:=
 Rd H a (.lst xs)\/
  ∃ (o:Obj) (its:Array Value) (n:Nat),K.lookup a=some o/\o.cls=.type "list" /\ o.dict=none/\o.data=.seq its n/\its.size<=sizeLine/\aH xs its.toList
def SqT (K:PySem.W.Frag) (H:Hp) (a:Addr) (xs:List V):Prop:=
 Rd H a (.tup xs)\/
  ∃ (o:Obj) (its:Array Value) (n:Nat),K.lookup a=some o/\o.cls=.type "tuple" /\ o.data=.seq its n/\its.size<=sizeLine/\aH xs its.toList/\o.dict=none
def Lx:Value->Option V
 | .none=>some .non
 | .bool b=>some (.bl b)
 | .int i _=>some (.int i)
 | .str x _=>some (.str x)
 | .bytes b _=>some (.byt b)
 | .float b _=>some (.flt b)
 | .ref a=>some (.ref a)
 | .type n=>some (.ty n)
 | _=>none
theorem RelV.abs {x:V} {u:Value} (r:RelV x u):Lx u=some x:=by
 cases x with
 | non=>cases r; rfl
 | bl _=>cases r; rfl
 | int _=>obtain ⟨t,rfl⟩:=r; rfl
 | str _=>obtain ⟨t,rfl⟩:=r; rfl
 | byt _=>obtain ⟨t,rfl⟩:=r; rfl
 | flt _=>obtain ⟨t,rfl⟩:=r; rfl
 | ref _=>cases r; rfl
 | ty _=>cases r; rfl
theorem RelV.inj {x y:V} {u:Value} (r:RelV x u) (q:RelV y u):x=y:=Option.some.inj (r.abs.symm.trans q.abs)
theorem aH.inj:∀ {xs ys:List V} {us:List Value},aH xs us->aH ys us->xs=ys
 | _,_,_,.nil,.nil=>rfl
 | _,_,_,.cons r t,.cons r' t'=>by rw [r.inj r',aH.inj t t']
section
variable {X:Cx} {pins:List (Addr×Obj)} {σ:St} {H:Hp} {s:Shared} {a:Addr} {xs ys:List V}
theorem SqL.of {K:PySem.W.Frag} (h:H a=some (.lst xs)):SqL K H a xs:=.inl (.inl h)
theorem SqT.of {K:PySem.W.Frag} (h:H a=some (.tup xs)):SqT K H a xs:=.inl (.inl h)
theorem Inv.list (I:Inv X pins σ H s) (h:SqL X.K H a xs):∃ its:List Value,aH xs its/\PlainL s.heap a its.toArray/\xs.length<=sizeLine:=by
 rcases h with h | ⟨o,its,n,hk,hc,hd,hs,hz,r⟩
 ·obtain ⟨z,its,n,r,e⟩:=h.ok I.hok
  exact ⟨its,r,⟨_,n,e,rfl,rfl,rfl⟩,z⟩
 ·refine ⟨its.toList,r,⟨o,n,I.kIn a o hk,hc,hd,by simpa using hs⟩,?_⟩
  have e:=r.length
  simp only [Array.length_toList] at e
  omega
theorem Inv.tuple (I:Inv X pins σ H s) (h:SqT X.K H a xs):∃ its:List Value,aH xs its/\IsTup s.heap a its.toArray/\xs.length<=sizeLine:=by
 rcases h with h | ⟨o,its,n,hk,hc,hs,hz,r,_⟩
 ·obtain ⟨z,its,r,p⟩:=h.ok I.hok
  exact ⟨its,r,p.is,z⟩
 ·refine ⟨its.toList,r,⟨o,I.kIn a o hk,hc,n,by simpa using hs⟩,?_⟩
  have e:=r.length
  simp only [Array.length_toList] at e
  omega
theorem Inv.list_inj (I:Inv X pins σ H s) (h:SqL X.K H a xs) (h':SqL X.K H a ys):xs=ys:=by
 obtain ⟨its,r,⟨o,n,e,_,_,d⟩,_⟩:=I.list h
 obtain ⟨its',r',⟨o',n',e',_,_,d'⟩,_⟩:=I.list h'
 rw [e] at e'; cases e'
 rw [d] at d'
 injection d' with d1 _
 have:its=its':=by simpa using congrArg Array.toList d1
 subst this
 exact r.inj r'
theorem Inv.tuple_inj (I:Inv X pins σ H s) (h:SqT X.K H a xs) (h':SqT X.K H a ys):xs=ys:=by
 obtain ⟨its,r,⟨o,e,_,n,d⟩,_⟩:=I.tuple h
 obtain ⟨its',r',⟨o',e',_,n',d'⟩,_⟩:=I.tuple h'
 rw [e] at e'; cases e'
 rw [d] at d'
 injection d' with d1 _
 have:its=its':=by simpa using congrArg Array.toList d1
 subst this
 exact r.inj r'
end
abbrev Cx.wish (X:Cx) (E:Value->Shared->Prop):Cx:={ X with xe:=E }
abbrev Cx.nox (X:Cx):Cx:=X.wish fun _ _=>False
theorem Cx.Ok.wish {X:Cx} (ok:X.Ok) (E:Value->Shared->Prop):(X.wish E).Ok:=
 ⟨ok.mod,ok.kind,ok.glob,ok.blt,ok.above,ok.inj,ok.has,ok.cab,ok.hd,ok.frames,ok.stk,ok.exf,ok.bs,ok.bsz,ok.noex,ok.exfs,ok.funs,ok.frf⟩
theorem Cx.Ok.unwish {X:Cx} {E:Value->Shared->Prop} (ok:(X.wish E).Ok):X.Ok:=
 ⟨ok.mod,ok.kind,ok.glob,ok.blt,ok.above,ok.inj,ok.has,ok.cab,ok.hd,ok.frames,ok.stk,ok.exf,ok.bs,ok.bsz,ok.noex,ok.exfs,ok.funs,ok.frf⟩
section
variable {X:Cx} {pins:List (Addr×Obj)} {σ:St} {H:Hp} {s:Shared} {E:Value->Shared->Prop}
theorem Inv.wish (I:Inv X pins σ H s) (E:Value->Shared->Prop):Inv (X.wish E) pins σ H s:=⟨I.ok.wish E,I.os,I.bare,I.base,I.loc,I.cell,I.free,I.freeC,I.pin,I.hok,I.len⟩
theorem Inv.unwish (I:Inv (X.wish E) pins σ H s):Inv X pins σ H s:=⟨I.ok.unwish,I.os,I.bare,I.base,I.loc,I.cell,I.free,I.freeC,I.pin,I.hok,I.len⟩
theorem SP.unwish {D:Ends} {f:Flow} {s':Shared} (h:SP (X.wish E) pins D f s'):SP X pins D f s':=by
 cases f with
 | next=>obtain ⟨σ',H',I,q⟩:=h; exact ⟨σ',H',I.unwish,q⟩
 | brk=>obtain ⟨σ',H',I,q⟩:=h; exact ⟨σ',H',I.unwish,q⟩
 | cont=>obtain ⟨σ',H',I,q⟩:=h; exact ⟨σ',H',I.unwish,q⟩
 | ret u=>obtain ⟨v,σ',H',I,r,q⟩:=h; exact ⟨v,σ',H',I.unwish,r,q⟩
theorem PSs.nox {st:List Stmt} {t:TS} (h:PSs X.nox st t):PSs X st t:=fun pins s σ H D I hw=>
 wpAny_mono (h pins s σ H D (I.wish _) hw) (fun _ _ q=>q.unwish) fun _ _ z=>False.elim z
end
section
variable {X:Cx} {st:Stmt} {rest:List Stmt} {t u:TS} {e:Expr} {te:TE} {pos:Pos}
def Jh:TS:=fun D σ H=>D.nx σ H
def Ly (t u:TS):TS:=fun D σ H=>t { D with nx:=u D } σ H
theorem ES:PSs X [] Jh:=fun _ _ σ H _ I h=>wpAny_execs_nil ⟨σ,H,I,h⟩
theorem Ck (h1:PS X st t) (h2:PSs X rest u):PSs X (st :: rest) (Ly t u):=by
 intro pins s σ H D I h
 refine wpAny_execs_cons (thn (h1 pins s σ H { D with nx:=u D } I h) fun f s1 q=>?_)
 cases f with
 | next=>
  obtain ⟨σ',H',I',q⟩:=q
  exact h2 pins s1 σ' H' D I' q
 | ret v=>exact q
 | brk=>exact q
 | cont=>exact q
theorem ET (h1:PS X st t):PSs X [st] t:=by
 intro pins s σ H D I h
 refine wpAny_execs_cons (thn (h1 pins s σ H D I h) fun f s1 q=>?_)
 cases f with
 | next=>exact wpAny_execs_nil q
 | ret v=>exact q
 | brk=>exact q
 | cont=>exact q
theorem Inv.quiet {pins:List (Addr×Obj)} {σ:St} {H:Hp} {s:Shared} (I:Inv X pins σ H s):interactive X.env=false:=by simp [interactive,I.ok.kind]
def Ji (te:TE):TS:=fun D σ H=>te σ H fun _ H1=>D.nx σ H1
theorem EU (he:PE X e te) (hs:swapsWith e none pos.line X.env=pure false:=by rfl):PS X (.Expr e pos) (Ji te):=by
 intro pins s σ H D I h
 exact wpAny_Expr_any (thn (he pins s σ H _ I h) fun v s1 ⟨x,H1,I1,r1,q1⟩=>⟨σ,H1,I1,q1⟩) I.quiet hs
def Lz (te:TE):TS:=fun D σ H=>te σ H D.rt
theorem Ha (he:PE X e te):PS X (.Return (some e) pos) (Lz te):=by
 intro pins s σ H D I h
 exact wpAny_Return_some (thn (he pins s σ H _ I h) fun v s1 ⟨x,H1,I1,r1,q1⟩=>⟨x,σ,H1,I1,r1,q1⟩)
def LA (c:TT) (t u:TS):TS:=fun D σ H=>c σ H fun b H1=>if b=true then t D σ H1 else u D σ H1
theorem Jj {c:Expr} {a b:List Stmt} {tc:TT} (hc:PT X c tc) (ha:PSs X a t) (hb:PSs X b u):PS X (.If c a b pos) (LA tc t u):=by
 intro pins s σ H D I h
 refine wpAny_If (thn (hc pins s σ H _ I h) fun d s1 ⟨H1,I1,q1⟩=>?_)
 cases d with
 | true=>exact ha pins s1 σ H1 D I1 q1
 | false=>exact hb pins s1 σ H1 D I1 q1
end
abbrev TG:=V->St->Hp->(St->Hp->Prop)->Prop
abbrev TGs:=List V->St->Hp->(St->Hp->Prop)->Prop
def PG (X:Cx) (target:Expr) (t:TG):Prop:=
 ∀ (pins:List (Addr×Obj)) (s:Shared) (σ:St) (H:Hp) (v:V) (u:Value) (Q:St->Hp->Prop),Inv X pins σ H s->RelV v u->t v σ H Q->
  wpAny (model X.prog X.w) X.A (assign target X.env u) (fun _ s'=>∃ σ' H',Inv X pins σ' H' s'/\Q σ' H') X.xe s
def PGs (X:Cx) (ts:List Expr) (t:TGs):Prop:=
 ∀ (pins:List (Addr×Obj)) (s:Shared) (σ:St) (H:Hp) (vs:List V) (us:List Value) (Q:St->Hp->Prop),Inv X pins σ H s->aH vs us->t vs σ H Q->
  wpAny (model X.prog X.w) X.A (assignInOrder ((assignEach ts X.env).map (·.2)) us) (fun _ s'=>∃ σ' H',Inv X pins σ' H' s'/\Q σ' H') X.xe s
abbrev LB:=V->V->V->Hp->(Hp->Prop)->Prop
def LC (X:Cx) (t:LB):Prop:=
 ∀ (pins:List (Addr×Obj)) (s:Shared) (σ:St) (H:Hp) (o i v:V) (ov iv u:Value) (Q:Hp->Prop),Inv X pins σ H s->RelV o ov->RelV i iv->RelV v u->t o i v H Q->
  wpAny (model X.prog X.w) X.A (setItem ov iv u) (fun _ s'=>∃ H',Inv X pins σ H' s'/\Q H') X.xe s
section
variable {X:Cx} {pos:Pos}
def Cm (i:Nat):TG:=fun v σ H Q=>Q (σ.set i (some v)) H
theorem EV {i:Nat} {x:Str} (hN:X.N.Nodup) (hi:X.N[i]?=some x) (hx:Loc X.env.scope x) (hf:X.fn x=true\/X.env.scope.names.lookup x=some .local:=by first | exact .inl rfl | exact .inr rfl | assumption):PG X (.Name x pos) (Cm i):=by
 intro pins s σ H v u Q I r h
 exact wpAny_assign_Name (uZ I hN hi hx r (fun s' I'=>⟨_,H,I',h⟩) hf)
def LD:TGs:=fun vs σ H Q=>vs=[]/\Q σ H
def Jk (t:TG) (u:TGs):TGs:=fun vs σ H Q=>∃ v r,vs=v :: r/\t v σ H fun σ' H'=>u r σ' H' Q
theorem EW:PGs X [] LD:=by
 intro pins s σ H vs us Q I r h
 obtain ⟨e,h⟩:=h
 subst e
 cases r
 exact assignInOrder_nil ⟨σ,H,I,h⟩
theorem Cn {e:Expr} {es:List Expr} {t:TG} {u:TGs} (h1:PG X e t) (h2:PGs X es u)
  (hs:(assignEach (e :: es) X.env).map (·.2)=assign e X.env :: (assignEach es X.env).map (·.2):=by rfl):PGs X (e :: es) (Jk t u):=by
 intro pins s σ H vs us Q I r h
 obtain ⟨v,vr,e1,h⟩:=h
 subst e1
 cases r with
 | cons r rr=>
  rw [hs]
  refine assignInOrder_cons (thn (h1 pins s σ H _ _ _ I r h) fun _ s1 ⟨σ1,H1,I1,q1⟩=>?_)
  exact h2 pins s1 σ1 H1 _ _ Q I1 rr q1
def Jl (K:PySem.W.Frag) (n:Nat) (t:TGs):TG:=fun v σ H Q=>∃ a xs,v=.ref a/\SqT K H a xs/\xs.length=n/\t xs σ H Q
theorem Hb {es:List Expr} {k:Nat} {t:TGs} {n:Nat} (hc:X.calm=true) (h:PGs X es t)
  (hn:(assignEach es X.env).length=n:=by rfl) (hst:(assignEach es X.env).findIdx? (·.1)=none:=by rfl):PG X (.Tuple es k pos) (Jl X.K n t):=by
 intro pins s σ H v u Q I r hw
 obtain ⟨a,xs,e1,hq,hl,hw⟩:=hw
 subst e1
 cases r
 obtain ⟨its,rv,ht,hz⟩:=I.tuple hq
 refine assign_Tuple_tuple (I.ok.hd hc) ht (by simp [hn,<- hl,rv.length]) hst fun h' hx=>?_
 have I1:Inv X pins σ H { s with heap:=h' }:=I.kept (t':=s.toks) fun b o e=>hx b o (Nat.ne_of_lt (Heap.lt_size e)) e
 exact h pins _ σ H xs _ Q I1 (by simpa using rv) hw
def Hc (te:TE) (g:TG):TS:=fun D σ H=>te σ H fun x H1=>g x σ H1 D.nx
theorem Hd {tg e:Expr} {te:TE} {g:TG} (he:PE X e te) (hg:PG X tg g) (hs:swapsWithSole [tg] e pos.line X.env=pure false:=by rfl) (hw:swappedStores [tg] e X.env=pure none:=by rfl)
  (h1:(assignEach [tg] X.env).map (·.2)=[assign tg X.env]:=by rfl):PS X (.Assign [tg] e pos) (Hc te g):=by
 intro pins s σ H D I h
 refine wpAny_Assign_stores (thn (he pins s σ H _ I h) fun v s1 hz=>?_) hs hw
 obtain ⟨x,H1,I1,r1,q1⟩:=hz
 rw [h1]
 exact thn (hg pins s1 σ H1 x v _ I1 r1 q1) fun _ s2 q=>q
theorem He {i:Nat} {x:Str} {e:Expr} {te:TE} {pos':Pos} (hN:X.N.Nodup) (hi:X.N[i]?=some x) (hx:Loc X.env.scope x) (he:PE X e te) (hs:swapsWith e (some (.Name x pos')) pos.line X.env=pure false:=by rfl) (hf:X.fn x=true\/X.env.scope.names.lookup x=some .local:=by first | exact .inl rfl | exact .inr rfl | assumption):
  PS X (.Assign [.Name x pos'] e pos) (Hc te (Cm i)):=by
 intro pins s σ H D I h
 refine wpAny_Assign_Name (thn (he pins s σ H _ I h) fun v s1 hz=>?_) hs
 obtain ⟨y,H1,I1,r1,q1⟩:=hz
 exact uZ I1 hN hi hx r1 (fun s2 I2=>⟨_,H1,I2,q1⟩) hf
end
section
variable {X:Cx} {pos:Pos}
end
structure It where
 go:Nat->Hp->Prop
 yld:Nat->Hp->V->Hp->Prop
 stop:Nat->Hp->Prop
def vA (X:Cx) (pins:List (Addr×Obj)) (H:Hp) (b:Addr):Prop:=
 H b=none/\b≠X.env.locals/\b∉X.fs/\(b∈X.ex\/X.s₀.heap.objs.size<=b)/\(∀ x c,X.env.cells.lookup x=some c->c≠b)/\∀ p∈X.pn++pins,p.1≠b
theorem Inv.fpOk {X:Cx} {pins:List (Addr×Obj)} {σ:St} {H H':Hp} {s:Shared} {b:Addr} (I:Inv X pins σ H s) (hb:s.heap.objs.size<=b) (hn:H' b=none):vA X pins H' b:=by
 refine ⟨hn,Nat.ne_of_gt (Nat.lt_of_lt_of_le I.lt hb),I.nofs hb,.inr (Nat.le_trans I.sz hb),fun x c e z=>?_,fun p hp z=>?_⟩
 ·obtain ⟨v,q⟩:=I.cell x c e
  exact absurd (Nat.lt_of_lt_of_le q.lt (by rw [z]; exact hb)) (Nat.lt_irrefl _)
 ·exact absurd (Nat.lt_of_lt_of_le (Heap.lt_size (I.pin p hp).1) (by rw [z]; exact hb)) (Nat.lt_irrefl _)
structure Turn (P:Program) (w:World) (K:PySem.W.Frag) (tg:Expr) (J:It) (fp:List Addr) (it:Addr) (tn:Nat->Heap->Prop):Prop where
 mem:it∈fp
 obj:∀ i h,tn i h->∀ b∈fp,∃ o,h.get? b=some o/\∀ v,o.data≠.cell v
 keep:∀ i h h',tn i h->(∀ b∈fp,∀ o,h.get? b=some o->h'.get? b=some o)->tn i h'
 item:∀ (X:Cx),X.prog=P->X.w=w->X.K=K->X.calm=true->∀ (i:Nat) (pins:List (Addr×Obj)) (s:Shared) (σ:St) (H:Hp) (E:Value->Shared->Prop),Inv X pins σ H s->(∀ b∈fp,vA X pins H b)->tn i s.heap->J.go i H->
  wpAny (model P w) X.A (pyNext (.ref it)) (fun r s1=>∃ u,r=some u/\
   wpAny (model P w) X.A (letOwnedTupleGo tg (.ref it) u) (fun _ s2=>∃ x H',Inv X pins σ H' s2/\RelV x u/\J.yld i H x H'/\tn (i+1) s2.heap/\∀ b∈fp,H' b=none) E s1) E s
 done:∀ (X:Cx),X.prog=P->X.w=w->X.K=K->X.calm=true->∀ (i:Nat) (pins:List (Addr×Obj)) (s:Shared) (σ:St) (H:Hp) (E:Value->Shared->Prop),Inv X pins σ H s->(∀ b∈fp,vA X pins H b)->tn i s.heap->J.stop i H->
  wpAny (model P w) X.A (pyNext (.ref it)) (fun r s1=>r=none/\Inv X pins σ H s1) E s
 self:∀ (A:Around) (i:Nat) (s:Shared) (Q:Value->Shared->Prop) (E:Value->Shared->Prop),tn i s.heap->Q (.ref it) s->wpAny (model P w) A (pyIter (.ref it)) Q E s
abbrev TI:=St->Hp->(It->Hp->Prop)->Prop
def PIE (X:Cx) (pins:List (Addr×Obj)) (σ:St) (tg:Expr) (R:It->Hp->Prop) (itv:Value) (s2:Shared):Prop:=
 ∃ (it:Addr) (fp:List Addr) (tn:Nat->Heap->Prop) (J:It) (H':Hp),itv=.ref it/\Inv X pins σ H' s2/\Turn X.prog X.w X.K tg J fp it tn/\tn 0 s2.heap/\(∀ b∈fp,vA X pins H' b)/\R J H'
def PI (X:Cx) (tg iter:Expr) (wi:TI):Prop:=
 ∀ (pins:List (Addr×Obj)) (s:Shared) (σ:St) (H:Hp) (R:It->Hp->Prop),Inv X pins σ H s->wi σ H R->
  wpAny (model X.prog X.w) X.A (eval iter X.env) (fun v s1=>wpAny (model X.prog X.w) X.A (pyIter v) (PIE X pins σ tg R) X.xe s1) X.xe s
theorem Ao {M:Model} {A:Around} {E:Value->Shared->Prop} {s:Shared} {tg:Expr} {it:Addr} {u:Value} {o:Obj} {n:String} {vs:Array Value} {Q:Unit->Shared->Prop} (ho:s.heap.get? it=some o) (hc:o.cls=.type n) (hd:o.data=.fields vs)
  (hn:["enumerate","zip","dict_itemiterator","dict_reverseitemiterator","odict_iterator","itertools.zip_longest","itertools.pairwise"].contains n=false) (hQ:Q () s):wpAny M A (letOwnedTupleGo tg (.ref it) u) Q E s:=by
 unfold letOwnedTupleGo
 cases tg <;> first
  | exact wpAny_pure hQ
  | (cases u <;> first
    | exact wpAny_pure hQ
    | (refine wpAny_bind (wpAny_load ho ?_)
       rw [hc,hd]
       show wpAny M A (if (["enumerate","zip","dict_itemiterator","dict_reverseitemiterator","odict_iterator","itertools.zip_longest","itertools.pairwise"].contains n && vs[0]? == some (rawInt _))=true then _ else _) Q E s
       rw [if_neg (by intro h; rw [hn,Bool.false_and] at h; cases h)]
       exact wpAny_pure hQ))
def Itl (K:PySem.W.Frag) (a:Addr):It:=
 ⟨fun i H=>∃ xs x,SqL K H a xs/\xs[i]?=some x,fun i H x H'=>H'=H/\∀ xs,SqL K H a xs->xs[i]?=some x,fun i H=>∃ xs,SqL K H a xs/\xs.length<=i⟩
def Itt (K:PySem.W.Frag) (a:Addr):It:=
 ⟨fun i H=>∃ xs x,SqT K H a xs/\xs[i]?=some x,fun i H x H'=>H'=H/\∀ xs,SqT K H a xs->xs[i]?=some x,fun i H=>∃ xs,SqT K H a xs/\xs.length<=i⟩
def Itr (lo:Int) (n:Nat):It:=⟨fun i _=>i < n,fun i H x H'=>H'=H/\x=.int (lo+i),fun i _=>n<=i⟩
theorem qQ {P:Program} {w:World} {K:PySem.W.Frag} {tg:Expr} (a it:Addr):Turn P w K tg (Itl K a) [it] it (fun i h=>h.IsListIter it a i) where
 mem:=by simp
 obj:=fun i h st b hb=>by
  have e:b=it:=by simpa using hb
  subst e
  obtain ⟨o,e,c,d⟩:=st
  exact ⟨o,e,fun v z=>by rw [d] at z; cases z⟩
 keep:=fun i h h' st k=>st.at fun o e=>k it (by simp) o e
 item:=by
  intro X hP hw hK hc i pins s σ H E I hf st hg
  subst hP hw hK
  obtain ⟨xs,x,hq,hx⟩:=hg
  obtain ⟨its,rv,p,hz⟩:=I.list hq
  obtain ⟨u,hu,ru⟩:=rv.get hx
  obtain ⟨f0,f1,f2,f3,f4,f5⟩:=hf it (by simp)
  refine wpAny_pyNext_list_item st p.isList (x:=u) (by simpa using hu) fun h' st' sb=>?_
  have I1:Inv X pins σ H { s with heap:=h' }:=I.turned (t':=s.toks) (fun b o hb e=>(sb.2 b hb).trans e) f0 f1 f3 f4 f5
  obtain ⟨o,e,c,d⟩:=id st'
  exact ⟨u,rfl,Ao (s:={ s with heap:=h' }) e c d (by decide) ⟨x,H,I1,ru,⟨rfl,fun ys hy=>by rw [I.list_inj hy hq]; exact hx⟩,st',fun b hb=>(hf b hb).1⟩⟩
 done:=by
  intro X hP hw hK hc i pins s σ H E I hf st hg
  subst hP hw hK
  obtain ⟨xs,hq,hx⟩:=hg
  obtain ⟨its,rv,p,hz⟩:=I.list hq
  obtain ⟨f0,f1,f2,f3,f4,f5⟩:=hf it (by simp)
  have hl:=rv.length
  exact wpAny_pyNext_list_end (I.ok.hd hc) st p.isList (by simp; omega) fun h' eb=>⟨rfl,I.turned (t':=s.toks) (fun b o hb e=>eb b o hb e) f0 f1 f3 f4 f5⟩
 self:=fun _ _ _ _ _ st h=>wpAny_pyIter_listiter st h
theorem yH {P:Program} {w:World} {K:PySem.W.Frag} {tg:Expr} (a it:Addr):Turn P w K tg (Itt K a) [it] it (fun i h=>h.IsTupleIter it a i) where
 mem:=by simp
 obj:=fun i h st b hb=>by
  have e:b=it:=by simpa using hb
  subst e
  obtain ⟨o,e,c,d⟩:=st
  exact ⟨o,e,fun v z=>by rw [d] at z; cases z⟩
 keep:=fun i h h' st k=>st.at fun o e=>k it (by simp) o e
 item:=by
  intro X hP hw hK hc i pins s σ H E I hf st hg
  subst hP hw hK
  obtain ⟨xs,x,hq,hx⟩:=hg
  obtain ⟨its,rv,p,hz⟩:=I.tuple hq
  obtain ⟨u,hu,ru⟩:=rv.get hx
  obtain ⟨f0,f1,f2,f3,f4,f5⟩:=hf it (by simp)
  refine wpAny_pyNext_tuple_item st (show s.heap.IsTuple a its.toArray from p) (x:=u) (by simpa using hu) fun h' st' sb=>?_
  have I1:Inv X pins σ H { s with heap:=h' }:=I.turned (t':=s.toks) (fun b o hb e=>(sb.2 b hb).trans e) f0 f1 f3 f4 f5
  obtain ⟨o,e,c,d⟩:=id st'
  exact ⟨u,rfl,Ao (s:={ s with heap:=h' }) e c d (by decide) ⟨x,H,I1,ru,⟨rfl,fun ys hy=>by rw [I.tuple_inj hy hq]; exact hx⟩,st',fun b hb=>(hf b hb).1⟩⟩
 done:=by
  intro X hP hw hK hc i pins s σ H E I hf st hg
  subst hP hw hK
  obtain ⟨xs,hq,hx⟩:=hg
  obtain ⟨its,rv,p,hz⟩:=I.tuple hq
  obtain ⟨f0,f1,f2,f3,f4,f5⟩:=hf it (by simp)
  have hl:=rv.length
  exact wpAny_pyNext_tuple_end (I.ok.hd hc) st (show s.heap.IsTuple a its.toArray from p) (by simp; omega) fun h' eb=>⟨rfl,I.turned (t':=s.toks) (fun b o hb e=>eb b o hb e) f0 f1 f3 f4 f5⟩
 self:=fun _ _ _ _ _ st h=>wpAny_pyIter_tupleiter st h
theorem yI {P:Program} {w:World} {K:PySem.W.Frag} {tg:Expr} (it:Addr) (lo:Int) (n:Nat):Turn P w K tg (Itr lo n) [it] it (fun i h=>IsRangeIter h it (lo+(i:Nat)*1) ((n:Int) - (i:Nat)) 1) where
 mem:=by simp
 obj:=fun i h st b hb=>by
  have e:b=it:=by simpa using hb
  subst e
  exact ⟨_,st,fun v z=>by
   have z':Data.fields _=Data.cell v:=z
   cases z'⟩
 keep:=fun i h h' st k=>k it (by simp) _ st
 item:=by
  intro X hP hw hK hc i pins s σ H E I hf st hg
  subst hP hw hK
  obtain ⟨f0,f1,f2,f3,f4,f5⟩:=hf it (by simp)
  have W:=Walks.range (prog:=X.prog) (w:=X.w) (I.ok.hd hc) it lo 1 n
  refine W.item i s _ _ hg st fun v h' tk hv st' kk=>?_
  obtain ⟨t,rfl⟩:=hv
  have I1:Inv X pins σ H { s with heap:=h',toks:=tk }:=I.turned (fun b o hb e=>kk b o (by simpa using hb) e) f0 f1 f3 f4 f5
  refine ⟨_,rfl,Ao (s:={ s with heap:=h',toks:=tk }) (n:="range_iterator") st' rfl rfl (by decide) ⟨.int (lo+i),H,I1,⟨t,?_⟩,⟨rfl,rfl⟩,st',fun b hb=>(hf b hb).1⟩⟩
  rw [Int.mul_one]
 done:=by
  intro X hP hw hK hc i pins s σ H E I hf st hg
  subst hP hw hK
  obtain ⟨f0,f1,f2,f3,f4,f5⟩:=hf it (by simp)
  exact wpAny_pyNext_range_end (I.ok.hd hc) st (by have:n<=i:=hg; omega) fun h' eb=>⟨rfl,I.turned (t':=s.toks) (fun b o hb e=>eb b o hb e) f0 f1 f3 f4 f5⟩
 self:=fun _ _ _ _ _ st h=>wpAny_pyIter_rangeiter st h
end L2
namespace L2
open PySem PySem.Spec PyProof.Rows
section
variable {X:Cx} {tg:Expr}
theorem Co {pins:List (Addr×Obj)} {σ:St} {H:Hp} {s:Shared} {R:It->Hp->Prop} {E:Value->Shared->Prop} {lo hi:Int} {t u v:Tok} {tk:Nat} (I:Inv X pins σ H s) (h1:-(2 ^ 62)<=lo) (h2:lo < 2 ^ 62) (h3:-(2 ^ 62)<=hi) (h4:hi < 2 ^ 62)
  (q:R (Itr lo (hi - lo).toNat) H):wpAny (model X.prog X.w) X.A (pyIter (.ref s.heap.objs.size)) (PIE X pins σ tg R) E { s with heap:=s.heap.push { cls:=.type "range",data:=.fields #[.int lo t,.int hi u,.int 1 v] },toks:=tk }:=by
 refine wpAny_pyIter_range (IsRange.new ..) (small_one h1 h2 h3 h4) ?_
 have I1:Inv X pins σ H { s with heap:=s.heap.push { cls:=.type "range",data:=.fields #[.int lo t,.int hi u,.int 1 v] },toks:=tk }:=I.kept fun b o e=>Heap.get?_push_of_some _ e
 refine ⟨(s.heap.push { cls:=.type "range",data:=.fields #[.int lo t,.int hi u,.int 1 v] }).objs.size,[(s.heap.push { cls:=.type "range",data:=.fields #[.int lo t,.int hi u,.int 1 v] }).objs.size],_,_,H,rfl,
  I1.kept (t':=tk) fun b o e=>Heap.get?_push_of_some _ e,yI _ lo (hi - lo).toNat,?_,fun b hb=>?_,q⟩
 ·have e1:lo+((0:Nat):Int)*1=lo:=by simp
  have e2:(((hi - lo).toNat:Nat):Int) - ((0:Nat):Int)=Builtin.Range.rangeSize lo hi 1:=by rw [rangeSize_one]; split <;> omega
  show IsRangeIter _ _ (lo+((0:Nat):Int)*1) ((((hi - lo).toNat:Nat):Int) - ((0:Nat):Int)) 1
  rw [e1,e2]
  exact Heap.get?_push_size _ rfl
 ·have e:b=(s.heap.push { cls:=.type "range",data:=.fields #[.int lo t,.int hi u,.int 1 v] }).objs.size:=by simpa using hb
  subst e
  exact I1.fpOk (Nat.le_refl _) (I1.hok.fresh (Nat.le_refl _))
def LF (wi:TI) (g:TG) (tb:TS):TS:=fun D σ H=>wi σ H fun J H1=>∃ W:Nat->Nat->St->Hp->Prop,(∃ m,W 0 m σ H1)/\∀ i m σ H,W i m σ H->
 (J.stop i H/\D.nx σ H)\/(J.go i H/\∃ N:St->Hp->Prop,(∀ σ' H',N σ' H'->∃ m',m' < m/\W (i+1) m' σ' H')/\∀ x H',J.yld i H x H'->g x σ H' fun σ2 H2=>tb { D with nx:=N,ct:=N,bk:=D.nx } σ2 H2)
def nI (fp:List Addr) (h:Heap):List (Addr×Obj):=fp.filterMap fun b=>(h.get? b).map fun o=>(b,o)
theorem eP {fp:List Addr} {h:Heap} {b:Addr} {o:Obj} (hb:b∈fp) (e:h.get? b=some o):(b,o)∈nI fp h:=List.mem_filterMap.mpr ⟨b,hb,by rw [e]; rfl⟩
theorem Bd {fp:List Addr} {h:Heap} {p:Addr×Obj} (hp:p∈nI fp h):p.1∈fp/\h.get? p.1=some p.2:=by
 obtain ⟨b,hb,e⟩:=List.mem_filterMap.mp hp
 cases q:h.get? b with
 | none=>rw [q] at e; cases e
 | some o=>
  rw [q] at e
  have e':(b,o)=p:=Option.some.inj e
  subst e'
  exact ⟨hb,q⟩
theorem Inv.pinned {pins:List (Addr×Obj)} {σ:St} {H:Hp} {s:Shared} {fp:List Addr} (I:Inv X pins σ H s) (hf:∀ b∈fp,vA X pins H b) (ho:∀ b∈fp,∃ o,s.heap.get? b=some o/\∀ v,o.data≠.cell v):Inv X (pins++nI fp s.heap) σ H s:=
 I.pins_of fun p hp=>(List.mem_append.mp hp).elim (fun z=>I.pin p (List.mem_append_right _ z)) fun z=>by
  obtain ⟨hb,e⟩:=Bd z
  obtain ⟨f0,f1,f2,_⟩:=hf p.1 hb
  obtain ⟨o,e',d⟩:=ho p.1 hb
  rw [e] at e'; cases e'
  exact ⟨e,f0,f1,f2,d⟩
theorem Inv.unpinned {pins pl:List (Addr×Obj)} {σ:St} {H:Hp} {s:Shared} (I:Inv X (pins++pl) σ H s):Inv X pins σ H s:=I.pins_of fun p hp=>I.pin p (List.mem_append_right _ (List.mem_append_left _ hp))
theorem Hf {iter:Expr} {body:List Stmt} {wi:TI} {g:TG} {tb:TS} {pos:Pos} (hp:PassesOwn (model X.prog X.w) X.A X.env X.xe) (hc:X.calm=true) (hi:PI X tg iter wi) (hg:PG X tg g) (hb:PSs X body tb)
  (hs:∀ x,foldedSetIterable iter X.env x=pure x:=by intro _; rfl):PS X (.For tg iter body [] pos) (LF wi g tb):=by
 intro pins s σ H D I h
 refine wpAny_For (thn (hi pins s σ H _ I h) fun v s1 h1=>thn h1 fun itv s2 h2=>?_) hs
 obtain ⟨it,fp,tn,J,H2,e,I2,T,st2,f2,W,⟨m0,w0⟩,turn⟩:=h2
 subst e
 -- what stays true of the iterator's objects through the loop
 have stat:∀ {H':Hp},(∀ b∈fp,H' b=none)->∀ b∈fp,vA X pins H' b:=fun hn b hb=>⟨hn b hb,(f2 b hb).2⟩
 refine codeAny_forLoop_any (fun n s'=>∃ i σ' H',Inv X pins σ' H' s'/\tn i s'.heap/\(∀ b∈fp,H' b=none)/\W i n σ' H') ?_ m0 ⟨0,σ,H2,I2,st2,fun b hb=>(f2 b hb).1,w0⟩
 rintro n s3 ⟨i,σ3,H3,I3,st3,fr3,w3⟩
 rcases turn i n σ3 H3 w3 with ⟨stop,qn⟩ | ⟨go,N,hN,step⟩
 ·refine wpAny_passesOwn hp (thn (T.done X rfl rfl rfl hc i pins s3 σ3 H3 X.xe I3 (stat fr3) st3 stop) fun r s4 ⟨hr,I4⟩=>?_)
  subst hr
  exact wpAny_execs_nil ⟨σ3,H3,I4,qn⟩
 ·refine wpAny_passesOwn hp (thn (T.item X rfl rfl rfl hc i pins s3 σ3 H3 X.xe I3 (stat fr3) st3 go) fun r s4 ⟨u,hr,h4⟩=>?_)
  subst hr
  refine wpAny_passesOwn hp (thn h4 fun _ s5 hz=>?_)
  obtain ⟨x,H5,I5,r5,y5,st5,fr5⟩:=hz
  have I5':=I5.pinned (stat fr5) (T.obj _ _ st5)
  refine wpAny_passesOwn hp (thn (hg _ s5 σ3 H5 x u _ I5' r5 (step x H5 y5)) fun _ s6 ⟨σ6,H6,I6,q6⟩=>?_)
  refine wpAny_passesOwn hp (thn (hb _ s6 σ6 H6 _ I6 q6) fun f s7 q7=>?_)
  have again:∀ {σ7:St} {H7:Hp},Inv X (pins++nI fp s5.heap) σ7 H7 s7->N σ7 H7->∃ m,m < n/\∃ i σ' H',Inv X pins σ' H' s7/\tn i s7.heap/\(∀ b∈fp,H' b=none)/\W i m σ' H':=fun {σ7 H7} I7 n7=>by
   obtain ⟨m',hm,w7⟩:=hN σ7 H7 n7
   refine ⟨m',hm,i+1,σ7,H7,I7.unpinned,T.keep _ _ _ st5 fun b hb o e=>(I7.pin (b,o) (List.mem_append_right _ (List.mem_append_right _ (eP hb e)))).1,fun b hb=>?_,w7⟩
   obtain ⟨o,e,d⟩:=T.obj _ _ st5 b hb
   exact (I7.pin (b,o) (List.mem_append_right _ (List.mem_append_right _ (eP hb e)))).2.1
  cases f with
  | next=>obtain ⟨σ7,H7,I7,n7⟩:=q7; exact again I7 n7
  | cont=>obtain ⟨σ7,H7,I7,n7⟩:=q7; exact again I7 n7
  | brk=>obtain ⟨σ7,H7,I7,q7⟩:=q7; exact ⟨σ7,H7,I7.unpinned,q7⟩
  | ret v=>obtain ⟨x7,σ7,H7,I7,r7,q7⟩:=q7; exact ⟨x7,σ7,H7,I7.unpinned,r7,q7⟩
end
end L2
namespace L2
open PySem PySem.Spec PyProof.Rows
abbrev R2:=V->V->Hp->VK->Prop
def OpR (X:Cx) (f:Value->Value->Sem Value) (r:R2):Prop:=
 ∀ (pins:List (Addr×Obj)) (s:Shared) (σ:St) (H:Hp) (x y:V) (v u:Value) (Q:VK),Inv X pins σ H s->RelV x v->RelV y u->r x y H Q->
  wpAny (model X.prog X.w) X.A (f v u) (EP X pins σ Q) X.xe s
def UnR (X:Cx) (f:Value->Sem Value) (r:V->Hp->VK->Prop):Prop:=
 ∀ (pins:List (Addr×Obj)) (s:Shared) (σ:St) (H:Hp) (x:V) (v:Value) (Q:VK),Inv X pins σ H s->RelV x v->r x H Q->
  wpAny (model X.prog X.w) X.A (f v) (EP X pins σ Q) X.xe s
def bI (X:Cx) (f:Value) (r:List V->Hp->VK->Prop):Prop:=
 ∀ (pins:List (Addr×Obj)) (s:Shared) (σ:St) (H:Hp) (xs:List V) (us:List Value) (Q:VK),Inv X pins σ H s->aH xs us->r xs H Q->
  wpAny (model X.prog X.w) X.A (call f us) (EP X pins σ Q) X.xe s
def LG (X:Cx) (r:V->Hp->(Bool->Hp->Prop)->Prop):Prop:=
 ∀ (pins:List (Addr×Obj)) (s:Shared) (σ:St) (H:Hp) (x:V) (v:Value) (Q:Bool->Hp->Prop),Inv X pins σ H s->RelV x v->r x H Q->
  wpAny (model X.prog X.w) X.A (truthy v) (TP X pins σ Q) X.xe s
def tOp (r:R2) (ta tb:TE):TE:=fun σ H Q=>ta σ H fun x H1=>tb σ H1 fun y H2=>r x y H2 Q
def tUn (r:V->Hp->VK->Prop) (ta:TE):TE:=fun σ H Q=>ta σ H fun x H1=>r x H1 Q
def rI (C:Int->Int->Prop) (g:Int->Int->V):R2:=fun x y H Q=>∃ i j,x=.int i/\y=.int j/\C i j/\Q (g i j) H
def rI0 (g:Int->Int->V):R2:=fun x y H Q=>∃ i j,x=.int i/\y=.int j/\Q (g i j) H
def rU (g:Int->V):V->Hp->VK->Prop:=fun x H Q=>∃ i,x=.int i/\Q (g i) H
section
variable {X:Cx} {a b c:Expr} {ta tb tc:TE} {pos:Pos}
theorem Hg (ha:PE X a ta) (hb:PE X b tb) {pins:List (Addr×Obj)} {s:Shared} {σ:St} {H:Hp} {R:V->V->Hp->Prop} (I:Inv X pins σ H s)
  (h:ta σ H fun x H1=>tb σ H1 fun y H2=>R x y H2) {Q:Value->Shared->Prop} {f:Value->Value->Sem Value}
  (hf:∀ v u s2 x y H2,Inv X pins σ H2 s2->RelV x v->RelV y u->R x y H2->wpAny (model X.prog X.w) X.A (f v u) Q X.xe s2):
  wpAny (model X.prog X.w) X.A (eval a X.env) (fun v s₁=>wpAny (model X.prog X.w) X.A (eval b X.env) (fun u s₂=>wpAny (model X.prog X.w) X.A (f v u) Q X.xe s₂) X.xe s₁) X.xe s:=by
 refine thn (ha pins s σ H _ I h) fun v s1 hz=>?_
 obtain ⟨x,H1,I1,r1,q1⟩:=hz
 refine thn (hb pins s1 σ H1 _ I1 q1) fun u s2 hz=>?_
 obtain ⟨y,H2,I2,r2,q2⟩:=hz
 exact hf v u s2 x y H2 I2 r1 r2 q2
theorem Jm {op:Operator} {r:R2} (ho:OpR X (binaryOp op) r) (ha:PE X a ta) (hb:PE X b tb):PE X (.BinOp a op b pos) (tOp r ta tb):=by
 intro pins s σ H Q I h
 exact wpAny_BinOp (Hg ha hb I h fun v u s2 x y H2 I2 rx ry q=>ho pins s2 σ H2 x y v u Q I2 rx ry q)
theorem Jn {op:UnaryOp} {r:V->Hp->VK->Prop} (ho:UnR X (unaryOp op) r) (ha:PE X a ta):PE X (.UnaryOp op a pos) (tUn r ta):=by
 intro pins s σ H Q I h
 exact UnaryOp_ (thn (ha pins s σ H _ I h) fun v s1 ⟨x,H1,I1,r1,q1⟩=>ho pins s1 σ H1 x v Q I1 r1 q1)
theorem opI {f:Value->Value->Sem Value} {C:Int->Int->Prop} {g:Int->Int->Int}
  (rule:∀ (i j:Int) (t u:Tok) (s:Shared) (Q:Value->Shared->Prop) (E:Value->Shared->Prop),C i j->Q (.int (g i j) s.toks) { s with toks:=s.toks+1 }->wpAny (model X.prog X.w) X.A (f (.int i t) (.int j u)) Q E s):
  OpR X f (rI C fun i j=>.int (g i j)):=by
 intro pins s σ H x y v u Q I rx ry h
 obtain ⟨i,j,rfl,rfl,hc,q⟩:=h
 obtain ⟨t,rfl⟩:=rx
 obtain ⟨t',rfl⟩:=ry
 exact rule i j t t' s _ _ hc ⟨.int (g i j),H,I.tok _,⟨_,rfl⟩,q⟩
theorem LH {f:Value->Value->Sem Value} {g:Int->Int->Int}
  (rule:∀ (i j:Int) (t u:Tok) (s:Shared) (Q:Value->Shared->Prop) (E:Value->Shared->Prop),Q (.int (g i j) s.toks) { s with toks:=s.toks+1 }->wpAny (model X.prog X.w) X.A (f (.int i t) (.int j u)) Q E s):
  OpR X f (rI0 fun i j=>.int (g i j)):=by
 intro pins s σ H x y v u Q I rx ry h
 obtain ⟨i,j,rfl,rfl,q⟩:=h
 obtain ⟨t,rfl⟩:=rx
 obtain ⟨t',rfl⟩:=ry
 exact rule i j t t' s _ _ ⟨.int (g i j),H,I.tok _,⟨_,rfl⟩,q⟩
theorem Hh {f:Value->Value->Sem Value} {g:Int->Int->Bool}
  (rule:∀ (i j:Int) (t u:Tok) (s:Shared) (Q:Value->Shared->Prop) (E:Value->Shared->Prop),Q (.bool (g i j)) s->wpAny (model X.prog X.w) X.A (f (.int i t) (.int j u)) Q E s):
  OpR X f (rI0 fun i j=>.bl (g i j)):=by
 intro pins s σ H x y v u Q I rx ry h
 obtain ⟨i,j,rfl,rfl,q⟩:=h
 obtain ⟨t,rfl⟩:=rx
 obtain ⟨t',rfl⟩:=ry
 exact rule i j t t' s _ _ ⟨.bl (g i j),H,I,rfl,q⟩
def Cp (i j:Int):Prop:=0 < j/\j < 1073741824
def LI (i j:Int):Prop:=0<=j/\j<=1000000/\i.natAbs < 2 ^ 64
def vB (i j:Int):Prop:=(-(2 ^ 64) < i/\i < 2 ^ 64)\/(-(2 ^ 64) < j/\j < 2 ^ 64)
theorem vB.ok {i j:Int} (h:vB i j):IntMulOk i j:=by
 rcases h with ⟨h1,h2⟩ | ⟨h1,h2⟩
 ·exact .of_left (intBits_le_64 h1 h2)
 ·exact .of_right (intBits_le_64 h1 h2)
theorem Hi:OpR X (binaryOp .Add) (rI0 fun i j=>.int (i+j)):=LH fun _ _ _ _ _ _ _ q=>add_int q
theorem Hj:OpR X (binaryOp .Mult) (rI vB fun i j=>.int (i*j)):=opI fun _ _ _ _ _ _ _ hc q=>mul_int q hc.ok
theorem EX:OpR X (binaryOp .FloorDiv) (rI Cp fun i j=>.int (i / j)):=opI fun i j _ _ _ _ _ hc q=>by
 have h1:(0:Int) < j:=hc.1
 have h2:j < 1073741824:=hc.2
 exact floordiv_int (by omega) (by rw [Int.fdiv_eq_ediv_of_nonneg i (by omega)]; exact q) (.inl (PyProof.noPylong_small (by omega)))
theorem Hk:OpR X (binaryOp .Mod) (rI (fun _ j=>0 < j) fun i j=>.int (i % j)):=opI fun i j _ _ _ _ _ hc q=>by
 have h1:(0:Int) < j:=hc
 exact mod_int' (by omega) (by rw [Int.fmod_eq_emod_of_nonneg i (by omega)]; exact q)
theorem unI {f:Value->Sem Value} {g:Int->Int}
  (rule:∀ (i:Int) (t:Tok) (s:Shared) (Q:Value->Shared->Prop) (E:Value->Shared->Prop),Q (.int (g i) s.toks) { s with toks:=s.toks+1 }->wpAny (model X.prog X.w) X.A (f (.int i t)) Q E s):
  UnR X f (rU fun i=>.int (g i)):=by
 intro pins s σ H x v Q I rx h
 obtain ⟨i,rfl,q⟩:=h
 obtain ⟨t,rfl⟩:=rx
 exact rule i t s _ _ ⟨.int (g i),H,I.tok _,⟨_,rfl⟩,q⟩
theorem Hl:UnR X (unaryOp .USub) (rU fun i=>.int (-i)):=unI fun _ _ _ _ _ q=>neg_int q
end
section
variable {X:Cx} {a b c:Expr} {ta tb tc:TE} {pos:Pos}
theorem yJ {pins:List (Addr×Obj)} {σ:St} {H:Hp} {s:Shared} {Q:VK} {k k':Bool} (I:Inv X pins σ H s) (q:Q (.bl k) H) (e:k=k'):EP X pins σ Q (.bool k') s:=by
 subst e
 exact ⟨.bl k,H,I,rfl,q⟩
theorem Jo:OpR X (compareOp .Lt) (rI0 fun i j=>.bl (decide (i < j))):=Hh fun _ _ _ _ _ _ _ q=>lt_int q
theorem Jp:OpR X (compareOp .LtE) (rI0 fun i j=>.bl (decide (i<=j))):=Hh fun _ _ _ _ _ _ _ q=>le_int q
theorem Jq:OpR X (compareOp .GtE) (rI0 fun i j=>.bl (decide (j<=i))):=Hh fun _ _ _ _ _ _ _ q=>ge_int q
theorem Be:OpR X (compareOp .Lt) (fun x y H Q=>∃ i j,x=.str i/\y=.str j/\Q (.bl (decide (i.cps.toList < j.cps.toList))) H):=by
 intro pins s σ H x y v u Q I rx ry h
 obtain ⟨i,j,rfl,rfl,q⟩:=h
 obtain ⟨t,rfl⟩:=rx
 obtain ⟨t',rfl⟩:=ry
 exact lt_str (yJ I q rfl)
theorem OpR.or {f:Value->Value->Sem Value} {r r':R2} (h:OpR X f r) (h':OpR X f r'):OpR X f (fun x y H Q=>r x y H Q\/r' x y H Q):=by
 intro pins s σ H x y v u Q I rx ry q
 rcases q with q | q
 ·exact h pins s σ H x y v u Q I rx ry q
 ·exact h' pins s σ H x y v u Q I rx ry q
theorem Cq (b:Expr) {op:CmpOp} (h:op≠.In:=by decide) (h2:op≠.NotIn:=by decide):behindInMarks op b=false:=by
 have e1:(op == CmpOp.In)=false:=by cases op <;> first | rfl | exact absurd rfl h
 have e2:(op == CmpOp.NotIn)=false:=by cases op <;> first | rfl | exact absurd rfl h2
 cases b <;> simp [behindInMarks,e1,e2]
theorem EY {op:CmpOp} {r:R2} (ho:OpR X (compareOp op) r) (ha:PE X a ta) (hb:PE X b tb) (hm:behindInMarks op b=false):PE X (.Compare a [op] [b] pos) (tOp r ta tb):=by
 intro pins s σ H Q I h
 exact wpAny_Compare1 (Hg ha hb I h fun v u s2 x y H2 I2 rx ry q=>ho pins s2 σ H2 x y v u Q I2 rx ry q) hm
def EZ (K:PySem.W.Frag) (x:V) (H:Hp) (k:Bool):Prop:=
 match x with
 | .non=>k=false
 | .bl b=>k=b
 | .int i=>k=(i != 0)
 | .str y=>y.length<=sizeLine/\k=((y.length:Int) != 0)
 | .byt y=>y.size<=sizeLine/\k=((y.size:Int) != 0)
 | .ref p=>(∃ xs,SqL K H p xs/\k=!xs.isEmpty)\/(∃ xs,SqT K H p xs/\k=!xs.isEmpty)\/∃ kvs,H p=some (.dK kvs)/\k=!kvs.isEmpty
 | _=>False
theorem yK {κ:Type} {kvs:List (κ×V)} {vs:List (κ×Value)} (r:KV kvs vs):(!vs.isEmpty)=!kvs.isEmpty:=by
 cases r <;> rfl
theorem nJ {xs:List V} {its:List Value} (r:aH xs its):(!its.toArray.isEmpty)=!xs.isEmpty:=by
 cases r <;> simp
theorem iJ:(sizeLine:Nat) < 2 ^ 63:=by rw [sizeLine_eq]; decide
theorem Cr:LG X (fun x H Q=>∃ k,EZ X.K x H k/\Q k H):=by
 intro pins s σ H x v Q I rx h
 obtain ⟨k,e,q⟩:=h
 have hl:=iJ
 have hs:sizeLine=16777216:=sizeLine_eq
 cases x with
 | non=>
  cases rx
  have e':k=false:=e
  subst e'
  exact truthy_none ⟨H,I,q⟩
 | bl b=>
  cases rx
  have e':k=b:=e
  subst e'
  exact wpAny_truthy_bool ⟨H,I,q⟩
 | int i=>
  obtain ⟨t,rfl⟩:=rx
  have e':k=(i != 0):=e
  subst e'
  exact PySem.P.truthy_int ⟨H,I,q⟩
 | str y=>
  obtain ⟨t,rfl⟩:=rx
  obtain ⟨hy,e'⟩:y.length<=sizeLine/\k=((y.length:Int) != 0):=e
  subst e'
  exact PySem.P.truthy_str (by omega) ⟨H,I.tok _,q⟩
 | byt y=>
  obtain ⟨t,rfl⟩:=rx
  obtain ⟨hy,e'⟩:y.size<=sizeLine/\k=((y.size:Int) != 0):=e
  subst e'
  exact PySem.W.truthy_bytes (by omega) ⟨H,I.tok _,q⟩
 | ref p=>
  cases rx
  have e':(∃ xs,SqL X.K H p xs/\k=!xs.isEmpty)\/(∃ xs,SqT X.K H p xs/\k=!xs.isEmpty)\/∃ kvs,H p=some (.dK kvs)/\k=!kvs.isEmpty:=e
  rcases e' with ⟨xs,hx,e'⟩ | ⟨xs,hx,e'⟩ | ⟨kvs,hx,e'⟩
  ·subst e'
   obtain ⟨its,r,pl,hz⟩:=I.list hx
   have hlen:=r.length
   exact wpAny_truthy_list pl.isList (by simp only [List.size_toArray]; omega) ⟨H,I.tok _,by rw [nJ r]; exact q⟩
  ·subst e'
   obtain ⟨its,r,pl,hz⟩:=I.tuple hx
   have hlen:=r.length
   exact truthy_tuple pl (by simp only [List.size_toArray]; omega) ⟨H,I.tok _,by rw [nJ r]; exact q⟩
  ·subst e'
   obtain ⟨hz,hS,vs,r,m⟩:kvs.length<=sizeLine/\(p == sysModules)=false/\∃ vs,KV kvs vs/\s.heap.DictOf (aQ X.prog X.w) p vs:=I.hok p _ hx
   have hlen:kvs.length=vs.length:=Paired.length r
   exact wpAny_truthy_dict hS m (by omega) ⟨H,I.tok _,by rw [yK r]; exact q⟩
 | _=>exact (show False from e).elim
theorem Cs (ha:PE X a ta) (he:∀ whole,isTrue a X.env whole=(do let v <- whole; standAt a.pos; holding [v] (truthy v))):
  PT X a (fun σ H Q=>ta σ H fun x H'=>∃ k,EZ X.K x H' k/\Q k H'):=by
 intro pins s σ H Q I h
 exact isTrue_plain (thn (ha pins s σ H _ I h) fun v s1 ⟨x,H1,I1,r1,q1⟩=>Cr pins s1 σ H1 x v Q I1 r1 q1) (he _)
theorem yL:OpR X (binaryOp .Add) (fun x y H Q=>∃ i j,x=.str i/\y=.str j/\i.length+j.length<=sizeLine/\Q (.str (i++j)) H):=by
 intro pins s σ H x y v u Q I rx ry h
 obtain ⟨i,j,rfl,rfl,hz,q⟩:=h
 obtain ⟨t,rfl⟩:=rx
 obtain ⟨t',rfl⟩:=ry
 exact add_str (fun t' tk=>⟨.str (i++j),H,I.tok _,⟨_,rfl⟩,q⟩) hz
theorem vals1 {x:V} {us:List Value} (r:aH [x] us):∃ u,us=[u]/\RelV x u:=by
 cases r with
 | cons r1 r2=>cases r2; exact ⟨_,rfl,r1⟩
theorem vals2 {x y:V} {us:List Value} (r:aH [x,y] us):∃ u w',us=[u,w']/\RelV x u/\RelV y w':=by
 cases r with
 | cons r1 r2=>
  cases r2 with
  | cons r3 r4=>cases r4; exact ⟨_,_,rfl,r1,r3⟩
theorem Bf (hc:X.calm=true):bI X (.builtin "max") (fun xs H Q=>∃ i j,xs=[.int i,.int j]/\Q (.int (if j > i then j else i)) H):=by
 intro pins s σ H xs us Q I r h
 obtain ⟨i,j,rfl,q⟩:=h
 obtain ⟨u,w',rfl,⟨t,rfl⟩,⟨t',rfl⟩⟩:=vals2 r
 refine max_two_ints (I.ok.hd hc) fun h' tk k=>⟨_,H,I.kept k,?_,q⟩
 by_cases hj:j > i
 ·rw [if_pos hj,if_pos hj]; exact ⟨_,rfl⟩
 ·rw [if_neg hj,if_neg hj]; exact ⟨_,rfl⟩
def LJ (K:PySem.W.Frag) (x:V) (H:Hp) (n:Nat):Prop:=
 match x with
 | .str y=>y.length<=sizeLine/\n=y.length
 | .byt y=>y.size<=sizeLine/\n=y.size
 | .ref p=>(∃ xs,SqL K H p xs/\n=xs.length)\/∃ xs,SqT K H p xs/\n=xs.length
 | _=>False
theorem Ct:bI X (.builtin "len") (fun xs H Q=>∃ x n,xs=[x]/\LJ X.K x H n/\Q (.int n) H):=by
 intro pins s σ H xs us Q I r h
 obtain ⟨x,n,rfl,e,q⟩:=h
 obtain ⟨u,rfl,rx⟩:=vals1 r
 have hl:=iJ
 have hs:sizeLine=16777216:=sizeLine_eq
 cases x with
 | str y=>
  obtain ⟨t,rfl⟩:=rx
  obtain ⟨hy,e'⟩:y.length<=sizeLine/\n=y.length:=e
  subst e'
  exact len_str (by omega) ⟨.int _,H,I.tok _,⟨_,rfl⟩,q⟩
 | byt y=>
  obtain ⟨t,rfl⟩:=rx
  obtain ⟨hy,e'⟩:y.size<=sizeLine/\n=y.size:=e
  subst e'
  exact PySem.W.len_bytes (by omega) ⟨.int _,H,I.tok _,⟨_,rfl⟩,q⟩
 | ref p=>
  cases rx
  have e':(∃ xs,SqL X.K H p xs/\n=xs.length)\/∃ xs,SqT X.K H p xs/\n=xs.length:=e
  rcases e' with ⟨xs,hx,e'⟩ | ⟨xs,hx,e'⟩
  ·subst e'
   obtain ⟨its,r',pl,hz⟩:=I.list hx
   have hlen:=r'.length
   exact Calls.call_len_list pl.isList (by simp only [List.size_toArray]; omega) ⟨.int xs.length,H,I.tok _,⟨_,by simp only [List.size_toArray]; rw [hlen]⟩,q⟩
  ·subst e'
   obtain ⟨its,r',pl,hz⟩:=I.tuple hx
   have hlen:=r'.length
   exact len_tuple pl (by simp only [List.size_toArray]; omega) ⟨.int xs.length,H,I.tok _,⟨_,by simp only [List.size_toArray]; rw [hlen]⟩,q⟩
 | _=>exact (show False from e).elim
end
end L2
namespace L2
open PySem PySem.Spec PyProof.Rows
structure MF (h:Heap) (x dx C:Addr) (mA:Str->Option Value):Prop where
 obj:h.get? x=some (PySem.W.instObj C dx)
 ns:h.Ns1 dx mA
 ne:dx≠x
section
variable {prog:Program} {w:World} {A:Around} {E:Value->Shared->Prop} {s:Shared} {K:PySem.W.Frag} {x dx C f:Addr} {mA:Str->Option Value} {name:Str} {v:Value}
end
theorem mM.some_of {v:V} {o:Option Value} (r:mM (some v) o):∃ u,o=some u/\RelV v u:=by
 cases o with
 | none=>exact (show False from r).elim
 | some u=>exact ⟨u,rfl,r⟩
section
variable {P:Program} {w:World} {H H':Hp} {h h':Heap} {a C dx:Addr} {fs fs':List (Str×V)}
end
structure Cls (K:PySem.W.Frag) (C:Addr):Prop where
 pg:PySem.W.plainGet K C Str.empty=true
 hd:PySem.W.hasDictIn K C=true
 po:PySem.W.plainOver K C=true
 sa:PySem.W.findIn K (.ref C) "__setattr__" = some (some (.builtin "object.__setattr__"))
structure Con (K:PySem.W.Frag) (C:Addr) (f:Str) (v:V) (u:Value):Prop where
 at_:PySem.W.findIn K (.ref C) f=some (some u)
 rel:RelV v u
 get:PySem.W.specialIn K u "__get__" = some none
 cp:PySem.W.copiedNames.contains f=false
structure MG (K:PySem.W.Frag) (C:Addr) (m:Str) (f:Addr):Prop where
 at_:PySem.W.findIn K (.ref C) m=some (some (.ref f))
 fn:PySem.W.isFn K (.ref f)=true
 kp:PySem.W.keepIn K (.ref f)=true
section
variable {X:Cx} {pins:List (Addr×Obj)} {σ:St} {H:Hp} {s:Shared} {a C dx:Addr} {fs:List (Str×V)} {f:Str} {v:V} {A:Around} {E:Value->Shared->Prop}
end
section
variable {X:Cx} {o e value:Expr} {f:Str} {pos pos' tpos:Pos} {ta tv:TE}
end
section
variable {X:Cx} {pins:List (Addr×Obj)} {σ:St} {H:Hp} {s:Shared} {A:Around} {E:Value->Shared->Prop} {Q:Value->Shared->Prop} {c:Value} {b:Bool}
inductive nK (K:PySem.W.Frag) (H:Hp):V->Value->Prop where
 | non:nK K H .non (.type "NoneType")
 | bl (x:Bool):nK K H (.bl x) (.type "bool")
 | int (i:Int):nK K H (.int i) (.type "int")
 | str (x:Str):nK K H (.str x) (.type "str")
 | flt (x:UInt64):nK K H (.flt x) (.type "float")
 | lst {a:Addr} {xs:List V} (e:H a=some (.lst xs)):nK K H (.ref a) (.type "list")
 | frz {a:Addr} {o:Obj} {xs:List V} (e:H a=some (.frz o (.lst xs))):nK K H (.ref a) (.type "list")
 | tup {a:Addr} {xs:List V} (e:H a=some (.tup xs)):nK K H (.ref a) (.type "tuple")
 | dK {a:Addr} {kvs:List (Key×V)} (e:H a=some (.dK kvs)):nK K H (.ref a) (.type "dict")
 | dT {a:Addr} {kvs:List (List Key×V)} (e:H a=some (.dT kvs)):nK K H (.ref a) (.type "dict")
 | ins {a C dx:Addr} {fs:List (Str×V)} (e:H a=some (.ins C dx fs)) (cl:Cls K C) (ha:PySem.W.findIn K (.ref C) "__class__" = some (some (.builtin "object.__class__")))
   (hn:PySem.W.specialIn K (.builtin "object.__class__") "__get__" = some (some (.builtin "getset_descriptor.__get__"))) (htk:PySem.W.takesIn K (.builtin "object.__class__")=some true)
   (hm:PySem.W.mroIn K C (.type "object")=some true):nK K H (.ref a) (.ref C)
end
end L2
namespace L2
open PySem PySem.Spec PyProof.Rows
structure dC (k:Nat) (A:Around):Prop where
 hd:A.handled=none
 dp:A.depth+3*k+5 < recursionLimit
 un:A.units+16*k+200 < cLine
theorem dC.mono {j k:Nat} {A:Around} (r:dC k A) (h:j<=k):dC j A:=⟨r.hd,by have:=r.dp; omega,by have:=r.un; omega⟩
theorem dC.deeper {k:Nat} {A:Around} (r:dC (k+1) A) (env:Env):dC k (A.deeper env):=
 ⟨r.hd,by have:=r.dp; show A.depth+1+3*k+5 < _; omega,by have:=r.un; show A.units+3+16*k+200 < _; omega⟩
theorem dC.in1 {k:Nat} {A:Around} (r:dC (k+1) A):dC k A.in1:=
 ⟨r.hd,by have:=r.dp; show A.depth+3*k+5 < _; omega,by have:=r.un; show A.units+1+16*k+200 < _; omega⟩
theorem dC.depth {k:Nat} {A:Around} (r:dC k A):A.depth < recursionLimit:=by have:=r.dp; omega
theorem dC.units {k:Nat} {A:Around} (r:dC k A):A.units+64 < cLine:=by have:=r.un; omega
def Jr:TA:=fun _ H Q=>Q [] H
def Gu (ta:TE) (tr:TA):TA:=fun σ H Q=>ta σ H fun x H1=>tr σ H1 fun xs H2=>Q (x :: xs) H2
section
variable {X:Cx} {e:Expr} {es:List Expr} {te:TE} {t:TA} {pos:Pos}
theorem Cu:PA X [] Jr:=fun _ _ _ _ H Q I h=>Calls.spliced_nil ⟨[],H,I,.nil,h⟩
theorem Ap (ha:PE X e te) (hr:PA X es t) (hs:starEach (e :: es) X.env=(false,eval e X.env) :: starEach es X.env:=by rfl):PA X (e :: es) (Gu te t):=by
 intro pos pins s σ H Q I h
 rw [hs]
 show wpAny _ _ (spliced ((false,eval e X.env) :: backTo pos (starEach es X.env))) _ _ s
 refine Calls.spliced_cons (thn (ha pins s σ H _ I h) fun u s1 hz=>?_)
 obtain ⟨x,H1,I1,r1,q1⟩:=hz
 exact thn (hr pos pins s1 σ H1 _ I1 q1) fun us s2 ⟨xs,H2,I2,r2,q2⟩=>⟨x :: xs,H2,I2,.cons r1 r2,q2⟩
def LK (t:TA):TE:=fun σ H Q=>t σ H fun xs H1=>xs.length<=sizeLine/\∀ p,H1 p=none->Q (.ref p) (upd H1 p (.tup xs))
def LL (t:TA):TE:=fun σ H Q=>t σ H fun xs H1=>xs.length<=sizeLine/\∀ p,H1 p=none->Q (.ref p) (upd H1 p (.lst xs))
theorem Hm {x1} (h:PA X es t):PE X (.Tuple es x1 pos) (LK t):=by
 intro pins s σ H Q I hq
 refine wpAny_Tuple_spliced (thn (h pos pins s σ H _ I hq) fun us s1 ⟨xs,H1,I1,r,z,q⟩=>⟨by rw [<- r.length]; exact z,?_⟩)
 have hf:H1 s1.heap.objs.size=none:=I1.hok.fresh (Nat.le_refl _)
 refine ⟨.ref s1.heap.objs.size,upd H1 s1.heap.objs.size (.tup xs),I1.laid (t':=s1.toks) (fun b u e=>Heap.get?_push_of_some _ e) (Nat.le_refl _) ?_,rfl,q _ hf⟩
 exact ⟨z,us,r,⟨_,Heap.get?_push_size _ rfl,rfl,⟨_,rfl⟩,rfl⟩⟩
theorem Hn (h:PA X es t):PE X (.List es pos) (LL t):=by
 intro pins s σ H Q I hq
 refine wpAny_List_spliced (thn (h pos pins s σ H _ I hq) fun us s1 ⟨xs,H1,I1,r,z,q⟩=>⟨by rw [<- r.length]; exact z,?_⟩)
 have hf:H1 s1.heap.objs.size=none:=I1.hok.fresh (Nat.le_refl _)
 refine ⟨.ref s1.heap.objs.size,upd H1 s1.heap.objs.size (.lst xs),I1.laid (t':=s1.toks) (fun b u e=>Heap.get?_push_of_some _ e) (Nat.le_refl _) ?_,rfl,q _ hf⟩
 exact ⟨z,us,0,r,Heap.get?_push_size _ rfl⟩
end
abbrev Sp:=List V->Hp->VK->XK->Prop
abbrev CXT:=List Env->Hp->Shared->XK->Value->Shared->Prop
structure yM (P:Program) (w:World) (K:PySem.W.Frag) (mg:Str->Option Value) (base:Heap) (A:Around) (outer:List Env) (s:Shared) (H:Hp):Prop where
 frames:A.frames=some outer
 mod:Mod K mg base
 bs:∀ b o,base.get? b=some o->s.heap.get? b=some o/\H b=none
 bsz:base.objs.size<=s.heap.objs.size
 funs:s.heap.FunFrames base outer
 frf:∀ b∈frs outer,H b=none
 hok:HOk P w H s.heap
 bare:AllBare s.gens
def CE (outer:List Env) (P:Program) (w:World) (H:Hp) (s:Shared) (Q:VK) (u:Value) (s':Shared):Prop:=
 ∃ v H',s'.os=s.os/\AllBare s'.gens/\Un (frs outer) [] H H' s.heap s'.heap/\HOk P w H' s'.heap/\RelV v u/\Q v H'
def CR (CX:CXT) (outer:List Env) (P:Program) (w:World) (H:Hp) (s:Shared) (Q:VK) (E:XK) (r:Result) (s':Shared):Prop:=
 match r with
 | .ok (.ret u)=>CE outer P w H s Q u s'
 | .ok _=>False
 | .error e=>CX outer H s E e s'
structure aZ (P:Program) (w:World) (K:PySem.W.Frag) (mg:Str->Option Value) (base:Heap) (CX:CXT) (k:Nat) (f:Addr) (fd:FuncData) (ps:List Str) (sp:Sp):Prop where
 len:∀ vs H Q E,sp vs H Q E->vs.length=ps.length
 run:∀ (A:Around) (outer:List Env) (s:Shared) (H:Hp) (args:Args) (us:List Value) (vs:List V) (Q:VK) (E:XK),dC k A->yM P w K mg base A outer s H->BindsTo s fd args (ps.zip us)->aH vs us->sp vs H Q E->
  codeAny (model P w) A (.call (.ref f) args) (CR CX outer P w H s Q E) s
theorem aZ.imp {P:Program} {w:World} {K:PySem.W.Frag} {mg:Str->Option Value} {base:Heap} {CX:CXT} {k:Nat} {f:Addr} {fd:FuncData} {ps:List Str} {sp sp':Sp} (F:aZ P w K mg base CX k f fd ps sp)
  (h:∀ vs H Q E,sp' vs H Q E->sp vs H Q E):aZ P w K mg base CX k f fd ps sp':=
 ⟨fun vs H Q E q=>F.len vs H Q E (h _ _ _ _ q),fun A outer s H args us vs Q E hr he hb hv hs=>F.run A outer s H args us vs Q E hr he hb hv (h _ _ _ _ hs)⟩
theorem yM.in1 {P:Program} {w:World} {K:PySem.W.Frag} {mg:Str->Option Value} {base:Heap} {A:Around} {outer:List Env} {s:Shared} {H:Hp} (e:yM P w K mg base A outer s H):
  yM P w K mg base A.in1 outer s H:=⟨e.frames,e.mod,e.bs,e.bsz,e.funs,e.frf,e.hok,e.bare⟩
section
variable {X:Cx} {pins:List (Addr×Obj)} {σ:St} {H:Hp} {s s':Shared}
theorem Inv.env0 (I:Inv X pins σ H s):yM X.prog X.w X.K X.mg X.base X.A X.stack s H:=
 ⟨I.ok.frames,I.ok.mod,I.bs,Nat.le_trans I.ok.bsz I.sz,I.stack,I.stkFree,I.hok,I.bare⟩
theorem Inv.after {Q:VK} {u:Value} (I:Inv X pins σ H s) (h:CE X.stack X.prog X.w H s Q u s'):EP X pins σ Q u s':=by
 obtain ⟨v,H',os,bare,un,hok,r,q⟩:=h
 obtain ⟨hh,g,d,t,os'⟩:=s'
 obtain rfl:os'=s.os:=os
 exact ⟨v,H',I.call (h':=hh) (g':=g) (d':=d) (t':=t) (ch:=[]) un hok bare (fun b z=>absurd z (by simp)),r,q⟩
end
def Gv (sp:Sp) (dvs:List V) (E:XK) (t:TA):TE:=fun σ H Q=>t σ H fun vs H1=>sp (vs++dvs) H1 Q E
def Binds (K:PySem.W.Frag) (fd:FuncData) (ps:List Str) (ds:List Value):Prop:=
 ∀ (s:Shared) (us:List Value),K.In s.heap->(us++ds).length=ps.length->BindsTo s fd ⟨us,[]⟩ (ps.zip (us++ds))
theorem Binds.all {K:PySem.W.Frag} {fd:FuncData} {ps:List Str} (h:∀ us:List Value,us.length=ps.length->bindArgs fd ⟨us,[]⟩=pure (ps.zip us)):Binds K fd ps []:=fun s us _ hl=>by
 rw [List.append_nil] at hl ⊢
 exact .of_eq (h us hl)
def yN (CX:CXT) (X:Cx) (E:XK):Prop:=∀ (pins:List (Addr×Obj)) (σ:St) (H:Hp) (s:Shared) (e:Value) (s':Shared),Inv X pins σ H s->CX X.stack H s E e s'->X.xe e s'
section
variable {X:Cx} {CX:CXT} {k:Nat} {f C:Addr} {fd:FuncData} {ps:List Str} {sp:Sp} {dvs:List V} {ds:List Value} {E:XK} {x m:Str} {p pos apos:Pos} {e o:Expr} {es:List Expr} {ta:TE} {t:TA}
theorem Ho {pins:List (Addr×Obj)} {σ:St} {H:Hp} {s:Shared} {Q:VK} {us:List Value} {vs:List V} (F:aZ X.prog X.w X.K X.mg X.base CX k f fd ps sp) (hr:dC k X.A) (hb:Binds X.K fd ps ds) (hd:aH dvs ds) (hx:yN CX X E)
  (I:Inv X pins σ H s) (r:aH vs us) (h:sp (vs++dvs) H Q E):wpAny (model X.prog X.w) X.A (call (.ref f) us) (EP X pins σ Q) X.xe s:=by
 have r2:aH (vs++dvs) (us++ds):=r.append hd
 have hl:(us++ds).length=ps.length:=by rw [<- r2.length]; exact F.len _ _ _ _ h
 refine wpAny_call (codeAny_mono (F.run X.A X.stack s H ⟨us,[]⟩ (us++ds) (vs++dvs) Q E hr I.env0 (hb s us I.kIn hl) r2 h) fun r s' hq=>?_)
 cases r with
 | error e=>exact hx pins σ H s e s' I hq
 | ok fl=>
  cases fl with
  | ret u=>exact I.after hq
  | next=>exact False.elim hq
  | brk=>exact False.elim hq
  | cont=>exact False.elim hq
theorem F0 (F:aZ X.prog X.w X.K X.mg X.base CX k f fd ps sp) (hr:dC k X.A) (hg:Gl X x) (hm:X.mg x=some (.ref f)) (hk:PySem.W.keepIn X.K (.ref f)=true) (hb:Binds X.K fd ps ds) (hd:aH dvs ds) (hx:yN CX X E)
  (ha:PA X (e :: es) t) (hdb:(x == ("__debug__" : Str))=false:=by decide) (he:starEach (e :: es) X.env=(false,eval e X.env) :: starEach es X.env:=by rfl) (hpl:(backTo pos (starEach es X.env)).any (·.1)=false:=by rfl):
  PE X (.Call (.Name x p) (e :: es) [] pos) (Gv sp dvs E t):=by
 intro pins s σ H Q I h
 refine wpAny_Call_Name_kw (An I hg hm ?_ hdb)
 refine PySem.W.callWith_K (h₀:=X.base) I.ok.mod.kin hk (thn (ha pos pins s σ H _ I h) fun us s1 ⟨vs,H1,I1,r,q⟩=>⟨I1.kIn,?_⟩) he hpl
 exact Ho F hr hb hd hx I1 r q
structure Mk (K:PySem.W.Frag) (C f:Addr):Prop where
 makes:PySem.W.makesIn K C=true
 init:PySem.W.findIn K (.ref C) "__init__" = some (some (.ref f))
 fn:PySem.W.isFn K (.ref f)=true
 kp:PySem.W.keepIn K (.ref C)=true
end
section
variable {X:Cx} {CX:CXT} {k:Nat} {f C:Addr} {fd:FuncData} {ps ks:List Str} {sp:Sp} {E:XK} {x m:Str} {p pos apos kpos:Pos} {e o:Expr} {es:List Expr} {kws:List Keyword} {te ta:TE} {t tk:TA} {nm:Option Str}
structure LM (K:PySem.W.Frag) (fd:FuncData) (ps ks:List Str) (g:List Value->List Value->List Value) (gV:List V->List V->List V):Prop where
 to:∀ (s:Shared) (us ws:List Value),K.In s.heap->(g us ws).length=ps.length->BindsTo s fd ⟨us,ks.zip ws⟩ (ps.zip (g us ws))
 rel:∀ {vs:List V} {us:List Value} {zs:List V} {ws:List Value},aH vs us->aH zs ws->aH (gV vs zs) (g us ws)
variable {g:List Value->List Value->List Value} {gV:List V->List V->List V}
end
structure bN (N P:List Str) (sc:Scope):Prop where
 kind:sc.kind=.function
 co:sc.isCoroutine=false
 gen:sc.isGenerator=false
 nd:N.Nodup
 pre:N.take P.length=P
 par:∀ x∈P,sc.names.lookup x=some .local\/sc.names.lookup x=some .cell
 nofree:∀ y∈sc.names,y.2≠.free
theorem qR {kindOf:Str->Option NameKind} {x:Str}:∀ {binds:List (Str×Value)} {m:Str->Option Value},(∀ v,(x,v)∉binds)->bindL kindOf binds m x=m x
 | [],_,_=>rfl
 | (n,v) :: r,m,h=>by
  unfold bindL
  rw [qR fun w hw=>h w (List.mem_cons_of_mem _ hw)]
  split
  ·have:x≠n:=by rintro rfl; exact h v List.mem_cons_self
   simp [this]
  ·rfl
theorem qS {kindOf:Str->Option NameKind} {x:Str}:∀ {binds:List (Str×Value)} {m:Str->Option Value},(∀ v,(x,v)∉binds)->bindC kindOf binds m x=m x
 | [],_,_=>rfl
 | (n,v) :: r,m,h=>by
  unfold bindC
  rw [qS fun w hw=>h w (List.mem_cons_of_mem _ hw)]
  split
  ·rfl
  ·have:x≠n:=by rintro rfl; exact h v List.mem_cons_self
   simp [this]
theorem qT {kindOf:Str->Option NameKind} {x:Str} {v:Value}:∀ {P:List Str} {vs:List Value} {i:Nat} {m:Str->Option Value},P.Nodup->P[i]?=some x->vs[i]?=some v->kindOf x=some .local->
  bindL kindOf (P.zip vs) m x=some v
 | [],_,_,_,_,h,_,_=>by simp at h
 | _ :: _,[],_,_,_,_,h,_=>by simp at h
 | p :: P,w :: vs,0,m,nd,h1,h2,hk=>by
  simp at h1 h2; subst h1; subst h2
  show bindL kindOf ((p,w) :: P.zip vs) m p=_
  unfold bindL
  rw [qR fun v hv=>(List.nodup_cons.mp nd).1 (List.of_mem_zip hv).1,if_pos hk]
  simp
 | p :: P,w :: vs,i+1,m,nd,h1,h2,hk=>by
  show bindL kindOf ((p,w) :: P.zip vs) m x=_
  unfold bindL
  exact qT (i:=i) (List.nodup_cons.mp nd).2 (by simpa using h1) (by simpa using h2) hk
theorem qU {kindOf:Str->Option NameKind} {x:Str} {v:Value}:∀ {P:List Str} {vs:List Value} {i:Nat} {m:Str->Option Value},P.Nodup->P[i]?=some x->vs[i]?=some v->kindOf x≠some .local->
  bindC kindOf (P.zip vs) m x=some v
 | [],_,_,_,_,h,_,_=>by simp at h
 | _ :: _,[],_,_,_,_,h,_=>by simp at h
 | p :: P,w :: vs,0,m,nd,h1,h2,hk=>by
  simp at h1 h2; subst h1; subst h2
  show bindC kindOf ((p,w) :: P.zip vs) m p=_
  unfold bindC
  rw [qS fun v hv=>(List.nodup_cons.mp nd).1 (List.of_mem_zip hv).1,if_neg hk]
  simp
 | p :: P,w :: vs,i+1,m,nd,h1,h2,hk=>by
  show bindC kindOf ((p,w) :: P.zip vs) m x=_
  unfold bindC
  exact qU (i:=i) (List.nodup_cons.mp nd).2 (by simpa using h1) (by simpa using h2) hk
def start (N:List Str) (vs:List V):St:=vs.map some++List.replicate (N.length - vs.length) none
def yO (CX:CXT) (P:Program) (w:World) (K:PySem.W.Frag) (mg:Str->Option Value) (base:Heap) (N:List Str) (qual:Str) (scope:Scope) (f:Addr) (cd:Value) (A:Around) (outer:List Env) (s:Shared) (H:Hp) (E:XK):Cx where
 prog:=P
 w:=w
 K:=K
 mg:=mg
 base:=base
 A:=A.deeper (envOfC qual scope s.heap.objs.size f cd)
 N:=N
 s₀:=s
 H₀:=H
 env:=envOfC qual scope s.heap.objs.size f cd
 outer:=outer
 stack:=envOfC qual scope s.heap.objs.size f cd :: outer
 ex:=[]
 calm:=true
 fn:=fun _=>true
 pn:=[]
 xe:=fun e s'=>wpAny (model P w) (A.deeper (envOfC qual scope s.heap.objs.size f cd)) (leaving (envOfC qual scope s.heap.objs.size f cd) e) (fun _ s''=>CX outer H s E e s'') (fun e' s''=>CX outer H s E e' s'') s'
theorem vC {sc:Scope} {n:Nat} {x:Str} (h:sc.names.lookup x=some .cell):∃ c,(cellsFrom n sc.names []).lookup x=some c:=by
 have q:=PySem.W.cellsFrom_some sc.names n [] (.inl h)
 exact Option.isSome_iff_exists.mp q
theorem Bg {CX:CXT} {P:Program} {w:World} {K:PySem.W.Frag} {mg:Str->Option Value} {base:Heap} {N ps:List Str} {qual:Str} {scope:Scope} {f:Addr} {cd:Value} {A:Around} {outer:List Env} {s s1:Shared} {H:Hp} {E:XK} {us:List Value} {vs:List V}
  (S:bN N ps scope) (hd:A.handled=none) (e0:yM P w K mg base A outer s H) (hl:vs.length=ps.length) (r:aH vs us)
  (x:InCallC s s.heap.objs.size (bindL (envOfC qual scope s.heap.objs.size f cd).kindOf (ps.zip us) fun _=>none) (cellsFrom (s.heap.objs.size+1) scope.names []) (bindC (envOfC qual scope s.heap.objs.size f cd).kindOf (ps.zip us) fun _=>none) s1):
  Inv (yO CX P w K mg base N qual scope f cd A outer s H E) [] (start N vs) H s1:=by
 have hpl:ps.length<=N.length:=by have:=congrArg List.length S.pre; rw [List.length_take] at this; omega
 obtain ⟨h1,tk,rfl,hk⟩:=x.done
 have noA:∀ b:Addr,b∉(yO CX P w K mg base N qual scope f cd A outer s H E).ex:=fun b z=>absurd (show b∈([]:List Addr) from z) (by simp)
 refine ⟨⟨e0.mod,S.kind,rfl,rfl,Nat.le_refl _,fun y z c h1 h2=>?_,fun y hy=>?_,fun y c _ h=>?_,fun _=>hd,Around.frames_deeper e0.frames,.inr ⟨rfl,rfl⟩,fun b z=>absurd z (noA b),e0.bs,e0.bsz,fun b _ _=>noA b,fun b z=>absurd z (noA b),e0.funs,e0.frf⟩,
  rfl,e0.bare,Un.kept hk,⟨_,x.toInCall.ns,fun i y v h1 h2 h3=>?_⟩,fun y c h=>⟨_,x.cell y c h⟩,e0.hok.fresh (Nat.le_refl _),fun y c h=>?_,fun p hp=>absurd (show p∈([]:List (Addr×Obj)) from hp) (by simp),e0.hok.kept hk,?_⟩
 ·exact name_of_addr x.apart (PySem.mem_of_lookup h1) (PySem.mem_of_lookup h2)
 ·have hy:scope.names.lookup y=some .cell\/scope.names.lookup y=some .free:=hy
  rcases hy with hy | hy
  ·exact vC hy
  ·exact absurd rfl (S.nofree _ (PySem.mem_of_lookup hy))
 ·exact Nat.le_of_lt (x.above y c (PySem.mem_of_lookup h))
 ·have hi:i < vs.length:=by
   unfold start at h2
   by_cases hi:i < vs.length
   ·exact hi
   ·rw [List.getElem?_append_right (by simpa using hi)] at h2
    rw [List.getElem?_replicate] at h2
    split at h2 <;> cases h2
  have ha:vs[i]?=some v:=by
   unfold start at h2
   rw [List.getElem?_append_left (by simpa using hi),List.getElem?_map] at h2
   cases e:vs[i]? with
   | none=>rw [e] at h2; cases h2
   | some a=>rw [e] at h2; cases h2; rfl
  obtain ⟨u,hu,rv⟩:=r.get ha
  have hp:ps[i]?=some y:=by
   rw [<- S.pre,List.getElem?_take_of_lt (by omega)]; exact h1
  have ndP:ps.Nodup:=by rw [<- S.pre]; exact S.nd.sublist (List.take_sublist _ _)
  refine ⟨u,rv,?_⟩
  rcases S.par y (List.mem_of_getElem? hp) with k | k
  ·exact .inl ⟨k,qT ndP hp hu k⟩
  ·obtain ⟨c,e⟩:=vC (n:=s.heap.objs.size+1) k
   refine .inr ⟨.inl k,c,e,?_⟩
   have q:=x.cell y c e
   rw [qU ndP hp hu (by show scope.names.lookup y≠_; rw [k]; decide)] at q
   exact q
 ·exact e0.hok.fresh (Nat.le_of_lt (x.above y c (PySem.mem_of_lookup h)))
 ·unfold start
  show _=N.length
  rw [List.length_append,List.length_map,List.length_replicate]
  omega
theorem Js {CX:CXT} {P:Program} {w:World} {K:PySem.W.Frag} {mg:Str->Option Value} {base:Heap} {k:Nat} {f:Addr} {name qual:Str} {params:Arguments} {body:List Stmt} {scope:Scope} {dV kV doc pm cdv ct oc:Value} {an od:Option Addr}
  {osl:Array (Option Value)} {N ps:List Str} {sp:Sp} (lk:K.lookup f=some ⟨oc,od,.func (PySem.W.fnOf name qual params body scope dV kV doc pm an cdv ct),osl⟩) (hcd:PySem.W.codeIn K cdv qual=true) (S:bN N ps scope)
  (len:∀ vs H Q E,sp vs H Q E->vs.length=ps.length)
  (hbody:∀ (A:Around) (outer:List Env) (s:Shared) (H:Hp) (vs:List V) (Q:VK) (E:XK),dC k (A.deeper (envOfC qual scope s.heap.objs.size f cdv))->sp vs H Q E->
   ∃ t,PSs (yO CX P w K mg base N qual scope f cdv A outer s H E) body t/\t { nx:=fun _ H'=>Q .non H',rt:=Q } (start N vs) H):
  aZ P w K mg base CX (k+1) f (PySem.W.fnOf name qual params body scope dV kV doc pm an cdv ct) ps sp:=by
 refine ⟨len,fun A outer s H args us vs Q E hr e0 hb r hsp=>?_⟩
 have hl:=len _ _ _ _ hsp
 have KX:K.In s.heap:=e0.mod.kin.keeps fun b o e=>(e0.bs b o e).1
 have lim:s.heap.NoLimit:=e0.mod.nolimit.keeps fun b o e=>(e0.bs b o e).1
 have hkind:∀ y∈ps.zip us,scope.names.lookup y.1=some .local\/(scope.names.lookup y.1=some .cell/\((cellsFrom (s.heap.objs.size+1) scope.names []).lookup y.1).isSome=true):=fun ⟨n,v⟩ hy=>by
  rcases S.par n (List.of_mem_zip hy).1 with q | q
  ·exact .inl q
  ·exact .inr ⟨q,PySem.W.cellsFrom_some _ _ _ (.inl q)⟩
 refine codeAny_call_function hr.depth (KX _ _ lk) rfl S.co S.gen rfl (PySem.W.codeRec_of KX hcd) (hb _ _ _ _ ?_)
 refine wpAny_newFunctionEnv_cells S.kind hkind fun env he s1 x=>?_
 subst he
 refine ⟨lim.keeps x.toInCall.keep,codeAny_func ?_⟩
 obtain ⟨t,ht,hq⟩:=hbody A outer s H vs Q E (hr.deeper _) hsp
 have I:Inv (yO CX P w K mg base N qual scope f cdv A outer s H E) [] (start N vs) H s1:=Bg S hr.hd e0 hl r x
 refine wpAny_mono (ht [] s1 (start N vs) H _ I hq) (fun fl s' hs=>?_) fun e s' hs=>hs
 have fin:∀ {σ':St} {H':Hp} {v:V} {u:Value},Inv (yO CX P w K mg base N qual scope f cdv A outer s H E) [] σ' H' s'->RelV v u->Q v H'->CE outer P w H s Q u s':=
  fun {σ' H' v u} J rv q=>⟨v,H',J.os,J.bare,J.base,J.hok,rv,q⟩
 cases fl with
 | ret u=>
  obtain ⟨v,σ',H',J,rv,q⟩:=hs
  exact fin J rv q
 | next=>
  obtain ⟨σ',H',J,q⟩:=hs
  exact fin (v:=V.non) (u:=Value.none) J rfl q
 | brk=>
  obtain ⟨_,_,_,q⟩:=hs
  exact False.elim q
 | cont=>
  obtain ⟨_,_,_,q⟩:=hs
  exact False.elim q
end L2
namespace L2
open PySem PySem.Spec PyProof.Rows
section
variable {X:Cx} {x:Str} {p pos:Pos} {e:Expr} {es:List Expr} {t:TA} {id T:String} {r:List V->Hp->VK->Prop}
def tCB (r:List V->Hp->VK->Prop) (t:TA):TE:=fun σ H Q=>t σ H fun vs H1=>r vs H1 Q
theorem Cv (hc:bI X (.builtin id) r) (hg:Gl X x) (hm:X.mg x=none) (hv:bootBuiltins x=some (.builtin id)) (ha:PA X (e :: es) t) (hn:x≠"__name__" := by decide) (hdb:(x == ("__debug__" : Str))=false:=by decide)
  (he:starEach (e :: es) X.env=(false,eval e X.env) :: starEach es X.env:=by rfl) (hpl:(backTo pos (starEach es X.env)).any (·.1)=false:=by rfl):PE X (.Call (.Name x p) (e :: es) [] pos) (tCB r t):=by
 intro pins s σ H Q I h
 refine wpAny_Call_Name_kw (kI I hg hm hv ?_ hn hdb)
 exact PyProof.Rows.callWith_builtin1 (thn (ha pos pins s σ H _ I h) fun us s1 ⟨vs,H1,I1,r1,q1⟩=>hc pins s1 σ H1 vs us Q I1 r1 q1) he hpl
theorem Bh (hc:bI X (.type T) r) (hg:Gl X x) (hm:X.mg x=none) (hv:bootBuiltins x=some (.type T)) (ha:PA X (e :: es) t) (hn:x≠"__name__" := by decide) (hdb:(x == ("__debug__" : Str))=false:=by decide)
  (he:starEach (e :: es) X.env=(false,eval e X.env) :: starEach es X.env:=by rfl) (hpl:(backTo pos (starEach es X.env)).any (·.1)=false:=by rfl):PE X (.Call (.Name x p) (e :: es) [] pos) (tCB r t):=by
 intro pins s σ H Q I h
 refine wpAny_Call_Name_kw (kI I hg hm hv ?_ hn hdb)
 exact PyProof.Rows.callWith_type1 (thn (ha pos pins s σ H _ I h) fun us s1 ⟨vs,H1,I1,r1,q1⟩=>hc pins s1 σ H1 vs us Q I1 r1 q1) he hpl
end
end L2
namespace HT
open PySem PyProof.Rows
section
open PySem.SeqAt
open PySem.AutoSeq1 (wpAny_loadPart')
open PySem.MeetsSeq PySem.MeetsSeq2 PySem.MeetsSeq3
end
section
variable {prog:Program} {w:World} {A:Around} {E:Value->Shared->Prop} {s:Shared}
theorem cat_tup {t b:Addr} {vs ws:List Value} {Q:Value->Shared->Prop} (ht:IsTup s.heap t vs.toArray) (hb:IsTup s.heap b ws.toArray) (hv:vs≠[])
  (h1:ws=[]->Q (.ref t) s) (h2:ws≠[]->Q (.ref s.heap.objs.size) { s with heap:=s.heap.push { cls:=.type "tuple",data:=.seq (vs++ws).toArray } })
  (hsz:vs.length+ws.length<=sizeLine):wpAny (model prog w) A (binaryOp .Add (.ref t) (.ref b)) Q E s:=by
 obtain ⟨⟨cls,dd,data,sl⟩,ho,hc,n,hd⟩:=id ht
 obtain ⟨⟨cls2,dd2,data2,sl2⟩,ho2,hc2,n2,hd2⟩:=id hb
 simp only at hc hd hc2 hd2
 subst hc hd hc2 hd2
 have e:vs.toArray++ws.toArray=(vs++ws).toArray:=by simp
 by_cases hw:ws=[]
 ·exact concat_meets ⟨_,ho,rfl⟩ ⟨_,ho2,rfl⟩ noFill_tuple_add seq_tuple_add PySem.F.slot_tuple_add PySem.F.entry_tuple_add (PySem.F.args_tuple_add_2 _ _)
   (tuple_addW1 t b vs.toArray ws.toArray n n2 dd dd2 sl sl2 (by simpa using hv) (by simp [hw])) ⟨ho,ho2,h1 hw⟩
 ·refine concat_meets ⟨_,ho,rfl⟩ ⟨_,ho2,rfl⟩ noFill_tuple_add seq_tuple_add PySem.F.slot_tuple_add PySem.F.entry_tuple_add (PySem.F.args_tuple_add_2 _ _)
   (tuple_addW2 t b vs.toArray ws.toArray n n2 dd dd2 sl sl2 (by simpa using hv) (by simpa using hw) (by rw [List.size_toArray,List.size_toArray]; exact hsz)) ⟨ho,ho2,?_⟩
  rw [e]
  exact h2 hw
def sIx (n d:Nat):Option Int->Nat
 | none=>d
 | some v=>if v < 0 then (v+(n:Int)).toNat else min v.toNat n
theorem Aq (n d k:Nat):sIx n d (some (k:Int))=min k n:=by
 show (if (k:Int) < 0 then ((k:Int)+(n:Int)).toNat else min (k:Int).toNat n)=min k n
 rw [if_neg (by omega),Int.toNat_natCast]
theorem Hq (n d:Nat) (hd:d<=n) (o:Option Int):sIx n d o<=n:=by
 cases o with
 | none=>exact hd
 | some v=>
  show (if v < 0 then (v+(n:Int)).toNat else min v.toNat n)<=n
  by_cases hv:v < 0
  ·rw [if_pos hv]; omega
  ·rw [if_neg hv]; exact Nat.min_le_right _ _
theorem Ar (v:Int) (n d:Nat):(if v < 0 then max (v+(n:Int)) 0 else min v (n:Int))=((sIx n d (some v):Nat):Int):=by
 show (if v < 0 then max (v+(n:Int)) 0 else min v (n:Int))=(((if v < 0 then (v+(n:Int)).toNat else min v.toNat n):Nat):Int)
 by_cases hv:v < 0
 ·simp only [if_pos hv]; omega
 ·simp only [if_neg hv]; omega
theorem yP (lo hi:Option Int) (n:Nat):Builtin.Slice.sliceAdjust lo hi 1 (n:Int)=(((sIx n 0 lo:Nat):Int),((sIx n n hi:Nat):Int)):=by
 have h1:¬ ((1:Int) < 0):=by omega
 unfold Builtin.Slice.sliceAdjust
 simp only [h1,if_false]
 refine Prod.ext ?_ ?_
 ·cases lo with
  | none=>rfl
  | some v=>exact Ar v n 0
 ·cases hi with
  | none=>rfl
  | some v=>exact Ar v n n
theorem yQ (i j:Nat):Builtin.Slice.slicePlaces (i:Int) (j:Int) 1=j - i:=by
 unfold Builtin.Slice.slicePlaces
 have h1:(1:Int) > 0:=by omega
 simp only [h1,if_true,Int.ediv_one]
 split <;> omega
theorem nL {v:Value} {o:Option Int} {Q:Option Int->Shared->Prop} (p:IsPart v o) (h:Q o s):wpAny (model prog w) A (Builtin.Slice.slicePartIndex v) Q E s:=by
 cases p with
 | none=>exact slicePart_none h
 | int i t=>exact slicePart_int h
theorem sliceApplied_gen {sl:Addr} {vl vu:Value} {lo hi:Option Int} {n:Nat} {Q:Int×Int×Nat->Shared->Prop} (hs:s.heap.IsSliceOf sl vl vu .none) (pl:IsPart vl lo) (pu:IsPart vu hi)
  (h:Q (((sIx n 0 lo:Nat):Int),1,sIx n n hi - sIx n 0 lo) s):wpAny (model prog w) A (Builtin.Slice.sliceApplied (.ref sl) (pure (n:Int))) Q E s:=by
 obtain ⟨os,hos,hcs,hds⟩:=id hs
 unfold Builtin.Slice.sliceApplied Builtin.Slice.sliceFields
 refine wpAny_bind (wpAny_bind (wpAny_field hos hds (x:=vl) rfl (wpAny_bind (wpAny_field hos hds (x:=vu) rfl (wpAny_bind (wpAny_field hos hds (x:=.none) rfl (wpAny_pure ?_)))))))
 refine wpAny_bind (slicePart_none ?_)
 show wpAny _ _ (if ((1:Int) == 0)=true then _ else _) _ _ s
 rw [if_neg (by decide)]
 refine wpAny_bind (nL pl (wpAny_bind (nL pu (wpAny_bind (wpAny_pure ?_)))))
 show wpAny _ _ (match Builtin.Slice.sliceAdjust lo hi 1 (n:Int) with | (lo,hi)=>pure (lo,(1:Int),Builtin.Slice.slicePlaces lo hi 1)) _ _ s
 rw [yP lo hi n]
 show wpAny _ _ (pure (((sIx n 0 lo:Nat):Int),(1:Int),Builtin.Slice.slicePlaces ((sIx n 0 lo:Nat):Int) ((sIx n n hi:Nat):Int) 1)) _ _ s
 rw [yQ]
 exact wpAny_pure h
theorem Cw (xs:Array Value) (i k:Nat):((List.range k).filterMap fun (m:Nat)=>xs[((i:Int)+(m:Int)*1).toNat]?).toArray=((xs.toList.drop i).take k).toArray:=by
 have e:(fun (m:Nat)=>xs[((i:Int)+(m:Int)*1).toNat]?)=fun m=>xs[i+m]?:=by
  funext m
  have:((i:Int)+(m:Int)*1).toNat=i+m:=by omega
  rw [this]
 rw [e]
 have:=pick_run xs i k
 rw [List.filterMap_map] at this
 have e2:((fun x=>xs[x]?) ∘ fun x=>i+x)=fun m=>xs[i+m]?:=rfl
 rw [e2] at this
 rw [this]
theorem getItem_tuple_cut {t sl:Addr} {items:Array Value} {vl vu:Value} {lo hi:Option Int} {Q:Value->Shared->Prop} (ht:IsTup s.heap t items) (hs:s.heap.IsSliceOf sl vl vu .none) (pl:IsPart vl lo) (pu:IsPart vu hi)
  (hw:¬ (sIx items.size 0 lo=0/\sIx items.size items.size hi=items.size))
  (h:Q (.ref s.heap.objs.size) { s with heap:=s.heap.push { cls:=.type "tuple",data:=.seq ((items.toList.drop (sIx items.size 0 lo)).take (sIx items.size items.size hi - sIx items.size 0 lo)).toArray } })
  (hsz:items.size<=sizeLine):wpAny (model prog w) A (getItem (.ref t) (.ref sl)) Q E s:=by
 have htake:sizeOk (.seq ((items.toList.drop (sIx items.size 0 lo)).take (sIx items.size items.size hi - sIx items.size 0 lo)).toArray):=by
  show ((items.toList.drop (sIx items.size 0 lo)).take (sIx items.size items.size hi - sIx items.size 0 lo)).toArray.size<=sizeLine
  rw [List.size_toArray,List.length_take,List.length_drop,Array.length_toList]
  omega
 have hj:sIx items.size items.size hi<=items.size:=Hq _ _ (Nat.le_refl _) hi
 obtain ⟨os,hos,hcs,hds⟩:=id hs
 have hTs:s.TypeIs (.ref sl) "slice" := ⟨os,hos,hcs⟩
 unfold getItem
 try with_reducible refine wpAny_holding ?_
 first | refine wpAny_bind (wpAny_pure ?_) | skip
 refine wpAny_bind (wpAny_sequenceKey ht.typeIs (by decide) ?_)
 refine wpAny_bind (wpAny_callSpecial?_slot (name:=Str.ofString "__getitem__") ht.typeIs PyProof.Rows.slot_tuple_getitem
  (wpAny_call_entry PyProof.Rows.slot_tuple_getitem ht.typeIs entry_tuple_getitem ?_ (args_tuple_getitem _ _)))
 show wpAny _ _ (Builtin.Tuple.tupleItemsOf (.ref t) >>= _) _ _ s
 refine wpAny_bind (tupleItemsOf_ ht ?_)
 refine wpAny_bind (wpAny_typeOf hTs ?_)
 rw [if_pos (by decide)]
 refine wpAny_bind (sliceApplied_gen hs pl pu ?_)
 have hno:¬ ((((sIx items.size 0 lo:Nat):Int) == 0 && (1:Int) == 1 && (sIx items.size items.size hi - sIx items.size 0 lo) == items.size)=true):=by
  intro q
  rw [Bool.and_eq_true,Bool.and_eq_true] at q
  have q1:((sIx items.size 0 lo:Nat):Int)=0:=eq_of_beq q.1.1
  have q2:sIx items.size items.size hi - sIx items.size 0 lo=items.size:=eq_of_beq q.2
  exact hw ⟨by omega,by omega⟩
 show wpAny _ _ (if (((sIx items.size 0 lo:Nat):Int) == 0 && (1:Int) == 1 && (sIx items.size items.size hi - sIx items.size 0 lo) == items.size)=true then _ else _) _ _ s
 rw [if_neg hno,Cw]
 first
  | exact wpAny_bind (m:=Builtin.Tuple.tupleExact _) (wpAny_newObj_type (wpAny_pure ⟨_,rfl,wpAny_pure h⟩) htake)
  | exact wpAny_bind (m:=Builtin.Tuple.tupleExact _) (wpAny_newObj_type (wpAny_bind (wpAny_pure (wpAny_pure ⟨_,rfl,wpAny_pure h⟩))) htake)
  | exact wpAny_bind (wpAny_bind (m:=Builtin.Tuple.tupleExact _) (wpAny_newObj_type (wpAny_pure (wpAny_pure ⟨_,rfl,wpAny_pure h⟩)) htake))
  | exact wpAny_bind (wpAny_bind (m:=Builtin.Tuple.tupleExact _) (wpAny_newObj_type (wpAny_pure ⟨_,rfl,wpAny_pure h⟩) htake))
end
end HT
namespace L2
open PySem PySem.Spec PyProof.Rows
abbrev TO:=St->Hp->(Option Int->Hp->Prop)->Prop
def PO (X:Cx) (e:Option Expr) (t:TO):Prop:=
 ∀ (pins:List (Addr×Obj)) (s:Shared) (σ:St) (H:Hp) (Q:Option Int->Hp->Prop),Inv X pins σ H s->t σ H Q->
  wpAny (model X.prog X.w) X.A (evalPart e X.env) (fun u s'=>∃ o H',Inv X pins σ H' s'/\IsPart u o/\Q o H') X.xe s
def F1:TO:=fun _ H Q=>Q none H
theorem intsAre_of {ns:List Int}:∀ {us:List Value},aH (ns.map V.int) us->IntsAre us ns:=by
 induction ns with
 | nil=>intro us r; rw [List.map_nil] at r; cases r; exact .nil
 | cons n ns ih=>
  intro us r
  rw [List.map_cons] at r
  cases r with
  | cons r1 r2=>
   obtain ⟨t,e⟩:=r1
   subst e
   exact .cons n t (ih r2)
section
variable {X:Cx} {e:Expr} {te:TE} {lo hi:Option Expr} {tl th:TO} {pos p2:Pos}
theorem F2:PO X none F1:=by
 intro pins s σ H Q I h
 rw [evalPart_none]
 exact wpAny_pure ⟨none,H,I,.none,h⟩
def SlR (X:Cx) (r:V->Option Int->Option Int->Hp->VK->Prop):Prop:=
 ∀ (pins:List (Addr×Obj)) (s:Shared) (σ:St) (H:Hp) (x:V) (v vl vu:Value) (lo hi:Option Int) (sl:Addr) (Q:VK),Inv X pins σ H s->RelV x v->s.heap.IsSliceOf sl vl vu .none->IsPart vl lo->IsPart vu hi->r x lo hi H Q->
  ∃ T id,typeLookup (.type T) "__getitem__" = pure (some (.builtin id))/\s.TypeIs v T/\wpAny (model X.prog X.w) X.A (getItem v (.ref sl)) (EP X pins σ Q) X.xe s
theorem SlR.or {r r':V->Option Int->Option Int->Hp->VK->Prop} (h:SlR X r) (h':SlR X r'):SlR X (fun x lo hi H Q=>r x lo hi H Q\/r' x lo hi H Q):=by
 intro pins s σ H x v vl vu lo hi sl Q I rx hs pl pu q
 rcases q with q | q
 ·exact h pins s σ H x v vl vu lo hi sl Q I rx hs pl pu q
 ·exact h' pins s σ H x v vl vu lo hi sl Q I rx hs pl pu q
def tSl (r:V->Option Int->Option Int->Hp->VK->Prop) (te:TE) (tl th:TO):TE:=fun σ H Q=>te σ H fun x H1=>tl σ H1 fun l H2=>th σ H2 fun u H3=>r x l u H3 Q
theorem Cy {r:V->Option Int->Option Int->Hp->VK->Prop} (hr:SlR X r) (he:PE X e te) (hl:PO X lo tl) (hu:PO X hi th):PE X (.Subscript e (.Slice lo hi none p2) pos) (tSl r te tl th):=by
 intro pins s σ H Q I h
 refine Subscript_ (thn (he pins s σ H _ I h) fun v s1 hz=>?_)
 obtain ⟨x,H1,I1,r1,q1⟩:=hz
 refine wpAny_Slice (thn (hl pins s1 σ H1 _ I1 q1) fun vl s2 ⟨l,H2,I2,pl,q2⟩=>thn (hu pins s2 σ H2 _ I2 q2) fun vu s3 hz=>?_)
 obtain ⟨u,H3,I3,pu,q3⟩:=hz
 rw [evalPart_none]
 refine wpAny_pure ?_
 have I4:Inv X pins σ H3 { s3 with heap:=s3.heap.push { cls:=.type "slice",data:=.fields #[vl,vu,.none] } }:=I3.kept (t':=s3.toks) fun b ob q=>Heap.get?_push_of_some _ q
 obtain ⟨T,id,hT,ht,hg⟩:=hr pins { s3 with heap:=s3.heap.push { cls:=.type "slice",data:=.fields #[vl,vu,.none] } } σ H3 x v vl vu l u s3.heap.objs.size Q I4 r1 (Heap.IsSliceOf.new ..) pl pu q3
 show wpAny (model X.prog X.w) X.A (subscriptTail e (.Slice lo hi none p2) v (.ref s3.heap.objs.size)) (EP X pins σ Q) X.xe { s3 with heap:=s3.heap.push { cls:=.type "slice",data:=.fields #[vl,vu,.none] } }
 exact tail_any (ops:=[.ref s3.heap.objs.size,v]) ht hT hg (by with_unfolding_all rfl)
def vD (xs:List V) (lo hi:Option Int):List V:=(xs.drop (HT.sIx xs.length 0 lo)).take (HT.sIx xs.length xs.length hi - HT.sIx xs.length 0 lo)
theorem lN (xs:List V) (lo hi:Option Int):(vD xs lo hi).length<=xs.length:=by
 unfold vD
 rw [List.length_take,List.length_drop]
 omega
def Jt (K:PySem.W.Frag):V->Option Int->Option Int->Hp->VK->Prop:=fun x lo hi H Q=>∃ a xs,x=.ref a/\SqT K H a xs/\
 ¬ (HT.sIx xs.length 0 lo=0/\HT.sIx xs.length xs.length hi=xs.length)/\∀ p,H p=none->Q (.ref p) (upd H p (.tup (vD xs lo hi)))
theorem Hr:SlR X (Jt X.K):=by
 intro pins s σ H x v vl vu lo hi sl Q I rx hs pl pu h
 obtain ⟨a,xs,rfl,hx,hw,q⟩:=h
 cases rx
 obtain ⟨its,r,ht,hz⟩:=I.tuple hx
 have hlen:its.toArray.size=xs.length:=by rw [List.size_toArray]; exact r.length.symm
 refine ⟨"tuple",_,PyProof.Rows.slot_tuple_getitem.lookup,ht.typeIs,?_⟩
 refine HT.getItem_tuple_cut ht hs pl pu (by rw [hlen]; exact hw) ?_ (by rw [hlen]; exact hz)
 rw [hlen]
 refine ⟨.ref s.heap.objs.size,_,I.laid (t':=s.toks) (o:=.tup (vD xs lo hi)) (fun b ob q=>Heap.get?_push_of_some _ q) (Nat.le_refl _) ?_,rfl,q _ (I.hok.fresh (Nat.le_refl _))⟩
 exact ⟨Nat.le_trans (lN xs lo hi) hz,_,(r.drop (HT.sIx xs.length 0 lo)).take (HT.sIx xs.length xs.length hi - HT.sIx xs.length 0 lo),iY.new _ _⟩
def Gw (K:PySem.W.Frag):R2:=fun x y H Q=>∃ a b xs ys,x=.ref a/\y=.ref b/\SqT K H a xs/\SqT K H b ys/\xs≠[]/\xs.length+ys.length<=sizeLine/\
 (ys=[]->Q (.ref a) H)/\(ys≠[]->∀ p,H p=none->Q (.ref p) (upd H p (.tup (xs++ys))))
theorem aH.nil_iff {xs:List V} {us:List Value} (r:aH xs us):us=[] ↔ xs=[]:=by
 cases r with
 | nil=>simp
 | cons _ _=>simp
theorem F3:OpR X (binaryOp .Add) (Gw X.K):=by
 intro pins s σ H x y v u Q I rx ry h
 obtain ⟨a,b,xs,ys,rfl,rfl,ha,hb,hx,hz,q1,q2⟩:=h
 cases rx
 cases ry
 obtain ⟨its,r1,p1,_⟩:=I.tuple ha
 obtain ⟨its2,r2,p2,_⟩:=I.tuple hb
 refine HT.cat_tup p1 p2 (fun z=>hx (r1.nil_iff.mp z)) (fun z=>⟨.ref a,H,I,rfl,q1 (r2.nil_iff.mp z)⟩) (fun z=>?_) (by rw [<- r1.length,<- r2.length]; exact hz)
 refine ⟨.ref s.heap.objs.size,_,I.laid (t':=s.toks) (o:=.tup (xs++ys)) (fun b ob q=>Heap.get?_push_of_some _ q) (Nat.le_refl _) ?_,rfl,q2 (fun w=>z (r2.nil_iff.mpr w)) _ (I.hok.fresh (Nat.le_refl _))⟩
 exact ⟨by rw [List.length_append]; exact hz,_,r1.append r2,iY.new _ _⟩
end
end L2
namespace L2
open PySem PySem.Spec PyProof.Rows
def ixN (n:Nat) (i:Int):Option Nat:=if 0<=i then (if i < n then some i.toNat else none) else if -(n:Int)<=i then some (i+n).toNat else none
def atI {α:Type} (xs:List α) (i:Int):Option α:=(ixN xs.length i).bind fun j=>xs[j]?
theorem As {n:Nat} {i:Int} {j:Nat} (h:ixN n i=some j):seqIndex? i n=some j/\j < n/\-(n:Int)<=i/\i < n:=by
 unfold ixN at h
 by_cases h0:0<=i
 ·rw [if_pos h0] at h
  by_cases h1:i < n
  ·rw [if_pos h1] at h
   have e:i.toNat=j:=Option.some.inj h
   exact ⟨by rw [seqIndex_of h0 h1,e],by omega,by omega,h1⟩
  ·rw [if_neg h1] at h; cases h
 ·rw [if_neg h0] at h
  by_cases h1:-(n:Int)<=i
  ·rw [if_pos h1] at h
   have e:(i+n).toNat=j:=Option.some.inj h
   exact ⟨by rw [seqIndex_neg (by omega) h1,e],by omega,h1,by omega⟩
  ·rw [if_neg h1] at h; cases h
theorem sT {α:Type} {xs:List α} {i:Int} {v:α} (h:atI xs i=some v):∃ j,seqIndex? i xs.length=some j/\xs[j]?=some v/\j < xs.length/\-(xs.length:Int)<=i/\i < xs.length:=by
 unfold atI at h
 cases e:ixN xs.length i with
 | none=>rw [e] at h; cases h
 | some j=>
  rw [e] at h
  obtain ⟨h1,h2,h3,h4⟩:=As e
  exact ⟨j,h1,h,h2,h3,h4⟩
def Au (b:Expr):Prop:=∀ o i,subscripted b false o i=operate [o,i] (getItem o i)
def IxR (X:Cx) (r:R2):Prop:=
 ∀ (value slice:Expr) (pins:List (Addr×Obj)) (s:Shared) (σ:St) (H:Hp) (x y:V) (v u:Value) (Q:VK),Inv X pins σ H s->RelV x v->RelV y u->r x y H Q->
  subscripted slice false v u=operate [v,u] (getItem v u)->wpAny (model X.prog X.w) X.A (subscriptTail value slice v u) (EP X pins σ Q) X.xe s
def MtR (X:Cx) (id:String) (r:V->List V->Hp->VK->Prop):Prop:=
 ∀ (pins:List (Addr×Obj)) (s:Shared) (σ:St) (H:Hp) (x:V) (xs:List V) (v:Value) (us:List Value) (Q:VK),Inv X pins σ H s->RelV x v->aH xs us->r x xs H Q->
  wpAny (model X.prog X.w) X.A (call (.builtin id) (v :: us)) (EP X pins σ Q) X.xe s
section
variable {X:Cx} {a b:Expr} {ta tb:TE} {pos:Pos}
theorem IxR.or {r r':R2} (h:IxR X r) (h':IxR X r'):IxR X (fun x y H Q=>r x y H Q\/r' x y H Q):=by
 intro value slice pins s σ H x y v u Q I rx ry q hs
 rcases q with q | q
 ·exact h value slice pins s σ H x y v u Q I rx ry q hs
 ·exact h' value slice pins s σ H x y v u Q I rx ry q hs
theorem Ju {r:R2} (hr:IxR X r) (ha:PE X a ta) (hb:PE X b tb) (hs:Au b):PE X (.Subscript a b pos) (tOp r ta tb):=by
 intro pins s σ H Q I h
 exact Subscript_ (Hg ha hb I h fun v u s2 x y H2 I2 rx ry q=>hr a b pins s2 σ H2 x y v u Q I2 rx ry q (hs _ _))
def LN (K:PySem.W.Frag):R2:=fun x y H Q=>∃ p xs i v,x=.ref p/\y=.int i/\SqL K H p xs/\atI xs i=some v/\Q v H
def LO (K:PySem.W.Frag):R2:=fun x y H Q=>∃ p xs i v,x=.ref p/\y=.int i/\SqT K H p xs/\atI xs i=some v/\Q v H
def LP:R2:=fun x y H Q=>∃ z i c,x=.str z/\y=.int i/\z.length<=sizeLine/\atI z.cps.toList i=some c/\Q (.str ⟨#[c]⟩) H
theorem F4:IxR X (LN X.K):=by
 intro value slice pins s σ H x y v u Q I rx ry h hs
 obtain ⟨p,xs,i,z,rfl,rfl,hq,he,q⟩:=h
 cases rx
 obtain ⟨t,rfl⟩:=ry
 obtain ⟨its,r,pl,hz⟩:=I.list hq
 obtain ⟨j,h1,h2,h3,h4,h5⟩:=sT he
 obtain ⟨w,ew,rw'⟩:=r.get h2
 have hl:=r.length
 have hn:=iJ
 have fin:EP X pins σ Q w s:=⟨z,H,I,rw',q⟩
 by_cases h0:0<=i
 ·have hj:i.toNat=j:=by
   rw [seqIndex_of h0 h5] at h1
   exact Option.some.inj h1
  exact item_listR pl.isList h0 (by omega) (by rw [hj]; simpa using ew) fin hs
 ·have hj:(i+(its.toArray.size:Int)).toNat=j:=by
   rw [seqIndex_neg (by omega) h4] at h1
   rw [List.size_toArray,<- hl]
   exact Option.some.inj h1
  exact subscriptTail_builtinR (x:=w) pl.isList.typeIs slot_list_getitem.lookup
   (wpAny_getItem_list_neg (Q:=fun r s'=>r=w/\EP X pins σ Q r s') pl.isList (by omega) (by rw [List.size_toArray] <;> omega) (by omega) (by rw [hj]; simpa using ew) ⟨rfl,fin⟩) hs
theorem Hs:IxR X (LO X.K):=by
 intro value slice pins s σ H x y v u Q I rx ry h hs
 obtain ⟨p,xs,i,z,rfl,rfl,hq,he,q⟩:=h
 cases rx
 obtain ⟨t,rfl⟩:=ry
 obtain ⟨its,r,pl,hz⟩:=I.tuple hq
 obtain ⟨j,h1,h2,h3,h4,h5⟩:=sT he
 obtain ⟨w,ew,rw'⟩:=r.get h2
 have hl:=r.length
 have hn:=iJ
 have fin:EP X pins σ Q w s:=⟨z,H,I,rw',q⟩
 exact subscriptTail_builtinR (x:=w) pl.typeIs slot_tuple_getitem.lookup
  (getItem_tuple (j:=j) (Q:=fun r s'=>r=w/\EP X pins σ Q r s') pl (by omega) (by omega) (by rw [List.size_toArray,<- hl]; exact h1) (by simpa using ew) ⟨rfl,fin⟩) hs
theorem Ht:IxR X LP:=by
 intro value slice pins s σ H x y v u Q I rx ry h hs
 obtain ⟨z,i,c,rfl,rfl,hz,he,q⟩:=h
 obtain ⟨t,rfl⟩:=rx
 obtain ⟨t',rfl⟩:=ry
 obtain ⟨j,h1,h2,h3,h4,h5⟩:=sT he
 have hl:z.cps.toList.length=z.length:=by simp [Str.length]
 rw [hl] at h1 h4 h5
 have hn:=iJ
 exact tail_any (typeIs_str s z t) slot_str_getitem.lookup (getItem_str (c:=c) (by
  have e1:decide (i < -(2 ^ 63:Int))=false:=decide_eq_false (by omega)
  have e2:decide (i >= 2 ^ 63)=false:=decide_eq_false (by omega)
  rw [e1,e2,Bool.or_false]) (by rw [h1]; simpa using h2) ⟨.str ⟨#[c]⟩,H,I.tok _,⟨_,rfl⟩,q⟩) hs
theorem yR (its:List Value) (n j:Nat) (u:Value):Obj.mapSeq (·.setIfInBounds j u) { cls:=.type "list",data:=.seq its.toArray n }={ cls:=.type "list",data:=.seq (its.set j u).toArray n }:=by
 simp [Obj.mapSeq]
theorem Inv.lst {pins:List (Addr×Obj)} {σ:St} {H:Hp} {s:Shared} {p:Addr} {xs:List V} (I:Inv X pins σ H s) (h:H p=some (.lst xs)):
  ∃ (its:List Value) (n:Nat),aH xs its/\s.heap.get? p=some { cls:=.type "list",data:=.seq its.toArray n }/\xs.length<=sizeLine:=by
 obtain ⟨z,its,n,r,e⟩:=I.hok p _ h
 exact ⟨its,n,r,e,z⟩
theorem Inv.lstUpd {pins:List (Addr×Obj)} {σ:St} {H:Hp} {s:Shared} {p:Addr} {xs ys:List V} {its its':List Value} {n n':Nat} {f:Obj->Obj} (I:Inv X pins σ H s) (h:H p=some (.lst xs))
  (ho:s.heap.get? p=some { cls:=.type "list",data:=.seq its.toArray n }) (hf:f { cls:=.type "list",data:=.seq its.toArray n }={ cls:=.type "list",data:=.seq its'.toArray n' }) (r:aH ys its') (hz:ys.length<=sizeLine) (t:Nat):
  Inv X pins σ (upd H p (.lst ys)) { s with heap:=s.heap.update p f,toks:=t }:=by
 have e:(s.heap.update p f).get? p=some { cls:=.type "list",data:=.seq its'.toArray n' }:=by
  rw [Heap.get?_update_self f ho (by rw [hf] <;> rfl),hf]
 refine I.write (x:=p) (e:=p) (by rw [h]; trivial) (.inl rfl) (fun b u hb q=>(Heap.get?_update_other _ _ (Ne.symm hb)).trans q) ⟨_,e⟩ ?_
 exact ⟨hz,its',n',r,e⟩
def Jv:V->V->V->Hp->(Hp->Prop)->Prop:=fun o i v H Q=>∃ p xs k j,o=.ref p/\i=.int k/\H p=some (.lst xs)/\ixN xs.length k=some j/\Q (upd H p (.lst (xs.set j v)))
theorem set_list:LC X Jv:=by
 intro pins s σ H o i v ov iv u Q I ro ri rv h
 obtain ⟨p,xs,k,j,rfl,rfl,hp,hj,q⟩:=h
 cases ro
 obtain ⟨t,rfl⟩:=ri
 obtain ⟨its,n,r,ho,hz⟩:=I.lst hp
 obtain ⟨h1,h2,h3,h4⟩:=As hj
 have hl:=r.length
 have hn:=iJ
 have I':Inv X pins σ (upd H p (.lst (xs.set j v))) { s with heap:=s.heap.update p (Obj.mapSeq (·.setIfInBounds j u)) }:=
  I.lstUpd hp ho (yR its n j u) (r.set rv j) (by rw [List.length_set]; exact hz) s.toks
 by_cases h0:0<=k
 ·have hk:k.toNat=j:=by
   rw [seqIndex_of h0 h4] at h1
   exact Option.some.inj h1
  exact PySem.W.ki_setAt ho h0 (by omega) (by rw [List.size_toArray,<- hl]; exact h4) (by rw [hk]; exact ⟨_,I',q⟩)
 ·have hk:(k+(its.toArray.size:Int)).toNat=j:=by
   rw [seqIndex_neg (by omega) h3] at h1
   rw [List.size_toArray,<- hl]
   exact Option.some.inj h1
  exact PySem.W.ki_setBack ho (by omega) (by rw [List.size_toArray,<- hl]; exact h3) (by omega) (by rw [hk]; exact ⟨_,I',q⟩)
theorem sU (lo hi:Option Int) (n:Nat):(sliceBounds lo hi none n).1=((HT.sIx n 0 lo:Nat):Int)/\(sliceBounds lo hi none n).2.1=((HT.sIx n n hi:Nat):Int)/\(sliceBounds lo hi none n).2.2=1:=by
 refine ⟨?_,?_,rfl⟩
 ·cases lo with
  | none=>simp [sliceBounds,HT.sIx]
  | some i=>
   simp only [sliceBounds,HT.sIx,Option.getD_none,show (1:Int) > 0 by decide,if_true]
   by_cases h:i < 0
   ·simp only [h,if_true] <;> omega
   ·simp only [h,if_false] <;> omega
 ·cases hi with
  | none=>simp [sliceBounds,HT.sIx]
  | some i=>
   simp only [sliceBounds,HT.sIx,Option.getD_none,show (1:Int) > 0 by decide,if_true]
   by_cases h:i < 0
   ·simp only [h,if_true] <;> omega
   ·simp only [h,if_false] <;> omega
theorem qC (its:List Value) (lo hi:Option Int):slicePick its.toArray lo hi none=((its.drop (HT.sIx its.length 0 lo)).take (HT.sIx its.length its.length hi - HT.sIx its.length 0 lo)).toArray:=by
 obtain ⟨h1,h2,h3⟩:=sU lo hi its.toArray.size
 unfold slicePick
 rw [h1,h2,h3]
 simp only [sliceRange_one,pick_run,List.size_toArray] <;> rfl
def Jw (K:PySem.W.Frag):V->Option Int->Option Int->Hp->VK->Prop:=fun x lo hi H Q=>∃ a xs,x=.ref a/\SqL K H a xs/\∀ p,H p=none->Q (.ref p) (upd H p (.lst (vD xs lo hi)))
theorem F5:SlR X (Jw X.K):=by
 intro pins s σ H x v vl vu lo hi sl Q I rx hs pl pu h
 obtain ⟨a,xs,rfl,hx,q⟩:=h
 cases rx
 obtain ⟨its,r,ht,hz⟩:=I.list hx
 have hlen:=r.length
 refine ⟨"list",_,slot_list_getitem.lookup,ht.isList.typeIs,?_⟩
 refine wpAny_getItem_list_slice ht.isList hs pl pu .none (by simp) ?_ (by rw [List.size_toArray] <;> omega)
 rw [qC,<- hlen]
 refine ⟨.ref s.heap.objs.size,_,I.laid (t':=s.toks) (o:=.lst (vD xs lo hi)) (fun b ob q=>Heap.get?_push_of_some _ q) (Nat.le_refl _) ?_,rfl,q _ (I.hok.fresh (Nat.le_refl _))⟩
 exact ⟨Nat.le_trans (lN xs lo hi) hz,_,0,(r.drop (HT.sIx xs.length 0 lo)).take (HT.sIx xs.length xs.length hi - HT.sIx xs.length 0 lo),Heap.get?_push_size _ rfl⟩
def eqV:V->V->Bool
 | .non,.non=>true
 | .bl a,.bl b=>a == b
 | .bl a,.int b=>(if a then 1 else 0) == b
 | .int a,.bl b=>a == (if b then 1 else 0)
 | .int a,.int b=>a == b
 | .str a,.str b=>a == b
 | _,_=>false
def inV (x:V) (xs:List V):Bool:=xs.any fun y=>eqV y x
theorem sV:bI X (.builtin "len") (fun xs H Q=>∃ p ys,xs=[.ref p]/\(SqL X.K H p ys\/SqT X.K H p ys)/\Q (.int ys.length) H):=by
 intro pins s σ H xs us Q I r h
 obtain ⟨p,ys,rfl,hq,q⟩:=h
 obtain ⟨u,rfl,rx⟩:=vals1 r
 cases rx
 have hn:=iJ
 rcases hq with hq | hq
 ·obtain ⟨its,r',pl,hz⟩:=I.list hq
  have hlen:=r'.length
  exact Calls.call_len_list pl.isList (by simp only [List.size_toArray] <;> omega) ⟨.int ys.length,H,I.tok _,⟨s.toks+1,by rw [List.size_toArray,hlen]⟩,q⟩
 ·obtain ⟨its,r',pl,hz⟩:=I.tuple hq
  have hlen:=r'.length
  exact len_tuple pl (by simp only [List.size_toArray] <;> omega) ⟨.int ys.length,H,I.tok _,⟨s.toks+1,by rw [List.size_toArray,hlen]⟩,q⟩
theorem bI.or {f:Value} {r r':List V->Hp->VK->Prop} (h:bI X f r) (h':bI X f r'):bI X f (fun xs H Q=>r xs H Q\/r' xs H Q):=by
 intro pins s σ H xs us Q I rs q
 rcases q with q | q
 ·exact h pins s σ H xs us Q I rs q
 ·exact h' pins s σ H xs us Q I rs q
theorem sW:bI X (.type "list") (fun xs H Q=>∃ p ys,xs=[.ref p]/\(SqL X.K H p ys\/SqT X.K H p ys)/\∀ l,H l=none->Q (.ref l) (upd H l (.lst ys))):=by
 intro pins s σ H xs us Q I r h
 obtain ⟨p,ys,rfl,hq,q⟩:=h
 obtain ⟨u,rfl,rx⟩:=vals1 r
 cases rx
 have fin:∀ (its:List Value),aH ys its->ys.length<=sizeLine->∀ (h':Heap) (c':Nat),(∀ b o',s.heap.get? b=some o'->h'.get? b=some o')->
   h'.get? s.heap.objs.size=some { cls:=.type "list",dict:=none,data:=.seq its.toArray c',slots:=#[] }->EP X pins σ Q (.ref s.heap.objs.size) { s with heap:=h' }:=fun its r' hz h' c' kp e=>
  ⟨.ref s.heap.objs.size,_,I.laid (t':=s.toks) kp (Nat.le_refl _) (show bK X.prog X.w _ h' _ (.lst ys) from ⟨hz,its,c',r',e⟩),rfl,q _ (I.hok.fresh (Nat.le_refl _))⟩
 rcases hq with hq | hq
 ·obtain ⟨its,r',pl,hz⟩:=I.list hq
  have hlen:=r'.length
  obtain ⟨o,ho,hc,n,hd⟩:=pl.isList
  exact call_list_seq p (.inl rfl) ho hc hd (fun h' c' kp e=>fin its r' hz h' c' kp e) (by simp only [List.size_toArray] <;> omega)
 ·obtain ⟨its,r',pl,hz⟩:=I.tuple hq
  have hlen:=r'.length
  obtain ⟨o,ho,hc,n,hd⟩:=pl
  exact call_list_seq p (.inr rfl) ho hc hd (fun h' c' kp e=>fin its r' hz h' c' kp e) (by simp only [List.size_toArray] <;> omega)
theorem qD:bI X (.type "tuple") (fun xs H Q=>∃ p ys,xs=[.ref p]/\((SqL X.K H p ys/\∀ l,H l=none->Q (.ref l) (upd H l (.tup ys)))\/(SqT X.K H p ys/\Q (.ref p) H))):=by
 intro pins s σ H xs us Q I r h
 obtain ⟨p,ys,rfl,h⟩:=h
 obtain ⟨u,rfl,rx⟩:=vals1 r
 cases rx
 rcases h with ⟨hq,q⟩ | ⟨hq,q⟩
 ·obtain ⟨its,r',pl,hz⟩:=I.list hq
  have hlen:=r'.length
  refine call_tuple_list pl.isList (fun h' kp=>?_) (by simp only [List.size_toArray] <;> omega)
  have I1:Inv X pins σ H { s with heap:=h' }:=I.kept (t':=s.toks) kp
  have I2:Inv X pins σ (upd H h'.objs.size (.tup ys)) { s with heap:=h'.push { cls:=.type "tuple",data:=.seq its.toArray } }:=
   I1.laid (t':=s.toks) (fun b o e=>Heap.get?_push_of_some _ e) (Nat.le_refl _) (show bK X.prog X.w _ _ _ (.tup ys) from ⟨hz,its,r',iY.new _ _⟩)
  exact ⟨.ref h'.objs.size,_,I2,rfl,q _ (I1.hok.fresh (Nat.le_refl _))⟩
 ·obtain ⟨its,r',pl,hz⟩:=I.tuple hq
  exact call_tuple_same pl ⟨.ref p,H,I,rfl,q⟩
def tyV (K:PySem.W.Frag) (T:String) (x:V) (H:Hp):Prop:=match x with
 | .str _=>T="str"
 | .int _=>T="int"
 | .ref p=>(T="list" /\ ∃ xs,SqL K H p xs)\/(T="tuple" /\ ∃ o,K.lookup p=some o/\o.cls=.type "tuple" /\ o.dict=none)\/
   (T="dict" /\ ((∃ kvs,H p=some (.dK kvs))\/∃ kvs,H p=some (.dT kvs)))\/(T="set" /\ ∃ S n,H p=some (.set S n))
 | _=>False
theorem Hu {pins:List (Addr×Obj)} {σ:St} {H:Hp} {s:Shared} {T:String} {x:V} {v:Value} (I:Inv X pins σ H s) (r:RelV x v) (ty:tyV X.K T x H):
  s.TypeIs v T/\∀ a,v=.ref a->∃ ob,s.heap.get? a=some ob/\ob.dict=none:=by
 cases x with
 | str z=>
  obtain ⟨t,rfl⟩:=r
  cases (show T="str" from ty)
  exact ⟨typeIs_str s z t,fun _ e=>nomatch e⟩
 | int i=>
  obtain ⟨t,rfl⟩:=r
  cases (show T="int" from ty)
  exact ⟨typeIs_int s i t,fun _ e=>nomatch e⟩
 | ref p=>
  cases r
  rcases ty with ⟨rfl,xs,hq⟩ | ⟨rfl,o,hk,hc,hd⟩ | ⟨rfl,hk⟩ | ⟨rfl,S,n,hk⟩
  ·obtain ⟨its,_,pl,_⟩:=I.list hq
   refine ⟨pl.isList.typeIs,fun a e=>?_⟩
   cases e
   obtain ⟨o,n,e,c,hd,_⟩:=pl
   exact ⟨o,e,hd⟩
  ·refine ⟨⟨o,I.kIn p o hk,hc⟩,fun a e=>?_⟩
   cases e
   exact ⟨o,I.kIn _ o hk,hd⟩
  ·have z:∃ o,s.heap.get? p=some o/\o.ExactDict:=by
    rcases hk with ⟨kvs,hk⟩ | ⟨kvs,hk⟩
    ·obtain ⟨_,_,_,_,o,_,_,e,ex,_⟩:=I.hok p _ hk
     exact ⟨o,e,ex⟩
    ·obtain ⟨_,_,_,_,o,_,_,e,ex,_⟩:=I.hok p _ hk
     exact ⟨o,e,ex⟩
   obtain ⟨o,e,ex⟩:=z
   refine ⟨⟨o,e,ex.1⟩,fun a e2=>?_⟩
   cases e2
   exact ⟨o,e,ex.2.1⟩
  ·obtain ⟨o,_,_,_,e,ex,_⟩:=I.hok p _ hk
   refine ⟨⟨o,e,ex.1⟩,fun a e2=>?_⟩
   cases e2
   exact ⟨o,e,ex.2.1⟩
 | _=>exact False.elim ty
def tBM (K:PySem.W.Frag) (T:String) (r:V->List V->Hp->VK->Prop) (to:TE) (t:TA):TE:=fun σ H Q=>to σ H fun x H1=>tyV K T x H1/\t σ H1 fun xs H2=>r x xs H2 Q
variable {o e:Expr} {es:List Expr} {to:TE} {t:TA} {name:Str} {apos cpos:Pos} {T id:String} {r:V->List V->Hp->VK->Prop}
theorem Jx (pa:PlainAttrs T) (slot:Slot T name id) (hty:typeOf (.builtin id)=pure (.type "method_descriptor")) (hm:MtR X id r) (ho:PE X o to) (ha:PA X (e :: es) t)
  (hbase:attributeBase o name X.env (eval o X.env)=eval o X.env:=by rfl)
  (hfew:((backTo cpos (starEach (e :: es) X.env)).all (fun x=>!x.1) && (backToKw cpos (keywordEach [] X.env)).all (fun x=>x.1.isSome)
   && decide ((e :: es).length+([]:List Keyword).length+(if ([]:List Keyword).isEmpty then 0 else 1) < 30))=true:=by rfl)
  (hline:(apos.endLine == cpos.line)=true:=by rfl) (hs:starEach (e :: es) X.env=(false,eval e X.env) :: starEach es X.env:=by rfl) (hplain:(backTo cpos (starEach es X.env)).any (·.1)=false:=by rfl):
  PE X (.Call (.Attribute o name apos) (e :: es) [] cpos) (tBM X.K T r to t):=by
 intro pins s σ H Q I h
 refine wpAny_Call_method_late hbase hfew hline rfl (thn (ho pins s σ H _ I h) fun v s1 hz=>?_)
 obtain ⟨x,H1,I1,r1,ty,q1⟩:=hz
 obtain ⟨h1,h2⟩:=Hu I1 r1 ty
 refine ⟨T,id,pa,slot,hty,h1,h2,?_⟩
 have hA:=ha cpos pins s1 σ H1 _ I1 q1
 rw [hs] at hA ⊢
 refine Calls.callWith_builtin (by show (false || (backTo cpos (starEach es X.env)).any (·.1))=false; rw [hplain] <;> rfl) (Calls.evalArgs_plain ?_)
 exact thn hA fun us s2 ⟨vs,H2,I2,r2,q2⟩=>hm pins s2 σ H2 x vs v us Q I2 r1 r2 q2
end
end L2
namespace L2
open PySem PySem.Spec PyProof.Rows
def MtM (X:Cx) (id:String) (r:V->List V->Hp->VK->Prop):Prop:=
 ∀ (pins:List (Addr×Obj)) (s:Shared) (σ:St) (H:Hp) (x:V) (xs:List V) (v:Value) (us:List Value) (Q:VK),Inv X pins σ H s->RelV x v->aH xs us->r x xs H Q->
  wpAny (model X.prog X.w) X.A (call (.builtin id) (v :: us)) (EP X pins σ Q) X.xe s
theorem aH.one:∀ {x:V} {us:List Value},aH [x] us->∃ u,us=[u]/\RelV x u
 | _,_,.cons r .nil=>⟨_,rfl,r⟩
section
variable {X:Cx} {pins:List (Addr×Obj)} {σ:St} {H:Hp} {s:Shared} {l b:Addr} {xs ys zs:List V}
theorem Inv.lset {its its':List Value} {n:Nat} {f:Array Value->Array Value} {t':Nat} (I:Inv X pins σ H s) (hH:H l=some (.lst xs))
  (e:s.heap.get? l=some { cls:=.type "list",data:=.seq its.toArray n }) (hf:f its.toArray=its'.toArray) (hv:aH ys its') (hz:ys.length<=sizeLine):
  Inv X pins σ (upd H l (.lst ys)) { s with heap:=s.heap.update l (Obj.mapSeq f),toks:=t' }:=by
 have q:=PySem.IsL.update e f
 rw [hf] at q
 refine I.write (x:=l) (e:=l) (by rw [hH]; exact trivial) (.inl rfl) (fun b' u hb hu=>(Heap.get?_update_other s.heap (Obj.mapSeq f) (Ne.symm hb)).trans hu) ⟨_,q⟩ ?_
 exact ⟨hz,its',_,hv,q⟩
theorem Inv.lnew {its:List Value} {t':Nat} (I:Inv X pins σ H s) (hv:aH ys its) (hz:ys.length<=sizeLine):
  Inv X pins σ (upd H s.heap.objs.size (.lst ys)) { s with heap:=s.heap.push { cls:=.type "list",data:=.seq its.toArray },toks:=t' }:=
 I.laid (fun _ _ q=>Heap.get?_push_of_some _ q) (Nat.le_refl _) ⟨hz,its,0,hv,Heap.get?_push_size _ rfl⟩
theorem Inv.fresh (I:Inv X pins σ H s):H s.heap.objs.size=none:=I.hok.fresh (Nat.le_refl _)
theorem Inv.lstM (I:Inv X pins σ H s) (hH:H l=some (.lst xs)):xs.length<=sizeLine/\∃ (its:List Value) (n:Nat),aH xs its/\xs.length=its.length/\s.heap.get? l=some { cls:=.type "list",data:=.seq its.toArray n }:=by
 obtain ⟨z,its,n,r,e⟩:=I.hok l _ hH
 exact ⟨z,its,n,r,r.length,e⟩
end
section
variable {X:Cx}
def Av:V->List V->Hp->VK->Prop:=fun x vs H Q=>∃ l xs y,x=.ref l/\vs=[y]/\H l=some (.lst xs)/\xs.length < sizeLine/\Q .non (upd H l (.lst (xs++[y])))
theorem qV:MtM X "list.append" Av:=by
 intro pins s σ H x vs v us Q I rx rv h
 obtain ⟨l,xs,y,rfl,rfl,hH,hz,q⟩:=h
 cases rx
 obtain ⟨u,rfl,ru⟩:=rv.one
 obtain ⟨z,its,n,r,hl,e⟩:=I.lstM hH
 refine call_meets F.slot_list_append ⟨_,e,rfl⟩ F.entry_list_append (F.args_list_append_2 _ _) (PySem.list_append l its.toArray n u (by rw [List.size_toArray]; omega)) ⟨e,?_⟩
 refine ⟨.non,_,I.lset (its':=its++[u]) hH e (by simp) (r.append (.cons ru .nil)) ?_,rfl,q⟩
 rw [List.length_append,List.length_singleton]
 omega
def Jy:R2:=fun x y H Q=>∃ l b xs zs,x=.ref l/\y=.ref b/\H l=some (.lst xs)/\H b=some (.lst zs)/\xs.length+zs.length<=sizeLine/\∀ p,H p=none->Q (.ref p) (upd H p (.lst (xs++zs)))
theorem Hv:OpR X (binaryOp .Add) Jy:=by
 intro pins s σ H x y v u Q I rx ry h
 obtain ⟨l,b,xs,zs,rfl,rfl,hH,hB,hz,q⟩:=h
 cases rx
 cases ry
 obtain ⟨z,its,n,r,hl,e⟩:=I.lstM hH
 obtain ⟨z2,its2,n2,r2,hl2,e2⟩:=I.lstM hB
 refine PySem.P.add_list e e2 ?_ (by rw [List.size_toArray,List.size_toArray]; omega)
 have ea:its.toArray++its2.toArray=(its++its2).toArray:=by simp
 rw [ea]
 exact ⟨.ref _,_,I.lnew (t':=s.toks) (r.append r2) (by rw [List.length_append]; omega),rfl,q _ I.fresh⟩
end
section
variable {prog:Program} {w:World} {A:Around} {E:Value->Shared->Prop} {s:Shared}
end
section
variable {X:Cx}
end
end L2
namespace Att
open PySem PySem.W PySem.Calls PyProof.Rows
theorem mN {P:Params} {h:Heap}:∀ (ns:List Int) (vs:List Value),WellAll P h vs (ns.map WData.int)->IntsAre vs ns:=by
 intro ns
 induction ns with
 | nil=>
  intro vs w
  rw [List.map_nil] at w
  cases w
  exact .nil
 | cons n ns ih=>
  intro vs w
  rw [List.map_cons] at w
  cases w with
  | cons a b=>
   cases a
   exact .cons _ _ (ih _ b)
theorem Bi {l:OpenLaw} {n:Nat} (hn:l.most=some n) {P:Params} {h:Heap} {args:List WData} {vals:List Value}
  (hpre:l.row.toRowW.claim.pre args=true) (hwl:WellAll P h vals args):
  ∃ a vs ns,vals=[Value.ref a]/\args=[WData.list (ns.map WData.int)]/\h.get? a=some { cls:=.type "list",data:=.seq vs.toArray }/\IntsAre vs ns/\ns.length<=n:=by
 have hsh:WShape.hasAll [] args [.list .int]=true:=(pre_splitW hpre).1
 have hc:l.pre.holds [] { args:=args }=true:=(pre_splitW hpre).2
 obtain ⟨d,r,rfl,h1,h2⟩:=hasAllW_cons hsh
 obtain rfl:=hasAllW_nil h2
 obtain ⟨xs,rfl,h3⟩:=hasW_list h1
 obtain ⟨ns,rfl⟩:=items_int h3
 have hlen:ns.length<=n:=by
  unfold OpenLaw.pre at hc
  have h4:(WTm.not (.lt (.lit (.int (n:Int))) (.len (.arg 0)))).holds [] { args:=[.list (ns.map .int)] }=true:=by
   have h4:=(holds_andW hc).1
   rw [hn] at h4
   exact h4
  have h5:=condW_of h4 (w_not (w_lt w_lit (w_len_list (w_arg rfl))))
  rw [List.length_map] at h5
  refine Nat.le_of_not_lt fun q=>?_
  have q':(n:Int) < ((ns.length:Nat):Int):=by omega
  first
   | (rw [decide_eq_true q'] at h5; exact absurd h5 (by decide))
   | (simp at h5; omega)
 cases hwl with
 | cons w1 w2=>
  cases w2
  cases w1 with
  | list ho hall=>exact ⟨_,_,ns,rfl,rfl,ho,mN ns _ hall,hlen⟩
theorem Bj (l:OpenLaw) (args:List WData):l.row.toRowW.claim.post args (.bool true) args=true:=
 postW_of (r:=l.row.toRowW) (X:=(true == true))
  (show WShape.has [] (.bool true) .bool=true by first | rfl | decide | simp [WShape.has,WShape.arms,WShape.armsAll])
  (show (WTm.eq .res (.lit (.bool true))).value [] { args:=args,res:=some (.bool true),after:=args }=some (.bool (true == true)) from w_eq_bool (w_res rfl) w_lit) rfl
theorem attach_call {l:OpenLaw} {n:Nat} {q:Program} {loose:List Str} {XP:(Str->Option Value)->Heap->Prop} {YP:World->Heap->Prop} {d:DefRec}
  (hn:l.most=some n) (hdf:d.params.defaults=[])
  (call:∀ (w:World) (s₀ s₁:Shared) (mg mb:Str->Option Value) (fa:Addr) (o:Obj) (pm cd doc:Value) (a:Addr) (vs:List Value) (ns:List Int),
   Ground q loose [] XP w s₀ mg mb s₁.heap->YP w s₁.heap->
   s₁.heap.get? fa=some o->o.data=.func (docDef d.name d.params d.body d.scope pm cd doc)->s₁.heap.CodeRec cd d.name->mg d.name=some (.ref fa)->
   s₁.heap.get? a=some { cls:=.type "list",data:=.seq vs.toArray }->IntsAre vs ns->ns.length<=n->s₁.gens=#[]->
   codeAny (model l.prog w) callerA (.call (.ref fa) ⟨[.ref a],[]⟩) (fun r s'=>r=.ok (.ret (.bool true))/\OldK s₁.heap s'.heap/\s'.os=s₁.os/\AllBare s'.gens) s₁):
  WalkO q loose XP YP l.row.toRowW d [] (fun f vs=>PySem.call f vs):=by
 intro w s₀ s₁ mg mb G Y fa o pm cd doc dV kV ho hd hcd hD hmg hg args vals as hpre hlay hrd hwl hlo
 obtain rfl:dV=.none:=Dflts.none hD hdf
 obtain rfl:kV=.none:=Dflts.noKw hD
 obtain ⟨a,vs,ns,rfl,rfl,hobj,hints,hlen⟩:=Bi hn hpre hwl
 refine enter_call (codeAny_mono (call w s₀ s₁ mg mb fa o pm cd doc a vs ns G Y ho (fd_plain hd) hcd hmg hobj hints hlen hg) fun r s' hq=>?_)
 obtain ⟨rfl,h2,h3,h4⟩:=hq
 exact ⟨.inl ⟨.bool true,.bool true,[],rfl,fun _=>rfl,.bool true,Bj l _,fun _=>⟨List.Pairwise.nil,fun _ hm=>(nomatch hm)⟩⟩,h2,h3,h4⟩
section
variable {prog:Program} {w:World} {A:Around} {E:Value->Shared->Prop} {s:Shared} {K:Frag}
end
end Att
namespace L2
open PySem PySem.Spec PyProof.Rows
theorem qW:∀ {vs:List Value} {ns:List Int},IntsAre vs ns->aH (ns.map V.int) vs
 | _,_,.nil=>.nil
 | _,_,.cons n t h=>.cons ⟨t,rfl⟩ (qW h)
def Cz (H:Hp):Prop:=∀ b,H b=none\/∃ o xs,H b=some (.frz o (.lst xs))
theorem CA {P:Program} {w:World} {K:PySem.W.Frag} {mg mb:Str->Option Value} {CX:CXT} {k:Nat} {fa a:Addr} {fd:FuncData} {x:Str} {sp:Sp} {s₁:Shared} {vs:List Value} {ns:List Int}
  (KX:K.In s₁.heap) (hns:s₁.heap.Ns mainGlobals mg) (hb:s₁.heap.Ns builtinsNs mb) (hbb:∀ x:Str,x≠"__name__" -> mb x=bootBuiltins x) (hlim:s₁.heap.NoLimit) (hg:s₁.gens=#[])
  (ha:s₁.heap.get? a=some { cls:=.type "list",data:=.seq vs.toArray }) (hi:IntsAre vs ns) (hl:ns.length<=sizeLine) (hr:dC k callerA)
  (F:∀ base:Heap,K.In base->base.Ns mainGlobals mg->aZ P w K mg base CX k fa fd [x] sp) (hbind:∀ (s:Shared) (u:Value),BindsTo s fd ⟨[u],[]⟩ [(x,u)])
  (hsp:∀ H:Hp,Cz H->SqL K H a (ns.map V.int)->sp [.ref a] H (fun v _=>v=.bl true) fun _ _ _=>False)
  (hCX:∀ H e s',CX [] H s₁ (fun _ _ _=>False) e s'->False):
  codeAny (model P w) callerA (.call (.ref fa) ⟨[.ref a],[]⟩) (fun r s'=>r=.ok (.ret (.bool true))/\OldK s₁.heap s'.heap/\s'.os=s₁.os/\AllBare s'.gens) s₁:=by
 have rv:=qW hi
 have lenV:=hi.length
 -- from an abstract heap in which nothing but the script may be tracked
 have core:∀ H:Hp,Cz H->SqL K H a (ns.map V.int)->HOk P w H s₁.heap->(∀ b,H b≠none->b=a)->(H a≠none->K.lookup a=none)->
   codeAny (model P w) callerA (.call (.ref fa) ⟨[.ref a],[]⟩) (fun r s'=>r=.ok (.ret (.bool true))/\OldK s₁.heap s'.heap/\s'.os=s₁.os/\AllBare s'.gens) s₁:=by
  intro H hO hS hok hA hK
  have base_of:∀ {b:Addr} {o:Obj},s₁.heap.get? b=some o->H b=none->(sS s₁.heap H).get? b=some o:=fun e n=>Cj e n
  have noA:∀ {b:Addr} {o:Obj} {es:Array DictEntry} {ep:Nat},s₁.heap.get? b=some o->o.data=.dict es ep->H b=none:=fun {b o es ep} e d=>by
   cases q:H b with
   | none=>rfl
   | some u=>
    have e':b=a:=hA b (by rw [q]; simp)
    subst e'
    rw [ha] at e; cases e
    have d':Data.seq vs.toArray _=Data.dict es ep:=d
    cases d'
  have nsK:∀ {b:Addr} {m:Str->Option Value},s₁.heap.Ns b m->(sS s₁.heap H).Ns b m:=fun {b m} ⟨o,es,ep,e,d,r⟩=>⟨o,es,ep,base_of e (noA e d),d,r⟩
  have hKb:K.In (sS s₁.heap H):=fun b o e=>base_of (KX b o e) (by
   cases q:H b with
   | none=>rfl
   | some u=>
    have e':b=a:=hA b (by rw [q]; simp)
    subst e'
    rw [hK (by rw [q]; simp)] at e; cases e)
  have hM:Mod K mg (sS s₁.heap H):=⟨hKb,nsK hns,⟨mb,nsK hb,hbb⟩,let ⟨mc,h1,h2⟩:=hlim; ⟨mc,nsK h1,h2⟩⟩
  have e0:yM P w K mg (sS s₁.heap H) callerA [] s₁ H:=⟨rfl,hM,fun b o e=>EN e,Nat.le_of_eq (Bc _ _),trivial,fun b hb=>absurd (show b∈([]:List Addr) from hb) (by simp),hok,.of_eq hg⟩
  refine codeAny_mono ((F _ hKb (nsK hns)).run callerA [] s₁ H ⟨[.ref a],[]⟩ [.ref a] [.ref a] _ _ hr e0 (hbind s₁ (.ref a)) (.cons rfl .nil) (hsp H hO hS)) fun r s' h=>?_
  cases r with
  | error e=>exact (hCX H e s' h).elim
  | ok fl=>
   cases fl with
   | next=>exact False.elim h
   | brk=>exact False.elim h
   | cont=>exact False.elim h
   | ret u=>
    obtain ⟨v,H',os,bare,un,hok',r',q⟩:=h
    have q':v=.bl true:=q
    subst q'
    obtain rfl:u=Value.bool true:=r'
    refine ⟨rfl,OldK.of_keep fun b o e=>?_,os,bare⟩
    cases q:H b with
    | none=>exact un.keep b o e q (by intro z; exact absurd (show b∈([]:List Addr) from z) (by simp)) (by simp)
    | some u=>
     rcases hO b with z | ⟨ob,xs,z⟩
     ·rw [q] at z; cases z
     ·have z2:=un.frzs b ob _ z
      obtain ⟨e1,_⟩:=hok b _ z
      obtain ⟨e2,_⟩:=hok' b _ z2
      rw [e] at e1; cases e1
      exact e2
 cases hk:K.lookup a with
 | some o=>
  -- the script is one of the module's own objects
  have e:=KX a o hk
  rw [ha] at e
  cases e
  refine core (fun _=>none) (fun _=>.inl rfl) (.inr ⟨_,vs.toArray,_,hk,rfl,rfl,rfl,by rw [List.size_toArray,lenV]; exact hl,by simpa using rv⟩) (fun b u z=>by have z':(none:Option HO)=some u:=z; cases z') (fun b z=>absurd rfl z) fun z=>absurd rfl z
 | none=>
  refine core (fun b=>if b=a then some (.frz { cls:=.type "list",data:=.seq vs.toArray } (.lst (ns.map V.int))) else none) (fun b=>?_) (.inl (.inr ⟨{ cls:=.type "list",data:=.seq vs.toArray },if_pos rfl⟩)) (fun b u z=>?_) (fun b z=>?_) fun _=>hk
  ·by_cases hb:b=a
   ·exact .inr ⟨_,_,if_pos hb⟩
   ·exact .inl (if_neg hb)
  ·by_cases hb:b=a
   ·have z':=(if_pos hb).symm.trans z
    cases z'
    subst hb
    exact ⟨ha,by rw [List.length_map]; exact hl,vs,_,rv,ha⟩
   ·have z':=(if_neg hb).symm.trans z
    cases z'
  ·by_cases hb:b=a
   ·exact hb
   ·exact absurd (if_neg hb) z
end L2
namespace L2
open PySem PySem.Spec PyProof.Rows
theorem walk_of {l:PySem.W.OpenLaw} {n k:Nat} {q:Program} {loose:List Str} {XP:(Str->Option Value)->Heap->Prop} {YP:World->Heap->Prop} {d:DefRec} {K:Params->PySem.W.Frag} {CX:World->CXT} {sp:World->Sp} {x:Str}
  (hn:l.most=some n) (hn2:n<=sizeLine) (hdf:d.params.defaults=[]) (hr:dC k callerA)
  (hY:∀ (w:World) (h:Heap),YP w h->(K w.params).In h)
  (F:∀ (w:World) (mg:Str->Option Value) (fa:Addr) (h:Heap),(K w.params).In h->h.Ns mainGlobals mg->mg d.name=some (.ref fa)->
   ∃ fd:FuncData,(∀ (s:Shared) (u:Value),BindsTo s fd ⟨[u],[]⟩ [(x,u)])/\
    ∀ base:Heap,(K w.params).In base->base.Ns mainGlobals mg->aZ l.prog w (K w.params) mg base (CX w) k fa fd [x] (sp w))
  (hsp:∀ (w:World) (H:Hp) (a:Addr) (ns:List Int),ns.length<=n->Cz H->SqL (K w.params) H a (ns.map V.int)->sp w [.ref a] H (fun v _=>v=.bl true) fun _ _ _=>False)
  (hCX:∀ (w:World) (H:Hp) (s:Shared) (e:Value) (s':Shared),CX w [] H s (fun _ _ _=>False) e s'->False):
  PySem.W.WalkO q loose XP YP l.row.toRowW d [] (fun f vs=>PySem.call f vs):=by
 refine Att.attach_call hn hdf fun w s₀ s₁ mg mb fa o pm cd doc a vs ns G Y ho hd hcd hmg hobj hints hlen hg=>?_
 have KX:=hY w _ Y
 obtain ⟨fd,hb,hF⟩:=F w mg fa _ KX G.T.g hmg
 exact CA KX G.T.g G.T.b G.T.builtins G.T.nolimit hg hobj hints (Nat.le_trans hlen hn2) hr hF hb (fun H hO hS=>hsp w H a ns hlen hO hS) fun H e s'=>hCX w H s₁ e s'
end L2
namespace L2
open PySem PySem.Spec PyProof.Rows
def bC (s:Stmt):Arguments:=match s with
 | .FunctionDef _ a _ _ _ _ _ _ _ _=>a
 | _=>{ posonlyargs:=[],args:=[],vararg:=none,kwonlyargs:=[],kw_defaults:=[],kwarg:=none,defaults:=[] }
def aU (s:Stmt):List Stmt:=match s with
 | .FunctionDef _ _ b _ _ _ _ _ _ _=>b
 | _=>[]
def aF (s:Stmt):Scope:=match s with
 | .FunctionDef _ _ _ _ _ _ sc _ _ _=>sc
 | _=>{ kind:=.function,names:=[],isGenerator:=false,isCoroutine:=false }
abbrev CX0:CXT:=fun _ _ _ _ _ _=>False
abbrev E0:XK:=fun _ _ _=>False
theorem Jz {X:Cx}:yN CX0 X E0:=fun _ _ _ _ _ _ _ h=>h.elim
structure Fun (K:PySem.W.Frag) (x qual:Str) (st:Stmt) (f:Addr) (fd:FuncData):Prop where
 ex:∃ (oc:Value) (od:Option Addr) (kV doc pm:Value) (an:Option Addr) (cdv ct:Value) (osl:Array (Option Value)),
  fd=PySem.W.fnOf x qual (bC st) (aU st) (aF st) .none kV doc pm an cdv ct/\K.lookup f=some ⟨oc,od,.func fd,osl⟩/\PySem.W.codeIn K cdv qual=true
 kp:PySem.W.keepIn K (.ref f)=true
section
variable {P:Program} {w:World} {K:PySem.W.Frag} {mg:Str->Option Value} {base:Heap}
theorem Fun.ok {x qual:Str} {st:Stmt} {f:Addr} {fd:FuncData} {N ps:List Str} {k:Nat} {sp:Sp} (F:Fun K x qual st f fd) (S:bN N ps (aF st)) (len:∀ vs H Q E,sp vs H Q E->vs.length=ps.length)
  (hbody:∀ (cdv:Value) (A:Around) (outer:List Env) (s:Shared) (H:Hp) (vs:List V) (Q:VK) (E:XK),dC k (A.deeper (envOfC qual (aF st) s.heap.objs.size f cdv))->sp vs H Q E->
   ∃ t,PSs (yO CX0 P w K mg base N qual (aF st) f cdv A outer s H E).nox (aU st) t/\t { nx:=fun _ H'=>Q .non H',rt:=Q } (start N vs) H):aZ P w K mg base CX0 (k+1) f fd ps sp:=by
 obtain ⟨oc,od,kV,doc,pm,an,cdv,ct,osl,rfl,lk,hcd⟩:=F.ex
 refine Js lk hcd S len fun A outer s H vs Q E hr hsp=>?_
 obtain ⟨t,h,q⟩:=hbody cdv A outer s H vs Q E hr hsp
 exact ⟨t,h.nox,q⟩
theorem Fun.binds {x qual:Str} {st:Stmt} {f:Addr} {fd:FuncData} {ps:List Str} (F:Fun K x qual st f fd)
  (h:∀ (kV doc pm:Value) (an:Option Addr) (cdv ct:Value) (us:List Value),us.length=ps.length->bindArgs (PySem.W.fnOf x qual (bC st) (aU st) (aF st) .none kV doc pm an cdv ct) ⟨us,[]⟩=pure (ps.zip us)):Binds K fd ps []:=by
 obtain ⟨oc,od,kV,doc,pm,an,cdv,ct,osl,rfl,lk,hcd⟩:=F.ex
 exact .all (h kV doc pm an cdv ct)
theorem yS {x qual:Str} {st:Stmt} {f:Addr} {oc:Value} {od an:Option Addr} {osl:Array (Option Value)} {kV doc pm cdv ct:Value} (l:K.lookup f=some ⟨oc,od,.func (PySem.W.fnOf x qual (bC st) (aU st) (aF st) .none kV doc pm an cdv ct),osl⟩)
  (c:PySem.W.codeIn K cdv qual=true) (k:PySem.W.keepIn K (.ref f)=true):Fun K x qual st f (PySem.W.fnOf x qual (bC st) (aU st) (aF st) .none kV doc pm an cdv ct):=⟨⟨oc,od,kV,doc,pm,an,cdv,ct,osl,rfl,l,c⟩,k⟩
end
theorem JA {A:Around} {k:Nat} (hr:dC k A):A.units+1 < cLine:=Nat.lt_of_le_of_lt (Nat.add_le_add_left (by decide:1<=64) _) hr.units
section
variable {X:Cx}
theorem pv (i:Nat) {x:Str} {pos:Pos} (hN:X.N[i]?=some x:=by rfl) (hv:Vis X.env.scope x:=by first | exact Or.inl rfl | exact Or.inr (Or.inl rfl) | exact Or.inr (Or.inr rfl)) (hd:(x == ("__debug__" : Str))=false:=by decide)
  (hcd:(x == ("__classdict__" : Str))=false:=by decide):PE X (.Name x pos) (Je i):=yG hN hv hd hcd
end
theorem F6 {A B:Prop} (h:B):if false=true then A else B:=by
 rw [if_neg Bool.false_ne_true]
 exact h
theorem F7 {A B:Prop} (h:A):if true=true then A else B:=by
 rw [if_pos rfl]
 exact h
def vF (H H':Hp):Prop:=∀ b o,H b=some o->H' b=some o
end L2
namespace L2
open PySem PySem.Spec PyProof.Rows
section
variable {κ:Type} [DecidableEq κ]
def fO (kvs:List (κ×V)) (k:κ):Option V:=(kvs.find? fun kv=>decide (kv.1=k)).map (·.2)
def putK (kvs:List (κ×V)) (k:κ) (v:V):List (κ×V):=
 if (kvs.any fun kv=>decide (kv.1=k))=true then kvs.map (fun kv=>if kv.1=k then (kv.1,v) else kv) else kvs++[(k,v)]
theorem iZ {p:κ×V} {r:List (κ×V)} {k:κ} (e:p.1=k):fO (p :: r) k=some p.2:=by simp [fO,List.find?_cons,e]
theorem jA {p:κ×V} {r:List (κ×V)} {k:κ} (e:¬ p.1=k):fO (p :: r) k=fO r k:=by simp [fO,List.find?_cons,e]
theorem nM (k:κ):∀ kvs:List (κ×V),(kvs.any fun kv=>decide (kv.1=k))=(fO kvs k).isSome
 | []=>rfl
 | p :: r=>by
  rw [List.any_cons]
  by_cases e:p.1=k
  ·simp only [iZ e,decide_eq_true e,Bool.true_or,Option.isSome_some]
  ·rw [jA e,decide_eq_false e,Bool.false_or]; exact nM k r
theorem fQ (kvs:List (κ×V)) (k:κ) (v:V):(putK kvs k v).length<=kvs.length+1:=by
 unfold putK
 split
 ·rw [List.length_map]; omega
 ·rw [List.length_append,List.length_cons,List.length_nil]; omega
theorem mM.isSome_eq {o:Option V} {u:Option Value} (r:mM o u):o.isSome=u.isSome:=by
 cases o with
 | none=>cases u with
  | none=>rfl
  | some _=>exact (show False from r).elim
 | some _=>cases u with
  | none=>exact (show False from r).elim
  | some _=>rfl
theorem mM.getD {o:Option V} {u:Option Value} {d:V} {d':Value} (r:mM o u) (rd:RelV d d'):RelV (o.getD d) (u.getD d'):=by
 cases o with
 | none=>cases u with
  | none=>exact rd
  | some _=>exact (show False from r).elim
 | some _=>cases u with
  | none=>exact (show False from r).elim
  | some _=>exact r
theorem KV.val {kvs:List (κ×V)} {vs:List (κ×Value)} (r:KV kvs vs) (k:κ):mM (fO kvs k) (valueAt vs k):=by
 unfold KV at r
 induction r with
 | nil=>exact True.intro
 | @cons p q ps qs h t ih=>
  obtain ⟨h1,h2⟩:=h
  by_cases e:p.1=k
  ·have e':q.1=k:=h1.symm.trans e
   have b:valueAt (q :: qs) k=some q.2:=by simp [valueAt,List.find?_cons,e']
   rw [iZ e,b]; exact h2
  ·have e':¬ q.1=k:=fun z=>e (h1.trans z)
   have b:valueAt (q :: qs) k=valueAt qs k:=by simp [valueAt,List.find?_cons,e']
   rw [jA e,b]; exact ih
theorem KV.any {kvs:List (κ×V)} {vs:List (κ×Value)} (r:KV kvs vs) (k:κ):(kvs.any fun kv=>decide (kv.1=k))=vs.any fun kv=>decide (kv.1=k):=by
 unfold KV at r
 induction r with
 | nil=>rfl
 | cons h t ih=>rw [List.any_cons,List.any_cons,ih,h.1]
theorem KV.repl {kvs:List (κ×V)} {vs:List (κ×Value)} (r:KV kvs vs) (k:κ) {y:V} {u:Value} (ry:RelV y u):
  KV (kvs.map fun kv=>if kv.1=k then (kv.1,y) else kv) (vs.map fun kv=>if kv.1=k then (kv.1,u) else kv):=by
 unfold KV at r ⊢
 induction r with
 | nil=>exact .nil
 | @cons p q ps qs h t ih=>
  rw [List.map_cons,List.map_cons]
  refine .cons ?_ ih
  obtain ⟨h1,h2⟩:=h
  by_cases e:p.1=k
  ·rw [if_pos e,if_pos (h1.symm.trans e)]; exact ⟨h1,ry⟩
  ·rw [if_neg e,if_neg (fun z=>e (h1.trans z))]; exact ⟨h1,h2⟩
theorem KV.put {kvs:List (κ×V)} {vs:List (κ×Value)} (r:KV kvs vs) (k:κ) {y:V} {u:Value} (ry:RelV y u):KV (putK kvs k y) (stored vs k u):=by
 unfold putK stored
 rw [r.any k]
 by_cases e:(vs.any fun kv=>decide (kv.1=k))=true
 ·rw [if_pos e,if_pos e]; exact r.repl k ry
 ·rw [if_neg e,if_neg e]; exact Paired.snoc r ⟨rfl,ry⟩
theorem KV.length {kvs:List (κ×V)} {vs:List (κ×Value)} (r:KV kvs vs):kvs.length=vs.length:=Paired.length r
end
theorem qX {P:Program} {w:World} {k:Key} {u:Value} (r:RelV (kV k) u):(aQ P w).is k u=true:=by
 cases k with
 | inl i=>obtain ⟨t,e⟩:=(show ∃ t,u=Value.int i t from r); subst e; exact uW P w i t
 | inr x=>obtain ⟨t,e⟩:=(show ∃ t,u=Value.str x t from r); subst e; exact uX P w x t
theorem qY {P:Program} {w:World}:∀ {ks:List Key} {us:List Value},aH (ks.map kV) us->ItemsAre (aQ P w) ks us
 | [],_,r=>by rw [List.map_nil] at r; cases r; exact .nil
 | k :: ks,_,r=>by
  rw [List.map_cons] at r
  cases r with
  | cons h t=>exact .cons (qX h) (qY t)
abbrev KT (H:Hp):List (List Key×V)->List (List Key×Addr×Value)->Prop:=Paired fun p q=>p.1=q.1/\H q.2.1=some (.tup (p.1.map kV))/\RelV p.2 q.2.2
theorem KT.val {H:Hp} {kvs:List (List Key×V)} {xs:List (List Key×Addr×Value)} (r:KT H kvs xs) (k:List Key):mM (fO kvs k) ((atKey xs k).map (·.2)):=by
 induction r with
 | nil=>exact True.intro
 | @cons p q ps qs h t ih=>
  obtain ⟨h1,_,h2⟩:=h
  by_cases e:p.1=k
  ·have e':q.1=k:=h1.symm.trans e
   have b:atKey (q :: qs) k=some q.2:=by simp [atKey,List.find?_cons,e']
   rw [iZ e,b]; exact h2
  ·have e':¬ q.1=k:=fun z=>e (h1.trans z)
   have b:atKey (q :: qs) k=atKey qs k:=by simp [atKey,List.find?_cons,e']
   rw [jA e,b]; exact ih
theorem KT.repl {H:Hp} {kvs:List (List Key×V)} {xs:List (List Key×Addr×Value)} (r:KT H kvs xs) (k:List Key) {y:V} {u:Value} (ry:RelV y u):
  KT H (kvs.map fun kv=>if kv.1=k then (kv.1,y) else kv) (xs.map (putAt k u)):=by
 induction r with
 | nil=>exact .nil
 | @cons p q ps qs h t ih=>
  rw [List.map_cons,List.map_cons]
  refine .cons ?_ ih
  obtain ⟨h1,h2,h3⟩:=h
  unfold putAt
  by_cases e:p.1=k
  ·rw [if_pos e,if_pos (h1.symm.trans e)]; exact ⟨h1,h2,ry⟩
  ·rw [if_neg e,if_neg (fun z=>e (h1.trans z))]; exact ⟨h1,h2,h3⟩
theorem KT.put {H:Hp} {kvs:List (List Key×V)} {xs:List (List Key×Addr×Value)} (r:KT H kvs xs) (k:List Key) {b:Addr} {y:V} {u:Value} (hb:H b=some (.tup (k.map kV))) (ry:RelV y u):
  KT H (putK kvs k y) (storedH xs k b u):=by
 have e:(kvs.any fun kv=>decide (kv.1=k))=(atKey xs k).isSome:=by
  rw [nM,(r.val k).isSome_eq,Option.isSome_map]
 unfold putK storedH
 rw [e]
 by_cases q:(atKey xs k).isSome=true
 ·rw [if_pos q,if_pos q]; exact r.repl k ry
 ·rw [if_neg q,if_neg q]; exact Paired.snoc r ⟨rfl,hb,ry⟩
theorem KT.keeps {H H':Hp} {kvs:List (List Key×V)} {xs:List (List Key×Addr×Value)} (r:KT H kvs xs) (ht:∀ b ys,H b=some (.tup ys)->H' b=some (.tup ys)):KT H' kvs xs:=
 Paired.mapP r fun _ _ z=>⟨z.1,ht _ _ z.2.1,z.2.2⟩
section
variable {P:Program} {w:World} {H:Hp} {h:Heap} {a:Addr}
theorem Gx {u:HO} (ok:HOk P w H h) (e:Rd H a u):bK P w H h a u:=e.ok ok
theorem nN {kvs:List (Key×V)} (ok:HOk P w H h) (e:Rd H a (.dK kvs)):kvs.length<=sizeLine/\(a == sysModules)=false/\∃ vs,KV kvs vs/\h.DictOf (aQ P w) a vs:=
 show bK P w H h a (.dK kvs) from Gx ok e
theorem vG {kvs:List (Key×V)} (ok:HOk P w H h) (e:H a=some (.dK kvs)):kvs.length<=sizeLine/\(a == sysModules)=false/\∃ vs,KV kvs vs/\h.DictOf (aQ P w) a vs:=nN ok (.inl e)
theorem nQ {ks:List Key} (ok:HOk P w H h) (e:H a=some (.tup (ks.map kV))):(tupleKind (aQ P w)).is h ks a:=by
 obtain ⟨_,its,r,o,h1,h2,⟨n,h3⟩,_⟩:=(show bK P w H h a (.tup (ks.map kV)) from ok a _ e)
 exact ⟨o,its.toArray,n,h1,h2,h3,by simpa using qY r⟩
theorem vH {kvs:List (List Key×V)} (ok:HOk P w H h) (e:Rd H a (.dT kvs)):kvs.length<=sizeLine/\(a == sysModules)=false/\
  ∃ xs,KT H kvs xs/\h.DictOfH (tupleKind (aQ P w)) a xs:=by
 obtain ⟨z,y,xs,r,o,es,ep,h1,h2,h3,h4,h5⟩:=(show bK P w H h a (.dT kvs) from Gx ok e)
 refine ⟨z,y,xs,r,o,es,ep,h1,h2,h3,h4,fun x hx=>?_,h5⟩
 have all:∀ {l:List (List Key×V)} {m:List (List Key×Addr×Value)},KT H l m->∀ x∈m,(tupleKind (aQ P w)).is h x.1 x.2.1:=by
  intro l m q
  induction q with
  | nil=>intro x hx; exact nomatch hx
  | @cons p q ps qs hq t ih=>
   intro x hx
   rcases List.mem_cons.mp hx with e | hx
   ·subst e
    exact nQ ok (by rw [<- hq.1]; exact hq.2.1)
   ·exact ih x hx
 exact all r x hx
theorem JB {kvs:List (List Key×V)} (ok:HOk P w H h) (e:H a=some (.dT kvs)):kvs.length<=sizeLine/\(a == sysModules)=false/\
  ∃ xs,KT H kvs xs/\h.DictOfH (tupleKind (aQ P w)) a xs:=vH ok (.inl e)
end
def qE (H:Hp) (a:Addr) (y:V) (r:Option V):Prop:=
 (∃ kvs k,Rd H a (.dK kvs)/\y=kV k/\r=fO kvs k)\/∃ kvs k b,Rd H a (.dT kvs)/\y=.ref b/\H b=some (.tup (k.map kV))/\r=fO kvs k
def Hw (H:Hp) (a:Addr) (y v:V) (H':Hp):Prop:=
 (∃ kvs k,H a=some (.dK kvs)/\y=kV k/\kvs.length < sizeLine/\H'=upd H a (.dK (putK kvs k v)))\/
 ∃ kvs k b,H a=some (.dT kvs)/\y=.ref b/\H b=some (.tup (k.map kV))/\kvs.length < sizeLine/\H'=upd H a (.dT (putK kvs k v))
theorem qE.k {H:Hp} {a:Addr} {kvs:List (Key×V)} {k:Key} (e:H a=some (.dK kvs)):qE H a (kV k) (fO kvs k):=.inl ⟨kvs,k,.inl e,rfl,rfl⟩
theorem Hw.k {H:Hp} {a:Addr} {kvs:List (Key×V)} {k:Key} {v:V} (e:H a=some (.dK kvs)) (hl:kvs.length < sizeLine):Hw H a (kV k) v (upd H a (.dK (putK kvs k v))):=.inl ⟨kvs,k,e,rfl,hl,rfl⟩
section
variable {X:Cx} {pins:List (Addr×Obj)} {σ:St} {H:Hp} {s:Shared} {a:Addr} {y v:V} {u r:Value} {o:Option V} {A:Around} {E:Value->Shared->Prop}
theorem Inv.big (I:Inv X pins σ H s):sysModules < s.heap.objs.size:=by
 have h:mainGlobals < s.heap.objs.size:=(I.mod.glob.keeps I.bk).lt
 exact Nat.lt_trans (by decide) h
theorem Bk {Q:Value->Shared->Prop} (hu:A.units+1 < cLine) (I:Inv X pins σ H s) (g:qE H a y (some v)) (ry:RelV y u) (h:∀ w' s',Inv X pins σ H s'->RelV v w'->Q w' s'):
  wpAny (model X.prog X.w) A (getItem (.ref a) u) Q E s:=by
 rcases g with ⟨kvs,k,e,ey,l⟩ | ⟨kvs,k,b,e,ey,eb,l⟩
 ·subst ey
  obtain ⟨z,hd,vs,rel,dd⟩:=nN I.hok e
  obtain ⟨w',hw,rw'⟩:=mM.some_of (v:=v) (o:=valueAt vs k) (by rw [l]; exact rel.val k)
  exact wpAny_getItem_of (qX ry) dd.mapOf hw (h w' _ (I.tok _) rw')
 ·subst ey
  cases (show u=Value.ref b from ry)
  obtain ⟨z,hd,xs,rel,dd⟩:=vH I.hok e
  obtain ⟨w',hw,rw'⟩:=mM.some_of (v:=v) (o:=(atKey xs k).map (·.2)) (by rw [l]; exact rel.val k)
  obtain ⟨p,hp,hp2⟩:=Option.map_eq_some_iff.mp hw
  refine wpAny_getItem_heap (tupleKind_room_in1 hu) (nQ I.hok eb) dd hp ?_
  rw [hp2]
  exact h w' _ (I.tok _) rw'
theorem sX {h':Heap} {t':Nat} {ob:HO} (I:Inv X pins σ H s) (mu:Mut (H a)) (hs:Heap.SameBut a s.heap h') (he:∃ q,h'.get? a=some q) (new:bK X.prog X.w (upd H a ob) h' a ob):
  Inv X pins σ (upd H a ob) { s with heap:=h',toks:=t' }:=
 I.write (x:=a) (e:=a) mu (.inl rfl) (fun b q hb z=>(hs.2 b hb).trans z) he new
theorem yT {P:Program} {w:World} {H':Hp} {h':Heap} {kvs:List (Key×V)} {vs:List (Key×Value)} (z:kvs.length<=sizeLine) (hd:(a == sysModules)=false) (rel:KV kvs vs) (dd:h'.DictOf (aQ P w) a vs):
  bK P w H' h' a (.dK kvs):=⟨z,hd,vs,rel,dd⟩
theorem Bl {H':Hp} {Q:Unit->Shared->Prop} (hu:A.units+1 < cLine) (I:Inv X pins σ H s) (g:Hw H a y v H') (ry:RelV y u) (rv:RelV v r) (h:∀ s',Inv X pins σ H' s'->Q () s'):
  wpAny (model X.prog X.w) A (setItem (.ref a) u r) Q E s:=by
 rcases g with ⟨kvs,k,e,ey,l,eH⟩ | ⟨kvs,k,b,e,ey,eb,l,eH⟩
 ·subst ey eH
  obtain ⟨z,hd,vs,rel,dd⟩:=vG I.hok e
  have hz:vs.length<=sizeLine:=by rw [<- rel.length]; exact z
  have hl:(putK kvs k v).length<=sizeLine:=by have:=fQ kvs k v; omega
  refine wpAny_setItem_pairs (hsz:=hz) (qX ry) dd fun h' dd' hs=>h _ ?_
  have he:∃ q,h'.get? a=some q:=let ⟨q,_,_,hq,_⟩:=dd'; ⟨q,hq⟩
  exact sX I (by rw [e]; exact True.intro) hs he (yT hl hd (rel.put k rv) dd')
 ·subst ey eH
  cases (show u=Value.ref b from ry)
  obtain ⟨z,hd,xs,rel,dd⟩:=JB I.hok e
  have hz:xs.length<=sizeLine:=by rw [<- Paired.length rel]; exact z
  have hl:(putK kvs k v).length<=sizeLine:=by have:=fQ kvs k v; omega
  refine wpAny_setItem_heap (hsz:=hz) (tupleKind_room_in1 hu) (nQ I.hok eb) dd fun h' dd' hs=>h _ ?_
  obtain ⟨q,es,ep,hq,h2,h3,h4,_,h5⟩:=dd'
  refine sX I (by rw [e]; exact True.intro) hs ⟨q,hq⟩ ⟨hl,hd,_,(rel.put k eb rv).keeps fun c ys ec=>?_,q,es,ep,hq,h2,h3,h4,h5⟩
  rw [aE (Jd ec e (fun z=>nomatch z))]
  exact ec
end
section
variable {X:Cx} {pins:List (Addr×Obj)} {σ:St} {H:Hp} {s:Shared} {a:Addr} {kvs:List (Key×V)} {k:Key} {u:Value} {A:Around} {E:Value->Shared->Prop}
theorem JC {Q:Value->Shared->Prop} (I:Inv X pins σ H s) (e:Rd H a (.dK kvs)) (h:∀ t s',Inv X pins σ H s'->Q (.int kvs.length t) s'):wpAny (model X.prog X.w) A (call (.builtin "len") [.ref a]) Q E s:=by
 obtain ⟨z,hd,vs,rel,dd⟩:=nN I.hok e
 refine call_len_dict hd dd (by rw [<- rel.length]; rw [sizeLine_eq] at z; omega) ?_
 rw [<- rel.length]
 exact h _ _ (I.tok _)
end
theorem vI {X:Cx} {pins:List (Addr×Obj)} {σ:St} {H:Hp} {s:Shared} {a:Addr} {y:V} {o:Option V} (I:Inv X pins σ H s) (g:qE H a y o):s.TypeIs (.ref a) "dict" := by
 rcases g with ⟨kvs,k,e,_,_⟩ | ⟨kvs,k,b,e,_,_,_⟩
 ·obtain ⟨_,_,vs,_,dd⟩:=nN I.hok e
  exact dd.typeIs
 ·obtain ⟨_,_,xs,_,dd⟩:=vH I.hok e
  exact dd.typeIs
section
variable {X:Cx} {o i e value:Expr} {pos pos' tpos:Pos} {td ty tv:TE}
end
theorem CB {P:Program} {w:World} {H:Hp} (h:Heap) (hb:sysModules < h.objs.size):bK P w H (h.push { cls:=.type "dict",data:=.dict #[] }) h.objs.size (.dK []):=
 ⟨Nat.zero_le _,beq_eq_false_iff_ne.mpr (Ne.symm (Nat.ne_of_lt hb)),[],.nil,Heap.DictOf.new h⟩
def Hx:TE:=fun _ H Q=>∀ p,H p=none->Q (.ref p) (upd H p (.dK []))
section
variable {X:Cx} {pos:Pos}
theorem CC:PE X (.Dict [] [] pos) Hx:=fun pins s σ H Q I h=>
 wpAny_Dict_empty ⟨.ref s.heap.objs.size,_,I.laid (a:=s.heap.objs.size) (o:=.dK []) (t':=s.toks) (fun _ _ q=>Heap.get?_push_of_some _ q) (Nat.le_refl _) (CB s.heap I.big),rfl,h _ (I.hok.fresh (Nat.le_refl _))⟩
end
def kJ (kvs more:List (Key×V)):List (Key×V):=more.foldl (fun acc kv=>putK acc kv.1 kv.2) kvs
theorem KV.merge:∀ {more:List (Key×V)} {rs:List (Key×Value)} {kvs:List (Key×V)} {vs:List (Key×Value)},KV more rs->KV kvs vs->KV (kJ kvs more) (merged vs rs):=by
 intro more rs kvs vs r
 unfold KV at r
 induction r generalizing kvs vs with
 | nil=>intro q; exact q
 | @cons p q ps qs h t ih=>
  intro r0
  have e:KV (putK kvs p.1 p.2) (stored vs q.1 q.2):=by
   have:=r0.put p.1 h.2
   rw [<- h.1]; exact this
  exact ih e
theorem iC:∀ (more kvs:List (Key×V)),(kJ kvs more).length<=kvs.length+more.length
 | [],kvs=>by show kvs.length<=kvs.length+0; omega
 | p :: r,kvs=>by
  have h1:=iC r (putK kvs p.1 p.2)
  have h2:=fQ kvs p.1 p.2
  show (kJ (putK kvs p.1 p.2) r).length<=_
  rw [List.length_cons]; omega
structure M1 (X:Cx) (o:Expr) (m:Str) (apos:Pos) (e:Expr) (cpos:Pos):Prop where
 base:attributeBase o m X.env (eval o X.env)=eval o X.env
 few:((backTo cpos (starEach [e] X.env)).all (fun x=>!x.1) && (backToKw cpos (keywordEach [] X.env)).all (fun x=>x.1.isSome)
  && decide (([e]:List Expr).length+([]:List Keyword).length+(if ([]:List Keyword).isEmpty then 0 else 1) < 30))=true
 line:(apos.endLine == cpos.line)=true
 trees:backTo cpos (starEach [e] X.env)=[(false,eval e X.env)]
structure M2 (X:Cx) (o:Expr) (m:Str) (apos:Pos) (e f:Expr) (cpos:Pos):Prop where
 base:attributeBase o m X.env (eval o X.env)=eval o X.env
 few:((backTo cpos (starEach [e,f] X.env)).all (fun x=>!x.1) && (backToKw cpos (keywordEach [] X.env)).all (fun x=>x.1.isSome)
  && decide (([e,f]:List Expr).length+([]:List Keyword).length+(if ([]:List Keyword).isEmpty then 0 else 1) < 30))=true
 line:(apos.endLine == cpos.line)=true
 trees:backTo cpos (starEach [e,f] X.env)=[(false,eval e X.env),(false,eval f X.env)]
section
variable {X:Cx} {pins:List (Addr×Obj)} {σ:St} {H:Hp} {s:Shared} {a:Addr} {y d:V} {u r:Value} {o:Option V} {A:Around} {E:Value->Shared->Prop}
theorem Hy {Q:Value->Shared->Prop} (hu:A.units+1 < cLine) (I:Inv X pins σ H s) (g:qE H a y o) (ry:RelV y u) (h:∀ w' s',Inv X pins σ H s'->RelV (o.getD .non) w'->Q w' s'):
  wpAny (model X.prog X.w) A (call (.builtin "dict.get") [.ref a,u]) Q E s:=by
 rcases g with ⟨kvs,k,e,ey,l⟩ | ⟨kvs,k,b,e,ey,eb,l⟩
 ·subst ey
  obtain ⟨z,hd,vs,rel,dd⟩:=nN I.hok e
  refine call_meetsIn PySem.F.slot_dict_get dd.typeIs PySem.F.entry_dict_get (PySem.F.args_dict_get_2 _ _) (meets_dict_get (aQ X.prog X.w) a (qX ry) hd) ⟨_,dd.mapOf,h _ _ (I.tok _) ?_⟩
  rw [l]
  exact (rel.val k).getD rfl
 ·subst ey
  cases (show u=Value.ref b from ry)
  obtain ⟨z,hd,xs,rel,dd⟩:=vH I.hok e
  refine call_meetsIn PySem.F.slot_dict_get dd.typeIs PySem.F.entry_dict_get (PySem.F.args_dict_get_2 _ _) (meetsH_dict_get (tupleKind (aQ X.prog X.w)) a b hd) ⟨tupleKind_room_in1 hu,k,xs,nQ I.hok eb,dd,h _ _ (I.tok _) ?_⟩
  rw [l]
  exact (rel.val k).getD rfl
theorem Hz {Q:Value->Shared->Prop} (hu:A.units+1 < cLine) (I:Inv X pins σ H s) (g:qE H a y o) (ry:RelV y u) (rd:RelV d r) (h:∀ w' s',Inv X pins σ H s'->RelV (o.getD d) w'->Q w' s'):
  wpAny (model X.prog X.w) A (call (.builtin "dict.get") [.ref a,u,r]) Q E s:=by
 rcases g with ⟨kvs,k,e,ey,l⟩ | ⟨kvs,k,b,e,ey,eb,l⟩
 ·subst ey
  obtain ⟨z,hd,vs,rel,dd⟩:=nN I.hok e
  refine call_meetsIn PySem.F.slot_dict_get dd.typeIs PySem.F.entry_dict_get (PySem.F.args_dict_get_3 _ _ _) (meets_dict_get_default (aQ X.prog X.w) a (qX ry) hd r) ⟨_,dd.mapOf,h _ _ (I.tok _) ?_⟩
  rw [l]
  exact (rel.val k).getD rd
 ·subst ey
  cases (show u=Value.ref b from ry)
  obtain ⟨z,hd,xs,rel,dd⟩:=vH I.hok e
  refine call_meetsIn PySem.F.slot_dict_get dd.typeIs PySem.F.entry_dict_get (PySem.F.args_dict_get_3 _ _ _) (meetsH_dict_get_default (tupleKind (aQ X.prog X.w)) a b hd r) ⟨tupleKind_room_in1 hu,k,xs,nQ I.hok eb,dd,h _ _ (I.tok _) ?_⟩
  rw [l]
  exact (rel.val k).getD rd
end
section
variable {X:Cx} {o e f:Expr} {apos cpos:Pos} {td ty tx:TE}
end
section
variable {X:Cx} {pins:List (Addr×Obj)} {σ:St} {H:Hp} {s:Shared} {a:Addr} {kvs:List (Key×V)} {A:Around} {E:Value->Shared->Prop}
theorem CD {Q:Value->Shared->Prop} (I:Inv X pins σ H s) (e:Rd H a (.dK kvs)) (h:∀ p s',H p=none->Inv X pins σ (upd H p (.dK kvs)) s'->Q (.ref p) s'):wpAny (model X.prog X.w) A (call (.type "dict") [.ref a]) Q E s:=by
 obtain ⟨z,hd,vs,rel,dd⟩:=nN I.hok e
 refine kt_call_dict hd dd (by rw [<- rel.length]; exact z) fun h' dd' hs=>?_
 refine h _ _ (I.hok.fresh (Nat.le_refl _)) (I.laid (a:=s.heap.objs.size) (o:=.dK kvs) (t':=s.toks) (fun b q hq=>?_) (Nat.le_refl _) (yT z (beq_eq_false_iff_ne.mpr (Ne.symm (Nat.ne_of_lt I.big))) rel dd'))
 exact (hs.2 b (Nat.ne_of_lt (Heap.lt_size hq))).trans (Heap.get?_push_of_some _ hq)
end
section
variable {X:Cx} {pins:List (Addr×Obj)} {σ:St} {H:Hp} {s:Shared} {a:Addr} {y:V} {u:Value} {A:Around} {E:Value->Shared->Prop}
end
end L2
namespace L2
open PySem PySem.Spec PyProof.Rows
section
variable {X:Cx}
theorem Bm:bI X (.builtin "len") (fun xs H Q=>∃ a kvs,xs=[V.ref a]/\H a=some (.dK kvs)/\Q (.int kvs.length) H):=by
 intro pins s σ H xs us Q I r h
 obtain ⟨a,kvs,rfl,ha,q⟩:=h
 obtain ⟨u,rfl,ru⟩:=vals1 r
 cases ru
 exact JC I (.inl ha) fun t s' I'=>⟨.int kvs.length,H,I',⟨t,rfl⟩,q⟩
end
section
variable {κ:Type} [DecidableEq κ]
end
end L2
set_option Elab.async false
set_option linter.all false
set_option maxRecDepth 100000
namespace L2
open PySem PySem.Spec PyProof.Rows
section
variable {prog:Program} {w:World} {A:Around} {R:Result->Shared->Prop} {s:Shared}
def Aw (ifs:List Expr) (env:Env):Sem Bool:=forIn ifs true fun c r=>if r=true then do let ok <- isTrue c env (eval c env); pure (ForInStep.yield ok) else pure (ForInStep.yield r)
theorem sY {elt target iter:Expr} {ifs:List Expr} {scope:Scope} {pos:Pos} {it acc:Value} {env:Env} (I:Nat->Shared->Prop)
  (turn:∀ n s,I n s->wpAny (model prog w) A (pyNext it) (fun r s₁=>match r with
   | none=>R (.ok .next) s₁
   | some v=>wpAny (model prog w) A (letOwnedTupleGo target it v) (fun _ s₁'=>wpAny (model prog w) A (assign target env v) (fun _ s₂=>
     wpAny (model prog w) A (Aw ifs env) (fun ok s₃=>
      if ok=true then wpAny (model prog w) A (eval elt env) (fun x s₄=>
       wpAny (model prog w) A (call (.builtin "list.append") [acc,x]) (fun _ s₅=>∃ m,m < n/\I m s₅) (fun _ _=>False) s₄) (fun _ _=>False) s₃
      else ∃ m,m < n/\I m s₃) (fun _ _=>False) s₂) (fun _ _=>False) s₁') (fun _ _=>False) s₁) (fun _ _=>False) s)
  (n:Nat) (h:I n s):
  codeAny (model prog w) A (.compLoop (.ListComp elt [⟨target,iter,ifs,0⟩] scope pos) 0 it acc env) R s:=by
 refine codeAny_loop rfl I (fun n s hI=>?_) n h
 show wpAny _ A ((compTurn (.ListComp elt [⟨target,iter,ifs,0⟩] scope pos) 0 it acc env).onRaise (fun x=>do noteFrame x env; theTreesLotGoes x)) _ _ s
 refine wpAny_noted ?_
 rw [compTurn_list]
 refine wpAny_bind (wpAny_standAt (wpAny_bind (wpAny_mono (turn n s hI) (fun r s₁ h₁=>?_) fun _ _ h'=>h'.elim)))
 cases r with
 | none=>exact wpAny_pure h₁
 | some v=>
  refine wpAny_bind (wpAny_mono h₁ (fun _ s₁' h₁'=>?_) fun _ _ h'=>h'.elim)
  refine wpAny_bind (wpAny_mono h₁' (fun _ s₂ h₂=>wpAny_bind (wpAny_mono h₂ (fun ok s₃ h₃=>?_) fun _ _ h'=>h'.elim)) fun _ _ h'=>h'.elim)
  cases ok with
  | false=>exact wpAny_pure ⟨rfl,h₃⟩
  | true=>
   exact wpAny_bind (wpAny_bind (wpAny_mono h₃ (fun x s₄ h₄=>wpAny_bind (wpAny_mono h₄ (fun _ s₅ h₅=>wpAny_pure (wpAny_pure ⟨rfl,h₅⟩)) fun _ _ h'=>h'.elim)) fun _ _ h'=>h'.elim))
end
def fR (cells:List (Str×Addr)):List (Str×NameKind)->List (Str×Addr)->List (Str×Addr)
 | [],cs=>cs
 | (n,k) :: r,cs=>fR cells r (if (k == NameKind.free)=true then (n,(cells.lookup n).getD 0) :: cs else cs)
theorem qF {scope:Scope} {env:Env} (h:∀ y∈scope.names,y.2=NameKind.free->∃ c,env.cells.lookup y.1=some c):closureFor scope env=pure (fR env.cells scope.names []):=by
 have go:∀ (names:List (Str×NameKind)) (cs:List (Str×Addr)),(∀ y∈names,y.2=NameKind.free->∃ c,env.cells.lookup y.1=some c)->
   (forIn names cs fun (x:Str×NameKind) (r:List (Str×Addr))=>match x with
    | (name,kind)=>if (kind == NameKind.free)=true then (do let y <- cellOf env name; pure (ForInStep.yield ((name,y) :: r))) else (pure (ForInStep.yield r):Sem _))=(pure (fR env.cells names cs):Sem _):=by
  intro names
  induction names with
  | nil=>intro cs _; rfl
  | cons y r ih=>
   intro cs hy
   obtain ⟨n,k⟩:=y
   rw [List.forIn_cons]
   have ih':=fun cs'=>ih cs' fun y hm=>hy y (List.mem_cons_of_mem _ hm)
   by_cases hk:(k == NameKind.free)=true
   ·obtain ⟨c,hc⟩:=hy (n,k) List.mem_cons_self (by simpa using hk)
    have e1:cellOf env n=pure c:=by unfold cellOf; rw [show env.cells.lookup n=some c from hc]
    have e2:fR env.cells ((n,k) :: r) cs=fR env.cells r ((n,c) :: cs):=by
     show fR env.cells r (if (k == NameKind.free)=true then _ else _)=_
     rw [if_pos hk,show env.cells.lookup n=some c from hc]; rfl
    rw [e2,<- ih' ((n,c) :: cs)]
    simp only [hk,if_true,e1,pure_bind]
   ·have e2:fR env.cells ((n,k) :: r) cs=fR env.cells r cs:=by
     show fR env.cells r (if (k == NameKind.free)=true then _ else _)=_
     rw [if_neg hk]
    rw [e2,<- ih' cs]
    simp only [hk,if_false,pure_bind]
    try rfl
 have:=go scope.names [] h
 unfold closureFor
 simpa using this
theorem lP {cells:List (Str×Addr)} {x:Str} {c:Addr}:∀ (names:List (Str×NameKind)) (cs:List (Str×Addr)),(fR cells names cs).lookup x=some c->cs.lookup x=some c\/(∃ y∈names,y.1=x/\y.2=NameKind.free/\c=(cells.lookup x).getD 0)
 | [],_,h=>.inl h
 | (n,k) :: r,cs,h=>by
  rcases lP r _ h with h1 | ⟨y,hy,e⟩
  ·by_cases hk:(k == NameKind.free)=true
   ·rw [if_pos hk] at h1
    by_cases hx:x=n
    ·subst hx
     simp only [List.lookup_cons,beq_self_eq_true] at h1
     exact .inr ⟨(x,k),List.mem_cons_self,rfl,by simpa using hk,(Option.some.inj h1).symm⟩
    ·have:(x == n)=false:=by simpa using hx
     simp only [List.lookup_cons,this] at h1
     exact .inl h1
   ·rw [if_neg hk] at h1
    exact .inl h1
  ·exact .inr ⟨y,List.mem_cons_of_mem _ hy,e⟩
theorem nR {cells:List (Str×Addr)} {x:Str}:∀ (names:List (Str×NameKind)) (cs:List (Str×Addr)),((∃ c,cs.lookup x=some c)\/∃ y∈names,y.1=x/\y.2=NameKind.free)->∃ c,(fR cells names cs).lookup x=some c
 | [],_,h=>by
  rcases h with h | ⟨y,hy,_⟩
  ·exact h
  ·cases hy
 | (n,k) :: r,cs,h=>by
  refine nR r _ ?_
  rcases h with ⟨c,h⟩ | ⟨y,hy,e1,e2⟩
  ·left
   by_cases hk:(k == NameKind.free)=true
   ·rw [if_pos hk]
    by_cases hx:x=n
    ·subst hx; simp [List.lookup_cons]
    ·have:(x == n)=false:=by simpa using hx
     exact ⟨c,by simp only [List.lookup_cons,this]; exact h⟩
   ·rw [if_neg hk]; exact ⟨c,h⟩
  ·rcases List.mem_cons.mp hy with rfl | hy
   ·left
    have hk:(k == NameKind.free)=true:=by simpa using e2
    rw [if_pos hk]
    have hx:n=x:=e1
    subst hx
    simp [List.lookup_cons]
   ·exact .inr ⟨y,hy,e1,e2⟩
def iK (os:Scope) (oN:List Str) (sc:Scope) (N:List Str) (js:List (Option Nat)):Bool:=
 (match sc.kind with | .function=>true | _=>false) && sc.names.all (fun y=>match y.2 with | .cell=>false | _=>true) &&
 sc.names.all (fun y=>match y.2 with
  | .local=>(match sc.names.lookup y.1 with | some .local=>true | _=>false)
  | .free=>(match sc.names.lookup y.1,os.names.lookup y.1 with | some .free,some .cell=>true | some .free,some .free=>true | _,_=>false)
  | _=>true) &&
 js.length == N.length && (js.zip N).all (fun p=>match p.1 with
  | none=>true
  | some j=>(match oN[j]? with | some x=>decide (x=p.2) | none=>false) && (match sc.names.lookup p.2 with | some .free=>true | _=>false))
structure HA (os:Scope) (oN:List Str) (sc:Scope) (N:List Str) (js:List (Option Nat)):Prop where
 kind:sc.kind=.function
 nocell:∀ y∈sc.names,y.2≠.cell
 nm:∀ y∈sc.names,y.2=.local->sc.names.lookup y.1=some .local
 fr:∀ y∈sc.names,y.2=.free->os.names.lookup y.1=some .cell\/os.names.lookup y.1=some .free
 len:js.length=N.length
 cap:∀ (i j:Nat),js[i]?=some (some j)->∃ x,N[i]?=some x/\oN[j]?=some x/\sc.names.lookup x=some .free
theorem Bn {os:Scope} {oN:List Str} {sc:Scope} {N:List Str} {js:List (Option Nat)} (h:iK os oN sc N js=true):HA os oN sc N js:=by
 unfold iK at h
 simp only [Bool.and_eq_true] at h
 obtain ⟨⟨⟨⟨h1,h2⟩,h3⟩,h4⟩,h5⟩:=h
 refine ⟨?_,fun y hy e=>?_,fun y hy e=>?_,fun y hy e=>?_,by simpa using h4,fun i j e=>?_⟩
 ·cases hk:sc.kind <;> rw [hk] at h1 <;> first | rfl | exact absurd h1 Bool.false_ne_true
 ·have:=List.all_eq_true.mp h2 y hy
  rw [e] at this
  exact absurd this Bool.false_ne_true
 ·have:=List.all_eq_true.mp h3 y hy
  rw [e] at this
  dsimp only at this
  cases hl:sc.names.lookup y.1 with
  | none=>rw [hl] at this; exact absurd this Bool.false_ne_true
  | some k=>cases k <;> rw [hl] at this <;> first | rfl | exact absurd this Bool.false_ne_true
 ·have:=List.all_eq_true.mp h3 y hy
  rw [e] at this
  dsimp only at this
  cases hl:sc.names.lookup y.1 with
  | none=>rw [hl] at this; exact absurd this Bool.false_ne_true
  | some k=>
   rw [hl] at this
   cases ho:os.names.lookup y.1 with
   | none=>rw [ho] at this; cases k <;> exact absurd this Bool.false_ne_true
   | some k'=>rw [ho] at this; cases k <;> cases k' <;> first | exact .inl rfl | exact .inr rfl | exact absurd this Bool.false_ne_true
 ·have hlen:js.length=N.length:=by simpa using h4
  obtain ⟨hi,ej⟩:=List.getElem?_eq_some_iff.mp e
  have hN:i < N.length:=by omega
  have hz:(js.zip N)[i]?=some (some j,N[i]):=by
   rw [List.getElem?_zip_eq_some]
   exact ⟨e,by simp [hN]⟩
  have:=List.all_eq_true.mp h5 _ (List.mem_of_getElem? hz)
  simp only [Bool.and_eq_true] at this
  obtain ⟨t1,t2⟩:=this
  refine ⟨N[i],by simp [hN],?_,?_⟩
  ·cases ho:oN[j]? with
   | none=>rw [ho] at t1; exact absurd t1 Bool.false_ne_true
   | some x=>rw [ho] at t1; rw [of_decide_eq_true t1]
  ·cases hl:sc.names.lookup N[i] with
   | none=>rw [hl] at t2; exact absurd t2 Bool.false_ne_true
   | some k=>rw [hl] at t2; cases k <;> first | rfl | exact absurd t2 Bool.false_ne_true
theorem bS {κ:Type} {x:Str} {k:κ}:∀ {l:List (Str×κ)},l.lookup x=some k->(x,k)∈l
 | [],h=>by simp at h
 | (n,v) :: r,h=>by
  by_cases hx:x=n
  ·subst hx
   simp only [List.lookup_cons,beq_self_eq_true] at h
   cases h
   exact List.mem_cons_self
  ·have:(x == n)=false:=by simpa using hx
   simp only [List.lookup_cons,this] at h
   exact List.mem_cons_of_mem _ (bS h)
theorem fS {sc:Scope} {env:Env}:∀ {names:List (Str×NameKind)} {x:Str} {k:NameKind},(names.map fun (n,k)=>if (k == NameKind.free && env.scope.kind == .function && env.kindOf n == some .cell) then (n,NameKind.cell) else (n,k)).lookup x=some k->
  names.lookup x=some k\/(k=.cell/\names.lookup x=some .free)
 | [],_,_,h=>by simp at h
 | (n,q) :: r,x,k,h=>by
  have ih:=@fS sc env r x k
  by_cases hc:(q == NameKind.free && env.scope.kind == .function && env.kindOf n == some .cell)=true
  ·simp only [List.map_cons] at h
   rw [if_pos hc] at h
   have hq:q=.free:=by
    simp only [Bool.and_eq_true] at hc
    simpa using hc.1.1
   by_cases hx:x=n
   ·subst hx
    simp only [List.lookup_cons,beq_self_eq_true] at h ⊢
    exact .inr ⟨(Option.some.inj h).symm,by rw [hq]⟩
   ·have e:(x == n)=false:=by simpa using hx
    simp only [List.lookup_cons,e] at h ⊢
    exact ih h
  ·simp only [List.map_cons] at h
   rw [if_neg hc] at h
   by_cases hx:x=n
   ·subst hx
    simp only [List.lookup_cons,beq_self_eq_true] at h ⊢
    exact .inl h
   ·have e:(x == n)=false:=by simpa using hx
    simp only [List.lookup_cons,e] at h ⊢
    exact ih h
theorem jB {env:Env}:∀ {names:List (Str×NameKind)} {x:Str},names.lookup x=some .free->
  (names.map fun (n,k)=>if (k == NameKind.free && env.scope.kind == .function && env.kindOf n == some .cell) then (n,NameKind.cell) else (n,k)).lookup x=some .free\/
  (names.map fun (n,k)=>if (k == NameKind.free && env.scope.kind == .function && env.kindOf n == some .cell) then (n,NameKind.cell) else (n,k)).lookup x=some .cell
 | [],_,h=>by simp at h
 | (n,q) :: r,x,h=>by
  have ih:=@jB env r x
  by_cases hc:(q == NameKind.free && env.scope.kind == .function && env.kindOf n == some .cell)=true
  ·simp only [List.map_cons]
   rw [if_pos hc]
   by_cases hx:x=n
   ·subst hx
    simp only [List.lookup_cons,beq_self_eq_true]
    first | exact .inr rfl | exact .inr trivial
   ·have e:(x == n)=false:=by simpa using hx
    simp only [List.lookup_cons,e] at h ⊢
    exact ih h
  ·simp only [List.map_cons]
   rw [if_neg hc]
   by_cases hx:x=n
   ·subst hx
    simp only [List.lookup_cons,beq_self_eq_true] at h ⊢
    exact .inl h
   ·have e:(x == n)=false:=by simpa using hx
    simp only [List.lookup_cons,e] at h ⊢
    exact ih h
def Cx.comp (X:Cx) (sc:Scope) (N:List Str) (C:Addr) (fp:List Addr) (s₀:Shared) (H₀:Hp):Cx:=
 { X with N:=N,s₀:=s₀,H₀:=H₀,env:=compEnvC sc (fR X.env.cells sc.names []) C X.env,outer:=X.stack,ex:=fp,fn:=fun _=>false,pn:=[],xe:=fun _ _=>False }
def yU:St->Nat->Option V
 | [],_=>none
 | x :: _,0=>x
 | _ :: r,n+1=>yU r n
theorem nT:∀ {σ:St} {i:Nat} {v:V},yU σ i=some v->σ[i]?=some (some v)
 | [],_,_,h=>by cases h
 | x :: _,0,v,h=>by
  have h':x=some v:=h
  simp [h']
 | _ :: r,n+1,v,h=>by
  rw [List.getElem?_cons_succ]
  exact nT (σ:=r) (i:=n) h
def eQ (js:List (Option Nat)) (σ:St):St:=js.map fun o=>match o with
 | none=>none
 | some j=>yU σ j
theorem F8 {js:List (Option Nat)} {σ:St} {i:Nat} {v:V} (h:(eQ js σ)[i]?=some (some v)):∃ j,js[i]?=some (some j)/\σ[j]?=some (some v):=by
 unfold eQ at h
 rw [List.getElem?_map] at h
 cases e:js[i]? with
 | none=>rw [e] at h; cases h
 | some o=>
  rw [e] at h
  cases o with
  | none=>cases h
  | some j=>exact ⟨j,rfl,nT (Option.some.inj h)⟩
def PTs (X:Cx) (ifs:List Expr) (t:TT):Prop:=
 ∀ (pins:List (Addr×Obj)) (s:Shared) (σ:St) (H:Hp) (Q:Bool->Hp->Prop),Inv X pins σ H s->t σ H Q->wpAny (model X.prog X.w) X.A (Aw ifs X.env) (TP X pins σ Q) X.xe s
def JD:TT:=fun _ H Q=>Q true H
theorem F9 {X:Cx}:PTs X [] JD:=fun _ _ _ H _ I h=>wpAny_tests_nil ⟨H,I,h⟩
theorem F' {X:Cx} {c:Expr} {t:TT} (h:PT X c t):PTs X [c] t:=fun pins s σ H Q I q=>wpAny_tests_one (h pins s σ H Q I q)
def Gy (js:List (Option Nat)) (g:TG) (tt:TT) (te:TE) (σ:St) (acc:Addr) (x:V) (H:Hp) (N:Hp->Prop):Prop:=g x (eQ js σ) H fun σ2 H4=>tt σ2 H4 fun b H5=>
   if b=true then te σ2 H5 fun v H6=>∃ ys,H6 acc=some (.lst ys)/\ys.length < sizeLine/\N (upd H6 acc (.lst (ys++[v]))) else N H5
def Ax (js:List (Option Nat)) (wi:TI) (g:TG) (tt:TT) (te:TE):TE:=fun σ H Q=>wi σ H fun J H1=>∀ acc,H1 acc=none->
 ∃ W:Nat->Nat->Hp->Prop,(∃ m,W 0 m (upd H1 acc (.lst [])))/\∀ i m H2,W i m H2->
  (J.stop i H2/\Q (.ref acc) H2)\/(J.go i H2/\∃ N:Hp->Prop,(∀ H',N H'->∃ m',m' < m/\W (i+1) m' H')/\∀ x H3,J.yld i H2 x H3->Gy js g tt te σ acc x H3 N)
section
variable {X:Cx} {elt iter tg:Expr} {ifs:List Expr} {sc:Scope} {pos:Pos} {os:Scope} {oN N:List Str} {js:List (Option Nat)} {wi:TI} {g:TG} {tt:TT} {te:TE}
structure Off (X:Cx) (pins:List (Addr×Obj)) (H:Hp) (C:Addr) (s:Shared):Prop where
 ns:∃ m,s.heap.Ns C m
 none:H C=none
 loc:C≠X.env.locals
 new:X.s₀.heap.objs.size<=C
 cells:∀ x c,X.env.cells.lookup x=some c->c≠C
 pins:∀ p∈X.pn++pins,p.1≠C
theorem Off.go {pins:List (Addr×Obj)} {σ:St} {H:Hp} {C:Addr} {s:Shared} {h':Heap} (o:Off X pins H C s) (I:Inv X pins σ H s) (hs:Heap.SameBut C s.heap h'):Inv X pins σ H { s with heap:=h' }:=
 I.turned (t':=s.toks) (fun b ob hb e=>(hs.2 b hb).trans e) o.none o.loc (.inr o.new) o.cells o.pins
theorem qZ {use:Option (Value->Sem Unit)} {Q0:Value->Shared->Prop} (hc:X.calm=true) (hes:X.env.scope=os) (heN:X.N=oN) (ok:iK os oN sc N js=true) (hi:PI X tg iter wi)
  (hg:∀ C fp s₀ H₀,PG (X.comp sc N C fp s₀ H₀) tg g) (ht:∀ C fp s₀ H₀,PTs (X.comp sc N C fp s₀ H₀) ifs tt) (he:∀ C fp s₀ H₀,PE (X.comp sc N C fp s₀ H₀) elt te)
  {pins:List (Addr×Obj)} {s:Shared} {σ:St} {H:Hp} {Q:VK} (I:Inv X pins σ H s) (h:Ax js wi g tt te σ H Q)
  (hfin:∀ acc C s6 H6,Inv X pins σ H6 s6->Off X pins H6 C s6->Q (.ref acc) H6->compPost (model X.prog X.w) X.A X.xe use Q0 (.ref acc) C (.ok .next) s6)
  (hs:∀ x,foldedSetIterable iter X.env x=pure x:=by intro _; rfl):
  wpAny (model X.prog X.w) X.A (comprehension (.ListComp elt [⟨tg,iter,ifs,0⟩] sc pos) sc X.env (firstIterPos [⟨tg,iter,ifs,0⟩] pos) (newList []) false (eval iter X.env) use) Q0 X.xe s:=by
 have S:=Bn ok
 subst hes heN
 have hcl:∀ y∈sc.names,y.2=NameKind.free->∃ c,X.env.cells.lookup y.1=some c:=fun y hy e=>I.ok.has y.1 (S.fr y hy e)
 have clsub:∀ x c,(fR X.env.cells sc.names []).lookup x=some c->X.env.cells.lookup x=some c:=fun x c e=>by
  rcases lP _ _ e with z | ⟨y,hy,e1,e2,e3⟩
  ·cases z
  ·obtain ⟨d,hd⟩:=hcl y hy e2
   rw [e1] at hd
   rw [hd] at e3
   rw [hd,e3]; rfl
 refine wpAny_comprehension_free (use:=use) rfl hs (qF hcl) S.kind S.nm (thn (hi pins s σ H _ I h) fun v s1 h1=>thn h1 fun itv s2 h2=>?_)
 obtain ⟨it,fp,tn,J,H2,e,I2,T,st2,f2,q⟩:=h2
 subst e
 obtain ⟨W,⟨m0,w0⟩,turn⟩:=q s2.heap.objs.size I2.fresh
 refine wpAny_newObj_type (wpAny_newFunctionEnv S.nocell (by intro y hy; simp at hy) (fun h₁ hns₁ hsb₁=>?_) S.kind)
 have I3:Inv X pins σ (upd H2 s2.heap.objs.size (.lst [])) { s2 with heap:=s2.heap.push { cls:=.type "list",data:=.seq ([]:List Value).toArray },toks:=s2.toks }:=I2.lnew (its:=[]) (ys:=[]) .nil (Nat.zero_le _)
 generalize hH3:upd H2 s2.heap.objs.size (HO.lst [])=H3 at w0 I3
 generalize hs3:({ s2 with heap:=s2.heap.push { cls:=.type "list",data:=.seq ([]:List Value).toArray },toks:=s2.toks }:Shared)=s3 at I3
 have es3:({ s2 with heap:=s2.heap.push { cls:=.type "list",dict:=none,data:=.seq ([]:List Value).toArray } }:Shared)=s3:=hs3
 have eh3:s2.heap.push { cls:=.type "list",dict:=none,data:=.seq ([]:List Value).toArray }=s3.heap:=by rw [<- es3]
 dsimp only at hns₁ hsb₁ ⊢
 (try rw [eh3] at hns₁); (try rw [eh3] at hsb₁); (try rw [eh3])
 have hC:∀ b o,s3.heap.get? b=some o->b≠s3.heap.objs.size:=fun b o e=>Nat.ne_of_lt (Heap.lt_size e)
 have old:∀ b o,s3.heap.get? b=some o->h₁.get? b=some o:=fun b o e=>hsb₁.extBut b o (hC b o e) (Heap.get?_push_of_some _ e)
 have st3:tn 0 s3.heap:=T.keep 0 _ _ st2 fun b hb o e=>by
  rw [<- eh3]; exact Heap.get?_push_of_some _ e
 have fobj:∀ b∈fp,∃ o,s3.heap.get? b=some o/\∀ v,o.data≠.cell v:=T.obj 0 _ st3
 have f3:∀ b∈fp,vA X pins H3 b:=fun b hb=>by
  obtain ⟨o,ho,_⟩:=T.obj 0 _ st2 b hb
  refine ⟨?_,(f2 b hb).2⟩
  rw [<- hH3,aE (Nat.ne_of_lt (Heap.lt_size ho))]
  exact (f2 b hb).1
 -- the block's context
 have Xok:(X.comp sc N s3.heap.objs.size fp s3 H3).Ok:=by
  refine ⟨I.ok.mod,S.kind,I.ok.glob,I.ok.blt,Nat.le_refl _,fun x y c e1 e2=>I.ok.inj x y c (clsub x c e1) (clsub y c e2),fun x hx=>?_,fun _ _ z=>absurd z Bool.false_ne_true,I.ok.hd,I.ok.frames,.inl rfl,fun b hb=>?_,I3.bs,
   Nat.le_trans I.ok.bsz I3.sz,fun b o e hb=>?_,fun b hb hf=>?_,I3.stack,I3.stkFree⟩
  ·refine nR _ _ (.inr ?_)
   have fin:∀ {k},(relabel sc X.env).names.lookup x=some k->(k=.cell\/k=.free)->∃ y∈sc.names,y.1=x/\y.2=NameKind.free:=fun {k} e hk=>by
    rcases fS (sc:=sc) e with z | ⟨_,z⟩
    ·rcases hk with rfl | rfl
     ·exact absurd rfl (S.nocell _ (bS z))
     ·exact ⟨_,bS z,rfl,rfl⟩
    ·exact ⟨_,bS z,rfl,rfl⟩
   rcases hx with hx | hx
   ·exact fin hx (.inl rfl)
   ·exact fin hx (.inr rfl)
  ·obtain ⟨o,ho,_⟩:=fobj b hb
   exact ⟨hC b o ho,fun x c e=>(f3 b hb).2.2.2.2.1 x c (clsub x c e)⟩
  ·rcases (f3 b hb).2.2.2.1 with z | z
   ·exact I.ok.noex b o e z
   ·exact absurd (Nat.lt_of_lt_of_le (Heap.lt_size e) (Nat.le_trans I.ok.bsz z)) (Nat.lt_irrefl _)
  ·rcases List.mem_cons.mp (I3.stkSub b hf) with z | z
   ·exact (f3 b hb).2.1 z
   ·exact (f3 b hb).2.2.1 z
 -- what the block takes from around it
 have capt:∀ (i:Nat) (x:Str) (v:V),N[i]?=some x->(eQ js σ)[i]?=some (some v)->∃ u c o,RelV v u/\((compEnvC sc (fR X.env.cells sc.names []) s3.heap.objs.size X.env).kindOf x=some .cell\/(compEnvC sc (fR X.env.cells sc.names []) s3.heap.objs.size X.env).kindOf x=some .free)/\
   (fR X.env.cells sc.names []).lookup x=some c/\s3.heap.get? c=some o/\o.data=.cell (some u)/\H3 c=none/\c∉fp:=by
  intro i x v hN hv
  obtain ⟨j,hj,hσ⟩:=F8 hv
  obtain ⟨x',hx',ho,hf⟩:=S.cap i j hj
  rw [hN] at hx'; cases hx'
  obtain ⟨m,hn,hl⟩:=I3.loc
  have hvis:Vis X.env.scope x:=by
   rcases S.fr _ (bS hf) rfl with z | z
   ·exact .inr (.inl z)
   ·exact .inr (.inr z)
  obtain ⟨u,r,l⟩:=hl j x v ho hσ hvis
  obtain ⟨c,hcl'⟩:=nR (cells:=X.env.cells) (x:=x) sc.names [] (.inr ⟨_,bS hf,rfl,rfl⟩)
  have hcx:=clsub x c hcl'
  have hcell:s3.heap.IsCell c (some u):=by
   rcases l with ⟨k,_⟩ | ⟨_,c',e,z⟩
   ·exfalso
    rcases S.fr _ (bS hf) rfl with z | z
    ·have k':X.env.scope.names.lookup x=some .local:=k
     rw [z] at k'; cases k'
    ·have k':X.env.scope.names.lookup x=some .local:=k
     rw [z] at k'; cases k'
   ·rw [hcx] at e; cases e; exact z
  obtain ⟨o,ho',hd⟩:=hcell
  refine ⟨u,c,o,r,?_,hcl',ho',hd,I3.freeC x c hcx,fun hb=>(f3 c hb).2.2.2.2.1 x c hcx rfl⟩
  exact (jB (env:=X.env) hf).symm
 -- at any state of the block,its names as at its start
 have recap:∀ {pins':List (Addr×Obj)} {σ8:St} {H8:Hp} {s8:Shared},Inv (X.comp sc N s3.heap.objs.size fp s3 H3) pins' σ8 H8 s8->Inv (X.comp sc N s3.heap.objs.size fp s3 H3) [] (eQ js σ) H8 s8:=fun {pins' σ8 H8 s8} I8=>by
  refine ⟨I8.ok,I8.os,I8.bare,I8.base,?_,I8.cell,I8.free,I8.freeC,fun p hp=>by simp [Cx.comp] at hp,I8.hok,?_⟩
  ·obtain ⟨m,hn,_⟩:=I8.loc
   refine ⟨m,hn,fun i x v hN hv _=>?_⟩
   obtain ⟨u,c,o,r,k,hl,ho,hd,hn3,hnf⟩:=capt i x v hN hv
   refine ⟨u,r,.inr ⟨k,c,hl,?_⟩⟩
   obtain ⟨sl,e⟩:=I8.base.any ho hn3 hnf
   exact ⟨_,e,hd⟩
  ·show (eQ js σ).length=N.length
   unfold eQ
   rw [List.length_map,S.len]
 have I4:Inv (X.comp sc N s3.heap.objs.size fp s3 H3) [] (eQ js σ) H3 { s3 with heap:=h₁,toks:=s3.toks+([]:List (Str×Value)).length }:=by
  refine ⟨Xok,rfl,I3.bare,Un.kept old,⟨_,hns₁,fun i x v hN hv _=>?_⟩,fun x c e=>?_,I3.fresh,fun x c e=>I3.freeC x c (clsub x c e),fun p hp=>by simp [Cx.comp] at hp,I3.hok.kept old,?_⟩
  ·obtain ⟨u,c,o,r,k,hl,ho,hd,_,_⟩:=capt i x v hN hv
   exact ⟨u,r,.inr ⟨k,c,hl,o,old c o ho,hd⟩⟩
  ·obtain ⟨v,o,ho,hd⟩:=I3.cell x c (clsub x c e)
   exact ⟨v,o,old c o ho,hd⟩
  ·show (eQ js σ).length=N.length
   unfold eQ
   rw [List.length_map,S.len]
 have st4:tn 0 h₁:=T.keep 0 _ _ st3 fun b hb o e=>old b o e
 have fpok:∀ {H':Hp},(∀ b∈fp,H' b=none)->∀ b∈fp,vA (X.comp sc N s3.heap.objs.size fp s3 H3) [] H' b:=fun {H'} hn b hb=>
  ⟨hn b hb,(Xok.exf b hb).1,Xok.exfs b hb,.inl hb,(Xok.exf b hb).2,fun p hp=>by simp [Cx.comp] at hp⟩
 have fin:∀ (s6:Shared) (H6:Hp),Inv (X.comp sc N s3.heap.objs.size fp s3 H3) [] (eQ js σ) H6 s6->Q (.ref s2.heap.objs.size) H6->compPost (model X.prog X.w) X.A X.xe use Q0 (.ref s2.heap.objs.size) s3.heap.objs.size (.ok .next) s6:=fun s6 H6 I6 q6=>by
  have I7:Inv X pins σ H6 s6:=I3.call' (ch:=fp) I6.os I6.base I6.hok I6.bare fun b hb=>⟨(f3 b hb).2.2.2.1,(f3 b hb).2.1,(f3 b hb).2.2.2.2.1,(f3 b hb).2.2.2.2.2⟩
  refine hfin _ _ _ _ I7 ⟨let ⟨m,hn,_⟩:=I6.loc; ⟨m,hn⟩,I6.free,Nat.ne_of_gt I3.lt,I3.sz,fun x c e=>?_,fun p hp=>?_⟩ q6
  ·obtain ⟨v,z⟩:=I3.cell x c e
   exact Nat.ne_of_lt z.lt
  ·exact Nat.ne_of_lt (Heap.lt_size (I3.pin p hp).1)
 have loop:codeAny (model X.prog X.w) X.A (.compLoop (.ListComp elt [⟨tg,iter,ifs,0⟩] sc pos) 0 (.ref it) (.ref s2.heap.objs.size) (compEnvC sc (fR X.env.cells sc.names []) s3.heap.objs.size X.env))
   (compPost (model X.prog X.w) X.A X.xe use Q0 (.ref s2.heap.objs.size) s3.heap.objs.size) { s3 with heap:=h₁,toks:=s3.toks+([]:List (Str×Value)).length }:=by
  refine sY (fun n s'=>∃ i H',Inv (X.comp sc N s3.heap.objs.size fp s3 H3) [] (eQ js σ) H' s'/\tn i s'.heap/\(∀ b∈fp,H' b=none)/\W i n H') ?_ m0 ⟨0,H3,I4,st4,fun b hb=>(f3 b hb).1,w0⟩
  rintro n s5 ⟨i,H5,I5,st5,fr5,w5⟩
  rcases turn i n H5 w5 with ⟨stop,qn⟩ | ⟨go,Nn,hN,step⟩
  ·refine thn (T.done (X.comp sc N s3.heap.objs.size fp s3 H3) rfl rfl rfl hc i [] s5 (eQ js σ) H5 (fun _ _=>False) I5 (fpok fr5) st5 stop) fun r s6 ⟨hr,I6⟩=>?_
   subst hr
   exact fin s6 H5 I6 qn
  ·refine thn (T.item (X.comp sc N s3.heap.objs.size fp s3 H3) rfl rfl rfl hc i [] s5 (eQ js σ) H5 (fun _ _=>False) I5 (fpok fr5) st5 go) fun r s6 ⟨u,hr,h6⟩=>?_
   subst hr
   refine thn h6 fun _ s7 hz=>?_
   obtain ⟨x,H7,I7,r7,y7,st7,fr7⟩:=hz
   have I7':=I7.pinned (fpok fr7) (T.obj _ _ st7)
   refine thn (hg _ _ _ _ _ s7 _ H7 x u _ I7' r7 (step x H7 y7)) fun _ s8 ⟨σ8,H8,I8,q8⟩=>?_
   refine thn (ht _ _ _ _ _ s8 σ8 H8 _ I8 q8) fun b s9 ⟨H9,I9,q9⟩=>?_
   have again:∀ {σ':St} {H':Hp} {s':Shared},Inv (X.comp sc N s3.heap.objs.size fp s3 H3) ([]++nI fp s7.heap) σ' H' s'->Nn H'->∃ m,m < n/\∃ i H',Inv (X.comp sc N s3.heap.objs.size fp s3 H3) [] (eQ js σ) H' s'/\tn i s'.heap/\(∀ b∈fp,H' b=none)/\W i m H':=fun {σ' H' s'} I' n'=>by
    obtain ⟨m',hm,w'⟩:=hN H' n'
    refine ⟨m',hm,i+1,H',recap I',T.keep _ _ _ st7 fun b hb o e=>(I'.pin (b,o) (List.mem_append_right _ (List.mem_append_right _ (eP hb e)))).1,fun b hb=>?_,w'⟩
    obtain ⟨o,e,d⟩:=T.obj _ _ st7 b hb
    exact (I'.pin (b,o) (List.mem_append_right _ (List.mem_append_right _ (eP hb e)))).2.1
   cases b with
   | false=>exact again I9 q9
   | true=>
    refine thn (he _ _ _ _ _ s9 σ8 H9 _ I9 q9) fun u' s10 ⟨v,H10,I10,rv,ys,hacc,hz,n10⟩=>?_
    refine thn (qV (X:=X.comp sc N s3.heap.objs.size fp s3 H3) _ s10 σ8 H10 (.ref s2.heap.objs.size) [v] (.ref s2.heap.objs.size) [u'] (fun _ H'=>Nn H') I10 rfl (.cons rv .nil) ⟨_,ys,v,rfl,rfl,hacc,hz,n10⟩) fun _ s11 ⟨_,H11,I11,_,n11⟩=>?_
    exact again I11 n11
 exact codeAny_compStart_list loop (T.self X.A 0 _ _ _ st4 loop)
theorem Fb (hc:X.calm=true) (hes:X.env.scope=os) (heN:X.N=oN) (ok:iK os oN sc N js=true) (hi:PI X tg iter wi)
  (hg:∀ C fp s₀ H₀,PG (X.comp sc N C fp s₀ H₀) tg g) (ht:∀ C fp s₀ H₀,PTs (X.comp sc N C fp s₀ H₀) ifs tt) (he:∀ C fp s₀ H₀,PE (X.comp sc N C fp s₀ H₀) elt te)
  (hs:∀ x,foldedSetIterable iter X.env x=pure x:=by intro _; rfl):PE X (.ListComp elt [⟨tg,iter,ifs,0⟩] sc pos) (Ax js wi g tt te):=by
 intro pins s σ H Q I h
 rw [eval_ListComp]
 refine qZ (use:=none) hc hes heN ok hi hg ht he I h (fun acc C s6 H6 I6 o q=>?_) hs
 exact ⟨o.ns.choose,o.ns.choose_spec,fun h' hs'=>⟨.ref acc,H6,o.go I6 hs',rfl,q⟩⟩
theorem yV {i:Nat} {x:Str} {pos' spos:Pos} (hN:X.N.Nodup) (hx':X.N[i]?=some x) (hloc:X.env.scope.names.lookup x=some .local) (hc:X.calm=true) (hes:X.env.scope=os) (heN:X.N=oN) (ok:iK os oN sc N js=true) (hi:PI X tg iter wi)
  (hg:∀ C fp s₀ H₀,PG (X.comp sc N C fp s₀ H₀) tg g) (ht:∀ C fp s₀ H₀,PTs (X.comp sc N C fp s₀ H₀) ifs tt) (he:∀ C fp s₀ H₀,PE (X.comp sc N C fp s₀ H₀) elt te)
  (hsw:swapsWith (.ListComp elt [⟨tg,iter,ifs,0⟩] sc pos) (some (.Name x pos')) spos.line X.env=pure true:=by rfl)
  (hs:∀ x,foldedSetIterable iter X.env x=pure x:=by intro _; rfl):PS X (.Assign [.Name x pos'] (.ListComp elt [⟨tg,iter,ifs,0⟩] sc pos) spos) (Hc (Ax js wi g tt te) (Cm i)):=by
 intro pins s σ H D I h
 rw [exec_Assign_Name_used _ _ _ _ hsw]
 refine wpAny_bind (wpAny_standAt (wpAny_bind ?_))
 show wpAny _ X.A (do let _ <- comprehension (.ListComp elt [⟨tg,iter,ifs,0⟩] sc pos) sc X.env _ (newList []) false (eval iter X.env) (some (assign (.Name x pos') X.env))) _ _ s
 refine wpAny_bind (thn (qZ (use:=some (assign (.Name x pos') X.env)) (Q0:=fun _ s'=>SP X pins D .next s') hc hes heN ok hi hg ht he I h (fun acc C s6 H6 I6 o q=>?_) hs) fun _ s' hq=>wpAny_pure (wpAny_pure hq))
 show wpAny _ X.A (assign (.Name x pos') X.env (.ref acc)) _ _ _
 refine wpAny_assign_Name (qP I6 hN hx' (.inl hloc) (v:=.ref acc) rfl (fun s7 I7 ⟨a,hs7,ha⟩=>?_) (.inr hloc))
 have hCa:C≠a:=by
  rcases ha with rfl | ha
  ·exact o.loc
  ·exact fun e=>o.cells x a ha e.symm
 obtain ⟨m,hn⟩:=o.ns
 have o7:Off X pins H6 C s7:=⟨⟨m,hn.sameBut hs7 hCa⟩,o.none,o.loc,o.new,o.cells,o.pins⟩
 exact ⟨m,hn.sameBut hs7 hCa,fun h' hs'=>⟨_,H6,o7.go I7 hs',q⟩⟩
end
section
variable {K:PySem.W.Frag} {js:List (Option Nat)} {g:TG} {tt:TT} {te:TE} {σ:St} {H:Hp} {R:Hp->Prop} {acc a:Addr}
end
end L2
set_option Elab.async false
set_option linter.all false
set_option maxRecDepth 100000
namespace L2
open PySem PySem.Spec PyProof.Rows
section
variable {X:Cx}
def JE:V->Option Int->Option Int->Hp->VK->Prop:=fun x lo hi H Q=>∃ z,x=.str z/\z.length<=sizeLine/\Q (.str (Txt.slice z lo hi)) H
theorem part_of {v:Value} {o:Option Int} (h:IsPart v o):∃ p:Option (Int×Tok),v=partValue p/\p.map (·.1)=o:=by
 cases h with
 | none=>exact ⟨none,rfl,rfl⟩
 | int i t=>exact ⟨some (i,t),rfl,rfl⟩
theorem HB:SlR X JE:=by
 intro pins s σ H x v vl vu lo hi sl Q I rx hs pl pu h
 obtain ⟨z,rfl,hz,q⟩:=h
 obtain ⟨t,rfl⟩:=rx
 obtain ⟨l,rfl,rfl⟩:=part_of pl
 obtain ⟨u,rfl,rfl⟩:=part_of pu
 obtain ⟨o,ho,hc,hd⟩:=hs
 refine ⟨"str",_,PySem.F.slot_str_getitem.lookup,typeIs_str s z t,?_⟩
 refine wpAny_getItem_str_slice (l:=l) (u:=u) (st:=none) ⟨o,ho,hc,hd⟩ rfl ?_
 have e:sliceMade z t l u none=if ((1:Int) == 1 && (Builtin.Str.strSliceIndices (l.map (·.1)) (u.map (·.1)) 1 z.length).length == z.length)=true then Made.val (.str z t) else Made.str ⟨((Builtin.Str.strSliceIndices (l.map (·.1)) (u.map (·.1)) 1 z.length).filterMap (z.cps[·]?)).toArray⟩:=rfl
 have hle:=Txt.slice_le z (l.map (·.1)) (u.map (·.1))
 unfold Txt.slice at q hle
 rw [e]
 by_cases hc':((1:Int) == 1 && (Builtin.Str.strSliceIndices (l.map (·.1)) (u.map (·.1)) 1 z.length).length == z.length)=true
 ·rw [if_pos hc'] at q ⊢
  exact ⟨.str z,H,I,⟨t,rfl⟩,q⟩
 ·rw [if_neg hc'] at q hle ⊢
  exact ⟨Nat.le_trans hle hz,.str _,H,I.tok _,⟨_,rfl⟩,q⟩
theorem nU:∀ {ss:List Str} {us:List Value},aH (ss.map V.str) us->StrsAre us ss
 | [],_,r=>by cases r; exact .nil
 | x :: ss,_,r=>by
  cases r with
  | cons h t=>
   obtain ⟨tk,rfl⟩:=h
   exact .cons x tk (nU t)
theorem rA:∀ {us:List Value} {ss:List Str},StrsAre us ss->aH (ss.map V.str) us
 | _,_,.nil=>.nil
 | _,_,.cons x t h=>.cons ⟨t,rfl⟩ (rA h)
theorem kK:bI X (.builtin "sorted") (fun xs H Q=>∃ p ss,xs=[.ref p]/\SqL X.K H p (ss.map V.str)/\ss.length < 64/\
  ∀ l ss',H l=none->ss'.Perm ss->sortedS ss'=true->Q (.ref l) (upd H l (.lst (ss'.map V.str)))):=by
 intro pins s σ H xs us Q I r h
 obtain ⟨p,ss,rfl,hq,h64,q⟩:=h
 obtain ⟨u,rfl,ru⟩:=vals1 r
 cases ru
 obtain ⟨its,rv,pl,hz⟩:=I.list hq
 have hlen:=rv.length
 rw [List.length_map] at hlen
 refine sorted_strs pl.isList (nU rv) (by omega) fun out ss' a1 a2 a3=>?_
 obtain ⟨e,he⟩:=sortedAll_at s.heap its out
 refine ⟨.ref (s.heap.objs.size+1),_,I.laid (t':=s.toks) (o:=.lst (ss'.map V.str)) (fun b ob h=>sortedAll_old h) (Nat.le_succ _) ?_,rfl,q _ ss' (I.hok.fresh (Nat.le_succ _)) a2 a3⟩
 refine ⟨?_,out.toList,e,rA a1,by rw [he]⟩
 rw [List.length_map,a2.length_eq]
 exact Nat.le_of_lt (Nat.lt_trans h64 (by decide))
theorem gT {es:List Expr} {k:Nat} {t:TGs} {n:Nat} {pos:Pos} (K:PySem.W.Frag) (hK:X.K=K) (hc:X.calm=true) (h:PGs X es t)
  (hn:(assignEach es X.env).length=n:=by rfl) (hst:(assignEach es X.env).findIdx? (·.1)=none:=by rfl):PG X (.Tuple es k pos) (Jl K n t):=by subst hK; exact Hb hc h hn hst
end
end L2
set_option Elab.async false
set_option linter.all false
set_option maxRecDepth 100000
namespace L2
open PySem PySem.Spec PyProof.Rows
section
variable {X:Cx} {e a b:Expr} {t t' ta tb:TE} {pos:Pos}
theorem PE.imp (h:PE X e t) (i:∀ σ H Q,t' σ H Q->t σ H Q):PE X e t':=fun pins s σ H Q I q=>h pins s σ H Q I (i σ H Q q)
theorem PT.imp {t t':TT} (h:PT X e t) (i:∀ σ H Q,t' σ H Q->t σ H Q):PT X e t':=fun pins s σ H Q I q=>h pins s σ H Q I (i σ H Q q)
theorem OpR.imp {f:Value->Value->Sem Value} {r r':R2} (h:OpR X f r) (i:∀ x y H Q,r' x y H Q->r x y H Q):OpR X f r':=fun pins s σ H x y v u Q I rx ry q=>h pins s σ H x y v u Q I rx ry (i x y H Q q)
theorem bI.imp {f:Value} {r r':List V->Hp->VK->Prop} (h:bI X f r) (i:∀ xs H Q,r' xs H Q->r xs H Q):bI X f r':=fun pins s σ H xs us Q I rx q=>h pins s σ H xs us Q I rx (i xs H Q q)
def cV (i:Nat):TE:=fun σ H Q=>match yU σ i with
 | some v=>Q v H
 | none=>False
theorem cv (i:Nat) {x:Str} (hN:X.N[i]?=some x:=by rfl) (hv:Vis X.env.scope x:=by first | exact Or.inl rfl | exact Or.inr (Or.inl rfl) | exact Or.inr (Or.inr rfl)) (hd:(x == ("__debug__" : Str))=false:=by decide)
  (hcd:(x == ("__classdict__" : Str))=false:=by decide):PE X (.Name x pos) (cV i):=by
 refine (yG hN hv hd hcd).imp fun σ H Q h=>?_
 unfold cV at h
 cases e:yU σ i with
 | none=>rw [e] at h; exact h.elim
 | some v=>rw [e] at h; exact ⟨v,nT e,h⟩
def JF (K:PySem.W.Frag):R2:=fun x y H Q=>match x,y with
 | .int i,.int j=>Q (.int (i+j)) H
 | .str i,.str j=>i.length+j.length<=sizeLine/\Q (.str (i++j)) H
 | .ref _,.ref _=>Jy x y H Q\/Gw K x y H Q
 | _,_=>False
theorem Fc (K:PySem.W.Frag) (hK:X.K=K):OpR X (binaryOp .Add) (JF K):=by
 subst hK
 refine (Hi.or (yL.or (Hv.or F3))).imp fun x y H Q h=>?_
 cases x <;> cases y <;> first
  | exact .inl ⟨_,_,rfl,rfl,h⟩
  | exact .inr (.inl ⟨_,_,rfl,rfl,h.1,h.2⟩)
  | exact .inr (.inr h)
  | exact h.elim
def vJ (C:Int->Int->Prop) (f:Int->Int->Int):R2:=fun x y H Q=>match x,y with
 | .int i,.int j=>C i j/\Q (.int (f i j)) H
 | _,_=>False
theorem sZ {f:Value->Value->Sem Value} {C:Int->Int->Prop} {g:Int->Int->Int} (h:OpR X f (rI C fun i j=>.int (g i j))):OpR X f (vJ C g):=
 h.imp fun x y H Q q=>by cases x <;> cases y <;> first | exact ⟨_,_,rfl,rfl,q.1,q.2⟩ | exact q.elim
theorem Fe:OpR X (binaryOp .Mult) (vJ vB fun i j=>i*j):=sZ Hj
theorem Ff:OpR X (binaryOp .FloorDiv) (vJ Cp fun i j=>i / j):=sZ EX
theorem Fg:OpR X (binaryOp .Mod) (vJ (fun _ j=>0 < j) fun i j=>i % j):=sZ Hk
def vK (f:Int->Int->Bool) (g:List Nat->List Nat->Bool):R2:=fun x y H Q=>match x,y with
 | .int i,.int j=>Q (.bl (f i j)) H
 | .str i,.str j=>Q (.bl (g i.cps.toList j.cps.toList)) H
 | _,_=>False
theorem tB {f:Value->Value->Sem Value} {p:Int->Int->Bool} {g:List Nat->List Nat->Bool} (h1:OpR X f (rI0 fun i j=>.bl (p i j)))
  (h2:OpR X f (fun x y H Q=>∃ i j,x=.str i/\y=.str j/\Q (.bl (g i.cps.toList j.cps.toList)) H)):OpR X f (vK p g):=
 (h1.or h2).imp fun x y H Q q=>by cases x <;> cases y <;> first | exact .inl ⟨_,_,rfl,rfl,q⟩ | exact .inr ⟨_,_,rfl,rfl,q⟩ | exact q.elim
theorem HC:OpR X (compareOp .Lt) (vK (fun i j=>decide (i < j)) fun i j=>decide (i < j)):=tB Jo Be
theorem HE:OpR X (compareOp .LtE) (vK (fun i j=>decide (i<=j)) fun i j=>!decide (j < i)):=tB Jp fun pins s σ H x y v u Q I rx ry h=>by
 obtain ⟨i,j,rfl,rfl,q⟩:=h
 obtain ⟨t,rfl⟩:=rx
 obtain ⟨t',rfl⟩:=ry
 exact PySem.P.le_str (yJ I q rfl)
theorem HF:OpR X (compareOp .GtE) (vK (fun i j=>decide (j<=i)) fun i j=>!decide (i < j)):=tB Jq fun pins s σ H x y v u Q I rx ry h=>by
 obtain ⟨i,j,rfl,rfl,q⟩:=h
 obtain ⟨t,rfl⟩:=rx
 obtain ⟨t',rfl⟩:=ry
 exact PySem.P.ge_str (yJ I q rfl)
end
structure MH (t:TE):Prop where
 go:∀ σ H (Q Q':VK),(∀ v H1,Q v H1->Q' v H1)->t σ H Q->t σ H Q'
section
variable {X:Cx} {e a b:Expr} {t t' ta tb:TE} {pos:Pos}
theorem Fh (hu:X.A.units+1 < cLine):IxR X (fun x y H Q=>∃ p v,x=.ref p/\qE H p y (some v)/\Q v H):=by
 intro value slice pins s σ H x y v u Q I rx ry h hs
 obtain ⟨p,w,rfl,g,q⟩:=h
 cases rx
 have hT:=vI I g
 unfold subscriptTail
 refine wpAny_bind ?_
 rw [getitemInPython_of_ne hT.not_modules]
 refine wpAny_bind (wpAny_specialOf hT PySem.F.slot_dict_getitem.lookup ?_)
 have fin:wpAny (model X.prog X.w) X.A (subscripted slice false (.ref p) u) (fun r s₃=>wpAny (model X.prog X.w) X.A (letTemporaryGo value (.ref p) r >>= fun _=>pure r) (EP X pins σ Q) X.xe s₃) X.xe s:=by
  rw [hs]
  exact wpAny_operating (Bk hu I g ry fun w' s3 I3 rw'=>wpAny_bind (wpAny_letTemporaryGo (wpAny_pure ⟨w,H,I3,rw',q⟩)))
 first
  | exact wpAny_pure (wpAny_bind fin)
  | exact wpAny_bind (wpAny_pure (wpAny_bind fin))
  | exact wpAny_bind fin
def JG (K:PySem.W.Frag):R2:=fun x y H Q=>match x with
 | .str z=>(match y with
  | .int i=>z.length<=sizeLine/\∃ c,atI z.cps.toList i=some c/\Q (.str ⟨#[c]⟩) H
  | _=>False)
 | .ref p=>(∃ xs i v,y=.int i/\(SqL K H p xs\/SqT K H p xs)/\atI xs i=some v/\Q v H)\/∃ v,qE H p y (some v)/\Q v H
 | _=>False
theorem IxR.imp {r r':R2} (h:IxR X r) (i:∀ x y H Q,r' x y H Q->r x y H Q):IxR X r':=fun a b pins s σ H x y v u Q I rx ry q hs=>h a b pins s σ H x y v u Q I rx ry (i x y H Q q) hs
theorem ixC (hu:X.A.units+1 < cLine) (K:PySem.W.Frag) (hK:X.K=K):IxR X (JG K):=by
 subst hK
 refine (F4.or (Hs.or (Ht.or (Fh hu)))).imp fun x y H Q h=>?_
 cases x with
 | str z=>
  cases y with
  | int i=>obtain ⟨h1,c,h2,h3⟩:=h; exact .inr (.inr (.inl ⟨z,i,c,rfl,rfl,h1,h2,h3⟩))
  | _=>exact h.elim
 | ref p=>
  rcases h with ⟨xs,i,v,rfl,hs | hs,ha,hq⟩ | ⟨v,g,hq⟩
  ·exact .inl ⟨p,xs,i,v,rfl,rfl,hs,ha,hq⟩
  ·exact .inr (.inl ⟨p,xs,i,v,rfl,rfl,hs,ha,hq⟩)
  ·exact .inr (.inr (.inr ⟨p,v,rfl,g,hq⟩))
 | _=>exact h.elim
def JH (K:PySem.W.Frag):List V->Hp->VK->Prop:=fun xs H Q=>match xs with
 | [.str y]=>y.length<=sizeLine/\Q (.int y.length) H
 | [.ref p]=>(∃ xs,(SqL K H p xs\/SqT K H p xs)/\Q (.int xs.length) H)\/∃ kvs,H p=some (.dK kvs)/\Q (.int kvs.length) H
 | _=>False
theorem Bo (K:PySem.W.Frag) (hK:X.K=K):bI X (.builtin "len") (JH K):=by
 subst hK
 intro pins s σ H xs us Q I r h
 match xs,h with
 | [.str y],h=>exact Ct pins s σ H _ us Q I r ⟨_,_,rfl,⟨h.1,rfl⟩,h.2⟩
 | [.ref p],h=>
  rcases h with ⟨ys,hs,q⟩ | ⟨kvs,hs,q⟩
  ·exact sV pins s σ H _ us Q I r ⟨p,ys,rfl,hs,q⟩
  ·exact Bm pins s σ H _ us Q I r ⟨p,kvs,rfl,hs,q⟩
def JI:List V->Hp->VK->Prop:=fun xs H Q=>match xs with
 | [.int i,.int j]=>Q (.int (if j > i then j else i)) H
 | _=>False
theorem Bp (hc:X.calm=true):bI X (.builtin "max") JI:=(Bf hc).imp fun xs H Q h=>by
 match xs,h with
 | [.int i,.int j],h=>exact ⟨i,j,rfl,h⟩
theorem yW (K:PySem.W.Frag) (hK:X.K=K):bI X (.type "list") (fun xs H Q=>∃ p ys,xs=[.ref p]/\(SqL K H p ys\/SqT K H p ys)/\∀ l,H l=none->Q (.ref l) (upd H l (.lst ys))):=by subst hK; exact sW
theorem vL (K:PySem.W.Frag) (hK:X.K=K):bI X (.type "tuple") (fun xs H Q=>∃ p ys,xs=[.ref p]/\((SqL K H p ys/\∀ l,H l=none->Q (.ref l) (upd H l (.tup ys)))\/(SqT K H p ys/\Q (.ref p) H))):=by subst hK; exact qD
def JJ (ta:TA):TI:=fun σ H R=>ta σ H fun vs H1=>match vs with
 | [.int j]=>(-(2 ^ 62)<=j/\j < 2 ^ 62)/\R (Itr 0 j.toNat) H1
 | _=>False
theorem Fi {vs:List V} {Q:Int->Prop} (h:match vs with | [.int i]=>Q i | _=>False):∃ i,vs=[.int i]/\Q i:=by
 split at h
 · exact ⟨_,rfl,h⟩
 · exact h.elim
theorem pr1 {x:Expr} {ta:TA} {tg:Expr} {p pos:Pos} (hg:Gl X "range") (hm:X.mg "range" = none) (ha:PA X [x] ta) (hs:starEach [x] X.env=[(false,eval x X.env)]:=by rfl):PI X tg (.Call (.Name "range" p) [x] [] pos) (JJ ta):=by
 intro pins s σ H R I h
 refine Call_ (kI I hg hm boot_range (PyProof.Rows.callWith_type1 (thn (ha pos pins s σ H _ I h) fun us s1 hz=>?_) hs rfl))
 obtain ⟨vs,H1,I1,r1,q1⟩:=hz
 obtain ⟨j,rfl,⟨h1,h2⟩,q⟩:=Fi q1
 obtain ⟨u,rfl,t,rfl⟩:=vals1 r1
 exact call_range_1 (Co I1 (by omega) (by omega) h1 h2 (by simpa using q))
def JK (t:TE):TO:=fun σ H Q=>t σ H fun x H1=>match x with
 | .int i=>Q (some i) H1
 | _=>False
theorem CF {x:Expr} {te:TE} (h:PE X x te):PO X (some x) (JK te):=by
 intro pins s σ H Q I hw
 rw [evalPart_some]
 refine thn (h pins s σ H _ I hw) fun u s1 hz=>?_
 obtain ⟨x,H1,I1,r1,q1⟩:=hz
 cases x with
 | int i=>
  obtain ⟨t,rfl⟩:=r1
  exact ⟨some i,H1,I1,.int i t,q1⟩
 | _=>exact q1.elim
end
end L2
namespace L2
open PySem PySem.Spec PyProof.Rows
structure Def (K:PySem.W.Frag) (mg:Str->Option Value) (x:Str) (st:Stmt) (f:Addr) (fd:FuncData) (ps:List Str):Prop where
 fn:Fun K x x st f fd
 mg:mg x=some (.ref f)
 bd:Binds K fd ps []
section
variable {X:Cx}
theorem JL {x:Str} {st:Stmt} {f:Addr} {fd:FuncData} {ps:List Str} {k:Nat} {sp:Sp} {e:Expr} {es:List Expr} {t:TA} {p pos:Pos} (D:Def X.K X.mg x st f fd ps) (G:aZ X.prog X.w X.K X.mg X.base CX0 k f fd ps sp) (hr:dC k X.A) (ha:PA X (e :: es) t)
  (hg:Gl X x:=by rfl) (hdb:(x == ("__debug__" : Str))=false:=by decide) (he:starEach (e :: es) X.env=(false,eval e X.env) :: starEach es X.env:=by rfl) (hpl:(backTo pos (starEach es X.env)).any (·.1)=false:=by rfl):
  PE X (.Call (.Name x p) (e :: es) [] pos) (Gv sp [] E0 t):=F0 G hr hg D.mg D.fn.kp D.bd .nil Jz ha hdb he hpl
end
theorem nV {α:Type} {xs:List α} {i:Nat} {v:α} (h:xs[i]?=some v):atI xs (i:Int)=some v:=by
 have h1:=(List.getElem?_eq_some_iff.mp h).1
 unfold atI ixN
 rw [if_pos (by omega),if_pos (by omega)]
 simpa using h
theorem vF.upd {H:Hp} {a:Addr} {o:HO} (h:H a=none):vF H (upd H a o):=fun b u e=>by
 rw [aE (bR e h)]; exact e
theorem Def.mk' {K:PySem.W.Frag} {mg:Str->Option Value} {h:Heap} {x:Str} {st:Stmt} {f:Addr} {ps:List Str} {oc:Value} {od an:Option Addr} {osl:Array (Option Value)} {kV doc pm cdv ct:Value} (X:K.In h) (G:h.Ns mainGlobals mg)
  (a:PySem.W.nsIn K mainGlobals x=some (some (.ref f))) (l:K.lookup f=some ⟨oc,od,.func (PySem.W.fnOf x x (bC st) (aU st) (aF st) .none kV doc pm an cdv ct),osl⟩)
  (c:PySem.W.codeIn K cdv x=true) (k:PySem.W.keepIn K (.ref f)=true)
  (b:∀ (kV doc pm:Value) (an:Option Addr) (cdv ct:Value) (us:List Value),us.length=ps.length->bindArgs (PySem.W.fnOf x x (bC st) (aU st) (aF st) .none kV doc pm an cdv ct) ⟨us,[]⟩=pure (ps.zip us)):
  Def K mg x st f (PySem.W.fnOf x x (bC st) (aU st) (aF st) .none kV doc pm an cdv ct) ps:=
 ⟨yS l c k,PySem.W.mg_of X G a,(yS (st:=st) l c k).binds b⟩
end L2
set_option Elab.async false
set_option linter.all false
set_option maxRecDepth 100000
namespace L2
open PySem PySem.Spec PyProof.Rows PySem.SeqAt
inductive D where
 | non | bl (b:Bool) | int (i:Int) | str (x:Str) | tup (xs:List D)
mutual
def D.depth:D->Nat
 | .tup xs=>D.depths xs+1
 | _=>0
def D.depths:List D->Nat
 | []=>0
 | x :: xs=>max (D.depth x) (D.depths xs)
end
theorem D.depths_le:∀ {xs:List D} {i:Nat} {d:D},xs[i]?=some d->d.depth<=D.depths xs
 | [],_,_,h=>by simp at h
 | x :: xs,0,d,h=>by
  have:x=d:=by simpa using h
  subst this
  show x.depth<=max x.depth (D.depths xs)
  omega
 | x :: xs,i+1,d,h=>by
  have:=D.depths_le (xs:=xs) (i:=i) (d:=d) (by simpa using h)
  show d.depth<=max x.depth (D.depths xs)
  omega
mutual
/-- the value x is the datum,in the heap H -/
def Rep (K:PySem.W.Frag) (H:Hp):D->V->Prop
 | .non,v=>v=.non
 | .bl b,v=>v=.bl b
 | .int i,v=>v=.int i
 | .str x,v=>v=.str x
 | .tup ds,v=>∃ a vs,v=.ref a/\SqT K H a vs/\bW K H ds vs
def bW (K:PySem.W.Frag) (H:Hp):List D->List V->Prop
 | [],[]=>True
 | d :: ds,v :: vs=>Rep K H d v/\bW K H ds vs
 | [],_ :: _=>False
 | _ :: _,[]=>False
end
mutual
/-- == -/
def eqD:D->D->Bool
 | .non,.non=>true
 | .bl a,.bl b=>a == b
 | .bl a,.int b=>(if a then 1 else 0) == b
 | .int a,.bl b=>a == (if b then 1 else 0)
 | .int a,.int b=>a == b
 | .str a,.str b=>a == b
 | .tup xs,.tup ys=>cY xs ys
 | _,_=>false
def cY:List D->List D->Bool
 | [],[]=>true
 | x :: xs,y :: ys=>eqD x y && cY xs ys
 | [],_ :: _=>false
 | _ :: _,[]=>false
end
mutual
/-- < (none: an error) -/
def ltD:D->D->Option Bool
 | .int a,.int b=>some (decide (a < b))
 | .str a,.str b=>some (decide (a.cps.toList < b.cps.toList))
 | .tup xs,.tup ys=>jC xs ys
 | _,_=>none
def jC:List D->List D->Option Bool
 | [],[]=>some false
 | [],_ :: _=>some true
 | _ :: _,[]=>some false
 | x :: xs,y :: ys=>if eqD x y=true then jC xs ys else ltD x y
end
mutual
theorem nW:∀ d:D,eqD d d=true
 | .non=>rfl
 | .bl b=>by simp [eqD]
 | .int i=>by simp [eqD]
 | .str x=>by simp [eqD]
 | .tup xs=>by simp only [eqD]; exact rB xs
theorem rB:∀ ds:List D,cY ds ds=true
 | []=>rfl
 | d :: ds=>by simp only [cY,nW d,rB ds,Bool.and_self]
end
def eR (H H':Hp):Prop:=∀ a xs,Rd H a (.tup xs)->Rd H' a (.tup xs)
theorem eR.refl (H:Hp):eR H H:=fun _ _ h=>h
theorem eR.trans {H H1 H2:Hp} (a:eR H H1) (b:eR H1 H2):eR H H2:=fun c xs h=>b c xs (a c xs h)
theorem eR.same {H H':Hp} (s:vF H H'):eR H H':=fun a xs h=>by
 rcases h with h | ⟨o,h⟩
 ·exact .inl (s _ _ h)
 ·exact .inr ⟨o,s _ _ h⟩
def lQ:Option HO->Prop
 | some (.tup _)=>False
 | some (.frz _ _)=>False
 | _=>True
theorem eR.upd {H:Hp} {p:Addr} {o:HO} (h:lQ (H p)):eR H (upd H p o):=fun a xs q=>by
 have ne:a≠p:=by
  rintro rfl
  rcases q with q | ⟨ob,q⟩
  ·rw [q] at h; exact h
  ·rw [q] at h; exact h
 rcases q with q | ⟨ob,q⟩
 ·exact .inl (by rw [aE ne]; exact q)
 ·exact .inr ⟨ob,by rw [aE ne]; exact q⟩
theorem eR.sq {K:PySem.W.Frag} {H H':Hp} {a:Addr} {xs:List V} (t:eR H H') (h:SqT K H a xs):SqT K H' a xs:=by
 rcases h with h | h
 ·exact .inl (t a xs h)
 ·exact .inr h
section
variable {K:PySem.W.Frag} {H H':Hp}
mutual
theorem Rep.tp (t:eR H H'):∀ {d:D} {v:V},Rep K H d v->Rep K H' d v
 | .non,_,h=>h
 | .bl _,_,h=>h
 | .int _,_,h=>h
 | .str _,_,h=>h
 | .tup ds,_,⟨a,vs,e,q,r⟩=>⟨a,vs,e,t.sq q,bW.tp t r⟩
theorem bW.tp (t:eR H H'):∀ {ds:List D} {vs:List V},bW K H ds vs->bW K H' ds vs
 | [],[],_=>trivial
 | _ :: _,_ :: _,⟨h,r⟩=>⟨Rep.tp t h,bW.tp t r⟩
 | [],_ :: _,h=>h.elim
 | _ :: _,[],h=>h.elim
end
theorem bW.length:∀ {ds:List D} {vs:List V},bW K H ds vs->ds.length=vs.length
 | [],[],_=>rfl
 | _ :: _,_ :: _,⟨_,r⟩=>by simp [bW.length r]
 | [],_ :: _,h=>h.elim
 | _ :: _,[],h=>h.elim
theorem bW.get:∀ {ds:List D} {vs:List V} {i:Nat} {v:V},bW K H ds vs->vs[i]?=some v->∃ d,ds[i]?=some d/\Rep K H d v
 | [],[],_,_,_,e=>by simp at e
 | d :: _,w :: _,0,v,⟨h,_⟩,e=>by
  have:w=v:=by simpa using e
  subst this
  exact ⟨d,rfl,h⟩
 | _ :: ds,_ :: vs,i+1,v,⟨_,r⟩,e=>by
  obtain ⟨d,h1,h2⟩:=bW.get (ds:=ds) (vs:=vs) (i:=i) (v:=v) r (by simpa using e)
  exact ⟨d,by simpa using h1,h2⟩
 | [],_ :: _,_,_,h,_=>h.elim
 | _ :: _,[],_,_,h,_=>h.elim
theorem bW.at:∀ {ds:List D} {vs:List V} {i:Nat} {d:D},bW K H ds vs->ds[i]?=some d->∃ v,vs[i]?=some v/\Rep K H d v
 | [],[],_,_,_,e=>by simp at e
 | d :: _,w :: _,0,d',⟨h,_⟩,e=>by
  have:d=d':=by simpa using e
  subst this
  exact ⟨w,rfl,h⟩
 | _ :: ds,_ :: vs,i+1,d,⟨_,r⟩,e=>by
  obtain ⟨v,h1,h2⟩:=bW.at (ds:=ds) (vs:=vs) (i:=i) (d:=d) r (by simpa using e)
  exact ⟨v,by simpa using h1,h2⟩
 | [],_ :: _,_,_,h,_=>h.elim
 | _ :: _,[],_,_,h,_=>h.elim
end
section
variable {X:Cx} {pins:List (Addr×Obj)} {σ:St} {H:Hp} {s:Shared}
theorem eT {A:Around} {s:Shared} {v u:Value} {b:Bool} (h:RcAt A s v u b) (hs:v=u->b=true) (hf:∀ f t,v≠.float f t):EqAt A s v u b:=fun prog w E Q hq=>by
 unfold eqBool
 refine wpAny_holding ?_
 refine wpAny_ite_split (fun hab=>?_) (fun _=>?_)
 ·have e:=hs (eq_of_beq hab)
  subst e
  exact wpAny_bind (wpAny_rule (wpAny_pure hq))
 ·cases v <;> first | exact absurd rfl (hf _ _) | exact wpAny_bind (h prog w E _ (wpAny_truthy_bool hq)) | (cases u <;> exact wpAny_bind (h prog w E _ (wpAny_truthy_bool hq)))
theorem rC {K:PySem.W.Frag} {H:Hp} {d:D} {x:V} {v:Value} (h:Rep K H d x) (r:RelV x v):∀ f t,v≠.float f t:=fun f t e=>by
 subst e
 cases d with
 | non=>cases h; cases r
 | bl b=>cases h; cases r
 | int b=>cases h; obtain ⟨_,z⟩:=r; cases z
 | str b=>cases h; obtain ⟨_,z⟩:=r; cases z
 | tup ds=>obtain ⟨_,_,rfl,_⟩:=h; cases r
theorem tE (I:Inv X pins σ H s):∀ (n:Nat) (d e:D) (v:V),d.depth<=n->Rep X.K H d v->Rep X.K H e v->d=e
 | n,.non,e,v,_,h,h'=>by
  cases h
  cases e <;> first | (obtain ⟨_,_,z,_⟩:=h'; exact absurd z (by intro q; cases q)) | rfl | exact absurd h' (by intro z; cases z)
 | n,.bl b,e,v,_,h,h'=>by
  cases h
  cases e <;> first | (obtain ⟨_,_,z,_⟩:=h'; exact absurd z (by intro q; cases q)) | (cases h'; rfl) | exact absurd h' (by intro z; cases z)
 | n,.int i,e,v,_,h,h'=>by
  cases h
  cases e <;> first | (obtain ⟨_,_,z,_⟩:=h'; exact absurd z (by intro q; cases q)) | (cases h'; rfl) | exact absurd h' (by intro z; cases z)
 | n,.str x,e,v,_,h,h'=>by
  cases h
  cases e <;> first | (obtain ⟨_,_,z,_⟩:=h'; exact absurd z (by intro q; cases q)) | (cases h'; rfl) | exact absurd h' (by intro z; cases z)
 | 0,.tup ds,e,v,hd,h,h'=>absurd hd (by show ¬ D.depths ds+1<=0; omega)
 | n+1,.tup ds,e,v,hd,h,h'=>by
  obtain ⟨a,vs,rfl,q,r⟩:=h
  cases e with
  | tup es=>
   obtain ⟨a',vs',ea,q',r'⟩:=h'
   cases ea
   have:=I.tuple_inj q q'
   subst this
   have hd':D.depths ds+1<=n+1:=hd
   have:ds=es:=by
    apply List.ext_getElem?
    intro i
    cases hi:ds[i]? with
    | none=>
     have h1:=r.length
     have h2:=r'.length
     have:ds.length<=i:=List.getElem?_eq_none_iff.mp hi
     exact (List.getElem?_eq_none_iff.mpr (by omega)).symm
    | some d=>
     obtain ⟨v,hv,hr⟩:=r.at hi
     obtain ⟨e,he,hr'⟩:=r'.get hv
     rw [he,tE I n d e v (by have:=D.depths_le hi; omega) hr hr']
   rw [this]
  | _=>cases h'
theorem jD {xs ys:List D}:((List.range (min xs.length ys.length)).all (fun j=>match xs[j]?,ys[j]? with | some x,some y=>eqD x y | _,_=>false) && xs.length == ys.length)=cY xs ys:=by
 induction xs generalizing ys with
 | nil=>
  cases ys with
  | nil=>rfl
  | cons y ys=>simp [cY]
 | cons x xs ih=>
  cases ys with
  | nil=>simp [cY]
  | cons y ys=>
   have:=ih (ys:=ys)
   have e:min (x :: xs).length (y :: ys).length=min xs.length ys.length+1:=by simp only [List.length_cons]; omega
   rw [e,List.range_succ_eq_map,List.all_cons,List.all_map]
   simp only [List.getElem?_cons_zero,Function.comp_def,List.getElem?_cons_succ,List.length_cons,cY]
   rw [<- this]
   have e2:(xs.length+1 == ys.length+1)=(xs.length == ys.length):=by simp
   rw [e2,Bool.and_assoc]
theorem JM (I:Inv X pins σ H s):∀ (n:Nat) (d e:D) (A:Around) (x y:V) (v u:Value),d.depth<=n->A.units+n < cLine->Rep X.K H d x->Rep X.K H e y->RelV x v->RelV y u->RcAt A s v u (eqD d e):=by
 intro n
 induction n with
 | zero=>
  intro d e A x y v u hd hu hx hy rx ry
  cases d with
  | tup ds=>exact absurd hd (by show ¬ D.depths ds+1<=0; omega)
  | non=>
   cases hx; cases rx
   cases e with
   | non=>cases hy; cases ry; exact RcAt.none_none
   | bl b=>cases hy; cases ry; exact RcAt.none_bool b
   | int b=>cases hy; obtain ⟨t,rfl⟩:=ry; exact RcAt.none_int b t
   | str b=>cases hy; obtain ⟨t,rfl⟩:=ry; exact RcAt.none_str b t
   | tup es=>obtain ⟨a,vs,rfl,q,r⟩:=hy; cases ry; obtain ⟨its,_,p,_⟩:=I.tuple q; exact RcAt.none_tuple p (by omega)
  | bl a=>
   cases hx; cases rx
   cases e with
   | non=>cases hy; cases ry; exact RcAt.bool_none a
   | bl b=>cases hy; cases ry; exact RcAt.bool_bool a b
   | int b=>cases hy; obtain ⟨t,rfl⟩:=ry; exact RcAt.bool_int a b t
   | str b=>cases hy; obtain ⟨t,rfl⟩:=ry; exact RcAt.bool_str a b t
   | tup es=>obtain ⟨a',vs,rfl,q,r⟩:=hy; cases ry; obtain ⟨its,_,p,_⟩:=I.tuple q; exact RcAt.bool_tuple a p (by omega)
  | int a=>
   cases hx; obtain ⟨t',rfl⟩:=rx
   cases e with
   | non=>cases hy; cases ry; exact RcAt.int_none a t'
   | bl b=>cases hy; cases ry; exact RcAt.int_bool a t' b
   | int b=>cases hy; obtain ⟨t,rfl⟩:=ry; exact RcAt.int_int a t' b t
   | str b=>cases hy; obtain ⟨t,rfl⟩:=ry; exact RcAt.int_str a t' b t
   | tup es=>obtain ⟨a',vs,rfl,q,r⟩:=hy; cases ry; obtain ⟨its,_,p,_⟩:=I.tuple q; exact RcAt.int_tuple a t' p (by omega)
  | str a=>
   cases hx; obtain ⟨t',rfl⟩:=rx
   cases e with
   | non=>cases hy; cases ry; exact RcAt.str_none a t'
   | bl b=>cases hy; cases ry; exact RcAt.str_bool a t' b
   | int b=>cases hy; obtain ⟨t,rfl⟩:=ry; exact RcAt.str_int a t' b t
   | str b=>cases hy; obtain ⟨t,rfl⟩:=ry; exact RcAt.str_str a t' b t
   | tup es=>obtain ⟨a',vs,rfl,q,r⟩:=hy; cases ry; obtain ⟨its,_,p,_⟩:=I.tuple q; exact RcAt.str_tuple a t' p (by omega)
 | succ n ih=>
  intro d e A x y v u hd hu hx hy rx ry
  by_cases h0:d.depth<=n
  ·exact ih d e A x y v u h0 (by omega) hx hy rx ry
  ·cases d with
   | non=>exact absurd (show D.depth .non<=n from Nat.zero_le n) h0
   | bl b=>exact absurd (show D.depth (.bl b)<=n from Nat.zero_le n) h0
   | int b=>exact absurd (show D.depth (.int b)<=n from Nat.zero_le n) h0
   | str b=>exact absurd (show D.depth (.str b)<=n from Nat.zero_le n) h0
   | tup ds=>
    have hds:D.depths ds<=n:=by have:D.depths ds+1<=n+1:=hd; omega
    obtain ⟨a,vs,rfl,q,r⟩:=hx
    cases rx
    obtain ⟨its,rv,p,_⟩:=I.tuple q
    cases e with
    | non=>cases hy; cases ry; exact RcAt.tuple_none p (by omega)
    | bl b=>cases hy; cases ry; exact RcAt.tuple_bool b p (by omega)
    | int b=>cases hy; obtain ⟨t,rfl⟩:=ry; exact RcAt.tuple_int b t p (by omega)
    | str b=>cases hy; obtain ⟨t,rfl⟩:=ry; exact RcAt.tuple_str b t p (by omega)
    | tup es=>
     obtain ⟨a',vs',rfl,q',r'⟩:=hy
     cases ry
     obtain ⟨its',rv',p',_⟩:=I.tuple q'
     have l1:=r.length
     have l2:=r'.length
     have l3:=rv.length
     have l4:=rv'.length
     have key:=RcAt.tuples (A:=A) (e:=fun j=>match ds[j]?,es[j]? with | some x,some y=>eqD x y | _,_=>false) p p' (by omega) (fun j h1 h2=>by
      have h1':j < ds.length:=by simp at h1; omega
      have h2':j < es.length:=by simp at h2; omega
      have g1:ds[j]?=some ds[j]:=by simp [h1']
      have g2:es[j]?=some es[j]:=by simp [h2']
      obtain ⟨xv,hxv,hrx⟩:=r.at g1
      obtain ⟨yv,hyv,hry⟩:=r'.at g2
      obtain ⟨xu,hxu,hru⟩:=rv.get hxv
      obtain ⟨yu,hyu,hru'⟩:=rv'.get hyv
      have e1:its.toArray[j]=xu:=by
       have:its[j]?=some xu:=hxu
       simpa using (List.getElem?_eq_some_iff.mp this).2
      have e2:its'.toArray[j]=yu:=by
       have:its'[j]?=some yu:=hyu
       simpa using (List.getElem?_eq_some_iff.mp this).2
      rw [e1,e2]
      simp only [g1,g2]
      have hdj:=D.depths_le g1
      refine eT (ih ds[j] es[j] A.in1 xv yv xu yu (by omega) (by show A.units+1+n < cLine; omega) hrx hry hru hru') (fun ev=>by
      subst ev
      have exy:xv=yv:=RelV.inj hru hru'
      subst exy
      rw [tE I n ds[j] es[j] xv (by omega) hrx hry]
      exact nW _) (rC hrx hru))
     have sz:((List.range (min its.toArray.size its'.toArray.size)).all (fun j=>match ds[j]?,es[j]? with | some x,some y=>eqD x y | _,_=>false) && its.toArray.size == its'.toArray.size)=eqD (.tup ds) (.tup es):=by
      have a1:its.toArray.size=ds.length:=by simp; omega
      have a2:its'.toArray.size=es.length:=by simp; omega
      rw [a1,a2]
      simp only [eqD]
      exact jD
     rw [<- sz]
     exact key
theorem HG (I:Inv X pins σ H s) {n:Nat} {d e:D} {A:Around} {x y:V} {v u:Value} (hd:d.depth<=n) (hu:A.units+n < cLine) (hx:Rep X.K H d x) (hy:Rep X.K H e y) (rx:RelV x v) (ry:RelV y u):EqAt A s v u (eqD d e):=
 eT (JM I n d e A x y v u hd hu hx hy rx ry) (fun ev=>by
  subst ev
  have exy:x=y:=RelV.inj rx ry
  subst exy
  rw [tE I n d e x hd hx hy]
  exact nW _) (rC hx rx)
theorem HI (I:Inv X pins σ H s):∀ (n:Nat) (d e:D) (A:Around) (x y:V) (v u:Value),d.depth<=n->A.units+n < cLine->Rep X.K H d x->Rep X.K H e y->RelV x v->RelV y u->RcNeAt A s v u (!eqD d e):=by
 intro n
 induction n with
 | zero=>
  intro d e A x y v u hd hu hx hy rx ry
  cases d with
  | tup ds=>exact absurd hd (by show ¬ D.depths ds+1<=0; omega)
  | non=>
   cases hx; cases rx
   cases e with
   | non=>cases hy; cases ry; exact RcNeAt.none_none
   | bl b=>cases hy; cases ry; exact RcNeAt.none_bool b
   | int b=>cases hy; obtain ⟨t,rfl⟩:=ry; exact RcNeAt.none_int b t
   | str b=>cases hy; obtain ⟨t,rfl⟩:=ry; exact RcNeAt.none_str b t
   | tup es=>obtain ⟨a,vs,rfl,q,r⟩:=hy; cases ry; obtain ⟨its,_,p,_⟩:=I.tuple q; exact RcNeAt.none_tuple p (by omega)
  | bl a=>
   cases hx; cases rx
   cases e with
   | non=>cases hy; cases ry; exact RcNeAt.bool_none a
   | bl b=>cases hy; cases ry; exact RcNeAt.bool_bool a b
   | int b=>cases hy; obtain ⟨t,rfl⟩:=ry; exact RcNeAt.bool_int a b t
   | str b=>cases hy; obtain ⟨t,rfl⟩:=ry; exact RcNeAt.bool_str a b t
   | tup es=>obtain ⟨a',vs,rfl,q,r⟩:=hy; cases ry; obtain ⟨its,_,p,_⟩:=I.tuple q; exact RcNeAt.bool_tuple a p (by omega)
  | int a=>
   cases hx; obtain ⟨t',rfl⟩:=rx
   cases e with
   | non=>cases hy; cases ry; exact RcNeAt.int_none a t'
   | bl b=>cases hy; cases ry; exact RcNeAt.int_bool a t' b
   | int b=>cases hy; obtain ⟨t,rfl⟩:=ry; exact RcNeAt.int_int a t' b t
   | str b=>cases hy; obtain ⟨t,rfl⟩:=ry; exact RcNeAt.int_str a t' b t
   | tup es=>obtain ⟨a',vs,rfl,q,r⟩:=hy; cases ry; obtain ⟨its,_,p,_⟩:=I.tuple q; exact RcNeAt.int_tuple a t' p (by omega)
  | str a=>
   cases hx; obtain ⟨t',rfl⟩:=rx
   cases e with
   | non=>cases hy; cases ry; exact RcNeAt.str_none a t'
   | bl b=>cases hy; cases ry; exact RcNeAt.str_bool a t' b
   | int b=>cases hy; obtain ⟨t,rfl⟩:=ry; exact RcNeAt.str_int a t' b t
   | str b=>cases hy; obtain ⟨t,rfl⟩:=ry; exact RcNeAt.str_str a t' b t
   | tup es=>obtain ⟨a',vs,rfl,q,r⟩:=hy; cases ry; obtain ⟨its,_,p,_⟩:=I.tuple q; exact RcNeAt.str_tuple a t' p (by omega)
 | succ n ih=>
  intro d e A x y v u hd hu hx hy rx ry
  by_cases h0:d.depth<=n
  ·exact ih d e A x y v u h0 (by omega) hx hy rx ry
  ·cases d with
   | non=>exact absurd (show D.depth .non<=n from Nat.zero_le n) h0
   | bl b=>exact absurd (show D.depth (.bl b)<=n from Nat.zero_le n) h0
   | int b=>exact absurd (show D.depth (.int b)<=n from Nat.zero_le n) h0
   | str b=>exact absurd (show D.depth (.str b)<=n from Nat.zero_le n) h0
   | tup ds=>
    have hds:D.depths ds<=n:=by have:D.depths ds+1<=n+1:=hd; omega
    obtain ⟨a,vs,rfl,q,r⟩:=hx
    cases rx
    obtain ⟨its,rv,p,_⟩:=I.tuple q
    cases e with
    | non=>cases hy; cases ry; exact RcNeAt.tuple_none p (by omega)
    | bl b=>cases hy; cases ry; exact RcNeAt.tuple_bool b p (by omega)
    | int b=>cases hy; obtain ⟨t,rfl⟩:=ry; exact RcNeAt.tuple_int b t p (by omega)
    | str b=>cases hy; obtain ⟨t,rfl⟩:=ry; exact RcNeAt.tuple_str b t p (by omega)
    | tup es=>
     obtain ⟨a',vs',rfl,q',r'⟩:=hy
     cases ry
     obtain ⟨its',rv',p',_⟩:=I.tuple q'
     have l1:=r.length
     have l2:=r'.length
     have l3:=rv.length
     have l4:=rv'.length
     have key:=RcNeAt.tuples (A:=A) (e:=fun j=>match ds[j]?,es[j]? with | some x,some y=>eqD x y | _,_=>false) p p' (by omega) (fun j h1 h2=>by
      have h1':j < ds.length:=by simp at h1; omega
      have h2':j < es.length:=by simp at h2; omega
      have g1:ds[j]?=some ds[j]:=by simp [h1']
      have g2:es[j]?=some es[j]:=by simp [h2']
      obtain ⟨xv,hxv,hrx⟩:=r.at g1
      obtain ⟨yv,hyv,hry⟩:=r'.at g2
      obtain ⟨xu,hxu,hru⟩:=rv.get hxv
      obtain ⟨yu,hyu,hru'⟩:=rv'.get hyv
      have e1:its.toArray[j]=xu:=by
       have:its[j]?=some xu:=hxu
       simpa using (List.getElem?_eq_some_iff.mp this).2
      have e2:its'.toArray[j]=yu:=by
       have:its'[j]?=some yu:=hyu
       simpa using (List.getElem?_eq_some_iff.mp this).2
      rw [e1,e2]
      simp only [g1,g2]
      have hdj:=D.depths_le g1
      exact HG I (n:=n) (by omega) (by show A.units+1+n < cLine; omega) hrx hry hru hru')
     have sz:(!((List.range (min its.toArray.size its'.toArray.size)).all (fun j=>match ds[j]?,es[j]? with | some x,some y=>eqD x y | _,_=>false) && its.toArray.size == its'.toArray.size))=(!eqD (.tup ds) (.tup es)):=by
      have a1:its.toArray.size=ds.length:=by simp; omega
      have a2:its'.toArray.size=es.length:=by simp; omega
      rw [a1,a2]
      simp only [eqD]
      rw [jD]
     rw [<- sz]
     exact key
def LQ (K:PySem.W.Frag):R2:=fun x y H Q=>∃ d e,Rep K H d x/\Rep K H e y/\d.depth<=40/\Q (.bl (eqD d e)) H
def LR (K:PySem.W.Frag):R2:=fun x y H Q=>∃ d e,Rep K H d x/\Rep K H e y/\d.depth<=40/\Q (.bl (!eqD d e)) H
theorem HJ (hu:X.A.units+64 < cLine) (K:PySem.W.Frag) (hK:X.K=K):OpR X (compareOp .Eq) (LQ K):=by
 subst hK
 intro pins s σ H x y v u Q I rx ry h
 obtain ⟨d,e,hx,hy,hd,q⟩:=h
 exact JM I 40 d e X.A x y v u hd (by omega) hx hy rx ry X.prog X.w X.xe _ ⟨.bl _,H,I,rfl,q⟩
theorem HK (hu:X.A.units+64 < cLine) (K:PySem.W.Frag) (hK:X.K=K):OpR X (compareOp .NotEq) (LR K):=by
 subst hK
 intro pins s σ H x y v u Q I rx ry h
 obtain ⟨d,e,hx,hy,hd,q⟩:=h
 exact HI I 40 d e X.A x y v u hd (by omega) hx hy rx ry X.prog X.w X.xe _ ⟨.bl _,H,I,rfl,q⟩
def Bq (K:PySem.W.Frag) (H:Hp) (ds:List D) (v:V):Prop:=∃ a vs,v=.ref a/\SqL K H a vs/\bW K H ds vs
theorem rD {xs ys:List D} (h:xs.length=ys.length):(List.range xs.length).all (fun j=>match xs[j]?,ys[j]? with | some x,some y=>eqD x y | _,_=>false)=cY xs ys:=by
 have:=jD (xs:=xs) (ys:=ys)
 rw [h,Nat.min_self,beq_self_eq_true,Bool.and_true] at this
 rw [h]
 exact this
theorem vM {xs ys:List D} (h:cY xs ys=true):xs.length=ys.length:=by
 rw [<- jD,Bool.and_eq_true] at h
 exact eq_of_beq h.2
theorem nX {I:Inv X pins σ H s} {A:Around} {ds es:List D} {vs vs':List V} {its its':List Value} (r:bW X.K H ds vs) (r':bW X.K H es vs') (rv:aH vs its) (rv':aH vs' its') (hd:D.depths ds<=40) (hu:A.units+42 < cLine):
  ∀ j (h1:j < its.toArray.size) (h2:j < its'.toArray.size),EqAt A.in1 s its.toArray[j] its'.toArray[j] (match ds[j]?,es[j]? with | some x,some y=>eqD x y | _,_=>false):=fun j h1 h2=>by
 have l1:=r.length
 have l2:=r'.length
 have l3:=rv.length
 have l4:=rv'.length
 have h1':j < ds.length:=by simp at h1; omega
 have h2':j < es.length:=by simp at h2; omega
 have g1:ds[j]?=some ds[j]:=by simp [h1']
 have g2:es[j]?=some es[j]:=by simp [h2']
 obtain ⟨xv,hxv,hrx⟩:=r.at g1
 obtain ⟨yv,hyv,hry⟩:=r'.at g2
 obtain ⟨xu,hxu,hru⟩:=rv.get hxv
 obtain ⟨yu,hyu,hru'⟩:=rv'.get hyv
 have e1:its.toArray[j]=xu:=by simpa using (List.getElem?_eq_some_iff.mp hxu).2
 have e2:its'.toArray[j]=yu:=by simpa using (List.getElem?_eq_some_iff.mp hyu).2
 rw [e1,e2]
 simp only [g1,g2]
 have hdj:=D.depths_le g1
 exact HG I (n:=40) (by omega) (by show A.units+1+40 < cLine; omega) hrx hry hru hru'
def LS (K:PySem.W.Frag):R2:=fun x y H Q=>∃ ds es,Bq K H ds x/\Bq K H es y/\D.depths ds<=40/\Q (.bl (cY ds es)) H
def LU (K:PySem.W.Frag):R2:=fun x y H Q=>∃ ds es,Bq K H ds x/\Bq K H es y/\D.depths ds<=40/\Q (.bl (!cY ds es)) H
theorem HL (hu:X.A.units+64 < cLine) (K:PySem.W.Frag) (hK:X.K=K):OpR X (compareOp .Eq) (LS K):=by
 subst hK
 intro pins s σ H x y v u Q I rx ry h
 obtain ⟨ds,es,⟨a,vs,rfl,q,r⟩,⟨b,vs',rfl,q',r'⟩,hd,k⟩:=h
 cases rx; cases ry
 obtain ⟨its,rv,p,_⟩:=I.list q
 obtain ⟨its',rv',p',_⟩:=I.list q'
 have l1:=r.length
 have l2:=r'.length
 have l3:=rv.length
 have l4:=rv'.length
 by_cases hl:ds.length=es.length
 ·refine eq_listAt p.isList p'.isList (by simp; omega) (by omega) (nX (I:=I) r r' rv rv' hd (by omega)) ⟨.bl _,H,I,rfl,?_⟩
  have e1:its.toArray.size=ds.length:=by simp; omega
  rw [e1,rD hl]
  exact k
 ·refine eq_list_lengthsAt p.isList p'.isList (by simp; omega) (by omega) ⟨.bl false,H,I,rfl,?_⟩
  have e:cY ds es=false:=by
   cases h:cY ds es with
   | false=>rfl
   | true=>exact absurd (vM h) hl
  rw [e] at k
  exact k
theorem HM (hu:X.A.units+64 < cLine) (K:PySem.W.Frag) (hK:X.K=K):OpR X (compareOp .NotEq) (LU K):=by
 subst hK
 intro pins s σ H x y v u Q I rx ry h
 obtain ⟨ds,es,⟨a,vs,rfl,q,r⟩,⟨b,vs',rfl,q',r'⟩,hd,k⟩:=h
 cases rx; cases ry
 obtain ⟨its,rv,p,_⟩:=I.list q
 obtain ⟨its',rv',p',_⟩:=I.list q'
 have l1:=r.length
 have l2:=r'.length
 have l3:=rv.length
 have l4:=rv'.length
 by_cases hl:ds.length=es.length
 ·refine RcNeAt.lists p.isList p'.isList (by simp; omega) (by omega) (nX (I:=I) r r' rv rv' hd (by omega)) X.prog X.w X.xe _ ⟨.bl _,H,I,rfl,?_⟩
  have e1:its.toArray.size=ds.length:=by simp; omega
  rw [e1,rD hl]
  exact k
 ·refine RcNeAt.lists_lengths p.isList p'.isList (by simp; omega) (by omega) X.prog X.w X.xe _ ⟨.bl true,H,I,rfl,?_⟩
  have e:cY ds es=false:=by
   cases h:cY ds es with
   | false=>rfl
   | true=>exact absurd (vM h) hl
  rw [e] at k
  exact k
end
end L2
set_option Elab.async false
set_option linter.all false
set_option maxRecDepth 100000
namespace L2
open PySem
def keyLt:Sum Int Str->Sum Int Str->Bool
 | .inl a,.inl b=>decide (a < b)
 | .inr a,.inr b=>decide (a.cps.toList < b.cps.toList)
 | _,_=>false
def aV:List (Sum Int Str)->List (Sum Int Str)->Bool
 | [],[]=>false
 | [],_ :: _=>true
 | _ :: _,[]=>false
 | x :: xs,y :: ys=>if x=y then aV xs ys else keyLt x y
def bV:Sum Int Str->Bool
 | .inl _=>true
 | .inr _=>false
abbrev shape (ks:List (Sum Int Str)):List Bool:=ks.map bV
theorem Fj {a b:Str} (h:a.cps.toList=b.cps.toList):a=b:=by
 cases a; cases b
 congr
 exact Array.toList_inj.mp h
theorem CG {a b:Sum Int Str} (h:keyLt a b=true):keyLt b a=false:=by
 cases a <;> cases b <;> first | rfl | skip
 ·have:_ < _:=of_decide_eq_true h
  exact decide_eq_false (by omega)
 ·exact decide_eq_false (List.lt_asymm (of_decide_eq_true h))
theorem rE {a b:Sum Int Str} (k:bV a=bV b) (h:keyLt a b=false) (h':keyLt b a=false):a=b:=by
 cases a <;> cases b <;> first | cases k | skip
 ·have h1:=of_decide_eq_false h
  have h2:=of_decide_eq_false h'
  congr 1
  omega
 ·have h1:=of_decide_eq_false h
  have h2:=of_decide_eq_false h'
  congr 1
  exact Fj (List.le_antisymm (List.not_lt.mp h2) (List.not_lt.mp h1))
theorem CH:∀ {a b c:Sum Int Str},bV a=bV b->bV b=bV c->keyLt b a=false->keyLt c b=false->keyLt c a=false
 | .inl a,.inl b,.inl c,_,_,h,h'=>by
  have h1:¬ b < a:=of_decide_eq_false h
  have h2:¬ c < b:=of_decide_eq_false h'
  exact decide_eq_false (by omega)
 | .inr a,.inr b,.inr c,_,_,h,h'=>by
  have h1:a.cps.toList<=b.cps.toList:=List.not_lt.mp (of_decide_eq_false h)
  have h2:b.cps.toList<=c.cps.toList:=List.not_lt.mp (of_decide_eq_false h')
  exact decide_eq_false (List.not_lt.mpr (List.le_trans h1 h2))
 | .inl _,.inr _,_,k,_,_,_=>by cases k
 | .inr _,.inl _,_,k,_,_,_=>by cases k
 | .inl _,.inl _,.inr _,_,k,_,_=>by cases k
 | .inr _,.inr _,.inl _,_,k,_,_=>by cases k
theorem jE:∀ {a b:List (Sum Int Str)},aV a b=true->aV b a=false
 | [],[],_=>rfl
 | [],_ :: _,_=>rfl
 | _ :: _,[],h=>by cases h
 | x :: xs,y :: ys,h=>by
  unfold aV at h ⊢
  by_cases e:x=y
  ·subst e
   rw [if_pos rfl] at h ⊢
   exact jE h
  ·rw [if_neg e] at h
   rw [if_neg fun z=>e z.symm]
   exact CG h
theorem nY:∀ {a b:List (Sum Int Str)},shape a=shape b->aV a b=false->aV b a=false->a=b
 | [],[],_,_,_=>rfl
 | [],_ :: _,s,_,_=>by cases s
 | _ :: _,[],s,_,_=>by cases s
 | x :: xs,y :: ys,s,h,h'=>by
  have s1:bV x=bV y:=by simpa using congrArg List.head? s
  have s2:shape xs=shape ys:=by simpa using congrArg List.tail s
  unfold aV at h h'
  by_cases e:x=y
  ·subst e
   rw [if_pos rfl] at h h'
   rw [nY s2 h h']
  ·rw [if_neg e] at h
   rw [if_neg fun z=>e z.symm] at h'
   exact absurd (rE s1 h h') e
theorem gR:∀ {a b c:List (Sum Int Str)},shape a=shape b->shape b=shape c->aV b a=false->aV c b=false->aV c a=false
 | [],[],[],_,_,_,_=>rfl
 | [],[],_ :: _,_,s',_,_=>by cases s'
 | [],_ :: _,_,s,_,_,_=>by cases s
 | _ :: _,[],_,s,_,_,_=>by cases s
 | _ :: _,_ :: _,[],_,s',_,_=>by cases s'
 | x :: xs,y :: ys,z :: zs,s,s',h,h'=>by
  have s1:bV x=bV y:=by simpa using congrArg List.head? s
  have s2:shape xs=shape ys:=by simpa using congrArg List.tail s
  have s3:bV y=bV z:=by simpa using congrArg List.head? s'
  have s4:shape ys=shape zs:=by simpa using congrArg List.tail s'
  unfold aV at h h' ⊢
  by_cases e:y=x
  ·subst e
   rw [if_pos rfl] at h
   by_cases e':z=y
   ·subst e'
    rw [if_pos rfl] at h' ⊢
    exact gR s2 s4 h h'
   ·rw [if_neg e'] at h' ⊢
    exact h'
  ·rw [if_neg e] at h
   by_cases e':z=y
   ·subst e'
    rw [if_neg e]
    exact h
   ·rw [if_neg e'] at h'
    by_cases e2:z=x
    ·subst e2
     exfalso
     exact e (rE s3 h h')
    ·rw [if_neg e2]
     exact CH s1 s3 h h'
end L2
namespace L2
open PySem PySem.W PyProof.Rows
section
variable (lt:Nat->Nat->Bool)
def evT {α:Type}:KasT α->α
 | .ret a=>a
 | .ask i j k=>evT (k (lt i j))
theorem eD {α β:Type} (f:α->KasT β):∀ t:KasT α,evT lt (t.bind f)=evT lt (f (evT lt t))
 | .ret _=>rfl
 | .ask i j k=>eD f (k (lt i j))
abbrev pa' (p:Array Nat) (i:Nat):Nat:=p.getD i 0
def STo (p:Array Nat) (k:Nat):Prop:=∀ i j,i<=j->j < k->lt (pa' p j) (pa' p i)=false
def NIc (p:Array Nat) (k:Nat):Prop:=∀ i j,i<=j->j < k->lt (pa' p i) (pa' p j)=false
end
theorem dE {p:Array Nat} {i:Nat}:pa' p i=(p[i]?).getD 0:=by
 unfold pa'
 simp [Array.getD_eq_getD_getElem?]
structure CI (lt:Nat->Nat->Bool) (p:Array Nat) (n f:Nat) (r:Array Nat×Nat×Nat):Prop where
 perm:r.1.Perm p
 lo:n<=r.2.1
 hi:r.2.1<=n+f
 q:r.2.2+1<=r.2.1
 ni:NIc lt r.1 r.2.1
 eq:∀ i j,r.2.1 - (r.2.2+1)<=i->i < r.2.1->r.2.1 - (r.2.2+1)<=j->j < r.2.1->lt (pa' r.1 i) (pa' r.1 j)=false
section
variable {lt:Nat->Nat->Bool} (tr:∀ i j k,lt j i=false->lt k j=false->lt k i=false) (as:∀ i j,lt i j=true->lt j i=false)
include as in
theorem cU (i:Nat):lt i i=false:=by
 cases h:lt i i with
 | false=>rfl
 | true=>have:=as i i h; rw [h] at this; exact this
include tr as
theorem yX (p:Array Nat):∀ f n,1<=n->STo lt p n->n<=evT lt (kas_asc p f n)/\evT lt (kas_asc p f n)<=n+f/\STo lt p (evT lt (kas_asc p f n))
 | 0,n,_,h=>⟨Nat.le_refl _,Nat.le_refl _,h⟩
 | f+1,n,h1,h=>by
  have e:evT lt (kas_asc p (f+1) n)=evT lt (if lt (p.getD n 0) (p.getD (n - 1) 0)=true then KasT.ret n else kas_asc p f (n+1)):=rfl
  rw [e]
  by_cases c:lt (p.getD n 0) (p.getD (n - 1) 0)=true
  ·rw [if_pos c]
   exact ⟨Nat.le_refl _,Nat.le_add_right _ _,h⟩
  ·rw [if_neg c]
   have c':lt (p.getD n 0) (p.getD (n - 1) 0)=false:=by simpa using c
   have h2:STo lt p (n+1):=fun i j hij hj=>by
    rcases Nat.lt_or_eq_of_le (Nat.le_of_lt_succ hj) with hj | rfl
    ·exact h i j hij hj
    ·rcases Nat.lt_or_eq_of_le hij with hi | rfl
     ·exact tr _ _ _ (h i (j - 1) (by omega) (by omega)) c'
     ·exact cU as _
   obtain ⟨a,b,c⟩:=yX p f (n+1) (by omega) h2
   exact ⟨by omega,by omega,c⟩
theorem rev_eq {p:Array Nat} {a n:Nat} (hn:n<=p.size) (eq:∀ i j,a<=i->i < n->a<=j->j < n->lt (pa' p i) (pa' p j)=false) (i j:Nat):
  lt (pa' (kas_rev p a n) i) (pa' (kas_rev p a n) j)=lt (pa' p i) (pa' p j):=by
 have g:∀ k,pa' (kas_rev p a n) k=if a<=k/\k < n then pa' p (a+n - 1 - k) else pa' p k:=fun k=>by
  rw [dE,dE,dE]
  unfold kas_rev
  rw [getElem?_mirror_all hn]
  split <;> rfl
 have sim:∀ k,∃ k',pa' (kas_rev p a n) k=pa' p k'/\lt (pa' p k) (pa' p k')=false/\lt (pa' p k') (pa' p k)=false:=fun k=>by
  rw [g]
  by_cases h:a<=k/\k < n
  ·rw [if_pos h]
   exact ⟨_,rfl,eq _ _ h.1 h.2 (by omega) (by omega),eq _ _ (by omega) (by omega) h.1 h.2⟩
  ·rw [if_neg h]
   exact ⟨k,rfl,cU as _,cU as _⟩
 obtain ⟨i',ei,i1,i2⟩:=sim i
 obtain ⟨j',ej,j1,j2⟩:=sim j
 rw [ei,ej]
 cases h1:lt (pa' p i) (pa' p j) with
 | false=>exact tr _ _ _ j1 (tr _ _ _ h1 i2)
 | true=>
  cases h2:lt (pa' p i') (pa' p j') with
  | true=>rfl
  | false=>
   have:=tr _ _ _ j2 (tr _ _ _ h2 i1)
   rw [h1] at this
   exact this.symm
theorem tF:∀ f (p:Array Nat) n q,n+f<=p.size->q+1<=n->NIc lt p n->(∀ i j,n - (q+1)<=i->i < n->n - (q+1)<=j->j < n->lt (pa' p i) (pa' p j)=false)->CI lt p n f (evT lt (kas_desc f p n q))
 | 0,p,n,q,_,hq,hN,hE=>⟨Array.Perm.refl _,Nat.le_refl _,Nat.le_refl _,hq,hN,hE⟩
 | f+1,p,n,q,hs,hq,hN,hE=>by
  have e:evT lt (kas_desc (f+1) p n q)=evT lt (if lt (p.getD n 0) (p.getD (n - 1) 0)=true then (if q > 0 then kas_desc f (kas_rev p (n - (q+1)) n) (n+1) 0 else kas_desc f p (n+1) 0)
    else .ask (p.getD (n - 1) 0) (p.getD n 0) fun d=>if d=true then .ret (p,n,q) else kas_desc f p (n+1) (q+1)):=rfl
  by_cases c:lt (p.getD n 0) (p.getD (n - 1) 0)=true
  ·have down:∀ p':Array Nat,p'.Perm p->(∀ i j,lt (pa' p' i) (pa' p' j)=lt (pa' p i) (pa' p j))->evT lt (kas_desc (f+1) p n q)=evT lt (kas_desc f p' (n+1) 0)->CI lt p n (f+1) (evT lt (kas_desc (f+1) p n q)):=fun p' hp hl hev=>by
    have hN':NIc lt p' (n+1):=fun i j hij hj=>by
     rw [hl]
     rcases Nat.lt_or_eq_of_le (Nat.le_of_lt_succ hj) with hj | rfl
     ·exact hN i j hij hj
     ·rcases Nat.lt_or_eq_of_le hij with hi | rfl
      ·exact tr _ _ _ (as _ _ c) (hN i (j - 1) (by omega) (by omega))
      ·exact cU as _
    have hE':∀ i j,n+1 - (0+1)<=i->i < n+1->n+1 - (0+1)<=j->j < n+1->lt (pa' p' i) (pa' p' j)=false:=fun i j h1 h2 h3 h4=>by
     have:i=j:=by omega
     subst this
     exact cU as _
    have ih:=tF f p' (n+1) 0 (by rw [hp.size_eq]; omega) (by omega) hN' hE'
    rw [<- hev] at ih
    obtain ⟨a1,a2,a3,a4,a5,a6⟩:=ih
    exact ⟨a1.trans hp,by omega,by omega,a4,a5,a6⟩
   rw [if_pos c] at e
   by_cases hq0:q > 0
   ·rw [if_pos hq0] at e
    exact down _ (mirror_perm _ _ _ _) (rev_eq tr as (by omega) hE) e
   ·rw [if_neg hq0] at e
    exact down p (Array.Perm.refl _) (fun _ _=>rfl) e
  ·rw [if_neg c] at e
   have c':lt (p.getD n 0) (p.getD (n - 1) 0)=false:=by simpa using c
   have e2:evT lt (kas_desc (f+1) p n q)=evT lt (if lt (p.getD (n - 1) 0) (p.getD n 0)=true then KasT.ret (p,n,q) else kas_desc f p (n+1) (q+1)):=e
   by_cases d:lt (p.getD (n - 1) 0) (p.getD n 0)=true
   ·rw [if_pos d] at e2
    rw [e2]
    exact ⟨Array.Perm.refl _,Nat.le_refl _,Nat.le_add_right _ _,hq,hN,hE⟩
   ·rw [if_neg d] at e2
    have d':lt (p.getD (n - 1) 0) (p.getD n 0)=false:=by simpa using d
    have hN':NIc lt p (n+1):=fun i j hij hj=>by
     rcases Nat.lt_or_eq_of_le (Nat.le_of_lt_succ hj) with hj | rfl
     ·exact hN i j hij hj
     ·rcases Nat.lt_or_eq_of_le hij with hi | rfl
      ·exact tr _ _ _ d' (hN i (j - 1) (by omega) (by omega))
      ·exact cU as _
    have hE':∀ i j,n+1 - (q+1+1)<=i->i < n+1->n+1 - (q+1+1)<=j->j < n+1->lt (pa' p i) (pa' p j)=false:=fun i j h1 h2 h3 h4=>by
     by_cases hi:i=n
     ·by_cases hj:j=n
      ·rw [hi,hj]; exact cU as _
      ·rw [hi]
       exact tr _ _ _ (hE (n - 1) j (by omega) (by omega) (by omega) (by omega)) c'
     ·by_cases hj:j=n
      ·rw [hj]
       exact tr _ _ _ d' (hE i (n - 1) (by omega) (by omega) (by omega) (by omega))
      ·exact hE i j (by omega) (by omega) (by omega) (by omega)
    have ih:=tF f p (n+1) (q+1) (by omega) (by omega) hN' hE'
    rw [<- e2] at ih
    obtain ⟨a1,a2,a3,a4,a5,a6⟩:=ih
    exact ⟨a1,by omega,by omega,a4,a5,a6⟩
theorem vN {n nrem:Nat} {p:Array Nat} (h1:1<=n) (hn:n<=nrem) (hz:nrem<=p.size) (hN:NIc lt p n):
  n<=(evT lt (kas_tail3 n nrem p)).1/\(evT lt (kas_tail3 n nrem p)).1<=nrem/\(evT lt (kas_tail3 n nrem p)).2.Perm p/\STo lt (evT lt (kas_tail3 n nrem p)).2 (evT lt (kas_tail3 n nrem p)).1:=by
 have e:evT lt (kas_tail3 n nrem p)=(evT lt (kas_asc (kas_rev p 0 n) (nrem - n) n),kas_rev p 0 n):=by
  unfold kas_tail3
  rw [eD]; rfl
 have g:∀ k,k < n->pa' (kas_rev p 0 n) k=pa' p (n - 1 - k):=fun k hk=>by
  rw [dE,dE]
  unfold kas_rev
  rw [getElem?_mirror_all (by omega),if_pos (by omega)]
  congr 2
  omega
 have hS:STo lt (kas_rev p 0 n) n:=fun i j hij hj=>by
  rw [g i (by omega),g j hj]
  exact hN _ _ (by omega) (by omega)
 obtain ⟨a,b,c⟩:=yX tr as (kas_rev p 0 n) (nrem - n) n h1 hS
 rw [e]
 exact ⟨a,by show evT lt (kas_asc (kas_rev p 0 n) (nrem - n) n)<=nrem; omega,mirror_perm _ _ _ _,c⟩
theorem lS {n nrem:Nat} {p:Array Nat} (h1:1<=n) (hn:n+1<=nrem) (hz:nrem<=p.size) (hN:NIc lt p n) (hd:lt (pa' p n) (pa' p (n - 1))=true):
  1<=(evT lt (kas_descPart n nrem p)).1/\(evT lt (kas_descPart n nrem p)).1<=nrem/\(evT lt (kas_descPart n nrem p)).2.Perm p/\STo lt (evT lt (kas_descPart n nrem p)).2 (evT lt (kas_descPart n nrem p)).1:=by
 have hN':NIc lt p (n+1):=fun i j hij hj=>by
  rcases Nat.lt_or_eq_of_le (Nat.le_of_lt_succ hj) with hj | rfl
  ·exact hN i j hij hj
  ·rcases Nat.lt_or_eq_of_le hij with hi | rfl
   ·exact tr _ _ _ (as _ _ hd) (hN i (j - 1) (by omega) (by omega))
   ·exact cU as _
 have hE':∀ i j,n+1 - (0+1)<=i->i < n+1->n+1 - (0+1)<=j->j < n+1->lt (pa' p i) (pa' p j)=false:=fun i j h1 h2 h3 h4=>by
  have:i=j:=by omega
  subst this
  exact cU as _
 have D:=tF tr as (nrem - (n+1)) p (n+1) 0 (by omega) (by omega) hN' hE'
 have e:evT lt (kas_descPart n nrem p)=evT lt (if (evT lt (kas_desc (nrem - (n+1)) p (n+1) 0)).2.2 > 0 then kas_tail3 (evT lt (kas_desc (nrem - (n+1)) p (n+1) 0)).2.1 nrem (kas_rev (evT lt (kas_desc (nrem - (n+1)) p (n+1) 0)).1 ((evT lt (kas_desc (nrem - (n+1)) p (n+1) 0)).2.1 - ((evT lt (kas_desc (nrem - (n+1)) p (n+1) 0)).2.2+1)) (evT lt (kas_desc (nrem - (n+1)) p (n+1) 0)).2.1) else kas_tail3 (evT lt (kas_desc (nrem - (n+1)) p (n+1) 0)).2.1 nrem (evT lt (kas_desc (nrem - (n+1)) p (n+1) 0)).1):=by
  unfold kas_descPart
  rw [eD]
 generalize evT lt (kas_desc (nrem - (n+1)) p (n+1) 0)=r at D e
 obtain ⟨a1,a2,a3,a4,a5,a6⟩:=D
 have sz:r.1.size=p.size:=a1.size_eq
 rw [e]
 by_cases hq:r.2.2 > 0
 ·rw [if_pos hq]
  have hl:=rev_eq tr as (p:=r.1) (a:=r.2.1 - (r.2.2+1)) (n:=r.2.1) (by omega) a6
  obtain ⟨b1,b2,b3,b4⟩:=vN tr as (n:=r.2.1) (nrem:=nrem) (p:=kas_rev r.1 (r.2.1 - (r.2.2+1)) r.2.1) (by omega) (by omega) (by unfold kas_rev; rw [mirror_size]; omega) (fun i j hij hj=>by rw [hl]; exact a5 i j hij hj)
  exact ⟨by omega,b2,(b3.trans (mirror_perm _ _ _ _)).trans a1,b4⟩
 ·rw [if_neg hq]
  obtain ⟨b1,b2,b3,b4⟩:=vN tr as (n:=r.2.1) (nrem:=nrem) (p:=r.1) (by omega) (by omega) (by omega) a5
  exact ⟨by omega,b2,b3.trans a1,b4⟩
theorem nZ (p:Array Nat):∀ f n,1<=n->evT lt (kas_asc p f n) < n+f->lt (pa' p (evT lt (kas_asc p f n))) (pa' p (evT lt (kas_asc p f n) - 1))=true
 | 0,n,_,h=>absurd h (Nat.lt_irrefl _)
 | f+1,n,h1,h=>by
  have e:evT lt (kas_asc p (f+1) n)=evT lt (if lt (p.getD n 0) (p.getD (n - 1) 0)=true then KasT.ret n else kas_asc p f (n+1)):=rfl
  rw [e] at h ⊢
  by_cases c:lt (p.getD n 0) (p.getD (n - 1) 0)=true
  ·rw [if_pos c]
   exact c
  ·rw [if_neg c] at h ⊢
   exact nZ p f (n+1) (by omega) (by omega)
theorem CJ {nrem:Nat} {p:Array Nat} (h1:1<=nrem) (hz:nrem<=p.size):
  1<=(evT lt (kas_count nrem p)).1/\(evT lt (kas_count nrem p)).1<=nrem/\(evT lt (kas_count nrem p)).2.Perm p/\STo lt (evT lt (kas_count nrem p)).2 (evT lt (kas_count nrem p)).1:=by
 have h0:STo lt p 1:=fun i j hij hj=>by
  have:i=j:=by omega
  subst this
  exact cU as _
 obtain ⟨a,b,c⟩:=yX tr as p (nrem - 1) 1 (Nat.le_refl _) h0
 have stop:=nZ tr as p (nrem - 1) 1 (Nat.le_refl _)
 have e:evT lt (kas_count nrem p)=evT lt (if (evT lt (kas_asc p (nrem - 1) 1) == nrem)=true then .ret (evT lt (kas_asc p (nrem - 1) 1),p) else if evT lt (kas_asc p (nrem - 1) 1) > 1 then .ask (p.getD 0 0) (p.getD (evT lt (kas_asc p (nrem - 1) 1) - 1) 0) fun c=>if c=true then .ret (evT lt (kas_asc p (nrem - 1) 1),p) else kas_descPart (evT lt (kas_asc p (nrem - 1) 1)) nrem (kas_rev p 0 (evT lt (kas_asc p (nrem - 1) 1))) else kas_descPart (evT lt (kas_asc p (nrem - 1) 1)) nrem p):=by
  unfold kas_count
  rw [eD]
 generalize evT lt (kas_asc p (nrem - 1) 1)=n at a b c e stop
 rw [e]
 by_cases hn:(n == nrem)=true
 ·rw [if_pos hn]
  exact ⟨a,by show n<=nrem; omega,Array.Perm.refl _,c⟩
 ·rw [if_neg hn]
  have hn':n≠nrem:=by simpa using hn
  have st:=stop (by omega)
  by_cases h2:n > 1
  ·rw [if_pos h2]
   have e2:∀ k:Bool->KasT (Nat×Array Nat),evT lt (.ask (p.getD 0 0) (p.getD (n - 1) 0) k)=evT lt (k (lt (p.getD 0 0) (p.getD (n - 1) 0))):=fun _=>rfl
   rw [e2]
   by_cases h3:lt (p.getD 0 0) (p.getD (n - 1) 0)=true
   ·rw [if_pos h3]
    exact ⟨a,by show n<=nrem; omega,Array.Perm.refl _,c⟩
   ·rw [if_neg h3]
    have h3':lt (pa' p 0) (pa' p (n - 1))=false:=by simpa using h3
    have eq:∀ i j,0<=i->i < n->0<=j->j < n->lt (pa' p i) (pa' p j)=false:=fun i j _ hi _ hj=>by
     exact tr _ _ _ (c j (n - 1) (by omega) (by omega)) (tr _ _ _ h3' (c 0 i (by omega) hi))
    have hl:=rev_eq tr as (p:=p) (a:=0) (n:=n) (by omega) eq
    have g:pa' (kas_rev p 0 n) n=pa' p n:=by
     rw [dE,dE]
     unfold kas_rev
     rw [getElem?_mirror_all (by omega),if_neg (by omega)]
    obtain ⟨b1,b2,b3,b4⟩:=lS tr as (n:=n) (nrem:=nrem) (p:=kas_rev p 0 n) a (by omega) (by unfold kas_rev; rw [mirror_size]; omega) (fun i j hij hj=>by rw [hl]; exact eq i j (by omega) (by omega) (by omega) hj) (by rw [hl]; exact st)
    exact ⟨b1,b2,b3.trans (mirror_perm _ _ _ _),b4⟩
  ·rw [if_neg h2]
   have hn1:n=1:=by omega
   subst hn1
   exact lS tr as (n:=1) (nrem:=nrem) (p:=p) (Nat.le_refl _) (by omega) hz (fun i j hij hj=>by
    have:i=j:=by omega
    subst this
    exact cU as _) st
theorem oA (p:Array Nat) (k:Nat) (hS:STo lt p k):∀ f l r,r - l<=f->l<=r->r<=k->(∀ i,i < l->lt (pa' p k) (pa' p i)=false)->(∀ i,r<=i->i < k->lt (pa' p k) (pa' p i)=true)->
  l<=evT lt (kas_place p k f l r)/\evT lt (kas_place p k f l r)<=k/\(∀ i,i < evT lt (kas_place p k f l r)->lt (pa' p k) (pa' p i)=false)/\(∀ i,evT lt (kas_place p k f l r)<=i->i < k->lt (pa' p k) (pa' p i)=true)
 | 0,l,r,hf,hl,hr,h1,h2=>by
  have:l=r:=by omega
  subst this
  exact ⟨Nat.le_refl _,hr,h1,h2⟩
 | f+1,l,r,hf,hl,hr,h1,h2=>by
  have e:evT lt (kas_place p k (f+1) l r)=evT lt (if l >= r then .ret l else .ask (p.getD k 0) (p.getD ((l+r) / 2) 0) fun c=>if c=true then kas_place p k f l ((l+r) / 2) else kas_place p k f ((l+r) / 2+1) r):=rfl
  rw [e]
  by_cases hge:l >= r
  ·rw [if_pos hge]
   have:l=r:=by omega
   subst this
   exact ⟨Nat.le_refl _,hr,h1,h2⟩
  ·rw [if_neg hge]
   have e2:∀ q:Bool->KasT Nat,evT lt (.ask (p.getD k 0) (p.getD ((l+r) / 2) 0) q)=evT lt (q (lt (p.getD k 0) (p.getD ((l+r) / 2) 0))):=fun _=>rfl
   rw [e2]
   by_cases c:lt (p.getD k 0) (p.getD ((l+r) / 2) 0)=true
   ·rw [if_pos c]
    refine oA p k hS f l ((l+r) / 2) (by omega) (by omega) (by omega) h1 fun i hi hk=>?_
    cases q:lt (pa' p k) (pa' p i) with
    | true=>rfl
    | false=>
     have:=tr _ _ _ (hS ((l+r) / 2) i hi hk) q
     rw [show lt (pa' p k) (pa' p ((l+r) / 2))=true from c] at this
     exact this.symm
   ·rw [if_neg c]
    have c':lt (pa' p k) (pa' p ((l+r) / 2))=false:=by simpa using c
    obtain ⟨b1,b2,b3,b4⟩:=oA p k hS f ((l+r) / 2+1) r (by omega) (by omega) hr (fun i hi=>by
     cases q:lt (pa' p k) (pa' p i) with
     | false=>rfl
     | true=>
      exfalso
      have s1:=hS i ((l+r) / 2) (by omega) (by omega)
      have s2:=as _ _ q
      have:lt (pa' p k) (pa' p i)=false:=by
       -- p[mid]<=p[k] (c'),p[i]<=p[mid]
       exact tr _ _ _ s1 c'
      rw [q] at this
      cases this) h2
    exact ⟨by omega,b2,b3,b4⟩
theorem CK:∀ f (p:Array Nat) k,1<=k->k+f<=p.size->STo lt p k->(evT lt (kas_bin f p k)).Perm p/\STo lt (evT lt (kas_bin f p k)) (k+f)
 | 0,p,k,_,_,h=>⟨Array.Perm.refl _,h⟩
 | f+1,p,k,h1,hz,h=>by
  have e:evT lt (kas_bin (f+1) p k)=evT lt (kas_bin f (bubble p k (k - evT lt (kas_place p k k 0 k))) (k+1)):=by
   show evT lt ((kas_place p k k 0 k).bind fun l=>kas_bin f (bubble p k (k - l)) (k+1))=_
   rw [eD]
  obtain ⟨b1,b2,b3,b4⟩:=oA tr as p k h k 0 k (by omega) (Nat.zero_le _) (Nat.le_refl _) (fun i hi=>absurd hi (Nat.not_lt_zero _)) (fun i hi hk=>absurd hk (by omega))
  generalize evT lt (kas_place p k k 0 k)=l at e b1 b2 b3 b4
  have g:∀ i,pa' (bubble p k (k - l)) i=if i=l then pa' p k else if l < i/\i<=k then pa' p (i - 1) else pa' p i:=fun i=>by
   rw [dE,dE,dE,dE,getElem?_bubble (by omega) _ (by omega)]
   have el:k - (k - l)=l:=by omega
   rw [el]
   split
   ·rfl
   ·split <;> rfl
  have hS:STo lt (bubble p k (k - l)) (k+1):=fun i j hij hj=>by
   rw [g i,g j]
   by_cases hj1:j=l
   ·by_cases hi1:i=l
    ·rw [if_pos hj1,if_pos hi1]; exact cU as _
    ·rw [if_pos hj1,if_neg hi1,if_neg (by omega)]
     exact b3 i (by omega)
   ·rw [if_neg hj1]
    by_cases hi1:i=l
    ·rw [if_pos hi1,if_pos (by omega)]
     exact as _ _ (b4 (j - 1) (by omega) (by omega))
    ·rw [if_neg hi1]
     by_cases hj2:l < j/\j<=k
     ·rw [if_pos hj2]
      by_cases hi2:l < i/\i<=k
      ·rw [if_pos hi2]; exact h _ _ (by omega) (by omega)
      ·rw [if_neg hi2]; exact h _ _ (by omega) (by omega)
     ·rw [if_neg hj2,if_neg (by omega)]
      exact h _ _ hij (by omega)
  have ih:=CK f (bubble p k (k - l)) (k+1) (by omega) (by rw [bubble_size]; omega) hS
  rw [e]
  exact ⟨ih.1.trans (bubble_perm _ _ _),by rw [show k+(f+1)=k+1+f by omega]; exact ih.2⟩
theorem Fk {n:Nat} (h1:1<=n):(evT lt (kas_sort n)).toList.Perm (List.range n)/\(evT lt (kas_sort n)).toList.Pairwise (fun i j=>lt j i=false):=by
 have e:evT lt (kas_sort n)=evT lt (if (evT lt (kas_count n (List.toArray (List.range n)))).1 < n then kas_bin (n - max (evT lt (kas_count n (List.toArray (List.range n)))).1 1) (evT lt (kas_count n (List.toArray (List.range n)))).2 (max (evT lt (kas_count n (List.toArray (List.range n)))).1 1) else .ret (evT lt (kas_count n (List.toArray (List.range n)))).2):=by
  unfold kas_sort
  rw [eD]
 obtain ⟨a1,a2,a3,a4⟩:=CJ tr as (nrem:=n) (p:=List.toArray (List.range n)) h1 (by simp)
 generalize evT lt (kas_count n (List.toArray (List.range n)))=r at e a1 a2 a3 a4
 have fin:∀ p:Array Nat,p.Perm (List.toArray (List.range n))->STo lt p n->p.toList.Perm (List.range n)/\p.toList.Pairwise (fun i j=>lt j i=false):=fun p hp hs=>by
  have hsz:p.size=n:=by rw [hp.size_eq]; simp
  refine ⟨by simpa using Array.perm_iff_toList_perm.mp hp,?_⟩
  rw [List.pairwise_iff_getElem]
  intro i j hi hj hij
  have hi':i < p.size:=by simpa using hi
  have hj':j < p.size:=by simpa using hj
  have:=hs i j (Nat.le_of_lt hij) (by omega)
  simpa [pa',Array.getD,hi',hj'] using this
 rw [e]
 by_cases hlt:r.1 < n
 ·rw [if_pos hlt]
  have hm:max r.1 1=r.1:=by omega
  rw [hm]
  obtain ⟨b1,b2⟩:=CK tr as (n - r.1) r.2 r.1 a1 (by rw [a3.size_eq]; simp; omega) a4
  refine fin _ (b1.trans a3) ?_
  rw [show r.1+(n - r.1)=n by omega] at b2
  exact b2
 ·rw [if_neg hlt]
  have:r.1=n:=by omega
  exact fin _ a3 (this ▸ a4)
end
end L2
set_option Elab.async false
set_option linter.all false
set_option maxRecDepth 100000
namespace L2
open PySem PySem.Spec PyProof.Rows PySem.SeqAt PySem.W
def InP {α:Type} (n:Nat) (P:α->Prop):KasT α->Prop
 | .ret a=>P a
 | .ask i j k=>i < n/\j < n/\∀ b,InP n P (k b)
theorem InP.bind {α β:Type} {n:Nat} {P:α->Prop} {Q:β->Prop} {f:α->KasT β}:∀ {t:KasT α},InP n P t->(∀ a,P a->InP n Q (f a))->InP n Q (t.bind f)
 | .ret a,h,hf=>hf a h
 | .ask i j k,⟨h1,h2,h3⟩,hf=>⟨h1,h2,fun b=>InP.bind (h3 b) hf⟩
theorem InP.mono {α:Type} {n:Nat} {P Q:α->Prop} (hq:∀ a,P a->Q a):∀ {t:KasT α},InP n P t->InP n Q t
 | .ret a,h=>hq a h
 | .ask i j k,⟨h1,h2,h3⟩=>⟨h1,h2,fun b=>InP.mono hq (h3 b)⟩
def AllLt (n:Nat) (p:Array Nat):Prop:=∀ k,p.getD k 0 < n
theorem AllLt.of {n:Nat} {p q:Array Nat} (h:AllLt n p) (g:∀ k:Nat,q[k]?=none\/∃ k':Nat,q[k]?=p[k']?) (hn:0 < n):AllLt n q:=fun k=>by
 have e:∀ (r:Array Nat) k,r.getD k 0=(r[k]?).getD 0:=fun r k=>by simp [Array.getD_eq_getD_getElem?]
 rw [e]
 rcases g k with h1 | ⟨k',h1⟩
 ·rw [h1]; exact hn
 ·rw [h1,<- e]; exact h k'
theorem AllLt.perm {n:Nat} {p q:Array Nat} (h:AllLt n p) (hp:q.Perm p) (hn:0 < n):AllLt n q:=by
 refine AllLt.of h (fun k=>?_) hn
 cases e:q[k]? with
 | none=>exact .inl rfl
 | some v=>
  right
  have hm:v∈q.toList:=by
   have:q.toList[k]?=some v:=by simpa using e
   exact List.mem_of_getElem? this
  have hm':v∈p.toList:=(Array.perm_iff_toList_perm.mp hp).mem_iff.mp hm
  obtain ⟨k',hk⟩:=List.mem_iff_getElem?.mp hm'
  exact ⟨k',by rw [<- hk]; simp⟩
section
variable {n:Nat} (hn:0 < n)
include hn
theorem tG {p:Array Nat} (h:AllLt n p):∀ f m,InP n (fun _=>True) (kas_asc p f m)
 | 0,m=>trivial
 | f+1,m=>⟨h _,h _,fun b=>by
  cases b with
  | true=>exact trivial
  | false=>exact tG h f (m+1)⟩
theorem jF:∀ f (p:Array Nat) m q,AllLt n p->InP n (fun r=>AllLt n r.1) (kas_desc f p m q)
 | 0,p,m,q,h=>h
 | f+1,p,m,q,h=>⟨h _,h _,fun b=>by
  cases b with
  | true=>
   show InP n _ (if q > 0 then kas_desc f (kas_rev p (m - (q+1)) m) (m+1) 0 else kas_desc f p (m+1) 0)
   by_cases hq:q > 0
   ·rw [if_pos hq]; exact jF f _ _ _ (h.perm (mirror_perm _ _ _ _) hn)
   ·rw [if_neg hq]; exact jF f _ _ _ h
  | false=>exact ⟨h _,h _,fun d=>by
    cases d with
    | true=>exact h
    | false=>exact jF f _ _ _ h⟩⟩
theorem rF {p:Array Nat} (h:AllLt n p) (m r:Nat):InP n (fun x=>AllLt n x.2) (kas_tail3 m r p):=by
 unfold kas_tail3
 exact InP.bind (tG hn (h.perm (mirror_perm _ _ _ _) hn) _ _) fun a _=>h.perm (mirror_perm _ _ _ _) hn
theorem jG {p:Array Nat} (h:AllLt n p) (m r:Nat):InP n (fun x=>AllLt n x.2) (kas_descPart m r p):=by
 unfold kas_descPart
 refine InP.bind (jF hn _ _ _ _ h) fun a ha=>?_
 by_cases hq:a.2.2 > 0
 ·rw [if_pos hq]; exact rF hn (ha.perm (mirror_perm _ _ _ _) hn) _ _
 ·rw [if_neg hq]; exact rF hn ha _ _
theorem Br {p:Array Nat} (h:AllLt n p) (r:Nat):InP n (fun x=>AllLt n x.2) (kas_count r p):=by
 unfold kas_count
 refine InP.bind (tG hn h _ _) fun a _=>?_
 by_cases h1:(a == r)=true
 ·rw [if_pos h1]; exact h
 ·rw [if_neg h1]
  by_cases h2:a > 1
  ·rw [if_pos h2]
   exact ⟨h _,h _,fun b=>by
    cases b with
    | true=>exact h
    | false=>exact jG hn (h.perm (mirror_perm _ _ _ _) hn) _ _⟩
  ·rw [if_neg h2]; exact jG hn h _ _
theorem kL {p:Array Nat} (h:AllLt n p) (k:Nat):∀ f l r,InP n (fun _=>True) (kas_place p k f l r)
 | 0,l,r=>trivial
 | f+1,l,r=>by
  show InP n _ (if l >= r then .ret l else .ask (p.getD k 0) (p.getD ((l+r) / 2) 0) fun c=>if c=true then kas_place p k f l ((l+r) / 2) else kas_place p k f ((l+r) / 2+1) r)
  by_cases hl:l >= r
  ·rw [if_pos hl]; exact trivial
  ·rw [if_neg hl]
   exact ⟨h _,h _,fun b=>by
    cases b with
    | true=>exact kL h k f _ _
    | false=>exact kL h k f _ _⟩
theorem Ay:∀ f (p:Array Nat) k,AllLt n p->InP n (fun _=>True) (kas_bin f p k)
 | 0,p,k,_=>trivial
 | f+1,p,k,h=>InP.bind (kL hn h k _ _ _) fun l _=>Ay f _ _ (h.perm (bubble_perm _ _ _) hn)
theorem oB:InP n (fun _=>True) (kas_sort n):=by
 have h0:AllLt n (List.toArray (List.range n)):=fun k=>by
  by_cases hk:k < n
  ·simp [Array.getD,hk]
  ·simp [Array.getD,hk,hn]
 unfold kas_sort
 refine InP.bind (Br hn h0 n) fun r hr=>?_
 by_cases h:r.1 < n
 ·rw [if_pos h]; exact Ay hn _ _ _ hr
 ·rw [if_neg h]; exact trivial
end
theorem oC {α:Type} {n:Nat} {cmp:Nat->Nat->(Bool->Shared->Prop)->Shared->Prop} {lt:Nat->Nat->Bool} {s:Shared} (hc:∀ i j C,i < n->j < n->C (lt i j) s->cmp i j C s) {Q:α->Shared->Prop} {P:α->Prop}:
  ∀ {t:KasT α},InP n P t->Q (evT lt t) s->t.kasWp cmp Q s
 | .ret _,_,h=>h
 | .ask i j k,⟨h1,h2,h3⟩,h=>hc i j _ h1 h2 (oC hc (h3 _) h)
def ltX (n:Nat) (lt:Nat->Nat->Bool) (i j:Nat):Bool:=if i < n then (if j < n then lt i j else true) else false
theorem HN {n:Nat} {lt:Nat->Nat->Bool} (tr:∀ i j k,i < n->j < n->k < n->lt j i=false->lt k j=false->lt k i=false) (i j k:Nat) (h1:ltX n lt j i=false) (h2:ltX n lt k j=false):ltX n lt k i=false:=by
 unfold ltX at*
 by_cases hi:i < n <;> by_cases hj:j < n <;> by_cases hk:k < n <;> simp only [hi,hj,hk,if_true,if_false] at h1 h2 ⊢ <;> first | exact tr i j k hi hj hk h1 h2 | exact absurd h2 (by decide) | exact absurd h1 (by decide) | rfl
theorem HP {n:Nat} {lt:Nat->Nat->Bool} (as:∀ i j,i < n->j < n->lt i j=true->lt j i=false) (i j:Nat) (h:ltX n lt i j=true):ltX n lt j i=false:=by
 unfold ltX at*
 by_cases hi:i < n <;> by_cases hj:j < n <;> simp only [hi,hj,if_true,if_false] at h ⊢ <;> first | exact as i j hi hj h | exact absurd h (by decide) | rfl
theorem rG {α:Type} {n:Nat} {lt lt':Nat->Nat->Bool} (h:∀ i j,i < n->j < n->lt i j=lt' i j) {P:α->Prop}:∀ {t:KasT α},InP n P t->evT lt t=evT lt' t
 | .ret _,_=>rfl
 | .ask i j k,⟨h1,h2,h3⟩=>by
  show evT lt (k (lt i j))=evT lt' (k (lt' i j))
  rw [h i j h1 h2]
  exact rG h (h3 _)
theorem vO {n:Nat} {lt:Nat->Nat->Bool} (tr:∀ i j k,i < n->j < n->k < n->lt j i=false->lt k j=false->lt k i=false) (as:∀ i j,i < n->j < n->lt i j=true->lt j i=false) (h1:1<=n):
  (evT lt (kas_sort n)).toList.Perm (List.range n)/\(evT lt (kas_sort n)).toList.Pairwise (fun i j=>lt j i=false):=by
 have e:evT lt (kas_sort n)=evT (ltX n lt) (kas_sort n):=rG (fun i j hi hj=>by unfold ltX; rw [if_pos hi,if_pos hj]) (oB (by omega))
 obtain ⟨a,b⟩:=Fk (lt:=ltX n lt) (HN tr) (HP as) h1
 rw [e]
 refine ⟨a,b.imp_of_mem fun {i j} hi hj h=>?_⟩
 have hi':i < n:=by simpa using a.mem_iff.mp hi
 have hj':j < n:=by simpa using a.mem_iff.mp hj
 unfold ltX at h
 rw [if_pos hj',if_pos hi'] at h
 exact h
section
variable {prog:Program} {w:World} {A:Around} {E:Value->Shared->Prop} {s:Shared}
theorem mQ {a:Addr} {vs:List Value} {n:Nat} {κ:SortKind} {P:PySem.Fin->Shared->Prop} (lt:Nat->Nat->Bool) (tr:∀ i j k,i < vs.length->j < vs.length->k < vs.length->lt j i=false->lt k j=false->lt k i=false) (as:∀ i j,i < vs.length->j < vs.length->lt i j=true->lt j i=false)
  (ho:s.heap.get? a=some (seqObj "list" vs.toArray n)) (h64:vs.length < 64)
  (hk:∀ s':Shared,(∀ b o,b≠a->s.heap.get? b=some o->s'.heap.get? b=some o)->∀ Q:SortKind->Shared->Prop,Q κ s'->wpAny (model prog w) A (keyKind' vs.toArray) Q E s')
  (hlt:∀ s':Shared,(∀ b o,b≠a->s.heap.get? b=some o->s'.heap.get? b=some o)->∀ i j,i < vs.length->j < vs.length->∀ Q:Bool->Shared->Prop,Q (lt i j) s'->wpAny (model prog w) A (keyLt' κ (vs.getD i Value.none) (vs.getD j Value.none)) Q (fun _ _=>False) s')
  (h:∀ p:List Nat,p.Perm (List.range vs.length)->p.Pairwise (fun i j=>lt j i=false)->P (.done (.ret .none)) { s with heap:=sortedHeap s.heap a vs (p.map fun i=>vs.getD i Value.none).toArray }):
  wpAny (model prog w) A (Builtin.«list.sort» ⟨[.ref a],[]⟩) P E s:=by
 rw [list_sort_plain]
 have ha:a < s.heap.objs.size:=Heap.lt_size ho
 refine wpAny_bind (listItems_at ho rfl ?_)
 refine wpAny_bind (listUpdate_at ho rfl ?_ (by rw [List.size_toArray,sizeLine_eq]; omega) (Nat.zero_le _))
 obtain ⟨e1,ho1⟩:∃ e1,(s.heap.update a (Obj.mapSeq fun _=>#[])).get? a=some (seqObj "list" #[] e1):=⟨_,get?_update_seq ho (fun _=>#[])⟩
 refine wpAny_bind (seqEpoch_at ho1 rfl ?_)
 refine wpAny_bind (wpAny_newTuple ?_ (by show vs.length<=_; rw [sizeLine_eq]; omega))
 refine wpAny_bind (wpAny_newList ?_ (Nat.zero_le _))
 refine wpAny_holding ?_
 have ho6:(((s.heap.update a (Obj.mapSeq fun _=>#[])).push (seqObj "tuple" vs.toArray 0)).push (seqObj "list" #[] 0)).get? a=some (seqObj "list" #[] e1):=by
  rw [Heap.get?_push_ne _ _ _ (by rw [size_push',Heap.size_update]; exact Nat.ne_of_lt (Nat.lt_succ_of_lt ha)),Heap.get?_push_ne _ _ _ (by rw [Heap.size_update]; exact Nat.ne_of_lt ha)]
  exact ho1
 have kept:∀ b o,b≠a->s.heap.get? b=some o->(((s.heap.update a (Obj.mapSeq fun _=>#[])).push (seqObj "tuple" vs.toArray 0)).push (seqObj "list" #[] 0)).get? b=some o:=fun b o hb e=>
  Heap.get?_push_of_some _ (Heap.get?_push_of_some _ ((Heap.get?_update_other s.heap (Obj.mapSeq fun _=>#[]) (Ne.symm hb)).trans e))
 show wpAny (model prog w) A _ P E { s with heap:=((s.heap.update a (Obj.mapSeq fun _=>#[])).push (seqObj "tuple" vs.toArray 0)).push (seqObj "list" #[] 0) }
 dsimp only
 have hsz:vs.toArray.size=vs.length:=by simp
 by_cases h2:vs.toArray.size < 2
 ·rw [if_pos h2,if_pos h2]
  refine wpAny_bind (wpAny_pure ?_)
  rw [StateT.run_pure]
  refine wpAny_bind (wpAny_pure ?_)
  dsimp only
  refine wpAny_bind (seqEpoch_at ho6 rfl ?_)
  refine wpAny_bind (listUpdate_at ho6 rfl ?_ (Nat.zero_le _) (hsz2:=by rw [Array.size_map]; show (pairsOf vs).size<=_; rw [pairsOf_size,sizeLine_eq]; omega))
  simp only [bne_self_eq_false,Bool.false_eq_true,if_false]
  have e:(vs.toArray.zip vs.toArray).map (·.2)=((List.range vs.length).map fun i=>vs.getD i Value.none).toArray:=by
   apply Array.toList_inj.mp
   apply List.ext_getElem?
   intro i
   by_cases hi:i < vs.length
   ·simp [hi]
   ·simp [hi]
  have key:=h (List.range vs.length) (List.Perm.refl _) (by
   rw [List.pairwise_iff_getElem]
   intro i j hi hj hij
   simp only [List.length_range] at hi hj
   omega)
  rw [<- e] at key
  exact wpAny_pure key
 ·rw [if_neg h2,if_neg h2]
  have h2':2<=vs.length:=by omega
  refine wpAny_bind (hk _ kept _ ?_)
  refine wpAny_bind (wpAny_mono (kat_run (ks:=vs) (vs:=vs) (E:=E) (Q:=fun st' s'=>s'={ s with heap:=((s.heap.update a (Obj.mapSeq fun _=>#[])).push (seqObj "tuple" vs.toArray 0)).push (seqObj "list" #[] 0) }/\arrOf st'=(evT lt (kas_sort vs.length)).map (kas_item (vs.toArray.zip vs.toArray))/\failedOf st'=none)
   (G:=fun p s'=>p=evT lt (kas_sort vs.length)/\s'={ s with heap:=((s.heap.update a (Obj.mapSeq fun _=>#[])).push (seqObj "tuple" vs.toArray 0)).push (seqObj "list" #[] 0) }) rfl h2' h64 (fun p st' s' _ a2 a3 a4=>⟨a4.2,by rw [a2,a4.1],a3⟩)
   (oC (n:=vs.length) (lt:=lt) (fun i j C hi hj hC=>hlt _ kept i j hi hj C hC) (oB (by omega)) ⟨rfl,rfl⟩)) ?_ fun _ _ e=>e)
  rintro ⟨⟨⟩,st'⟩ s' ⟨rfl,har,hf⟩
  dsimp only
  have hout:=kat_snds (ks:=vs) (vs:=vs) rfl har
  obtain ⟨c1,c2⟩:=vO tr as (by omega)
  refine wpAny_bind (seqEpoch_at ho6 rfl ?_)
  refine wpAny_bind (listUpdate_at ho6 rfl ?_ (Nat.zero_le _) (hsz2:=by
   have:(Array.map (fun x=>x.snd) (arrOf st')).size<=sizeLine:=by
    rw [hout,List.size_toArray,List.length_map,c1.length_eq,List.length_range,sizeLine_eq]
    omega
   first | exact this | exact Nat.le_succ_of_le this))
  rw [hf]
  simp only [bne_self_eq_false,Bool.false_eq_true,if_false]
  have key:=h _ c1 c2
  rw [<- hout] at key
  exact wpAny_pure key
end
end L2
set_option Elab.async false
set_option linter.all false
set_option maxRecDepth 100000
namespace L2
open PySem PySem.Spec PyProof.Rows PySem.SeqAt PySem.W
def kD:Key->D
 | .inl i=>.int i
 | .inr x=>.str x
def tD (ks:List Key):D:=.tup (ks.map kD)
theorem Fm {K:PySem.W.Frag} {H:Hp} {k:Key} {v:V} (h:Rep K H (kD k) v):v=kV k:=by
 cases k <;> exact h
theorem Fo {K:PySem.W.Frag} {H:Hp} (k:Key):Rep K H (kD k) (kV k):=by
 cases k <;> rfl
theorem rH {K:PySem.W.Frag} {H:Hp}:∀ {ks:List Key} {vs:List V},bW K H (ks.map kD) vs->vs=ks.map kV
 | [],[],_=>rfl
 | k :: ks,v :: vs,⟨h,r⟩=>by rw [Fm h,rH (ks:=ks) r]; rfl
 | [],_ :: _,h=>h.elim
 | _ :: _,[],h=>h.elim
theorem rJ {K:PySem.W.Frag} {H:Hp}:∀ (ks:List Key),bW K H (ks.map kD) (ks.map kV)
 | []=>trivial
 | k :: ks=>⟨Fo k,rJ ks⟩
abbrev cO (h:Heap):List Value->List (List Key)->Prop:=Paired fun v ks=>∃ a us,v=.ref a/\IsTup h a us.toArray/\aH (ks.map kV) us
theorem cO.kept {h h':Heap} (k:∀ b o,h.get? b=some o->h'.get? b=some o):∀ {vs:List Value} {kss:List (List Key)},cO h vs kss->cO h' vs kss
 | _,_,.nil=>.nil
 | _,_,.cons ⟨a,us,e,⟨o,ho,r⟩,q⟩ t=>.cons ⟨a,us,e,⟨o,k a o ho,r⟩,q⟩ (cO.kept k t)
theorem cO.get {h:Heap}:∀ {vs:List Value} {kss:List (List Key)} {i:Nat},cO h vs kss->i < vs.length->∃ a us,vs.getD i Value.none=.ref a/\IsTup h a us.toArray/\aH ((kss.getD i []).map kV) us
 | _,_,i,.nil,hi=>by simp at hi
 | _,_,0,.cons ⟨a,us,e,p,q⟩ t,hi=>⟨a,us,by simpa using e,p,by simpa using q⟩
 | _,_,i+1,.cons _ t,hi=>by
  obtain ⟨a,us,e,p,q⟩:=cO.get (i:=i) t (by simpa using hi)
  exact ⟨a,us,by simpa using e,p,by simpa using q⟩
theorem iL {X:Cx} {pins:List (Addr×Obj)} {σ:St} {H:Hp} {s:Shared} (I:Inv X pins σ H s):∀ {kss:List (List Key)} {vs:List V} {us:List Value},bW X.K H (kss.map tD) vs->aH vs us->cO s.heap us kss
 | [],[],_,_,.nil=>.nil
 | ks :: kss,v :: vs,_,⟨⟨a,ws,e,q,r⟩,rs⟩,.cons rv rvs=>by
  subst e
  cases rv
  obtain ⟨its,r2,p,_⟩:=I.tuple q
  rw [rH r] at r2
  exact .cons ⟨a,its,rfl,p,r2⟩ (iL I rs rvs)
 | [],_ :: _,_,h,_=>h.elim
 | _ :: _,[],_,h,_=>h.elim
section
variable {prog:Program} {w:World} {A:Around} {E:Value->Shared->Prop} {s:Shared}
theorem fT {b:Bool} {Q:Bool->Shared->Prop}:∀ (ks ls:List Key) (us ws:List Value) (i:Nat),aH (ks.map kV) us->aH (ls.map kV) ws->shape ks=shape ls->Q (aV ks ls) s->KatLex prog w A b false Q (us.zip ws) i s
 | [],[],_,_,i,.nil,.nil,_,h=>h
 | [],_ :: _,_,_,_,_,_,e,_=>by cases e
 | _ :: _,[],_,_,_,_,_,e,_=>by cases e
 | x :: ks,y :: ls,_,_,i,.cons (b:=u) r1 t1,.cons (b:=v) r2 t2,e,h=>by
  have s1:bV x=bV y:=by simpa using congrArg List.head? e
  have s2:shape ks=shape ls:=by simpa using congrArg List.tail e
  rw [List.zip_cons_cons]
  unfold aV at h
  cases x with
  | inl a=>
   cases y with
   | inr c=>cases s1
   | inl c=>
    obtain ⟨t,rfl⟩:=r1
    obtain ⟨t',rfl⟩:=r2
    refine kat_cons (EqAt.int_int a t c t' prog w _ _ ?_)
    by_cases ac:a=c
    ·subst ac
     rw [if_pos rfl] at h
     rw [beq_self_eq_true]
     exact kat_yes (fT ks ls _ _ (i+1) t1 t2 s2 h)
    ·rw [if_neg (fun z=>ac (Sum.inl.inj z))] at h
     rw [beq_eq_false_iff_ne.mpr ac]
     refine kat_no ?_
     cases hb:(b && i == 0) with
     | true=>exact oneLt_int h
     | false=>exact kat_one _ _ (lt_int (show PySem.W.BoolBack Q (.bool (decide (a < c))) s from h))
  | inr a=>
   cases y with
   | inl c=>cases s1
   | inr c=>
    obtain ⟨t,rfl⟩:=r1
    obtain ⟨t',rfl⟩:=r2
    refine kat_cons (EqAt.str_str a t c t' prog w _ _ ?_)
    by_cases ac:a=c
    ·subst ac
     rw [if_pos rfl] at h
     rw [beq_self_eq_true]
     exact kat_yes (fT ks ls _ _ (i+1) t1 t2 s2 h)
    ·rw [if_neg (fun z=>ac (Sum.inr.inj z))] at h
     rw [beq_eq_false_iff_ne.mpr ac]
     refine kat_no ?_
     cases hb:(b && i == 0) with
     | true=>exact oneLt_str h
     | false=>exact kat_one _ _ (lt_str (show PySem.W.BoolBack Q (.bool (decide (a.cps.toList < c.cps.toList))) s from h))
theorem oD {b:Bool} {x y:Addr} {us ws:List Value} {ks ls:List Key} {Q:Bool->Shared->Prop} (hx:IsTup s.heap x us.toArray) (hy:IsTup s.heap y ws.toArray) (r1:aH (ks.map kV) us) (r2:aH (ls.map kV) ws) (e:shape ks=shape ls) (h:Q (aV ks ls) s):
  wpAny (model prog w) A (keyLt' (tuples' b) (.ref x) (.ref y)) Q E s:=by
 obtain ⟨ox,hox,_,n,dx⟩:=hx
 obtain ⟨oy,hoy,_,m,dy⟩:=hy
 refine kat_lt hox dx hoy dy ?_
 have l1:=r1.length
 have l2:=r2.length
 have l3:ks.length=ls.length:=by simpa using congrArg List.length e
 rw [List.length_map] at l1 l2
 have hf:decide (us.toArray.size < ws.toArray.size)=false:=decide_eq_false (by simp; omega)
 rw [hf]
 exact fT ks ls us ws 0 r1 r2 e h
theorem oE {h:Heap} {b:Bool} {sh:List Bool}:∀ {vs:List Value} {kss:List (List Key)},cO h vs kss->(∀ ks∈kss,shape ks=b :: sh)->∃ fs:List Value,fs.length=vs.length/\KatTups h vs fs/\∀ f∈fs,typeOf f=pure (.type (if b then "int" else "str"))
 | _,_,.nil,_=>⟨[],rfl,KatTups.nil,fun _ hf=>nomatch hf⟩
 | _,_,.cons (b:=ks) ⟨a,us,e,⟨o,ho,hc,n,hd⟩,r⟩ t,hs=>by
  obtain ⟨fs,hl,ht,hT⟩:=oE t fun x hx=>hs x (List.mem_cons_of_mem _ hx)
  have h0:=hs ks List.mem_cons_self
  subst e
  cases ks with
  | nil=>cases h0
  | cons k ks=>
   cases r with
   | cons rk rks=>
    rename_i u us'
    have hk:bV k=b:=by simpa using congrArg List.head? h0
    refine ⟨u :: fs,by simp [hl],KatTups.cons ho hc hd (by simp) ht,fun f hf=>?_⟩
    rcases List.mem_cons.mp hf with rfl | hf
    ·cases k with
     | inl i=>obtain ⟨tk,rfl⟩:=rk; subst hk; rfl
     | inr x=>obtain ⟨tk,rfl⟩:=rk; subst hk; rfl
    ·exact hT f hf
theorem rK {vs:List Value} {kss:List (List Key)} {b:Bool} {sh:List Bool} {Q:SortKind->Shared->Prop} (t:cO s.heap vs kss) (hs:∀ ks∈kss,shape ks=b :: sh) (h0:0 < vs.length) (h:Q (tuples' true) s):wpAny (model prog w) A (keyKind' vs.toArray) Q E s:=by
 obtain ⟨fs,hl,ht,hT⟩:=oE t hs
 refine kat_kind (T:=.type (if b then "int" else "str")) ht (by omega) (fun v hv=>by rw [hT v hv]; exact Looks.now) (by cases b <;> rfl) ?_
 have:((Value.type (if b then "int" else "str")) != Value.type "tuple")=true:=by cases b <;> rfl
 rw [this]
 exact h
theorem kM {a:Addr} {n:Nat} {P:PySem.Fin->Shared->Prop} (ho:s.heap.get? a=some (seqObj "list" ([]:List Value).toArray n)) (h:P (.done (.ret .none)) { s with heap:=sortedHeap s.heap a [] #[] }):wpAny (model prog w) A (Builtin.«list.sort» ⟨[.ref a],[]⟩) P E s:=by
 rw [list_sort_plain]
 refine wpAny_bind (listItems_at ho rfl ?_)
 refine wpAny_bind (listUpdate_at ho rfl ?_ (Nat.zero_le _) (Nat.zero_le _))
 have ha:a < s.heap.objs.size:=Heap.lt_size ho
 obtain ⟨e1,ho1⟩:∃ e1,(s.heap.update a (Obj.mapSeq fun _=>#[])).get? a=some (seqObj "list" #[] e1):=⟨_,get?_update_seq ho (fun _=>#[])⟩
 refine wpAny_bind (seqEpoch_at ho1 rfl ?_)
 refine wpAny_bind (wpAny_newTuple ?_ (Nat.zero_le _))
 refine wpAny_bind (wpAny_newList ?_ (Nat.zero_le _))
 refine wpAny_holding ?_
 have ho6:(((s.heap.update a (Obj.mapSeq fun _=>#[])).push (seqObj "tuple" ([]:List Value).toArray 0)).push (seqObj "list" #[] 0)).get? a=some (seqObj "list" #[] e1):=by
  rw [Heap.get?_push_ne _ _ _ (by rw [size_push',Heap.size_update]; exact Nat.ne_of_lt (Nat.lt_succ_of_lt ha)),Heap.get?_push_ne _ _ _ (by rw [Heap.size_update]; exact Nat.ne_of_lt ha)]
  exact ho1
 show wpAny (model prog w) A _ P E { s with heap:=((s.heap.update a (Obj.mapSeq fun _=>#[])).push (seqObj "tuple" ([]:List Value).toArray 0)).push (seqObj "list" #[] 0) }
 dsimp only
 rw [if_pos (by decide),if_pos (by decide)]
 refine wpAny_bind (wpAny_pure ?_)
 rw [StateT.run_pure]
 refine wpAny_bind (wpAny_pure ?_)
 dsimp only
 refine wpAny_bind (seqEpoch_at ho6 rfl ?_)
 have e0:(Array.map (fun x=>x.snd) (arrOf (SortSt.mk' general' ((#[]:Array Value).zip (#[]:Array Value)) #[] 7 none)))=(#[]:Array Value):=by
  show Array.map (fun x=>x.snd) ((#[]:Array Value).zip (#[]:Array Value))=#[]
  simp
 refine wpAny_bind (listUpdate_at ho6 rfl ?_ (Nat.zero_le _) (hsz2:=by
  have e1:(Array.map (fun x=>x.snd) (arrOf (SortSt.mk' general' ((#[]:Array Value).zip (#[]:Array Value)) #[] 7 none))).size=0:=by rw [e0]; rfl
  first | exact Nat.le_trans (Nat.le_of_eq e1) (Nat.zero_le _) | (show _<=_; omega)))
 simp only [bne_self_eq_false,Bool.false_eq_true,if_false]
 refine wpAny_pure ?_
 show P (.done (.ret .none)) { s with heap:=(((s.heap.update a (Obj.mapSeq fun x=>#[])).push (seqObj "tuple" ([]:List Value).toArray 0)).push (seqObj "list" #[] 0)).update a (Obj.mapSeq fun x=>Array.map (fun x=>x.snd) (arrOf (SortSt.mk' general' ((#[]:Array Value).zip (#[]:Array Value)) #[] 7 none))) }
 rw [e0]
 exact h
theorem Bs {v:Value} {Q:Value->Shared->Prop} {κ:SortKind} (Col:List Value->Shared->Prop) (hc:wpAny (model prog w) A.in1 (collect v) Col E s)
  (h:∀ vs s1,Col vs s1->vs.length < 64/\∃ lt:Nat->Nat->Bool,(∀ i j k,i < vs.length->j < vs.length->k < vs.length->lt j i=false->lt k j=false->lt k i=false)/\(∀ i j,i < vs.length->j < vs.length->lt i j=true->lt j i=false)/\
   (∀ (A':Around) (s':Shared),(∀ b o,s1.heap.get? b=some o->s'.heap.get? b=some o)->0 < vs.length->∀ (Q:SortKind->Shared->Prop) E',Q κ s'->wpAny (model prog w) A' (keyKind' vs.toArray) Q E' s')/\
   (∀ (s':Shared),(∀ b o,s1.heap.get? b=some o->s'.heap.get? b=some o)->∀ i j,i < vs.length->j < vs.length->∀ Q:Bool->Shared->Prop,Q (lt i j) s'->wpAny (model prog w) A.in1.in1 (keyLt' κ (vs.getD i Value.none) (vs.getD j Value.none)) Q (fun _ _=>False) s')/\
   ∀ (p:List Nat) (h':Heap) (e:Nat),p.Perm (List.range vs.length)->p.Pairwise (fun i j=>lt j i=false)->(∀ b o,s1.heap.get? b=some o->h'.get? b=some o)->h'.get? s1.heap.objs.size=some (seqObj "list" (p.map fun i=>vs.getD i Value.none).toArray e)->Q (.ref s1.heap.objs.size) { s1 with heap:=h' }):
  wpAny (model prog w) A (call (.builtin "sorted") [v]) Q E s:=by
 refine Calls.call_function_entry kind_sorted plain_sorted entry_sorted (args_sorted1 _) ?_
 unfold Builtin.«sorted»
 refine wpAny_bind (m:=checkCount "sorted" 1 1 _) (wpAny_pure ?_)
 refine wpAny_bind (wpAny_mono hc (fun vs s1 c=>?_) fun _ _ x=>x)
 obtain ⟨h64,lt,tr,as,hk,hlt,fin⟩:=h vs s1 c
 refine wpAny_bind (wpAny_newList ?_ (by rw [sizeLine_eq]; omega))
 have hoL:(s1.heap.push (seqObj "list" vs.toArray 0)).get? s1.heap.objs.size=some (seqObj "list" vs.toArray 0):=Heap.get?_push_size _ rfl
 have keep:∀ b o,s1.heap.get? b=some o->b≠s1.heap.objs.size/\(s1.heap.push (seqObj "list" vs.toArray 0)).get? b=some o:=fun b o q=>⟨Nat.ne_of_lt (Heap.lt_size q),Heap.get?_push_of_some _ q⟩
 show wpAny _ _ _ _ _ { s1 with heap:=s1.heap.push (seqObj "list" vs.toArray 0) }
 refine wpAny_bind (wpAny_holding (wpAny_call_entry slot_list_sort ⟨_,hoL,rfl⟩ entry_list_sort ?_ (args_list_sort _)))
 have tree:wpAny (model prog w) A.in1.in1 (Builtin.«list.sort» ⟨[.ref s1.heap.objs.size],[]⟩) (fun r s'=>∃ p:List Nat,r=.done (.ret .none)/\p.Perm (List.range vs.length)/\p.Pairwise (fun i j=>lt j i=false)/\s'={ s1 with heap:=sortedHeap (s1.heap.push (seqObj "list" vs.toArray 0)) s1.heap.objs.size vs (p.map fun i=>vs.getD i Value.none).toArray }) E { s1 with heap:=s1.heap.push (seqObj "list" vs.toArray 0) }:=by
  by_cases h0:0 < vs.length
  ·exact mQ (κ:=κ) lt tr as hoL h64 (fun s' kp Q hq=>hk _ s' (fun b o e=>kp b o (keep b o e).1 (keep b o e).2) h0 Q _ hq) (fun s' kp i j hi hj Q hq=>hlt s' (fun b o e=>kp b o (keep b o e).1 (keep b o e).2) i j hi hj Q hq) fun p a1 a2=>⟨p,rfl,a1,a2,rfl⟩
  ·have e0:vs=[]:=List.length_eq_zero_iff.mp (by omega)
   subst e0
   exact kM hoL ⟨[],rfl,List.Perm.refl _,List.Pairwise.nil,rfl⟩
 refine wpAny_mono tree (fun r s' hr=>?_) fun _ _ x=>x
 obtain ⟨p,rfl,a1,a2,rfl⟩:=hr
 refine ⟨_,rfl,wpAny_pure ⟨_,rfl,?_⟩⟩
 obtain ⟨e,he⟩:=sortedHeap_at (h:=s1.heap.push (seqObj "list" vs.toArray 0)) (out:=(p.map fun i=>vs.getD i Value.none).toArray) hoL
 exact fin p _ e a1 a2 (fun b o q=>(sortedHeap_old (keep b o q).1 (by rw [size_push']; exact Nat.lt_succ_of_lt (Heap.lt_size q))).trans (keep b o q).2) he
end
end L2
set_option Elab.async false
set_option linter.all false
set_option maxRecDepth 100000
namespace L2
open PySem PySem.Spec PyProof.Rows PySem.SeqAt PySem.W
def kN (H:Hp) (ps:List (Addr×List V)):Hp:=fun b=>match ps.lookup b with
 | some xs=>some (.tup xs)
 | none=>H b
theorem lT {κ:Type} {x:Addr} {k:κ}:∀ {l:List (Addr×κ)},l.lookup x=some k->(x,k)∈l
 | [],h=>by simp at h
 | (n,v) :: r,h=>by
  by_cases hx:x=n
  ·subst hx
   simp only [List.lookup_cons,beq_self_eq_true] at h
   cases h
   exact List.mem_cons_self
  ·have:(x == n)=false:=by simpa using hx
   simp only [List.lookup_cons,this] at h
   exact List.mem_cons_of_mem _ (lT h)
theorem jH {κ:Type} {x:Addr}:∀ {l:List (Addr×κ)},(∀ p∈l,p.1≠x)->l.lookup x=none
 | [],_=>rfl
 | (n,v) :: r,h=>by
  have hx:(x == n)=false:=by
   have:=h (n,v) List.mem_cons_self
   simpa using fun e:x=n=>this e.symm
  simp only [List.lookup_cons,hx]
  exact jH fun p hp=>h p (List.mem_cons_of_mem _ hp)
theorem vP {H:Hp} {ps:List (Addr×List V)} {b:Addr} (h:∀ p∈ps,p.1≠b):kN H ps b=H b:=by
 unfold kN; rw [jH h]
theorem vQ {H:Hp}:∀ {ps:List (Addr×List V)} {j:Nat} {a:Addr} {xs:List V},(ps.map (·.1)).Nodup->ps[j]?=some (a,xs)->kN H ps a=some (.tup xs)
 | [],_,_,_,_,h=>by simp at h
 | (n,v) :: r,0,a,xs,_,h=>by
  simp at h
  obtain ⟨rfl,rfl⟩:=h
  unfold kN
  simp [List.lookup_cons]
 | (n,v) :: r,j+1,a,xs,nd,h=>by
  have nd':(n :: r.map (·.1)).Nodup:=nd
  obtain ⟨n1,n2⟩:=List.nodup_cons.mp nd'
  have h':r[j]?=some (a,xs):=by simpa using h
  have ne:(a == n)=false:=by
   have:a∈r.map (·.1):=List.mem_map.mpr ⟨_,List.mem_of_getElem? h',rfl⟩
   simpa using fun e:a=n=>n1 (e ▸ this)
  have ih:=vQ (H:=H) n2 h'
  unfold kN at ih ⊢
  simp only [List.lookup_cons,ne]
  exact ih
section
variable {X:Cx} {pins:List (Addr×Obj)} {σ:St} {H:Hp} {s:Shared} {h':Heap}
theorem Inv.laidT {ps:List (Addr×List V)} {t':Nat} (I:Inv X pins σ H s) (k:∀ b u,s.heap.get? b=some u->h'.get? b=some u) (hp:∀ p∈ps,s.heap.objs.size<=p.1) (new:∀ p∈ps,p.2.length<=sizeLine/\∃ its:List Value,aH p.2 its/\iY h' p.1 its.toArray):
  Inv X pins σ (kN H ps) { s with heap:=h',toks:=t' }:=by
 have nb:∀ b,b < s.heap.objs.size->∀ p∈ps,p.1≠b:=fun b hb p hp' e=>Nat.lt_irrefl _ (Nat.lt_of_lt_of_le hb (e ▸ hp p hp'))
 have old:∀ b,b < s.heap.objs.size->kN H ps b=H b:=fun b hb=>vP (nb b hb)
 refine I.un ⟨fun b u q _ _ _=>k b u q,fun b u q _ _ _=>⟨u.slots,k b u q⟩,fun b u q n _=>(old b (Heap.lt_size q)).trans n,fun b u q _=>⟨u,k b u q⟩,fun b xs q=>(old b (I.hok.lt q)).trans q,fun b u xs q=>(old b (I.hok.lt q)).trans q,fun b ps' q=>⟨#[],by rw [old b (I.hok.lt q),q]; simp⟩⟩ ?_
 intro b u e
 unfold kN at e
 cases q:ps.lookup b with
 | some xs=>
  rw [q] at e
  cases e
  obtain ⟨z,its,r,p⟩:=new _ (lT q)
  exact ⟨z,its,r,p⟩
 | none=>
  rw [q] at e
  have hb:=I.hok.lt e
  exact (I.hok b u e).stay (fun c v _ q=>k c v q) (fun c q=>(old c (I.hok.lt q)).trans q) fun c xs q=>(old c (I.hok.lt q)).trans q
theorem Bt (I:Inv X pins σ H s) {ps:List (Addr×List V)} (hp:∀ p∈ps,s.heap.objs.size<=p.1):vF H (kN H ps):=fun b o e=>by
 have nb:∀ p∈ps,p.1≠b:=fun p hp' z=>Nat.lt_irrefl _ (Nat.lt_of_lt_of_le (I.hok.lt e) (z ▸ hp p hp'))
 rw [vP nb]
 exact e
end
def yY (v d:Addr):HO:=.ext fun h=>h.IsItemsView v d
section
variable {X:Cx}
def CL:V->List V->Hp->VK->Prop:=fun x xs H Q=>∃ d kvs,x=.ref d/\xs=[]/\H d=some (.dK kvs)/\∀ l,H l=none->Q (.ref l) (upd H l (yY l d))
theorem CM:MtR X "dict.items" CL:=by
 intro pins s σ H x xs v us Q I rx rv h
 obtain ⟨d,kvs,rfl,rfl,hd,q⟩:=h
 cases rx
 cases rv
 obtain ⟨z,y,vs,r,D⟩:=I.hok d _ hd
 refine call_meetsIn PySem.F.slot_dict_items D.typeIs PySem.F.entry_dict_items (PySem.F.args_dict_items_1 _) (meets_dict_items (aQ X.prog X.w) d y) ⟨⟨vs,D⟩,?_⟩
 refine ⟨.ref s.heap.objs.size,_,I.laid (t':=s.toks) (o:=yY s.heap.objs.size d) (fun b u e=>Heap.get?_push_of_some _ e) (Nat.le_refl _) ?_,rfl,q _ I.fresh⟩
 exact ⟨⟨_,Heap.get?_push_size _ rfl,rfl,rfl⟩,⟨_,Heap.get?_push_size _ rfl⟩,fun h1 h2 ⟨o,e,p⟩ k=>⟨o,k o e,p⟩⟩
def tH (K:PySem.W.Frag) (kss:List (List Key)) (Q:VK) (H1:Hp):Prop:=∀ (l:Addr) (kss':List (List Key)) (vs':List V),H1 l=none->kss'.Perm kss->kss'.Pairwise (fun a b=>aV b a=false)->bW K H1 (kss'.map tD) vs'->Q (.ref l) (upd H1 l (.lst vs'))
def HQ (K:PySem.W.Frag):List V->Hp->VK->Prop:=fun xs H Q=>∃ (p:Addr) (kss:List (List Key)) (sh:List Bool) (b:Bool),xs=[.ref p]/\kss.length < 64/\(∀ ks∈kss,shape ks=b :: sh)/\
 ((∃ vs,SqL K H p vs/\bW K H (kss.map tD) vs/\tH K kss Q H)\/
  (∃ d kvs,H p=some (yY p d)/\H d=some (.dK kvs)/\kvs.map (fun kv=>[kV kv.1,kv.2])=kss.map (fun ks=>ks.map kV)/\∀ H1,vF H H1->tH K kss Q H1))
theorem rN {α:Type} {xs:List α} {d:α} {p:List Nat} (h:p.Perm (List.range xs.length)):(p.map fun i=>xs.getD i d).Perm xs:=by
 have e:(List.range xs.length).map (fun i=>xs.getD i d)=xs:=by
  apply List.ext_getElem?
  intro i
  by_cases hi:i < xs.length
  ·simp [hi]
  ·simp [hi]
 have:=h.map fun i=>xs.getD i d
 rwa [e] at this
theorem rO {K:PySem.W.Frag} {H:Hp} {ds:List D} {vs:List V} (r:bW K H ds vs):∀ {p:List Nat},(∀ i∈p,i < ds.length)->bW K H (p.map fun i=>ds.getD i .non) (p.map fun i=>vs.getD i .non)
 | [],_=>trivial
 | i :: p,h=>by
  have hi:=h i List.mem_cons_self
  have g:ds[i]?=some (ds.getD i .non):=by simp [hi]
  obtain ⟨v,hv,hr⟩:=r.at g
  have e:vs.getD i .non=v:=by simp [List.getD_eq_getElem?_getD,hv]
  refine ⟨?_,rO r fun j hj=>h j (List.mem_cons_of_mem _ hj)⟩
  show Rep K H (ds.getD i .non) (vs.getD i .non)
  rw [e]
  exact hr
theorem kQ {vs:List V} {us:List Value} (r:aH vs us):∀ {p:List Nat},(∀ i∈p,i < vs.length)->aH (p.map fun i=>vs.getD i .non) (p.map fun i=>us.getD i Value.none)
 | [],_=>.nil
 | i :: p,h=>by
  have hi:=h i List.mem_cons_self
  have g:vs[i]?=some (vs.getD i .non):=by simp [hi]
  obtain ⟨u,hu,hr⟩:=r.get g
  have e:us.getD i Value.none=u:=by simp [List.getD_eq_getElem?_getD,hu]
  refine .cons ?_ (kQ r fun j hj=>h j (List.mem_cons_of_mem _ hj))
  show RelV (vs.getD i .non) (us.getD i Value.none)
  rw [e]
  exact hr
theorem tI (hc:X.calm=true) (K:PySem.W.Frag) (hK:X.K=K):bI X (.builtin "sorted") (HQ K):=by
 subst hK
 intro pins s σ H xs us Q I r h
 obtain ⟨p,kss,sh,b,rfl,h64,hsh,h⟩:=h
 obtain ⟨u,rfl,ru⟩:=vals1 r
 cases ru
 have shOf:∀ i,i < kss.length->shape (kss.getD i [])=b :: sh:=fun i hi=>by
  have:kss.getD i []=kss[i]:=by simp [hi]
  rw [this]
  exact hsh _ (List.getElem_mem hi)
 refine Bs (κ:=tuples' true) (fun its s1=>∃ H1 vs,Inv X pins σ H1 s1/\aH vs its/\bW X.K H1 (kss.map tD) vs/\tH X.K kss Q H1) ?col ?fin
 case fin=>
  rintro its s1 ⟨H1,vs,I1,rv,rr,fin⟩
  have l1:=rv.length
  have l2:kss.length=vs.length:=by simpa using rr.length
  have hlen:its.length=kss.length:=by omega
  have tk:=iL I1 rr rv
  refine ⟨by omega,fun i j=>aV (kss.getD i []) (kss.getD j []),fun i j k hi hj hk h1 h2=>?_,fun i j _ _ h=>jE h,fun A' s' kp h0 Q' E' hq=>?_,fun s' kp i j hi hj Q' hq=>?_,fun q h' e a1 a2 kp he=>?_⟩
  ·exact gR ((shOf i (by omega)).trans (shOf j (by omega)).symm) ((shOf j (by omega)).trans (shOf k (by omega)).symm) h1 h2
  ·exact rK (tk.kept kp) hsh h0 hq
  ·obtain ⟨a,ua,e1,p1,r1⟩:=(tk.kept kp).get hi
   obtain ⟨c,uc,e2,p2,r2⟩:=(tk.kept kp).get hj
   rw [e1,e2]
   exact oD p1 p2 r1 r2 ((shOf i (by omega)).trans (shOf j (by omega)).symm) hq
  ·have hin:∀ i∈q,i < kss.length:=fun i hi=>by
    have:=a1.mem_iff.mp hi
    rw [List.mem_range] at this
    omega
   rw [hlen] at a1
   have rr':=rO rr (p:=q) (fun i hi=>by rw [List.length_map]; exact hin i hi)
   have em:(q.map fun i=>(kss.map tD).getD i .non)=(q.map fun i=>kss.getD i []).map tD:=by
    rw [List.map_map]
    apply List.map_congr_left
    intro i hi
    have:=hin i hi
    simp [this]
   rw [em] at rr'
   refine ⟨.ref s1.heap.objs.size,_,I1.laid (t':=s1.toks) (o:=.lst (q.map fun i=>vs.getD i .non)) kp (Nat.le_refl _) ?_,rfl,fin _ _ _ I1.fresh (rN a1) ?_ rr'⟩
   ·refine ⟨?_,q.map (fun i=>its.getD i Value.none),e,kQ rv (fun i hi=>by have:=hin i hi; omega),he⟩
    rw [List.length_map,a1.length_eq,List.length_range,sizeLine_eq]
    omega
   ·rw [List.pairwise_map]
    exact a2
 case col=>
  rcases h with ⟨vs,hq,rr,fin⟩ | ⟨d,kvs,hv,hd,hk,fin⟩
  ·obtain ⟨its,rv,pl,hz⟩:=I.list hq
   refine collect_list pl.isList ?_ (by have:=rv.length; omega)
   exact ⟨H,vs,I.kept (t':=s.toks) fun b o e=>by
    have hlt:b < s.heap.objs.size:=Heap.lt_size e
    first
     | (rw [Heap.get?_update_ne _ _ _ _ (Nat.ne_of_lt hlt),Heap.get?_push_ne _ _ _ (Nat.ne_of_lt hlt)]; exact e)
     | exact Heap.get?_push_of_some _ e,rv,rr,fin⟩
  ·obtain ⟨hview,_,_⟩:=I.hok p _ hv
   obtain ⟨z,y,vs,rkv,D⟩:=I.hok d _ hd
   obtain ⟨ep,D'⟩:=D.dictAt
   have lkv:kvs.length=vs.length:=KV.length rkv
   have lks:kvs.length=kss.length:=by simpa using congrArg List.length hk
   refine kdx_collect (A:=X.A.in1) (knd:=aQ X.prog X.w) (kvs:=vs) (ep:=ep) (I.ok.hd hc) hview D' (by rw [sizeLine_eq]; omega) fun h' tk as kp hl hG=>?_
   -- the new tuples
   let ps:List (Addr×List V):=as.zip (kss.map fun ks=>ks.map kV)
   have psl:ps.map (·.1)=as:=by
    show (as.zip _).map Prod.fst=as
    rw [List.map_fst_zip]
    rw [List.length_map]
    omega
   have hpl:∀ q∈ps,s.heap.objs.size<=q.1:=fun q hq=>by
    have:q.1∈as:=by rw [<- psl]; exact List.mem_map.mpr ⟨q,hq,rfl⟩
    exact Nat.le_of_lt (hG.above _ this)
   have nd:(ps.map (·.1)).Nodup:=by
    rw [psl]
    exact hG.rise.imp fun h=>Nat.ne_of_lt h
   have each:∀ (j:Nat) (a:Addr),as[j]?=some a->∃ ks us,kss[j]?=some ks/\ps[j]?=some (a,ks.map kV)/\aH (ks.map kV) us/\iY h' a us.toArray/\ks.length<=2:=fun j a ha=>by
    obtain ⟨key,kk,x,e1,e2,e3⟩:=hG.pairs j a ha
    have hj:j < kss.length:=by
     have:=(List.getElem?_eq_some_iff.mp ha).1
     omega
    have hjk:j < kvs.length:=by omega
    have g1:kss[j]?=some kss[j]:=by simp [hj]
    have g2:kvs[j]?=some kvs[j]:=by simp [hjk]
    have g3:(kss[j]).map kV=[kV kvs[j].1,kvs[j].2]:=by
     have:=congrArg (fun l=>l[j]?) hk
     simp [g1,g2] at this
     exact this.symm
    -- the raw pair
    have rr:∀ {kvs:List (Key×V)} {vs:List (Key×Value)} {j:Nat} {kv:Key×V} {w':Key×Value},KV kvs vs->kvs[j]?=some kv->vs[j]?=some w'->kv.1=w'.1/\RelV kv.2 w'.2:=by
     intro kvs vs j kv w' h
     induction h generalizing j with
     | nil=>intro h1; simp at h1
     | cons r t ih=>
      intro h1 h2
      cases j with
      | zero=>simp at h1 h2; subst h1 h2; exact r
      | succ j=>exact ih (by simpa using h1) (by simpa using h2)
    obtain ⟨q1,q2⟩:=rr rkv g2 e1
    refine ⟨kss[j],[key,x],g1,?_,?_,⟨_,e3,rfl,⟨0,rfl⟩,rfl⟩,?_⟩
    ·show (as.zip _)[j]?=_
     rw [List.getElem?_zip_eq_some]
     exact ⟨ha,by simp [g1]⟩
    ·rw [g3]
     refine .cons ?_ (.cons q2 .nil)
     rw [q1]
     have e2':lM kk key=true:=e2
     rcases aR e2' with ⟨i,t,rfl,rfl⟩ | ⟨y,t,rfl,rfl⟩
     ·exact ⟨t,rfl⟩
     ·exact ⟨t,rfl⟩
    ·have:=congrArg List.length g3
     simp at this
     omega
   have I1:Inv X pins σ (kN H ps) { s with heap:=h',toks:=tk }:=I.laidT kp hpl fun q hq=>by
    obtain ⟨j,hj⟩:=List.mem_iff_getElem?.mp hq
    have ha:as[j]?=some q.1:=by
     have:=congrArg (fun l=>l[j]?) psl
     simp [hj] at this
     exact this.symm
    obtain ⟨ks,us,_,e2,e3,e4,e5⟩:=each j q.1 ha
    rw [hj] at e2
    have eq2:q.2=ks.map kV:=by
     have:=Option.some.inj e2
     rw [this]
    refine ⟨?_,us,by rw [eq2]; exact e3,e4⟩
    rw [eq2,List.length_map,sizeLine_eq]
    omega
   refine ⟨kN H ps,as.map V.ref,I1,?_,?_,fin _ (Bt I hpl)⟩
   ·have:∀ l:List Addr,aH (l.map V.ref) (l.map Value.ref):=fun l=>by
     induction l with
     | nil=>exact .nil
     | cons a l ih=>exact .cons rfl ih
    exact this as
   ·have gen:∀ (l:List Addr) (ls:List (List Key)),l.length=ls.length->(∀ (j:Nat) a ks,l[j]?=some a->ls[j]?=some ks->kN H ps a=some (.tup (ks.map kV)))->bW X.K (kN H ps) (ls.map tD) (l.map V.ref):=by
     intro l
     induction l with
     | nil=>
      intro ls hl _
      cases ls with
      | nil=>exact trivial
      | cons _ _=>cases hl
     | cons a l ih=>
      intro ls hl hh
      cases ls with
      | nil=>cases hl
      | cons ks ls=>
       refine ⟨⟨a,_,rfl,SqT.of (hh 0 a ks rfl rfl),rJ ks⟩,ih ls (by simpa using hl) fun j a' ks' h1 h2=>hh (j+1) a' ks' (by simpa using h1) (by simpa using h2)⟩
    refine gen as kss (by omega) fun j a ks h1 h2=>?_
    obtain ⟨ks',us,e1,e2,_⟩:=each j a h1
    rw [h2] at e1
    cases e1
    exact vQ nd e2
end
end L2
set_option Elab.async false
set_option linter.all false
set_option maxRecDepth 100000
namespace L2
open PySem PySem.Spec PyProof.Rows
theorem qG:typeLookup (.type "tuple") "keys" = pure none:=by rw [typeLookup_type,builtinLookup_eq_fast]; kernel_rfl
theorem cP:entryFor table "dict.update.loop" = some Builtin.«dict.update.loop»:=entryFor_of_tree (by kernel_rfl)
theorem bA:plainId "dict.update.loop" = true:=by decide +kernel
theorem qH {prog:Program} {w:World} {A:Around} {E:Value->Shared->Prop} {s:Shared} {a:Addr} {o:Obj} {xs:Array Value} {k:Nat} {Q:Option Value->Shared->Prop}
  (hx:s.heap.get? a=some o) (hc:o.cls=.type "tuple") (hdat:o.data=.seq xs k) (hd:o.dict=none) (hA:A.handled=none)
  (h:∀ h' tk,(∀ b u,s.heap.get? b=some u->h'.get? b=some u)->Q none { s with heap:=h',toks:=tk }):wpAny (model prog w) A (getAttr? (.ref a) "keys") Q E s:=by
 obtain ⟨c,dct,dat,sl⟩:=o
 simp only at hc hdat hd
 subst hc hdat hd
 obtain ⟨hp,g,d,tk,os⟩:=s
 have hT:∀ tk',(⟨hp,g,d,tk',os⟩:Shared).TypeIs (.ref a) "tuple" := fun _=>⟨_,hx,rfl⟩
 have f1:=sub_AttributeError
 have f3:=F.slot_tuple_getattribute.lookup
 have f4:=F.slot_tuple_getattribute.bind (.ref a)
 have f5:=am_tuple_getattr_none
 unfold getAttr? getAttrBy? getAttrBy
 repeat (any_goals (first | assumption | exact hT _ | ((with_reducible show wpAny _ _ (call (Value.builtin "tuple.__getattribute__") _ _) _ _ _); refine call_meets F.slot_tuple_getattribute (hT _) am_entry_tuple_getattribute (F.args_tuple_getattribute_2 _ _) (meets_getattribute_miss_tuple a xs k sl "keys" _ qG (by decide) (by size_fits)) ⟨hx,hA,fun h' tk' e hx'=>?_⟩) | wp_step))
 obtain ⟨t',u',he⟩:=hx'.there
 show wpAny _ _ (getattributeRaised _ _ _ _ _ _ _) _ _ _
 unfold getattributeRaised
 repeat (any_goals (first | assumption | wp_step))
 exact h _ _ hx'.of.keeps
section
variable {prog:Program} {w:World} {K:Type} [DecidableEq K] {knd:KeyKind prog w K} {A:Around} {R:Result->Shared->Prop}
theorem yZ {I d:Addr} {fp wr:List Addr} {n:Nat} {P:Nat->Value->Prop} {St:Nat->Heap->Prop} (W:Walks prog w A.in1 I fp wr n P St) (hd:d∉fp) (ps:List (Addr×K×Value×Value)) (hn:ps.length=n)
  (hP:∀ i v,P i v->∃ p,ps[i]?=some p/\v=.ref p.1) (hT:∀ p∈ps,p.1∉wr/\p.1≠d) (hk:∀ p∈ps,knd.is p.2.1 p.2.2.1=true) (res:Value):
  ∀ (m i:Nat) (s:Shared) (kvs:List (K×Value)),n - i=m->i<=n->St i s.heap->s.heap.DictOf knd d kvs->kvs.length+n<=sizeLine+i->(∀ p∈ps,IsTup s.heap p.1 #[p.2.2.1,p.2.2.2])->
  (∀ h' tk,h'.DictOf knd d (merged kvs ((ps.drop i).map fun p=>(p.2.1,p.2.2.2)))->(∀ b o,b≠d->b∉wr->s.heap.get? b=some o->h'.get? b=some o)->R (.ok (.ret res)) { s with heap:=h',toks:=tk })->
  codeAny (model prog w) A (.builtin "dict.update.loop" ⟨[.ref d,.ref I,rawInt i,res],[]⟩) R s:=by
 have hdw:d∉wr:=fun h=>hd (W.sub _ h)
 intro m
 induction m with
 | zero=>
  intro i s kvs hm hi hst hdt hz hit hR
  have hin:i=n:=by omega
  subst hin
  refine codeAny_builtin cP ?_
  rw [Around.under_plainId bA _]
  show wpAny _ A.in1 (pyNext (.ref I) >>= _) _ _ s
  refine wpAny_bind (W.done s _ _ hst fun h' tk hk'=>?_)
  show wpAny _ A.in1 (Builtin.Dict.addKeywords d [] >>= _) _ _ _
  have hfin:=hR h' tk (by
   rw [List.drop_of_length_le (by omega)]
   obtain ⟨o,es,ep,h1,h2⟩:=hdt
   exact ⟨o,es,ep,hk' d _ hdw h1,h2⟩) fun b o _ hb e=>hk' b o hb e
  exact wpAny_bind (wpAny_pure (wpAny_pure hfin))
 | succ m ih=>
  intro i s kvs hm hi hst hdt hz hit hR
  have hlt:i < n:=by omega
  refine codeAny_builtin cP ?_
  rw [Around.under_plainId bA _]
  show wpAny _ A.in1 (pyNext (.ref I) >>= _) _ _ s
  refine wpAny_bind (W.item i s _ _ hlt hst fun v h' tk hPv hst' hk'=>?_)
  obtain ⟨p,hp,rfl⟩:=hP i v hPv
  have hpm:=List.mem_of_getElem? hp
  obtain ⟨ob,hb1,hb2,nn,hb3⟩:=hit p hpm
  have hb1':=hk' _ _ (hT p hpm).1 hb1
  have hTy:({ s with heap:=h',toks:=tk }:Shared).TypeIs (.ref p.1) "tuple" := ⟨ob,hb1',hb2⟩
  have hdt':h'.DictOf knd d kvs:=by
   obtain ⟨o,es,ep,h1,h2⟩:=hdt
   exact ⟨o,es,ep,hk' d _ hdw h1,h2⟩
  refine wpAny_bind (wpAny_holding (wpAny_bind (wpAny_tryCatch ?_)))
  unfold Builtin.Dict.pairItems
  refine wpAny_bind (wpAny_typeOf hTy ?_)
  rw [if_pos (by decide)]
  refine wpAny_bind (wpAny_seqItems hb1' hb3 (wpAny_pure ?_))
  show wpAny _ _ (holding [p.2.2.1,p.2.2.2] (dictSet d p.2.2.1 p.2.2.2)) _ _ _
  refine wpAny_holding (wpAny_dictSet_pairs (hk p hpm) hdt' (hsz:=by omega) fun h2 hd2 hs2=>?_)
  refine wpAny_pure ⟨plainId_quiet bA _,?_⟩
  have st2:St (i+1) h2:=W.frame (i+1) h' h2 hst' fun b hb o e=>(hs2.2 b (fun z=>hd (z ▸ hb))).trans e
  refine ih (i+1) _ (stored kvs p.2.1 p.2.2.2) (by omega) hlt st2 hd2 ?_ (fun q hq=>?_) fun h3 tk3 hd3 hk3=>?_
  ·have:=stored_length_le kvs p.2.1 p.2.2.2
   omega
  ·obtain ⟨ob',c1,c2⟩:=hit q hq
   exact ⟨ob',(hs2.2 _ (hT q hq).2).trans (hk' _ _ (hT q hq).1 c1),c2⟩
  ·refine hR h3 tk3 ?_ fun b o hb hw e=>hk3 b o hb hw ((hs2.2 b hb).trans (hk' b o hw e))
   have hdr:ps.drop i=p :: ps.drop (i+1):=by
    obtain ⟨hl,e⟩:=List.getElem?_eq_some_iff.mp hp
    rw [List.drop_eq_getElem_cons hl,e]
   rw [hdr]
   exact hd3
theorem mR {E:Value->Shared->Prop} {s:Shared} {a:Addr} {o:Obj} {k:Nat} {ps:List (Addr×K×Value×Value)} {Q:Value->Shared->Prop} (hA:A.handled=none) (hx:s.heap.get? a=some o) (hc:o.cls=.type "tuple") (hdat:o.data=.seq (ps.map fun p=>Value.ref p.1).toArray k) (hd:o.dict=none)
  (hk:∀ p∈ps,knd.is p.2.1 p.2.2.1=true) (hit:∀ p∈ps,IsTup s.heap p.1 #[p.2.2.1,p.2.2.2]) (hz:ps.length<=sizeLine)
  (h:∀ h' tk,h'.DictOf knd s.heap.objs.size (merged [] (ps.map fun p=>(p.2.1,p.2.2.2)))->(∀ b u,s.heap.get? b=some u->h'.get? b=some u)->Q (.ref s.heap.objs.size) { s with heap:=h',toks:=tk }):
  wpAny (model prog w) A (call (.type "dict") [.ref a]) Q E s:=by
 refine callType_codes (Q₁:=fun obj s₁=>obj=.ref s.heap.objs.size/\s₁={ s with heap:=s.heap.push { cls:=.type "dict",data:=.dict #[] } }) F.kt_called_dict (F.kt_typeCall_dict_1 _) F.entry_dict_init (kt_code_dict_new _ ⟨rfl,rfl⟩) ?_
 rintro obj s₁ ⟨rfl,rfl⟩
 have hnew:(s.heap.push { cls:=.type "dict",data:=.dict #[] }).DictOf knd s.heap.objs.size []:=Heap.DictOf.new s.heap
 have up:∀ b u,s.heap.get? b=some u->(s.heap.push { cls:=.type "dict",data:=.dict #[] }).get? b=some u:=fun b u e=>Heap.get?_push_of_some _ e
 have hTa:({ s with heap:=s.heap.push { cls:=.type "dict",data:=.dict #[] } }:Shared).TypeIs (.ref a) "tuple" := ⟨o,up _ _ hx,hc⟩
 refine ⟨hnew.typeIs,F.args_dict_init_2 _ _,?_⟩
 unfold Builtin.«dict.__init__»
 refine wpAny_bind ?_; unfold Builtin.Dict.selfAndRest
 refine wpAny_bind (wpAny_notOrdered_dict hnew.typeIs (show wpAny _ _ (pure (s.heap.objs.size,[Value.ref a])) _ _ _ from wpAny_pure ?_))
 show wpAny _ _ (Builtin.Dict.updateFrom "dict.__init__" s.heap.objs.size (.ref a) [] .none) _ _ _
 unfold Builtin.Dict.updateFrom
 refine wpAny_bind (wpAny_typeOf hTa ?_)
 rw [if_pos (by decide)]
 refine wpAny_bind (qH (up _ _ hx) hc hdat hd hA fun h1 tk1 kp1=>?_)
 rw [if_pos (by rfl)]
 refine wpAny_bind (wpAny_rule ?_)
 have ha1:IsTup h1 a (ps.map fun p=>Value.ref p.1).toArray:=⟨o,kp1 _ _ (up _ _ hx),hc,k,hdat⟩
 refine wpAny_bind (wpAny_pyIter_tuple (show ({ s with heap:=h1,toks:=tk1 }:Shared).heap.IsTuple a _ from ha1) (wpAny_pure ⟨plainId_quiet bA _,?_⟩))
 have lt0:s.heap.objs.size < h1.objs.size:=by
  have:=kp1 s.heap.objs.size _ (Heap.get?_push_size s.heap rfl)
  exact Heap.lt_size this
 have hlt:∀ b u,s.heap.get? b=some u->b < s.heap.objs.size:=fun b u e=>Heap.lt_size e
 have ha0:=hlt _ _ hx
 refine yZ (knd:=knd) (fp:=[h1.objs.size,a]) (wr:=[h1.objs.size]) (n:=(ps.map fun p=>Value.ref p.1).toArray.size) (Walks.tuple (A:=A.in1.in1) hA h1.objs.size a (Nat.ne_of_lt (Nat.lt_trans ha0 lt0)) (ps.map fun p=>Value.ref p.1).toArray) ?_ ps (by simp) (fun i v e=>?_) (fun p hp=>?_) hk .none _ 0 _ [] (Nat.sub_zero _) (Nat.zero_le _) ?_ ?_ (by simpa using hz) (fun p hp=>?_) fun h' tk dd kk=>?_
 ·intro z
  rcases List.mem_cons.mp z with z | z
  ·exact Nat.ne_of_lt lt0 z
  ·exact Nat.ne_of_lt ha0 (List.mem_singleton.mp z).symm
 ·have e':(ps.map fun p=>Value.ref p.1)[i]?=some v:=by simpa using e
  rw [List.getElem?_map] at e'
  obtain ⟨p,hp,rfl⟩:=Option.map_eq_some_iff.mp e'
  exact ⟨p,hp,rfl⟩
 ·obtain ⟨ob,e,_⟩:=hit p hp
  have h0:=hlt _ _ e
  exact ⟨fun z=>Nat.ne_of_lt (Nat.lt_trans h0 lt0) (List.mem_singleton.mp z),Nat.ne_of_lt h0⟩
 ·refine ⟨⟨_,Heap.get?_push_size _ rfl,rfl,rfl⟩,?_⟩
  obtain ⟨ob,e,r⟩:=ha1
  exact ⟨ob,Heap.get?_push_of_some _ e,r⟩
 ·obtain ⟨oo,es,ep,e,r⟩:=hnew
  exact ⟨oo,es,ep,Heap.get?_push_of_some _ (kp1 _ _ e),r⟩
 ·obtain ⟨ob,e,r⟩:=hit p hp
  exact ⟨ob,Heap.get?_push_of_some _ (kp1 _ _ (up _ _ e)),r⟩
 ·refine ⟨rfl,h h' tk (by simpa using dd) fun b u e=>?_⟩
  have h0:=hlt _ _ e
  exact kk b u (Nat.ne_of_lt h0) (fun z=>Nat.ne_of_lt (Nat.lt_trans h0 lt0) (List.mem_singleton.mp z)) (Heap.get?_push_of_some _ (kp1 _ _ (up _ _ e)))
end
end L2
set_option Elab.async false
set_option linter.all false
set_option maxRecDepth 100000
namespace L2
open PySem PySem.Spec PyProof.Rows
section
variable {prog:Program} {w:World} {K:Type} [DecidableEq K] {A:Around} {E:Value->Shared->Prop} {s:Shared}
end
section
variable {prog:Program} {w:World} {K:Type} [DecidableEq K]
end
end L2
set_option Elab.async false
set_option linter.all false
set_option maxRecDepth 100000
namespace L2
open PySem PySem.Spec PyProof.Rows
section
variable {prog:Program} {w:World} {A:Around} {E:Value->Shared->Prop} {s:Shared} {v dc it:Addr} {oc:Obj} {es:Array DictEntry} {ep:Nat}
theorem Bu {Q:Value->Shared->Prop} (hv:s.heap.IsValuesView v dc) (h1:s.heap.get? dc=some oc) (h2:oc.data=.dict es ep)
  (q:Q (.ref s.heap.objs.size) { s with heap:=s.heap.push { cls:=.type "dict_valueiterator",data:=.fields #[.ref dc,.int 0 0,.int es.size 0,.int ep 0] } }):wpAny (model prog w) A (pyIter (.ref v)) Q E s:=by
 obtain ⟨ov,g1,g2,g3⟩:=id hv
 refine wpAny_pyIter_slot hv.typeIs F.slot_dict_values_iter (wpAny_call_entry F.slot_dict_values_iter hv.typeIs F.entry_dict_values_iter (show wpAny _ _ (Builtin.«dict_values.__iter__» _) _ _ _ from ?_) (F.args_dict_values_iter_1 _))
 unfold Builtin.«dict_values.__iter__»
 refine wpAny_bind (wpAny_pure (wpAny_bind ?_)); unfold Builtin.Dict_items.dictOf
 refine wpAny_bind (wpAny_field g1 g3 (x:=.ref dc) rfl (wpAny_pure (wpAny_bind ?_))); unfold Builtin.Dict_items.newIterator
 refine wpAny_bind (wpAny_dictEntries h1 h2 (wpAny_bind (wpAny_dictEpoch h1 h2 ?_)))
 rw [show Builtin.Dict_items.ownsTuple "dict_valueiterator" = false by decide]; simp only [Bool.false_eq_true,if_false]
 refine wpAny_newObj_type (wpAny_pure ⟨_,rfl,"dict_valueiterator",_,⟨_,Heap.get?_push_size _ rfl,rfl⟩,F.slot_dict_valueiterator_next.lookup,(by simpa [rawInt] using q)⟩)
theorem CN {i:Nat} {Q:Option Value->Shared->Prop} (hI:s.heap.IsValIter it dc i es.size ep) (h1:s.heap.get? dc=some oc) (h2:oc.data=.dict es ep) (hlt:i < es.size)
  (q:∀ h',h'.IsValIter it dc (i+1) es.size ep->Heap.SameBut it s.heap h'->Q (some es[i].val) { s with heap:=h' }):wpAny (model prog w) A (pyNext (.ref it)) Q E s:=by
 obtain ⟨oi,g1,g2,g3⟩:=id hI
 unfold pyNext
 refine wpAny_bind (wpAny_attempt (wpAny_callSpecial?_slot (name:=Str.ofString "__next__") hI.typeIs F.slot_dict_valueiterator_next (wpAny_call_entry F.slot_dict_valueiterator_next hI.typeIs F.entry_dict_valueiterator_next ?_ (F.args_dict_valueiterator_next_1 _))))
 refine wpAny_bind (wpAny_pure (wpAny_bind (wpAny_bind ?_)))
 first | refine wpAny_bind (wpAny_typeNameOfWhole_valiter hI.typeIs (wpAny_pure ?_)) | refine wpAny_bind (wpAny_typeNameOf_valiter hI.typeIs (wpAny_pure ?_))
 refine wpAny_bind (wpAny_fieldsOf g1 g3 ?_)
 rw [show Builtin.Dict_items.ownsTuple "dict_valueiterator" = false by decide]; simp only [Bool.false_eq_true,if_false]
 show wpAny _ _ (if (Value.ref dc == Value.none)=true then _ else _) _ _ s
 rw [if_neg (show ¬ ((Value.ref dc == Value.none)=true) from Bool.false_ne_true)]
 refine wpAny_bind (wpAny_pure (wpAny_bind (wpAny_dictEntries h1 h2 ?_)))
 rw [if_neg (show ¬ _ by simp)]
 refine wpAny_bind (wpAny_pure (wpAny_bind (wpAny_dictEpoch h1 h2 ?_)))
 rw [if_neg (show ¬ _ by simp)]
 refine wpAny_pure ?_
 simp only [show ¬ ((i:Int) < 0) by omega,if_false,Int.toNat_natCast,Array.getElem?_eq_getElem hlt]
 refine wpAny_bind ?_
 first | refine wpAny_bind (wpAny_typeNameOfWhole_valiter hI.typeIs (wpAny_pure ?_)) | refine wpAny_bind (wpAny_typeNameOf_valiter hI.typeIs (wpAny_pure ?_))
 refine wpAny_bind (wpAny_isOneOf_valiter hI.typeIs (show wpAny _ _ (setField (.ref it) 1 (rawInt ((i:Int)+1)) >>= _) _ _ s from wpAny_bind (wpAny_setField g1 g3 (by simp) ?_)))
 have hI':(s.heap.update it (Obj.mapFields (·.setIfInBounds 1 (rawInt ((i:Int)+1))))).IsValIter it dc (i+1) es.size ep:=
  ⟨_,Heap.get?_update_self _ g1 (Obj.isFreed_of_fields (Obj.data_mapFields g3 _)),(Obj.cls_mapFields ..).trans g2,by rw [Obj.data_mapFields g3]; simp [rawInt]⟩
 have ty':({ s with heap:=s.heap.update it (Obj.mapFields (·.setIfInBounds 1 (rawInt ((i:Int)+1)))) }:Shared).TypeIs (.ref it) "dict_valueiterator" := hI'.typeIs
 refine wpAny_bind (wpAny_holding (wpAny_bind (wpAny_isOneOf_valiter ty' (wpAny_bind (wpAny_isOneOf_valiter ty' ?_)))))
 show wpAny _ _ (pure es[i].val) _ _ _
 exact wpAny_pure (wpAny_pure ⟨_,rfl,wpAny_pure (q _ hI' (Heap.SameBut.update ..))⟩)
theorem CO {i:Nat} {Q:Option Value->Shared->Prop} (hh:A.handled=none) (hI:s.heap.IsValIter it dc i es.size ep) (h1:s.heap.get? dc=some oc) (h2:oc.data=.dict es ep) (hge:es.size<=i)
  (q:∀ h',Heap.ExtBut it s.heap h'->Q none { s with heap:=h' }):wpAny (model prog w) A (pyNext (.ref it)) Q E s:=by
 obtain ⟨oi,g1,g2,g3⟩:=id hI
 unfold pyNext
 refine wpAny_bind (wpAny_attempt (wpAny_callSpecial?_slot (name:=Str.ofString "__next__") hI.typeIs F.slot_dict_valueiterator_next (wpAny_call_entry F.slot_dict_valueiterator_next hI.typeIs F.entry_dict_valueiterator_next ?_ (F.args_dict_valueiterator_next_1 _))))
 refine wpAny_bind (wpAny_pure (wpAny_bind (wpAny_bind ?_)))
 first | refine wpAny_bind (wpAny_typeNameOfWhole_valiter hI.typeIs (wpAny_pure ?_)) | refine wpAny_bind (wpAny_typeNameOf_valiter hI.typeIs (wpAny_pure ?_))
 refine wpAny_bind (wpAny_fieldsOf g1 g3 ?_)
 rw [show Builtin.Dict_items.ownsTuple "dict_valueiterator" = false by decide]; simp only [Bool.false_eq_true,if_false]
 show wpAny _ _ (if (Value.ref dc == Value.none)=true then _ else _) _ _ s
 rw [if_neg (show ¬ ((Value.ref dc == Value.none)=true) from Bool.false_ne_true)]
 refine wpAny_bind (wpAny_pure (wpAny_bind (wpAny_dictEntries h1 h2 ?_)))
 rw [if_neg (show ¬ _ by simp)]
 refine wpAny_bind (wpAny_pure (wpAny_bind (wpAny_dictEpoch h1 h2 ?_)))
 rw [if_neg (show ¬ _ by simp)]
 refine wpAny_pure ?_
 simp only [show ¬ ((i:Int) < 0) by omega,if_false,Int.toNat_natCast,Array.getElem?_eq_none hge]
 refine wpAny_bind ?_
 first | refine wpAny_bind (wpAny_typeNameOfWhole_valiter hI.typeIs (wpAny_pure ?_)) | refine wpAny_bind (wpAny_typeNameOf_valiter hI.typeIs (wpAny_pure ?_))
 refine (show wpAny _ _ (setField (.ref it) 0 .none >>= _) _ _ s from wpAny_bind (wpAny_setField g1 g3 (by simp) ?_))
 refine (show wpAny _ _ (newExc (.type "StopIteration") [] >>= _) _ _ _ from wpAny_bind ?_); simp only [newExc,newTuple]
 refine wpAny_bind (wpAny_newObj_type (wpAny_bind (m:=firstArgMember _ _) (wpAny_of_eq (a:=Value.none) (by first | rfl | (simp only [firstArgMember]; rfl)) (wpAny_newObj_type ?_ (by size_fits)))) (by size_fits))
 simp only [raiseNew]
 refine wpAny_bind (wpAny_handled ?_); rw [show A.in1.handled=none from hh]
 refine wpAny_bind (wpAny_pure (wpAny_throw ?_)); refine wpAny_bind (wpAny_isInstance (T:="StopIteration") (b:=true) ⟨_,Heap.get?_push_size _ rfl,rfl⟩ isSubtype_stop ?_)
 exact wpAny_pure (q _ (((Heap.SameBut.update ..).extBut.push _).push _))
theorem zA (hh:A.handled=none) (I dc:Addr) (hne:dc≠I) (oc:Obj) (es:Array DictEntry) (ep:Nat) (h2:oc.data=.dict es ep):
  Walks prog w A I [I,dc] [I] es.size (fun i v=>∃ e,es[i]?=some e/\v=e.val) (fun i h=>h.IsValIter I dc i es.size ep/\h.get? dc=some oc) where
 sub:=fun b hb=>by rw [List.mem_singleton.mp hb]; exact List.mem_cons_self
 frame:=fun _ _ _ st hk=>⟨let ⟨o,e,r⟩:=st.1; ⟨o,hk I List.mem_cons_self o e,r⟩,hk dc (List.mem_cons_of_mem _ List.mem_cons_self) _ st.2⟩
 item:=fun i s Q E hi st hQ=>CN st.1 st.2 h2 hi fun h' hit' hs'=>hQ _ h' s.toks ⟨es[i],by simp [hi],rfl⟩ ⟨hit',(hs'.2 dc hne).trans st.2⟩ fun b o hb e=>(hs'.2 b fun z=>hb (by rw [z]; exact List.mem_cons_self)).trans e
 done:=fun s Q E st hQ=>CO hh st.1 st.2 h2 (Nat.le_refl _) fun h' he'=>hQ h' s.toks fun b o hb e=>he' b o (fun z=>hb (by rw [z]; exact List.mem_cons_self)) e
 self:=fun _ _ _ _ st hQ=>wpAny_pyIter_valiter st.1 hQ
theorem CP {r:Addr} (h2:oc.data=.dict es ep):PySem.W.KdlSrc prog w "dict_values" r dc es.size (fun i v=>∃ e,es[i]?=some e/\v=e.val) (fun h=>h.IsValuesView r dc/\h.get? dc=some oc) where
 type:=fun _ hm=>hm.1.typeIs
 there:=fun _ hm=>⟨let ⟨_,ho,_⟩:=hm.1; Heap.lt_size ho,Heap.lt_size hm.2⟩
 keep:=fun _ _ hm hk=>⟨let ⟨o,ho,x⟩:=hm.1; ⟨o,hk r (.inl rfl) o ho,x⟩,hk dc (.inr rfl) _ hm.2⟩
 notList:=by decide
 notTuple:=by decide
 hint:=fun _ _ _ _ hm hq=>PySem.W.kdl_hint_values hm.1.typeIs hq
 iter:=fun _ _ hh hm=>⟨_,_,(fun _ _ hq=>Bu hm.1 hm.2 h2 hq),zA hh _ dc (Nat.ne_of_lt (Heap.lt_size hm.2)) oc es ep h2,⟨⟨_,Heap.get?_push_size _ rfl,rfl,rfl⟩,Heap.get?_push_of_some _ hm.2⟩⟩
theorem tJ (dc:Addr) (hd:(dc == sysModules)=false):MeetsIn prog w (Builtin.«dict.values» ⟨[.ref dc],[]⟩) (fun _ R s=>s.TypeIs (.ref dc) "dict" /\
   R (.ok (.ret (.ref s.heap.objs.size))) { s with heap:=s.heap.push { cls:=.type "dict_values",data:=.fields #[.ref dc] } }):=
 .of_wp fun A R s ⟨hT,h⟩=>by
  refine wpAny_bind ?_; unfold Builtin.Dict.noArgs
  refine wpAny_bind (wpAny_notOrdered_dict hT (show wpAny _ _ (pure dc) _ _ s from wpAny_pure (show wpAny _ _ (Builtin.Dict.showsAll dc >>= _) _ _ s from ?_)))
  unfold Builtin.Dict.showsAll; rw [if_neg (show ¬ _ from by rw [hd]; decide)]
  refine wpAny_bind (wpAny_pure (wpAny_bind (wpAny_newObj_type (wpAny_pure ⟨_,rfl,h⟩))))
end
end L2
set_option Elab.async false
set_option linter.all false
set_option maxRecDepth 100000
namespace L2
open PySem PySem.Spec PyProof.Rows
namespace FR
end FR
section
variable {prog:Program} {w:World} {A:Around} {E:Value->Shared->Prop} {s:Shared} {it l:Addr} {items:Array Value}
end
end L2
set_option Elab.async false
set_option linter.all false
set_option maxRecDepth 100000
namespace L2
open PySem PySem.Spec PyProof.Rows
section
variable {prog:Program} {w:World} {A:Around} {E:Value->Shared->Prop} {s:Shared} {v dc it:Addr} {oc:Obj} {es:Array DictEntry} {ep:Nat} {ok ov:Value}
theorem dQ {i n:Nat} (hI:IsItemIter s.heap it dc i n ep ok ov):s.TypeIs (.ref it) "dict_itemiterator" := ⟨_,hI,rfl⟩
theorem zB {Q:Value->Shared->Prop} (hv:s.heap.IsItemsView v dc) (h1:s.heap.get? dc=some oc) (h2:oc.data=.dict es ep)
  (q:Q (.ref s.heap.objs.size) { s with heap:=s.heap.push { cls:=.type "dict_itemiterator",data:=.fields #[.none,.bool false,.ref dc,.int 0 0,.int es.size 0,.int ep 0,.none,.none] } }):wpAny (model prog w) A (pyIter (.ref v)) Q E s:=by
 obtain ⟨ov,g1,g2,g3⟩:=id hv
 refine wpAny_pyIter_slot hv.typeIs F.slot_dict_items_iter (wpAny_call_entry F.slot_dict_items_iter hv.typeIs F.entry_dict_items_iter (show wpAny _ _ (Builtin.«dict_items.__iter__» _) _ _ _ from ?_) (F.args_dict_items_iter_1 _))
 unfold Builtin.«dict_items.__iter__»
 refine wpAny_bind (wpAny_pure (wpAny_bind ?_)); unfold Builtin.Dict_items.dictOf
 refine wpAny_bind (wpAny_field g1 g3 (x:=.ref dc) rfl (wpAny_pure (wpAny_bind ?_))); unfold Builtin.Dict_items.newIterator
 refine wpAny_bind (wpAny_dictEntries h1 h2 (wpAny_bind (wpAny_dictEpoch h1 h2 ?_)))
 rw [show Builtin.Dict_items.ownsTuple "dict_itemiterator" = true by decide]; simp only [if_true,Builtin.Dict_items.ownedTupleFields,List.cons_append,List.nil_append,Bool.false_eq_true,if_false]
 refine wpAny_newObj_type (wpAny_pure ⟨_,rfl,"dict_itemiterator",_,⟨_,Heap.get?_push_size _ rfl,rfl⟩,F.slot_dict_itemiterator_next.lookup,(by simpa [rawInt] using q)⟩)
theorem next_item {i:Nat} {Q:Option Value->Shared->Prop} (hI:IsItemIter s.heap it dc i es.size ep ok ov) (h1:s.heap.get? dc=some oc) (h2:oc.data=.dict es ep) (hlt:i < es.size)
  (q:∀ h',IsItemIterOut h' it dc (i+1) es.size ep es[i].key es[i].val s.heap.objs.size->h'.get? s.heap.objs.size=some { cls:=.type "tuple",data:=.seq #[es[i].key,es[i].val] }->
   (∀ (b:Addr) (o:Obj),b≠it->s.heap.get? b=some o->h'.get? b=some o)->Q (some (.ref s.heap.objs.size)) { s with heap:=h' }):wpAny (model prog w) A (pyNext (.ref it)) Q E s:=by
 have hT:=dQ hI
 unfold pyNext
 refine wpAny_bind (wpAny_attempt (wpAny_callSpecial?_slot (name:=Str.ofString "__next__") hT F.slot_dict_itemiterator_next (wpAny_call_entry F.slot_dict_itemiterator_next hT F.entry_dict_itemiterator_next ?_ (F.args_dict_itemiterator_next_1 _))))
 refine wpAny_bind (wpAny_pure (wpAny_bind (wpAny_bind ?_)))
 first | refine wpAny_bind (wpAny_typeNameOfWhole_itemiter hT (wpAny_pure ?_)) | refine wpAny_bind (wpAny_typeNameOf_itemiter hT (wpAny_pure ?_))
 refine wpAny_bind (wpAny_fieldsOf hI rfl ?_)
 rw [show Builtin.Dict_items.ownsTuple "dict_itemiterator" = true by decide]; simp only [if_true]
 show wpAny _ _ (if (Value.ref dc == Value.none)=true then _ else _) _ _ s
 rw [if_neg (show ¬ ((Value.ref dc == Value.none)=true) from Bool.false_ne_true)]
 refine wpAny_bind (wpAny_pure (wpAny_bind (wpAny_dictEntries h1 h2 ?_)))
 rw [if_neg (show ¬ _ by simp)]
 refine wpAny_bind (wpAny_pure (wpAny_bind (wpAny_dictEpoch h1 h2 ?_)))
 rw [if_neg (show ¬ _ by simp)]
 refine wpAny_pure ?_
 simp only [show ¬ ((i:Int) < 0) by omega,if_false,Int.toNat_natCast,Array.getElem?_eq_getElem hlt]
 refine wpAny_bind ?_
 first | refine wpAny_bind (wpAny_typeNameOfWhole_itemiter hT (wpAny_pure ?_)) | refine wpAny_bind (wpAny_typeNameOf_itemiter hT (wpAny_pure ?_))
 refine wpAny_bind (wpAny_isOneOf_itemiter hT (show wpAny _ _ (setField (.ref it) 3 (rawInt ((i:Int)+1)) >>= _) _ _ s from wpAny_bind (wpAny_setField hI rfl (by simp) ?_)))
 have hI':IsItemIter (s.heap.update it (Obj.mapFields (·.setIfInBounds 3 (rawInt ((i:Int)+1))))) it dc (i+1) es.size ep ok ov:=by
  show (s.heap.update it _).get? it=_
  rw [Heap.get?_update_self _ hI (Obj.isFreed_of_fields (Obj.data_mapFields rfl _))]
  simp [Obj.mapFields,rawInt]
 have kp:∀ (b:Addr) (o:Obj),b≠it->s.heap.get? b=some o->(s.heap.update it (Obj.mapFields (·.setIfInBounds 3 (rawInt ((i:Int)+1))))).get? b=some o:=fun b o hb e=>by
  rw [(Heap.SameBut.update ..).2 b hb]; exact e
 have sz:(s.heap.update it (Obj.mapFields (·.setIfInBounds 3 (rawInt ((i:Int)+1))))).objs.size=s.heap.objs.size:=(Heap.SameBut.update ..).1
 generalize s.heap.update it (Obj.mapFields (·.setIfInBounds 3 (rawInt ((i:Int)+1))))=hA at hI' kp sz
 have ty':({ s with heap:=hA }:Shared).TypeIs (.ref it) "dict_itemiterator" := dQ hI'
 refine wpAny_bind (wpAny_holding (wpAny_bind (wpAny_isOneOf_itemiter ty' (wpAny_bind (wpAny_isOneOf_itemiter ty' ?_)))))
 show wpAny _ _ (Builtin.Dict_items.pairFromOwner (.ref it) 6 es[i].key es[i].val) _ _ _
 unfold Builtin.Dict_items.pairFromOwner
 simp only [newTuple]
 refine wpAny_bind (wpAny_newObj_type ?_ (by size_fits))
 have hI2:IsItemIter (hA.push { cls:=.type "tuple",data:=.seq #[es[i].key,es[i].val] }) it dc (i+1) es.size ep ok ov:=Heap.get?_push_of_some _ hI'
 have gt:(hA.push { cls:=.type "tuple",data:=.seq #[es[i].key,es[i].val] }).get? hA.objs.size=some { cls:=.type "tuple",data:=.seq #[es[i].key,es[i].val] }:=Heap.get?_push_size _ rfl
 have kp2:∀ (b:Addr) (o:Obj),b≠it->s.heap.get? b=some o->(hA.push { cls:=.type "tuple",data:=.seq #[es[i].key,es[i].val] }).get? b=some o:=fun b o hb e=>Heap.get?_push_of_some _ (kp b o hb e)
 rw [sz] at gt
 have ne:s.heap.objs.size≠it:=Nat.ne_of_gt (Heap.lt_size hI)
 show wpAny _ _ _ _ _ { s with heap:=hA.push { cls:=.type "tuple",data:=.seq #[es[i].key,es[i].val] } }
 generalize hA.push { cls:=.type "tuple",data:=.seq #[es[i].key,es[i].val] }=hB at hI2 gt kp2
 have eA:(Value.ref ({ s with heap:=hA }:Shared).heap.objs.size)=.ref s.heap.objs.size:=by rw [<- sz]
 simp only [eA]
 unfold Builtin.Dict_items.ownedTupleIsFree
 refine wpAny_bind (wpAny_bind (wpAny_field (s:={ s with heap:=hB }) hI2 rfl (x:=.none) rfl (wpAny_pure ?_)))
 simp only [if_true]
 refine wpAny_bind (wpAny_field (s:={ s with heap:=hB }) hI2 rfl (x:=ok) rfl (wpAny_bind (wpAny_field (s:={ s with heap:=hB }) hI2 rfl (x:=ov) rfl ?_)))
 have stp:∀ {h1:Heap} {fs:Array Value} {j:Nat} {x:Value} {α:Type} {f:Unit->Sem α} {R:α->Shared->Prop} {E':Value->Shared->Prop},h1.get? it=some { cls:=.type "dict_itemiterator",data:=.fields fs }->j < fs.size->
   (∀ h2:Heap,h2.get? it=some { cls:=.type "dict_itemiterator",data:=.fields (fs.setIfInBounds j x) }->(∀ (b:Addr),b≠it->h2.get? b=h1.get? b)->wpAny (model prog w) A.in1 (f ()) R E' { s with heap:=h2 })->
   wpAny (model prog w) A.in1 (setField (.ref it) j x >>= f) R E' { s with heap:=h1 }:=fun {h1 fs j x α f R E'} g hj k=>by
  refine wpAny_bind (wpAny_setField (s:={ s with heap:=h1 }) g rfl hj ?_)
  refine k _ ?_ fun b hb=>(Heap.SameBut.update ..).2 b hb
  rw [Heap.get?_update_self _ g (Obj.isFreed_of_fields (Obj.data_mapFields rfl _))]
  simp [Obj.mapFields]
 refine stp hI2 (by simp) fun h3 g3 s3=>?_
 refine stp g3 (by simp) fun h4 g4 s4=>?_
 refine stp g4 (by simp) fun h5 g5 s5=>?_
 refine stp g5 (by simp) fun h6 g6 s6=>?_
 refine wpAny_bind (wpAny_letGo (wpAny_pure (wpAny_pure ⟨_,rfl,wpAny_pure (q h6 (by rw [<- sz]; show h6.get? it=_; rw [g6]; simp) ?_ fun b o hb e=>?_)⟩)))
 ·rw [s6 _ ne,s5 _ ne,s4 _ ne,s3 _ ne]; exact gt
 ·rw [s6 _ hb,s5 _ hb,s4 _ hb,s3 _ hb]; exact kp2 b o hb e
theorem Bv {i:Nat} {Q:Option Value->Shared->Prop} (hh:A.handled=none) (hI:IsItemIter s.heap it dc i es.size ep ok ov) (h1:s.heap.get? dc=some oc) (h2:oc.data=.dict es ep) (hge:es.size<=i)
  (q:∀ h',Heap.ExtBut it s.heap h'->Q none { s with heap:=h' }):wpAny (model prog w) A (pyNext (.ref it)) Q E s:=by
 have hT:=dQ hI
 unfold pyNext
 refine wpAny_bind (wpAny_attempt (wpAny_callSpecial?_slot (name:=Str.ofString "__next__") hT F.slot_dict_itemiterator_next (wpAny_call_entry F.slot_dict_itemiterator_next hT F.entry_dict_itemiterator_next ?_ (F.args_dict_itemiterator_next_1 _))))
 refine wpAny_bind (wpAny_pure (wpAny_bind (wpAny_bind ?_)))
 first | refine wpAny_bind (wpAny_typeNameOfWhole_itemiter hT (wpAny_pure ?_)) | refine wpAny_bind (wpAny_typeNameOf_itemiter hT (wpAny_pure ?_))
 refine wpAny_bind (wpAny_fieldsOf hI rfl ?_)
 rw [show Builtin.Dict_items.ownsTuple "dict_itemiterator" = true by decide]; simp only [if_true]
 show wpAny _ _ (if (Value.ref dc == Value.none)=true then _ else _) _ _ s
 rw [if_neg (show ¬ ((Value.ref dc == Value.none)=true) from Bool.false_ne_true)]
 refine wpAny_bind (wpAny_pure (wpAny_bind (wpAny_dictEntries h1 h2 ?_)))
 rw [if_neg (show ¬ _ by simp)]
 refine wpAny_bind (wpAny_pure (wpAny_bind (wpAny_dictEpoch h1 h2 ?_)))
 rw [if_neg (show ¬ _ by simp)]
 refine wpAny_pure ?_
 simp only [show ¬ ((i:Int) < 0) by omega,if_false,Int.toNat_natCast,Array.getElem?_eq_none hge]
 refine wpAny_bind ?_
 first | refine wpAny_bind (wpAny_typeNameOfWhole_itemiter hT (wpAny_pure ?_)) | refine wpAny_bind (wpAny_typeNameOf_itemiter hT (wpAny_pure ?_))
 refine (show wpAny _ _ (setField (.ref it) 2 .none >>= _) _ _ s from wpAny_bind (wpAny_setField hI rfl (by simp) ?_))
 refine (show wpAny _ _ (newExc (.type "StopIteration") [] >>= _) _ _ _ from wpAny_bind ?_); simp only [newExc,newTuple]
 refine wpAny_bind (wpAny_newObj_type (wpAny_bind (m:=firstArgMember _ _) (wpAny_of_eq (a:=Value.none) (by first | rfl | (simp only [firstArgMember]; rfl)) (wpAny_newObj_type ?_ (by size_fits)))) (by size_fits))
 simp only [raiseNew]
 refine wpAny_bind (wpAny_handled ?_); rw [show A.in1.handled=none from hh]
 refine wpAny_bind (wpAny_pure (wpAny_throw ?_)); refine wpAny_bind (wpAny_isInstance (T:="StopIteration") (b:=true) ⟨_,Heap.get?_push_size _ rfl,rfl⟩ isSubtype_stop ?_)
 exact wpAny_pure (q _ (((Heap.SameBut.update ..).extBut.push _).push _))
theorem oF:entryFor table "dict_itemiterator.__iter__" = some Builtin.«dict_keyiterator.__iter__»:=entryFor_alias (id:="dict_itemiterator.__iter__") (id':="dict_keyiterator.__iter__") (by first | rfl | decide +kernel) (by first | rfl | decide +kernel) (by decide +kernel) (by rfl)
theorem zC {i n:Nat} {Q:Value->Shared->Prop} (hI:IsItemIter s.heap it dc i n ep ok ov) (q:Q (.ref it) s):wpAny (model prog w) A (pyIter (.ref it)) Q E s:=by
 have hT:=dQ hI
 refine wpAny_pyIter_slot hT F.slot_dict_itemiterator_iter (wpAny_call_entry F.slot_dict_itemiterator_iter hT oF (show wpAny _ _ (Builtin.«dict_keyiterator.__iter__» _) _ _ _ from ?_) (F.args_dict_itemiterator_iter_1 _))
 unfold Builtin.«dict_keyiterator.__iter__»
 refine wpAny_bind (wpAny_pure ?_)
 exact wpAny_pure ⟨_,rfl,"dict_itemiterator",_,hT,F.slot_dict_itemiterator_next.lookup,q⟩
end
end L2
set_option Elab.async false
set_option linter.all false
set_option maxRecDepth 1000000
set_option maxHeartbeats 4000000
namespace L2
open PySem PySem.Spec PyProof.Rows
section
variable {prog:Program} {w:World} {A:Around} {E:Value->Shared->Prop} {s:Shared} {v dc it:Addr} {oc:Obj} {es:Array DictEntry} {ep:Nat}
end
end L2
set_option Elab.async false
set_option linter.all false
set_option maxRecDepth 1000000
set_option maxHeartbeats 4000000
namespace L2
open PySem PySem.Spec PyProof.Rows
structure TOk (bt:Bool) (t:SetTable):Prop where
 dum:t.dummies=#[]
 led:bt=false->t.led=true
 ris:t.plain=true->t.place.toList.Pairwise (· < ·)
end L2
set_option Elab.async false
set_option linter.all false
set_option maxRecDepth 1000000
set_option maxHeartbeats 4000000
namespace L2
open PySem PySem.Spec PyProof.Rows
section
variable {prog:Program} {w:World} {A:Around} {E:Value->Shared->Prop} {s:Shared} {a:Addr}
end
end L2
set_option Elab.async false
set_option linter.all false
set_option maxRecDepth 1000000
set_option maxHeartbeats 4000000
namespace L2
open PySem PySem.Spec PyProof.Rows
section
variable {prog:Program} {w:World} {A:Around} {E:Value->Shared->Prop} {s:Shared} {a:Addr}
end
end L2
set_option Elab.async false
set_option linter.all false
set_option maxRecDepth 1000000
set_option maxHeartbeats 4000000
namespace L2
open PySem PySem.Spec PyProof.Rows
section
variable {prog:Program} {w:World} {A:Around} {E:Value->Shared->Prop} {s:Shared} {a it:Addr} {o:Obj} {es:Array (Int×Value)} {ep:Nat} {t:SetTable}
end
end L2
set_option Elab.async false
set_option linter.all false
set_option maxRecDepth 1000000
set_option maxHeartbeats 4000000
namespace L2
open PySem PySem.Spec PyProof.Rows
section
variable {prog:Program} {w:World} {A:Around} {E:Value->Shared->Prop} {s:Shared} {a it:Addr} {o:Obj} {es:Array (Int×Value)} {ep:Nat} {t:SetTable}
end
end L2
set_option Elab.async false
set_option linter.all false
set_option maxRecDepth 1000000
set_option maxHeartbeats 4000000
namespace L2
open PySem PySem.Spec PyProof.Rows
section
variable {prog:Program} {w:World} {A:Around} {E:Value->Shared->Prop} {s:Shared} {a it:Addr} {o:Obj} {es:Array (Int×Value)} {ep:Nat} {t:SetTable}
end
end L2
set_option Elab.async false
set_option linter.all false
set_option maxRecDepth 1000000
set_option maxHeartbeats 4000000
namespace L2
open PySem PySem.Spec PyProof.Rows
section
variable {prog:Program} {w:World} {A:Around} {E:Value->Shared->Prop} {s:Shared} {a:Addr}
end
end L2
set_option Elab.async false
set_option linter.all false
set_option maxRecDepth 1000000
set_option maxHeartbeats 4000000
namespace L2
open PySem PySem.Spec PyProof.Rows
section
variable {prog:Program} {w:World} {A:Around} {E:Value->Shared->Prop} {s:Shared} {a:Addr}
end
end L2
set_option Elab.async false
set_option linter.all false
set_option maxRecDepth 100000
namespace L2
open PySem PySem.Spec PyProof.Rows PySem.SeqAt PySem.W
def bO (b:Bool) (n i:Nat):Nat:=if b then n - 1 - i else i
def vR (b:Bool) (n:Nat) (p:List Nat):List Nat:=katRev b (p.map (bO b n))
theorem fU {α:Type} (b:Bool) {l:List α} {d:α} {i:Nat} (hi:i < l.length):(katRev b l).getD i d=l.getD (bO b l.length i) d:=by
 cases b with
 | false=>rfl
 | true=>
  show l.reverse.getD i d=l.getD (l.length - 1 - i) d
  rw [List.getD_eq_getElem?_getD,List.getD_eq_getElem?_getD,List.getElem?_reverse hi]
theorem dF {b:Bool} {n i:Nat} (h:i < n):bO b n i < n:=by
 unfold bO; split <;> omega
theorem zD {b:Bool} {n:Nat} {p:List Nat} (h:p.Perm (List.range n)):(vR b n p).Perm (List.range n):=by
 cases b with
 | false=>
  have e:vR false n p=p:=by
   show p.map (fun i=>bO false n i)=p
   have:(fun i=>bO false n i)=id:=by funext i; rfl
   rw [this,List.map_id]
  rw [e]; exact h
 | true=>
  have e:(List.range n).map (bO true n)=(List.range n).reverse:=by
   apply List.ext_getElem
   ·simp
   ·intro i h1 h2
    simp [bO]
  show ((p.map (bO true n)).reverse).Perm _
  refine (List.reverse_perm _).trans ((h.map _).trans ?_)
  rw [e]
  exact List.reverse_perm _
theorem zE {b:Bool} {n:Nat} {p:List Nat} {lt:Nat->Nat->Bool} (h:p.Pairwise (fun i j=>lt (bO b n j) (bO b n i)=false)):(vR b n p).Pairwise (fun i j=>(if b then lt i j else lt j i)=false):=by
 have h1:(p.map (bO b n)).Pairwise (fun i j=>lt j i=false):=List.pairwise_map.mpr h
 cases b with
 | false=>exact h1
 | true=>
  show ((p.map (bO true n)).reverse).Pairwise _
  rw [List.pairwise_reverse]
  exact h1
theorem Bw {b:Bool} {vs:List Value} {p:List Nat} (h:∀ i∈p,i < vs.length):katRev b (p.map fun i=>(katRev b vs).getD i Value.none)=(vR b vs.length p).map fun i=>vs.getD i Value.none:=by
 have e:(p.map fun i=>(katRev b vs).getD i Value.none)=(p.map (bO b vs.length)).map fun i=>vs.getD i Value.none:=by
  rw [List.map_map]
  exact List.map_congr_left fun i hi=>fU b (h i hi)
 rw [e]
 unfold vR katRev
 split
 ·rw [List.map_reverse]
 ·rfl
theorem zF {α:Type} (b:Bool) (l:List α):katRev b (katRev b l)=l:=by
 unfold katRev; split <;> simp
theorem range_getD (vs:List Value):((List.range vs.length).map fun i=>vs.getD i Value.none)=vs:=by
 apply List.ext_getElem?
 intro i
 by_cases hi:i < vs.length
 ·simp [hi]
 ·simp [hi]
section
variable {prog:Program} {w:World} {A:Around} {E:Value->Shared->Prop} {s:Shared} {a kS:Addr} {b:Bool} {vs ks:List Value}
theorem Gz {st:SortSt} {e e1:Nat} {out:List Value} {P:PySem.Fin->Shared->Prop} (hout:(arrOf st).map (·.2)=out.toArray) (hz:out.length < 64) (hkz:ks.length < 64) (hf:failedOf st=none) (hka:kS≠a)
  (gk:s.heap.get? kS=some (seqObj "list" ks.toArray e)) (ga:s.heap.get? a=some (seqObj "list" #[] e1))
  (h:∀ (h':Heap) (c:Nat),(∀ x o,x≠a->x≠kS->s.heap.get? x=some o->h'.get? x=some o)->h'.get? a=some (seqObj "list" (katRev b out).toArray c)->(∃ o,h'.get? kS=some o)->P (.done (.ret .none)) { s with heap:=h' }):
  wpAny (model prog w) A (ksk_tail a b e1 (.ref kS) st) P E s:=by
 have w1:=Heap.SameBut.update s.heap kS (Obj.mapSeq fun _=>(#[]:Array Value))
 obtain ⟨ck,hck⟩:∃ ck,(s.heap.update kS (Obj.mapSeq fun _=>(#[]:Array Value))).get? kS=some (seqObj "list" #[] ck):=⟨_,get?_update_seq gk fun _=>#[]⟩
 have ga1:=(w1.2 a hka.symm).trans ga
 have w2:=Heap.SameBut.update (s.heap.update kS (Obj.mapSeq fun _=>(#[]:Array Value))) a (Obj.mapSeq fun _=>(katRev b out).toArray)
 obtain ⟨c2,hc2⟩:∃ c2,((s.heap.update kS (Obj.mapSeq fun _=>(#[]:Array Value))).update a (Obj.mapSeq fun _=>(katRev b out).toArray)).get? a=some (seqObj "list" (katRev b out).toArray c2):=⟨_,get?_update_seq ga1 fun _=>(katRev b out).toArray⟩
 have hsz:(katRev b out).toArray.size=out.length:=by rw [List.size_toArray,kat_len]
 unfold ksk_tail
 try dsimp only
 rw [hout,kat_outs]
 refine wpAny_bind (listUpdate_at gk rfl ?_ (by rw [List.size_toArray,sizeLine_eq]; omega) (Nat.zero_le _))
 refine wpAny_bind (wpAny_letGo (wpAny_bind (seqEpoch_at ga1 rfl ?_)))
 refine wpAny_bind (listUpdate_at ga1 rfl ?_ (Nat.zero_le _) (Nat.le_trans (Nat.le_of_eq hsz) (by rw [sizeLine_eq]; omega)))
 rw [hf]
 simp only [bne_self_eq_false,Bool.false_eq_true,if_false]
 exact wpAny_pure (h _ c2 (fun x o h1 h2 q=>(w2.2 x h1).trans ((w1.2 x h2).trans q)) hc2 ⟨_,(w2.2 kS hka).trans hck⟩)
theorem LV {e e1:Nat} {κ:SortKind} {P:PySem.Fin->Shared->Prop} (lt:Nat->Nat->Bool) (hl:ks.length=vs.length) (h64:vs.length < 64) (hka:kS≠a)
  (tr:∀ i j k,i < vs.length->j < vs.length->k < vs.length->lt j i=false->lt k j=false->lt k i=false) (as:∀ i j,i < vs.length->j < vs.length->lt i j=true->lt j i=false)
  (gk:s.heap.get? kS=some (seqObj "list" ks.toArray e)) (ga:s.heap.get? a=some (seqObj "list" #[] e1))
  (hk:2<=vs.length->∀ (Q:SortKind->Shared->Prop) E',Q κ s->wpAny (model prog w) A (keyKind' ks.toArray) Q E' s)
  (hlt:∀ i j,i < vs.length->j < vs.length->∀ Q:Bool->Shared->Prop,Q (lt i j) s->wpAny (model prog w) A (keyLt' κ (ks.getD i Value.none) (ks.getD j Value.none)) Q (fun _ _=>False) s)
  (h:∀ (p:List Nat) (h':Heap) (c:Nat),p.Perm (List.range vs.length)->p.Pairwise (fun i j=>(if b then lt i j else lt j i)=false)->(∀ x o,x≠a->x≠kS->s.heap.get? x=some o->h'.get? x=some o)->
   h'.get? a=some (seqObj "list" (p.map fun i=>vs.getD i Value.none).toArray c)->(∃ o,h'.get? kS=some o)->P (.done (.ret .none)) { s with heap:=h' }):
  wpAny (model prog w) A (ksk_end a b vs.toArray e1 (.ref kS) ks.toArray) P E s:=by
 have skip:∀ t:Sem PySem.Fin,wpAny (model prog w) A t P E s->wpAny (model prog w) A (if b=true then (do let _ <- rule "list.sort.reverse"; t) else t) P E s:=fun t ht=>by
  split
  ·exact wpAny_bind (wpAny_rule ht)
  ·exact ht
 have hlr:(katRev b ks).length=(katRev b vs).length:=by rw [kat_len,kat_len,hl]
 unfold ksk_end
 try dsimp only
 refine skip _ ?_
 rw [kat_pairs b hl]
 by_cases h2:vs.toArray.size < 2
 ·rw [if_pos h2,if_pos h2]
  rw [List.size_toArray] at h2
  refine wpAny_bind (wpAny_pure ?_)
  rw [StateT.run_pure]
  refine wpAny_bind (wpAny_pure ?_)
  try dsimp only
  refine Gz (st:=SortSt.mk' general' ((katRev b ks).toArray.zip (katRev b vs).toArray) #[] 7 none) (out:=katRev b vs) (ks:=ks) ?_ (by rw [kat_len]; exact h64) (by omega) rfl hka gk ga fun h' c k1 k2 k3=>?_
  ·show ((katRev b ks).toArray.zip (katRev b vs).toArray).map (·.2)=(katRev b vs).toArray
   apply Array.toList_inj.mp
   rw [Array.toList_map,ksk_zip]
   show (List.zip _ _).map Prod.snd=_
   rw [List.map_snd_zip (by rw [hlr]; exact Nat.le_refl _)]
  ·rw [zF] at k2
   refine h (List.range vs.length) h' c (List.Perm.refl _) ?_ k1 (by rw [range_getD]; exact k2) k3
   rw [List.pairwise_iff_getElem]
   intro i j hi hj hij
   simp only [List.length_range] at hi hj
   omega
 ·rw [if_neg h2,if_neg h2]
  rw [List.size_toArray] at h2
  refine wpAny_bind (hk (by omega) _ _ ?_)
  have hkas:(kas_sort (katRev b vs).length).kasWp (kas_ask prog w A κ (katRev b ks)) (fun p s''=>p=evT (fun i j=>lt (bO b vs.length i) (bO b vs.length j)) (kas_sort vs.length)/\s''=s) s:=by
   rw [kat_len]
   refine oC (n:=vs.length) (lt:=fun i j=>lt (bO b vs.length i) (bO b vs.length j)) (fun i j C hi hj hC=>?_) (oB (by omega)) ⟨rfl,rfl⟩
   show wpAny (model prog w) A (keyLt' κ ((katRev b ks).getD i Value.none) ((katRev b ks).getD j Value.none)) C (fun _ _=>False) s
   rw [fU b (by omega),fU b (by omega),hl]
   exact hlt _ _ (dF hi) (dF hj) C hC
  refine wpAny_bind (wpAny_mono (kat_run (ks:=katRev b ks) (vs:=katRev b vs) (E:=E) (Q:=fun st' s'=>s'=s/\arrOf st'=(evT (fun i j=>lt (bO b vs.length i) (bO b vs.length j)) (kas_sort vs.length)).map (kas_item ((katRev b ks).toArray.zip (katRev b vs).toArray))/\failedOf st'=none)
   hlr (by rw [kat_len]; omega) (by rw [kat_len]; exact h64) (fun p st' s' _ a2 a3 a4=>⟨a4.2,by rw [a2,a4.1],a3⟩) hkas) ?_ fun _ _ x=>x)
  rintro ⟨⟨⟩,st'⟩ s' ⟨rfl,har,hf⟩
  try dsimp only
  obtain ⟨c1,c2⟩:=vO (n:=vs.length) (lt:=fun i j=>lt (bO b vs.length i) (bO b vs.length j)) (fun i j k hi hj hk=>tr _ _ _ (dF hi) (dF hj) (dF hk)) (fun i j hi hj=>as _ _ (dF hi) (dF hj)) (by omega)
  have hin:∀ i∈(evT (fun i j=>lt (bO b vs.length i) (bO b vs.length j)) (kas_sort vs.length)).toList,i < vs.length:=fun i hi=>by simpa using c1.mem_iff.mp hi
  refine Gz (ks:=ks) (kat_snds hlr har) (by rw [List.length_map,c1.length_eq,List.length_range]; exact h64) (by omega) hf hka gk ga fun h' c k1 k2 k3=>?_
  rw [Bw hin] at k2
  exact h _ h' c (zD c1) (zE c2) k1 k2 k3
theorem zG {f:Value} {n:Nat} {κ:SortKind} {P:PySem.Fin->Shared->Prop} (ho:s.heap.get? a=some (seqObj "list" vs.toArray n)) (h64:vs.length < 64) (J:Addr->Nat->List Value->Nat->Shared->Prop)
  (h0:∀ (kS e1:Nat) (h':Heap),(∀ x o,x≠a->s.heap.get? x=some o->h'.get? x=some o)->s.heap.objs.size<=kS->h'.get? a=some (seqObj "list" #[] e1)->h'.get? kS=some (seqObj "list" #[] 0)->J kS e1 [] 0 { s with heap:=h' })
  (hget:∀ kS e1 ks e s',J kS e1 ks e s'->kS≠a/\s'.heap.get? a=some (seqObj "list" #[] e1)/\s'.heap.get? kS=some (seqObj "list" ks.toArray e))
  (turn:∀ kS e1 ks e s' x,vs[ks.length]?=some x->J kS e1 ks e s'->wpAny (model prog w) A (call f [x]) (fun v s''=>s''.heap.get? kS=some (seqObj "list" ks.toArray e)/\∀ (h':Heap) e',Heap.SameBut kS s''.heap h'->h'.get? kS=some (seqObj "list" (ks++[v]).toArray e')->J kS e1 (ks++[v]) e' { s'' with heap:=h' }) (fun _ _=>False) s')
  (fin:∀ kS e1 ks e s',ks.length=vs.length->J kS e1 ks e s'->∃ lt:Nat->Nat->Bool,(∀ i j k,i < vs.length->j < vs.length->k < vs.length->lt j i=false->lt k j=false->lt k i=false)/\(∀ i j,i < vs.length->j < vs.length->lt i j=true->lt j i=false)/\
   (2<=vs.length->∀ (Q:SortKind->Shared->Prop) E',Q κ s'->wpAny (model prog w) A (keyKind' ks.toArray) Q E' s')/\
   (∀ i j,i < vs.length->j < vs.length->∀ Q:Bool->Shared->Prop,Q (lt i j) s'->wpAny (model prog w) A (keyLt' κ (ks.getD i Value.none) (ks.getD j Value.none)) Q (fun _ _=>False) s')/\
   ∀ (p:List Nat) (h':Heap) (c:Nat),p.Perm (List.range vs.length)->p.Pairwise (fun i j=>(if b then lt i j else lt j i)=false)->(∀ x o,x≠a->x≠kS->s'.heap.get? x=some o->h'.get? x=some o)->
   h'.get? a=some (seqObj "list" (p.map fun i=>vs.getD i Value.none).toArray c)->(∃ o,h'.get? kS=some o)->P (.done (.ret .none)) { s' with heap:=h' }):
  wpAny (model prog w) A (ksk_tree a f b) P E s:=by
 have ha:a < s.heap.objs.size:=Heap.lt_size ho
 have w1:=Heap.SameBut.update s.heap a (Obj.mapSeq fun _=>(#[]:Array Value))
 obtain ⟨e1,ho1⟩:∃ e1,(s.heap.update a (Obj.mapSeq fun _=>(#[]:Array Value))).get? a=some (seqObj "list" #[] e1):=⟨_,get?_update_seq ho fun _=>#[]⟩
 unfold ksk_tree
 refine wpAny_bind (listItems_at ho rfl (wpAny_bind (listUpdate_at ho rfl ?_ (by rw [List.size_toArray,sizeLine_eq]; omega) (Nat.zero_le _))))
 refine wpAny_bind (seqEpoch_at ho1 rfl (wpAny_bind (wpAny_newTuple ?_ (by show vs.length<=_; rw [sizeLine_eq]; omega))))
 refine wpAny_bind (wpAny_newList (wpAny_holding ?_) (Nat.zero_le _))
 have hk1:((s.heap.update a (Obj.mapSeq fun _=>(#[]:Array Value))).push (seqObj "tuple" vs.toArray 0)).objs.size=s.heap.objs.size+1:=by rw [size_push',Heap.size_update]
 have J0:=h0 ((s.heap.update a (Obj.mapSeq fun _=>(#[]:Array Value))).push (seqObj "tuple" vs.toArray 0)).objs.size e1 (((s.heap.update a (Obj.mapSeq fun _=>(#[]:Array Value))).push (seqObj "tuple" vs.toArray 0)).push (seqObj "list" #[] 0))
  (fun x o hx q=>Heap.get?_push_of_some _ (Heap.get?_push_of_some _ ((w1.2 x hx).trans q))) (by rw [hk1]; exact Nat.le_succ _) (Heap.get?_push_of_some _ (Heap.get?_push_of_some _ ho1)) (Heap.get?_push_size _ rfl)
 show wpAny (model prog w) A (ksk_rest a f b vs.toArray e1 (.ref ((s.heap.update a (Obj.mapSeq fun _=>(#[]:Array Value))).push (seqObj "tuple" vs.toArray 0)).objs.size)) P E { s with heap:=((s.heap.update a (Obj.mapSeq fun _=>(#[]:Array Value))).push (seqObj "tuple" vs.toArray 0)).push (seqObj "list" #[] 0) }
 generalize ((s.heap.update a (Obj.mapSeq fun _=>(#[]:Array Value))).push (seqObj "tuple" vs.toArray 0)).objs.size=kS at J0
 revert J0
 generalize ({ s with heap:=((s.heap.update a (Obj.mapSeq fun _=>(#[]:Array Value))).push (seqObj "tuple" vs.toArray 0)).push (seqObj "list" #[] 0) }:Shared)=s0
 intro J0
 unfold ksk_rest
 refine wpAny_bind (wpAny_rule ?_)
 first
  | rw [List.forIn_toArray]
  | (rw [<- Array.forIn_toList]; simp only [List.toList_toArray])
 refine wpAny_bind (ksk_fold (fun i s'=>∃ ks e,ks.length=i/\J kS e1 ks e s') vs 0 s0 ⟨[],0,rfl,J0⟩ ?step ?done)
 case step=>
  rintro j x s' hx ⟨ks,e,hl,hJ⟩
  have hj:j < vs.length:=(List.getElem?_eq_some_iff.mp hx).1
  have hl':ks.length=j:=by omega
  refine wpAny_bind (wpAny_attempt (wpAny_mono (turn kS e1 ks e s' x (by rw [hl']; exact hx) hJ) (fun v s'' q=>?_) fun _ _ z=>z.elim))
  obtain ⟨gk,nxt⟩:=q
  try dsimp only
  have w2:=Heap.SameBut.update s''.heap kS (Obj.mapSeq (·.push v))
  obtain ⟨c2,hc2⟩:∃ c2,(s''.heap.update kS (Obj.mapSeq (·.push v))).get? kS=some (seqObj "list" (ks.toArray.push v) c2):=⟨_,get?_update_seq gk (·.push v)⟩
  refine wpAny_bind (listUpdate_at gk rfl ?_ (by rw [List.size_toArray,sizeLine_eq]; omega) (Nat.le_trans (Nat.le_of_eq (Array.size_push ..)) (by rw [List.size_toArray,sizeLine_eq]; omega)))
  refine wpAny_pure ⟨rfl,ks++[v],c2,by simp; omega,nxt _ c2 w2 ?_⟩
  rw [hc2]
  simp
 case done=>
  rintro s' ⟨ks,e,hl,hJ⟩
  have hl':ks.length=vs.length:=by omega
  obtain ⟨hka,ga,gk⟩:=hget kS e1 ks e s' hJ
  obtain ⟨lt,tr,as,hk,hlt,h⟩:=fin kS e1 ks e s' hl' hJ
  try dsimp only
  refine wpAny_bind (listItems_at gk rfl ?_)
  exact LV (κ:=κ) lt hl' h64 hka tr as gk ga hk hlt h
end
end L2
set_option Elab.async false
set_option linter.all false
set_option maxRecDepth 100000
namespace L2
open PySem PySem.Spec PyProof.Rows PySem.SeqAt
inductive PV where
 | non | bl (b:Bool) | int (i:Int) | str (x:Str) | tup (xs:List PV) | ref (n:Nat) | ty (n:String) | fl (xs:List PV)
mutual
def PV.beq:PV->PV->Bool
 | .non,.non=>true
 | .bl a,.bl b=>a == b
 | .int a,.int b=>a == b
 | .str a,.str b=>a == b
 | .tup a,.tup b=>PV.beqs a b
 | .ref a,.ref b=>a == b
 | .ty a,.ty b=>a == b
 | .fl a,.fl b=>PV.beqs a b
 | _,_=>false
def PV.beqs:List PV->List PV->Bool
 | [],[]=>true
 | x :: xs,y :: ys=>PV.beq x y && PV.beqs xs ys
 | _,_=>false
end
mutual
theorem PV.beq_self:∀ x:PV,PV.beq x x=true
 | .non=>rfl
 | .bl a=>by simp [PV.beq]
 | .int a=>by simp [PV.beq]
 | .str a=>by simp [PV.beq]
 | .tup a=>by simp only [PV.beq]; exact PV.beqs_self a
 | .ref a=>by simp [PV.beq]
 | .ty a=>by simp [PV.beq]
 | .fl a=>by simp only [PV.beq]; exact PV.beqs_self a
theorem PV.beqs_self:∀ x:List PV,PV.beqs x x=true
 | []=>rfl
 | x :: xs=>by simp only [PV.beqs,PV.beq_self x,PV.beqs_self xs,Bool.and_self]
end
mutual
theorem PV.beq_eq:∀ {x y:PV},PV.beq x y=true->x=y
 | .non,y,h=>by cases y <;> first | rfl | (simp [PV.beq] at h)
 | .bl a,y,h=>by cases y <;> first | (simp [PV.beq] at h; rw [h]) | (simp [PV.beq] at h)
 | .int a,y,h=>by cases y <;> first | (simp [PV.beq] at h; rw [h]) | (simp [PV.beq] at h)
 | .str a,y,h=>by cases y <;> first | (simp [PV.beq] at h; rw [h]) | (simp [PV.beq] at h)
 | .tup a,y,h=>by
  cases y with
  | tup b=>simp only [PV.beq] at h; rw [PV.beqs_eq h]
  | _=>simp [PV.beq] at h
 | .ref a,y,h=>by cases y <;> first | (simp [PV.beq] at h; rw [h]) | (simp [PV.beq] at h)
 | .ty a,y,h=>by cases y <;> first | (simp [PV.beq] at h; rw [h]) | (simp [PV.beq] at h)
 | .fl a,y,h=>by
  cases y with
  | fl b=>simp only [PV.beq] at h; rw [PV.beqs_eq h]
  | _=>simp [PV.beq] at h
theorem PV.beqs_eq:∀ {x y:List PV},PV.beqs x y=true->x=y
 | [],y,h=>by cases y <;> first | rfl | (simp [PV.beqs] at h)
 | x :: xs,y,h=>by
  cases y with
  | nil=>simp [PV.beqs] at h
  | cons y ys=>
   simp only [PV.beqs,Bool.and_eq_true] at h
   rw [PV.beq_eq h.1,PV.beqs_eq h.2]
end
instance:DecidableEq PV:=fun x y=>match h:PV.beq x y with
 | true=>isTrue (PV.beq_eq h)
 | false=>isFalse fun e=>by rw [e,PV.beq_self] at h; cases h
def PV.ky:Nat->PV->Bool
 | _,.int _=>true
 | _,.str _=>true
 | n+1,.tup xs=>xs.all (PV.ky n)
 | _,_=>false
section
variable (w:World)
mutual
def hsh:PV->Int
 | .int i=>GQ w (.inl i)
 | .str x=>GQ w (.inr x)
 | .tup xs=>reduceHash (Builtin.Tuple.tupleHashOf (mS xs))
 | _=>0
def mS:List PV->List Int
 | []=>[]
 | x :: xs=>hsh x :: mS xs
end
end
mutual
def drw:PV->Nat
 | .tup xs=>vS xs+1
 | _=>1
def vS:List PV->Nat
 | []=>0
 | x :: xs=>drw x+vS xs
end
mutual
/-- the raw value is the key -/
def HR (h:Heap):PV->Value->Prop
 | .int i,v=>∃ t,v=.int i t
 | .str x,v=>∃ t,v=.str x t
 | .tup ps,v=>∃ a its,v=.ref a/\IsTup h a its.toArray/\HRs h ps its
 | _,_=>False
def HRs (h:Heap):List PV->List Value->Prop
 | [],[]=>True
 | p :: ps,v :: vs=>HR h p v/\HRs h ps vs
 | [],_ :: _=>False
 | _ :: _,[]=>False
end
theorem HRs.length {h:Heap}:∀ {ps:List PV} {vs:List Value},HRs h ps vs->ps.length=vs.length
 | [],[],_=>rfl
 | _ :: _,_ :: _,r=>congrArg (·+1) (HRs.length r.2)
 | [],_ :: _,r=>r.elim
 | _ :: _,[],r=>r.elim
theorem HRs.at {h:Heap}:∀ {ps:List PV} {vs:List Value} {j:Nat} {p:PV},HRs h ps vs->ps[j]?=some p->∃ v,vs[j]?=some v/\HR h p v
 | [],[],_,_,_,e=>by simp at e
 | q :: _,v :: _,0,p,r,e=>by
  have:q=p:=by simpa using e
  subst this
  exact ⟨v,rfl,r.1⟩
 | _ :: ps,_ :: vs,j+1,p,r,e=>by
  obtain ⟨v,h1,h2⟩:=HRs.at (ps:=ps) (vs:=vs) (j:=j) (p:=p) r.2 (by simpa using e)
  exact ⟨v,by simpa using h1,h2⟩
 | [],_ :: _,_,_,r,_=>r.elim
 | _ :: _,[],_,_,r,_=>r.elim
theorem Bx {h:Heap} {a:Addr} {x y:Array Value} (p:IsTup h a x) (q:IsTup h a y):x=y:=by
 obtain ⟨o,ho,_,n,hd⟩:=p
 obtain ⟨o',ho',_,n',hd'⟩:=q
 obtain rfl:o=o':=Option.some.inj (ho.symm.trans ho')
 rw [hd] at hd'
 injection hd'
mutual
theorem HR.one {h:Heap}:∀ {p q:PV} {v:Value},HR h p v->HR h q v->p=q
 | .int i,q,v,r,r'=>by
  obtain ⟨t,rfl⟩:=r
  cases q with
  | int j=>obtain ⟨t',e⟩:=r'; injection e with e; rw [e]
  | str j=>obtain ⟨t',e⟩:=r'; cases e
  | tup j=>obtain ⟨_,_,e,_⟩:=r'; cases e
  | _=>exact r'.elim
 | .str i,q,v,r,r'=>by
  obtain ⟨t,rfl⟩:=r
  cases q with
  | int j=>obtain ⟨t',e⟩:=r'; cases e
  | str j=>obtain ⟨t',e⟩:=r'; injection e with e; rw [e]
  | tup j=>obtain ⟨_,_,e,_⟩:=r'; cases e
  | _=>exact r'.elim
 | .tup ps,q,v,r,r'=>by
  obtain ⟨a,its,rfl,p,rs⟩:=r
  cases q with
  | int j=>obtain ⟨t',e⟩:=r'; cases e
  | str j=>obtain ⟨t',e⟩:=r'; cases e
  | tup qs=>
   obtain ⟨b,its',e,p',rs'⟩:=r'
   cases e
   have:its=its':=by simpa using congrArg Array.toList (Bx p p')
   subst this
   rw [HRs.one rs rs']
  | _=>exact r'.elim
 | .non,_,_,r,_=>r.elim
 | .bl _,_,_,r,_=>r.elim
 | .ref _,_,_,r,_=>r.elim
 | .ty _,_,_,r,_=>r.elim
 | .fl _,_,_,r,_=>r.elim
theorem HRs.one {h:Heap}:∀ {ps qs:List PV} {vs:List Value},HRs h ps vs->HRs h qs vs->ps=qs
 | [],[],[],_,_=>rfl
 | p :: ps,q :: qs,v :: vs,r,r'=>by rw [HR.one r.1 r'.1,HRs.one r.2 r'.2]
 | [],_ :: _,[],_,r=>r.elim
 | [],_,_ :: _,r,_=>r.elim
 | _ :: _,_,[],r,_=>r.elim
 | _ :: _,[],_ :: _,_,r=>r.elim
end
theorem zH {h h':Heap} {a d:Addr} {o:Obj} {es ep} {x:Array Value} (p:IsTup h a x) (ho:h.get? d=some o) (hd:o.data=.dict es ep) (hs:Heap.SameBut d h h'):IsTup h' a x:=by
 obtain ⟨q,hq,hc,n,hdt⟩:=p
 have ne:a≠d:=by
  rintro rfl
  obtain rfl:q=o:=Option.some.inj (hq.symm.trans ho)
  rw [hd] at hdt
  cases hdt
 exact ⟨q,(hs.2 a ne).trans hq,hc,n,hdt⟩
mutual
theorem HR.keep {h h':Heap} (k:∀ a x,IsTup h a x->IsTup h' a x):∀ {p:PV} {v:Value},HR h p v->HR h' p v
 | .int i,v,r=>r
 | .str i,v,r=>r
 | .tup ps,v,⟨a,its,e,p,rs⟩=>⟨a,its,e,k _ _ p,HRs.keep k rs⟩
 | .non,_,r=>r.elim
 | .bl _,_,r=>r.elim
 | .ref _,_,r=>r.elim
 | .ty _,_,r=>r.elim
 | .fl _,_,r=>r.elim
theorem HRs.keep {h h':Heap} (k:∀ a x,IsTup h a x->IsTup h' a x):∀ {ps:List PV} {vs:List Value},HRs h ps vs->HRs h' ps vs
 | [],[],_=>trivial
 | _ :: _,_ :: _,r=>⟨HR.keep k r.1,HRs.keep k r.2⟩
 | [],_ :: _,r=>r.elim
 | _ :: _,[],r=>r.elim
end
section
variable {prog:Program} {w:World}
theorem CQ:∀ (n:Nat) {A:Around} {E:Value->Shared->Prop} {s:Shared} {p:PV} {v:Value} {Q:Int->Shared->Prop},p.ky n=true->A.units+n < cLine->HR s.heap p v->Q (hsh w p) { s with toks:=s.toks+drw p }->
  wpAny (model prog w) A (pyHash v) Q E s:=by
 intro n
 induction n with
 | zero=>
  intro A E s p v Q hk hu r h
  cases p with
  | int i=>obtain ⟨t,rfl⟩:=r; exact wpAny_pyHash_int h
  | str i=>obtain ⟨t,rfl⟩:=r; exact wpAny_pyHash_str h
  | _=>cases hk
 | succ n ih=>
  intro A E s p v Q hk hu r h
  cases p with
  | int i=>obtain ⟨t,rfl⟩:=r; exact wpAny_pyHash_int h
  | str i=>obtain ⟨t,rfl⟩:=r; exact wpAny_pyHash_str h
  | tup ps=>
   obtain ⟨a,its,rfl,⟨o,ho,hc,m,hd⟩,rs⟩:=r
   have hk':∀ q∈ps,q.ky n=true:=List.all_eq_true.mp hk
   have hT:s.TypeIs (.ref a) "tuple" := ⟨o,ho,hc⟩
   unfold pyHash; unfold pyHashByItsType
   refine wpAny_bind (wpAny_cRoomFor_or (.inr (show A.units < cLine by omega)) (wpAny_bind (wpAny_specialOf hT F.slot_tuple_hash.lookup ?_)))
   show wpAny _ _ (if ((some (Value.builtin "tuple.__hash__"):Option Value) == some Value.none)=true then _ else _) Q E s
   rw [if_neg (show ¬ _ from by rw [beq_builtin_none]; decide)]
   refine wpAny_bind (wpAny_specialOf hT F.slot_tuple_hash.lookup (show wpAny _ _ (callSpecialIfBoundUnlessNone? (.ref a) "__hash__" _ >>= _) Q E s from ?_))
   refine wpAny_bind (wpAny_callSpecialIfBoundUnlessNone?_slot hT F.slot_tuple_hash (wpAny_call_entry F.slot_tuple_hash hT F.entry_tuple_hash (show wpAny _ _ (Builtin.Tuple.tupleItemsOf (.ref a) >>= _) _ _ s from ?_) (F.args_tuple_hash_1 _)))
   refine wpAny_bind (wpAny_tupleItemsOf ho hd (wpAny_bind ?_)); rw [<- Array.forIn_toList]
   refine wpAny_forIn_list _ (fun rest (b:Array Int) s'=>∃ left,HRs s.heap left rest/\(∀ q∈left,q.ky n=true)/\b.toList++mS w left=mS w ps/\s'.heap=s.heap/\s'={ s with toks:=s'.toks }/\s'.toks+vS left=s.toks+vS ps) _ ?turn ?stop _ _ ⟨ps,rs,hk',rfl,rfl,rfl,rfl⟩
   case turn=>
    rintro x rest b s' ⟨left,rl,kl,eb,eh,es,et⟩
    cases left with
    | nil=>exact rl.elim
    | cons q left=>
     have r1:HR s'.heap q x:=by rw [eh]; exact rl.1
     refine wpAny_bind (ih (kl q List.mem_cons_self) (show A.units+1+n < cLine by omega) r1 (wpAny_pure ?_))
     refine ⟨left,rl.2,fun z hz=>kl z (List.mem_cons_of_mem _ hz),?_,eh,?_,?_⟩
     ·rw [<- eb]; simp [mS]
     ·rw [es]
     ·rw [<- et]
      show s'.toks+drw q+vS left=s'.toks+(drw q+vS left)
      omega
   case stop=>
    rintro b s' ⟨left,rl,kl,eb,eh,es,et⟩
    cases left with
    | cons q left=>exact rl.elim
    | nil=>
     have eb':b.toList=mS w ps:=by rw [<- eb]; simp [mS]
     have et':s'.toks=s.toks+vS ps:=et
     show wpAny _ _ (retInt (Builtin.Tuple.tupleHashOf b.toList)) _ _ _
     rw [eb',es]
     refine wpAny_ret_mkInt ?_
     show wpAny _ _ (if (decide (-(2:Int) ^ 63<=Builtin.Tuple.tupleHashOf (mS w ps)) && decide (Builtin.Tuple.tupleHashOf (mS w ps) < 2 ^ 63))=true then _ else _) Q E _
     have h':Q (reduceHash (Builtin.Tuple.tupleHashOf (mS w ps))) { s with toks:=s.toks+(vS ps+1) }:=h
     unfold reduceHash at h'
     rw [et']
     by_cases hr:(decide (-(2:Int) ^ 63<=Builtin.Tuple.tupleHashOf (mS w ps)) && decide (Builtin.Tuple.tupleHashOf (mS w ps) < 2 ^ 63))=true
     ·rw [if_pos hr] at h' ⊢
      exact wpAny_pure (by simpa [Nat.add_assoc] using h')
     ·rw [if_neg hr] at h' ⊢
      exact wpAny_bind (wpAny_rule (wpAny_pure (by simpa [Nat.add_assoc] using h')))
  | _=>cases hk
theorem HS:∀ (n:Nat) {A:Around} {s:Shared} {p q:PV} {v u:Value},p.ky n=true->q.ky n=true->A.units+n < cLine->HR s.heap p v->HR s.heap q u->RcAt A s v u (decide (p=q)):=by
 intro n
 induction n with
 | zero=>
  intro A s p q v u hp hq hu r r'
  cases p with
  | int i=>
   obtain ⟨t,rfl⟩:=r
   cases q with
   | int j=>obtain ⟨t',rfl⟩:=r'; have:=RcAt.int_int (A:=A) (s:=s) i t j t'; rwa [show decide (PV.int i=PV.int j)=(i == j) by simp [Bool.beq_eq_decide_eq]]
   | str j=>obtain ⟨t',rfl⟩:=r'; exact RcAt.int_str i t j t'
   | _=>cases hq
  | str i=>
   obtain ⟨t,rfl⟩:=r
   cases q with
   | int j=>obtain ⟨t',rfl⟩:=r'; exact RcAt.str_int i t j t'
   | str j=>obtain ⟨t',rfl⟩:=r'; have:=RcAt.str_str (A:=A) (s:=s) i t j t'; rwa [show decide (PV.str i=PV.str j)=(i == j) by simp [Bool.beq_eq_decide_eq]]
   | _=>cases hq
  | _=>cases hp
 | succ n ih=>
  intro A s p q v u hp hq hu r r'
  cases p with
  | int i=>
   obtain ⟨t,rfl⟩:=r
   cases q with
   | int j=>obtain ⟨t',rfl⟩:=r'; have:=RcAt.int_int (A:=A) (s:=s) i t j t'; rwa [show decide (PV.int i=PV.int j)=(i == j) by simp [Bool.beq_eq_decide_eq]]
   | str j=>obtain ⟨t',rfl⟩:=r'; exact RcAt.int_str i t j t'
   | tup js=>obtain ⟨b,its,rfl,p',_⟩:=r'; exact RcAt.int_tuple i t p' (by omega)
   | _=>cases hq
  | str i=>
   obtain ⟨t,rfl⟩:=r
   cases q with
   | int j=>obtain ⟨t',rfl⟩:=r'; exact RcAt.str_int i t j t'
   | str j=>obtain ⟨t',rfl⟩:=r'; have:=RcAt.str_str (A:=A) (s:=s) i t j t'; rwa [show decide (PV.str i=PV.str j)=(i == j) by simp [Bool.beq_eq_decide_eq]]
   | tup js=>obtain ⟨b,its,rfl,p',_⟩:=r'; exact RcAt.str_tuple i t p' (by omega)
   | _=>cases hq
  | tup ps=>
   obtain ⟨a,its,rfl,ta,rs⟩:=r
   cases q with
   | int j=>obtain ⟨t',rfl⟩:=r'; exact RcAt.tuple_int j t' ta (by omega)
   | str j=>obtain ⟨t',rfl⟩:=r'; exact RcAt.tuple_str j t' ta (by omega)
   | tup qs=>
    obtain ⟨b,its',rfl,tb,rs'⟩:=r'
    have kp:∀ z∈ps,z.ky n=true:=List.all_eq_true.mp hp
    have kq:∀ z∈qs,z.ky n=true:=List.all_eq_true.mp hq
    have l1:=rs.length
    have l2:=rs'.length
    have key:=RcAt.tuples (A:=A) (e:=fun j=>match ps[j]?,qs[j]? with | some x,some y=>decide (x=y) | _,_=>false) ta tb (by omega) (fun j h1 h2=>by
     have h1':j < ps.length:=by simp at h1; omega
     have h2':j < qs.length:=by simp at h2; omega
     have g1:ps[j]?=some ps[j]:=by simp [h1']
     have g2:qs[j]?=some qs[j]:=by simp [h2']
     obtain ⟨xu,hxu,hru⟩:=rs.at g1
     obtain ⟨yu,hyu,hru'⟩:=rs'.at g2
     have e1:its.toArray[j]=xu:=by simpa using (List.getElem?_eq_some_iff.mp hxu).2
     have e2:its'.toArray[j]=yu:=by simpa using (List.getElem?_eq_some_iff.mp hyu).2
     rw [e1,e2]
     simp only [g1,g2]
     refine eT (ih (kp _ (List.getElem_mem h1')) (kq _ (List.getElem_mem h2')) (show A.units+1+n < cLine by omega) hru hru') (fun ev=>?_) (fun f t e=>?_)
     ·subst ev
      rw [HR.one hru hru']
      exact decide_eq_true rfl
     ·subst e
      generalize ps[j]=z at hru
      cases z with
      | int i=>obtain ⟨_,e⟩:=hru; cases e
      | str i=>obtain ⟨_,e⟩:=hru; cases e
      | tup i=>obtain ⟨_,_,e,_⟩:=hru; cases e
      | _=>exact hru.elim)
    have sz:((List.range (min its.toArray.size its'.toArray.size)).all (fun j=>match ps[j]?,qs[j]? with | some x,some y=>decide (x=y) | _,_=>false) && its.toArray.size == its'.toArray.size)=decide (PV.tup ps=PV.tup qs):=by
     have a1:its.toArray.size=ps.length:=by simp; omega
     have a2:its'.toArray.size=qs.length:=by simp; omega
     rw [a1,a2,Bool.eq_iff_iff]
     simp only [Bool.and_eq_true,List.all_eq_true,List.mem_range,beq_iff_eq,decide_eq_true_eq,PV.tup.injEq]
     constructor
     ·rintro ⟨hall,hlen⟩
      apply List.ext_getElem hlen
      intro i hi hi'
      have:=hall i (by omega)
      simpa [hi,hi'] using this
     ·rintro rfl
      refine ⟨fun x hx=>?_,rfl⟩
      have:x < ps.length:=by omega
      simp [this]
    rw [<- sz]
    exact key
   | _=>cases hq
  | _=>cases hp
theorem HR.noflt {h:Heap} {p:PV} {v:Value} (r:HR h p v):∀ f t,v≠.float f t:=fun f t e=>by
 subst e
 cases p with
 | int i=>obtain ⟨_,e⟩:=r; cases e
 | str i=>obtain ⟨_,e⟩:=r; cases e
 | tup i=>obtain ⟨_,_,e,_⟩:=r; cases e
 | _=>exact r.elim
theorem HU {n:Nat} {A:Around} {s:Shared} {p q:PV} {v u:Value} (hp:p.ky n=true) (hq:q.ky n=true) (hu:A.units+n < cLine) (r:HR s.heap p v) (r':HR s.heap q u):EqAt A s v u (decide (p=q)):=
 eT (HS n hp hq hu r r') (fun ev=>by subst ev; rw [HR.one r r']; exact decide_eq_true rfl) r.noflt
theorem By:∀ (n m:Nat) {A:Around} {E:Value->Shared->Prop} {s:Shared} {p:PV} {v:Value} {Q:Bool->Shared->Prop},p.ky n=true->n<=m->HR s.heap p v->Q true s->wpAny (model prog w) A (eqIsQuiet m v) Q E s:=by
 intro n
 induction n with
 | zero=>
  intro m A E s p v Q hk hm r h
  cases p with
  | int i=>obtain ⟨t,rfl⟩:=r; rw [eqIsQuiet_byValue _ rfl]; exact wpAny_pure h
  | str i=>obtain ⟨t,rfl⟩:=r; rw [eqIsQuiet_byValue _ rfl]; exact wpAny_pure h
  | _=>cases hk
 | succ n ih=>
  intro m A E s p v Q hk hm r h
  cases p with
  | int i=>obtain ⟨t,rfl⟩:=r; rw [eqIsQuiet_byValue _ rfl]; exact wpAny_pure h
  | str i=>obtain ⟨t,rfl⟩:=r; rw [eqIsQuiet_byValue _ rfl]; exact wpAny_pure h
  | tup ps=>
   obtain ⟨a,its,rfl,⟨o,ho,hc,m',hd⟩,rs⟩:=r
   have hk':∀ q∈ps,q.ky n=true:=List.all_eq_true.mp hk
   have hT:s.TypeIs (.ref a) "tuple" := ⟨o,ho,hc⟩
   obtain ⟨m,rfl⟩:∃ j,m=j+1:=⟨m - 1,by omega⟩
   unfold eqIsQuiet
   refine wpAny_bind (wpAny_specialOf hT F.slot_tuple_eq.lookup (show wpAny _ _ (isInstance (.ref a) (.type "tuple") >>= _) _ _ s from ?_))
   refine wpAny_bind (wpAny_isInstance hT isSubtype_tuple_tuple ?_); simp only [Bool.not_true,Bool.false_eq_true,if_false]
   refine wpAny_bind (wpAny_seqItems ho hd (wpAny_bind (show wpAny _ _ (forIn its.toArray _ _) _ _ s from ?_))); rw [<- Array.forIn_toList]
   refine wpAny_forIn_list _ (fun rest r s'=>r.1=none/\s'=s/\∃ left,HRs s.heap left rest/\∀ q∈left,q.ky n=true) _ ?_ ?_ _ _ ⟨rfl,rfl,ps,rs,hk'⟩
   ·rintro v rest r s' ⟨hr,rfl,left,rl,kl⟩
    cases left with
    | nil=>exact rl.elim
    | cons q left=>
     refine wpAny_bind (ih m (kl q List.mem_cons_self) (by omega) rl.1 ?_); simp only [Bool.not_true,Bool.false_eq_true,if_false]
     exact wpAny_pure ⟨rfl,rfl,left,rl.2,fun z hz=>kl z (List.mem_cons_of_mem _ hz)⟩
   ·rintro ⟨r1,r2⟩ s' ⟨hr,rfl,_⟩; simp only at hr; subst hr
    exact wpAny_pure h
  | _=>cases hk
def iD (prog:Program) (w:World):HeapKind prog w PV where
 is:=fun h p a=>p.ky 6=true/\HR h p (.ref a)
 hash:=hsh w
 draws:=drw
 room:=fun A=>A.units+6 < cLine
 inj:=fun x y=>HR.one x.2 y.2
 keeps:=fun x ho hd hs=>⟨x.1,HR.keep (fun a it p=>zH p ho hd hs) x.2⟩
 pyHash:=fun hu x h=>CQ 6 x.1 hu x.2 h
 eqBool:=fun hu x y h=>HU x.1 y.1 hu x.2 y.2 _ _ _ _ h
 quiet:=fun x h=>By 6 8 x.1 (by omega) x.2 h
end
def dDO (w:World) (a:Addr) (ks:List (PV×Addr×V)):HO:=.ext fun h=>ks.length<=sizeLine/\(a == sysModules)=false/\∃ xs:List (PV×Addr×Value),
 Paired (fun (p:PV×Addr×V) (q:PV×Addr×Value)=>p.1=q.1/\p.2.1=q.2.1/\RelV p.2.2 q.2.2) ks xs/\
 ∃ o es ep,h.get? a=some o/\o.ExactDict/\o.data=.dict es ep/\es.toList=xs.map (fun x=>(⟨hsh w x.1,.ref x.2.1,x.2.2⟩:DictEntry))/\(xs.map (·.1)).Nodup
def GA (kd:Nat) (v d:Addr):HO:=.ext fun h=>match kd with
 | 0=>h.IsItemsView v d
 | 1=>h.IsValuesView v d
 | _=>∃ o,h.get? v=some o/\o.cls=.type "dict_keys" /\ o.data=.fields #[.ref d]
end L2
set_option Elab.async false
set_option linter.all false
set_option maxRecDepth 100000
namespace L2
open PySem PySem.Spec PyProof.Rows
inductive MO where
 | lst (xs:List PV)
 | dK (kvs:List (Key×PV))
 | ins (C:Str) (fs:List (Str×PV))
 | dD (kvs:List (PV×PV))
 | vw (kd d:Nat)
 | fz (o:MO)
abbrev PH:=List MO
abbrev Ev:=List (Option PV)
structure PX where
 cls:Str
 fs:List (Str×PV)
inductive Rs (α:Type) where
 | ok (a:α) (h:PH)
 | exc (x:PX) (h:PH)
 | bad
inductive Fl where
 | nx (δ:Ev) (h:PH)
 | rt (p:PV) (h:PH)
 | bk (δ:Ev) (h:PH)
 | ct (δ:Ev) (h:PH)
 | exc (x:PX) (h:PH)
 | bad
abbrev Me:=Ev->PH->Rs PV
abbrev Ms:=Ev->PH->Fl
abbrev Fn:=List PV->PH->Rs PV
def Rs.bind {α β:Type} (r:Rs α) (f:α->PH->Rs β):Rs β:=match r with
 | .ok a h=>f a h
 | .exc x h=>.exc x h
 | .bad=>.bad
@[simp] theorem Rs.bind_ok {α β:Type} (a:α) (h:PH) (f:α->PH->Rs β):(Rs.ok a h).bind f=f a h:=rfl
@[simp] theorem Rs.bind_exc {α β:Type} (x:PX) (h:PH) (f:α->PH->Rs β):(Rs.exc x h:Rs α).bind f=.exc x h:=rfl
@[simp] theorem Rs.bind_bad {α β:Type} (f:α->PH->Rs β):(Rs.bad:Rs α).bind f=.bad:=rfl
structure MC where
 K:PySem.W.Frag
 cl:Str->Option Addr
 bs:List Str
 ex:List Addr->Hp->PX->Prop
 w:World
def SqF (K:PySem.W.Frag) (H:Hp) (a:Addr) (xs:List V):Prop:=
 (∃ o,H a=some (.frz o (.lst xs)))\/
  ∃ (o:Obj) (its:Array Value) (n:Nat),K.lookup a=some o/\o.cls=.type "list" /\ o.dict=none/\o.data=.seq its n/\its.size<=sizeLine/\aH xs its.toList
theorem SqF.sq {K:PySem.W.Frag} {H:Hp} {a:Addr} {xs:List V} (h:SqF K H a xs):SqL K H a xs:=by
 rcases h with ⟨o,h⟩ | h
 ·exact .inl (.inr ⟨o,h⟩)
 ·exact .inr h
def Kp (H H':Hp):Prop:=eR H H'/\∀ a o u,H a=some (.frz o u)->H' a=some (.frz o u)
theorem Kp.refl (H:Hp):Kp H H:=⟨eR.refl H,fun _ _ _ h=>h⟩
theorem Kp.trans {H H1 H2:Hp} (a:Kp H H1) (b:Kp H1 H2):Kp H H2:=⟨a.1.trans b.1,fun c o u h=>b.2 c o u (a.2 c o u h)⟩
theorem Kp.same {H H':Hp} (s:vF H H'):Kp H H':=⟨eR.same s,fun _ _ _ h=>s _ _ h⟩
theorem Kp.new {H:Hp} {a:Addr} {o:HO} (h:H a=none):Kp H (upd H a o):=Kp.same (vF.upd h)
theorem Kp.upd {H:Hp} {p:Addr} {o:HO} (h:lQ (H p)):Kp H (upd H p o):=⟨eR.upd h,fun a ob u q=>by
 have ne:a≠p:=by
  rintro rfl
  rw [q] at h; exact h
 rw [aE ne]; exact q⟩
theorem Kp.lst {H:Hp} {p:Addr} {o:HO} {xs:List V} (h:H p=some (.lst xs)):Kp H (L2.upd H p o):=Kp.upd (by rw [h]; trivial)
theorem Kp.dK {H:Hp} {p:Addr} {o:HO} {xs:List (Key×V)} (h:H p=some (.dK xs)):Kp H (L2.upd H p o):=Kp.upd (by rw [h]; trivial)
theorem Kp.sq {K:PySem.W.Frag} {H H':Hp} {a:Addr} {xs:List V} (t:Kp H H') (h:SqT K H a xs):SqT K H' a xs:=t.1.sq h
theorem Kp.sf {K:PySem.W.Frag} {H H':Hp} {a:Addr} {xs:List V} (t:Kp H H') (h:SqF K H a xs):SqF K H' a xs:=by
 rcases h with ⟨o,h⟩ | h
 ·exact .inl ⟨o,t.2 _ _ _ h⟩
 ·exact .inr h
section
variable (C:MC) (φ:List Addr) (H:Hp)
mutual
def RV:PV->V->Prop
 | .non,v=>v=.non
 | .bl b,v=>v=.bl b
 | .int i,v=>v=.int i
 | .str x,v=>v=.str x
 | .ty n,v=>v=.ty n
 | .tup ps,v=>∃ a vs,v=.ref a/\SqT C.K H a vs/\RVs ps vs
 | .ref n,v=>∃ a,v=.ref a/\φ[n]?=some a
 | .fl ps,v=>∃ a vs,v=.ref a/\SqF C.K H a vs/\RVs ps vs
def RVs:List PV->List V->Prop
 | [],[]=>True
 | p :: ps,v :: vs=>RV p v/\RVs ps vs
 | [],_ :: _=>False
 | _ :: _,[]=>False
end
def RKv {κ:Type}:List (κ×PV)->List (κ×V)->Prop:=Paired fun p q=>p.1=q.1/\RV C φ H p.2 q.2
def RKd:List (PV×PV)->List (PV×Addr×V)->Prop:=Paired fun p q=>p.1=q.1/\p.1.ky 6=true/\RV C φ H p.1 (.ref q.2.1)/\RV C φ H p.2 q.2.2
def RO (a:Addr):MO->Prop
 | .lst ps=>∃ vs,H a=some (.lst vs)/\RVs C φ H ps vs
 | .dK kvs=>∃ ks,H a=some (.dK ks)/\RKv C φ H kvs ks
 | .ins n fs=>∃ c dx ks,C.cl n=some c/\H a=some (.ins c dx ks)/\RKv C φ H fs ks
 | .dD kvs=>∃ ks,H a=some (dDO C.w a ks)/\RKd C φ H kvs ks
 | .vw kd d=>∃ b,φ[d]?=some b/\H a=some (GA kd a b)
 | .fz (.dK kvs)=>∃ ob ks,H a=some (.frz ob (.dK ks))/\RKv C φ H kvs ks
 | .fz (.dD kvs)=>∃ ob ks,H a=some (.frz ob (dDO C.w a ks))/\RKd C φ H kvs ks
 | .fz _=>False
structure RH (h:PH):Prop where
 len:φ.length=h.length
 nd:φ.Nodup
 at':∀ (n:Nat) (a:Addr) (o:MO),φ[n]?=some a->h[n]?=some o->RO C φ H a o
def RE (δ:Ev) (σ:St):Prop:=δ.length=σ.length/\∀ (i:Nat) (p:PV),δ[i]?=some (some p)->∃ v,σ[i]?=some (some v)/\RV C φ H p v
end
section
variable {C:MC} {φ φ':List Addr} {H H':Hp}
theorem dR {α:Type} {l l':List α} (p:l<+:l') {n:Nat} {a:α} (h:l[n]?=some a):l'[n]?=some a:=by
 obtain ⟨t,rfl⟩:=p
 have:=(List.getElem?_eq_some_iff.mp h).1
 rw [List.getElem?_append_left this]
 exact h
def Kq (H H':Hp):Prop:=eR H H'/\∀ a o xs,H a=some (.frz o (.lst xs))->H' a=some (.frz o (.lst xs))
theorem Kp.q (t:Kp H H'):Kq H H':=⟨t.1,fun a o xs h=>t.2 a o _ h⟩
theorem Kq.sq {K:PySem.W.Frag} {a:Addr} {xs:List V} (t:Kq H H') (h:SqT K H a xs):SqT K H' a xs:=t.1.sq h
theorem Kq.sf {K:PySem.W.Frag} {a:Addr} {xs:List V} (t:Kq H H') (h:SqF K H a xs):SqF K H' a xs:=by
 rcases h with ⟨o,h⟩ | h
 ·exact .inl ⟨o,t.2 _ _ _ h⟩
 ·exact .inr h
mutual
theorem RV.monoQ (p:φ<+:φ') (t:Kq H H'):∀ {x:PV} {v:V},RV C φ H x v->RV C φ' H' x v
 | .non,_,h=>h
 | .bl _,_,h=>h
 | .int _,_,h=>h
 | .str _,_,h=>h
 | .ty _,_,h=>h
 | .tup _,_,⟨a,vs,e,q,r⟩=>⟨a,vs,e,t.sq q,RVs.monoQ p t r⟩
 | .ref _,_,⟨a,e,q⟩=>⟨a,e,dR p q⟩
 | .fl _,_,⟨a,vs,e,q,r⟩=>⟨a,vs,e,t.sf q,RVs.monoQ p t r⟩
theorem RVs.monoQ (p:φ<+:φ') (t:Kq H H'):∀ {xs:List PV} {vs:List V},RVs C φ H xs vs->RVs C φ' H' xs vs
 | [],[],_=>trivial
 | _ :: _,_ :: _,⟨h,r⟩=>⟨RV.monoQ p t h,RVs.monoQ p t r⟩
 | [],_ :: _,h=>h.elim
 | _ :: _,[],h=>h.elim
end
theorem RV.mono (p:φ<+:φ') (t:Kp H H') {x:PV} {v:V} (h:RV C φ H x v):RV C φ' H' x v:=RV.monoQ p t.q h
theorem RVs.mono (p:φ<+:φ') (t:Kp H H') {xs:List PV} {vs:List V} (h:RVs C φ H xs vs):RVs C φ' H' xs vs:=RVs.monoQ p t.q h
theorem RVs.length:∀ {xs:List PV} {vs:List V},RVs C φ H xs vs->xs.length=vs.length
 | [],[],_=>rfl
 | _ :: _,_ :: _,⟨_,r⟩=>by simp [RVs.length r]
 | [],_ :: _,h=>h.elim
 | _ :: _,[],h=>h.elim
theorem RVs.get:∀ {xs:List PV} {vs:List V} {i:Nat} {v:V},RVs C φ H xs vs->vs[i]?=some v->∃ x,xs[i]?=some x/\RV C φ H x v
 | [],[],_,_,_,e=>by simp at e
 | x :: _,w :: _,0,v,⟨h,_⟩,e=>by
  have:w=v:=by simpa using e
  subst this
  exact ⟨x,rfl,h⟩
 | _ :: xs,_ :: vs,i+1,v,⟨_,r⟩,e=>by
  obtain ⟨x,h1,h2⟩:=RVs.get (xs:=xs) (vs:=vs) (i:=i) (v:=v) r (by simpa using e)
  exact ⟨x,by simpa using h1,h2⟩
 | [],_ :: _,_,_,h,_=>h.elim
 | _ :: _,[],_,_,h,_=>h.elim
theorem RVs.at:∀ {xs:List PV} {vs:List V} {i:Nat} {x:PV},RVs C φ H xs vs->xs[i]?=some x->∃ v,vs[i]?=some v/\RV C φ H x v
 | [],[],_,_,_,e=>by simp at e
 | x :: _,w :: _,0,x',⟨h,_⟩,e=>by
  have:x=x':=by simpa using e
  subst this
  exact ⟨w,rfl,h⟩
 | _ :: xs,_ :: vs,i+1,x,⟨_,r⟩,e=>by
  obtain ⟨v,h1,h2⟩:=RVs.at (xs:=xs) (vs:=vs) (i:=i) (x:=x) r (by simpa using e)
  exact ⟨v,by simpa using h1,h2⟩
 | [],_ :: _,_,_,h,_=>h.elim
 | _ :: _,[],_,_,h,_=>h.elim
theorem RVs.append:∀ {xs ys:List PV} {vs us:List V},RVs C φ H xs vs->RVs C φ H ys us->RVs C φ H (xs++ys) (vs++us)
 | [],_,[],_,_,h=>h
 | _ :: _,_,_ :: _,_,⟨h,r⟩,h'=>⟨h,RVs.append r h'⟩
 | [],_,_ :: _,_,h,_=>h.elim
 | _ :: _,_,[],_,h,_=>h.elim
theorem RVs.snoc {xs:List PV} {vs:List V} {x:PV} {v:V} (r:RVs C φ H xs vs) (h:RV C φ H x v):RVs C φ H (xs++[x]) (vs++[v]):=r.append ⟨h,trivial⟩
theorem RVs.drop:∀ {xs:List PV} {vs:List V} (n:Nat),RVs C φ H xs vs->RVs C φ H (xs.drop n) (vs.drop n)
 | _,_,0,h=>h
 | [],[],_+1,_=>trivial
 | _ :: _,_ :: _,n+1,⟨_,r⟩=>RVs.drop n r
 | [],_ :: _,_+1,h=>h.elim
 | _ :: _,[],_+1,h=>h.elim
theorem RVs.take:∀ {xs:List PV} {vs:List V} (n:Nat),RVs C φ H xs vs->RVs C φ H (xs.take n) (vs.take n)
 | [],[],0,_=>trivial
 | _ :: _,_ :: _,0,_=>trivial
 | [],[],_+1,_=>trivial
 | _ :: _,_ :: _,n+1,⟨h,r⟩=>⟨h,RVs.take n r⟩
 | [],_ :: _,_,h=>h.elim
 | _ :: _,[],_,h=>h.elim
theorem RVs.set {x:PV} {v:V} (h:RV C φ H x v):∀ {xs:List PV} {vs:List V} (n:Nat),RVs C φ H xs vs->RVs C φ H (xs.set n x) (vs.set n v)
 | [],[],_,_=>trivial
 | _ :: _,_ :: _,0,⟨_,r⟩=>⟨h,r⟩
 | _ :: _,_ :: _,n+1,⟨q,r⟩=>⟨q,RVs.set h n r⟩
 | [],_ :: _,_,h=>h.elim
 | _ :: _,[],_,h=>h.elim
theorem RKv.monoQ {κ:Type} (p:φ<+:φ') (t:Kq H H') {x:List (κ×PV)} {v:List (κ×V)} (h:RKv C φ H x v):RKv C φ' H' x v:=Paired.mapP h fun _ _ q=>⟨q.1,q.2.monoQ p t⟩
theorem RKd.monoQ (p:φ<+:φ') (t:Kq H H') {x:List (PV×PV)} {v:List (PV×Addr×V)} (h:RKd C φ H x v):RKd C φ' H' x v:=Paired.mapP h fun _ _ q=>⟨q.1,q.2.1,q.2.2.1.monoQ p t,q.2.2.2.monoQ p t⟩
theorem RKv.mono {κ:Type} (p:φ<+:φ') (t:Kp H H') {x:List (κ×PV)} {v:List (κ×V)} (h:RKv C φ H x v):RKv C φ' H' x v:=Paired.mapP h fun _ _ q=>⟨q.1,q.2.mono p t⟩
theorem RKd.mono (p:φ<+:φ') (t:Kp H H') {x:List (PV×PV)} {v:List (PV×Addr×V)} (h:RKd C φ H x v):RKd C φ' H' x v:=Paired.mapP h fun _ _ q=>⟨q.1,q.2.1,q.2.2.1.mono p t,q.2.2.2.mono p t⟩
theorem RE.mono (p:φ<+:φ') (t:Kp H H') {δ:Ev} {σ:St} (h:RE C φ H δ σ):RE C φ' H' δ σ:=⟨h.1,fun i x e=>let ⟨v,q,r⟩:=h.2 i x e; ⟨v,q,r.mono p t⟩⟩
theorem RE.set {δ:Ev} {σ:St} {x:PV} {v:V} (h:RE C φ H δ σ) (r:RV C φ H x v) (i:Nat):RE C φ H (δ.set i (some x)) (σ.set i (some v)):=by
 refine ⟨by rw [List.length_set,List.length_set]; exact h.1,fun j p e=>?_⟩
 by_cases hj:i=j
 ·subst hj
  by_cases hl:i < δ.length
  ·rw [List.getElem?_set_self hl] at e
   cases e
   exact ⟨v,by rw [List.getElem?_set_self (by rw [<- h.1]; exact hl)],r⟩
  ·rw [List.getElem?_eq_none (by rw [List.length_set]; omega)] at e
   cases e
 ·rw [List.getElem?_set_ne hj] at e
  rw [List.getElem?_set_ne hj]
  exact h.2 j p e
theorem RO.stayQ {a:Addr} {o:MO} (p:φ<+:φ') (t:Kq H H') (e:H' a=H a) (h:RO C φ H a o):RO C φ' H' a o:=by
 cases o with
 | lst ps=>obtain ⟨vs,q,r⟩:=h; exact ⟨vs,e.trans q,r.monoQ p t⟩
 | dK ps=>obtain ⟨vs,q,r⟩:=h; exact ⟨vs,e.trans q,r.monoQ p t⟩
 | ins n fs=>obtain ⟨c,dx,ks,hc,q,r⟩:=h; exact ⟨c,dx,ks,hc,e.trans q,r.monoQ p t⟩
 | dD kvs=>obtain ⟨ks,q,r⟩:=h; exact ⟨ks,e.trans q,r.monoQ p t⟩
 | vw kd d=>obtain ⟨b,hb,q⟩:=h; exact ⟨b,dR p hb,e.trans q⟩
 | fz o=>
  cases o with
  | dK kvs=>obtain ⟨ob,ks,q,r⟩:=h; exact ⟨ob,ks,e.trans q,r.monoQ p t⟩
  | dD kvs=>obtain ⟨ob,ks,q,r⟩:=h; exact ⟨ob,ks,e.trans q,r.monoQ p t⟩
  | _=>exact h.elim
theorem RO.stay {a:Addr} {o:MO} (p:φ<+:φ') (t:Kp H H') (e:H' a=H a) (h:RO C φ H a o):RO C φ' H' a o:=h.stayQ p t.q e
theorem RO.some {a:Addr} {o:MO} (h:RO C φ H a o):∃ u,H a=some u:=by
 cases o with
 | lst ps=>obtain ⟨vs,q,r⟩:=h; exact ⟨_,q⟩
 | dK ps=>obtain ⟨vs,q,r⟩:=h; exact ⟨_,q⟩
 | ins n fs=>obtain ⟨c,dx,ks,hc,q,r⟩:=h; exact ⟨_,q⟩
 | dD kvs=>obtain ⟨ks,q,r⟩:=h; exact ⟨_,q⟩
 | vw kd d=>obtain ⟨b,hb,q⟩:=h; exact ⟨_,q⟩
 | fz o=>
  cases o with
  | dK kvs=>obtain ⟨ob,ks,q,r⟩:=h; exact ⟨_,q⟩
  | dD kvs=>obtain ⟨ob,ks,q,r⟩:=h; exact ⟨_,q⟩
  | _=>exact h.elim
theorem RH.get {h:PH} (r:RH C φ H h) {n:Nat} {o:MO} (e:h[n]?=some o):∃ a,φ[n]?=some a/\RO C φ H a o:=by
 have hn:=(List.getElem?_eq_some_iff.mp e).1
 have:n < φ.length:=by rw [r.len]; exact hn
 exact ⟨φ[n],by simp [this],r.at' n _ o (by simp [this]) e⟩
theorem RH.tracked {h:PH} (r:RH C φ H h) {n:Nat} {a:Addr} (e:φ[n]?=some a):∃ u,H a=some u:=by
 have hn:=(List.getElem?_eq_some_iff.mp e).1
 have:n < h.length:=by rw [<- r.len]; exact hn
 exact (r.at' n a h[n] e (by simp [this])).some
theorem RH.aside {h:PH} (r:RH C φ H h) {a:Addr} {o:HO} (e:H a=none):RH C φ (upd H a o) h:=
 ⟨r.len,r.nd,fun n b ob h1 h2=>by
  have q:=r.at' n b ob h1 h2
  obtain ⟨u,hu⟩:=q.some
  exact q.stay (List.prefix_rfl) (Kp.new e) (aE (bR hu e))⟩
theorem RH.new {h:PH} (r:RH C φ H h) {a:Addr} {u:HO} {o:MO} (e:H a=none) (q:RO C (φ++[a]) (upd H a u) a o):RH C (φ++[a]) (upd H a u) (h++[o]):=by
 refine ⟨by simp [r.len],?_,fun n b ob h1 h2=>?_⟩
 ·rw [List.nodup_append]
  refine ⟨r.nd,by simp,fun x hx y hy z=>?_⟩
  rw [List.mem_singleton] at hy
  subst hy z
  obtain ⟨n,hn⟩:=List.mem_iff_getElem?.mp hx
  obtain ⟨u',hu⟩:=r.tracked hn
  rw [e] at hu; cases hu
 ·by_cases hn:n < φ.length
  ·rw [List.getElem?_append_left hn] at h1
   rw [List.getElem?_append_left (by rw [<- r.len]; exact hn)] at h2
   have q':=r.at' n b ob h1 h2
   obtain ⟨u',hu⟩:=q'.some
   exact q'.stay (List.prefix_append _ _) (Kp.new e) (aE (bR hu e))
  ·have hn':n=φ.length:=by
    have:=(List.getElem?_eq_some_iff.mp h1).1
    simp at this
    omega
   subst hn'
   rw [List.getElem?_append_right (Nat.le_refl _),Nat.sub_self] at h1
   rw [r.len,List.getElem?_append_right (Nat.le_refl _),Nat.sub_self] at h2
   cases h1
   cases h2
   exact q
theorem RH.write {h:PH} (r:RH C φ H h) {n:Nat} {a:Addr} {u:HO} {o:MO} (e:φ[n]?=some a) (t:lQ (H a)) (q:RO C φ (upd H a u) a o):RH C φ (upd H a u) (h.set n o):=by
 refine ⟨by rw [List.length_set]; exact r.len,r.nd,fun m b ob h1 h2=>?_⟩
 by_cases hm:n=m
 ·subst hm
  rw [e] at h1; cases h1
  have hl:n < h.length:=by rw [<- r.len]; exact (List.getElem?_eq_some_iff.mp e).1
  rw [List.getElem?_set_self hl] at h2
  cases h2
  exact q
 ·rw [List.getElem?_set_ne hm] at h2
  have hb:b≠a:=fun z=>by
   subst z
   exact hm ((List.getElem?_inj (List.getElem?_eq_some_iff.mp e).1 r.nd).mp (e.trans h1.symm))
  exact (r.at' m b ob h1 h2).stay List.prefix_rfl (Kp.upd t) (aE hb)
end
section
variable (C:MC) (φ:List Addr) (H:Hp)
def post (r:Rs PV) (Q:VK):Prop:=match r with
 | .ok p h=>∀ φ' v H',φ<+:φ'->Kp H H'->RH C φ' H' h->RV C φ' H' p v->Q v H'
 | .exc x h=>∀ φ' H',φ<+:φ'->Kp H H'->RH C φ' H' h->C.ex φ' H' x
 | .bad=>False
def bE (r:Rs Bool) (Q:Bool->Hp->Prop):Prop:=match r with
 | .ok b h=>∀ φ' H',φ<+:φ'->Kp H H'->RH C φ' H' h->Q b H'
 | .exc x h=>∀ φ' H',φ<+:φ'->Kp H H'->RH C φ' H' h->C.ex φ' H' x
 | .bad=>False
def postA (r:Rs (List PV)) (Q:List V->Hp->Prop):Prop:=match r with
 | .ok ps h=>∀ φ' vs H',φ<+:φ'->Kp H H'->RH C φ' H' h->RVs C φ' H' ps vs->Q vs H'
 | .exc x h=>∀ φ' H',φ<+:φ'->Kp H H'->RH C φ' H' h->C.ex φ' H' x
 | .bad=>False
def bJ (r:Fl) (D:Ends):Prop:=match r with
 | .nx δ h=>∀ φ' σ H',φ<+:φ'->Kp H H'->RH C φ' H' h->RE C φ' H' δ σ->D.nx σ H'
 | .rt p h=>∀ φ' v H',φ<+:φ'->Kp H H'->RH C φ' H' h->RV C φ' H' p v->D.rt v H'
 | .bk δ h=>∀ φ' σ H',φ<+:φ'->Kp H H'->RH C φ' H' h->RE C φ' H' δ σ->D.bk σ H'
 | .ct δ h=>∀ φ' σ H',φ<+:φ'->Kp H H'->RH C φ' H' h->RE C φ' H' δ σ->D.ct σ H'
 | .exc x h=>∀ φ' H',φ<+:φ'->Kp H H'->RH C φ' H' h->C.ex φ' H' x
 | .bad=>False
end
section
variable {C:MC} {φ φ1:List Addr} {H H1:Hp}
theorem post.weak {r:Rs PV} {Q:VK} (p:φ<+:φ1) (t:Kp H H1) (h:post C φ H r Q):post C φ1 H1 r Q:=by
 cases r with
 | ok a h'=>exact fun φ' v H' p' t'=>h φ' v H' (p.trans p') (t.trans t')
 | exc a h'=>exact fun φ' H' p' t'=>h φ' H' (p.trans p') (t.trans t')
 | bad=>exact h
theorem bE.weak {r:Rs Bool} {Q:Bool->Hp->Prop} (p:φ<+:φ1) (t:Kp H H1) (h:bE C φ H r Q):bE C φ1 H1 r Q:=by
 cases r with
 | ok a h'=>exact fun φ' H' p' t'=>h φ' H' (p.trans p') (t.trans t')
 | exc a h'=>exact fun φ' H' p' t'=>h φ' H' (p.trans p') (t.trans t')
 | bad=>exact h
theorem postA.weak {r:Rs (List PV)} {Q:List V->Hp->Prop} (p:φ<+:φ1) (t:Kp H H1) (h:postA C φ H r Q):postA C φ1 H1 r Q:=by
 cases r with
 | ok a h'=>exact fun φ' v H' p' t'=>h φ' v H' (p.trans p') (t.trans t')
 | exc a h'=>exact fun φ' H' p' t'=>h φ' H' (p.trans p') (t.trans t')
 | bad=>exact h
theorem bJ.weak {r:Fl} {D:Ends} (p:φ<+:φ1) (t:Kp H H1) (h:bJ C φ H r D):bJ C φ1 H1 r D:=by
 cases r with
 | nx a h'=>exact fun φ' v H' p' t'=>h φ' v H' (p.trans p') (t.trans t')
 | rt a h'=>exact fun φ' v H' p' t'=>h φ' v H' (p.trans p') (t.trans t')
 | bk a h'=>exact fun φ' v H' p' t'=>h φ' v H' (p.trans p') (t.trans t')
 | ct a h'=>exact fun φ' v H' p' t'=>h φ' v H' (p.trans p') (t.trans t')
 | exc a h'=>exact fun φ' H' p' t'=>h φ' H' (p.trans p') (t.trans t')
 | bad=>exact h
theorem post.imp {r:Rs PV} {Q Q':VK} (h:post C φ H r Q) (i:∀ v H',Q v H'->Q' v H'):post C φ H r Q':=by
 cases r with
 | ok a h'=>exact fun φ' v H' p t rh rv=>i v H' (h φ' v H' p t rh rv)
 | exc a h'=>exact h
 | bad=>exact h
theorem post.bind {r:Rs PV} {f:PV->PH->Rs PV} {Q:VK} (h:post C φ H (r.bind f) Q):post C φ H r fun v H1=>∃ φ1 p h1,φ<+:φ1/\Kp H H1/\RH C φ1 H1 h1/\RV C φ1 H1 p v/\post C φ1 H1 (f p h1) Q:=by
 cases r with
 | ok a h'=>exact fun φ' v H' p t rh rv=>⟨φ',a,h',p,t,rh,rv,post.weak p t h⟩
 | exc a h'=>exact h
 | bad=>exact h
theorem post.bindB {r:Rs PV} {f:PV->PH->Rs Bool} {Q:Bool->Hp->Prop} (h:bE C φ H (r.bind f) Q):post C φ H r fun v H1=>∃ φ1 p h1,φ<+:φ1/\Kp H H1/\RH C φ1 H1 h1/\RV C φ1 H1 p v/\bE C φ1 H1 (f p h1) Q:=by
 cases r with
 | ok a h'=>exact fun φ' v H' p t rh rv=>⟨φ',a,h',p,t,rh,rv,bE.weak p t h⟩
 | exc a h'=>exact h
 | bad=>exact h
theorem bE.bind {r:Rs Bool} {f:Bool->PH->Rs PV} {Q:VK} (h:post C φ H (r.bind f) Q):bE C φ H r fun b H1=>∃ φ1 h1,φ<+:φ1/\Kp H H1/\RH C φ1 H1 h1/\post C φ1 H1 (f b h1) Q:=by
 cases r with
 | ok a h'=>exact fun φ' H' p t rh=>⟨φ',h',p,t,rh,post.weak p t h⟩
 | exc a h'=>exact h
 | bad=>exact h
theorem bE.bindB {r:Rs Bool} {f:Bool->PH->Rs Bool} {Q:Bool->Hp->Prop} (h:bE C φ H (r.bind f) Q):bE C φ H r fun b H1=>∃ φ1 h1,φ<+:φ1/\Kp H H1/\RH C φ1 H1 h1/\bE C φ1 H1 (f b h1) Q:=by
 cases r with
 | ok a h'=>exact fun φ' H' p t rh=>⟨φ',h',p,t,rh,bE.weak p t h⟩
 | exc a h'=>exact h
 | bad=>exact h
theorem postA.bind {r:Rs (List PV)} {f:List PV->PH->Rs PV} {Q:VK} (h:post C φ H (r.bind f) Q):postA C φ H r fun vs H1=>∃ φ1 ps h1,φ<+:φ1/\Kp H H1/\RH C φ1 H1 h1/\RVs C φ1 H1 ps vs/\post C φ1 H1 (f ps h1) Q:=by
 cases r with
 | ok a h'=>exact fun φ' v H' p t rh rv=>⟨φ',a,h',p,t,rh,rv,post.weak p t h⟩
 | exc a h'=>exact h
 | bad=>exact h
theorem postA.bindA {r:Rs (List PV)} {f:List PV->PH->Rs (List PV)} {Q:List V->Hp->Prop} (h:postA C φ H (r.bind f) Q):postA C φ H r fun vs H1=>∃ φ1 ps h1,φ<+:φ1/\Kp H H1/\RH C φ1 H1 h1/\RVs C φ1 H1 ps vs/\postA C φ1 H1 (f ps h1) Q:=by
 cases r with
 | ok a h'=>exact fun φ' v H' p t rh rv=>⟨φ',a,h',p,t,rh,rv,postA.weak p t h⟩
 | exc a h'=>exact h
 | bad=>exact h
theorem post.bindA {r:Rs PV} {f:PV->PH->Rs (List PV)} {Q:List V->Hp->Prop} (h:postA C φ H (r.bind f) Q):post C φ H r fun v H1=>∃ φ1 p h1,φ<+:φ1/\Kp H H1/\RH C φ1 H1 h1/\RV C φ1 H1 p v/\postA C φ1 H1 (f p h1) Q:=by
 cases r with
 | ok a h'=>exact fun φ' v H' p t rh rv=>⟨φ',a,h',p,t,rh,rv,postA.weak p t h⟩
 | exc a h'=>exact h
 | bad=>exact h
theorem post.val {p:PV} {v:V} {h:PH} {Q:VK} (q:post C φ H (.ok p h) Q) (rh:RH C φ H h) (rv:RV C φ H p v):Q v H:=q φ v H List.prefix_rfl (Kp.refl H) rh rv
end
end L2
set_option Elab.async false
set_option linter.all false
set_option maxRecDepth 100000
namespace L2
open PySem PySem.Spec PyProof.Rows
structure Cxt (C:MC) (k:Nat) (X:Cx):Prop where
 K:X.K=C.K
 calm:X.calm=true
 room:dC k X.A
 bn:∀ x∈C.bs,X.mg x=none
 w:X.w=C.w
theorem Cxt.hu {C:MC} {k:Nat} {X:Cx} (c:Cxt C k X):X.A.units+1 < cLine:=JA c.room
theorem Cxt.hu64 {C:MC} {k:Nat} {X:Cx} (c:Cxt C k X):X.A.units+64 < cLine:=c.room.units
theorem Cxt.comp {C:MC} {k:Nat} {X:Cx} (c:Cxt C k X) (sc:Scope) (N:List Str) (a:Addr) (fp:List Addr) (s:Shared) (H:Hp):Cxt C k (X.comp sc N a fp s H):=⟨c.K,c.calm,c.room,c.bn,c.w⟩
section
variable (C:MC)
def rd (m:Me):TE:=fun σ H Q=>∃ φ δ h,RH C φ H h/\RE C φ H δ σ/\post C φ H (m δ h) Q
def rdB (m:Ev->PH->Rs Bool):TT:=fun σ H Q=>∃ φ δ h,RH C φ H h/\RE C φ H δ σ/\bE C φ H (m δ h) Q
def rdA (m:Ev->PH->Rs (List PV)):TA:=fun σ H Q=>∃ φ δ h,RH C φ H h/\RE C φ H δ σ/\postA C φ H (m δ h) Q
def rdS (m:Ms):TS:=fun D σ H=>∃ φ δ h,RH C φ H h/\RE C φ H δ σ/\bJ C φ H (m δ h) D
def r2 (g:PV->PV->PH->Rs PV):R2:=fun x y H Q=>∃ φ h p q,RH C φ H h/\RV C φ H p x/\RV C φ H q y/\post C φ H (g p q h) Q
def r1 (g:PV->PH->Rs PV):V->Hp->VK->Prop:=fun x H Q=>∃ φ h p,RH C φ H h/\RV C φ H p x/\post C φ H (g p h) Q
def rL (g:List PV->PH->Rs PV):List V->Hp->VK->Prop:=fun xs H Q=>∃ φ h ps,RH C φ H h/\RVs C φ H ps xs/\post C φ H (g ps h) Q
end
variable {C:MC} {k:Nat} {X:Cx}
def SE (C:MC) (k:Nat) (X:Cx) (e:Expr) (m:Me):Prop:=Cxt C k X->PE X e (rd C m)
def ST (C:MC) (k:Nat) (X:Cx) (e:Expr) (m:Ev->PH->Rs Bool):Prop:=Cxt C k X->PT X e (rdB C m)
def SA (C:MC) (k:Nat) (X:Cx) (es:List Expr) (m:Ev->PH->Rs (List PV)):Prop:=Cxt C k X->PA X es (rdA C m)
def SSt (C:MC) (k:Nat) (X:Cx) (st:Stmt) (m:Ms):Prop:=Cxt C k X->PS X st (rdS C m)
def SSs (C:MC) (k:Nat) (X:Cx) (st:List Stmt) (m:Ms):Prop:=Cxt C k X->PSs X st (rdS C m)
def OpS (C:MC) (k:Nat) (X:Cx) (f:Value->Value->Sem Value) (g:PV->PV->PH->Rs PV):Prop:=Cxt C k X->OpR X f (r2 C g)
def UnS (C:MC) (k:Nat) (X:Cx) (f:Value->Sem Value) (g:PV->PH->Rs PV):Prop:=Cxt C k X->UnR X f (r1 C g)
def fV (C:MC) (k:Nat) (X:Cx) (f:Value) (g:List PV->PH->Rs PV):Prop:=Cxt C k X->bI X f (rL C g)
def tK:Ev->Nat->Option PV
 | [],_=>none
 | x :: _,0=>x
 | _ :: r,n+1=>tK r n
@[simp] theorem J1 (x:Option PV) (r:Ev):tK (x :: r) 0=x:=(rfl)
@[simp] theorem J2 (x:Option PV) (r:Ev) (n:Nat):tK (x :: r) (n+1)=tK r n:=(rfl)
theorem oG:∀ {δ:Ev} {i:Nat} {p:PV},tK δ i=some p->δ[i]?=some (some p)
 | [],_,_,h=>by cases h
 | x :: _,0,p,h=>by
  have h':x=some p:=h
  simp [h']
 | _ :: r,n+1,p,h=>by
  rw [List.getElem?_cons_succ]
  exact oG (δ:=r) (i:=n) h
def mV (i:Nat):Me:=fun δ h=>match tK δ i with
 | some p=>.ok p h
 | none=>.bad
def mC (p:PV):Me:=fun _ h=>.ok p h
theorem aA (i:Nat) {x:Str} {pos:Pos} (hN:X.N[i]?=some x:=by rfl) (hv:Vis X.env.scope x:=by first | exact Or.inl rfl | exact Or.inr (Or.inl rfl) | exact Or.inr (Or.inr rfl)) (hd:(x == ("__debug__" : Str))=false:=by decide)
  (hcd:(x == ("__classdict__" : Str))=false:=by decide):SE C k X (.Name x pos) (mV i):=fun _=>by
 refine (yG hN hv hd hcd).imp fun σ H Q h=>?_
 obtain ⟨φ,δ,h,rh,re,p⟩:=h
 unfold mV at p
 cases e:tK δ i with
 | none=>rw [e] at p; exact p.elim
 | some x=>
  rw [e] at p
  obtain ⟨v,hv,rv⟩:=re.2 i x (oG e)
  exact ⟨v,hv,p.val rh rv⟩
theorem aG {i j pos}:SE C k X (.Constant (.int i) j pos) (mC (.int i)):=fun _=>GV.imp fun σ H Q ⟨φ,δ,h,rh,re,p⟩=>p.val rh rfl
theorem tL {i j pos}:SE C k X (.Constant (.bool i) j pos) (mC (.bl i)):=fun _=>Jf.imp fun σ H Q ⟨φ,δ,h,rh,re,p⟩=>p.val rh rfl
theorem CS {i j pos}:SE C k X (.Constant (.str i) j pos) (mC (.str i)):=fun _=>GW.imp fun σ H Q ⟨φ,δ,h,rh,re,p⟩=>p.val rh rfl
def aB (g:PV->PV->PH->Rs PV) (ma mb:Me):Me:=fun δ h=>(ma δ h).bind fun x h1=>(mb δ h1).bind fun y h2=>g x y h2
theorem Az {g:PV->PV->PH->Rs PV} {ma mb:Me} {σ:St} {H:Hp} {Q:VK} (h:rd C (aB g ma mb) σ H Q):tOp (r2 C g) (rd C ma) (rd C mb) σ H Q:=by
 obtain ⟨φ,δ,h,rh,re,p⟩:=h
 refine ⟨φ,δ,h,rh,re,(post.bind p).imp ?_⟩
 rintro v H1 ⟨φ1,x,h1,p1,t1,rh1,rv1,q1⟩
 refine ⟨φ1,δ,h1,rh1,re.mono p1 t1,(post.bind q1).imp ?_⟩
 rintro u H2 ⟨φ2,y,h2,p2,t2,rh2,rv2,q2⟩
 exact ⟨φ2,h2,x,y,rh2,rv1.mono p2 t2,rv2,q2⟩
section
variable {a b e:Expr} {ma mb:Me} {g:PV->PV->PH->Rs PV} {pos:Pos}
theorem aT {op:Operator} (ho:OpS C k X (binaryOp op) g) (ha:SE C k X a ma) (hb:SE C k X b mb):SE C k X (.BinOp a op b pos) (aB g ma mb):=fun c=>
 (Jm (ho c) (ha c) (hb c)).imp fun σ H Q h=>Az h
theorem GB {op:CmpOp} (ho:OpS C k X (compareOp op) g) (ha:SE C k X a ma) (hb:SE C k X b mb) (hm:behindInMarks op b=false:=by first | exact Cq _ | rfl):SE C k X (.Compare a [op] [b] pos) (aB g ma mb):=fun c=>
 (EY (ho c) (ha c) (hb c) hm).imp fun σ H Q h=>Az h
def mUn (g:PV->PH->Rs PV) (ma:Me):Me:=fun δ h=>(ma δ h).bind g
theorem LW {op:UnaryOp} {g:PV->PH->Rs PV} (ho:UnS C k X (unaryOp op) g) (ha:SE C k X a ma):SE C k X (.UnaryOp op a pos) (mUn g ma):=fun c=>
 (Jn (ho c) (ha c)).imp fun σ H Q h=>by
  obtain ⟨φ,δ,h,rh,re,p⟩:=h
  refine ⟨φ,δ,h,rh,re,(post.bind p).imp ?_⟩
  rintro v H1 ⟨φ1,x,h1,p1,t1,rh1,rv1,q1⟩
  exact ⟨φ1,h1,x,rh1,rv1,q1⟩
end
def aL (h:PH) (n:Nat):Option (List PV):=match h[n]? with
 | some (.lst xs)=>some xs
 | _=>none
theorem bL {φ:List Addr} {H:Hp} {h:PH} {n:Nat} {xs:List PV} (rh:RH C φ H h) (e:aL h n=some xs):∃ a vs,φ[n]?=some a/\SqL C.K H a vs/\RVs C φ H xs vs:=by
 unfold aL at e
 cases q:h[n]? with
 | none=>rw [q] at e; cases e
 | some o=>
  rw [q] at e
  obtain ⟨a,ha,ro⟩:=rh.get q
  cases o with
  | lst ys=>cases e; obtain ⟨vs,q',r⟩:=ro; exact ⟨a,vs,ha,SqL.of q',r⟩
  | _=>cases e
def cR (h:PH) (n:Nat):Option (List PV):=match h[n]? with
 | some (.lst xs)=>some xs
 | _=>none
theorem eE {h:PH} {n:Nat} {xs:List PV} (e:cR h n=some xs):h[n]?=some (.lst xs):=by
 unfold cR at e
 cases q:h[n]? with
 | none=>rw [q] at e; cases e
 | some o=>
  rw [q] at e
  cases o with
  | lst ys=>cases e; rfl
  | _=>cases e
def iE (x:PV) (h:PH):Option (List PV):=match x with
 | .ref n=>aL h n
 | .fl xs=>some xs
 | _=>none
theorem oH {φ:List Addr} {H:Hp} {h:PH} {x:PV} {v:V} {xs:List PV} (rh:RH C φ H h) (rv:RV C φ H x v) (e:iE x h=some xs):∃ a vs,v=.ref a/\SqL C.K H a vs/\RVs C φ H xs vs:=by
 cases x with
 | ref n=>
  obtain ⟨a,rfl,ha⟩:=rv
  obtain ⟨a2,vs,ha2,sa,ra⟩:=bL rh e
  rw [ha] at ha2; cases ha2
  exact ⟨a,vs,rfl,sa,ra⟩
 | fl ys=>
  cases e
  obtain ⟨a,vs,rfl,sa,ra⟩:=rv
  exact ⟨a,vs,rfl,sa.sq,ra⟩
 | _=>cases e
def GC:List PV->Bool
 | []=>true
 | _ :: _=>false
def HV:PV->PV->PH->Rs PV:=fun x y h=>match x,y with
 | .int i,.int j=>.ok (.int (i+j)) h
 | .str i,.str j=>if i.length+j.length<=sizeLine then .ok (.str (i++j)) h else .bad
 | .tup xs,.tup ys=>if GC xs=false/\xs.length+ys.length<=sizeLine then .ok (.tup (xs++ys)) h else .bad
 | .ref a,.ref b=>match cR h a,cR h b with
  | some xs,some ys=>if xs.length+ys.length<=sizeLine then .ok (.ref h.length) (h++[.lst (xs++ys)]) else .bad
  | _,_=>.bad
 | _,_=>.bad
theorem post.ite {φ:List Addr} {H:Hp} {c:Prop} [Decidable c] {r:Rs PV} {Q:VK} (h:post C φ H (if c then r else .bad) Q):c/\post C φ H r Q:=by
 by_cases hc:c
 ·rw [if_pos hc] at h; exact ⟨hc,h⟩
 ·rw [if_neg hc] at h; exact h.elim
theorem post.lnew {φ:List Addr} {H:Hp} {h:PH} {xs:List PV} {vs:List V} {Q:VK} (q:post C φ H (.ok (.ref h.length) (h++[.lst xs])) Q) (rh:RH C φ H h) (r:RVs C φ H xs vs) {p:Addr} (hp:H p=none):Q (.ref p) (upd H p (.lst vs)):=
 q (φ++[p]) (.ref p) _ (List.prefix_append _ _) (Kp.new hp) (rh.new hp ⟨vs,aJ,r.mono (List.prefix_append _ _) (Kp.new hp)⟩) ⟨p,rfl,by rw [<- rh.len]; simp⟩
theorem post.tnew {φ:List Addr} {H:Hp} {h:PH} {xs:List PV} {vs:List V} {Q:VK} (q:post C φ H (.ok (.tup xs) h) Q) (rh:RH C φ H h) (r:RVs C φ H xs vs) {p:Addr} (hp:H p=none):Q (.ref p) (upd H p (.tup vs)):=
 q φ (.ref p) _ List.prefix_rfl (Kp.new hp) (rh.aside hp) ⟨p,vs,rfl,SqT.of aJ,r.mono List.prefix_rfl (Kp.new hp)⟩
theorem post.lset {φ:List Addr} {H:Hp} {h:PH} {n:Nat} {a:Addr} {p:PV} {v:V} {xs:List PV} {ws vs:List V} {Q:VK} (q:post C φ H (.ok p (h.set n (.lst xs))) Q) (rh:RH C φ H h) (e:φ[n]?=some a) (hl:H a=some (.lst ws)) (r:RVs C φ H xs vs) (rv:RV C φ H p v):Q v (upd H a (.lst vs)):=
 q φ v _ List.prefix_rfl (Kp.lst hl) (rh.write e (by rw [hl]; trivial) ⟨vs,aJ,r.mono List.prefix_rfl (Kp.lst hl)⟩) (rv.mono List.prefix_rfl (Kp.lst hl))
theorem CT {xs:List PV} {vs:List V} {φ:List Addr} {H:Hp} (r:RVs C φ H xs vs) (h:GC xs=false):vs≠[]:=by
 cases xs with
 | nil=>cases h
 | cons x xs=>
  cases vs with
  | nil=>exact r.elim
  | cons=>intro z; cases z
theorem JN:OpS C k X (binaryOp .Add) HV:=fun c=>(Fc C.K c.K).imp fun x y H Q h=>by
 obtain ⟨φ,h,p,q,rh,rx,ry,po⟩:=h
 unfold HV at po
 cases p with
 | int i=>
  cases q with
  | int j=>cases rx; cases ry; exact po.val rh rfl
  | _=>exact po.elim
 | str i=>
  cases q with
  | str j=>cases rx; cases ry; exact ⟨po.ite.1,po.ite.2.val rh rfl⟩
  | _=>exact po.elim
 | tup xs=>
  cases q with
  | tup ys=>
   obtain ⟨a,vs,rfl,sa,ra⟩:=rx
   obtain ⟨b,us,rfl,sb,rb⟩:=ry
   obtain ⟨⟨h1,h2⟩,po⟩:=po.ite
   refine .inr ⟨a,b,vs,us,rfl,rfl,sa,sb,CT ra h1,by rw [<- ra.length,<- rb.length]; exact h2,fun z=>?_,fun z p hp=>po.tnew rh (ra.append rb) hp⟩
   subst z
   have e:ys=[]:=List.eq_nil_of_length_eq_zero rb.length
   subst e
   exact po.val rh ⟨a,vs,rfl,sa,by rw [List.append_nil]; exact ra⟩
  | _=>exact po.elim
 | ref n=>
  cases q with
  | ref m=>
   obtain ⟨a,rfl,ha⟩:=rx
   obtain ⟨b,rfl,hb⟩:=ry
   dsimp only at po
   cases e1:cR h n with
   | none=>rw [e1] at po; exact po.elim
   | some xs=>
    cases e2:cR h m with
    | none=>rw [e1,e2] at po; exact po.elim
    | some ys=>
     rw [e1,e2] at po
     obtain ⟨vs,h1,r1⟩:=rh.at' n a _ ha (eE e1)
     obtain ⟨us,h2,r2⟩:=rh.at' m b _ hb (eE e2)
     obtain ⟨hz,po⟩:=po.ite
     exact .inl ⟨a,b,vs,us,rfl,rfl,h1,h2,by rw [<- r1.length,<- r2.length]; exact hz,fun p hp=>po.lnew rh (r1.append r2) hp⟩
  | _=>exact po.elim
 | _=>exact po.elim
def vInt (P:Int->Int->Prop) [∀ i j,Decidable (P i j)] (f:Int->Int->Int):PV->PV->PH->Rs PV:=fun x y h=>match x,y with
 | .int i,.int j=>if P i j then .ok (.int (f i j)) h else .bad
 | _,_=>.bad
theorem CU {f:Value->Value->Sem Value} {P:Int->Int->Prop} [∀ i j,Decidable (P i j)] {g:Int->Int->Int} (ho:OpR X f (vJ P g)):OpS C k X f (vInt P g):=fun c=>ho.imp fun x y H Q h=>by
 obtain ⟨φ,h,p,q,rh,rx,ry,po⟩:=h
 unfold vInt at po
 cases p with
 | int i=>
  cases q with
  | int j=>cases rx; cases ry; exact ⟨po.ite.1,po.ite.2.val rh rfl⟩
  | _=>exact po.elim
 | _=>exact po.elim
noncomputable instance (i j:Int):Decidable (vB i j):=Classical.propDecidable _
noncomputable instance (i j:Int):Decidable (Cp i j):=Classical.propDecidable _
noncomputable instance (i j:Int):Decidable (LI i j):=Classical.propDecidable _
def LX:PV->PV->PH->Rs PV:=fun x y h=>match x,y with
 | .int i,.int j=>.ok (.int (i - j)) h
 | _,_=>.bad
noncomputable abbrev CV:=vInt vB fun i j=>i*j
noncomputable abbrev qI:=vInt Cp fun i j=>i / j
abbrev eF:=vInt (fun _ j=>0 < j) fun i j=>i % j
theorem GD:OpS C k X (binaryOp .Mult) CV:=CU Fe
theorem rP:OpS C k X (binaryOp .FloorDiv) qI:=CU Ff
theorem eG:OpS C k X (binaryOp .Mod) eF:=CU Fg
def CW:PV->PH->Rs PV:=fun x h=>match x with
 | .int i=>.ok (.int (-i)) h
 | _=>.bad
end L2
set_option Elab.async false
set_option linter.all false
set_option maxRecDepth 100000
namespace L2
open PySem PySem.Spec PyProof.Rows
variable {C:MC} {k:Nat} {X:Cx}
def zI (f:Int->Int->Bool) (g:List Nat->List Nat->Bool):PV->PV->PH->Rs PV:=fun x y h=>match x,y with
 | .int i,.int j=>.ok (.bl (f i j)) h
 | .str i,.str j=>.ok (.bl (g i.cps.toList j.cps.toList)) h
 | _,_=>.bad
theorem CY {f:Value->Value->Sem Value} {p:Int->Int->Bool} {g:List Nat->List Nat->Bool} (ho:OpR X f (vK p g)):OpS C k X f (zI p g):=fun c=>ho.imp fun x y H Q h=>by
 obtain ⟨φ,h,p,q,rh,rx,ry,po⟩:=h
 unfold zI at po
 cases p with
 | int i=>
  cases q with
  | int j=>cases rx; cases ry; exact po.val rh rfl
  | _=>exact po.elim
 | str i=>
  cases q with
  | str j=>cases rx; cases ry; exact po.val rh rfl
  | _=>exact po.elim
 | _=>exact po.elim
abbrev vLt:=zI (fun i j=>decide (i < j)) fun i j=>decide (i < j)
abbrev vLe:=zI (fun i j=>decide (i<=j)) fun i j=>!decide (j < i)
abbrev vGe:=zI (fun i j=>decide (j<=i)) fun i j=>!decide (i < j)
theorem LY:OpS C k X (compareOp .Lt) vLt:=CY HC
theorem JO:OpS C k X (compareOp .LtE) vLe:=CY HE
theorem LZ:OpS C k X (compareOp .GtE) vGe:=CY HF
mutual
def PV.d:PV->Option D
 | .non=>some .non
 | .bl b=>some (.bl b)
 | .int i=>some (.int i)
 | .str x=>some (.str x)
 | .tup xs=>match PV.ds xs with
  | some ds=>some (.tup ds)
  | none=>none
 | .ref _=>none
 | .ty _=>none
 | .fl _=>none
def PV.ds:List PV->Option (List D)
 | []=>some []
 | x :: xs=>match PV.d x,PV.ds xs with
  | some d,some ds=>some (d :: ds)
  | _,_=>none
end
section
variable {φ:List Addr} {H:Hp}
mutual
theorem RV.rep:∀ {x:PV} {d:D} {v:V},RV C φ H x v->x.d=some d->Rep C.K H d v
 | .non,_,_,h,e=>by cases e; exact h
 | .bl _,_,_,h,e=>by cases e; exact h
 | .int _,_,_,h,e=>by cases e; exact h
 | .str _,_,_,h,e=>by cases e; exact h
 | .tup xs,d,v,⟨a,vs,e1,q,r⟩,e=>by
  unfold PV.d at e
  cases e2:PV.ds xs with
  | none=>rw [e2] at e; cases e
  | some ds=>
   rw [e2] at e
   cases e
   exact ⟨a,vs,e1,q,RVs.reps r e2⟩
 | .ref _,_,_,_,e=>by cases e
 | .ty _,_,_,_,e=>by cases e
 | .fl _,_,_,_,e=>by cases e
theorem RVs.reps:∀ {xs:List PV} {ds:List D} {vs:List V},RVs C φ H xs vs->PV.ds xs=some ds->bW C.K H ds vs
 | [],_,[],_,e=>by cases e; trivial
 | x :: xs,_,v :: vs,⟨h,r⟩,e=>by
  unfold PV.ds at e
  cases e1:PV.d x with
  | none=>rw [e1] at e; cases e
  | some d=>
   cases e2:PV.ds xs with
   | none=>rw [e1,e2] at e; cases e
   | some ds=>
    rw [e1,e2] at e
    cases e
    exact ⟨RV.rep h e1,RVs.reps r e2⟩
 | [],_,_ :: _,h,_=>h.elim
 | _ :: _,_,[],h,_=>h.elim
end
end
def tM (x y:PV) (h:PH):Option Bool:=match x.d,y.d with
 | some d,some e=>if d.depth<=40 then some (eqD d e) else none
 | _,_=>match iE x h,iE y h with
   | some xs,some ys=>match PV.ds xs,PV.ds ys with
    | some ds,some es=>if D.depths ds<=40 then some (cY ds es) else none
    | _,_=>none
   | _,_=>none
def ofB (o:Option Bool) (h:PH):Rs PV:=match o with
 | some b=>.ok (.bl b) h
 | none=>.bad
def vEq:PV->PV->PH->Rs PV:=fun x y h=>ofB (tM x y h) h
def vNe:PV->PV->PH->Rs PV:=fun x y h=>ofB ((tM x y h).map not) h
theorem oI {φ:List Addr} {H:Hp} {h:PH} {p q:PV} {x y:V} {b:Bool} (rh:RH C φ H h) (rx:RV C φ H p x) (ry:RV C φ H q y) (e:tM p q h=some b):
  (∃ d e,Rep C.K H d x/\Rep C.K H e y/\d.depth<=40/\b=eqD d e)\/(∃ ds es,Bq C.K H ds x/\Bq C.K H es y/\D.depths ds<=40/\b=cY ds es):=by
 unfold tM at e
 split at e
 ·rename_i d e' h1 h2
  split at e
  ·rename_i hd
   cases e
   exact .inl ⟨d,e',rx.rep h1,ry.rep h2,hd,rfl⟩
  ·cases e
 ·split at e
  ·rename_i xs ys h1 h2
   split at e
   ·rename_i ds es h3 h4
    split at e
    ·rename_i hd
     cases e
     obtain ⟨a',vs,rfl,sa,ra⟩:=oH rh rx h1
     obtain ⟨b'',us,rfl,sb,rb⟩:=oH rh ry h2
     exact .inr ⟨ds,es,⟨a',vs,rfl,sa,ra.reps h3⟩,⟨b'',us,rfl,sb,rb.reps h4⟩,hd,rfl⟩
    ·cases e
   ·cases e
  ·cases e
theorem post.ofB {φ:List Addr} {H:Hp} {h:PH} {o:Option Bool} {Q:VK} (q:post C φ H (ofB o h) Q):∃ b,o=some b/\post C φ H (.ok (.bl b) h) Q:=by
 cases o with
 | none=>exact q.elim
 | some b=>exact ⟨b,rfl,q⟩
theorem CZ:OpS C k X (compareOp .Eq) vEq:=fun c=>((HJ c.hu64 C.K c.K).or (HL c.hu64 C.K c.K)).imp fun x y H Q h=>by
 obtain ⟨φ,h,p,q,rh,rx,ry,po⟩:=h
 obtain ⟨b,e,po⟩:=po.ofB
 rcases oI rh rx ry e with ⟨d,e',h1,h2,h3,rfl⟩ | ⟨d,e',h1,h2,h3,rfl⟩
 ·exact .inl ⟨d,e',h1,h2,h3,po.val rh rfl⟩
 ·exact .inr ⟨d,e',h1,h2,h3,po.val rh rfl⟩
theorem D0:OpS C k X (compareOp .NotEq) vNe:=fun c=>((HK c.hu64 C.K c.K).or (HM c.hu64 C.K c.K)).imp fun x y H Q h=>by
 obtain ⟨φ,h,p,q,rh,rx,ry,po⟩:=h
 obtain ⟨b,e,po⟩:=po.ofB
 cases e0:tM p q h with
 | none=>rw [e0] at e; cases e
 | some b'=>
  rw [e0] at e
  cases e
  rcases oI rh rx ry e0 with ⟨d,e',h1,h2,h3,rfl⟩ | ⟨d,e',h1,h2,h3,rfl⟩
  ·exact .inl ⟨d,e',h1,h2,h3,po.val rh rfl⟩
  ·exact .inr ⟨d,e',h1,h2,h3,po.val rh rfl⟩
def mT:PV->Option Key
 | .int i=>some (.inl i)
 | .str x=>some (.inr x)
 | _=>none
def bH {κ:Type} [DecidableEq κ]:List (κ×PV)->κ->Option PV
 | [],_=>none
 | (a,p) :: r,b=>if a=b then some p else bH r b
def zJ (h:PH) (n:Nat) (x:PV):Option (Option PV):=match h[n]? with
 | some (.dK kvs)=>match mT x with
  | some key=>some (bH kvs key)
  | none=>none
 | _=>none
def D1 (x:PV) (ys:List PV):Option Bool:=match x.d,PV.ds ys with
 | some d,some ds=>if D.depths ds<=40 then some (ds.any fun e=>eqD e d) else none
 | _,_=>none
def MI (x y:PV) (h:PH):Option Bool:=match y with
 | .tup ys=>D1 x ys
 | .ref n=>match aL h n with
  | some ys=>D1 x ys
  | none=>(zJ h n x).map Option.isSome
 | .fl ys=>D1 x ys
 | _=>none
theorem tN {φ:List Addr} {H:Hp} {x:PV} {v:V} {key:Key} (r:RV C φ H x v) (e:mT x=some key):v=kV key:=by
 cases x <;> first | (cases e; exact r) | cases e
theorem rQ {φ:List Addr} {H:Hp} {κ:Type} [DecidableEq κ] {kvs:List (κ×PV)} {ks:List (κ×V)} (r:RKv C φ H kvs ks) (a:κ):match bH kvs a,fO ks a with
  | some p,some v=>RV C φ H p v
  | none,none=>True
  | _,_=>False:=by
 unfold RKv at r
 induction r with
 | nil=>trivial
 | @cons p q ps qs h t ih=>
  obtain ⟨h1,h2⟩:=h
  obtain ⟨pk,pv⟩:=p
  by_cases e:pk=a
  ·have e':q.1=a:=h1.symm.trans e
   rw [iZ e']
   unfold bH
   rw [if_pos e]
   exact h2
  ·have e':¬ q.1=a:=fun z=>e (h1.trans z)
   rw [jA e']
   unfold bH
   rw [if_neg e]
   exact ih
theorem oJ {φ:List Addr} {H:Hp} {h:PH} {n:Nat} {a:Addr} {x:PV} {v:V} {o:Option PV} (rh:RH C φ H h) (ha:φ[n]?=some a) (rv:RV C φ H x v) (e:zJ h n x=some o):
  ∃ o',qE H a v o'/\o.isSome=o'.isSome/\∀ p,o=some p->∃ w,o'=some w/\RV C φ H p w:=by
 unfold zJ at e
 split at e
 ·rename_i kvs hk
  split at e
  ·rename_i key hkey
   cases e
   obtain ⟨ks,hH,rk⟩:=rh.at' n a _ ha hk
   have q:=rQ rk key
   rw [tN rv hkey]
   refine ⟨fO ks key,qE.k hH,?_,fun p hp=>?_⟩
   ·cases e1:bH kvs key <;> cases e2:fO ks key <;> rw [e1,e2] at q <;> first | rfl | exact q.elim
   ·rw [hp] at q
    cases e2:fO ks key with
    | none=>rw [e2] at q; exact q.elim
    | some w=>rw [e2] at q; exact ⟨w,rfl,q⟩
  ·cases e
 ·cases e
def kR:PV->Bool
 | .non=>true
 | _=>false
def vIs:PV->PV->PH->Rs PV:=fun x y h=>match y with
 | .non=>.ok (.bl (kR x)) h
 | .bl b=>match x with
  | .bl a=>.ok (.bl (a == b)) h
  | _=>.bad
 | _=>.bad
def D2:PV->PV->PH->Rs PV:=fun x y h=>match y with
 | .non=>.ok (.bl (!kR x)) h
 | .bl b=>match x with
  | .bl a=>.ok (.bl (!(a == b))) h
  | _=>.bad
 | _=>.bad
def tru (x:PV) (h:PH):Rs Bool:=match x with
 | .non=>.ok false h
 | .bl b=>.ok b h
 | .int i=>.ok (i != 0) h
 | .str y=>if y.length<=sizeLine then .ok ((y.length:Int) != 0) h else .bad
 | .tup xs=>.ok (!xs.isEmpty) h
 | .ref n=>match aL h n with
  | some xs=>.ok (!xs.isEmpty) h
  | none=>match h[n]? with
   | some (.dK kvs)=>.ok (!kvs.isEmpty) h
   | _=>.bad
 | .fl xs=>.ok (!xs.isEmpty) h
 | .ty _=>.bad
theorem RVs.isEmpty {φ:List Addr} {H:Hp} {xs:List PV} {vs:List V} (r:RVs C φ H xs vs):(!vs.isEmpty)=!xs.isEmpty:=by
 cases xs <;> cases vs <;> first | rfl | exact r.elim
theorem bE.ite {φ:List Addr} {H:Hp} {c:Prop} [Decidable c] {r:Rs Bool} {Q:Bool->Hp->Prop} (h:bE C φ H (if c then r else .bad) Q):c/\bE C φ H r Q:=by
 by_cases hc:c
 ·rw [if_pos hc] at h; exact ⟨hc,h⟩
 ·rw [if_neg hc] at h; exact h.elim
theorem bE.val {φ:List Addr} {H:Hp} {b:Bool} {h:PH} {Q:Bool->Hp->Prop} (q:bE C φ H (.ok b h) Q) (rh:RH C φ H h):Q b H:=q φ H List.prefix_rfl (Kp.refl H) rh
theorem Bz {φ:List Addr} {H:Hp} {h:PH} {p:PV} {v:V} {Q:Bool->Hp->Prop} (rh:RH C φ H h) (rv:RV C φ H p v) (po:bE C φ H (tru p h) Q):∃ b,EZ C.K v H b/\Q b H:=by
 unfold tru at po
 cases p with
 | non=>cases rv; exact ⟨_,rfl,po.val rh⟩
 | bl b=>cases rv; exact ⟨_,rfl,po.val rh⟩
 | int i=>cases rv; exact ⟨_,rfl,po.val rh⟩
 | str y=>cases rv; exact ⟨_,⟨po.ite.1,rfl⟩,po.ite.2.val rh⟩
 | tup xs=>
  obtain ⟨a,vs,rfl,sa,ra⟩:=rv
  exact ⟨_,.inr (.inl ⟨vs,sa,rfl⟩),by rw [ra.isEmpty]; exact po.val rh⟩
 | ref n=>
  obtain ⟨a,rfl,ha⟩:=rv
  dsimp only at po
  cases e:aL h n with
  | some xs=>
   rw [e] at po
   obtain ⟨a2,vs,ha2,sa,ra⟩:=bL rh e
   rw [ha] at ha2; cases ha2
   exact ⟨_,.inl ⟨vs,sa,rfl⟩,by rw [ra.isEmpty]; exact po.val rh⟩
  | none=>
   rw [e] at po
   dsimp only at po
   split at po
   ·rename_i kvs hk
    obtain ⟨ks,hH,rk⟩:=rh.at' n a _ ha hk
    refine ⟨_,.inr (.inr ⟨ks,hH,rfl⟩),?_⟩
    have:(!ks.isEmpty)=!kvs.isEmpty:=by cases rk <;> rfl
    rw [this]
    exact po.val rh
   ·exact po.elim
 | fl xs=>
  obtain ⟨a,vs,rfl,sa,ra⟩:=rv
  exact ⟨_,.inl ⟨vs,sa.sq,rfl⟩,by rw [ra.isEmpty]; exact po.val rh⟩
 | ty n=>exact po.elim
end L2
set_option Elab.async false
set_option linter.all false
set_option maxRecDepth 100000
namespace L2
open PySem PySem.Spec PyProof.Rows
variable {C:MC} {k:Nat} {X:Cx}
def cJ (m:Me):Ev->PH->Rs Bool:=fun δ h=>(m δ h).bind tru
theorem D3 {m:Me} {σ:St} {H:Hp} {Q:Bool->Hp->Prop} (h:rdB C (cJ m) σ H Q):rd C m σ H fun v H1=>∃ b,EZ C.K v H1 b/\Q b H1:=by
 obtain ⟨φ,δ,h,rh,re,p⟩:=h
 refine ⟨φ,δ,h,rh,re,(post.bindB p).imp ?_⟩
 rintro v H1 ⟨φ1,x,h1,p1,t1,rh1,rv1,q1⟩
 exact Bz rh1 rv1 q1
section
variable {a b e c':Expr} {ma mb mc m:Me} {g g':PV->PV->PH->Rs PV} {pos:Pos} {ta tb:Ev->PH->Rs Bool}
theorem D4 (h:SE C k X e m) (he:∀ whole,isTrue e X.env whole=(do let v <- whole; standAt e.pos; holding [v] (truthy v)):=by intro _; rfl):ST C k X e (cJ m):=fun c=>
 (Cs (h c) he).imp fun σ H Q q=>by rw [c.K]; exact D3 q
theorem eI {op:CmpOp} (ho:OpS C k X (compareOp op) g) (ha:SE C k X a ma) (hb:SE C k X b mb) (hm:behindInMarks op b=false:=by first | exact Cq _ | rfl):ST C k X (.Compare a [op] [b] pos) (cJ (aB g ma mb)):=fun c=>by
 intro pins s σ H Q I h
 have h:=Az (D3 h)
 refine wpAny_isTrue_Compare1 (thn (ha c pins s σ H _ I h) fun v s1 ⟨x,H1,I1,r1,q1⟩=>thn (hb c pins s1 σ H1 _ I1 q1) fun u s2 ⟨y,H2,I2,r2,q2⟩=>
  thn (ho c pins s2 σ H2 x y v u _ I2 r1 r2 q2) fun w s3 ⟨z,H3,I3,r3,q3⟩=>?_) hm
 rw [<- c.K] at q3
 exact Cr pins s3 σ H3 z w Q I3 r3 q3
def JP (z:PV) (h:PH):Rs PV:=match z with
 | .bl b=>.ok (.bl b) h
 | _=>.bad
def D5 (t:Ev->PH->Rs Bool):Ev->PH->Rs Bool:=fun δ h=>(t δ h).bind fun b h1=>.ok (!b) h1
def vT (ta tb:Ev->PH->Rs Bool):Ev->PH->Rs Bool:=fun δ h=>(ta δ h).bind fun b h1=>match b with
 | true=>tb δ h1
 | false=>.ok false h1
def D6 (ta tb:Ev->PH->Rs Bool):Ev->PH->Rs Bool:=fun δ h=>(ta δ h).bind fun b h1=>match b with
 | true=>.ok true h1
 | false=>tb δ h1
theorem bE.imp {φ:List Addr} {H:Hp} {r:Rs Bool} {Q Q':Bool->Hp->Prop} (h:bE C φ H r Q) (i:∀ v H',Q v H'->Q' v H'):bE C φ H r Q':=by
 cases r with
 | ok a h'=>exact fun φ' H' p t rh=>i a H' (h φ' H' p t rh)
 | exc a h'=>exact h
 | bad=>exact h
theorem JQ (h:ST C k X e ta):ST C k X (.UnaryOp .Not e pos) (D5 ta):=fun c=>(GZ (h c)).imp fun σ H Q q=>by
 obtain ⟨φ,δ,h,rh,re,p⟩:=q
 refine ⟨φ,δ,h,rh,re,(bE.bindB p).imp ?_⟩
 rintro b H1 ⟨φ1,h1,p1,t1,rh1,q1⟩
 exact q1.val rh1
def SW (C:MC) (k:Nat) (X:Cx) (e:Expr) (m:Ev->PH->Rs Bool):Prop:=Cxt C k X->PW X e (rdB C m)
theorem SW.t (h:SW C k X e ta):ST C k X e ta:=fun c=>(h c).pt
theorem PW.imp {t t':TT} (h:PW X e t) (i:∀ σ H Q,t' σ H Q->t σ H Q):PW X e t':=fun w pins s σ H Q I q=>h w pins s σ H Q I (i σ H Q q)
theorem HW (ha:ST C k X a ta):SW C k X (.BoolOp .And [a] pos) ta:=fun c=>ER (ha c)
theorem JR (ha:ST C k X a ta):SW C k X (.BoolOp .Or [a] pos) ta:=fun c=>GX (ha c)
theorem w_and {rest:List Expr} (ha:ST C k X a ta) (hb:SW C k X (.BoolOp .And (b :: rest) pos) tb):SW C k X (.BoolOp .And (a :: b :: rest) pos) (vT ta tb):=fun c=>PW.imp (GY (ha c) (hb c)) fun σ H Q q=>by
 obtain ⟨φ,δ,h,rh,re,p⟩:=q
 refine ⟨φ,δ,h,rh,re,(bE.bindB p).imp ?_⟩
 rintro b H1 ⟨φ1,h1,p1,t1,rh1,q1⟩
 cases b with
 | true=>exact F7 ⟨φ1,δ,h1,rh1,re.mono p1 t1,q1⟩
 | false=>exact F6 (q1.val rh1)
theorem w_or {rest:List Expr} (ha:ST C k X a ta) (hb:SW C k X (.BoolOp .Or (b :: rest) pos) tb):SW C k X (.BoolOp .Or (a :: b :: rest) pos) (D6 ta tb):=fun c=>PW.imp (Jg (ha c) (hb c)) fun σ H Q q=>by
 obtain ⟨φ,δ,h,rh,re,p⟩:=q
 refine ⟨φ,δ,h,rh,re,(bE.bindB p).imp ?_⟩
 rintro b H1 ⟨φ1,h1,p1,t1,rh1,q1⟩
 cases b with
 | true=>exact F7 (q1.val rh1)
 | false=>exact F6 ⟨φ1,δ,h1,rh1,re.mono p1 t1,q1⟩
end
theorem RVs.atI {φ:List Addr} {H:Hp} {xs:List PV} {vs:List V} {i:Int} {x:PV} (r:RVs C φ H xs vs) (e:L2.atI xs i=some x):∃ v,L2.atI vs i=some v/\RV C φ H x v:=by
 unfold L2.atI at e ⊢
 rw [<- r.length]
 cases q:ixN xs.length i with
 | none=>rw [q] at e; cases e
 | some j=>
  rw [q] at e
  exact r.at e
def ofO (o:Option PV) (h:PH):Rs PV:=match o with
 | some p=>.ok p h
 | none=>.bad
def vIx:PV->PV->PH->Rs PV:=fun x y h=>match x with
 | .str z=>(match y with
  | .int i=>if z.length<=sizeLine then ofO ((atI z.cps.toList i).map fun c=>.str ⟨#[c]⟩) h else .bad
  | _=>.bad)
 | .tup xs=>(match y with
  | .int i=>ofO (atI xs i) h
  | _=>.bad)
 | .fl xs=>(match y with
  | .int i=>ofO (atI xs i) h
  | _=>.bad)
 | .ref n=>(match aL h n with
  | some xs=>(match y with
   | .int i=>ofO (atI xs i) h
   | _=>.bad)
  | none=>(match zJ h n y with
   | some o=>ofO o h
   | none=>.bad))
 | _=>.bad
theorem post.ofO {φ:List Addr} {H:Hp} {h:PH} {o:Option PV} {Q:VK} (q:post C φ H (ofO o h) Q):∃ p,o=some p/\post C φ H (.ok p h) Q:=by
 cases o with
 | none=>exact q.elim
 | some b=>exact ⟨b,rfl,q⟩
theorem JS {x y:V} {H:Hp} {Q:VK} (h:r2 C vIx x y H Q):JG C.K x y H Q:=by
 obtain ⟨φ,h,p,q,rh,rx,ry,po⟩:=h
 unfold vIx at po
 cases p with
 | str z=>
  cases rx
  cases q with
  | int i=>
   cases ry
   obtain ⟨hz,po⟩:=po.ite
   obtain ⟨p,e,po⟩:=po.ofO
   cases e':atI z.cps.toList i with
   | none=>rw [e'] at e; cases e
   | some c=>rw [e'] at e; cases e; exact ⟨hz,c,e',po.val rh rfl⟩
  | _=>exact po.elim
 | tup xs=>
  obtain ⟨a,vs,rfl,sa,ra⟩:=rx
  cases q with
  | int i=>
   cases ry
   obtain ⟨p,e,po⟩:=po.ofO
   obtain ⟨v,hv,rv⟩:=ra.atI e
   exact .inl ⟨vs,i,v,rfl,.inr sa,hv,po.val rh rv⟩
  | _=>exact po.elim
 | fl xs=>
  obtain ⟨a,vs,rfl,sa,ra⟩:=rx
  cases q with
  | int i=>
   cases ry
   obtain ⟨p,e,po⟩:=po.ofO
   obtain ⟨v,hv,rv⟩:=ra.atI e
   exact .inl ⟨vs,i,v,rfl,.inl sa.sq,hv,po.val rh rv⟩
  | _=>exact po.elim
 | ref n=>
  obtain ⟨a,rfl,ha⟩:=rx
  dsimp only at po
  cases e:aL h n with
  | some xs=>
   rw [e] at po
   obtain ⟨a2,vs,ha2,sa,ra⟩:=bL rh e
   rw [ha] at ha2; cases ha2
   cases q with
   | int i=>
    cases ry
    obtain ⟨p,e,po⟩:=po.ofO
    obtain ⟨v,hv,rv⟩:=ra.atI e
    exact .inl ⟨vs,i,v,rfl,.inl sa,hv,po.val rh rv⟩
   | _=>exact po.elim
  | none=>
   rw [e] at po
   dsimp only at po
   cases e':zJ h n q with
   | none=>rw [e'] at po; exact po.elim
   | some o=>
    rw [e'] at po
    obtain ⟨p,eo,po⟩:=po.ofO
    obtain ⟨o',g,_,hp⟩:=oJ rh ha ry e'
    obtain ⟨w,rfl,rw'⟩:=hp p eo
    exact .inr ⟨w,g,po.val rh rw'⟩
 | _=>exact po.elim
theorem iA {prog:Program} {w:World} {A:Around} {E:Value->Shared->Prop} {s:Shared} {t sl:Addr} {items:Array Value} {vl vu:Value} {lo hi:Option Int} {Q:Value->Shared->Prop} (ht:IsTup s.heap t items) (hs:s.heap.IsSliceOf sl vl vu .none) (pl:IsPart vl lo) (pu:IsPart vu hi)
  (hw:HT.sIx items.size 0 lo=0/\HT.sIx items.size items.size hi=items.size) (h:Q (.ref t) s):wpAny (model prog w) A (getItem (.ref t) (.ref sl)) Q E s:=by
 obtain ⟨os,hos,hcs,hds⟩:=id hs
 have hTs:s.TypeIs (.ref sl) "slice" := ⟨os,hos,hcs⟩
 unfold getItem
 try with_reducible refine wpAny_holding ?_
 first | refine wpAny_bind (wpAny_pure ?_) | skip
 refine wpAny_bind (wpAny_sequenceKey ht.typeIs (by decide) ?_)
 refine wpAny_bind (wpAny_callSpecial?_slot (name:=Str.ofString "__getitem__") ht.typeIs PyProof.Rows.slot_tuple_getitem
  (wpAny_call_entry PyProof.Rows.slot_tuple_getitem ht.typeIs entry_tuple_getitem ?_ (args_tuple_getitem _ _)))
 show wpAny _ _ (Builtin.Tuple.tupleItemsOf (.ref t) >>= _) _ _ s
 refine wpAny_bind (tupleItemsOf_ ht ?_)
 refine wpAny_bind (wpAny_typeOf hTs ?_)
 rw [if_pos (by decide)]
 refine wpAny_bind (HT.sliceApplied_gen hs pl pu ?_)
 have hno:((((HT.sIx items.size 0 lo:Nat):Int) == 0 && (1:Int) == 1 && (HT.sIx items.size items.size hi - HT.sIx items.size 0 lo) == items.size)=true):=by
  rw [hw.1,hw.2]; simp
 show wpAny _ _ (if (((HT.sIx items.size 0 lo:Nat):Int) == 0 && (1:Int) == 1 && (HT.sIx items.size items.size hi - HT.sIx items.size 0 lo) == items.size)=true then _ else _) _ _ s
 rw [if_pos hno]
 refine wpAny_bind ?_
 unfold Builtin.Tuple.tupleIsExact
 refine wpAny_bind (wpAny_typeOf ht.typeIs (wpAny_pure ?_))
 rw [if_pos (by decide)]
 refine wpAny_bind (wpAny_rule ?_)
 exact wpAny_pure ⟨_,rfl,wpAny_pure h⟩
end L2
set_option Elab.async false
set_option linter.all false
set_option maxRecDepth 100000
namespace L2
open PySem PySem.Spec PyProof.Rows
variable {C:MC} {k:Nat} {X:Cx}
def fP {α:Type} (xs:List α) (lo hi:Option Int):List α:=(xs.drop (HT.sIx xs.length 0 lo)).take (HT.sIx xs.length xs.length hi - HT.sIx xs.length 0 lo)
theorem RVs.cut {φ:List Addr} {H:Hp} {xs:List PV} {vs:List V} (r:RVs C φ H xs vs) (lo hi:Option Int):RVs C φ H (fP xs lo hi) (vD vs lo hi):=by
 unfold fP vD
 rw [<- r.length]
 exact (r.drop _).take _
def vSl:PV->Option Int->Option Int->PH->Rs PV:=fun x lo hi h=>match x with
 | .str z=>if z.length<=sizeLine then .ok (.str (Txt.slice z lo hi)) h else .bad
 | .tup xs=>.ok (.tup (fP xs lo hi)) h
 | .ref n=>match aL h n with
  | some xs=>.ok (.ref h.length) (h++[.lst (fP xs lo hi)])
  | none=>.bad
 | .fl xs=>.ok (.ref h.length) (h++[.lst (fP xs lo hi)])
 | _=>.bad
def JT (K:PySem.W.Frag):V->Option Int->Option Int->Hp->VK->Prop:=fun x lo hi H Q=>∃ a xs,x=.ref a/\SqT K H a xs/\(HT.sIx xs.length 0 lo=0/\HT.sIx xs.length xs.length hi=xs.length)/\Q (.ref a) H
theorem D7:SlR X (JT X.K):=by
 intro pins s σ H x v vl vu lo hi sl Q I rx hs pl pu h
 obtain ⟨a,xs,rfl,hx,hw,q⟩:=h
 cases rx
 obtain ⟨its,r,ht,hz⟩:=I.tuple hx
 have hlen:its.toArray.size=xs.length:=by rw [List.size_toArray]; exact r.length.symm
 refine ⟨"tuple",_,PyProof.Rows.slot_tuple_getitem.lookup,ht.typeIs,?_⟩
 exact iA ht hs pl pu (by rw [hlen]; exact hw) ⟨.ref a,H,I,rfl,q⟩
theorem SlR.imp {r r':V->Option Int->Option Int->Hp->VK->Prop} (h:SlR X r) (i:∀ x lo hi H Q,r' x lo hi H Q->r x lo hi H Q):SlR X r':=fun pins s σ H x v vl vu lo hi sl Q I rx hs pl pu q=>h pins s σ H x v vl vu lo hi sl Q I rx hs pl pu (i x lo hi H Q q)
def r3 (C:MC) (g:PV->Option Int->Option Int->PH->Rs PV):V->Option Int->Option Int->Hp->VK->Prop:=fun x lo hi H Q=>∃ φ h p,RH C φ H h/\RV C φ H p x/\post C φ H (g p lo hi h) Q
theorem HX (hK:X.K=C.K):SlR X (r3 C vSl):=by
 have e:SlR X (fun x lo hi H Q=>JE x lo hi H Q\/Jt C.K x lo hi H Q\/Jw C.K x lo hi H Q\/JT C.K x lo hi H Q):=by rw [<- hK]; exact HB.or (Hr.or (F5.or D7))
 refine e.imp fun x lo hi H Q h=>?_
 obtain ⟨φ,h,p,rh,rv,po⟩:=h
 unfold vSl at po
 cases p with
 | str z=>cases rv; exact .inl ⟨z,rfl,po.ite.1,po.ite.2.val rh rfl⟩
 | tup xs=>
  obtain ⟨a,vs,rfl,sa,ra⟩:=rv
  by_cases hw:HT.sIx vs.length 0 lo=0/\HT.sIx vs.length vs.length hi=vs.length
  ·refine .inr (.inr (.inr ⟨a,vs,rfl,sa,hw,po.val rh ⟨a,vs,rfl,sa,?_⟩⟩))
   have e:fP xs lo hi=xs:=by
    unfold fP
    rw [ra.length,hw.1,hw.2,List.drop_zero,Nat.sub_zero,<- ra.length,List.take_length]
   rw [e]
   exact ra
  ·exact .inr (.inl ⟨a,vs,rfl,sa,hw,fun p hp=>po.tnew rh (ra.cut lo hi) hp⟩)
 | ref n=>
  obtain ⟨a,rfl,ha⟩:=rv
  dsimp only at po
  cases e:aL h n with
  | none=>rw [e] at po; exact po.elim
  | some xs=>
   rw [e] at po
   obtain ⟨a2,vs,ha2,sa,ra⟩:=bL rh e
   rw [ha] at ha2; cases ha2
   exact .inr (.inr (.inl ⟨a,vs,rfl,sa,fun p hp=>po.lnew rh (ra.cut lo hi) hp⟩))
 | fl xs=>
  obtain ⟨a,vs,rfl,sa,ra⟩:=rv
  exact .inr (.inr (.inl ⟨a,vs,rfl,sa.sq,fun p hp=>po.lnew rh (ra.cut lo hi) hp⟩))
 | _=>exact po.elim
abbrev Mo:=Ev->PH->Rs (Option Int)
def lU (C:MC) (φ:List Addr) (H:Hp) (r:Rs (Option Int)) (Q:Option Int->Hp->Prop):Prop:=match r with
 | .ok b h=>∀ φ' H',φ<+:φ'->Kp H H'->RH C φ' H' h->Q b H'
 | .exc x h=>∀ φ' H',φ<+:φ'->Kp H H'->RH C φ' H' h->C.ex φ' H' x
 | .bad=>False
def rdO (C:MC) (m:Mo):TO:=fun σ H Q=>∃ φ δ h,RH C φ H h/\RE C φ H δ σ/\lU C φ H (m δ h) Q
def SO (C:MC) (k:Nat) (X:Cx) (e:Option Expr) (m:Mo):Prop:=Cxt C k X->PO X e (rdO C m)
def qJ:Mo:=fun _ h=>.ok none h
def mP (m:Me):Mo:=fun δ h=>(m δ h).bind fun x h1=>match x with
 | .int i=>.ok (some i) h1
 | _=>.bad
theorem oK:SO C k X none qJ:=fun c pins s σ H Q I h=>by
 obtain ⟨φ,δ,h,rh,re,p⟩:=h
 exact F2 pins s σ H Q I (p φ H List.prefix_rfl (Kp.refl H) rh)
theorem iM {e:Expr} {m:Me} (h:SE C k X e m):SO C k X (some e) (mP m):=fun c pins s σ H Q I q=>by
 refine CF (h c) pins s σ H Q I ?_
 obtain ⟨φ,δ,h,rh,re,p⟩:=q
 refine ⟨φ,δ,h,rh,re,?_⟩
 unfold mP at p
 cases e':m δ h with
 | ok x h1=>
  rw [e'] at p
  intro φ' v H' p' t' rh' rv'
  cases x with
  | int i=>cases rv'; exact p φ' H' p' t' rh'
  | _=>exact p.elim
 | exc x h1=>rw [e'] at p; exact p
 | bad=>rw [e'] at p; exact p
def mSl (me:Me) (ml mh:Mo):Me:=fun δ h=>(me δ h).bind fun x h1=>(ml δ h1).bind fun l h2=>(mh δ h2).bind fun u h3=>vSl x l u h3
theorem lU.bind {φ:List Addr} {H:Hp} {r:Rs (Option Int)} {f:Option Int->PH->Rs PV} {Q:VK} (h:post C φ H (r.bind f) Q):lU C φ H r fun b H1=>∃ φ1 h1,φ<+:φ1/\Kp H H1/\RH C φ1 H1 h1/\post C φ1 H1 (f b h1) Q:=by
 cases r with
 | ok a h'=>exact fun φ' H' p t rh=>⟨φ',h',p,t,rh,post.weak p t h⟩
 | exc a h'=>exact h
 | bad=>exact h
theorem lU.imp {φ:List Addr} {H:Hp} {r:Rs (Option Int)} {Q Q':Option Int->Hp->Prop} (h:lU C φ H r Q) (i:∀ v H',Q v H'->Q' v H'):lU C φ H r Q':=by
 cases r with
 | ok a h'=>exact fun φ' H' p t rh=>i a H' (h φ' H' p t rh)
 | exc a h'=>exact h
 | bad=>exact h
theorem BA {e:Expr} {lo hi:Option Expr} {me:Me} {ml mh:Mo} {p2 pos:Pos} (he:SE C k X e me) (hl:SO C k X lo ml) (hh:SO C k X hi mh):SE C k X (.Subscript e (.Slice lo hi none p2) pos) (mSl me ml mh):=fun c=>
 (Cy (HX c.K) (he c) (hl c) (hh c)).imp fun σ H Q h=>by
  obtain ⟨φ,δ,h,rh,re,p⟩:=h
  refine ⟨φ,δ,h,rh,re,(post.bind p).imp ?_⟩
  rintro v H1 ⟨φ1,x,h1,p1,t1,rh1,rv1,q1⟩
  refine ⟨φ1,δ,h1,rh1,re.mono p1 t1,(lU.bind q1).imp ?_⟩
  rintro l H2 ⟨φ2,h2,p2,t2,rh2,q2⟩
  refine ⟨φ2,δ,h2,rh2,re.mono (p1.trans p2) (t1.trans t2),(lU.bind q2).imp ?_⟩
  rintro u H3 ⟨φ3,h3,p3,t3,rh3,q3⟩
  exact ⟨φ3,h3,x,rh3,rv1.mono (p2.trans p3) (t2.trans t3),q3⟩
abbrev Ma:=Ev->PH->Rs (List PV)
def aN:Ma:=fun _ h=>.ok [] h
def aC (m:Me) (ms:Ma):Ma:=fun δ h=>(m δ h).bind fun x h1=>(ms δ h1).bind fun xs h2=>.ok (x :: xs) h2
theorem PA.imp {es:List Expr} {t t':TA} (h:PA X es t) (i:∀ σ H Q,t' σ H Q->t σ H Q):PA X es t':=fun pos pins s σ H Q I q=>h pos pins s σ H Q I (i σ H Q q)
theorem aK:SA C k X [] aN:=fun c=>Cu.imp fun σ H Q h=>by
 obtain ⟨φ,δ,h,rh,re,p⟩:=h
 exact p φ [] H List.prefix_rfl (Kp.refl H) rh trivial
theorem postA.imp {φ:List Addr} {H:Hp} {r:Rs (List PV)} {Q Q':List V->Hp->Prop} (h:postA C φ H r Q) (i:∀ v H',Q v H'->Q' v H'):postA C φ H r Q':=by
 cases r with
 | ok a h'=>exact fun φ' v H' p t rh rv=>i v H' (h φ' v H' p t rh rv)
 | exc a h'=>exact h
 | bad=>exact h
theorem aD {e:Expr} {es:List Expr} {m:Me} {ms:Ma} (he:SE C k X e m) (hs:SA C k X es ms) (hh:starEach (e :: es) X.env=(false,eval e X.env) :: starEach es X.env:=by rfl):SA C k X (e :: es) (aC m ms):=fun c=>(Ap (he c) (hs c) hh).imp fun σ H Q h=>by
 obtain ⟨φ,δ,h,rh,re,p⟩:=h
 refine ⟨φ,δ,h,rh,re,(post.bindA p).imp ?_⟩
 rintro v H1 ⟨φ1,x,h1,p1,t1,rh1,rv1,q1⟩
 refine ⟨φ1,δ,h1,rh1,re.mono p1 t1,(postA.bindA q1).imp ?_⟩
 rintro vs H2 ⟨φ2,xs,h2,p2,t2,rh2,rv2,q2⟩
 exact q2 φ2 (v :: vs) H2 List.prefix_rfl (Kp.refl H2) rh2 ⟨rv1.mono p2 t2,rv2⟩
def tQ (ms:Ma):Me:=fun δ h=>(ms δ h).bind fun xs h1=>if xs.length<=sizeLine then .ok (.tup xs) h1 else .bad
def HY (ms:Ma):Me:=fun δ h=>(ms δ h).bind fun xs h1=>if xs.length<=sizeLine then .ok (.ref h1.length) (h1++[.lst xs]) else .bad
theorem AA {es:List Expr} {ms:Ma} {x1} {pos:Pos} (hs:SA C k X es ms):SE C k X (.Tuple es x1 pos) (tQ ms):=fun c=>(Hm (hs c)).imp fun σ H Q h=>by
 obtain ⟨φ,δ,h,rh,re,p⟩:=h
 refine ⟨φ,δ,h,rh,re,(postA.bind p).imp ?_⟩
 rintro vs H1 ⟨φ1,xs,h1,p1,t1,rh1,rv1,q1⟩
 exact ⟨by rw [<- rv1.length]; exact q1.ite.1,fun p hp=>q1.ite.2.tnew rh1 rv1 hp⟩
theorem JU {es:List Expr} {ms:Ma} {pos:Pos} (hs:SA C k X es ms):SE C k X (.List es pos) (HY ms):=fun c=>(Hn (hs c)).imp fun σ H Q h=>by
 obtain ⟨φ,δ,h,rh,re,p⟩:=h
 refine ⟨φ,δ,h,rh,re,(postA.bind p).imp ?_⟩
 rintro vs H1 ⟨φ1,xs,h1,p1,t1,rh1,rv1,q1⟩
 exact ⟨by rw [<- rv1.length]; exact q1.ite.1,fun p hp=>q1.ite.2.lnew rh1 rv1 hp⟩
def iN:Me:=fun _ h=>.ok (.ref h.length) (h++[.dK []])
theorem tR {pos:Pos}:SE C k X (.Dict [] [] pos) iN:=fun c=>CC.imp fun σ H Q h=>by
 obtain ⟨φ,δ,h,rh,re,p⟩:=h
 intro a ha
 exact p (φ++[a]) (.ref a) _ (List.prefix_append _ _) (Kp.new ha) (rh.new ha ⟨[],aJ,.nil⟩) ⟨a,rfl,by rw [<- rh.len]; simp⟩
def mCB (g:List PV->PH->Rs PV) (ms:Ma):Me:=fun δ h=>(ms δ h).bind g
theorem GE {g:List PV->PH->Rs PV} {ms:Ma} {σ:St} {H:Hp} {Q:VK} (h:rd C (mCB g ms) σ H Q):tCB (rL C g) (rdA C ms) σ H Q:=by
 obtain ⟨φ,δ,h,rh,re,p⟩:=h
 refine ⟨φ,δ,h,rh,re,(postA.bind p).imp ?_⟩
 rintro vs H1 ⟨φ1,xs,h1,p1,t1,rh1,rv1,q1⟩
 exact ⟨φ1,h1,xs,rh1,rv1,q1⟩
section
variable {x:Str} {p pos:Pos} {e:Expr} {es:List Expr} {ms:Ma} {id T:String} {g:List PV->PH->Rs PV}
theorem bP (hc:fV C k X (.builtin id) g) (hv:bootBuiltins x=some (.builtin id)) (ha:SA C k X (e :: es) ms) (hb:x∈C.bs:=by decide) (hg:Gl X x:=by rfl) (hn:x≠"__name__" := by decide) (hdb:(x == ("__debug__" : Str))=false:=by decide)
  (he:starEach (e :: es) X.env=(false,eval e X.env) :: starEach es X.env:=by rfl) (hpl:(backTo pos (starEach es X.env)).any (·.1)=false:=by rfl):SE C k X (.Call (.Name x p) (e :: es) [] pos) (mCB g ms):=fun c=>
 (Cv (hc c) hg (c.bn x hb) hv (ha c) hn hdb he hpl).imp fun σ H Q h=>GE h
theorem oM (hc:fV C k X (.type T) g) (hv:bootBuiltins x=some (.type T)) (ha:SA C k X (e :: es) ms) (hb:x∈C.bs:=by decide) (hg:Gl X x:=by rfl) (hn:x≠"__name__" := by decide) (hdb:(x == ("__debug__" : Str))=false:=by decide)
  (he:starEach (e :: es) X.env=(false,eval e X.env) :: starEach es X.env:=by rfl) (hpl:(backTo pos (starEach es X.env)).any (·.1)=false:=by rfl):SE C k X (.Call (.Name x p) (e :: es) [] pos) (mCB g ms):=fun c=>
 (Bh (hc c) hg (c.bn x hb) hv (ha c) hn hdb he hpl).imp fun σ H Q h=>GE h
def spM (C:MC) (n:Nat) (f:Fn):Sp:=fun vs H Q _=>∃ φ h ps,RH C φ H h/\RVs C φ H ps vs/\ps.length=n/\post C φ H (f ps h) Q
def cA (n:Nat) (f:Fn) (ms:Ma):Me:=fun δ h=>(ms δ h).bind fun ps h1=>if ps.length=n then f ps h1 else .bad
theorem s_call {st:Stmt} {a:Addr} {fd:FuncData} {ps:List Str} {j n:Nat} {f:Fn} (D:Def C.K X.mg x st a fd ps) (G:aZ X.prog X.w C.K X.mg X.base CX0 j a fd ps (spM C n f)) (ha:SA C k X (e :: es) ms) (hj:j<=k:=by decide)
  (hg:Gl X x:=by rfl) (hdb:(x == ("__debug__" : Str))=false:=by decide) (he:starEach (e :: es) X.env=(false,eval e X.env) :: starEach es X.env:=by rfl) (hpl:(backTo pos (starEach es X.env)).any (·.1)=false:=by rfl):
  SE C k X (.Call (.Name x p) (e :: es) [] pos) (cA n f ms):=fun c=>by
 have e1:=c.K
 have D':Def X.K X.mg x st a fd ps:=by rw [e1]; exact D
 have G':aZ X.prog X.w X.K X.mg X.base CX0 j a fd ps (spM C n f):=by rw [e1]; exact G
 refine (JL D' G' (c.room.mono hj) (ha c) hg hdb he hpl).imp fun σ H Q h=>?_
 obtain ⟨φ,δ,h,rh,re,p⟩:=h
 refine ⟨φ,δ,h,rh,re,(postA.bind p).imp ?_⟩
 rintro vs H1 ⟨φ1,xs,h1,p1,t1,rh1,rv1,q1⟩
 refine ⟨φ1,h1,xs,rh1,by rw [List.append_nil]; exact rv1,q1.ite.1,q1.ite.2⟩
end
def eU:List PV->PH->Rs PV:=fun xs h=>match xs with
 | [.str y]=>if y.length<=sizeLine then .ok (.int y.length) h else .bad
 | [.tup ys]=>.ok (.int ys.length) h
 | [.fl ys]=>.ok (.int ys.length) h
 | [.ref n]=>match aL h n with
  | some ys=>.ok (.int ys.length) h
  | none=>match h[n]? with
   | some (.dK kvs)=>.ok (.int kvs.length) h
   | _=>.bad
 | _=>.bad
theorem RVs.one {φ:List Addr} {H:Hp} {x:PV} {vs:List V} (r:RVs C φ H [x] vs):∃ v,vs=[v]/\RV C φ H x v:=by
 match vs,r with
 | [v],⟨h,_⟩=>exact ⟨v,rfl,h⟩
 | [],h=>exact h.elim
 | _ :: _ :: _,⟨_,h⟩=>exact h.elim
theorem RVs.two {φ:List Addr} {H:Hp} {x y:PV} {vs:List V} (r:RVs C φ H [x,y] vs):∃ v w,vs=[v,w]/\RV C φ H x v/\RV C φ H y w:=by
 match vs,r with
 | [v,w],⟨h,h',_⟩=>exact ⟨v,w,rfl,h,h'⟩
 | [],h=>exact h.elim
 | [_],⟨_,h⟩=>exact h.elim
 | _ :: _ :: _ :: _,⟨_,_,h⟩=>exact h.elim
theorem lX:fV C k X (.builtin "len") eU:=fun c=>(Bo C.K c.K).imp fun vs H Q h=>by
 obtain ⟨φ,h,ps,rh,rv,po⟩:=h
 unfold eU at po
 split at po
 ·obtain ⟨v,rfl,rx⟩:=rv.one
  cases rx
  exact ⟨po.ite.1,po.ite.2.val rh rfl⟩
 ·obtain ⟨v,rfl,rx⟩:=rv.one
  obtain ⟨a,vs,rfl,sa,ra⟩:=rx
  exact .inl ⟨vs,.inr sa,by rw [<- ra.length]; exact po.val rh rfl⟩
 ·obtain ⟨v,rfl,rx⟩:=rv.one
  obtain ⟨a,vs,rfl,sa,ra⟩:=rx
  exact .inl ⟨vs,.inl sa.sq,by rw [<- ra.length]; exact po.val rh rfl⟩
 ·rename_i n
  obtain ⟨v,rfl,rx⟩:=rv.one
  obtain ⟨a,rfl,ha⟩:=rx
  split at po
  ·rename_i ys e
   obtain ⟨a2,vs,ha2,sa,ra⟩:=bL rh e
   rw [ha] at ha2; cases ha2
   exact .inl ⟨vs,.inl sa,by rw [<- ra.length]; exact po.val rh rfl⟩
  ·split at po
   ·rename_i kvs hk
    obtain ⟨ks,hH,rk⟩:=rh.at' n a _ ha hk
    refine .inr ⟨ks,hH,?_⟩
    have:ks.length=kvs.length:=(Paired.length rk).symm
    rw [this]
    exact po.val rh rfl
   ·exact po.elim
 ·exact po.elim
def kT:List PV->PH->Rs PV:=fun xs h=>match xs with
 | [.tup ys]=>.ok (.tup ys) h
 | [.fl ys]=>.ok (.tup ys) h
 | [.ref n]=>match aL h n with
  | some ys=>.ok (.tup ys) h
  | none=>.bad
 | _=>.bad
theorem Fp:fV C k X (.type "tuple") kT:=fun c=>(vL C.K c.K).imp fun vs H Q h=>by
 obtain ⟨φ,h,ps,rh,rv,po⟩:=h
 unfold kT at po
 split at po
 ·obtain ⟨v,rfl,rx⟩:=rv.one
  obtain ⟨a,vs,rfl,sa,ra⟩:=rx
  exact ⟨a,vs,rfl,.inr ⟨sa,po.val rh ⟨a,vs,rfl,sa,ra⟩⟩⟩
 ·obtain ⟨v,rfl,rx⟩:=rv.one
  obtain ⟨a,vs,rfl,sa,ra⟩:=rx
  exact ⟨a,vs,rfl,.inl ⟨sa.sq,fun p hp=>po.tnew rh ra hp⟩⟩
 ·rename_i n
  obtain ⟨v,rfl,rx⟩:=rv.one
  obtain ⟨a,rfl,ha⟩:=rx
  split at po
  ·rename_i ys e
   obtain ⟨a2,vs,ha2,sa,ra⟩:=bL rh e
   rw [ha] at ha2; cases ha2
   exact ⟨a,vs,rfl,.inl ⟨sa,fun p hp=>po.tnew rh ra hp⟩⟩
  ·exact po.elim
 ·exact po.elim
def vU:List PV->PH->Rs PV:=fun xs h=>match xs with
 | [.tup ys]=>.ok (.ref h.length) (h++[.lst ys])
 | [.fl ys]=>.ok (.ref h.length) (h++[.lst ys])
 | [.ref n]=>match aL h n with
  | some ys=>.ok (.ref h.length) (h++[.lst ys])
  | none=>.bad
 | _=>.bad
theorem HZ:fV C k X (.type "list") vU:=fun c=>(yW C.K c.K).imp fun vs H Q h=>by
 obtain ⟨φ,h,ps,rh,rv,po⟩:=h
 unfold vU at po
 split at po
 ·obtain ⟨v,rfl,rx⟩:=rv.one
  obtain ⟨a,vs,rfl,sa,ra⟩:=rx
  exact ⟨a,vs,rfl,.inr sa,fun p hp=>po.lnew rh ra hp⟩
 ·obtain ⟨v,rfl,rx⟩:=rv.one
  obtain ⟨a,vs,rfl,sa,ra⟩:=rx
  exact ⟨a,vs,rfl,.inl sa.sq,fun p hp=>po.lnew rh ra hp⟩
 ·rename_i n
  obtain ⟨v,rfl,rx⟩:=rv.one
  obtain ⟨a,rfl,ha⟩:=rx
  split at po
  ·rename_i ys e
   obtain ⟨a2,vs,ha2,sa,ra⟩:=bL rh e
   rw [ha] at ha2; cases ha2
   exact ⟨a,vs,rfl,.inl sa,fun p hp=>po.lnew rh ra hp⟩
  ·exact po.elim
 ·exact po.elim
def Fq:List PV->PH->Rs PV:=fun xs h=>match xs with
 | [.int i,.int j]=>.ok (.int (if j > i then j else i)) h
 | _=>.bad
theorem JV:fV C k X (.builtin "max") Fq:=fun c=>(Bp c.calm).imp fun vs H Q h=>by
 obtain ⟨φ,h,ps,rh,rv,po⟩:=h
 unfold Fq at po
 split at po
 ·obtain ⟨v,w,rfl,rx,ry⟩:=rv.two
  cases rx; cases ry
  exact po.val rh rfl
 ·exact po.elim
end L2
set_option Elab.async false
set_option linter.all false
set_option maxRecDepth 100000
namespace L2
open PySem PySem.Spec PyProof.Rows
variable {C:MC} {k:Nat} {X:Cx}
def Rs.fl {α:Type} (r:Rs α) (f:α->PH->Fl):Fl:=match r with
 | .ok a h=>f a h
 | .exc x h=>.exc x h
 | .bad=>.bad
@[simp] theorem Rs.fl_ok {α:Type} (a:α) (h:PH) (f:α->PH->Fl):(Rs.ok a h).fl f=f a h:=(rfl)
@[simp] theorem Rs.fl_exc {α:Type} (x:PX) (h:PH) (f:α->PH->Fl):(Rs.exc x h:Rs α).fl f=.exc x h:=(rfl)
@[simp] theorem Rs.fl_bad {α:Type} (f:α->PH->Fl):(Rs.bad:Rs α).fl f=.bad:=(rfl)
section
variable {φ:List Addr} {H:Hp}
theorem post.fl {r:Rs PV} {f:PV->PH->Fl} {D:Ends} (h:bJ C φ H (r.fl f) D):post C φ H r fun v H1=>∃ φ1 p h1,φ<+:φ1/\Kp H H1/\RH C φ1 H1 h1/\RV C φ1 H1 p v/\bJ C φ1 H1 (f p h1) D:=by
 cases r with
 | ok a h'=>exact fun φ' v H' p t rh rv=>⟨φ',a,h',p,t,rh,rv,bJ.weak p t h⟩
 | exc a h'=>exact h
 | bad=>exact h
theorem bE.fl {r:Rs Bool} {f:Bool->PH->Fl} {D:Ends} (h:bJ C φ H (r.fl f) D):bE C φ H r fun b H1=>∃ φ1 h1,φ<+:φ1/\Kp H H1/\RH C φ1 H1 h1/\bJ C φ1 H1 (f b h1) D:=by
 cases r with
 | ok a h'=>exact fun φ' H' p t rh=>⟨φ',h',p,t,rh,bJ.weak p t h⟩
 | exc a h'=>exact h
 | bad=>exact h
theorem bJ.nx {δ:Ev} {h:PH} {D:Ends} {σ:St} (q:bJ C φ H (.nx δ h) D) (rh:RH C φ H h) (re:RE C φ H δ σ):D.nx σ H:=q φ σ H List.prefix_rfl (Kp.refl H) rh re
theorem bJ.rt {p:PV} {h:PH} {D:Ends} {v:V} (q:bJ C φ H (.rt p h) D) (rh:RH C φ H h) (rv:RV C φ H p v):D.rt v H:=q φ v H List.prefix_rfl (Kp.refl H) rh rv
end
abbrev Mg:=PV->Ev->Option Ev
abbrev Mgs:=List PV->Ev->Option Ev
def rdG (C:MC) (t:Mg):TG:=fun v σ H Q=>∃ φ δ h p δ',RH C φ H h/\RE C φ H δ σ/\RV C φ H p v/\t p δ=some δ'/\∀ σ',RE C φ H δ' σ'->Q σ' H
def M0 (C:MC) (t:Mgs):TGs:=fun vs σ H Q=>∃ φ δ h ps δ',RH C φ H h/\RE C φ H δ σ/\RVs C φ H ps vs/\t ps δ=some δ'/\∀ σ',RE C φ H δ' σ'->Q σ' H
def SG (C:MC) (k:Nat) (X:Cx) (e:Expr) (t:Mg):Prop:=Cxt C k X->PG X e (rdG C t)
def SGs (C:MC) (k:Nat) (X:Cx) (es:List Expr) (t:Mgs):Prop:=Cxt C k X->PGs X es (M0 C t)
def gN (i:Nat):Mg:=fun p δ=>some (δ.set i (some p))
def gNl:Mgs:=fun ps δ=>match ps with
 | []=>some δ
 | _ :: _=>none
def gCn (t:Mg) (u:Mgs):Mgs:=fun ps δ=>match ps with
 | p :: r=>(t p δ).bind (u r)
 | []=>none
def gTp (n:Nat) (u:Mgs):Mg:=fun p δ=>match p with
 | .tup ps=>if ps.length=n then u ps δ else none
 | _=>none
theorem PG.imp {e:Expr} {t t':TG} (h:PG X e t) (i:∀ v σ H Q,t' v σ H Q->t v σ H Q):PG X e t':=fun pins s σ H v u Q I r q=>h pins s σ H v u Q I r (i v σ H Q q)
theorem PGs.imp {es:List Expr} {t t':TGs} (h:PGs X es t) (i:∀ v σ H Q,t' v σ H Q->t v σ H Q):PGs X es t':=fun pins s σ H v u Q I r q=>h pins s σ H v u Q I r (i v σ H Q q)
theorem aW {i:Nat} {x:Str} {pos:Pos} (hN:X.N.Nodup) (hi:X.N[i]?=some x:=by rfl) (hx:Loc X.env.scope x:=by first | exact Or.inl rfl | exact Or.inr rfl) (hf:X.fn x=true\/X.env.scope.names.lookup x=some .local:=by first | exact .inl rfl | exact .inr rfl):SG C k X (.Name x pos) (gN i):=fun c=>
 (EV hN hi hx hf).imp fun v σ H Q h=>by
  obtain ⟨φ,δ,h,p,δ',rh,re,rv,e,q⟩:=h
  cases e
  exact q _ (re.set rv i)
theorem AB:SGs C k X [] gNl:=fun c=>EW.imp fun v σ H Q h=>by
 obtain ⟨φ,δ,h,ps,δ',rh,re,rv,e,q⟩:=h
 cases ps with
 | nil=>
  cases e
  cases v with
  | nil=>exact ⟨rfl,q σ re⟩
  | cons=>exact rv.elim
 | cons=>cases e
theorem fW {e:Expr} {es:List Expr} {t:Mg} {u:Mgs} (h1:SG C k X e t) (h2:SGs C k X es u) (hs:(assignEach (e :: es) X.env).map (·.2)=assign e X.env :: (assignEach es X.env).map (·.2):=by rfl):SGs C k X (e :: es) (gCn t u):=fun c=>
 (Cn (h1 c) (h2 c) hs).imp fun vs σ H Q h=>by
  obtain ⟨φ,δ,h,ps,δ',rh,re,rv,e,q⟩:=h
  cases ps with
  | nil=>cases e
  | cons p r=>
   cases vs with
   | nil=>exact rv.elim
   | cons v vs=>
    obtain ⟨δ1,e1,e2⟩:=Option.bind_eq_some_iff.mp (show (t p δ).bind (u r)=some δ' from e)
    exact ⟨v,vs,rfl,φ,δ,h,p,δ1,rh,re,rv.1,e1,fun σ' re'=>⟨φ,δ1,h,r,δ',rh,re',rv.2,e2,q⟩⟩
theorem AC {es:List Expr} {j:Nat} {u:Mgs} {n:Nat} {pos:Pos} (h:SGs C k X es u) (hn:(assignEach es X.env).length=n:=by rfl) (hst:(assignEach es X.env).findIdx? (·.1)=none:=by rfl):SG C k X (.Tuple es j pos) (gTp n u):=fun c=>
 (gT C.K c.K c.calm (h c) hn hst).imp fun v σ H Q h=>by
  obtain ⟨φ,δ,h,p,δ',rh,re,rv,e,q⟩:=h
  cases p with
  | tup ps=>
   obtain ⟨a,vs,rfl,sa,ra⟩:=rv
   by_cases hl:ps.length=n
   ·have e':u ps δ=some δ':=by
     have:(if ps.length=n then u ps δ else none)=some δ':=e
     rw [if_pos hl] at this
     exact this
    exact ⟨a,vs,rfl,sa,by rw [<- ra.length]; exact hl,φ,δ,h,ps,δ',rh,re,ra,e',q⟩
   ·have:(if ps.length=n then u ps δ else none)=some δ':=e
    rw [if_neg hl] at this
    cases this
  | _=>cases e
theorem PS.imp {st:Stmt} {t t':TS} (h:PS X st t) (i:∀ D σ H,t' D σ H->t D σ H):PS X st t':=fun pins s σ H D I q=>h pins s σ H D I (i D σ H q)
theorem PSs.imp {st:List Stmt} {t t':TS} (h:PSs X st t) (i:∀ D σ H,t' D σ H->t D σ H):PSs X st t':=fun pins s σ H D I q=>h pins s σ H D I (i D σ H q)
def bD (a b:Ms):Ms:=fun δ h=>match a δ h with
 | .nx δ1 h1=>b δ1 h1
 | r=>r
def mU:Ms:=fun δ h=>.nx δ h
def M3:Ms:=fun δ h=>.bk δ h
def M4:Ms:=fun δ h=>.ct δ h
def cG (i:Nat) (m:Me):Ms:=fun δ h=>(m δ h).fl fun p h1=>.nx (δ.set i (some p)) h1
def Fs (m:Me) (t:Mg):Ms:=fun δ h=>(m δ h).fl fun p h1=>match t p δ with
 | some δ'=>.nx δ' h1
 | none=>.bad
def D8 (m:Me):Ms:=fun δ h=>(m δ h).fl fun _ h1=>.nx δ h1
def dN (m:Me):Ms:=fun δ h=>(m δ h).fl fun p h1=>.rt p h1
def JW:Ms:=fun _ h=>.rt .non h
def kU (t:Ev->PH->Rs Bool) (a b:Ms):Ms:=fun δ h=>(t δ h).fl fun c h1=>match c with
 | true=>a δ h1
 | false=>b δ h1
section
variable {st:Stmt} {rest:List Stmt} {a b:Ms} {e:Expr} {m:Me} {pos:Pos}
theorem eV:SSs C k X [] mU:=fun c=>ES.imp fun D σ H h=>by
 obtain ⟨φ,δ,h,rh,re,p⟩:=h
 exact p.nx rh re
theorem I0 {φ:List Addr} {H:Hp} {r:Fl} {b:Ms} {D:Ends} (h:bJ C φ H (match r with | .nx δ1 h1=>b δ1 h1 | r=>r) D):bJ C φ H r { D with nx:=rdS C b D }:=by
 cases r with
 | nx δ h'=>exact fun φ' σ H' p t rh re=>⟨φ',δ,h',rh,re,bJ.weak p t h⟩
 | rt p h'=>exact h
 | bk δ h'=>exact h
 | ct δ h'=>exact h
 | exc x h'=>exact h
 | bad=>exact h
theorem aI (h1:SSt C k X st a) (h2:SSs C k X rest b):SSs C k X (st :: rest) (bD a b):=fun c=>(Ck (h1 c) (h2 c)).imp fun D σ H h=>by
 obtain ⟨φ,δ,h,rh,re,p⟩:=h
 exact ⟨φ,δ,h,rh,re,I0 p⟩
theorem aP (h1:SSt C k X st a):SSs C k X [st] a:=fun c=>ET (h1 c)
theorem cH {i:Nat} {x:Str} {pos':Pos} (hN:X.N.Nodup) (he:SE C k X e m) (hi:X.N[i]?=some x:=by rfl) (hx:Loc X.env.scope x:=by first | exact Or.inl rfl | exact Or.inr rfl) (hs:swapsWith e (some (.Name x pos')) pos.line X.env=pure false:=by rfl)
  (hf:X.fn x=true\/X.env.scope.names.lookup x=some .local:=by first | exact .inl rfl | exact .inr rfl):SSt C k X (.Assign [.Name x pos'] e pos) (cG i m):=fun c=>(He hN hi hx (he c) hs hf).imp fun D σ H h=>by
 obtain ⟨φ,δ,h,rh,re,p⟩:=h
 refine ⟨φ,δ,h,rh,re,(post.fl p).imp ?_⟩
 rintro v H1 ⟨φ1,x,h1,p1,t1,rh1,rv1,q1⟩
 exact q1.nx rh1 ((re.mono p1 t1).set rv1 i)
theorem JX {tg:Expr} {t:Mg} (he:SE C k X e m) (hg:SG C k X tg t) (hs:swapsWithSole [tg] e pos.line X.env=pure false:=by rfl) (hw:swappedStores [tg] e X.env=pure none:=by rfl)
  (h1:(assignEach [tg] X.env).map (·.2)=[assign tg X.env]:=by rfl):SSt C k X (.Assign [tg] e pos) (Fs m t):=fun c=>(Hd (he c) (hg c) hs hw h1).imp fun D σ H h=>by
 obtain ⟨φ,δ,h,rh,re,p⟩:=h
 refine ⟨φ,δ,h,rh,re,(post.fl p).imp ?_⟩
 rintro v H1 ⟨φ1,x,h1,p1,t1,rh1,rv1,q1⟩
 cases et:t x δ with
 | none=>rw [et] at q1; exact q1.elim
 | some δ'=>
  rw [et] at q1
  exact ⟨φ1,δ,h1,x,δ',rh1,re.mono p1 t1,rv1,et,fun σ' re'=>q1.nx rh1 re'⟩
theorem JY (he:SE C k X e m) (hs:swapsWith e none pos.line X.env=pure false:=by rfl):SSt C k X (.Expr e pos) (D8 m):=fun c=>(EU (he c) hs).imp fun D σ H h=>by
 obtain ⟨φ,δ,h,rh,re,p⟩:=h
 refine ⟨φ,δ,h,rh,re,(post.fl p).imp ?_⟩
 rintro v H1 ⟨φ1,x,h1,p1,t1,rh1,rv1,q1⟩
 exact q1.nx rh1 (re.mono p1 t1)
theorem cI (he:SE C k X e m):SSt C k X (.Return (some e) pos) (dN m):=fun c=>(Ha (he c)).imp fun D σ H h=>by
 obtain ⟨φ,δ,h,rh,re,p⟩:=h
 refine ⟨φ,δ,h,rh,re,(post.fl p).imp ?_⟩
 rintro v H1 ⟨φ1,x,h1,p1,t1,rh1,rv1,q1⟩
 exact q1.rt rh1 rv1
theorem tS {cnd:Expr} {as bs:List Stmt} {t:Ev->PH->Rs Bool} (hc:ST C k X cnd t) (ha:SSs C k X as a) (hb:SSs C k X bs b):SSt C k X (.If cnd as bs pos) (kU t a b):=fun c=>(Jj (hc c) (ha c) (hb c)).imp fun D σ H h=>by
 obtain ⟨φ,δ,h,rh,re,p⟩:=h
 refine ⟨φ,δ,h,rh,re,(bE.fl p).imp ?_⟩
 rintro d H1 ⟨φ1,h1,p1,t1,rh1,q1⟩
 cases d with
 | true=>exact F7 ⟨φ1,δ,h1,rh1,re.mono p1 t1,q1⟩
 | false=>exact F6 ⟨φ1,δ,h1,rh1,re.mono p1 t1,q1⟩
end
structure Wk where
 xs:List PV
 g:PH->Bool
def BB (C:MC) (J:It) (w:Wk) (φ0:List Addr) (H0:Hp):Prop:=∀ φ H h,φ0<+:φ->Kp H0 H->RH C φ H h->w.g h=true->∀ i:Nat,
 (i < w.xs.length->J.go i H/\∀ x H',J.yld i H x H'->(∃ p,w.xs[i]?=some p/\RV C φ H' p x)/\Kp H H'/\RH C φ H' h)/\(w.xs.length<=i->J.stop i H)
abbrev Mi:=Ev->PH->Rs Wk
def cB (C:MC) (φ:List Addr) (H:Hp) (r:Rs Wk) (R:It->Hp->Prop):Prop:=match r with
 | .ok w h=>∀ φ' H' J,φ<+:φ'->Kp H H'->RH C φ' H' h->BB C J w φ' H'->R J H'
 | .exc x h=>∀ φ' H',φ<+:φ'->Kp H H'->RH C φ' H' h->C.ex φ' H' x
 | .bad=>False
def rdI (C:MC) (m:Mi):TI:=fun σ H R=>∃ φ δ h,RH C φ H h/\RE C φ H δ σ/\cB C φ H (m δ h) R
def SI (C:MC) (k:Nat) (X:Cx) (tg iter:Expr) (m:Mi):Prop:=Cxt C k X->PI X tg iter (rdI C m)
def zK (n:Nat) (xs:List PV) (h':PH):Bool:=match aL h' n with
 | some ys=>PV.beqs ys xs
 | none=>false
def ofSeq (x:PV) (h:PH):Rs Wk:=match x with
 | .tup xs=>.ok ⟨xs,fun _=>true⟩ h
 | .ref n=>match aL h n with
  | some xs=>.ok ⟨xs,zK n xs⟩ h
  | none=>.bad
 | .fl xs=>.ok ⟨xs,fun _=>true⟩ h
 | _=>.bad
def bF (m:Me):Mi:=fun δ h=>(m δ h).bind ofSeq
theorem dS {tg iter:Expr} {m:Me} (h:SE C k X iter m):SI C k X tg iter (bF m):=fun c=>by
 intro pins s σ H R I q
 obtain ⟨φ,δ,hh,rh,re,p⟩:=q
 have key:rd C m σ H fun v H1=>∃ φ1 x h1,φ<+:φ1/\Kp H H1/\RH C φ1 H1 h1/\RV C φ1 H1 x v/\cB C φ1 H1 (ofSeq x h1) R:=by
  refine ⟨φ,δ,hh,rh,re,?_⟩
  unfold bF at p
  cases e:m δ hh with
  | ok x h1=>
   rw [e] at p
   intro φ' v H' p' t' rh' rv'
   refine ⟨φ',x,h1,p',t',rh',rv',?_⟩
   show cB C φ' H' (ofSeq x h1) R
   have p0:cB C φ H (ofSeq x h1) R:=p
   cases e2:ofSeq x h1 with
   | ok w h2=>rw [e2] at p0; exact fun φ2 H2 J p2 t2=>p0 φ2 H2 J (p'.trans p2) (t'.trans t2)
   | exc z h2=>rw [e2] at p0; exact fun φ2 H2 p2 t2=>p0 φ2 H2 (p'.trans p2) (t'.trans t2)
   | bad=>rw [e2] at p0; exact p0
  | exc x h1=>rw [e] at p; exact p
  | bad=>rw [e] at p; exact p
 refine thn (h c pins s σ H _ I key) fun v s1 hz=>?_
 obtain ⟨x,H1,I1,r1,φ1,x',h1,p1,t1,rh1,rv1,q1⟩:=hz
 unfold ofSeq at q1
 cases x' with
 | tup xs=>
  obtain ⟨a,vs,rfl,sa,ra⟩:=rv1
  cases r1
  rw [<- c.K] at sa
  obtain ⟨its,rv,p,hz⟩:=I1.tuple sa
  refine wpAny_pyIter_tuple (show s1.heap.IsTuple a its.toArray from p) ?_
  refine ⟨s1.heap.objs.size,[s1.heap.objs.size],_,_,H1,rfl,I1.kept (t':=s1.toks) fun b o e=>Heap.get?_push_of_some _ e,yH a _,⟨_,Heap.get?_push_size _ rfl,rfl,rfl⟩,fun b hb=>?_,?_⟩
  ·have e:b=s1.heap.objs.size:=by simpa using hb
   subst e
   exact I1.fpOk (Nat.le_refl _) (I1.hok.fresh (Nat.le_refl _))
  ·refine q1 φ1 H1 (Itt X.K a) List.prefix_rfl (Kp.refl H1) rh1 fun φ2 H2 h2 p2 t2 rh2 _ i=>⟨fun hi=>?_,fun hi=>⟨vs,t2.sq sa,by rw [<- ra.length]; exact hi⟩⟩
   have hi':i < vs.length:=by rw [<- ra.length]; exact hi
   refine ⟨⟨vs,vs[i],t2.sq sa,by simp [hi']⟩,fun x H' y=>?_⟩
   obtain ⟨e,y⟩:=y
   subst e
   obtain ⟨x2,e2,r2⟩:=ra.get (y vs (t2.sq sa))
   exact ⟨⟨x2,e2,r2.mono p2 t2⟩,Kp.refl _,rh2⟩
 | ref n=>
  obtain ⟨a,rfl,ha⟩:=rv1
  cases r1
  dsimp only at q1
  cases e:aL h1 n with
  | none=>rw [e] at q1; exact q1.elim
  | some xs=>
   rw [e] at q1
   obtain ⟨a2,vs,ha2,sa,ra⟩:=bL rh1 e
   rw [ha] at ha2; cases ha2
   have sa':SqL X.K H1 a vs:=by rw [c.K]; exact sa
   obtain ⟨its,rv,p,hz⟩:=I1.list sa'
   refine wpAny_pyIter_list p.isList ?_
   refine ⟨s1.heap.objs.size,[s1.heap.objs.size],_,_,H1,rfl,I1.kept (t':=s1.toks) fun b o e=>Heap.get?_push_of_some _ e,qQ a _,⟨_,Heap.get?_push_size _ rfl,rfl,rfl⟩,fun b hb=>?_,?_⟩
   ·have e:b=s1.heap.objs.size:=by simpa using hb
    subst e
    exact I1.fpOk (Nat.le_refl _) (I1.hok.fresh (Nat.le_refl _))
   ·refine q1 φ1 H1 (Itl X.K a) List.prefix_rfl (Kp.refl H1) rh1 fun φ2 H2 h2 p2 t2 rh2 hg i=>?_
    have hg:(match aL h2 n with | some ys=>PV.beqs ys xs | none=>false)=true:=hg
    cases e2:aL h2 n with
    | none=>rw [e2] at hg; cases hg
    | some ys=>
     rw [e2] at hg
     have hxy:=PV.beqs_eq hg
     subst hxy
     obtain ⟨a3,us,ha3,su,ru⟩:=bL rh2 e2
     rw [dR p2 ha] at ha3; cases ha3
     rw [<- c.K] at su
     refine ⟨fun hi=>?_,fun hi=>⟨us,su,by rw [<- ru.length]; exact hi⟩⟩
     have hi':i < us.length:=by rw [<- ru.length]; exact hi
     refine ⟨⟨us,us[i],su,by simp [hi']⟩,fun x H' y=>?_⟩
     obtain ⟨e,y⟩:=y
     subst e
     obtain ⟨x2,e2,r2⟩:=ru.get (y us su)
     exact ⟨⟨x2,e2,r2⟩,Kp.refl _,rh2⟩
 | fl xs=>
  obtain ⟨a,vs,rfl,sa,ra⟩:=rv1
  cases r1
  rw [<- c.K] at sa
  obtain ⟨its,rv,p,hz⟩:=I1.list sa.sq
  refine wpAny_pyIter_list p.isList ?_
  refine ⟨s1.heap.objs.size,[s1.heap.objs.size],_,_,H1,rfl,I1.kept (t':=s1.toks) fun b o e=>Heap.get?_push_of_some _ e,qQ a _,⟨_,Heap.get?_push_size _ rfl,rfl,rfl⟩,fun b hb=>?_,?_⟩
  ·have e:b=s1.heap.objs.size:=by simpa using hb
   subst e
   exact I1.fpOk (Nat.le_refl _) (I1.hok.fresh (Nat.le_refl _))
  ·refine q1 φ1 H1 (Itl X.K a) List.prefix_rfl (Kp.refl H1) rh1 fun φ2 H2 h2 p2 t2 rh2 _ i=>⟨fun hi=>?_,fun hi=>⟨vs,(t2.sf sa).sq,by rw [<- ra.length]; exact hi⟩⟩
   have hi':i < vs.length:=by rw [<- ra.length]; exact hi
   refine ⟨⟨vs,vs[i],(t2.sf sa).sq,by simp [hi']⟩,fun x H' y=>?_⟩
   obtain ⟨e,y⟩:=y
   subst e
   obtain ⟨x2,e2,r2⟩:=ra.get (y vs (t2.sf sa).sq)
   exact ⟨⟨x2,e2,r2.mono p2 t2⟩,Kp.refl _,rh2⟩
 | _=>exact q1.elim
def upTo (lo:Int):Nat->List PV
 | 0=>[]
 | n+1=>.int lo :: upTo (lo+1) n
theorem cS:∀ (n:Nat) (lo:Int),(upTo lo n).length=n
 | 0,_=>rfl
 | n+1,lo=>by simp [upTo,cS n]
theorem oO:∀ (n:Nat) (lo:Int) (i:Nat),i < n->(upTo lo n)[i]?=some (.int (lo+i))
 | 0,_,_,h=>by omega
 | n+1,lo,0,_=>by simp [upTo]
 | n+1,lo,i+1,h=>by
  simp only [upTo,List.getElem?_cons_succ]
  rw [oO n (lo+1) i (by omega)]
  congr 2
  omega
open Classical in
noncomputable def AD:List PV->PH->Rs Wk:=fun xs h=>match xs with
 | [.int j]=>if -(2 ^ 62)<=j/\j < 2 ^ 62 then .ok ⟨upTo 0 j.toNat,fun _=>true⟩ h else .bad
 | _=>.bad
noncomputable def iF (ms:Ma):Mi:=fun δ h=>(ms δ h).bind AD
theorem Ia (lo:Int) (n:Nat) (φ:List Addr) (H:Hp):BB C (Itr lo n) ⟨upTo lo n,fun _=>true⟩ φ H:=fun φ2 H2 h2 p2 t2 rh2 _ i=>by
 refine ⟨fun hi=>?_,fun hi=>?_⟩
 ·have hi':i < n:=by rw [<- cS n lo]; exact hi
  refine ⟨hi',fun x H' y=>?_⟩
  obtain ⟨e,y⟩:=y
  subst e y
  exact ⟨⟨.int (lo+i),oO n lo i hi',rfl⟩,Kp.refl _,rh2⟩
 ·have:(upTo lo n).length<=i:=hi
  rw [cS] at this
  exact this
theorem postA.bindI {φ:List Addr} {H:Hp} {r:Rs (List PV)} {f:List PV->PH->Rs Wk} {R:It->Hp->Prop} (h:cB C φ H (r.bind f) R):postA C φ H r fun vs H1=>∃ φ1 ps h1,φ<+:φ1/\Kp H H1/\RH C φ1 H1 h1/\RVs C φ1 H1 ps vs/\cB C φ1 H1 (f ps h1) R:=by
 cases r with
 | ok a h'=>
  intro φ' v H' p' t' rh rv
  refine ⟨φ',a,h',p',t',rh,rv,?_⟩
  have p0:cB C φ H (f a h') R:=h
  cases e2:f a h' with
  | ok w h2=>rw [e2] at p0; exact fun φ2 H2 J p2 t2=>p0 φ2 H2 J (p'.trans p2) (t'.trans t2)
  | exc z h2=>rw [e2] at p0; exact fun φ2 H2 p2 t2=>p0 φ2 H2 (p'.trans p2) (t'.trans t2)
  | bad=>rw [e2] at p0; exact p0
 | exc a h'=>exact h
 | bad=>exact h
theorem PI.imp {tg iter:Expr} {t t':TI} (h:PI X tg iter t) (i:∀ σ H R,t' σ H R->t σ H R):PI X tg iter t':=fun pins s σ H R I q=>h pins s σ H R I (i σ H R q)
theorem tT {x:Expr} {ms:Ma} {tg:Expr} {p pos:Pos} (ha:SA C k X [x] ms) (hb:("range" : Str)∈C.bs:=by decide) (hg:Gl X "range" := by rfl) (hs:starEach [x] X.env=[(false,eval x X.env)]:=by rfl):SI C k X tg (.Call (.Name "range" p) [x] [] pos) (iF ms):=fun c=>
 (pr1 hg (c.bn _ hb) (ha c) hs).imp fun σ H R h=>by
  obtain ⟨φ,δ,h,rh,re,p⟩:=h
  refine ⟨φ,δ,h,rh,re,(postA.bindI p).imp ?_⟩
  rintro vs H1 ⟨φ1,xs,h1,p1,t1,rh1,rv1,q1⟩
  unfold AD at q1
  split at q1
  ·obtain ⟨v,rfl,rx⟩:=rv1.one
   cases rx
   rename_i j
   by_cases hj:-(2 ^ 62)<=j/\j < 2 ^ 62
   ·rw [if_pos hj] at q1
    exact ⟨hj,q1 φ1 H1 _ List.prefix_rfl (Kp.refl _) rh1 (Ia 0 j.toNat φ1 H1)⟩
   ·rw [if_neg hj] at q1; exact q1.elim
  ·exact q1.elim
def cW (g:PH->Bool) (tg:Mg) (body:Ms):List PV->Ev->PH->Fl
 | [],δ,h=>if g h=true then .nx δ h else .bad
 | x :: xs,δ,h=>if g h=true then (match tg x δ with
  | none=>.bad
  | some δ1=>match body δ1 h with
   | .nx δ2 h2=>cW g tg body xs δ2 h2
   | .ct δ2 h2=>cW g tg body xs δ2 h2
   | .bk δ2 h2=>.nx δ2 h2
   | r=>r) else .bad
def dO (mi:Mi) (tg:Mg) (body:Ms):Ms:=fun δ h=>(mi δ h).fl fun w h1=>cW w.g tg body w.xs δ h1
theorem cB.fl {φ:List Addr} {H:Hp} {r:Rs Wk} {f:Wk->PH->Fl} {D:Ends} (h:bJ C φ H (r.fl f) D):cB C φ H r fun J H1=>∃ φ1 w h1,φ<+:φ1/\Kp H H1/\RH C φ1 H1 h1/\BB C J w φ1 H1/\bJ C φ1 H1 (f w h1) D:=by
 cases r with
 | ok a h'=>exact fun φ' H' J p t rh wk=>⟨φ',a,h',p,t,rh,wk,bJ.weak p t h⟩
 | exc a h'=>exact h
 | bad=>exact h
theorem cB.imp {φ:List Addr} {H:Hp} {r:Rs Wk} {Q Q':It->Hp->Prop} (h:cB C φ H r Q) (i:∀ v H',Q v H'->Q' v H'):cB C φ H r Q':=by
 cases r with
 | ok a h'=>exact fun φ' H' J p t rh wk=>i J H' (h φ' H' J p t rh wk)
 | exc a h'=>exact h
 | bad=>exact h
theorem drop_cons {α:Type} {xs:List α} {i:Nat} {p:α} (h:xs[i]?=some p):xs.drop i=p :: xs.drop (i+1):=by
 obtain ⟨h1,h2⟩:=List.getElem?_eq_some_iff.mp h
 rw [List.drop_eq_getElem_cons h1,h2]
theorem Ft {J:It} {w:Wk} {φ0:List Addr} {H0:Hp} {tg:Mg} {body:Ms} {D:Ends} {σ:St} {δ:Ev} {h:PH} (wk:BB C J w φ0 H0) (rh:RH C φ0 H0 h) (re:RE C φ0 H0 δ σ) (p:bJ C φ0 H0 (cW w.g tg body w.xs δ h) D):
  ∃ W:Nat->Nat->St->Hp->Prop,(∃ m,W 0 m σ H0)/\∀ i m σ H,W i m σ H->
   (J.stop i H/\D.nx σ H)\/(J.go i H/\∃ N:St->Hp->Prop,(∀ σ' H',N σ' H'->∃ m',m' < m/\W (i+1) m' σ' H')/\∀ x H',J.yld i H x H'->rdG C tg x σ H' fun σ2 H2=>rdS C body { D with nx:=N,ct:=N,bk:=D.nx } σ2 H2):=by
 refine ⟨fun i m σ H=>m=w.xs.length - i/\i<=w.xs.length/\∃ φ δ h,φ0<+:φ/\Kp H0 H/\RH C φ H h/\RE C φ H δ σ/\bJ C φ H (cW w.g tg body (w.xs.drop i) δ h) D,
  ⟨w.xs.length,by simp,Nat.zero_le _,φ0,δ,h,List.prefix_rfl,Kp.refl _,rh,re,by rw [List.drop_zero]; exact p⟩,?_⟩
 rintro i m σ H ⟨rfl,hi,φ,δ,h,pp,tt,rh,re,p⟩
 by_cases hlt:i < w.xs.length
 ·have hd:w.xs.drop i=w.xs[i] :: w.xs.drop (i+1):=drop_cons (by simp [hlt])
  rw [hd] at p
  unfold cW at p
  by_cases hg:w.g h=true
  ·rw [if_pos hg] at p
   obtain ⟨go,step⟩:=(wk φ H h pp tt rh hg i).1 hlt
   refine .inr ⟨go,fun σ' H'=>∃ φ δ h,φ0<+:φ/\Kp H0 H'/\RH C φ H' h/\RE C φ H' δ σ'/\bJ C φ H' (cW w.g tg body (w.xs.drop (i+1)) δ h) D,fun σ' H' ⟨φ',δ',h',q⟩=>⟨w.xs.length - (i+1),by omega,rfl,hlt,φ',δ',h',q⟩,fun x H' y=>?_⟩
   obtain ⟨⟨q,eq,rv⟩,t1,rh1⟩:=step x H' y
   have eq':w.xs[i]=q:=by
    have:w.xs[i]?=some w.xs[i]:=by simp [hlt]
    rw [this] at eq
    exact Option.some.inj eq
   rw [eq'] at p
   cases et:tg q δ with
   | none=>rw [et] at p; exact p.elim
   | some δ1=>
    rw [et] at p
    dsimp only at p
    refine ⟨φ,δ,h,q,δ1,rh1,re.mono List.prefix_rfl t1,rv,et,fun σ2 re2=>⟨φ,δ1,h,rh1,re2,?_⟩⟩
    have p:=bJ.weak List.prefix_rfl t1 p
    cases eb:body δ1 h with
    | nx δ2 h2=>rw [eb] at p; exact fun φ3 σ3 H3 p3 t3 rh3 re3=>⟨φ3,δ2,h2,pp.trans p3,(tt.trans t1).trans t3,rh3,re3,bJ.weak p3 t3 p⟩
    | ct δ2 h2=>rw [eb] at p; exact fun φ3 σ3 H3 p3 t3 rh3 re3=>⟨φ3,δ2,h2,pp.trans p3,(tt.trans t1).trans t3,rh3,re3,bJ.weak p3 t3 p⟩
    | bk δ2 h2=>rw [eb] at p; exact p
    | rt z h2=>rw [eb] at p; exact p
    | exc z h2=>rw [eb] at p; exact p
    | bad=>rw [eb] at p; exact p
  ·rw [if_neg hg] at p
   exact p.elim
 ·have e:i=w.xs.length:=by omega
  subst e
  rw [List.drop_length] at p
  unfold cW at p
  by_cases hg:w.g h=true
  ·rw [if_pos hg] at p
   exact .inl ⟨(wk φ H h pp tt rh hg _).2 (Nat.le_refl _),p.nx rh re⟩
  ·rw [if_neg hg] at p
   exact p.elim
theorem jI {tg iter:Expr} {body:List Stmt} {mi:Mi} {t:Mg} {mb:Ms} {pos:Pos} (hi:SI C k X tg iter mi) (hg:SG C k X tg t) (hb:SSs C k X body mb) (hp:PassesOwn (model X.prog X.w) X.A X.env X.xe:=by exact PassesOwn.never)
  (hs:∀ x,foldedSetIterable iter X.env x=pure x:=by intro _; rfl):SSt C k X (.For tg iter body [] pos) (dO mi t mb):=fun c=>(Hf hp c.calm (hi c) (hg c) (hb c) hs).imp fun D σ H h=>by
 obtain ⟨φ,δ,h,rh,re,p⟩:=h
 refine ⟨φ,δ,h,rh,re,(cB.fl p).imp ?_⟩
 rintro J H1 ⟨φ1,w,h1,p1,t1,rh1,wk,q1⟩
 exact Ft wk rh1 (re.mono p1 t1) q1
end L2
set_option Elab.async false
set_option linter.all false
set_option maxRecDepth 100000
namespace L2
open PySem PySem.Spec PyProof.Rows
variable {C:MC} {k:Nat} {X:Cx}
def cK (js:List (Option Nat)) (δ:Ev):Ev:=js.map fun o=>match o with
 | none=>none
 | some j=>tK δ j
theorem AE:∀ {σ:St} {i:Nat} {v:V},σ[i]?=some (some v)->yU σ i=some v
 | [],_,_,h=>by simp at h
 | x :: _,0,v,h=>by
  have:x=some v:=by simpa using h
  exact this
 | _ :: r,n+1,v,h=>AE (σ:=r) (i:=n) (by simpa using h)
theorem RE.cap {φ:List Addr} {H:Hp} {δ:Ev} {σ:St} (re:RE C φ H δ σ) (js:List (Option Nat)):RE C φ H (cK js δ) (eQ js σ):=by
 refine ⟨by simp [cK,eQ],fun i p e=>?_⟩
 unfold cK at e
 unfold eQ
 rw [List.getElem?_map] at e ⊢
 cases q:js[i]? with
 | none=>rw [q] at e; cases e
 | some o=>
  rw [q] at e
  cases o with
  | none=>cases e
  | some j=>
   obtain ⟨v,hv,rv⟩:=re.2 j p (oG (Option.some.inj e))
   exact ⟨v,by show some (yU σ j)=_; rw [AE hv],rv⟩
def fK (g:PH->Bool) (tg:Mg) (tst:Ev->PH->Rs Bool) (elt:Me) (δ0:Ev) (n:Nat):List PV->PH->Rs PV
 | [],h=>if g h=true then .ok (.ref n) h else .bad
 | x :: xs,h=>if g h=true then (match tg x δ0 with
  | none=>.bad
  | some δ1=>(tst δ1 h).bind fun b h1=>match b with
   | false=>fK g tg tst elt δ0 n xs h1
   | true=>(elt δ1 h1).bind fun p h2=>match cR h2 n with
    | some ys=>if ys.length < sizeLine then fK g tg tst elt δ0 n xs (h2.set n (.lst (ys++[p]))) else .bad
    | none=>.bad) else .bad
def bQ (js:List (Option Nat)) (mi:Mi) (tg:Mg) (tst:Ev->PH->Rs Bool) (elt:Me):Me:=fun δ h=>(mi δ h).bind fun w h1=>fK w.g tg tst elt (cK js δ) h1.length w.xs (h1++[.lst []])
def iB:Ev->PH->Rs Bool:=fun _ h=>.ok true h
def STs (C:MC) (k:Nat) (X:Cx) (es:List Expr) (m:Ev->PH->Rs Bool):Prop:=Cxt C k X->PTs X es (rdB C m)
theorem iO:STs C k X [] iB:=fun c pins s σ H Q I h=>by
 obtain ⟨φ,δ,h,rh,re,p⟩:=h
 exact F9 pins s σ H Q I (p.val rh)
theorem tU {e:Expr} {m:Ev->PH->Rs Bool} (h:ST C k X e m):STs C k X [e] m:=fun c=>F' (h c)
theorem cB.bind {φ:List Addr} {H:Hp} {r:Rs Wk} {f:Wk->PH->Rs PV} {Q:VK} (h:post C φ H (r.bind f) Q):cB C φ H r fun J H1=>∃ φ1 w h1,φ<+:φ1/\Kp H H1/\RH C φ1 H1 h1/\BB C J w φ1 H1/\post C φ1 H1 (f w h1) Q:=by
 cases r with
 | ok a h'=>exact fun φ' H' J p t rh wk=>⟨φ',a,h',p,t,rh,wk,post.weak p t h⟩
 | exc a h'=>exact h
 | bad=>exact h
theorem D9 {J:It} {w:Wk} {φ0:List Addr} {H0:Hp} {tg:Mg} {tst:Ev->PH->Rs Bool} {elt:Me} {Q:VK} {σ:St} {δ:Ev} {h:PH} {js:List (Option Nat)} (wk:BB C J w φ0 H0) (rh:RH C φ0 H0 h) (re:RE C φ0 H0 δ σ)
  (p:post C φ0 H0 (fK w.g tg tst elt (cK js δ) h.length w.xs (h++[.lst []])) Q) (acc:Addr) (hacc:H0 acc=none):
  ∃ W:Nat->Nat->Hp->Prop,(∃ m,W 0 m (upd H0 acc (.lst [])))/\∀ i m H2,W i m H2->
   (J.stop i H2/\Q (.ref acc) H2)\/(J.go i H2/\∃ N:Hp->Prop,(∀ H',N H'->∃ m',m' < m/\W (i+1) m' H')/\∀ x H3,J.yld i H2 x H3->Gy js (rdG C tg) (rdB C tst) (rd C elt) σ acc x H3 N):=by
 have hlen:(φ0++[acc])[h.length]?=some acc:=by rw [<- rh.len]; simp
 refine ⟨fun i m H=>m=w.xs.length - i/\i<=w.xs.length/\∃ φ h',(φ0++[acc])<+:φ/\Kp H0 H/\RH C φ H h'/\post C φ H (fK w.g tg tst elt (cK js δ) h.length (w.xs.drop i) h') Q,
  ⟨w.xs.length,by simp,Nat.zero_le _,φ0++[acc],h++[.lst []],List.prefix_rfl,Kp.new hacc,rh.new (o:=.lst []) hacc ⟨[],aJ,trivial⟩,by rw [List.drop_zero]; exact post.weak (List.prefix_append _ _) (Kp.new hacc) p⟩,?_⟩
 rintro i m H ⟨rfl,hi,φ,h',pp,tt,rh',p⟩
 have pp0:φ0<+:φ:=(List.prefix_append _ _).trans pp
 by_cases hlt:i < w.xs.length
 ·have hd:w.xs.drop i=w.xs[i] :: w.xs.drop (i+1):=drop_cons (by simp [hlt])
  rw [hd] at p
  unfold fK at p
  by_cases hg:w.g h'=true
  ·rw [if_pos hg] at p
   obtain ⟨go,step⟩:=(wk φ H h' pp0 tt rh' hg i).1 hlt
   refine .inr ⟨go,fun H'=>∃ φ h',(φ0++[acc])<+:φ/\Kp H0 H'/\RH C φ H' h'/\post C φ H' (fK w.g tg tst elt (cK js δ) h.length (w.xs.drop (i+1)) h') Q,fun H' ⟨φ',h',q⟩=>⟨w.xs.length - (i+1),by omega,rfl,hlt,φ',h',q⟩,fun x H' y=>?_⟩
   obtain ⟨⟨q,eq,rv⟩,t1,rh1⟩:=step x H' y
   have eq':w.xs[i]=q:=by
    have:w.xs[i]?=some w.xs[i]:=by simp [hlt]
    rw [this] at eq
    exact Option.some.inj eq
   rw [eq'] at p
   cases et:tg q (cK js δ) with
   | none=>rw [et] at p; exact p.elim
   | some δ1=>
    rw [et] at p
    have re1:RE C φ H' (cK js δ) (eQ js σ):=(re.mono pp0 (tt.trans t1)).cap js
    refine ⟨φ,cK js δ,h',q,δ1,rh1,re1,rv,et,fun σ2 re2=>⟨φ,δ1,h',rh1,re2,(bE.bind (post.weak List.prefix_rfl t1 p)).imp ?_⟩⟩
    rintro b H5 ⟨φ5,h5,p5,t5,rh5,q5⟩
    cases b with
    | false=>exact F6 ⟨φ5,h5,pp.trans p5,(tt.trans t1).trans t5,rh5,q5⟩
    | true=>
     refine F7 ⟨φ5,δ1,h5,rh5,re2.mono p5 t5,(post.bind q5).imp ?_⟩
     rintro v H6 ⟨φ6,z,h6,p6,t6,rh6,rv6,q6⟩
     cases e6:cR h6 h.length with
     | none=>rw [e6] at q6; exact q6.elim
     | some ys=>
      rw [e6] at q6
      obtain ⟨hz,q6⟩:=q6.ite
      have hφ:φ6[h.length]?=some acc:=dR ((pp.trans p5).trans p6) hlen
      obtain ⟨vs,hH,rvs⟩:=rh6.at' h.length acc _ hφ (eE e6)
      refine ⟨vs,hH,by rw [<- rvs.length]; exact hz,φ6,h6.set h.length (.lst (ys++[z])),(pp.trans p5).trans p6,(((tt.trans t1).trans t5).trans t6).trans (Kp.lst hH),
       rh6.write hφ (by rw [hH]; trivial) ⟨vs++[v],aJ,(rvs.snoc rv6).mono List.prefix_rfl (Kp.lst hH)⟩,post.weak List.prefix_rfl (Kp.lst hH) q6⟩
  ·rw [if_neg hg] at p
   exact p.elim
 ·have e:i=w.xs.length:=by omega
  subst e
  rw [List.drop_length] at p
  unfold fK at p
  by_cases hg:w.g h'=true
  ·rw [if_pos hg] at p
   exact .inl ⟨(wk φ H h' pp0 tt rh' hg _).2 (Nat.le_refl _),p.val rh' ⟨acc,rfl,dR pp hlen⟩⟩
  ·rw [if_neg hg] at p
   exact p.elim
theorem AF {js:List (Option Nat)} {mi:Mi} {tg:Mg} {tst:Ev->PH->Rs Bool} {elt:Me} {σ:St} {H:Hp} {Q:VK} (h:rd C (bQ js mi tg tst elt) σ H Q):Ax js (rdI C mi) (rdG C tg) (rdB C tst) (rd C elt) σ H Q:=by
 obtain ⟨φ,δ,h,rh,re,p⟩:=h
 refine ⟨φ,δ,h,rh,re,(cB.bind p).imp ?_⟩
 rintro J H1 ⟨φ1,w,h1,p1,t1,rh1,wk,q1⟩
 intro acc hacc
 exact D9 wk rh1 (re.mono p1 t1) q1 acc hacc
section
variable {elt iter tg:Expr} {ifs:List Expr} {sc:Scope} {pos:Pos} {os:Scope} {oN N:List Str} {js:List (Option Nat)} {mi:Mi} {g:Mg} {tt:Ev->PH->Rs Bool} {me:Me}
theorem eX (hes:X.env.scope=os) (heN:X.N=oN) (ok:iK os oN sc N js=true) (hi:SI C k X tg iter mi)
  (hg:∀ C' fp s₀ H₀,SG C k (X.comp sc N C' fp s₀ H₀) tg g) (ht:∀ C' fp s₀ H₀,STs C k (X.comp sc N C' fp s₀ H₀) ifs tt) (he:∀ C' fp s₀ H₀,SE C k (X.comp sc N C' fp s₀ H₀) elt me)
  (hs:∀ x,foldedSetIterable iter X.env x=pure x:=by intro _; rfl):SE C k X (.ListComp elt [⟨tg,iter,ifs,0⟩] sc pos) (bQ js mi g tt me):=fun c=>
 (Fb c.calm hes heN ok (hi c) (fun a b s H=>hg a b s H (c.comp sc N a b s H)) (fun a b s H=>ht a b s H (c.comp sc N a b s H)) (fun a b s H=>he a b s H (c.comp sc N a b s H)) hs).imp fun σ H Q h=>AF h
theorem rR {i:Nat} {x:Str} {pos' spos:Pos} (hN:X.N.Nodup) (hx':X.N[i]?=some x) (hloc:X.env.scope.names.lookup x=some .local) (hes:X.env.scope=os) (heN:X.N=oN) (ok:iK os oN sc N js=true) (hi:SI C k X tg iter mi)
  (hg:∀ C' fp s₀ H₀,SG C k (X.comp sc N C' fp s₀ H₀) tg g) (ht:∀ C' fp s₀ H₀,STs C k (X.comp sc N C' fp s₀ H₀) ifs tt) (he:∀ C' fp s₀ H₀,SE C k (X.comp sc N C' fp s₀ H₀) elt me)
  (hsw:swapsWith (.ListComp elt [⟨tg,iter,ifs,0⟩] sc pos) (some (.Name x pos')) spos.line X.env=pure true:=by rfl)
  (hs:∀ x,foldedSetIterable iter X.env x=pure x:=by intro _; rfl):SSt C k X (.Assign [.Name x pos'] (.ListComp elt [⟨tg,iter,ifs,0⟩] sc pos) spos) (cG i (bQ js mi g tt me)):=fun c=>
 (yV hN hx' hloc c.calm hes heN ok (hi c) (fun a b s H=>hg a b s H (c.comp sc N a b s H)) (fun a b s H=>ht a b s H (c.comp sc N a b s H)) (fun a b s H=>he a b s H (c.comp sc N a b s H)) hsw hs).imp fun D σ H h=>by
  obtain ⟨φ,δ,h,rh,re,p⟩:=h
  refine AF ⟨φ,δ,h,rh,re,(post.fl p).imp ?_⟩
  rintro v H1 ⟨φ1,x,h1,p1,t1,rh1,rv1,q1⟩
  exact q1.nx rh1 ((re.mono p1 t1).set rv1 i)
end
def mFn (N:Nat) (body:Ms):Fn:=fun args h=>match body (args.map some++List.replicate (N - args.length) none) h with
 | .nx _ h'=>.ok .non h'
 | .rt p h'=>.ok p h'
 | .exc x h'=>.exc x h'
 | _=>.bad
theorem RE.start {φ:List Addr} {H:Hp} {ps:List PV} {vs:List V} (r:RVs C φ H ps vs) (N:List Str):RE C φ H (ps.map some++List.replicate (N.length - ps.length) none) (start N vs):=by
 unfold L2.start
 refine ⟨by simp [r.length],fun i p e=>?_⟩
 by_cases hi:i < ps.length
 ·rw [List.getElem?_append_left (by simpa using hi),List.getElem?_map] at e
  rw [List.getElem?_append_left (by simpa [<- r.length] using hi),List.getElem?_map]
  cases q:ps[i]? with
  | none=>rw [q] at e; cases e
  | some x=>
   rw [q] at e
   cases e
   obtain ⟨v,hv,rv⟩:=r.at q
   exact ⟨v,by rw [hv]; rfl,rv⟩
 ·rw [List.getElem?_append_right (by simpa using hi)] at e
  rw [List.getElem?_replicate] at e
  split at e
  ·cases e
  ·cases e
theorem iG {P:Program} {mg:Str->Option Value} {base:Heap} {x qual:Str} {st:Stmt} {f:Addr} {fd:FuncData} {N ps:List Str} {body:Ms} (hex:∀ φ H x,¬ C.ex φ H x) (hbn:∀ x∈C.bs,mg x=none)
  (F:Fun C.K x qual st f fd) (S:bN N ps (aF st))
  (hb:∀ (cdv:Value) (A:Around) (outer:List Env) (s:Shared) (H:Hp) (E:XK),SSs C k (yO CX0 P C.w C.K mg base N qual (aF st) f cdv A outer s H E).nox (aU st) body):
  aZ P C.w C.K mg base CX0 (k+1) f fd ps (spM C ps.length (mFn N.length body)):=by
 refine F.ok S (fun vs H Q E h=>?_) (fun cdv A outer s H vs Q E hr h=>?_)
 ·obtain ⟨φ,h,xs,rh,rv,hl,_⟩:=h
  rw [<- rv.length]
  exact hl
 ·obtain ⟨φ,h,xs,rh,rv,hl,p⟩:=h
  refine ⟨_,hb cdv A outer s H E ⟨rfl,rfl,hr,hbn,rfl⟩,φ,xs.map some++List.replicate (N.length - xs.length) none,h,rh,RE.start rv N,?_⟩
  unfold mFn at p
  cases e:body (xs.map some++List.replicate (N.length - xs.length) none) h with
  | nx δ h'=>rw [e] at p; exact fun φ' σ' H' pp tt rh' re'=>p φ' .non H' pp tt rh' rfl
  | rt z h'=>rw [e] at p; exact p
  | exc z h'=>rw [e] at p; exact fun φ' H' pp tt rh'=>(hex _ _ _ (p φ' H' pp tt rh')).elim
  | bk δ h'=>rw [e] at p; exact p.elim
  | ct δ h'=>rw [e] at p; exact p.elim
  | bad=>rw [e] at p; exact p.elim
theorem Ib {f:Fn} {H:Hp} {Q:VK} {E:XK} {a:Addr} {ns:List Int} (hO:Cz H) (ho:SqL C.K H a (ns.map V.int)) (hf:∃ h,f [.fl (ns.map PV.int)] []=.ok (.bl true) h) (hQ:∀ H',Q (.bl true) H'):spM C 1 f [.ref a] H Q E:=by
 have r0:∀ ns:List Int,RVs C [] H (ns.map PV.int) (ns.map V.int):=by
  intro ns
  induction ns with
  | nil=>trivial
  | cons n ns ih=>exact ⟨rfl,ih⟩
 have hs:SqF C.K H a (ns.map V.int):=by
  rcases ho with (h | ⟨o,h⟩) | h
  ·rcases hO a with z | ⟨o,xs,z⟩
   ·rw [z] at h; cases h
   ·rw [z] at h; cases h
  ·exact .inl ⟨o,h⟩
  ·exact .inr h
 refine ⟨[],[],[.fl (ns.map PV.int)],⟨rfl,by simp,fun n b ob h1 h2=>by simp at h1⟩,⟨⟨a,_,rfl,hs,r0 ns⟩,trivial⟩,rfl,?_⟩
 obtain ⟨h,e⟩:=hf
 rw [e]
 intro φ' v H' _ _ _ rv
 cases rv
 exact hQ H'
end L2
set_option Elab.async false
set_option linter.all false
set_option maxRecDepth 100000
namespace L2
open PySem PySem.Spec PyProof.Rows
variable {C:MC} {k:Nat} {X:Cx}
def tyN (x:PV) (h:PH):Option String:=match x with
 | .non=>some "NoneType"
 | .bl _=>some "bool"
 | .int _=>some "int"
 | .str _=>some "str"
 | .tup _=>some "tuple"
 | .fl _=>some "list"
 | .ref n=>match h[n]? with
  | some (.lst _)=>some "list"
  | some (.dK _)=>some "dict"
  | _=>none
 | .ty _=>none
def vV (t c:String):Bool:=t == c || (t == "bool" && c == "int")
def known:List String:=["int","str","bool","list","tuple","dict"]
def Fu:List PV->PH->Rs PV:=fun xs h=>match xs with
 | [x,.ty c]=>match tyN x h with
  | some t=>if c∈known then .ok (.bl (vV t c)) h else .bad
  | none=>.bad
 | _=>.bad
def JZ:List PV->PH->Rs PV:=fun xs h=>match xs with
 | [.int i,.int j]=>.ok (.int (if j < i then j else i)) h
 | _=>.bad
def mMt (ty:PV->PH->Bool) (g:PV->List PV->PH->Rs PV) (mo:Me) (ms:Ma):Me:=fun δ h=>(mo δ h).bind fun x h1=>if ty x h1=true then (ms δ h1).bind fun ps h2=>g x ps h2 else .bad
def Da (ty:PV->PH->Bool) (g:PV->List PV->PH->Rs PV) (mo:Me):Me:=fun δ h=>(mo δ h).bind fun x h1=>if ty x h1=true then g x [] h1 else .bad
def rM (C:MC) (g:PV->List PV->PH->Rs PV):V->List V->Hp->VK->Prop:=fun x xs H Q=>∃ φ h p ps,RH C φ H h/\RV C φ H p x/\RVs C φ H ps xs/\post C φ H (g p ps h) Q
def MtS (C:MC) (k:Nat) (X:Cx) (T:String) (ty:PV->PH->Bool) (id:String) (g:PV->List PV->PH->Rs PV):Prop:=Cxt C k X->MtR X id (rM C g)/\∀ φ H h p x,RH C φ H h->RV C φ H p x->ty p h=true->tyV C.K T x H
section
variable {o e:Expr} {es:List Expr} {mo:Me} {ms:Ma} {name:Str} {apos cpos:Pos} {T id:String} {ty:PV->PH->Bool} {g:PV->List PV->PH->Rs PV}
theorem M5 (pa:PlainAttrs T) (slot:Slot T name id) (hty:typeOf (.builtin id)=pure (.type "method_descriptor")) (hm:MtS C k X T ty id g) (ho:SE C k X o mo) (ha:SA C k X (e :: es) ms)
  (hbase:attributeBase o name X.env (eval o X.env)=eval o X.env:=by rfl)
  (hfew:((backTo cpos (starEach (e :: es) X.env)).all (fun x=>!x.1) && (backToKw cpos (keywordEach [] X.env)).all (fun x=>x.1.isSome)
   && decide ((e :: es).length+([]:List Keyword).length+(if ([]:List Keyword).isEmpty then 0 else 1) < 30))=true:=by rfl)
  (hline:(apos.endLine == cpos.line)=true:=by rfl) (hs:starEach (e :: es) X.env=(false,eval e X.env) :: starEach es X.env:=by rfl) (hplain:(backTo cpos (starEach es X.env)).any (·.1)=false:=by rfl):
  SE C k X (.Call (.Attribute o name apos) (e :: es) [] cpos) (mMt ty g mo ms):=fun c=>(Jx pa slot hty (hm c).1 (ho c) (ha c) hbase hfew hline hs hplain).imp fun σ H Q h=>by
 obtain ⟨φ,δ,h,rh,re,p⟩:=h
 refine ⟨φ,δ,h,rh,re,(post.bind p).imp ?_⟩
 rintro v H1 ⟨φ1,x,h1,p1,t1,rh1,rv1,q1⟩
 obtain ⟨ht,q1⟩:=q1.ite
 refine ⟨by rw [c.K]; exact (hm c).2 φ1 H1 h1 x v rh1 rv1 ht,φ1,δ,h1,rh1,re.mono p1 t1,(postA.bind q1).imp ?_⟩
 rintro vs H2 ⟨φ2,xs,h2,p2,t2,rh2,rv2,q2⟩
 exact ⟨φ2,h2,x,xs,rh2,rv1.mono p2 t2,rv2,q2⟩
end
theorem MtR.imp {id:String} {r r':V->List V->Hp->VK->Prop} (h:MtR X id r) (i:∀ x xs H Q,r' x xs H Q->r x xs H Q):MtR X id r':=fun pins s σ H x xs v us Q I rx rs q=>h pins s σ H x xs v us Q I rx rs (i x xs H Q q)
def isL (x:PV) (h:PH):Bool:=match x with
 | .ref n=>(cR h n).isSome
 | _=>false
theorem Ic {φ:List Addr} {H:Hp} {h:PH} {p:PV} {x:V} (rh:RH C φ H h) (rv:RV C φ H p x) (e:isL p h=true):tyV C.K "list" x H:=by
 cases p with
 | ref n=>
  obtain ⟨a,rfl,ha⟩:=rv
  obtain ⟨xs,hx⟩:=Option.isSome_iff_exists.mp (show (cR h n).isSome=true from e)
  obtain ⟨vs,hH,ra⟩:=rh.at' n a _ ha (eE hx)
  exact .inl ⟨rfl,vs,SqL.of hH⟩
 | _=>cases e
def onL (f:List PV->List PV->Option (PV×List PV)):PV->List PV->PH->Rs PV:=fun x ps h=>match x with
 | .ref n=>match cR h n with
  | some xs=>match f xs ps with
   | some (r,ys)=>.ok r (h.set n (.lst ys))
   | none=>.bad
  | none=>.bad
 | _=>.bad
theorem Ie {f:List PV->List PV->Option (PV×List PV)} {x:V} {xs:List V} {H:Hp} {Q:VK} (h:rM C (onL f) x xs H Q):∃ φ l ps ys vs r zs,x=.ref l/\H l=some (.lst vs)/\RVs C φ H ys vs/\RVs C φ H ps xs/\f ys ps=some (r,zs)/\
  ∀ (v:V) (ws:List V),RV C φ H r v->RVs C φ H zs ws->Q v (upd H l (.lst ws)):=by
 obtain ⟨φ,h,p,ps,rh,rx,rs,po⟩:=h
 unfold onL at po
 cases p with
 | ref n=>
  obtain ⟨a,rfl,ha⟩:=rx
  dsimp only at po
  cases e:cR h n with
  | none=>rw [e] at po; exact po.elim
  | some ys=>
   rw [e] at po
   dsimp only at po
   obtain ⟨vs,hH,ra⟩:=rh.at' n a _ ha (eE e)
   cases ef:f ys ps with
   | none=>rw [ef] at po; exact po.elim
   | some rz=>
    rw [ef] at po
    obtain ⟨r,zs⟩:=rz
    exact ⟨φ,a,ps,ys,vs,r,zs,rfl,hH,ra,rs,ef,fun v ws rv rw'=>po.lset rh ha hH rw' rv⟩
 | _=>exact po.elim
def eY:List PV->List PV->Option (PV×List PV):=fun xs ps=>match ps with
 | [p]=>if xs.length < sizeLine then some (.non,xs++[p]) else none
 | _=>none
theorem BC:MtR X "list.append" (rM C (onL eY)):=MtR.imp (show MtR X "list.append" Av from qV) fun x xs H Q h=>by
 obtain ⟨φ,l,ps,ys,vs,r,zs,rfl,hH,ra,rs,ef,q⟩:=Ie h
 unfold eY at ef
 split at ef
 ·split at ef
  ·rename_i hz
   cases ef
   obtain ⟨v,rfl,rx⟩:=rs.one
   exact ⟨l,vs,v,rfl,rfl,hH,by rw [<- ra.length]; exact hz,q .non _ rfl (ra.snoc rx)⟩
  ·cases ef
 ·cases ef
theorem Dc:MtS C k X "list" isL "list.append" (onL eY):=fun c=>⟨BC,fun φ H h p x rh rv e=>Ic rh rv e⟩
def K0 (K:PySem.W.Frag):R2:=fun x y H Q=>∃ a b ys,x=.ref a/\y=.ref b/\SqT K H a []/\SqT K H b ys/\Q (.ref b) H
theorem Fv:OpR X (binaryOp .Add) (K0 X.K):=by
 intro pins s σ H x y v u Q I rx ry h
 obtain ⟨a,b,ys,rfl,rfl,ha,hb,q⟩:=h
 cases rx
 cases ry
 obtain ⟨its,r1,p1,_⟩:=I.tuple ha
 obtain ⟨its2,r2,p2,_⟩:=I.tuple hb
 cases r1
 obtain ⟨⟨cls,dd,data,sl⟩,ho,hc,n,hd⟩:=id p1
 obtain ⟨⟨cls2,dd2,data2,sl2⟩,ho2,hc2,n2,hd2⟩:=id p2
 simp only at hc hd hc2 hd2
 subst hc hd hc2 hd2
 exact concat_meets ⟨_,ho,rfl⟩ ⟨_,ho2,rfl⟩ noFill_tuple_add seq_tuple_add PySem.F.slot_tuple_add PySem.F.entry_tuple_add (PySem.F.args_tuple_add_2 _ _)
   (tuple_addW0 a b ([]:List Value).toArray its2.toArray n n2 dd dd2 sl sl2 (by simp)) ⟨ho,ho2,⟨.ref b,H,I,rfl,q⟩⟩
def bM:PV->PV->PH->Rs PV:=fun x y h=>match x,y with
 | .tup [],.tup ys=>.ok (.tup ys) h
 | x,y=>HV x y h
theorem cD:OpS C k X (binaryOp .Add) bM:=fun c=>((JN c).or (by have:=Fv (X:=X); rw [c.K] at this; exact this)).imp fun x y H Q h=>by
 obtain ⟨φ,h,p,q,rh,rx,ry,po⟩:=h
 unfold bM at po
 split at po
 ·obtain ⟨a,vs,rfl,sa,ra⟩:=rx
  obtain ⟨b,us,rfl,sb,rb⟩:=ry
  have:vs=[]:=by cases vs <;> first | rfl | exact ra.elim
  subst this
  exact .inr ⟨a,b,us,rfl,rfl,sa,sb,po.val rh ⟨b,us,rfl,sb,rb⟩⟩
 ·exact .inl ⟨φ,h,p,q,rh,rx,ry,po⟩
end L2
set_option Elab.async false
set_option linter.all false
set_option maxRecDepth 100000
namespace L2
open PySem PySem.Spec PyProof.Rows
variable {C:MC} {k:Nat} {X:Cx}
theorem K1:UnS C k X (unaryOp .USub) CW:=fun c=>by
 have h:UnR X (unaryOp .USub) (rU fun i=>.int (-i)):=Hl
 intro pins s σ H x v Q I rx q
 refine h pins s σ H x v Q I rx ?_
 obtain ⟨φ,h,p,rh,rv,po⟩:=q
 unfold CW at po
 cases p with
 | int i=>cases rv; exact ⟨i,rfl,po.val rh rfl⟩
 | _=>exact po.elim
end L2
set_option Elab.async false
set_option linter.all false
set_option maxRecDepth 100000
namespace L2
open PySem
@[irreducible] def Rs.W {α:Type} (r:Rs α) (Q:α->PH->Prop):Prop:=match r with
 | .ok a h=>Q a h
 | _=>False
structure FE where
 nx:Ev->PH->Prop
 rt:PV->PH->Prop
 bk:Ev->PH->Prop:=fun _ _=>False
 ct:Ev->PH->Prop:=fun _ _=>False
@[irreducible] def Fl.W (r:Fl) (E:FE):Prop:=match r with
 | .nx δ h=>E.nx δ h
 | .rt p h=>E.rt p h
 | .bk δ h=>E.bk δ h
 | .ct δ h=>E.ct δ h
 | _=>False
@[irreducible] def Lt (b:Ms) (E:FE) (δ:Ev) (h:PH):Prop:=(b δ h).W E
section
unseal Rs.W Fl.W Lt
variable {α β:Type} {Q:α->PH->Prop} {E:FE} {δ:Ev} {h:PH}
@[simp] theorem eZ {a:α}:(Rs.ok a h).W Q=Q a h:=(rfl)
@[simp] theorem MJ:(Fl.nx δ h).W E=E.nx δ h:=(rfl)
@[simp] theorem MK {p:PV}:(Fl.rt p h).W E=E.rt p h:=(rfl)
@[simp] theorem ML:(Fl.bk δ h).W E=E.bk δ h:=(rfl)
@[simp] theorem MM:(Fl.ct δ h).W E=E.ct δ h:=(rfl)
@[simp] theorem zL {Q:β->PH->Prop} {r:Rs α} {f:α->PH->Rs β}:(r.bind f).W Q=r.W fun a h=>(f a h).W Q:=by cases r <;> rfl
@[simp] theorem Fw {r:Rs α} {f:α->PH->Fl}:(r.fl f).W E=r.W fun a h=>(f a h).W E:=by cases r <;> rfl
theorem De {Q':α->PH->Prop} {r:Rs α} (h:r.W Q) (i:∀ a h,Q a h->Q' a h):r.W Q':=by cases r <;> first | exact i _ _ h | exact h
@[simp] theorem Mt {c:Prop} [Decidable c] {x y:Rs α}:(if c then x else y).W Q=if c then x.W Q else y.W Q:=by split <;> rfl
@[simp] theorem Mu:(Rs.bad:Rs α).W Q=False:=(rfl)
@[simp] theorem M6:Fl.bad.W E=False:=(rfl)
theorem Df {r:Rs α} (w:r.W Q):∃ a h,r=.ok a h/\Q a h:=by
 cases r with
 | ok a h=>exact ⟨a,h,rfl,w⟩
 | exc=>exact w.elim
 | bad=>exact w.elim
variable {a b:Ms} {m ma mb mc:Me} {t ta tb:Ev->PH->Rs Bool} {g g':PV->PV->PH->Rs PV}
theorem Ig:(bD a b δ h).W E=(a δ h).W { E with nx:=fun δ h=>(b δ h).W E }:=by
 show (match a δ h with | .nx δ1 h1=>b δ1 h1 | r=>r).W E=_
 cases a δ h <;> rfl
theorem aY:(bD a b δ h).W E=(a δ h).W { E with nx:=Lt b E }:=by
 show (match a δ h with | .nx δ1 h1=>b δ1 h1 | r=>r).W E=_
 cases a δ h <;> rfl
theorem now {b:Ms} (w:(b δ h).W E):Lt b E δ h:=w
@[simp] theorem Mv:(mU δ h).W E=E.nx δ h:=(rfl)
@[simp] theorem Mw:(M3 δ h).W E=E.bk δ h:=(rfl)
@[simp] theorem Mx:(M4 δ h).W E=E.ct δ h:=(rfl)
@[simp] theorem Dg {i:Nat}:(cG i m δ h).W E=(m δ h).W fun p h=>E.nx (δ.set i (some p)) h:=by simp [cG]
@[simp] theorem My {t:Mg}:(Fs m t δ h).W E=(m δ h).W fun p h=>∃ δ',t p δ=some δ'/\E.nx δ' h:=by
 unfold Fs
 cases m δ h with
 | ok p h1=>
  show (match t p δ with | some δ'=>Fl.nx δ' h1 | none=>.bad).W E=∃ δ',t p δ=some δ'/\E.nx δ' h1
  cases t p δ <;> simp [Fl.W]
 | exc=>rfl
 | bad=>rfl
@[simp] theorem Mz:(D8 m δ h).W E=(m δ h).W fun _ h=>E.nx δ h:=by simp [D8]
@[simp] theorem GF:(dN m δ h).W E=(m δ h).W E.rt:=by simp [dN]
@[simp] theorem M7:(JW δ h).W E=E.rt .non h:=(rfl)
@[simp] theorem K2:(kU t a b δ h).W E=(t δ h).W fun c h=>if c=true then (a δ h).W E else (b δ h).W E:=by
 unfold kU
 rw [Fw]
 congr
 funext c h
 cases c <;> simp
@[simp] theorem MA {i:Nat}:mV i δ h=match tK δ i with | some p=>.ok p h | none=>.bad:=(rfl)
@[simp] theorem K3 {p:PV}:mC p δ h=.ok p h:=(rfl)
@[simp] theorem AG:aB g ma mb δ h=(ma δ h).bind fun x h1=>(mb δ h1).bind fun y h2=>g x y h2:=(rfl)
@[simp] theorem M8 {g:PV->PH->Rs PV}:mUn g ma δ h=(ma δ h).bind g:=(rfl)
@[simp] theorem Fx:cJ m δ h=(m δ h).bind tru:=(rfl)
@[simp] theorem K4:D5 t δ h=(t δ h).bind fun b h1=>.ok (!b) h1:=(rfl)
@[simp] theorem K5:vT ta tb δ h=(ta δ h).bind fun b h1=>if b=true then tb δ h1 else .ok false h1:=by
 unfold vT; congr 1; funext b h1; cases b <;> simp
@[simp] theorem L5:D6 ta tb δ h=(ta δ h).bind fun b h1=>if b=true then .ok true h1 else tb δ h1:=by
 unfold D6; congr 1; funext b h1; cases b <;> simp
@[simp] theorem K6 {b:Bool}:JP (.bl b) h=.ok (.bl b) h:=(rfl)
@[simp] theorem L6 {ms:Ma}:tQ ms δ h=(ms δ h).bind fun xs h1=>if xs.length<=sizeLine then .ok (.tup xs) h1 else .bad:=(rfl)
@[simp] theorem L7 {ms:Ma}:HY ms δ h=(ms δ h).bind fun xs h1=>if xs.length<=sizeLine then .ok (.ref h1.length) (h1++[.lst xs]) else .bad:=(rfl)
@[simp] theorem J3:iN δ h=.ok (.ref h.length) (h++[.dK []]):=(rfl)
@[simp] theorem tV:aN δ h=.ok [] h:=(rfl)
@[simp] theorem oP {ms:Ma}:aC m ms δ h=(m δ h).bind fun x h1=>(ms δ h1).bind fun xs h2=>.ok (x :: xs) h2:=(rfl)
@[simp] theorem zM {g:List PV->PH->Rs PV} {ms:Ma}:mCB g ms δ h=(ms δ h).bind g:=(rfl)
@[simp] theorem Dh {n:Nat} {f:Fn} {ms:Ma}:cA n f ms δ h=(ms δ h).bind fun ps h1=>if ps.length=n then f ps h1 else .bad:=(rfl)
@[simp] theorem L8:qJ δ h=.ok none h:=(rfl)
def Di (x:PV) (h:PH):Rs (Option Int):=match x with
 | .int i=>.ok (some i) h
 | _=>.bad
@[simp] theorem Ih {i:Int}:Di (.int i) h=.ok (some i) h:=(rfl)
@[simp] theorem MB:mP m δ h=(m δ h).bind Di:=(rfl)
@[simp] theorem M9 {ml mh:Mo}:mSl m ml mh δ h=(m δ h).bind fun x h1=>(ml δ h1).bind fun l h2=>(mh δ h2).bind fun u h3=>vSl x l u h3:=(rfl)
@[simp] theorem M' {ty:PV->PH->Bool} {g:PV->List PV->PH->Rs PV} {ms:Ma}:mMt ty g m ms δ h=(m δ h).bind fun x h1=>if ty x h1=true then (ms δ h1).bind fun ps h2=>g x ps h2 else .bad:=(rfl)
@[simp] theorem L9 {ty:PV->PH->Bool} {g:PV->List PV->PH->Rs PV}:Da ty g m δ h=(m δ h).bind fun x h1=>if ty x h1=true then g x [] h1 else .bad:=(rfl)
@[simp] theorem jJ:sizeLine=16777216:=by rw [sizeLine_eq]
theorem Fy {i j:Int} {h:PH} (c:(-18446744073709551616 < i/\i < 18446744073709551616)\/(-18446744073709551616 < j/\j < 18446744073709551616)):CV (.int i) (.int j) h=.ok (.int (i*j)) h:=by
 show (if vB i j then _ else _)=_
 exact if_pos c
@[simp] theorem K7 {i j:Int} (c:(-18446744073709551616 < i/\i < 18446744073709551616)\/(-18446744073709551616 < j/\j < 18446744073709551616)):vInt vB (fun i j=>i*j) (.int i) (.int j) h=.ok (.int (i*j)) h:=Fy c
@[simp] theorem L' {i j:Int} (c:0 < j/\j < 1073741824):vInt Cp (fun i j=>i / j) (.int i) (.int j) h=.ok (.int (i / j)) h:=if_pos c
@[simp] theorem La {i j:Int} (c:0 < j):vInt (fun _ j=>0 < j) (fun i j=>i % j) (.int i) (.int j) h=.ok (.int (i % j)) h:=if_pos c
@[simp] theorem Lb {i j:Int}:LX (.int i) (.int j) h=.ok (.int (i - j)) h:=(rfl)
@[simp] theorem Lc {i:Int}:CW (.int i) h=.ok (.int (-i)) h:=(rfl)
@[simp] theorem rS {i j:Int}:bM (.int i) (.int j) h=.ok (.int (i+j)) h:=(rfl)
@[simp] theorem J4 {x y:Str} (c:x.length+y.length<=16777216):bM (.str x) (.str y) h=.ok (.str (x++y)) h:=if_pos c
@[simp] theorem K8 {f:Int->Int->Bool} {g:List Nat->List Nat->Bool} {i j:Int}:zI f g (.int i) (.int j) h=.ok (.bl (f i j)) h:=(rfl)
@[simp] theorem K9 {f:Int->Int->Bool} {g:List Nat->List Nat->Bool} {i j:Str}:zI f g (.str i) (.str j) h=.ok (.bl (g i.cps.toList j.cps.toList)) h:=(rfl)
@[simp] theorem Mb {b:Bool}:tru (.bl b) h=.ok b h:=(rfl)
@[simp] theorem Ld:tru .non h=.ok false h:=(rfl)
@[simp] theorem Le {i:Int}:tru (.int i) h=.ok (i != 0) h:=(rfl)
@[simp] theorem Lf {xs:List PV}:tru (.tup xs) h=.ok (!xs.isEmpty) h:=(rfl)
@[simp] theorem K' {p:PV}:ofO (some p) h=.ok p h:=(rfl)
@[simp] theorem Ka {b:Bool}:ofB (some b) h=.ok (.bl b) h:=(rfl)
@[simp] theorem Lg {xs:List PV} {i:Int}:vIx (.tup xs) (.int i) h=ofO (atI xs i) h:=(rfl)
@[simp] theorem Mc {xs:List PV} {i:Int}:vIx (.fl xs) (.int i) h=ofO (atI xs i) h:=(rfl)
theorem cZ {n:Nat} {xs:List PV} {i:Int} (e:h[n]?=some (.lst xs)):vIx (.ref n) (.int i) h=ofO (atI xs i) h:=by simp [vIx,aL,e]
@[simp] theorem Lh {z:Str} {i:Int} (c:z.length<=16777216):vIx (.str z) (.int i) h=ofO ((atI z.cps.toList i).map fun c=>.str ⟨#[c]⟩) h:=if_pos c
@[simp] theorem Kb {xs:List PV}:eU [.tup xs] h=.ok (.int xs.length) h:=(rfl)
@[simp] theorem Li {xs:List PV}:eU [.fl xs] h=.ok (.int xs.length) h:=(rfl)
@[simp] theorem Kc {x:Str} (c:x.length<=16777216):eU [.str x] h=.ok (.int x.length) h:=if_pos c
theorem eJ {n:Nat} {xs:List PV} (e:h[n]?=some (.lst xs)):eU [.ref n] h=.ok (.int xs.length) h:=by simp [eU,aL,e]
@[simp] theorem Lj {i j:Int}:JZ [.int i,.int j] h=.ok (.int (if j < i then j else i)) h:=(rfl)
@[simp] theorem Lk {i j:Int}:Fq [.int i,.int j] h=.ok (.int (if j > i then j else i)) h:=(rfl)
@[simp] theorem Ke {i:Int} {c:String}:Fu [.int i,.ty c] h=if c∈known then .ok (.bl (vV "int" c)) h else .bad:=(rfl)
@[simp] theorem Kf {i:Str} {c:String}:Fu [.str i,.ty c] h=if c∈known then .ok (.bl (vV "str" c)) h else .bad:=(rfl)
@[simp] theorem Ll {i:Bool} {c:String}:Fu [.bl i,.ty c] h=if c∈known then .ok (.bl (vV "bool" c)) h else .bad:=(rfl)
@[simp] theorem Kg {i:List PV} {c:String}:Fu [.tup i,.ty c] h=if c∈known then .ok (.bl (vV "tuple" c)) h else .bad:=(rfl)
theorem Fz {n:Nat} {xs:List PV} (e:h[n]?=some (.lst xs)):isL (.ref n) h=true:=by simp [isL,cR,e]
theorem zO {n:Nat} {xs:List PV} {p:PV} (e:h[n]?=some (.lst xs)) (c:xs.length < 16777216):onL eY (.ref n) [p] h=.ok .non (h.set n (.lst (xs++[p]))):=by simp [onL,cR,e,eY,c]
theorem FA {α:Type} {xs:List α} {i:Int} (h0:0<=i) (h1:i < xs.length):atI xs i=xs[i.toNat]?:=by
 unfold atI ixN
 rw [if_pos h0,if_pos h1]; rfl
theorem Dj {α:Type} {xs:List α} {x:α}:atI (xs++[x]) (-1)=some x:=by
 unfold atI ixN
 rw [if_neg (by decide),if_pos (by simp; omega)]
 have:((-1:Int)+((xs++[x]).length:Int)).toNat=xs.length:=by simp; omega
 rw [this]
 simp
theorem oQ {g:PH->Bool} {tg:Mg} {body:Ms} {E:FE} (I:Nat->Ev->PH->Prop):∀ (xs:List PV) (k:Nat) (δ:Ev) (h:PH),I k δ h->
  (∀ i x δ h,k<=i->xs[i - k]?=some x->I i δ h->g h=true/\∃ δ1,tg x δ=some δ1/\(body δ1 h).W { nx:=I (i+1),ct:=I (i+1),rt:=E.rt,bk:=E.nx })->
  (∀ δ h,I (k+xs.length) δ h->g h=true/\E.nx δ h)->(cW g tg body xs δ h).W E
 | [],k,δ,h,i0,_,fin=>by
  obtain ⟨h1,h2⟩:=fin δ h i0
  simp [cW,h1,h2]
 | x :: xs,k,δ,h,i0,step,fin=>by
  obtain ⟨h1,δ1,h2,h3⟩:=step k x δ h (Nat.le_refl _) (by simp) i0
  have go:∀ δ2 h2,I (k+1) δ2 h2->(cW g tg body xs δ2 h2).W E:=fun δ2 h2 i2=>
   oQ I xs (k+1) δ2 h2 i2 (fun i y δ h hk hy=>step i y δ h (by omega) (by
    have:i - k=(i - (k+1))+1:=by omega
    rw [this,List.getElem?_cons_succ]; exact hy)) (fun δ h hi=>fin δ h (by
    have e:k+(x :: xs).length=k+1+xs.length:=by simp; omega
    rw [e]; exact hi))
  unfold cW
  rw [if_pos h1,h2]
  show Fl.W (match body δ1 h with | .nx δ2 h2=>cW g tg body xs δ2 h2 | .ct δ2 h2=>cW g tg body xs δ2 h2 | .bk δ2 h2=>.nx δ2 h2 | r=>r) E
  cases e:body δ1 h with
  | nx δ2 h2=>rw [e] at h3; exact go δ2 h2 h3
  | ct δ2 h2=>rw [e] at h3; exact go δ2 h2 h3
  | bk δ2 h2=>rw [e] at h3; exact h3
  | rt p h2=>rw [e] at h3; exact h3
  | exc=>rw [e] at h3; exact h3
  | bad=>rw [e] at h3; exact h3
theorem Dk {ms:Ma} {i:Nat} {body:Ms} {j:Int} (I:Nat->Ev->PH->Prop) (e:ms δ h=.ok [.int j] h) (hj:-4611686018427387904<=j/\j < 4611686018427387904) (h0:I 0 δ h)
  (step:∀ (q:Nat) δ h,(q:Int) < j->I q δ h->(body (δ.set i (some (.int q))) h).W { nx:=I (q+1),ct:=I (q+1),rt:=E.rt,bk:=E.nx })
  (fin:∀ δ h,I j.toNat δ h->E.nx δ h):(dO (iF ms) (gN i) body δ h).W E:=by
 unfold dO iF
 rw [e]
 have hj':-(2 ^ 62)<=j/\j < 2 ^ 62:=hj
 simp only [Rs.bind_ok,AD,if_pos hj',Rs.fl_ok]
 refine oQ I _ 0 δ h h0 (fun q x δ h _ hx hi=>?_) (fun δ h hi=>⟨rfl,fin δ h (by rw [cS,Nat.zero_add] at hi; exact hi)⟩)
 have hq:q < j.toNat:=by
  have:=(List.getElem?_eq_some_iff.mp hx).1
  rw [cS] at this
  omega
 rw [Nat.sub_zero,oO _ _ _ hq] at hx
 cases hx
 refine ⟨rfl,_,rfl,?_⟩
 rw [Int.zero_add]
 exact step q δ h (by omega) hi
theorem Ii {m:Me} {tg:Mg} {body:Ms} {xs:List PV} (I:Nat->Ev->PH->Prop) (e:m δ h=.ok (.tup xs) h\/m δ h=.ok (.fl xs) h) (h0:I 0 δ h)
  (step:∀ (q:Nat) x δ h,xs[q]?=some x->I q δ h->∃ δ1,tg x δ=some δ1/\(body δ1 h).W { nx:=I (q+1),ct:=I (q+1),rt:=E.rt,bk:=E.nx })
  (fin:∀ δ h,I xs.length δ h->E.nx δ h):(dO (bF m) tg body δ h).W E:=by
 have go:(cW (fun _=>true) tg body xs δ h).W E:=oQ I _ 0 δ h h0 (fun q x δ h _ hx hi=>⟨rfl,step q x δ h (by simpa using hx) hi⟩) (fun δ h hi=>⟨rfl,fin δ h (by simpa using hi)⟩)
 unfold dO bF
 rcases e with e | e <;> rw [e] <;> exact go
theorem tX {m:Me} {tg:Mg} {body:Ms} {n:Nat} {xs:List PV} {h1:PH} (I:Nat->Ev->PH->Prop) (e:m δ h=.ok (.ref n) h1) (hn:h1[n]?=some (.lst xs)) (h0:I 0 δ h1)
  (keep:∀ q δ h,q<=xs.length->I q δ h->h[n]?=some (.lst xs))
  (step:∀ (q:Nat) x δ h,xs[q]?=some x->I q δ h->∃ δ1,tg x δ=some δ1/\(body δ1 h).W { nx:=I (q+1),ct:=I (q+1),rt:=E.rt,bk:=E.nx })
  (fin:∀ δ h,I xs.length δ h->E.nx δ h):(dO (bF m) tg body δ h).W E:=by
 have hk:∀ {h:PH},h[n]?=some (.lst xs)->zK n xs h=true:=fun {h} e=>by
  have e3:aL h n=some xs:=by unfold aL; rw [e]
  unfold zK; rw [e3]; exact PV.beqs_self xs
 unfold dO bF
 rw [e]
 have e2:ofSeq (.ref n) h1=.ok ⟨xs,zK n xs⟩ h1:=by
  have e3:aL h1 n=some xs:=by unfold aL; rw [hn]
  unfold ofSeq; simp only [e3]
 rw [Rs.bind_ok,e2,Rs.fl_ok]
 refine oQ I _ 0 δ h1 h0 (fun q x δ h _ hx hi=>?_) (fun δ h hi=>?_)
 ·have hx':xs[q]?=some x:=by simpa using hx
  have:=(List.getElem?_eq_some_iff.mp hx').1
  exact ⟨hk (keep q δ h (by omega) hi),step q x δ h hx' hi⟩
 ·have hi':I xs.length δ h:=by simpa using hi
  exact ⟨hk (keep _ δ h (Nat.le_refl _) hi'),fin δ h hi'⟩
theorem qK {N:Nat} {body:Ms} {args:List PV} {Q:PV->PH->Prop} (w:(body (args.map some++List.replicate (N - args.length) none) h).W { nx:=fun _ h=>Q .non h,rt:=Q }):(mFn N body args h).W Q:=by
 unfold mFn
 cases e:body (args.map some++List.replicate (N - args.length) none) h with
 | nx δ h'=>rw [e] at w; exact w
 | rt p h'=>rw [e] at w; exact w
 | _=>rw [e] at w; exact w.elim
@[simp] theorem MD {i:Nat} {p:PV}:gN i p δ=some (δ.set i (some p)):=(rfl)
@[simp] theorem Md {n:Nat} {u:Mgs} {ps:List PV}:gTp n u (.tup ps) δ=if ps.length=n then u ps δ else none:=(rfl)
@[simp] theorem Mf {t:Mg} {u:Mgs} {p:PV} {r:List PV}:gCn t u (p :: r) δ=(t p δ).bind (u r):=(rfl)
@[simp] theorem Mh:gNl [] δ=some δ:=(rfl)
end
def Ext (h h':PH):Prop:=∀ (n:Nat) (o:MO),h[n]?=some o->h'[n]?=some o
theorem Ext.refl (h:PH):Ext h h:=fun _ _ e=>e
theorem Ext.trans {h h1 h2:PH} (a:Ext h h1) (b:Ext h1 h2):Ext h h2:=fun n o e=>b n o (a n o e)
theorem Ext.app (h g:PH):Ext h (h++g):=fun n o e=>by
 rw [List.getElem?_append_left (List.getElem?_eq_some_iff.mp e).1]; exact e
theorem Ext.len {h h':PH} (e:Ext h h'):h.length<=h'.length:=by
 rcases Nat.lt_or_ge h'.length h.length with z | z
 ·have:h[h'.length]?=some h[h'.length]:=by simp [z]
  have:=(List.getElem?_eq_some_iff.mp (e _ _ this)).1
  omega
 ·exact z
theorem aO {h:PH} {o:MO}:(h++[o])[h.length]?=some o:=by simp
theorem eB {h:PH} {n:Nat} {o o':MO} (e:h[n]?=some o):(h.set n o')[n]?=some o':=List.getElem?_set_self (List.getElem?_eq_some_iff.mp e).1
theorem zP {h:PH} {n m:Nat} {o o':MO} (e:h[m]?=some o) (d:n≠m):(h.set n o')[m]?=some o:=by rw [List.getElem?_set_ne d]; exact e
end L2
set_option Elab.async false
set_option linter.all false
set_option maxRecDepth 100000
namespace L2
open PySem
def PV.pl:Nat->PV->Bool
 | _,.non=>true
 | _,.int _=>true
 | _,.str _=>true
 | n+1,.tup xs=>xs.all (PV.pl n)
 | _,_=>false
theorem FB {x:PV} {xs:List PV} {d:D} {ds:List D} (h1:x.d=some d) (h2:PV.ds xs=some ds):PV.ds (x :: xs)=some (d :: ds):=by simp [PV.ds,h1,h2]
theorem Kh {xs:List PV} {ds:List D} (h:PV.ds xs=some ds):(PV.tup xs).d=some (.tup ds):=by simp [PV.d,h]
theorem bG {xs:List PV} {d:D} (h:(PV.tup xs).d=some d):∃ ds,PV.ds xs=some ds/\d=.tup ds:=by
 unfold PV.d at h
 split at h
 ·rename_i ds e; cases h; exact ⟨ds,e,rfl⟩
 ·cases h
theorem bY {x:PV} {xs:List PV} {ds:List D} (h:PV.ds (x :: xs)=some ds):∃ d r,x.d=some d/\PV.ds xs=some r/\ds=d :: r:=by
 unfold PV.ds at h
 split at h
 ·rename_i d r e1 e2; cases h; exact ⟨d,r,e1,e2,rfl⟩
 ·cases h
theorem kX:∀ (n:Nat) (x:PV),x.pl n=true->∃ d,x.d=some d/\d.depth<=n:=by
 intro n
 induction n with
 | zero=>
  intro x h
  cases x <;> first | exact ⟨_,rfl,Nat.le_refl _⟩ | (simp [PV.pl] at h)
 | succ n ih=>
  intro x h
  cases x with
  | tup xs=>
   have h:xs.all (PV.pl n)=true:=h
   have many:∀ (xs:List PV),xs.all (PV.pl n)=true->∃ ds,PV.ds xs=some ds/\D.depths ds<=n:=by
    intro xs
    induction xs with
    | nil=>intro _; exact ⟨[],rfl,Nat.zero_le _⟩
    | cons x xs ihx=>
     intro h
     simp only [List.all_cons,Bool.and_eq_true] at h
     obtain ⟨d,h1,h2⟩:=ih x h.1
     obtain ⟨ds,h3,h4⟩:=ihx h.2
     refine ⟨d :: ds,FB h1 h3,?_⟩
     show max d.depth (D.depths ds)<=n
     omega
   obtain ⟨ds,h1,h2⟩:=many xs h
   refine ⟨.tup ds,Kh h1,?_⟩
   show D.depths ds+1<=n+1
   omega
  | _=>first | exact ⟨_,rfl,Nat.zero_le _⟩ | (simp [PV.pl] at h)
theorem Dl:∀ (n:Nat) (x y:PV) (d e:D),x.pl n=true->y.pl n=true->x.d=some d->y.d=some e->eqD d e=decide (x=y):=by
 intro n
 induction n with
 | zero=>
  intro x y d e hx hy h1 h2
  cases x <;> first | (simp [PV.pl] at hx; done) | skip
  all_goals cases h1
  all_goals cases y <;> first | (simp [PV.pl] at hy; done) | skip
  all_goals cases h2
  all_goals simp only [eqD]
  all_goals rw [Bool.eq_iff_iff]
  all_goals simp
 | succ n ih=>
  intro x y d e hx hy h1 h2
  have lists:∀ (xs ys:List PV) (ds es:List D),xs.all (PV.pl n)=true->ys.all (PV.pl n)=true->PV.ds xs=some ds->PV.ds ys=some es->cY ds es=decide (xs=ys):=by
   intro xs
   induction xs with
   | nil=>
    intro ys ds es _ _ h1 h2
    cases h1
    cases ys with
    | nil=>cases h2; rfl
    | cons y ys=>obtain ⟨d,r,_,_,rfl⟩:=bY h2; simp [cY]
   | cons x xs ihx=>
    intro ys ds es hx hy h1 h2
    obtain ⟨d,r,g1,g2,rfl⟩:=bY h1
    simp only [List.all_cons,Bool.and_eq_true] at hx
    cases ys with
    | nil=>cases h2; simp [cY]
    | cons y ys=>
     obtain ⟨e,q,g3,g4,rfl⟩:=bY h2
     simp only [List.all_cons,Bool.and_eq_true] at hy
     simp only [cY,ih x y d e hx.1 hy.1 g1 g3,ihx ys r q hx.2 hy.2 g2 g4]
     rw [Bool.eq_iff_iff]
     simp
  cases x with
  | tup xs=>
   obtain ⟨ds,g1,rfl⟩:=bG h1
   cases y with
   | tup ys=>
    obtain ⟨es,g2,rfl⟩:=bG h2
    simp only [eqD,lists xs ys ds es hx hy g1 g2]
    rw [Bool.eq_iff_iff]
    simp
   | non=>cases h2; simp [eqD]
   | int j=>cases h2; simp [eqD]
   | str j=>cases h2; simp [eqD]
   | _=>simp [PV.pl] at hy
  | non=>
   cases h1
   cases y with
   | tup ys=>obtain ⟨es,g2,rfl⟩:=bG h2; simp [eqD]
   | non=>cases h2; simp [eqD]
   | int j=>cases h2; simp [eqD]
   | str j=>cases h2; simp [eqD]
   | _=>simp [PV.pl] at hy
  | int i=>
   cases h1
   cases y with
   | tup ys=>obtain ⟨es,g2,rfl⟩:=bG h2; simp [eqD]
   | non=>cases h2; simp [eqD]
   | int j=>cases h2; simp only [eqD]; rw [Bool.eq_iff_iff]; simp
   | str j=>cases h2; simp [eqD]
   | _=>simp [PV.pl] at hy
  | str i=>
   cases h1
   cases y with
   | tup ys=>obtain ⟨es,g2,rfl⟩:=bG h2; simp [eqD]
   | non=>cases h2; simp [eqD]
   | int j=>cases h2; simp [eqD]
   | str j=>cases h2; simp only [eqD]; rw [Bool.eq_iff_iff]; simp
   | _=>simp [PV.pl] at hy
  | _=>simp [PV.pl] at hx
section
variable {x y:PV} {h:PH}
theorem AH (hx:x.pl 40=true) (hy:y.pl 40=true):tM x y h=some (decide (x=y)):=by
 obtain ⟨d,h1,h2⟩:=kX 40 x hx
 obtain ⟨e,h3,h4⟩:=kX 40 y hy
 unfold tM
 rw [h1,h3]
 simp only [h2,if_true,Dl 40 x y d e hx hy h1 h3]
theorem Dm (hx:x.pl 40=true) (hy:y.pl 40=true):vEq x y h=.ok (.bl (decide (x=y))) h:=by unfold vEq; rw [AH hx hy]; rfl
theorem Ij (hx:x.pl 40=true) (hy:y.pl 40=true):vNe x y h=.ok (.bl (!decide (x=y))) h:=by unfold vNe; rw [AH hx hy]; rfl
@[simp] theorem Lm {i j:Int}:vEq (.int i) (.int j) h=.ok (.bl (decide (i=j))) h:=by rw [Dm rfl rfl]; congr 2; simp
@[simp] theorem FC {i j:Int}:vNe (.int i) (.int j) h=.ok (.bl (!decide (i=j))) h:=by rw [Ij rfl rfl]; congr 3; simp
@[simp] theorem Ln {i j:Str}:vEq (.str i) (.str j) h=.ok (.bl (decide (i=j))) h:=by rw [Dm rfl rfl]; congr 2; simp
theorem Dn {n m:Nat} {xs ys:List PV} (e1:h[n]?=some (.lst xs)) (e2:h[m]?=some (.lst ys)) (hx:xs.all (PV.pl 39)=true) (hy:ys.all (PV.pl 39)=true):tM (.ref n) (.ref m) h=some (decide (xs=ys)):=by
 have e3:iE (.ref n) h=some xs:=by unfold iE aL; simp only [e1]
 have e4:iE (.ref m) h=some ys:=by unfold iE aL; simp only [e2]
 have hx':(PV.tup xs).pl 40=true:=hx
 have hy':(PV.tup ys).pl 40=true:=hy
 obtain ⟨d,h1,h2⟩:=kX 40 _ hx'
 obtain ⟨e,h3,h4⟩:=kX 40 _ hy'
 obtain ⟨ds,g1,rfl⟩:=bG h1
 obtain ⟨es,g2,rfl⟩:=bG h3
 have h5:=Dl 40 _ _ _ _ hx' hy' h1 h3
 have h2':D.depths ds+1<=40:=h2
 have h5':cY ds es=decide (xs=ys):=by
  have:cY ds es=decide (PV.tup xs=PV.tup ys):=h5
  rw [this,Bool.eq_iff_iff]; simp
 unfold tM
 have n1:(PV.ref n).d=none:=rfl
 rw [n1]
 simp only [e3,e4,g1,g2,show D.depths ds<=40 by omega,if_true,h5']
theorem tY {n m:Nat} {xs ys:List PV} (e1:h[n]?=some (.lst xs)) (e2:h[m]?=some (.lst ys)) (hx:xs.all (PV.pl 39)=true) (hy:ys.all (PV.pl 39)=true):vNe (.ref n) (.ref m) h=.ok (.bl (!decide (xs=ys))) h:=by unfold vNe; rw [Dn e1 e2 hx hy]; rfl
end
end L2
namespace L2
section
variable {α:Type} {a b c d e f g:α} {r:List α}
theorem AI {xs:List α} {v:α} (i:Nat) (h:xs[i]?=some v):atI xs (i:Int)=some v:=nV h
@[simp] theorem MN:atI (a :: r) 0=some a:=AI 0 rfl
@[simp] theorem MP:atI (a :: b :: r) 1=some b:=AI 1 rfl
end
end L2
namespace L2
end L2
namespace L2
end L2
set_option Elab.async false
set_option linter.all false
set_option maxRecDepth 100000
namespace L2
open PySem PySem.Spec PyProof.Rows PySem.SeqAt
open PySem.AutoSeq1 (wpAny_loadPart')
open PySem.MeetsSeq PySem.MeetsSeq2 PySem.MeetsSeq3
def Ki (A:Around) (s:Shared) (v u:Value) (b:Bool):Prop:=∀ (prog:Program) (w:World) (E:Value->Shared->Prop) (Q:Value->Shared->Prop),Q (.bool b) s->wpAny (model prog w) A (richCompare .Lt v u) Q E s
def Kj (A:Around) (s:Shared) (v u:Value) (d e:D):Prop:=EqAt A s v u (eqD d e)/\(eqD d e=false->∀ b,ltD d e=some b->Ki A s v u b)
abbrev rT (A:Around) (s:Shared):List Value->List Value->List D->List D->Prop:=fun vs us ds es=>vs.length=ds.length/\us.length=es.length/\∀ (j:Nat) v u d e,vs[j]?=some v->us[j]?=some u->ds[j]?=some d->es[j]?=some e->Kj A s v u d e
theorem rT.tail {A:Around} {s:Shared} {v u:Value} {vs us:List Value} {d e:D} {ds es:List D} (h:rT A s (v :: vs) (u :: us) (d :: ds) (e :: es)):Kj A s v u d e/\rT A s vs us ds es:=
 ⟨h.2.2 0 v u d e rfl rfl rfl rfl,by have:=h.1; simpa using this,by have:=h.2.1; simpa using this,fun j v u d e h1 h2 h3 h4=>h.2.2 (j+1) v u d e (by simpa using h1) (by simpa using h2) (by simpa using h3) (by simpa using h4)⟩
theorem tZ (l b:Addr) (items items2:Array Value) (n n2:Nat) (dd dd2:Option Addr) (sl sl2:Array (Option Value)) (ds es:List D) (c:Bool) (hc:jC ds es=some c):
  Meets (Builtin.«tuple.__lt__» ⟨[.ref l,.ref b],[]⟩)
   (fun A R s=>s.heap.get? l=some { cls:=.type "tuple",dict:=dd,data:=.seq items n,slots:=sl }/\s.heap.get? b=some { cls:=.type "tuple",dict:=dd2,data:=.seq items2 n2,slots:=sl2 }/\
    rT A.in1 s items.toList items2.toList ds es/\R (.ok (.ret (.bool c))) s):=
 .of_wp fun prog w A R s h=>by
  obtain ⟨hp,g,d,tk,os⟩:=s; obtain ⟨hl,hb,hit,h⟩:=h
  have f2:=AutoSeq1.sub_tuple_tuple
  have z1:items.size=ds.length:=by rw [<- hit.1]; simp
  have z2:items2.size=es.length:=by rw [<- hit.2.1]; simp
  wp_walk using wpAny_loadPart' hl,wpAny_loadPart' hb,wpAny_forIn_list _ (fun rest b s'=>b.1=none/\s'=⟨hp,g,d,tk,os⟩/\∃ (vs ws:List Value) (ns' ms':List D),rest=vs.zip ws/\
   rT A.in1 ⟨hp,g,d,tk,os⟩ vs ws ns' ms'/\ns'.length+items2.size=ms'.length+items.size/\jC ns' ms'=some c) _
  case turn=>
   rintro ⟨y,x⟩ rest b s' ⟨hb',rfl,vs,ws,ns',ms',hz,hvi,hlen,hR⟩
   cases vs with
   | nil=>rw [List.zip_nil_left] at hz; cases hz
   | cons v vs=>
    cases ws with
    | nil=>rw [List.zip_nil_right] at hz; cases hz
    | cons u ws=>
     rw [List.zip_cons_cons] at hz
     injection hz with hyx hrest
     injection hyx with hy hx
     subst hy hx
     cases ns' with
     | nil=>have:=hvi.1; simp at this
     | cons a ns'=>
      cases ms' with
      | nil=>have:=hvi.2.1; simp at this
      | cons e ms'=>
       obtain ⟨⟨h1,h2⟩,ht⟩:=rT.tail hvi
       simp only [List.length_cons] at hlen
       simp only [jC] at hR
       refine wpAny_bind (h1 prog w _ _ ?_)
       cases q:eqD a e with
       | true=>
        rw [q,if_pos rfl] at hR
        wp_walk
        exact ⟨rfl,rfl,_,_,_,_,hrest,ht,by omega,hR⟩
       | false=>
        rw [q,if_neg Bool.false_ne_true] at hR
        have hri:=h2 q c hR prog w
        wp_walk using hri
        exact ⟨_,rfl,by simpa using h⟩
  case fin=>
   rintro ⟨b1,b2⟩ s' ⟨hb',rfl,vs,ws,ns',ms',hz,hvi,hlen,hR⟩
   simp only at hb'
   subst hb'
   have hv:c=decide (items.size < items2.size):=by
    cases ns' with
    | nil=>
     cases ms' with
     | nil=>
      simp only [List.length_nil] at hlen
      simp only [jC] at hR
      cases hR
      exact (decide_eq_false (by omega)).symm
     | cons e ms'=>
      simp only [List.length_nil,List.length_cons] at hlen
      simp only [jC] at hR
      cases hR
      exact (decide_eq_true (by omega)).symm
    | cons a ns'=>
     cases ms' with
     | nil=>
      simp only [List.length_nil,List.length_cons] at hlen
      simp only [jC] at hR
      cases hR
      exact (decide_eq_false (by omega)).symm
     | cons e ms'=>
      exfalso
      cases vs with
      | nil=>have:=hvi.1; simp at this
      | cons v vs=>
       cases ws with
       | nil=>have:=hvi.2.1; simp at this
       | cons u ws=>rw [List.zip_cons_cons] at hz; cases hz
   rw [hv] at h
   wp_walk
   exact ⟨_,rfl,by simpa [Builtin.Tuple.tupleCompareSizes] using h⟩
  case h=>
   exact ⟨rfl,rfl,items.toList,items2.toList,ds,es,rfl,hit,by omega,hc⟩
section
variable {X:Cx} {pins:List (Addr×Obj)} {σ:St} {H:Hp} {s:Shared}
theorem Mj (I:Inv X pins σ H s):∀ (n:Nat) (d e:D) (A:Around) (x y:V) (v u:Value) (b:Bool),d.depth<=n->A.units+n < cLine->Rep X.K H d x->Rep X.K H e y->RelV x v->RelV y u->ltD d e=some b->Ki A s v u b:=by
 intro n
 induction n with
 | zero=>
  intro d e A x y v u b hd hu hx hy rx ry hb
  cases d with
  | tup ds=>exact absurd hd (by show ¬ D.depths ds+1<=0; omega)
  | int i=>
   cases e with
   | int j=>
    cases hx; cases hy
    obtain ⟨t,rfl⟩:=rx
    obtain ⟨t',rfl⟩:=ry
    simp only [ltD] at hb
    cases hb
    exact fun prog w E Q q=>(PyProof.Rows.lt_int q:wpAny (model prog w) A (compareOp .Lt _ _) Q E s)
   | _=>simp [ltD] at hb
  | str i=>
   cases e with
   | str j=>
    cases hx; cases hy
    obtain ⟨t,rfl⟩:=rx
    obtain ⟨t',rfl⟩:=ry
    simp only [ltD] at hb
    cases hb
    exact fun prog w E Q q=>(PyProof.Rows.lt_str q:wpAny (model prog w) A (compareOp .Lt _ _) Q E s)
   | _=>simp [ltD] at hb
  | _=>cases e <;> simp [ltD] at hb
 | succ n ih=>
  intro d e A x y v u b hd hu hx hy rx ry hb
  by_cases h0:d.depth<=n
  ·exact ih d e A x y v u b h0 (by omega) hx hy rx ry hb
  ·cases d with
   | tup ds=>
    cases e with
    | tup es=>
     have hds:D.depths ds<=n:=by have:D.depths ds+1<=n+1:=hd; omega
     obtain ⟨a,vs,rfl,q,r⟩:=hx
     cases rx
     obtain ⟨its,rv,p,_⟩:=I.tuple q
     obtain ⟨a',vs',rfl,q',r'⟩:=hy
     cases ry
     obtain ⟨its',rv',p',_⟩:=I.tuple q'
     have hb':jC ds es=some b:=by simpa [ltD] using hb
     obtain ⟨⟨cls,dd,data,sl⟩,ho,hc,m,hdt⟩:=id p
     obtain ⟨⟨cls2,dd2,data2,sl2⟩,ho2,hc2,m2,hd2⟩:=id p'
     simp only at hc hdt hc2 hd2
     subst hc hdt hc2 hd2
     intro prog w E Q hq
     refine richCompare_meets_room (op:=.Lt) ⟨_,ho,rfl⟩ ⟨_,ho2,rfl⟩ PySem.F.slot_tuple_lt PySem.F.entry_tuple_lt (PySem.F.args_tuple_lt_2 _ _) (tZ a a' its.toArray its'.toArray m m2 dd dd2 sl sl2 ds es b hb')
      ⟨ho,ho2,⟨?_,?_,?_⟩,show Value.bool b≠Value.notImplemented/\Q (.bool b) s from ⟨(fun x=>nomatch x),hq⟩⟩ (by omega)
     ·have l1:=r.length
      have l3:=rv.length
      show its.length=ds.length
      omega
     ·have l1:=r'.length
      have l3:=rv'.length
      show its'.length=es.length
      omega
     ·intro j v u d e h1 h2 h3 h4
      obtain ⟨xv,hxv,hrx⟩:=r.at h3
      obtain ⟨yv,hyv,hry⟩:=r'.at h4
      obtain ⟨xu,hxu,hru⟩:=rv.get hxv
      obtain ⟨yu,hyu,hru'⟩:=rv'.get hyv
      have e1:v=xu:=by
       have:its[j]?=some v:=h1
       rw [hxu] at this
       exact (Option.some.inj this).symm
      have e2:u=yu:=by
       have:its'[j]?=some u:=h2
       rw [hyu] at this
       exact (Option.some.inj this).symm
      subst e1 e2
      have hdj:=D.depths_le h3
      refine ⟨HG I (n:=n) (by omega) ?_ hrx hry hru hru',fun _ b hb=>ih d e _ xv yv v u b (by omega) ?_ hrx hry hru hru' hb⟩
      all_goals (show A.units+1+n < cLine; omega)
    | _=>simp [ltD] at hb
   | _=>exact absurd (Nat.zero_le n) h0
end
variable {C:MC} {k:Nat} {X:Cx}
def Do (x y:PV):Option Bool:=match x.d,y.d with
 | some d,some e=>if d.depth<=40 then ltD d e else none
 | _,_=>none
def iH:PV->PV->PH->Rs PV:=fun x y h=>match x,y with
 | .tup xs,.tup ys=>ofB (Do (.tup xs) (.tup ys)) h
 | x,y=>vLt x y h
theorem Ik (hu:X.A.units+64 < cLine) (K:PySem.W.Frag) (hK:X.K=K):OpR X (compareOp .Lt) (fun x y H Q=>∃ d e b,Rep K H d x/\Rep K H e y/\d.depth<=40/\ltD d e=some b/\Q (.bl b) H):=by
 subst hK
 intro pins s σ H x y v u Q I rx ry h
 obtain ⟨d,e,b,hx,hy,hd,hb,q⟩:=h
 exact Mj I 40 d e X.A x y v u b hd (by omega) hx hy rx ry hb X.prog X.w X.xe _ ⟨.bl _,H,I,rfl,q⟩
theorem Dp:OpS C k X (compareOp .Lt) iH:=fun c=>((Ik c.hu64 C.K c.K).or (LY c)).imp fun x y H Q h=>by
 obtain ⟨φ,h,p,q,rh,rx,ry,po⟩:=h
 unfold iH at po
 split at po
 ·obtain ⟨b,e,po⟩:=po.ofB
  unfold Do at e
  split at e
  ·rename_i d e' h1 h2
   split at e
   ·rename_i hd
    exact .inl ⟨d,e',b,rx.rep h1,ry.rep h2,hd,e,po.val rh rfl⟩
   ·cases e
  ·cases e
 ·exact .inr ⟨φ,h,p,q,rh,rx,ry,po⟩
section
variable {h:PH}
@[simp] theorem J5 {i j:Int}:iH (.int i) (.int j) h=.ok (.bl (decide (i < j))) h:=(rfl)
@[simp] theorem J6 {i j:Str}:iH (.str i) (.str j) h=.ok (.bl (decide (i.cps.toList < j.cps.toList))) h:=(rfl)
def ltL (f:PV->PV->Option Bool):List PV->List PV->Option Bool
 | [],[]=>some false
 | [],_ :: _=>some true
 | _ :: _,[]=>some false
 | x :: xs,y :: ys=>if x=y then ltL f xs ys else f x y
def ltP:Nat->PV->PV->Option Bool
 | _,.int a,.int b=>some (decide (a < b))
 | _,.str a,.str b=>some (decide (a.cps.toList < b.cps.toList))
 | n+1,.tup xs,.tup ys=>ltL (ltP n) xs ys
 | _,_,_=>none
theorem Kk:∀ (n:Nat) (x y:PV) (d e:D),x.pl n=true->y.pl n=true->x.d=some d->y.d=some e->ltD d e=ltP n x y:=by
 intro n
 induction n with
 | zero=>
  intro x y d e hx hy h1 h2
  cases x <;> first | (simp [PV.pl] at hx; done) | skip
  all_goals cases h1
  all_goals cases y <;> first | (simp [PV.pl] at hy; done) | skip
  all_goals cases h2
  all_goals simp [ltD,ltP]
 | succ n ih=>
  intro x y d e hx hy h1 h2
  have lists:∀ (xs ys:List PV) (ds es:List D),xs.all (PV.pl n)=true->ys.all (PV.pl n)=true->PV.ds xs=some ds->PV.ds ys=some es->jC ds es=ltL (ltP n) xs ys:=by
   intro xs
   induction xs with
   | nil=>
    intro ys ds es _ _ h1 h2
    cases h1
    cases ys with
    | nil=>cases h2; simp [jC,ltL]
    | cons y ys=>obtain ⟨d,r,_,_,rfl⟩:=bY h2; simp [jC,ltL]
   | cons x xs ihx=>
    intro ys ds es hx hy h1 h2
    obtain ⟨d,r,g1,g2,rfl⟩:=bY h1
    simp only [List.all_cons,Bool.and_eq_true] at hx
    cases ys with
    | nil=>cases h2; simp [jC,ltL]
    | cons y ys=>
     obtain ⟨e,q,g3,g4,rfl⟩:=bY h2
     simp only [List.all_cons,Bool.and_eq_true] at hy
     simp only [jC,ltL,Dl n x y d e hx.1 hy.1 g1 g3,ihx ys r q hx.2 hy.2 g2 g4,ih x y d e hx.1 hy.1 g1 g3,decide_eq_true_eq]
  cases x with
  | tup xs=>
   obtain ⟨ds,g1,rfl⟩:=bG h1
   cases y with
   | tup ys=>
    obtain ⟨es,g2,rfl⟩:=bG h2
    simp only [ltD,lists xs ys ds es hx hy g1 g2,ltP]
   | non=>cases h2; simp [ltD,ltP]
   | int j=>cases h2; simp [ltD,ltP]
   | str j=>cases h2; simp [ltD,ltP]
   | _=>simp [PV.pl] at hy
  | non=>cases h1; cases y <;> first | (simp [PV.pl] at hy; done) | (obtain ⟨es,g2,rfl⟩:=bG h2; simp [ltD,ltP]; done) | (cases h2; simp [ltD,ltP])
  | int i=>cases h1; cases y <;> first | (simp [PV.pl] at hy; done) | (obtain ⟨es,g2,rfl⟩:=bG h2; simp [ltD,ltP]; done) | (cases h2; simp [ltD,ltP])
  | str i=>cases h1; cases y <;> first | (simp [PV.pl] at hy; done) | (obtain ⟨es,g2,rfl⟩:=bG h2; simp [ltD,ltP]; done) | (cases h2; simp [ltD,ltP])
  | _=>simp [PV.pl] at hx
theorem Dq {xs ys:List PV} {b:Bool} (hx:(PV.tup xs).pl 40=true) (hy:(PV.tup ys).pl 40=true) (e:ltL (ltP 39) xs ys=some b):iH (.tup xs) (.tup ys) h=.ok (.bl b) h:=by
 obtain ⟨d,h1,h2⟩:=kX 40 _ hx
 obtain ⟨d',h3,h4⟩:=kX 40 _ hy
 have:=Kk 40 _ _ d d' hx hy h1 h3
 have e':ltP 40 (.tup xs) (.tup ys)=some b:=e
 unfold iH Do
 simp only [h1,h3,h2,if_true,this,e']
 rfl
end
end L2
set_option Elab.async false
set_option linter.all false
set_option maxRecDepth 100000
namespace L2
open PySem PySem.Spec PyProof.Rows
variable {C:MC} {k:Nat} {X:Cx}
theorem BD:Cxt C k X->bI X (.builtin "sum") (fun xs H Q=>∃ (p:Addr) (ns:List Int),xs=[.ref p]/\SqL C.K H p (ns.map V.int)/\Q (.int ns.sum) H):=fun c=>by
 intro pins s σ H xs us Q I r h
 obtain ⟨p,ns,rfl,hq,q⟩:=h
 obtain ⟨u,rfl,ru⟩:=vals1 r
 cases ru
 rw [<- c.K] at hq
 obtain ⟨its,rv,pl,hz⟩:=I.list hq
 have hi:IntsAre its ns:=intsAre_of rv
 obtain ⟨ys,hy⟩:=hi.allInts.items
 have hl:=pl.isList
 rw [hy] at hl
 refine sum_intListG (I.ok.hd c.calm) hl fun h' tk t' hk=>?_
 have e:preSum (numAt ys) ys.size=ns.sum:=by
  have e1:=preSum_eq ys ys.size
  rw [List.take_of_length_le (by simp)] at e1
  rw [e1,<- nums_intItems,<- hy]
  have:=hi.numsOf
  rw [show its.toArray.toList=its from rfl,this]
 rw [e]
 exact ⟨.int ns.sum,H,I.kept hk,⟨_,rfl⟩,q⟩
def lY:List PV->Option (List Int)
 | []=>some []
 | .int i :: r=>(lY r).map (i :: ·)
 | _ :: _=>none
theorem uA {φ:List Addr} {H:Hp}:∀ {xs:List PV} {vs:List V} {ns:List Int},RVs C φ H xs vs->lY xs=some ns->vs=ns.map V.int
 | [],[],_,_,e=>by cases e; rfl
 | x :: xs,v :: vs,ns,⟨h,r⟩,e=>by
  cases x with
  | int i=>
   cases h
   simp only [lY,Option.map_eq_some_iff] at e
   obtain ⟨m,e,rfl⟩:=e
   rw [uA r e]; rfl
  | _=>cases e
 | [],_ :: _,_,h,_=>h.elim
 | _ :: _,[],_,h,_=>h.elim
theorem BE (ns:List Int):lY (ns.map PV.int)=some ns:=by
 induction ns with
 | nil=>rfl
 | cons n ns ih=>simp [lY,ih]
def BF:List PV->PH->Rs PV:=fun xs h=>match xs with
 | [x]=>match iE x h with
  | some ys=>match lY ys with
   | some ns=>.ok (.int ns.sum) h
   | none=>.bad
  | none=>.bad
 | _=>.bad
theorem GG:fV C k X (.builtin "sum") BF:=fun c=>(BD c).imp fun vs H Q h=>by
 obtain ⟨φ,h,ps,rh,rv,po⟩:=h
 unfold BF at po
 split at po
 ·obtain ⟨v,rfl,rx⟩:=rv.one
  split at po
  ·rename_i ys e
   split at po
   ·rename_i ns en
    obtain ⟨a,vs,rfl,sa,ra⟩:=oH rh rx e
    rw [uA ra en] at sa
    exact ⟨a,ns,rfl,sa,po.val rh rfl⟩
   ·exact po.elim
  ·exact po.elim
 ·exact po.elim
theorem vW {h:PH} {n:Nat} {ns:List Int} (e:h[n]?=some (.lst (ns.map PV.int))):BF [.ref n] h=.ok (.int ns.sum) h:=by
 have e1:iE (.ref n) h=some (ns.map PV.int):=by unfold iE aL; simp only [e]
 unfold BF; simp only [e1,BE]
end L2
set_option Elab.async false
set_option linter.all false
namespace L2
open PySem
section
variable {h:PH} {lo hi:Option Int}
@[simp] theorem Lo {z:Str} (c:z.length<=16777216):vSl (.str z) lo hi h=.ok (.str (Txt.slice z lo hi)) h:=if_pos c
@[simp] theorem Lp {xs:List PV}:vSl (.tup xs) lo hi h=.ok (.tup (fP xs lo hi)) h:=(rfl)
@[simp] theorem Ml {xs:List PV}:vSl (.fl xs) lo hi h=.ok (.ref h.length) (h++[.lst (fP xs lo hi)]):=(rfl)
theorem FD {n:Nat} {xs:List PV} (e:h[n]?=some (.lst xs)):vSl (.ref n) lo hi h=.ok (.ref h.length) (h++[.lst (fP xs lo hi)]):=by
 have e3:aL h n=some xs:=by unfold aL; rw [e]
 unfold vSl; simp only [e3]
@[simp] theorem Mm {a b:Bool}:vIs (.bl a) (.bl b) h=.ok (.bl (a == b)) h:=(rfl)
@[simp] theorem J7 {a b:Bool}:D2 (.bl a) (.bl b) h=.ok (.bl (!(a == b))) h:=(rfl)
@[simp] theorem Lq {x:PV}:vIs x .non h=.ok (.bl (kR x)) h:=(rfl)
@[simp] theorem Il {x:PV}:D2 x .non h=.ok (.bl (!kR x)) h:=(rfl)
end
end L2
namespace L2
end L2
set_option Elab.async false
set_option linter.all false
namespace L2
open PySem
section
variable {δ:Ev} {h h1:PH} {js:List (Option Nat)} {tg:Mg} {tst:Ev->PH->Rs Bool} {elt:Me} {g:PH->Bool} {n:Nat}
theorem uB {δ0:Ev} {Q:PV->PH->Prop} (I:Nat->PH->Prop):∀ (xs:List PV) (k:Nat) (h:PH),I k h->
  (∀ i x h,k<=i->xs[i - k]?=some x->I i h->g h=true/\∃ δ1,tg x δ0=some δ1/\(tst δ1 h).W fun b h'=>if b=true then (elt δ1 h').W fun p h''=>∃ ys,h''[n]?=some (.lst ys)/\ys.length < 16777216/\I (i+1) (h''.set n (.lst (ys++[p]))) else I (i+1) h')->
  (∀ h,I (k+xs.length) h->g h=true/\Q (.ref n) h)->(fK g tg tst elt δ0 n xs h).W Q
 | [],k,h,i0,_,fin=>by
  obtain ⟨h1,h2⟩:=fin h i0
  simp [fK,h1,h2]
 | x :: xs,k,h,i0,step,fin=>by
  obtain ⟨h1,δ1,h2,h3⟩:=step k x h (Nat.le_refl _) (by simp) i0
  have go:∀ h2,I (k+1) h2->(fK g tg tst elt δ0 n xs h2).W Q:=fun h2 i2=>
   uB I xs (k+1) h2 i2 (fun i y h hk hy=>step i y h (by omega) (by
    have:i - k=(i - (k+1))+1:=by omega
    rw [this,List.getElem?_cons_succ]; exact hy)) (fun h hi=>fin h (by
    have e:k+(x :: xs).length=k+1+xs.length:=by simp; omega
    rw [e]; exact hi))
  unfold fK
  rw [if_pos h1,h2]
  show (Rs.bind (tst δ1 h) _).W Q
  rw [zL]
  refine De h3 fun b h' hb=>?_
  cases b with
  | false=>exact go h' (by simpa using hb)
  | true=>
   show (Rs.bind (elt δ1 h') _).W Q
   rw [zL]
   refine De (show (elt δ1 h').W _ from by simpa using hb) fun p h'' hp=>?_
   obtain ⟨ys,e,hz,hi⟩:=hp
   have e':cR h'' n=some ys:=by unfold cR; rw [e]
   simp [e',hz]
   exact go _ hi
theorem kY {α:Type} {mi:Mi} {ys:List α} {emb:α->PV} (f:α->Option PV) (e:mi δ h=.ok ⟨ys.map emb,g⟩ h1) (hg:∀ h,Ext h1 h->g h=true) (hz:ys.length<=16777216)
  (step:∀ y∈ys,∃ δ1,tg (emb y) (cK js δ)=some δ1/\∀ h,Ext h1 h->match f y with
   | none=>tst δ1 h=.ok false h
   | some p=>tst δ1 h=.ok true h/\elt δ1 h=.ok p h):bQ js mi tg tst elt δ h=.ok (.ref h1.length) (h1++[.lst (ys.filterMap f)]):=by
 have w:(bQ js mi tg tst elt δ h).W fun p h'=>p=.ref h1.length/\h'=h1++[.lst (ys.filterMap f)]:=by
  unfold bQ
  rw [e,Rs.bind_ok]
  refine uB (fun i h'=>h'=h1++[.lst ((ys.take i).filterMap f)]) (ys.map emb) 0 _ (by simp) (fun i x h' _ hx hi=>?_) (fun h' hi=>?_)
  ·subst hi
   have hx:(ys.map emb)[i]?=some x:=by simpa using hx
   rw [List.getElem?_map] at hx
   obtain ⟨y,hy,rfl⟩:=Option.map_eq_some_iff.mp hx
   have hil:=(List.getElem?_eq_some_iff.mp hy).1
   obtain ⟨δ1,ht,hs⟩:=step y (List.mem_of_getElem? hy)
   have hs:=hs (h1++[.lst ((ys.take i).filterMap f)]) (Ext.app _ _)
   have htk:ys.take (i+1)=ys.take i++[y]:=by rw [List.take_add_one,hy]; rfl
   refine ⟨hg _ (Ext.app _ _),δ1,ht,?_⟩
   cases ef:f y with
   | none=>
    rw [ef] at hs
    rw [hs]
    simp [htk,ef]
   | some p=>
    rw [ef] at hs
    rw [hs.1]
    simp [hs.2]
    refine ⟨?_,by simp [htk,ef]⟩
    have:=List.length_filterMap_le f (ys.take i)
    rw [List.length_take] at this
    omega
  ·subst hi
   simp
   exact hg _ (Ext.app _ _)
 obtain ⟨p,h',e,rfl,rfl⟩:=Df w
 exact e
theorem vX {m:Me} {xs:List PV} (e:m δ h=.ok (.ref n) h1) (hn:h1[n]?=some (.lst xs)):bF m δ h=.ok ⟨xs,zK n xs⟩ h1:=by
 unfold bF
 have e3:aL h1 n=some xs:=by unfold aL; rw [hn]
 rw [e,Rs.bind_ok]
 unfold ofSeq; simp only [e3]
theorem oR {xs:List PV} (hn:h1[n]?=some (.lst xs)):∀ h,Ext h1 h->zK n xs h=true:=fun h hx=>by
 have e3:aL h n=some xs:=by unfold aL; rw [hx _ _ hn]
 unfold zK; rw [e3]; exact PV.beqs_self xs
theorem Dr {m:Me} {xs:List PV} (e:m δ h=.ok (.tup xs) h1):bF m δ h=.ok ⟨xs,fun _=>true⟩ h1:=by
 unfold bF
 rw [e]; rfl
theorem fX {α:Type} {m:Me} {ys:List α} {emb:α->PV} (f:α->Option PV) (e:m δ h=.ok (.ref n) h1) (hn:h1[n]?=some (.lst (ys.map emb))) (hz:ys.length<=16777216)
  (step:∀ y∈ys,∃ δ1,tg (emb y) (cK js δ)=some δ1/\∀ h,Ext h1 h->match f y with
   | none=>tst δ1 h=.ok false h
   | some p=>tst δ1 h=.ok true h/\elt δ1 h=.ok p h):bQ js (bF m) tg tst elt δ h=.ok (.ref h1.length) (h1++[.lst (ys.filterMap f)]):=
 kY f (vX e hn) (oR hn) hz step
theorem rV {α:Type} {m:Me} {ys:List α} {emb:α->PV} (f:α->Option PV) (e:m δ h=.ok (.tup (ys.map emb)) h1) (hz:ys.length<=16777216)
  (step:∀ y∈ys,∃ δ1,tg (emb y) (cK js δ)=some δ1/\∀ h,Ext h1 h->match f y with
   | none=>tst δ1 h=.ok false h
   | some p=>tst δ1 h=.ok true h/\elt δ1 h=.ok p h):bQ js (bF m) tg tst elt δ h=.ok (.ref h1.length) (h1++[.lst (ys.filterMap f)]):=
 kY f (Dr e) (fun _ _=>rfl) hz step
theorem jK (lo:Int):∀ n,upTo lo n=(List.range n).map (fun (i:Nat)=>PV.int (lo+(i:Int)))
 | 0=>rfl
 | n+1=>by
  rw [upTo,jK (lo+1) n,List.range_succ_eq_map,List.map_cons,List.map_map]
  congr 1
  ·simp
  ·apply List.map_congr_left
   intro a _
   simp only [Function.comp_def]
   congr 1
   omega
theorem vY {ms:Ma} {j:Int} (f:Nat->Option PV) (e:ms δ h=.ok [.int j] h1) (hj:-4611686018427387904<=j/\j < 16777216)
  (step:∀ i:Nat,(i:Int) < j->∃ δ1,tg (.int i) (cK js δ)=some δ1/\∀ h,Ext h1 h->match f i with
   | none=>tst δ1 h=.ok false h
   | some p=>tst δ1 h=.ok true h/\elt δ1 h=.ok p h):bQ js (iF ms) tg tst elt δ h=.ok (.ref h1.length) (h1++[.lst ((List.range j.toNat).filterMap f)]):=by
 refine kY (emb:=fun i:Nat=>.int ((0:Int)+i)) (g:=fun _=>true) f ?_ (fun _ _=>rfl) (by simp; omega) (fun i hi=>?_)
 ·unfold iF
  rw [e]
  have hj':-(2 ^ 62)<=j/\j < 2 ^ 62:=⟨hj.1,by omega⟩
  simp only [Rs.bind_ok,AD,if_pos hj']
  rw [jK]
 ·have hi':=List.mem_range.mp hi
  rw [Int.zero_add]
  exact step i (by omega)
theorem filterMap_some {α β:Type} (f:α->β) (xs:List α):xs.filterMap (fun x=>some (f x))=xs.map f:=by
 induction xs with
 | nil=>rfl
 | cons x xs ih=>simp [ih]
end
end L2
namespace L2
open PySem
end L2
set_option Elab.async false
set_option linter.all false
set_option maxRecDepth 100000
namespace L2
open PySem PySem.Spec PyProof.Rows
section
variable {X:Cx} {pins:List (Addr×Obj)} {σ:St} {H:Hp} {s:Shared} {C:MC} {φ:List Addr}
mutual
theorem Ds (I:Inv X pins σ H s) (hK:X.K=C.K):∀ (n:Nat) {p:PV} {v:V} {u:Value},p.ky n=true->RV C φ H p v->RelV v u->HR s.heap p u
 | _,.int i,v,u,_,r,ru=>by cases r; exact ru
 | _,.str i,v,u,_,r,ru=>by cases r; exact ru
 | n+1,.tup ps,v,u,hk,r,ru=>by
  obtain ⟨a,vs,rfl,q,rs⟩:=r
  cases ru
  rw [<- hK] at q
  obtain ⟨its,rv,p,_⟩:=I.tuple q
  exact ⟨a,its,rfl,p,AJ I hK n (List.all_eq_true.mp hk) rs rv⟩
 | 0,.tup _,_,_,hk,_,_=>by cases hk
 | n,.non,_,_,hk,_,_=>by cases n <;> cases hk
 | n,.bl _,_,_,hk,_,_=>by cases n <;> cases hk
 | n,.ref _,_,_,hk,_,_=>by cases n <;> cases hk
 | n,.ty _,_,_,hk,_,_=>by cases n <;> cases hk
 | n,.fl _,_,_,hk,_,_=>by cases n <;> cases hk
theorem AJ (I:Inv X pins σ H s) (hK:X.K=C.K):∀ (n:Nat) {ps:List PV} {vs:List V} {us:List Value},(∀ p∈ps,p.ky n=true)->RVs C φ H ps vs->aH vs us->HRs s.heap ps us
 | _,[],[],us,_,_,ru=>by cases ru; trivial
 | n,p :: ps,v :: vs,us,hk,r,ru=>by
  cases ru with
  | cons h t=>exact ⟨Ds I hK n (hk p List.mem_cons_self) r.1 h,AJ I hK n (fun q hq=>hk q (List.mem_cons_of_mem _ hq)) r.2 t⟩
 | _,[],_ :: _,_,_,r,_=>r.elim
 | _,_ :: _,[],_,_,r,_=>r.elim
end
abbrev qL:List (PV×Addr×V)->List (PV×Addr×Value)->Prop:=Paired fun p q=>p.1=q.1/\p.2.1=q.2.1/\RelV p.2.2 q.2.2
def HD (C:MC) (φ:List Addr) (H:Hp) (X:Cx) (s:Shared) (a:Addr) (kvs:List (PV×PV)):Prop:=
 ∃ ks xs,RKd C φ H kvs ks/\qL ks xs/\xs.length<=sizeLine/\(a == sysModules)=false/\s.heap.DictOfH (iD X.prog X.w) a xs
def aX (h:PH) (n:Nat):Option (List (PV×PV)):=match h[n]? with
 | some (.dD kvs)=>some kvs
 | some (.dK [])=>some []
 | _=>none
def PV.isKt:PV->Bool
 | .tup xs=>(PV.tup xs).ky 6
 | _=>false
theorem mY {p:PV} (h:p.isKt=true):p.ky 6=true:=by cases p <;> first | exact h | cases h
theorem mZ {p:PV} {v:V} (h:p.isKt=true) (r:RV C φ H p v):∃ b,v=.ref b:=by
 cases p <;> first | (obtain ⟨b,_,e,_⟩:=r; exact ⟨b,e⟩) | cases h
theorem vZ {h:PH} {n:Nat} {a:Addr} {kvs:List (PV×PV)} (I:Inv X pins σ H s) (hK:X.K=C.K) (hw:X.w=C.w) (rh:RH C φ H h) (ha:φ[n]?=some a) (e:aX h n=some kvs):HD C φ H X s a kvs/\Mut (H a)/\lQ (H a):=by
 unfold aX at e
 split at e
 ·rename_i kv hk
  cases e
  obtain ⟨ks,hH,r⟩:=rh.at' n a _ ha hk
  have hO:bK X.prog X.w H s.heap a (dDO C.w a ks):=I.hok a _ hH
  obtain ⟨⟨hz,hm,xs,rx,o,es,ep,h1,h2,h3,h4,h5⟩,_⟩:=hO
  refine ⟨⟨ks,xs,r,rx,by rw [<- Paired.length rx]; exact hz,hm,o,es,ep,h1,h2,h3,?_,?_,h5⟩,by rw [hH]; exact True.intro,by rw [hH]; exact True.intro⟩
  ·rw [h4,<- hw]; rfl
  ·have all:∀ {l:List (PV×PV)} {m:List (PV×Addr×V)} {z:List (PV×Addr×Value)},RKd C φ H l m->qL m z->∀ x∈z,(iD X.prog X.w).is s.heap x.1 x.2.1:=by
    intro l m z q
    unfold RKd at q
    induction q generalizing z with
    | nil=>intro rz x hx; cases rz; cases hx
    | cons hq t ih=>
     intro rz x hx
     cases rz with
     | cons hz' tz=>
      rcases List.mem_cons.mp hx with e | hx
      ·subst e
       refine ⟨?_,?_⟩
       ·rw [<- hz'.1,<- hq.1]; exact hq.2.1
       ·rw [<- hz'.1,<- hq.1,<- hz'.2.1]; exact Ds I hK 6 hq.2.1 hq.2.2.1 rfl
      ·exact ih tz x hx
   exact all r rx
 ·rename_i hk
  cases e
  obtain ⟨ks,hH,r⟩:=rh.at' n a _ ha hk
  have:ks=[]:=by cases r; rfl
  subst this
  obtain ⟨z,hd,vs,rel,o,es,ep,h1,h2,h3,h4,h5,h6⟩:=vG I.hok hH
  have:vs=[]:=by cases rel; rfl
  subst this
  refine ⟨⟨[],[],.nil,.nil,Nat.zero_le _,hd,o,es,ep,h1,h2,h3,?_,(fun x hx=>nomatch hx),List.nodup_nil⟩,by rw [hH]; exact True.intro,by rw [hH]; exact True.intro⟩
  cases he:es.toList with
  | nil=>rfl
  | cons y ys=>rw [he] at h5; cases h5
 ·cases e
theorem HD.val {a:Addr} {kvs:List (PV×PV)} {ks:List (PV×Addr×V)} {xs:List (PV×Addr×Value)} (r:RKd C φ H kvs ks) (rx:qL ks xs) (k:PV):match bH kvs k,(atKey xs k).map (·.2) with
  | some p,some u=>∃ v,RelV v u/\RV C φ H p v
  | none,none=>True
  | _,_=>False:=by
 unfold RKd at r
 induction r generalizing xs with
 | nil=>cases rx; trivial
 | @cons p q ps qs h t ih=>
  cases rx with
  | @cons q' x qs' xs' hx tx=>
   obtain ⟨pk,pv⟩:=p
   by_cases e:pk=k
   ·have e':x.1=k:=hx.1.symm.trans (h.1.symm.trans e)
    have b:atKey (x :: xs') k=some x.2:=by simp [atKey,List.find?_cons,e']
    rw [b]
    unfold bH
    rw [if_pos e]
    exact ⟨_,hx.2.2,h.2.2.2⟩
   ·have e':¬ x.1=k:=fun z=>e (h.1.trans (hx.1.trans z))
    have b:atKey (x :: xs') k=atKey xs' k:=by simp [atKey,List.find?_cons,e']
    rw [b]
    unfold bH
    rw [if_neg e]
    exact ih tx
def dA {κ:Type} [DecidableEq κ] (kvs:List (κ×PV)) (k:κ) (p:PV):List (κ×PV):=if (bH kvs k).isSome then kvs.map (fun kv=>if kv.1=k then (kv.1,p) else kv) else kvs++[(k,p)]
theorem HD.replace {a:Addr} {kvs:List (PV×PV)} {ks:List (PV×Addr×V)} {xs:List (PV×Addr×Value)} (r:RKd C φ H kvs ks) (rx:qL ks xs) (k:PV) {p:PV} {v:V} {u:Value} (rp:RV C φ H p v) (ru:RelV v u):
  ∃ ks',RKd C φ H (kvs.map fun kv=>if kv.1=k then (kv.1,p) else kv) ks'/\qL ks' (xs.map (putAt k u)):=by
 unfold RKd at r
 induction r generalizing xs with
 | nil=>cases rx; exact ⟨[],.nil,.nil⟩
 | @cons pp q ps qs h t ih=>
  cases rx with
  | @cons q' x qs' xs' hx tx=>
   obtain ⟨ks',r1,r2⟩:=ih tx
   by_cases e:pp.1=k
   ·refine ⟨(q.1,q.2.1,v) :: ks',.cons ?_ r1,.cons ?_ r2⟩
    ·simp only [if_pos e]; exact ⟨h.1,h.2.1,h.2.2.1,rp⟩
    ·unfold putAt; rw [if_pos (hx.1.symm.trans (h.1.symm.trans e))]; exact ⟨hx.1,hx.2.1,ru⟩
   ·refine ⟨q :: ks',.cons ?_ r1,.cons ?_ r2⟩
    ·simp only [if_neg e]; exact h
    ·unfold putAt; rw [if_neg fun z=>e (h.1.trans (hx.1.trans z))]; exact hx
theorem HD.put {a b:Addr} {kvs:List (PV×PV)} {ks:List (PV×Addr×V)} {xs:List (PV×Addr×Value)} (r:RKd C φ H kvs ks) (rx:qL ks xs) {k:PV} (hk:k.ky 6=true) (rk:RV C φ H k (.ref b)) {p:PV} {v:V} {u:Value} (rp:RV C φ H p v) (ru:RelV v u):
  ∃ ks',RKd C φ H (dA kvs k p) ks'/\qL ks' (storedH xs k b u):=by
 have hv:=HD.val (a:=b) r rx k
 unfold dA storedH
 cases e1:bH kvs k with
 | some p0=>
  rw [e1] at hv
  cases e2:atKey xs k with
  | none=>rw [e2] at hv; exact hv.elim
  | some z=>exact HD.replace (a:=b) r rx k rp ru
 | none=>
  rw [e1] at hv
  cases e2:atKey xs k with
  | some z=>rw [e2] at hv; exact hv.elim
  | none=>exact ⟨ks++[(k,b,v)],Paired.snoc r ⟨rfl,hk,rk,rp⟩,Paired.snoc rx ⟨rfl,rfl,ru⟩⟩
theorem wA (I:Inv X pins σ H s) (hK:X.K=C.K) {p:PV} {b:Addr} (hk:p.isKt=true) (r:RV C φ H p (.ref b)):(iD X.prog X.w).is s.heap p b:=⟨mY hk,Ds I hK 6 (mY hk) r rfl⟩
end
section
variable {C:MC} {k:Nat} {X:Cx}
theorem Cxt.room6 (c:Cxt C k X):(iD X.prog X.w).room X.A.in1:=by
 have:=c.hu64
 show X.A.units+1+6 < cLine
 omega
def kZ (x y:PV) (h:PH):Option (Option PV):=match y with
 | .ref n=>if x.isKt=true then (aX h n).map fun kvs=>bH kvs x else none
 | _=>none
def GH (C:MC):V->V->Hp->(List Addr->Option PV->Prop)->Prop:=fun x y H R=>∃ φ h p n a kvs,RH C φ H h/\RV C φ H p x/\y=.ref a/\φ[n]?=some a/\aX h n=some kvs/\p.isKt=true/\R φ (bH kvs p)
theorem zQ {φ:List Addr} {H:Hp} {h:PH} {p q:PV} {x y:V} {o:Option PV} {R:List Addr->Option PV->Prop} (rh:RH C φ H h) (rx:RV C φ H p x) (ry:RV C φ H q y) (e:kZ p q h=some o) (r:R φ o):GH C x y H R:=by
 unfold kZ at e
 cases q with
 | ref n=>
  obtain ⟨a,rfl,ha⟩:=ry
  dsimp only at e
  split at e
  ·rename_i hk
   cases e1:aX h n with
   | none=>rw [e1] at e; cases e
   | some kvs=>rw [e1] at e; cases e; exact ⟨φ,h,p,n,a,kvs,rh,rx,rfl,ha,e1,hk,r⟩
  ·cases e
 | _=>cases e
theorem Mn (c:Cxt C k X):IxR X (fun x y H Q=>GH C y x H fun φ o=>∃ p,o=some p/\∀ v:V,RV C φ H p v->Q v H):=by
 intro value slice pins s σ H x y v u Q I rx ry h hs
 obtain ⟨φ,h,p,n,a,kvs,rh,rp,rfl,ha,ht,hk,p',ep,q⟩:=h
 cases rx
 obtain ⟨b,rfl⟩:=mZ hk rp
 cases ry
 obtain ⟨⟨ks,xs,r,rx',hz,hm,dd⟩,_⟩:=vZ I c.K c.w rh ha ht
 have hT:=dd.typeIs
 have hv:=HD.val (a:=a) r rx' p
 rw [ep] at hv
 cases e2:atKey xs p with
 | none=>rw [e2] at hv; exact hv.elim
 | some z=>
  rw [e2] at hv
  obtain ⟨v',rv1,rv2⟩:=hv
  unfold subscriptTail
  refine wpAny_bind ?_
  rw [getitemInPython_of_ne hT.not_modules]
  refine wpAny_bind (wpAny_specialOf hT PySem.F.slot_dict_getitem.lookup ?_)
  have fin:wpAny (model X.prog X.w) X.A (subscripted slice false (.ref a) (.ref b)) (fun r s₃=>wpAny (model X.prog X.w) X.A (letTemporaryGo value (.ref a) r >>= fun _=>pure r) (EP X pins σ Q) X.xe s₃) X.xe s:=by
   rw [hs]
   exact wpAny_operating (wpAny_getItem_heap c.room6 (wA I c.K hk rp) dd e2 (wpAny_bind (wpAny_letTemporaryGo (wpAny_pure ⟨v',H,I.tok _,rv1,q v' rv2⟩))))
  first
   | exact wpAny_pure (wpAny_bind fin)
   | exact wpAny_bind (wpAny_pure (wpAny_bind fin))
   | exact wpAny_bind fin
def vAt:PV->PV->PH->Rs PV:=fun x y h=>match kZ y x h with
 | some (some p)=>.ok p h
 | some none=>.bad
 | none=>vIx x y h
theorem bU {a b:Expr} {ma mb:Me} {pos:Pos} (ha:SE C k X a ma) (hb:SE C k X b mb) (hs:Au b:=by intro _ _; rfl):SE C k X (.Subscript a b pos) (aB vAt ma mb):=fun c=>
 (Ju ((ixC c.hu C.K c.K).or (Mn c)) (ha c) (hb c) hs).imp fun σ H Q h=>by
  obtain ⟨φ,δ,h,rh,re,p⟩:=Az h
  refine ⟨φ,δ,h,rh,re,p.imp ?_⟩
  rintro v H1 ⟨φ,δ,h,rh,re,p⟩
  refine ⟨φ,δ,h,rh,re,p.imp ?_⟩
  rintro u H2 ⟨φ,h,p,q,rh,rx,ry,po⟩
  unfold vAt at po
  cases e:kZ q p h with
  | none=>rw [e] at po; exact .inl (JS ⟨φ,h,p,q,rh,rx,ry,po⟩)
  | some o=>
   rw [e] at po
   cases o with
   | none=>exact po.elim
   | some r=>exact .inr (zQ rh ry rx e ⟨r,rfl,fun v' rv=>po.val rh rv⟩)
def oS (x y v:PV) (h:PH):Option PH:=match x with
 | .ref n=>match mT y,h[n]? with
  | some key,some (.dK kvs)=>if kvs.length < sizeLine then some (h.set n (.dK (dA kvs key v))) else none
  | some _,_=>none
  | none,_=>if y.isKt=true then (match aX h n with
   | some kvs=>if kvs.length < sizeLine then some (h.set n (.dD (dA kvs y v))) else none
   | none=>none) else none
 | _=>none
theorem zR {φ:List Addr} {H:Hp} {κ:Type} [DecidableEq κ] {kvs:List (κ×PV)} {ks:List (κ×V)} (r:RKv C φ H kvs ks) (a:κ):(bH kvs a).isSome=(fO ks a).isSome:=by
 have:=rQ r a
 cases e1:bH kvs a with
 | none=>
  cases e2:fO ks a with
  | none=>rfl
  | some v=>rw [e1,e2] at this; exact this.elim
 | some p=>
  cases e2:fO ks a with
  | none=>rw [e1,e2] at this; exact this.elim
  | some v=>rfl
theorem wB {φ:List Addr} {H:Hp} {κ:Type} [DecidableEq κ] {kvs:List (κ×PV)} {ks:List (κ×V)} (r:RKv C φ H kvs ks) (a:κ) {p:PV} {v:V} (rp:RV C φ H p v):RKv C φ H (dA kvs a p) (putK ks a v):=by
 unfold dA putK
 rw [nM,zR r a]
 split
 ·rename_i hx
  clear hx
  unfold RKv at r ⊢
  induction r with
  | nil=>exact .nil
  | @cons p' q' ps qs h t ih=>
   refine .cons ?_ ih
   by_cases e:p'.1=a
   ·have e':q'.1=a:=h.1.symm.trans e
    simp only [if_pos e,if_pos e']
    exact ⟨h.1,rp⟩
   ·have e':¬ q'.1=a:=fun z=>e (h.1.trans z)
    simp only [if_neg e,if_neg e']
    exact h
 ·exact Paired.snoc r ⟨rfl,rp⟩
theorem rW {φ:List Addr} {H:Hp} {h h':PH} {px py pv:PV} {x y v:V} (c:Cxt C k X) (rh:RH C φ H h) (rx:RV C φ H px x) (ry:RV C φ H py y) (rv:RV C φ H pv v) (e:oS px py pv h=some h') {pins:List (Addr×Obj)} {σ:St} {s:Shared} {xu yu vu:Value}
  {Q:Unit->Shared->Prop} (I:Inv X pins σ H s) (rxu:RelV x xu) (ryu:RelV y yu) (rvu:RelV v vu) (q:∀ s' H',Inv X pins σ H' s'->Kp H H'->RH C φ H' h'->Q () s'):wpAny (model X.prog X.w) X.A (setItem xu yu vu) Q X.xe s:=by
 unfold oS at e
 cases px with
 | ref n=>
  obtain ⟨a,rfl,ha⟩:=rx
  cases rxu
  dsimp only at e
  split at e
  ·rename_i key kvs hkey hk
   split at e
   ·rename_i hl
    cases e
    obtain ⟨ks,hH,rk⟩:=rh.at' n a _ ha hk
    have ey:y=kV key:=tN ry hkey
    subst ey
    have hl':ks.length < sizeLine:=by rw [<- Paired.length rk]; exact hl
    refine Bl c.hu I (.k hH hl') ryu rvu fun s' I'=>q s' _ I' (Kp.dK hH) ?_
    refine rh.write ha (by rw [hH]; exact True.intro) ⟨_,aJ,?_⟩
    exact (wB rk key rv).mono List.prefix_rfl (Kp.dK hH)
   ·cases e
  ·cases e
  ·split at e
   ·rename_i hk
    split at e
    ·rename_i kvs ht
     split at e
     ·rename_i hl
      cases e
      obtain ⟨b,rfl⟩:=mZ hk ry
      cases ryu
      obtain ⟨⟨ks,xs,r,rx',hz,hm,dd⟩,mu,nt⟩:=vZ I c.K c.w rh ha ht
      refine wpAny_setItem_heap (hsz:=hz) c.room6 (wA I c.K hk ry) dd fun h' dd' hs=>?_
      obtain ⟨ks',r1,r2⟩:=HD.put (a:=a) r rx' (mY hk) ry rv rvu
      obtain ⟨o,es,ep,hq,h2,h3,h4,_,h5⟩:=dd'
      have hl2:ks'.length<=sizeLine:=by
       have e1:=Paired.length r1
       have e2:(dA kvs py pv).length<=kvs.length+1:=by
        unfold dA
        split
        ·rw [List.length_map]; omega
        ·simp
       omega
      refine q _ (upd H a (dDO C.w a ks')) (sX I mu hs ⟨o,hq⟩ ⟨⟨hl2,hm,_,r2,o,es,ep,hq,h2,h3,?_,h5⟩,⟨o,hq⟩,?_⟩) (Kp.upd nt) ?_
      ·rw [h4,<- c.w]; rfl
      ·rintro g1 g2 ⟨z1,z2,ws,z3,o',es',ep',z4,z5⟩ keep
       exact ⟨z1,z2,ws,z3,o',es',ep',keep _ z4,z5⟩
      ·exact rh.write ha nt ⟨ks',aJ,RKd.mono List.prefix_rfl (Kp.upd nt) r1⟩
     ·cases e
    ·cases e
   ·cases e
 | _=>cases e
end
end L2
set_option Elab.async false
set_option linter.all false
set_option maxRecDepth 100000
namespace L2
open PySem PySem.Spec PyProof.Rows
def MtG (C:MC) (k:Nat) (X:Cx) (T:String) (ty:PV->PH->Bool) (id:String) (g:PV->List PV->PH->Rs PV):Prop:=Cxt C k X->MtR X id (rM C g)/\
 ∀ pins s σ H φ h p x v,Inv X pins σ H s->RH C φ H h->RV C φ H p x->RelV x v->ty p h=true->s.TypeIs v T/\∀ a,v=.ref a->∃ ob,s.heap.get? a=some ob/\ob.dict=none
section
variable {C:MC} {k:Nat} {X:Cx}
section
variable {o e:Expr} {es:List Expr} {mo:Me} {ms:Ma} {name:Str} {apos cpos:Pos} {T id:String} {ty:PV->PH->Bool} {g:PV->List PV->PH->Rs PV}
theorem Kl (pa:PlainAttrs T) (slot:Slot T name id) (hty:typeOf (.builtin id)=pure (.type "method_descriptor")) (hm:MtG C k X T ty id g) (ho:SE C k X o mo) (ha:SA C k X (e :: es) ms)
  (hbase:attributeBase o name X.env (eval o X.env)=eval o X.env:=by rfl)
  (hfew:((backTo cpos (starEach (e :: es) X.env)).all (fun x=>!x.1) && (backToKw cpos (keywordEach [] X.env)).all (fun x=>x.1.isSome)
   && decide ((e :: es).length+([]:List Keyword).length+(if ([]:List Keyword).isEmpty then 0 else 1) < 30))=true:=by rfl)
  (hline:(apos.endLine == cpos.line)=true:=by rfl) (hs:starEach (e :: es) X.env=(false,eval e X.env) :: starEach es X.env:=by rfl) (hplain:(backTo cpos (starEach es X.env)).any (·.1)=false:=by rfl):
  SE C k X (.Call (.Attribute o name apos) (e :: es) [] cpos) (mMt ty g mo ms):=fun c pins s σ H Q I ⟨φ,δ,h,rh,re,p⟩=>by
 refine wpAny_Call_method_late hbase hfew hline rfl (thn (ho c pins s σ H _ I ⟨φ,δ,h,rh,re,post.bind p⟩) ?_)
 rintro v s1 ⟨x,H1,I1,r1,φ1,px,h1,p1,t1,rh1,rv1,q1⟩
 obtain ⟨ht,q1⟩:=q1.ite
 obtain ⟨g1,g2⟩:=(hm c).2 pins s1 σ H1 φ1 h1 px x v I1 rh1 rv1 r1 ht
 refine ⟨T,id,pa,slot,hty,g1,g2,?_⟩
 have hA:=ha c cpos pins s1 σ H1 _ I1 ⟨φ1,δ,h1,rh1,re.mono p1 t1,postA.bind q1⟩
 rw [hs] at hA ⊢
 refine Calls.callWith_builtin (show (false || (backTo cpos (starEach es X.env)).any (·.1))=false by rw [hplain]; rfl) (Calls.evalArgs_plain (thn hA ?_))
 rintro us s2 ⟨vs,H2,I2,r2,φ2,ps,h2,p2,t2,rh2,rv2,q2⟩
 exact (hm c).1 pins s2 σ H2 x vs v us Q I2 r1 r2 ⟨φ2,h2,px,ps,rh2,rv1.mono p2 t2,rv2,q2⟩
theorem GI (pa:PlainAttrs T) (slot:Slot T name id) (hty:typeOf (.builtin id)=pure (.type "method_descriptor")) (hm:MtG C k X T ty id g) (ho:SE C k X o mo)
  (hbase:attributeBase o name X.env (eval o X.env)=eval o X.env:=by rfl) (hline:(apos.endLine == cpos.line)=true:=by rfl):SE C k X (.Call (.Attribute o name apos) [] [] cpos) (Da ty g mo):=fun c pins s σ H Q I ⟨φ,δ,h,rh,re,p⟩=>by
 refine wpAny_Call_method0_late hbase hline (thn (ho c pins s σ H _ I ⟨φ,δ,h,rh,re,post.bind p⟩) ?_)
 rintro v s1 ⟨x,H1,I1,r1,φ1,px,h1,p1,t1,rh1,rv1,q1⟩
 obtain ⟨ht,q1⟩:=q1.ite
 obtain ⟨g1,g2⟩:=(hm c).2 pins s1 σ H1 φ1 h1 px x v I1 rh1 rv1 r1 ht
 exact ⟨T,id,pa,slot,hty,g1,g2,Calls.callWith_builtin rfl (PySem.evalArgs_none ((hm c).1 pins s1 σ H1 x [] v [] Q I1 r1 .nil ⟨φ1,h1,px,[],rh1,rv1,trivial,q1⟩))⟩
end
def cX (x:PV) (h:PH):Bool:=match x with
 | .ref n=>match h[n]? with
  | some (.dK _)=>true
  | some (.dD _)=>true
  | _=>false
 | _=>false
theorem oT (c:Cxt C k X):∀ pins s σ H φ h p x v,Inv X pins σ H s->RH C φ H h->RV C φ H p x->RelV x v->cX p h=true->s.TypeIs v "dict" /\ ∀ a,v=.ref a->∃ ob,s.heap.get? a=some ob/\ob.dict=none:=by
 intro pins s σ H φ h p x v I rh rv r e
 unfold cX at e
 cases p with
 | ref n=>
  obtain ⟨a,rfl,ha⟩:=rv
  cases r
  dsimp only at e
  split at e
  ·rename_i kvs hk
   obtain ⟨ks,hH,rk⟩:=rh.at' n a _ ha hk
   obtain ⟨z,hd,vs,rel,dd⟩:=vG I.hok hH
   refine ⟨dd.typeIs,fun b eb=>?_⟩
   cases eb
   obtain ⟨ob,_,_,h1,h2,_⟩:=dd
   exact ⟨ob,h1,h2.2.1⟩
  ·rename_i kvs hk
   have ht:aX h n=some kvs:=by unfold aX; rw [hk]
   obtain ⟨⟨ks,xs,r,rx',hz,hm,dd⟩,_⟩:=vZ I c.K c.w rh ha ht
   refine ⟨dd.typeIs,fun b eb=>?_⟩
   cases eb
   obtain ⟨ob,_,_,h1,h2,_⟩:=dd
   exact ⟨ob,h1,h2.2.1⟩
  ·cases e
 | _=>cases e
def dG (h:PH) (x y:PV):Option (Option PV):=match kZ y x h with
 | some o=>some o
 | none=>match x with
  | .ref n=>zJ h n y
  | _=>none
def wC:PV->List PV->PH->Rs PV:=fun x ps h=>match ps with
 | [y]=>match dG h x y with
  | some o=>.ok (o.getD .non) h
  | none=>.bad
 | [y,z]=>match dG h x y with
  | some o=>.ok (o.getD z) h
  | none=>.bad
 | _=>.bad
theorem Dt {x y:PV} {h:PH} {o:Option PV} (e:kZ x y h=some o):∃ n kvs,y=.ref n/\x.isKt=true/\aX h n=some kvs/\o=bH kvs x:=by
 unfold kZ at e
 cases y with
 | ref n=>
  dsimp only at e
  split at e
  ·rename_i hk
   cases e1:aX h n with
   | none=>rw [e1] at e; cases e
   | some kvs=>rw [e1] at e; cases e; exact ⟨n,kvs,rfl,hk,e1,rfl⟩
  ·cases e
 | _=>cases e
theorem Im (c:Cxt C k X):MtR X "dict.get" (rM C wC):=fun pins s σ H x xs v us Q I rx rs h=>by
 obtain ⟨φ,h,p,ps,rh,rp,rps,po⟩:=h
 -- what is found
 have key:∀ {y:PV} {yv:V} {yu:Value} {o:Option PV} {d:PV} {dv:V} {du:Value} {more:List Value},dG h p y=some o->RV C φ H y yv->RelV yv yu->RV C φ H d dv->RelV dv du->
   ((more=[]/\du=.none/\dv=.non)\/more=[du])->(∀ z,RV C φ H (o.getD d) z->Q z H)->wpAny (model X.prog X.w) X.A (call (.builtin "dict.get") (v :: yu :: more)) (EP X pins σ Q) X.xe s:=by
  intro y yv yu o d dv du more e ry ryu rd rdu hm q
  unfold dG at e
  cases e1:kZ y p h with
  | some o'=>
   rw [e1] at e
   cases e
   obtain ⟨n,kvs,rfl,hk,ht,rfl⟩:=Dt e1
   obtain ⟨a,rfl,ha⟩:=rp
   cases rx
   obtain ⟨b,rfl⟩:=mZ hk ry
   cases ryu
   obtain ⟨⟨ks,xs,r,rx',hz,hm',dd⟩,_⟩:=vZ I c.K c.w rh ha ht
   have hv:=HD.val (a:=a) r rx' y
   have fin:EP X pins σ Q (((atKey xs y).map (·.2)).getD du) { s with toks:=s.toks+(iD X.prog X.w).draws y }:=by
    cases e2:bH kvs y with
    | some p2=>
     rw [e2] at hv q
     cases e3:atKey xs y with
     | none=>rw [e3] at hv; exact hv.elim
     | some z=>
      rw [e3] at hv
      obtain ⟨v',rv1,rv2⟩:=hv
      exact ⟨v',H,I.tok _,rv1,q v' rv2⟩
    | none=>
     rw [e2] at hv q
     cases e3:atKey xs y with
     | some z=>rw [e3] at hv; exact hv.elim
     | none=>exact ⟨dv,H,I.tok _,rdu,q dv rd⟩
   rcases hm with ⟨rfl,rfl,_⟩ | rfl
   ·exact call_meetsIn PySem.F.slot_dict_get dd.typeIs PySem.F.entry_dict_get (PySem.F.args_dict_get_2 _ _) (meetsH_dict_get (iD X.prog X.w) a b hm') ⟨c.room6,y,xs,wA I c.K hk ry,dd,fin⟩
   ·exact call_meetsIn PySem.F.slot_dict_get dd.typeIs PySem.F.entry_dict_get (PySem.F.args_dict_get_3 _ _ _) (meetsH_dict_get_default (iD X.prog X.w) a b hm' du) ⟨c.room6,y,xs,wA I c.K hk ry,dd,fin⟩
  | none=>
   rw [e1] at e
   cases p with
   | ref n=>
    obtain ⟨a,rfl,ha⟩:=rp
    cases rx
    dsimp only at e
    obtain ⟨o',g,is,val⟩:=oJ rh ha ry e
    have fin:∀ w' s',Inv X pins σ H s'->RelV (o'.getD dv) w'->EP X pins σ Q w' s':=fun w' s' I' r'=>by
     refine ⟨o'.getD dv,H,I',r',q _ ?_⟩
     cases o with
     | some p2=>obtain ⟨w2,rfl,rw2⟩:=val p2 rfl; exact rw2
     | none=>
      cases o' with
      | none=>exact rd
      | some z=>cases is
    rcases hm with ⟨rfl,rfl,rfl⟩ | rfl
    ·exact Hy c.hu I g ryu fin
    ·exact Hz c.hu I g ryu rdu fin
   | _=>cases e
 unfold wC at po
 split at po
 ·rename_i y
  split at po
  ·rename_i o e
   obtain ⟨yv,rfl,ry⟩:=rps.one
   obtain ⟨yu,rfl,ryu⟩:=vals1 rs
   exact key (d:=.non) (dv:=.non) (du:=.none) e ry ryu rfl rfl (.inl ⟨rfl,rfl,rfl⟩) fun z rz=>po.val rh rz
  ·exact po.elim
 ·rename_i y z
  split at po
  ·rename_i o e
   obtain ⟨yv,zv,rfl,ry,rz⟩:=rps.two
   obtain ⟨yu,zu,rfl,ryu,rzu⟩:=vals2 rs
   exact key e ry ryu rz rzu (.inr rfl) fun z rz=>po.val rh rz
  ·exact po.elim
 ·exact po.elim
theorem GJ:MtG C k X "dict" cX "dict.get" wC:=fun c=>⟨Im c,oT c⟩
def fY:List PV->Option (List (Key×PV))
 | []=>some []
 | .tup [y,v] :: r=>match mT y,fY r with
  | some key,some rs=>some ((key,v) :: rs)
  | _,_=>none
 | _ :: _=>none
def lA (kvs more:List (Key×PV)):List (Key×PV):=more.foldl (fun acc kv=>dA acc kv.1 kv.2) kvs
theorem zS {φ:List Addr} {H:Hp}:∀ {more:List (Key×PV)} {ms:List (Key×V)} {kvs:List (Key×PV)} {ks:List (Key×V)},RKv C φ H more ms->RKv C φ H kvs ks->RKv C φ H (lA kvs more) (kJ ks ms):=by
 intro more ms kvs ks r
 unfold RKv at r
 induction r generalizing kvs ks with
 | nil=>intro q; exact q
 | @cons p q ps qs h t ih=>
  intro r0
  have e:=wB r0 p.1 h.2
  rw [show putK ks p.1 q.2=putK ks q.1 q.2 by rw [h.1]] at e
  exact ih e
theorem Inv.tupleD {pins:List (Addr×Obj)} {σ:St} {H:Hp} {s:Shared} {a:Addr} {xs:List V} (I:Inv X pins σ H s) (h:SqT X.K H a xs):∃ its:List Value,aH xs its/\iY s.heap a its.toArray/\xs.length<=sizeLine:=by
 rcases h with h | ⟨o,its,n,hk,hc,hs,hz,r,hd⟩
 ·obtain ⟨z,its,r,p⟩:=h.ok I.hok
  exact ⟨its,r,p,z⟩
 ·refine ⟨its.toList,r,⟨o,I.kIn a o hk,hc,⟨n,by simpa using hs⟩,hd⟩,?_⟩
  have e:=r.length
  rw [e]
  simpa using hz
theorem rX {pins:List (Addr×Obj)} {σ:St} {H:Hp} {s:Shared} {φ:List Addr} (I:Inv X pins σ H s) (hK:X.K=C.K):∀ {ps:List PV} {rs:List (Key×PV)} {vs:List V} {us:List Value},fY ps=some rs->RVs C φ H ps vs->aH vs us->
  ∃ qs:List (Addr×Key×Value×Value),us=qs.map (fun q=>Value.ref q.1)/\(∀ q∈qs,(aQ X.prog X.w).is q.2.1 q.2.2.1=true)/\(∀ q∈qs,IsTup s.heap q.1 #[q.2.2.1,q.2.2.2])/\∃ ws:List (Key×V),RKv C φ H rs ws/\KV ws (qs.map fun q=>(q.2.1,q.2.2.2))
 | [],rs,[],us,e,_,ru=>by
  cases ru
  cases e
  exact ⟨[],rfl,(fun _ h=>nomatch h),(fun _ h=>nomatch h),[],.nil,.nil⟩
 | p :: ps,rs,v :: vs,us,e,r,ru=>by
  cases ru with
  | @cons _ u _ us' h t=>
   cases p with
   | tup xs=>
    match xs,e with
    | [y,z],e=>
     unfold fY at e
     cases e1:mT y with
     | none=>rw [e1] at e; cases e
     | some key=>
      cases e2:fY ps with
      | none=>rw [e1,e2] at e; cases e
      | some rs'=>
       rw [e1,e2] at e
       cases e
       obtain ⟨qs,rfl,a1,a2,ws,a3,a4⟩:=rX I hK e2 r.2 t
       obtain ⟨b,bs,rfl,sq,rb⟩:=r.1
       cases h
       obtain ⟨yv,zv,rfl,ry,rz⟩:=rb.two
       rw [<- hK] at sq
       obtain ⟨its,rits,pt,_⟩:=I.tuple sq
       obtain ⟨yu,zu,rfl,ryu,rzu⟩:=vals2 rits
       have ey:=tN ry e1
       subst ey
       refine ⟨(b,key,yu,zu) :: qs,rfl,?_,?_,(key,zv) :: ws,.cons ⟨rfl,rz⟩ a3,.cons ⟨rfl,rzu⟩ a4⟩
       ·intro q hq
        rcases List.mem_cons.mp hq with rfl | hq
        ·exact qX ryu
        ·exact a1 q hq
       ·intro q hq
        rcases List.mem_cons.mp hq with rfl | hq
        ·exact pt
        ·exact a2 q hq
    | [],e=>cases e
    | [_],e=>cases e
    | _ :: _ :: _ :: _,e=>cases e
   | _=>cases e
 | [],_,_ :: _,_,_,r,_=>r.elim
 | _ :: _,_,[],_,_,r,_=>r.elim
def oU:List PV->PH->Rs PV:=fun xs h=>match xs with
 | [.tup ps]=>match fY ps with
  | some rs=>.ok (.ref h.length) (h++[.dK (lA [] rs)])
  | none=>.bad
 | [.ref n]=>match h[n]? with
  | some (.dK kvs)=>.ok (.ref h.length) (h++[.dK kvs])
  | _=>.bad
 | _=>.bad
theorem Du:fV C k X (.type "dict") oU:=fun c pins s σ H xs us Q I r h=>by
 obtain ⟨φ,h,ps,rh,rv,po⟩:=h
 unfold oU at po
 split at po
 ·rename_i ps
  split at po
  ·rename_i rs e
   obtain ⟨v,rfl,rx⟩:=rv.one
   obtain ⟨a,vs,rfl,sa,ra⟩:=rx
   obtain ⟨u,rfl,ru⟩:=vals1 r
   cases ru
   have hl:=ra.length
   have sa':=sa
   rw [<- c.K] at sa'
   obtain ⟨its,rits,⟨o,o1,o2,⟨n,o3⟩,o4⟩,hz⟩:=Inv.tupleD I sa'
   obtain ⟨qs,rfl,a1,a2,ws,a3,a4⟩:=rX I c.K e ra rits
   have hq:qs.length<=sizeLine:=by
    have:=rits.length
    rw [List.length_map] at this
    omega
   refine mR (I.ok.hd c.calm) o1 o2 o3 o4 a1 a2 hq fun h' tk dd kk=>?_
   have r1:=zS a3 (.nil:RKv C φ H [] [])
   have hz2:(kJ [] ws).length<=sizeLine:=by
    have h1:=iC ws []
    have h2:=KV.length a4
    rw [List.length_map] at h2
    simp at h1
    omega
   have fr:H s.heap.objs.size=none:=I.fresh
   refine ⟨.ref s.heap.objs.size,_,I.laid (a:=s.heap.objs.size) (o:=.dK (kJ [] ws)) (t':=tk) kk (Nat.le_refl _) (yT hz2 (beq_eq_false_iff_ne.mpr (Ne.symm (Nat.ne_of_lt I.big))) (a4.merge .nil) dd),rfl,?_⟩
   exact po (φ++[s.heap.objs.size]) (.ref _) _ (List.prefix_append _ _) (Kp.new fr) (rh.new fr ⟨_,aJ,r1.mono (List.prefix_append _ _) (Kp.new fr)⟩) ⟨_,rfl,by rw [<- rh.len]; simp⟩
  ·exact po.elim
 ·rename_i n
  split at po
  ·rename_i kvs hk
   obtain ⟨v,rfl,rx⟩:=rv.one
   obtain ⟨a,rfl,ha⟩:=rx
   obtain ⟨u,rfl,ru⟩:=vals1 r
   cases ru
   obtain ⟨ks,hH,rk⟩:=rh.at' n a _ ha hk
   refine CD I (.inl hH) fun p s' hp I'=>⟨.ref p,_,I',rfl,?_⟩
   exact po (φ++[p]) (.ref _) _ (List.prefix_append _ _) (Kp.new hp) (rh.new hp ⟨_,aJ,rk.mono (List.prefix_append _ _) (Kp.new hp)⟩) ⟨_,rfl,by rw [<- rh.len]; simp⟩
  ·exact po.elim
 ·exact po.elim
end
end L2
set_option Elab.async false
set_option linter.all false
set_option maxRecDepth 100000
namespace L2
open PySem PySem.Spec PyProof.Rows
def BG (x:List Key):List (List Key)->List (List Key)
 | []=>[x]
 | y :: ys=>if aV y x=true then y :: BG x ys else x :: y :: ys
def aM:List (List Key)->List (List Key)
 | []=>[]
 | x :: xs=>BG x (aM xs)
theorem lB (x:List Key):∀ ys,(BG x ys).Perm (x :: ys)
 | []=>.refl _
 | y :: ys=>by
  unfold BG
  split
  ·exact ((lB x ys).cons y).trans (.swap x y ys)
  ·exact .refl _
theorem bT:∀ xs,(aM xs).Perm xs
 | []=>.refl _
 | x :: xs=>(lB x _).trans ((bT xs).cons x)
theorem lZ {S:List Bool} {x:List Key} (hx:shape x=S):∀ {ys:List (List Key)},(∀ y∈ys,shape y=S)->ys.Pairwise (fun a b=>aV b a=false)->(BG x ys).Pairwise (fun a b=>aV b a=false)
 | [],_,_=>List.pairwise_singleton _ _
 | y :: ys,hs,hp=>by
  have hy:=hs y List.mem_cons_self
  have hs':=fun z hz=>hs z (List.mem_cons_of_mem _ hz)
  rw [List.pairwise_cons] at hp
  unfold BG
  split
  ·rename_i h
   rw [List.pairwise_cons]
   refine ⟨fun z hz=>?_,lZ hx hs' hp.2⟩
   rcases List.mem_cons.mp ((lB x ys).mem_iff.mp hz) with rfl | hz
   ·exact jE h
   ·exact hp.1 z hz
  ·rename_i h
   have h':aV y x=false:=by simpa using h
   rw [List.pairwise_cons]
   refine ⟨fun z hz=>?_,List.pairwise_cons.mpr hp⟩
   rcases List.mem_cons.mp hz with rfl | hz
   ·exact h'
   ·exact gR (hx.trans hy.symm) (hy.trans (hs' z hz).symm) h' (hp.1 z hz)
theorem cQ {S:List Bool}:∀ {xs:List (List Key)},(∀ y∈xs,shape y=S)->(aM xs).Pairwise (fun a b=>aV b a=false)
 | [],_=>.nil
 | x :: xs,hs=>lZ (hs x List.mem_cons_self) (fun y hy=>hs y (List.mem_cons_of_mem _ ((bT xs).mem_iff.mp hy))) (cQ fun y hy=>hs y (List.mem_cons_of_mem _ hy))
theorem fA {S:List Bool} {xs ys:List (List Key)} (hs:∀ y∈xs,shape y=S) (hp:ys.Perm xs) (h:ys.Pairwise (fun a b=>aV b a=false)):ys=aM xs:=by
 refine List.Perm.eq_of_pairwise (le:=fun a b=>aV b a=false) (fun a b ha hb h1 h2=>?_) h (cQ hs) (hp.trans (bT xs).symm)
 exact nY ((hs a (hp.mem_iff.mp ha)).trans (hs b ((bT xs).mem_iff.mp hb)).symm) h2 h1
def kP:Key->PV
 | .inl i=>.int i
 | .inr x=>.str x
theorem FF {x:PV} {a:Key} (h:mT x=some a):x=kP a:=by
 cases x <;> first | (cases h; rfl) | cases h
@[simp] theorem AK (a:Key):mT (kP a)=some a:=by cases a <;> rfl
def fL:List PV->Option (List Key)
 | []=>some []
 | x :: xs=>match mT x,fL xs with
  | some a,some r=>some (a :: r)
  | _,_=>none
theorem jL:∀ {xs:List PV} {ks:List Key},fL xs=some ks->xs=ks.map kP
 | [],_,h=>by cases h; rfl
 | x :: xs,ks,h=>by
  unfold fL at h
  cases e1:mT x with
  | none=>rw [e1] at h; cases h
  | some a=>
   cases e2:fL xs with
   | none=>rw [e1,e2] at h; cases h
   | some r=>
    rw [e1,e2] at h
    cases h
    rw [FF e1,jL e2]
    rfl
@[simp] theorem Dv:∀ ks:List Key,fL (ks.map kP)=some ks
 | []=>rfl
 | a :: ks=>by simp [fL,Dv ks]
def tP (ks:List Key):PV:=.tup (ks.map kP)
def fM:List PV->Option (List (List Key))
 | []=>some []
 | .tup xs :: r=>match fL xs,fM r with
  | some a,some b=>some (a :: b)
  | _,_=>none
 | _ :: _=>none
theorem oV:∀ {xs:List PV} {ks:List (List Key)},fM xs=some ks->xs=ks.map tP
 | [],_,h=>by cases h; rfl
 | x :: xs,ks,h=>by
  cases x with
  | tup ys=>
   unfold fM at h
   cases e1:fL ys with
   | none=>rw [e1] at h; cases h
   | some a=>
    cases e2:fM xs with
    | none=>rw [e1,e2] at h; cases h
    | some r=>
     rw [e1,e2] at h
     cases h
     rw [jL e1,oV e2]
     rfl
  | _=>cases h
@[simp] theorem jM:∀ ks:List (List Key),fM (ks.map tP)=some ks
 | []=>rfl
 | a :: ks=>by simp [fM,tP,jM ks]
def jN (kss:List (List Key)):Bool:=match kss with
 | []=>true
 | a :: r=>(!a.isEmpty) && r.all fun x=>shape x == shape a
theorem iP {kss:List (List Key)} (h:jN kss=true):∃ b sh,∀ ks∈kss,shape ks=b :: sh:=by
 cases kss with
 | nil=>exact ⟨true,[],fun _ h=>nomatch h⟩
 | cons a r=>
  unfold jN at h
  rw [Bool.and_eq_true] at h
  cases a with
  | nil=>cases h.1
  | cons z zs=>
   refine ⟨bV z,shape zs,fun ks hk=>?_⟩
   rcases List.mem_cons.mp hk with rfl | hk
   ·rfl
   ·have:=List.all_eq_true.mp h.2 ks hk
    exact eq_of_beq this
section
variable {C:MC} {k:Nat} {X:Cx}
theorem Km {φ:List Addr} {H:Hp} {a:Key} {v:V}:RV C φ H (kP a) v ↔ Rep C.K H (kD a) v:=by cases a <;> exact Iff.rfl
theorem uC {φ:List Addr} {H:Hp}:∀ {ks:List Key} {vs:List V},RVs C φ H (ks.map kP) vs ↔ bW C.K H (ks.map kD) vs
 | [],[]=>Iff.rfl
 | [],_ :: _=>Iff.rfl
 | _ :: _,[]=>Iff.rfl
 | _ :: _,_ :: _=>and_congr Km uC
theorem Kn {φ:List Addr} {H:Hp} {ks:List Key} {v:V}:RV C φ H (tP ks) v ↔ Rep C.K H (tD ks) v:=by
 constructor
 ·rintro ⟨a,vs,e,s,r⟩; exact ⟨a,vs,e,s,uC.mp r⟩
 ·rintro ⟨a,vs,e,s,r⟩; exact ⟨a,vs,e,s,uC.mpr r⟩
theorem jO {φ:List Addr} {H:Hp}:∀ {kss:List (List Key)} {vs:List V},RVs C φ H (kss.map tP) vs ↔ bW C.K H (kss.map tD) vs
 | [],[]=>Iff.rfl
 | [],_ :: _=>Iff.rfl
 | _ :: _,[]=>Iff.rfl
 | _ :: _,_ :: _=>and_congr Kn jO
def lC:PV->List PV->PH->Rs PV:=fun x ps h=>match x,ps with
 | .ref n,[]=>match h[n]? with
  | some (.dK _)=>.ok (.ref h.length) (h++[.vw 0 n])
  | _=>.bad
 | _,_=>.bad
theorem FG:MtG C k X "dict" cX "dict.items" lC:=fun c=>⟨MtR.imp (show MtR X "dict.items" CL from CM) fun x xs H Q h=>by
 obtain ⟨φ,h,p,ps,rh,rp,rps,po⟩:=h
 unfold lC at po
 split at po
 ·rename_i n
  split at po
  ·rename_i kvs hk
   obtain ⟨a,rfl,ha⟩:=rp
   obtain ⟨ks,hH,rk⟩:=rh.at' n a _ ha hk
   have:xs=[]:=by cases xs <;> first | rfl | exact rps.elim
   subst this
   refine ⟨a,ks,rfl,rfl,hH,fun l hl=>?_⟩
   refine po (φ++[l]) (.ref l) _ (List.prefix_append _ _) (Kp.new hl) (rh.new hl ⟨a,dR (List.prefix_append _ _) ha,aJ⟩) ⟨l,rfl,by rw [<- rh.len]; simp⟩
  ·exact po.elim
 ·exact po.elim,oT c⟩
def Dw (xs:List PV):Option (List PV):=match fM xs with
 | some kss=>if kss.length < 64/\jN kss=true then some ((aM kss).map tP) else none
 | none=>match fL xs with
  | some ks=>if ks.length < 64/\ks.all (fun x=>bV x == bV (.inr ""))=true then some ((aM (ks.map fun x=>[x])).flatten.map kP) else none
  | none=>none
theorem RH.same {φ:List Addr} {H H1:Hp} {h:PH} (r:RH C φ H h) (s:vF H H1):RH C φ H1 h:=⟨r.len,r.nd,fun n b ob h1 h2=>by
 have q:=r.at' n b ob h1 h2
 obtain ⟨u,hu⟩:=q.some
 exact q.stay List.prefix_rfl (Kp.same s) ((s _ _ hu).trans hu.symm)⟩
theorem FH {a b:Str}:aV [.inr a] [.inr b]=decide (a.cps.toList < b.cps.toList):=by
 unfold aV
 split
 ·rename_i e
  cases e
  simp [aV,List.lt_irrefl]
 ·rfl
theorem mB:∀ {r:List Str} {p:Str},risingS p r=true->((p :: r).map fun x=>[(Sum.inr x:Key)]).Pairwise (fun a b=>aV b a=false)
 | [],p,_=>List.pairwise_singleton _ _
 | x :: r,p,h=>by
  have h0:aV [.inr x] [.inr p]=false/\risingS x r=true:=by
   unfold risingS at h
   rw [Bool.and_eq_true,ltCps_eq] at h
   rw [FH]
   exact ⟨by simpa using h.1,h.2⟩
  have ih:=mB h0.2
  rw [List.map_cons,List.pairwise_cons]
  refine ⟨fun z hz=>?_,ih⟩
  obtain ⟨y,hy,rfl⟩:=List.mem_map.mp hz
  rcases List.mem_cons.mp hy with rfl | hy
  ·exact h0.1
  ·rw [List.map_cons,List.pairwise_cons] at ih
   exact gR (a:=[.inr p]) (b:=[.inr x]) (c:=[.inr y]) rfl rfl h0.1 (ih.1 _ (List.mem_map.mpr ⟨y,hy,rfl⟩))
theorem FI {ks:List Key} (h:ks.all (fun x=>bV x == bV (.inr ""))=true):∃ ss:List Str,ks=ss.map Sum.inr:=by
 induction ks with
 | nil=>exact ⟨[],rfl⟩
 | cons a ks ih=>
  rw [List.all_cons,Bool.and_eq_true] at h
  obtain ⟨ss,e⟩:=ih h.2
  cases a with
  | inl i=>exact absurd h.1 (by simp [bV])
  | inr x=>exact ⟨x :: ss,by rw [e]; rfl⟩
theorem uD {φ:List Addr} {H:Hp}:∀ {ss:List Str} {vs:List V},RVs C φ H (ss.map PV.str) vs ↔ vs=ss.map V.str
 | [],[]=>by simp [RVs]
 | [],_ :: _=>by simp [RVs]
 | _ :: _,[]=>by simp [RVs]
 | x :: ss,v :: vs=>by
  simp only [List.map_cons,RVs,List.cons.injEq]
  exact and_congr Iff.rfl uD
theorem rY:∀ ss:List Str,(((ss.map fun x=>[(Sum.inr x:Key)]).flatten).map kP)=ss.map PV.str
 | []=>rfl
 | x :: ss=>by
  have:=rY ss
  simp only [List.map_cons,List.flatten_cons,List.singleton_append]
  rw [this]
  rfl
theorem BH {φ:List Addr} {H:Hp} {kvs:List (Key×PV)} {ks:List (Key×V)} (r:RKv C φ H kvs ks):∀ {kss:List (List Key)},fM (kvs.map fun kv=>PV.tup [kP kv.1,kv.2])=some kss->ks.map (fun kv=>[kV kv.1,kv.2])=kss.map (fun ks=>ks.map kV):=by
 unfold RKv at r
 induction r with
 | nil=>intro kss h; cases h; rfl
 | @cons p q ps qs h t ih=>
  intro kss e
  rw [List.map_cons] at e
  unfold fM at e
  cases e1:fL [kP p.1,p.2] with
  | none=>rw [e1] at e; cases e
  | some a=>
   cases e2:fM (ps.map fun kv=>PV.tup [kP kv.1,kv.2]) with
   | none=>rw [e1,e2] at e; cases e
   | some b=>
    rw [e1,e2] at e
    cases e
    rw [List.map_cons,List.map_cons,ih e2]
    congr 1
    unfold fL at e1
    rw [AK] at e1
    cases e3:fL [p.2] with
    | none=>rw [e3] at e1; cases e1
    | some c=>
     rw [e3] at e1
     cases e1
     have:=jL e3
     match c,this with
     | [d],this=>
      have e4:p.2=kP d:=by simpa using this
      have rv:=h.2
      rw [e4] at rv
      have e5:q.2=kV d:=tN rv (AK d)
      rw [h.1,e5]
      rfl
     | [],this=>exact absurd this (by simp)
     | _ :: _ :: _,this=>exact absurd this (by simp)
def AL (h:PH) (n:Nat):Option (List PV):=match h[n]? with
 | some (.vw 0 d)=>match h[d]? with
  | some (.dK kvs)=>some (kvs.map fun kv=>.tup [kP kv.1,kv.2])
  | _=>none
 | _=>none
def cE:List PV->PH->Rs PV:=fun xs h=>match xs with
 | [.ref n]=>match aL h n with
  | some ys=>match Dw ys with
   | some zs=>.ok (.ref h.length) (h++[.lst zs])
   | none=>.bad
  | none=>match AL h n with
   | some ys=>match fM ys with
    | some kss=>if kss.length < 64/\jN kss=true then .ok (.ref h.length) (h++[.lst ((aM kss).map tP)]) else .bad
    | none=>.bad
   | none=>.bad
 | _=>.bad
theorem oW:fV C k X (.builtin "sorted") cE:=fun c=>bI.imp (bI.or (tI c.calm C.K c.K) (by have:=kK (X:=X); rw [c.K] at this; exact this)) fun vs H Q h=>by
 obtain ⟨φ,h,ps,rh,rv,po⟩:=h
 unfold cE at po
 split at po
 ·rename_i n
  obtain ⟨v,rfl,rx⟩:=rv.one
  obtain ⟨a,rfl,ha⟩:=rx
  split at po
  ·rename_i ys e
   obtain ⟨a2,vs,ha2,sa,ra⟩:=bL rh e
   rw [ha] at ha2; cases ha2
   split at po
   ·rename_i zs ez
    unfold Dw at ez
    split at ez
    ·rename_i kss ek
     split at ez
     ·rename_i hc
      cases ez
      have ey:=oV ek
      subst ey
      obtain ⟨b,sh,hsh⟩:=iP hc.2
      refine .inl ⟨a,kss,sh,b,rfl,hc.1,hsh,.inl ⟨vs,sa,jO.mp ra,fun l kss' vs' hl hp hs hr=>?_⟩⟩
      rw [fA hsh hp hs] at hr
      exact po.lnew rh (jO.mpr hr) hl
     ·cases ez
    ·split at ez
     ·rename_i ks ek
      split at ez
      ·rename_i hc
       cases ez
       obtain ⟨ss,rfl⟩:=FI hc.2
       have ey:=jL ek
       rw [List.map_map] at ey
       have ey':ys=ss.map PV.str:=ey
       subst ey'
       have ev:=uD.mp ra
       subst ev
       refine .inr ⟨a,ss,rfl,sa,by simpa using hc.1,fun l ss' hl hp hs=>?_⟩
       have e1:(ss'.map fun x=>[(Sum.inr x:Key)])=aM ((ss.map Sum.inr).map fun x=>[x]):=by
        rw [List.map_map]
        refine fA (S:=[false]) (fun y hy=>?_) (hp.map _) ?_
        ·obtain ⟨z,_,rfl⟩:=List.mem_map.mp hy; rfl
        ·cases ss' with
         | nil=>exact .nil
         | cons x r=>exact mB hs
       rw [<- e1] at po
       refine po.lnew rh ?_ hl
       have e2:(((ss'.map fun x=>[(Sum.inr x:Key)]).flatten).map kP)=ss'.map PV.str:=rY ss'
       rw [e2]
       exact uD.mpr rfl
      ·cases ez
     ·cases ez
   ·exact po.elim
  ·split at po
   ·rename_i ys ev
    split at po
    ·rename_i kss ek
     obtain ⟨hc,po⟩:=po.ite
     unfold AL at ev
     split at ev
     ·rename_i d hv
      split at ev
      ·rename_i kvs hk
       cases ev
       obtain ⟨b,hb,hH⟩:=rh.at' n a _ ha hv
       obtain ⟨ks,hD,rk⟩:=rh.at' d b _ hb hk
       obtain ⟨bb,sh,hsh⟩:=iP hc.2
       refine .inl ⟨a,kss,sh,bb,rfl,hc.1,hsh,.inr ⟨b,ks,hH,hD,?_,fun H1 s1 l kss' vs' hl hp hs hr=>?_⟩⟩
       ·exact BH rk ek
       ·rw [fA hsh hp hs] at hr
        exact (post.weak List.prefix_rfl (Kp.same s1) po).lnew (rh.same s1) (jO.mpr hr) hl
      ·cases ev
     ·cases ev
    ·exact po.elim
   ·exact po.elim
 ·exact po.elim
end
end L2
set_option Elab.async false
set_option linter.all false
set_option maxRecDepth 100000
namespace L2
open PySem
section
variable {h:PH}
@[simp] theorem Ko {x:PV} {xs:List PV}:kZ x (.tup xs) h=none:=(rfl)
@[simp] theorem Lr {x:PV} {xs:List PV}:kZ x (.fl xs) h=none:=(rfl)
@[simp] theorem J8 {x:PV} {z:Str}:kZ x (.str z) h=none:=(rfl)
@[simp] theorem Kr {i:Int} {y:PV}:kZ (.int i) y h=none:=by cases y <;> rfl
@[simp] theorem Ks {i:Str} {y:PV}:kZ (.str i) y h=none:=by cases y <;> rfl
@[simp] theorem Ls {z:Str} {y:PV}:vAt (.str z) y h=vIx (.str z) y h:=by unfold vAt; simp
@[simp] theorem Lu {x:PV} {i:Int}:vAt x (.int i) h=vIx x (.int i) h:=by unfold vAt; simp
theorem jP {n:Nat} {kvs:List (Key×PV)} (e:h[n]?=some (.dK kvs)):cX (.ref n) h=true:=by unfold cX; simp [e]
theorem uE {n:Nat} {kvs:List (Key×PV)} {x:Str} {z:PV} (e:h[n]?=some (.dK kvs)):wC (.ref n) [.str x,z] h=.ok ((bH kvs (.inr x)).getD z) h:=by
 simp [wC,dG,zJ,e,mT]
theorem FJ {n:Nat} {kvs:List (Key×PV)} {x:Str} {z:PV} (e:h[n]?=some (.dK kvs)) (c:kvs.length < 16777216):oS (.ref n) (.str x) z h=some (h.set n (.dK (dA kvs (.inr x) z))):=by
 simp [oS,e,mT,c]
theorem BI {n:Nat} {kvs:List (Key×PV)} (e:h[n]?=some (.dK kvs)):lC (.ref n) [] h=.ok (.ref h.length) (h++[.vw 0 n]):=by simp [lC,e]
theorem qM {n d:Nat} {kvs:List (Key×PV)} {kss:List (List Key)} (e1:h[n]?=some (.vw 0 d)) (e2:h[d]?=some (.dK kvs)) (ek:kvs.map (fun kv=>PV.tup [kP kv.1,kv.2])=kss.map tP) (h1:kss.length < 64) (h2:jN kss=true):
  cE [.ref n] h=.ok (.ref h.length) (h++[.lst ((aM kss).map tP)]):=by
 have e3:aL h n=none:=by simp [aL,e1]
 have e4:AL h n=some (kvs.map fun kv=>PV.tup [kP kv.1,kv.2]):=by simp [AL,e1,e2]
 simp only [cE,e3,e4,ek,jM]
 rw [if_pos ⟨h1,h2⟩]
theorem uF {n:Nat} {kss:List (List Key)} (e1:h[n]?=some (.lst (kss.map tP))) (h1:kss.length < 64) (h2:jN kss=true):
  cE [.ref n] h=.ok (.ref h.length) (h++[.lst ((aM kss).map tP)]):=by
 have e3:aL h n=some (kss.map tP):=by simp [aL,e1]
 simp only [cE,e3,Dw,jM]
 rw [if_pos ⟨h1,h2⟩]
theorem wD {ps:List PV} {rs:List (Key×PV)} (e:fY ps=some rs):oU [.tup ps] h=.ok (.ref h.length) (h++[.dK (lA [] rs)]):=by simp [oU,e]
end
end L2
set_option Elab.async false
set_option linter.all false
set_option maxRecDepth 100000
namespace L2
open PySem PySem.Spec PyProof.Rows
section
variable {C:MC} {k:Nat} {X:Cx}
end
end L2
set_option Elab.async false
set_option linter.all false
set_option maxRecDepth 100000
namespace L2
open PySem PySem.Spec PyProof.Rows
section
variable {C:MC} {k:Nat} {X:Cx}
def fB (h:PH) (d:Nat):Option (List PV):=match h[d]? with
 | some (.dK kvs)=>some (kvs.map (·.2))
 | some (.dD kvs)=>some (kvs.map (·.2))
 | _=>none
theorem oX {prog:Program} {w:World} {K:Type} [DecidableEq K] {knd:KeyKind prog w K} {es:List DictEntry} {kvs:List (K×Value)} (h:Pairs knd es kvs):es.map (·.val)=kvs.map (·.2):=by
 apply List.ext_getElem?
 intro i
 rw [List.getElem?_map,List.getElem?_map]
 have hl:=h.length
 by_cases hi:i < es.length
 ·have e1:es[i]?=some es[i]:=by simp [hi]
  have hi':i < kvs.length:=by omega
  have e2:kvs[i]?=some (kvs[i].1,kvs[i].2):=by simp [hi']
  rw [e1,e2]
  exact congrArg some (h.get? e1 e2).2
 ·rw [List.getElem?_eq_none (by omega),List.getElem?_eq_none (by omega)]
  rfl
theorem wF {pins:List (Addr×Obj)} {σ:St} {H:Hp} {s:Shared} {φ:List Addr} {h:PH} {d:Nat} {b:Addr} {xs:List PV} (c:Cxt C k X) (I:Inv X pins σ H s) (rh:RH C φ H h) (hb:φ[d]?=some b) (e:fB h d=some xs):
  s.TypeIs (.ref b) "dict" /\ (b == sysModules)=false/\xs.length<=sizeLine/\∃ oc es ep,s.heap.get? b=some oc/\oc.data=.dict es ep/\∃ ws,RVs C φ H xs ws/\aH ws (es.toList.map (·.val)):=by
 unfold fB at e
 split at e
 ·rename_i kvs hk
  cases e
  obtain ⟨ks,hH,rk⟩:=rh.at' d b _ hb hk
  obtain ⟨z,hd,vs,rel,dd⟩:=vG I.hok hH
  refine ⟨dd.typeIs,hd,by rw [List.length_map,Paired.length rk]; exact z,?_⟩
  obtain ⟨oc,es,ep,g1,g2,g3,g4,g5,g6⟩:=dd
  refine ⟨oc,es,ep,g1,g3,ks.map (·.2),?_,?_⟩
  ·unfold RKv at rk
   clear hk hH rel z
   induction rk with
   | nil=>trivial
   | cons q t ih=>exact ⟨q.2,ih⟩
  ·rw [oX g5]
   clear hk hH g4 g5 g6 z
   unfold KV at rel
   clear rk
   induction rel with
   | nil=>exact .nil
   | cons q t ih=>exact .cons q.2 ih
 ·rename_i kvs hk
  cases e
  have ht:aX h d=some kvs:=by unfold aX; rw [hk]
  obtain ⟨⟨ks,ys,r,rx',hz,hm,dd⟩,_⟩:=vZ I c.K c.w rh hb ht
  have hlen:kvs.length=ys.length:=(Paired.length r).trans (Paired.length rx')
  refine ⟨dd.typeIs,hm,by rw [List.length_map,hlen]; exact hz,?_⟩
  obtain ⟨oc,es,ep,g1,g2,g3,g4,g5,g6⟩:=dd
  refine ⟨oc,es,ep,g1,g3,ks.map (·.2.2),?_,?_⟩
  ·unfold RKd at r
   clear hk ht rx' hlen
   induction r with
   | nil=>trivial
   | cons q t ih=>exact ⟨q.2.2.2,ih⟩
  ·rw [g4,List.map_map]
   clear hk ht r hlen hz g4 g5 g6
   induction rx' with
   | nil=>exact .nil
   | cons q t ih=>exact .cons q.2.2 ih
 ·cases e
def wG:PV->List PV->PH->Rs PV:=fun x ps h=>match x,ps with
 | .ref n,[]=>match fB h n with
  | some _=>.ok (.ref h.length) (h++[.vw 1 n])
  | none=>.bad
 | _,_=>.bad
theorem m_values:MtG C k X "dict" cX "dict.values" wG:=fun c=>⟨fun pins s σ H x xs v us Q I rx rs h=>by
 obtain ⟨φ,h,p,ps,rh,rp,rps,po⟩:=h
 unfold wG at po
 split at po
 ·rename_i n
  split at po
  ·rename_i ys ey
   obtain ⟨a,rfl,ha⟩:=rp
   have:xs=[]:=by cases xs <;> first | rfl | exact rps.elim
   subst this
   cases rx
   cases rs
   obtain ⟨hT,hm,_⟩:=wF c I rh ha ey
   refine call_meetsIn PySem.F.slot_dict_values hT PySem.F.entry_dict_values (PySem.F.args_dict_values_1 _) (tJ a hm) ⟨hT,?_⟩
   have fr:H s.heap.objs.size=none:=I.fresh
   refine ⟨.ref s.heap.objs.size,_,I.laid (t':=s.toks) (o:=GA 1 s.heap.objs.size a) (fun b u e=>Heap.get?_push_of_some _ e) (Nat.le_refl _) ?_,rfl,?_⟩
   ·exact ⟨⟨_,Heap.get?_push_size _ rfl,rfl,rfl⟩,⟨_,Heap.get?_push_size _ rfl⟩,fun h1 h2 ⟨o,e,p⟩ k=>⟨o,k o e,p⟩⟩
   ·exact po (φ++[s.heap.objs.size]) (.ref _) _ (List.prefix_append _ _) (Kp.new fr) (rh.new fr ⟨a,dR (List.prefix_append _ _) ha,aJ⟩) ⟨_,rfl,by rw [<- rh.len]; simp⟩
  ·exact po.elim
 ·exact po.elim,oT c⟩
def oY (h:PH) (n:Nat):Option (List PV):=match h[n]? with
 | some (.vw 1 d)=>fB h d
 | _=>none
theorem Dx {es:Array DictEntry} {acc:Array Value} (h:ItemsOf (fun i v=>∃ e,es[i]?=some e/\v=e.val) acc es.size):acc.toList=es.toList.map (·.val):=by
 apply List.ext_getElem?
 intro i
 rw [List.getElem?_map,Array.getElem?_toList,Array.getElem?_toList]
 by_cases hi:i < acc.size
 ·have e1:acc[i]?=some acc[i]:=by simp [hi]
  obtain ⟨e,h1,h2⟩:=h.2 i _ e1
  rw [e1,h1,h2]
  rfl
 ·have hi':¬ i < es.size:=by rw [<- h.1]; exact hi
  rw [Array.getElem?_eq_none (by omega),Array.getElem?_eq_none (by omega)]
  rfl
end
end L2
set_option Elab.async false
set_option linter.all false
set_option maxRecDepth 100000
namespace L2
open PySem PySem.Spec PyProof.Rows
section
variable {C:MC} {k:Nat} {X:Cx}
end
section
variable {h:PH}
theorem AM {n:Nat} (e:h[n]?=some (.dK [])):aX h n=some []:=by simp [aX,e]
theorem AN {n:Nat} {kvs:List (PV×PV)} (e:h[n]?=some (.dD kvs)):aX h n=some kvs:=by simp [aX,e]
end
end L2
set_option Elab.async false
set_option linter.all false
set_option maxRecDepth 100000
namespace L2
open PySem PySem.Spec PyProof.Rows PySem.SeqAt PySem.W
def Mp (l:List Nat):List Int:=l.map (fun (c:Nat)=>(c:Int)+2)++[1]
mutual
def enc:PV->List Int
 | .int i=>[i]
 | .str x=>Mp x.cps.toList
 | .tup xs=>Kt xs
 | _=>[]
def Kt:List PV->List Int
 | []=>[0]
 | x :: xs=>1 :: (enc x++Kt xs)
end
def ltN (x y:PV):Bool:=decide (enc x < enc y)
section
variable {α:Type} (key:α->PV)
def Ku (x:α):List α->List α
 | []=>[x]
 | y :: ys=>if ltN (key y) (key x) then y :: Ku x ys else x :: y :: ys
def GK:List α->List α
 | []=>[]
 | x :: xs=>Ku key x (GK xs)
end
section
variable {prog:Program} {w:World} {A:Around} {E:Value->Shared->Prop} {s:Shared}
def fk:PV->Nat
 | .tup (.int _ :: _)=>0
 | .tup (.str _ :: _)=>1
 | .tup (.tup _ :: _)=>2
 | _=>3
end
structure OkN (m:Nat) (xs:List PV):Prop where
 m3:m < 3
 ky:∀ x∈xs,x.ky 20=true
 fk:∀ x∈xs,fk x=m
 lt:∀ x∈xs,∀ y∈xs,(ltP 20 x y).isSome=true
section
variable {C:MC} {k:Nat} {X:Cx}
end
end L2
set_option Elab.async false
set_option linter.all false
set_option maxRecDepth 100000
namespace L2
open PySem PySem.Spec PyProof.Rows
abbrev KP:=List Key×PV
def mD (x:KP):List KP->List KP
 | []=>[x]
 | y :: ys=>if aV y.1 x.1=true then y :: mD x ys else x :: y :: ys
def dH:List KP->List KP
 | []=>[]
 | x :: xs=>mD x (dH xs)
theorem iQ (x:KP):∀ ys,(mD x ys).Perm (x :: ys)
 | []=>.refl _
 | y :: ys=>by
  unfold mD
  split
  ·exact ((iQ x ys).cons y).trans (.swap x y ys)
  ·exact .refl _
theorem dU:∀ xs,(dH xs).Perm xs
 | []=>.refl _
 | x :: xs=>(iQ x _).trans ((dU xs).cons x)
theorem jQ {S:List Bool} {x:KP} (hx:shape x.1=S):∀ {ys:List KP},(∀ y∈ys,shape y.1=S)->ys.Pairwise (fun a b=>aV b.1 a.1=false)->(mD x ys).Pairwise (fun a b=>aV b.1 a.1=false)
 | [],_,_=>List.pairwise_singleton _ _
 | y :: ys,hs,hp=>by
  have hy:=hs y List.mem_cons_self
  have hs':=fun z hz=>hs z (List.mem_cons_of_mem _ hz)
  rw [List.pairwise_cons] at hp
  unfold mD
  split
  ·rename_i h
   rw [List.pairwise_cons]
   refine ⟨fun z hz=>?_,jQ hx hs' hp.2⟩
   rcases List.mem_cons.mp ((iQ x ys).mem_iff.mp hz) with rfl | hz
   ·exact jE h
   ·exact hp.1 z hz
  ·rename_i h
   have h':aV y.1 x.1=false:=by simpa using h
   rw [List.pairwise_cons]
   refine ⟨fun z hz=>?_,List.pairwise_cons.mpr hp⟩
   rcases List.mem_cons.mp hz with rfl | hz
   ·exact h'
   ·exact gR (hx.trans hy.symm) (hy.trans (hs' z hz).symm) h' (hp.1 z hz)
theorem eC {S:List Bool}:∀ {xs:List KP},(∀ y∈xs,shape y.1=S)->(dH xs).Pairwise (fun a b=>aV b.1 a.1=false)
 | [],_=>.nil
 | x :: xs,hs=>jQ (hs x List.mem_cons_self) (fun y hy=>hs y (List.mem_cons_of_mem _ ((dU xs).mem_iff.mp hy))) (eC fun y hy=>hs y (List.mem_cons_of_mem _ hy))
theorem rZ {α β:Type}:∀ {l:List (α×β)},(l.map (·.1)).Nodup->∀ {a b:α×β},a∈l->b∈l->a.1=b.1->a=b
 | [],_,_,_,h,_,_=>nomatch h
 | x :: l,nd,a,b,ha,hb,e=>by
  rw [List.map_cons,List.nodup_cons] at nd
  rcases List.mem_cons.mp ha with rfl | ha'
  ·rcases List.mem_cons.mp hb with rfl | hb'
   ·rfl
   ·exact (nd.1 (List.mem_map.mpr ⟨b,hb',e.symm⟩)).elim
  ·rcases List.mem_cons.mp hb with rfl | hb'
   ·exact (nd.1 (List.mem_map.mpr ⟨a,ha',e⟩)).elim
   ·exact rZ nd.2 ha' hb' e
theorem oZ {S:List Bool} {xs ys:List KP} (hs:∀ y∈xs,shape y.1=S) (nd:(xs.map (·.1)).Nodup) (hp:ys.Perm xs) (h:ys.Pairwise (fun a b=>aV b.1 a.1=false)):ys=dH xs:=by
 refine List.Perm.eq_of_pairwise (le:=fun a b=>aV b.1 a.1=false) (fun a b ha hb h1 h2=>?_) h (eC hs) (hp.trans (dU xs).symm)
 have ha':=hp.mem_iff.mp ha
 have hb':=(dU xs).mem_iff.mp hb
 exact rZ nd ha' hb' (nY ((hs a ha').trans (hs b hb').symm) h2 h1)
open Classical in
noncomputable def sortBy (b:Bool) (ks ys:List PV):Option (List PV):=match fM ks with
 | some kss=>if kss.length < 64/\kss.length=ys.length/\jN kss=true/\kss.Nodup then some ((PySem.W.katRev b (dH (kss.zip ys))).map (·.2)) else none
 | none=>none
theorem BJ {b:Bool} {kss:List (List Key)} {ys:List PV} (h1:kss.length < 64) (h2:kss.length=ys.length) (h3:jN kss=true) (h4:kss.Nodup):sortBy b (kss.map tP) ys=some ((PySem.W.katRev b (dH (kss.zip ys))).map (·.2)):=by
 unfold sortBy
 rw [jM]
 exact if_pos ⟨h1,h2,h3,h4⟩
noncomputable def dW (f:Fn) (b:Bool) (ys:List PV):List PV->List PV->PH->Rs PV
 | [],ks,h=>match sortBy b ks ys with
  | some zs=>.ok (.ref h.length) (h++[.lst zs])
  | none=>.bad
 | x :: xs,ks,h=>(f [x] h).bind fun k h1=>dW f b ys xs (ks++[k]) h1
def fZ (x:PV) (h:PH):Option (List PV):=match x with
 | .ref n=>match aL h n with
  | some ys=>some ys
  | none=>oY h n
 | .fl ys=>some ys
 | _=>none
noncomputable def iR (f:Fn) (b:Bool) (x:PV) (h:PH):Rs PV:=match fZ x h with
 | some ys=>if ys.length < 64 then dW f b ys ys [] h else .bad
 | none=>.bad
noncomputable def uG (f:Fn) (b:Bool) (me:Me):Me:=fun δ h=>(me δ h).bind fun x h1=>iR f b x h1
section
variable {C:MC} {k:Nat} {X:Cx}
theorem RVs.pick {φ:List Addr} {H:Hp} {xs:List PV} {vs:List V} (r:RVs C φ H xs vs):∀ {p:List Nat},(∀ i∈p,i < xs.length)->RVs C φ H (p.map fun i=>xs.getD i .non) (p.map fun i=>vs.getD i .non)
 | [],_=>trivial
 | i :: p,h=>by
  have hi:=h i List.mem_cons_self
  have g:xs[i]?=some (xs.getD i .non):=by simp [hi]
  obtain ⟨v,hv,hr⟩:=r.at g
  have e:vs.getD i .non=v:=by simp [List.getD_eq_getElem?_getD,hv]
  refine ⟨?_,RVs.pick r fun j hj=>h j (List.mem_cons_of_mem _ hj)⟩
  show RV C φ H (xs.getD i .non) (vs.getD i .non)
  rw [e]
  exact hr
theorem Dy {pins:List (Addr×Obj)} {σ:St} {H:Hp} {s:Shared} (I:Inv X pins σ H s) {a:Addr} (ha:s.heap.objs.size<=a):X.s₀.heap.objs.size<=a/\a≠X.env.locals/\(∀ x c,X.env.cells.lookup x=some c->c≠a)/\(∀ p∈X.pn++pins,p.1≠a)/\a∉X.fs:=by
 refine ⟨Nat.le_trans I.sz ha,Nat.ne_of_gt (Nat.lt_of_lt_of_le I.lt ha),fun x c e z=>?_,fun p hp z=>?_,I.nofs ha⟩
 ·obtain ⟨v,o,ho,_⟩:=I.cell x c e
  rw [z] at ho
  exact absurd (Nat.lt_of_lt_of_le (Heap.lt_size ho) ha) (Nat.lt_irrefl _)
 ·have ho:=(I.pin p hp).1
  rw [z] at ho
  exact absurd (Nat.lt_of_lt_of_le (Heap.lt_size ho) ha) (Nat.lt_irrefl _)
theorem gB {its:Array Value} {e:Nat}:∀ v,(seqObj "list" its e).data≠.cell v:=fun v z=>nomatch z
theorem Inv.adopt {pins:List (Addr×Obj)} {σ:St} {H:Hp} {s:Shared} {a d:Addr} {o:HO} {h':Heap} (I:Inv X pins σ H s) (ha:H a=none) (hd:H d=none)
  (fa:X.s₀.heap.objs.size<=a/\a≠X.env.locals/\(∀ x c,X.env.cells.lookup x=some c->c≠a)/\(∀ p∈X.pn++pins,p.1≠a)/\a∉X.fs) (fd:X.s₀.heap.objs.size<=d/\d≠X.env.locals/\(∀ x c,X.env.cells.lookup x=some c->c≠d)/\(∀ p∈X.pn++pins,p.1≠d)/\d∉X.fs)
  (kp:∀ x u,x≠a->x≠d->s.heap.get? x=some u->h'.get? x=some u) (new:bK X.prog X.w (upd H a o) h' a o):Inv X pins σ (upd H a o) { s with heap:=h' }:=by
 have na:∀ x u,H x=some u->x≠a:=fun x u e z=>by rw [z,ha] at e; cases e
 have nd:∀ x u,H x=some u->x≠d:=fun x u e z=>by rw [z,hd] at e; cases e
 refine I.call' (s':={ s with heap:=h' }) (ch:=[a,d]) rfl ⟨fun b u q n _ hx=>?_,fun b u q n _ hx=>⟨u.slots,?_⟩,fun b u q n hx=>?_,fun b u q hx=>⟨u,?_⟩,fun b xs q=>?_,fun b u xs q=>?_,fun b ps q=>⟨#[],?_⟩⟩ (fun b u e=>?_) I.bare fun b hb=>?_
 ·exact kp b u (fun z=>hx (by simp [z])) (fun z=>hx (by simp [z])) q
 ·exact kp b u (fun z=>hx (by simp [z])) (fun z=>hx (by simp [z])) q
 ·rw [aE (fun z=>hx (by simp [z]))]; exact n
 ·exact kp b u (fun z=>hx (by simp [z])) (fun z=>hx (by simp [z])) q
 ·rw [aE (na _ _ q)]; exact q
 ·rw [aE (na _ _ q)]; exact q
 ·rw [aE (na _ _ q),q]; simp
 ·by_cases hb:b=a
  ·subst hb; rw [aJ] at e; cases e; exact new
  ·rw [aE hb] at e
   refine (I.hok b u e).stay (fun c v hc q=>kp c v ?_ ?_ q) (fun c q=>by rw [aE (na _ _ q)]; exact q) fun c xs q=>by rw [aE (na _ _ q)]; exact q
   ·rcases hc with z | z
    ·rw [z]; exact hb
    ·exact na _ _ z
   ·rcases hc with z | z
    ·rw [z]; exact nd _ _ e
    ·exact nd _ _ z
 ·rcases List.mem_cons.mp hb with rfl | hb
  ·exact ⟨.inr fa.1,fa.2.1,fa.2.2.1,fa.2.2.2.1⟩
  ·rw [List.mem_singleton.mp hb]
   exact ⟨.inr fd.1,fd.2.1,fd.2.2.1,fd.2.2.2.1⟩
def Ip (C:MC) (X:Cx) (pins:List (Addr×Obj)) (σ:St) (φ:List Addr) (H:Hp) (f:Fn) (b:Bool) (ys:List PV) (Q:VK) (a z:Addr) (kS:Addr) (e1:Nat) (ks:List Value) (e:Nat) (s':Shared):Prop:=
 z < kS/\∃ H' φ' h' zs ps,Inv X (pins++[(kS,seqObj "list" ks.toArray e),(a,seqObj "list" #[] e1)]) σ H' s'/\φ<+:φ'/\Kp H H'/\RH C φ' H' h'/\aH zs ks/\RVs C φ' H' ps zs/\post C φ' H' (dW f b ys (ys.drop ks.length) ps h') Q
section
variable {x:Str} {st:Stmt} {q:Addr} {fd:FuncData} {pn:List Str} {j:Nat} {f:Fn}
theorem Dz {pins:List (Addr×Obj)} {σ:St} {φ:List Addr} {H:Hp} {b:Bool} {ys:List PV} {us:List V} {its:List Value} {Q:VK} {a:Addr} (c:Cxt C k X) (D:Def C.K X.mg x st q fd pn) (G:aZ X.prog X.w C.K X.mg X.base CX0 j q fd pn (spM C 1 f)) (hj:j+2<=k)
  (ry:RVs C φ H ys us) (rv:aH us its) {A':Around} (eA:A'=X.A.in1.in1) (fr:∀ kS,a<=kS->X.s₀.heap.objs.size<=kS/\kS≠X.env.locals/\(∀ x c,X.env.cells.lookup x=some c->c≠kS)/\(∀ p∈X.pn++pins,p.1≠kS)/\kS∉X.fs)
  (kS:Addr) (e1:Nat) (ks:List Value) (e:Nat) (s':Shared) (y:Value) (hy:its[ks.length]?=some y) (hJ:Ip C X pins σ φ H f b ys Q a a kS e1 ks e s'):
  wpAny (model X.prog X.w) A' (call (.ref q) [y]) (fun v s''=>s''.heap.get? kS=some (seqObj "list" ks.toArray e)/\∀ (h':Heap) e',Heap.SameBut kS s''.heap h'->h'.get? kS=some (seqObj "list" (ks++[v]).toArray e')->Ip C X pins σ φ H f b ys Q a a kS e1 (ks++[v]) e' { s'' with heap:=h' }) (fun _ _=>False) s':=by
 subst eA
 obtain ⟨hz,H',φ',h',zs,ps,I,pp,tt,rh,rz,rp,po⟩:=hJ
 have hlt:ks.length < its.length:=(List.getElem?_eq_some_iff.mp hy).1
 have hlu:us.length=its.length:=rv.length
 have hly:ys.length=us.length:=ry.length
 have gy:ys[ks.length]?=some (ys[ks.length]'(by omega)):=by simp
 obtain ⟨u,hu,ru⟩:=ry.at gy
 obtain ⟨y',hy',ryv⟩:=rv.get hu
 rw [hy] at hy'
 cases hy'
 have hd:ys.drop ks.length=ys[ks.length]'(by omega) :: ys.drop (ks.length+1):=drop_cons gy
 rw [hd] at po
 have e1':=c.K
 have G':aZ X.prog X.w X.K X.mg X.base CX0 j q fd pn (spM C 1 f):=by rw [e1']; exact G
 have D':Def X.K X.mg x st q fd pn:=by rw [e1']; exact D
 have sp1:spM C 1 f [u] H' (fun v H2=>∃ φ2 p h2,φ'<+:φ2/\Kp H' H2/\RH C φ2 H2 h2/\RV C φ2 H2 p v/\post C φ2 H2 (dW f b ys (ys.drop (ks.length+1)) (ps++[p]) h2) Q) E0:=
  ⟨φ',h',[ys[ks.length]'(by omega)],rh,⟨ru.mono pp tt,trivial⟩,rfl,post.bind po⟩
 have hl:([y]:List Value).length=pn.length:=G'.len _ _ _ _ sp1
 refine wpAny_call (codeAny_mono (G'.run X.A.in1.in1 X.stack s' H' ⟨[y],[]⟩ [y] [u] _ E0 ((c.room.mono hj).in1.in1) I.env0.in1.in1 (by
  have:=D'.bd s' [y] I.kIn (by simpa using hl)
  simpa using this) (.cons ryv .nil) sp1) fun r s2 hq=>?_)
 cases r with
 | error e=>exact hq.elim
 | ok fl=>
  cases fl with
  | next=>exact False.elim hq
  | brk=>exact False.elim hq
  | cont=>exact False.elim hq
  | ret v=>
   obtain ⟨x2,H2,I2,rx2,φ2,p2,h2,pp2,tt2,rh2,rp2,po2⟩:=I.after hq
   have gk:=I2.pin (kS,seqObj "list" ks.toArray e) (List.mem_append_right _ (List.mem_append_right _ List.mem_cons_self))
   have ga:=I2.pin (a,seqObj "list" #[] e1) (List.mem_append_right _ (List.mem_append_right _ (List.mem_cons_of_mem _ List.mem_cons_self)))
   refine ⟨gk.1,fun g e' sb he'=>?_⟩
   have fk:=fr kS (Nat.le_of_lt hz)
   have nak:a≠kS:=Nat.ne_of_lt hz
   have I3:Inv X (pins++[(a,seqObj "list" #[] e1)]) σ H2 s2:=I2.pins_of fun p hp=>(List.mem_append.mp hp).elim (fun z=>I2.pin p (List.mem_append_right _ (List.mem_append_left _ z))) fun z=>by
    rw [List.mem_singleton.mp z]; exact ga
   have I4:=I3.turned (t':=s2.toks) (it:=kS) (h':=g) (fun b' o' hb hq=>(sb.2 b' hb).trans hq) gk.2.1 fk.2.1 (.inr fk.1) fk.2.2.1 (fun p hp=>by
    rcases List.mem_append.mp hp with hp | hp
    ·exact fk.2.2.2.1 p (List.mem_append_left _ hp)
    ·rcases List.mem_append.mp hp with hp | hp
     ·exact fk.2.2.2.1 p (List.mem_append_right _ hp)
     ·rw [List.mem_singleton.mp hp]; exact nak)
   refine ⟨hz,H2,φ2,h2,zs++[x2],ps++[p2],I4.pins_of fun p hp=>?_,pp.trans pp2,tt.trans tt2,rh2,rz.append (.cons rx2 .nil),(rp.mono pp2 tt2).snoc rp2,?_⟩
   ·rcases List.mem_append.mp hp with hp | hp
    ·exact I4.pin p (List.mem_append_right _ (List.mem_append_left _ hp))
    ·rcases List.mem_cons.mp hp with rfl | hp
     ·exact ⟨he',gk.2.1,fk.2.1,fk.2.2.2.2,gB⟩
     ·rw [List.mem_singleton.mp hp]
      exact I4.pin _ (List.mem_append_right _ (List.mem_append_right _ List.mem_cons_self))
   ·rw [List.length_append]
    exact po2
theorem wH {b:Bool} {kss:List (List Key)} {ys:List PV} {S:List Bool} (hl:kss.length=ys.length) (hs:∀ y∈kss,shape y=S) (nd:kss.Nodup) {p:List Nat} (hp:p.Perm (List.range ys.length))
  (ho:p.Pairwise (fun i j=>(if b then aV (kss.getD i []) (kss.getD j []) else aV (kss.getD j []) (kss.getD i []))=false)):p.map (fun i=>ys.getD i .non)=(PySem.W.katRev b (dH (kss.zip ys))).map (·.2):=by
 let zs:=kss.zip ys
 have hzl:zs.length=ys.length:=by show (kss.zip ys).length=_; simp [hl]
 have hin:∀ i∈p,i < ys.length:=fun i hi=>by simpa using hp.mem_iff.mp hi
 have eg:∀ i,i < ys.length->zs.getD i ([],.non)=(kss.getD i [],ys.getD i .non):=fun i hi=>by
  have h1:i < kss.length:=by omega
  have h2:i < zs.length:=by omega
  have h3:(kss.zip ys)[i]?=some (kss[i],ys[i]):=by
   rw [List.getElem?_zip_eq_some]
   exact ⟨by simp [h1],by simp [hi]⟩
  show (kss.zip ys).getD i _=_
  simp [h1,hi,h3]
 have hpz:(p.map fun i=>zs.getD i ([],.non)).Perm zs:=rN (by rw [hzl]; exact hp)
 have hm:zs.map (·.1)=kss:=by
  show (kss.zip ys).map Prod.fst=kss
  exact List.map_fst_zip (by omega)
 have hsz:∀ y∈zs,shape y.1=S:=fun y hy=>hs _ (by rw [<- hm]; exact List.mem_map.mpr ⟨y,hy,rfl⟩)
 have e2:p.map (fun i=>ys.getD i .non)=(p.map fun i=>zs.getD i ([],.non)).map (·.2):=by
  rw [List.map_map]
  exact List.map_congr_left fun i hi=>by show _=(zs.getD i _).2; rw [eg i (hin i hi)]
 rw [e2]
 have key:∀ (R:Nat->Nat->Bool),p.Pairwise (fun i j=>R i j=false)->(∀ i j,i < ys.length->j < ys.length->R i j=aV (zs.getD j ([],.non)).1 (zs.getD i ([],.non)).1)->(p.map fun i=>zs.getD i ([],.non)).Pairwise (fun x y=>aV y.1 x.1=false):=fun R h1 h2=>by
  rw [List.pairwise_map]
  exact h1.imp_of_mem fun {i j} hi hj h=>by rw [<- h2 i j (hin i hi) (hin j hj)]; exact h
 cases b with
 | false=>
  congr 1
  refine oZ hsz (by rw [hm]; exact nd) hpz (key (fun i j=>aV (kss.getD j []) (kss.getD i [])) ho fun i j hi hj=>by rw [eg i hi,eg j hj])
 | true=>
  congr 1
  have hr:(p.map fun i=>zs.getD i ([],.non)).reverse=dH zs:=by
   refine oZ hsz (by rw [hm]; exact nd) ((List.reverse_perm _).trans hpz) ?_
   rw [List.pairwise_reverse,List.pairwise_map]
   exact ho.imp_of_mem fun {i j} hi hj h=>by
    rw [eg i (hin i hi),eg j (hin j hj)]
    exact h
  show _=(dH zs).reverse
  rw [<- hr,List.reverse_reverse]
theorem zT {b:Bool} {kw:List (Str×Value)} (c:Cxt C k X) (D:Def C.K X.mg x st q fd pn) (G:aZ X.prog X.w C.K X.mg X.base CX0 j q fd pn (spM C 1 f)) (hj:j+2<=k)
  (ha1:∀ v,argsOk "sorted" ⟨[v],kw⟩) (ha2:∀ v,argsOk "list.sort" ⟨[.ref v],kw⟩) (ht:∀ v,Builtin.«list.sort» ⟨[.ref v],kw⟩=ksk_tree v (.ref q) b)
  {pins:List (Addr×Obj)} {s:Shared} {σ:St} {H:Hp} {Q:VK} {v:V} {u:Value} (I:Inv X pins σ H s) (ru:RelV v u) (h:r1 C (iR f b) v H Q):
  wpAny (model X.prog X.w) X.A (call (.builtin "sorted") [u] kw) (EP X pins σ Q) X.xe s:=by
 obtain ⟨φ,h,p,rh,rp,po⟩:=h
 unfold iR at po
 cases ei:fZ p h with
 | none=>rw [ei] at po; exact po.elim
 | some ys=>
 rw [ei] at po
 obtain ⟨h64,po⟩:=po.ite
 refine call_function_entry_kw kind_sorted plain_sorted entry_sorted (ha1 u) ?_
 unfold Builtin.«sorted»
 refine wpAny_bind (m:=checkCount "sorted" 1 1 _) (wpAny_pure ?_)
 have col:wpAny (model X.prog X.w) X.A.in1 (collect u) (fun its s1=>∃ us,Inv X pins σ H s1/\aH us its/\RVs C φ H ys us) X.xe s:=by
  have lcase:∀ {a:Addr} {vs:List V},v=.ref a->SqL C.K H a vs->RVs C φ H ys vs->wpAny (model X.prog X.w) X.A.in1 (collect u) (fun its s1=>∃ us,Inv X pins σ H s1/\aH us its/\RVs C φ H ys us) X.xe s:=fun {a vs} ev sa ra=>by
   subst ev
   cases ru
   have sa':SqL X.K H a vs:=by rw [c.K]; exact sa
   obtain ⟨its,rv,pl,hz⟩:=I.list sa'
   refine collect_list pl.isList ?_ (by have:=rv.length; have:=ra.length; rw [sizeLine_eq]; omega)
   exact ⟨vs,I.kept (t':=s.toks) fun b o e=>by
    have hlt:b < s.heap.objs.size:=Heap.lt_size e
    first
     | (rw [Heap.get?_update_ne _ _ _ _ (Nat.ne_of_lt hlt),Heap.get?_push_ne _ _ _ (Nat.ne_of_lt hlt)]; exact e)
     | exact Heap.get?_push_of_some _ e,rv,ra⟩
  unfold fZ at ei
  split at ei
  ·rename_i n
   split at ei
   ·rename_i ys' e
    cases ei
    obtain ⟨a,ev,ha⟩:=rp
    obtain ⟨a2,vs,ha2,sa,ra⟩:=bL rh e
    rw [ha] at ha2; cases ha2
    exact lcase ev sa ra
   ·unfold oY at ei
    split at ei
    ·rename_i d hv
     obtain ⟨a,ev,ha⟩:=rp
     subst ev
     cases ru
     obtain ⟨bb,hb,hH⟩:=rh.at' n a _ ha hv
     obtain ⟨hT,hm,hz,oc,es,ep,g1,g2,ws,r1,r2⟩:=wF c I rh hb ei
     have hvv:s.heap.IsValuesView a bb:=(I.hok a _ hH).1
     have hn:es.size<=sizeLine:=by
      have e1:=r1.length
      have e2:ws.length=es.size:=by have:=r2.length; simpa using this
      rw [<- e2,<- e1]; exact hz
     refine PySem.W.kdu_collect (CP (r:=a) g2) (I.ok.hd c.calm) ⟨hvv,g1⟩ hn fun h' tk acc hk hacc=>?_
     exact ⟨ws,I.kept (t':=tk) hk,by rw [Dx hacc]; exact r2,r1⟩
    ·cases ei
  ·cases ei
   obtain ⟨a,vs,ev,sa,ra⟩:=rp
   exact lcase ev sa.sq ra
  ·cases ei
 refine wpAny_bind (wpAny_mono col (fun its s1 hh=>?_) fun _ _ z=>z)
 obtain ⟨us,I1,rv,ry⟩:=hh
 have hlu:us.length=its.length:=rv.length
 have hly:ys.length=us.length:=ry.length
 refine wpAny_bind (wpAny_newList ?_ (by rw [sizeLine_eq]; omega))
 have hoL:(s1.heap.push (seqObj "list" its.toArray 0)).get? s1.heap.objs.size=some (seqObj "list" its.toArray 0):=Heap.get?_push_size _ rfl
 have keep:∀ b o,s1.heap.get? b=some o->b≠s1.heap.objs.size/\(s1.heap.push (seqObj "list" its.toArray 0)).get? b=some o:=fun b o q=>⟨Nat.ne_of_lt (Heap.lt_size q),Heap.get?_push_of_some _ q⟩
 have fr:∀ kS,s1.heap.objs.size<=kS->X.s₀.heap.objs.size<=kS/\kS≠X.env.locals/\(∀ x c,X.env.cells.lookup x=some c->c≠kS)/\(∀ p∈X.pn++pins,p.1≠kS)/\kS∉X.fs:=fun kS hk=>Dy I1 hk
 show wpAny _ _ _ _ _ { s1 with heap:=s1.heap.push (seqObj "list" its.toArray 0) }
 refine wpAny_bind (wpAny_holding (wpAny_call_entry_kw slot_list_sort ⟨_,hoL,rfl⟩ entry_list_sort ?body (ha2 _)))
 case body=>
  show wpAny (model X.prog X.w) X.A.in1.in1 (Builtin.«list.sort» ⟨[.ref s1.heap.objs.size],kw⟩) _ _ _
  rw [ht s1.heap.objs.size]
  refine zG (s:={ s1 with heap:=s1.heap.push (seqObj "list" its.toArray 0) }) (a:=s1.heap.objs.size) (κ:=tuples' true) (vs:=its) hoL (by omega) (Ip C X pins σ φ H f b ys Q s1.heap.objs.size s1.heap.objs.size) ?h0 ?hget ?turn ?fin
  case h0=>
   intro kS e1 h' kp hk g1 g2
   have hk':s1.heap.objs.size < kS:=by
    have:(s1.heap.push (seqObj "list" its.toArray 0)).objs.size<=kS:=hk
    rw [Heap.size_push] at this
    exact this
   have I2:Inv X pins σ H { s1 with heap:=h' }:=I1.kept (t':=s1.toks) fun b o q=>kp b o (keep b o q).1 (keep b o q).2
   have fk:=fr kS (Nat.le_of_lt hk')
   have fa:=fr s1.heap.objs.size (Nat.le_refl _)
   refine ⟨hk',H,φ,h,[],[],I2.pins_of fun p hp=>?_,List.prefix_rfl,Kp.refl H,rh,.nil,trivial,po⟩
   rcases List.mem_append.mp hp with hp | hp
   ·exact I2.pin p (List.mem_append_right _ hp)
   ·rcases List.mem_cons.mp hp with rfl | hp
    ·exact ⟨g2,I1.hok.fresh (Nat.le_of_lt hk'),fk.2.1,fk.2.2.2.2,gB⟩
    ·rw [List.mem_singleton.mp hp]
     exact ⟨g1,I1.hok.fresh (Nat.le_refl _),fa.2.1,fa.2.2.2.2,gB⟩
  case hget=>
   rintro kS e1 ks e s' ⟨hz,H',φ',h',zs,ps,I',_⟩
   exact ⟨Nat.ne_of_gt hz,(I'.pin (s1.heap.objs.size,seqObj "list" #[] e1) (List.mem_append_right _ (List.mem_append_right _ (List.mem_cons_of_mem _ List.mem_cons_self)))).1,(I'.pin (kS,seqObj "list" ks.toArray e) (List.mem_append_right _ (List.mem_append_right _ List.mem_cons_self))).1⟩
  case turn=>
   intro kS e1 ks e s' y hy hJ
   exact Dz c D G hj ry rv rfl fr kS e1 ks e s' y hy hJ
  case fin=>
   rintro kS e1 ks e s' hl ⟨hz,H',φ',h',zs,ps,I',pp,tt,rh',rz,rp',po'⟩
   have hd:ys.drop ks.length=[]:=List.drop_eq_nil_of_le (by omega)
   rw [hd] at po'
   unfold dW at po'
   cases es:sortBy b ps ys with
   | none=>rw [es] at po'; exact po'.elim
   | some out=>
   rw [es] at po'
   unfold sortBy at es
   split at es
   ·rename_i kss ek
    split at es
    ·rename_i hc
     obtain ⟨hc1,hc2,hc3,hc4⟩:=hc
     cases es
     have ep:=oV ek
     subst ep
     obtain ⟨bb,sh,hsh⟩:=iP hc3
     have rr:bW X.K H' (kss.map tD) zs:=by rw [c.K]; exact jO.mp rp'
     have tk:=iL I' rr rz
     have shOf:∀ i,i < its.length->shape (kss.getD i [])=bb :: sh:=fun i hi=>by
      have hi':i < kss.length:=by omega
      have:kss.getD i []=kss[i]:=by simp [hi']
      rw [this]
      exact hsh _ (List.getElem_mem hi')
     refine ⟨fun i j=>aV (kss.getD i []) (kss.getD j []),fun i j k hi hj hk h1 h2=>?_,fun i j _ _ h=>jE h,fun h2 Q' E' hq=>?_,fun i j hi hj Q' hq=>?_,fun p g e2 a1 a2 kp he gk=>?_⟩
     ·exact gR ((shOf i hi).trans (shOf j hj).symm) ((shOf j hj).trans (shOf k hk).symm) h1 h2
     ·exact rK tk hsh (by omega) hq
     ·obtain ⟨a,ua,q1,p1,r1⟩:=tk.get (i:=i) (by omega)
      obtain ⟨d,ud,q2,p2,r2⟩:=tk.get (i:=j) (by omega)
      rw [q1,q2]
      exact oD p1 p2 r1 r2 ((shOf i hi).trans (shOf j hj).symm) hq
     ·have hin:∀ i∈p,i < its.length:=fun i hi=>by simpa using a1.mem_iff.mp hi
      have fa:=fr s1.heap.objs.size (Nat.le_refl _)
      have fk:=fr kS (Nat.le_of_lt hz)
      have gka:=I'.pin (kS,seqObj "list" ks.toArray e) (List.mem_append_right _ (List.mem_append_right _ List.mem_cons_self))
      have gaa:=I'.pin (s1.heap.objs.size,seqObj "list" #[] e1) (List.mem_append_right _ (List.mem_append_right _ (List.mem_cons_of_mem _ List.mem_cons_self)))
      have I5:Inv X pins σ H' s':=I'.unpinned
      have I6:=I5.adopt (a:=s1.heap.objs.size) (d:=kS) (o:=.lst (p.map fun i=>us.getD i .non)) (h':=g) gaa.2.1 gka.2.1 fa fk (fun x o h1 h2 q=>kp x o h1 h2 q) (by
       refine ⟨?_,p.map (fun i=>its.getD i Value.none),e2,kQ rv (fun i hi=>by have:=hin i hi; omega),he⟩
       rw [List.length_map,a1.length_eq,List.length_range,sizeLine_eq]
       omega)
      refine ⟨_,rfl,wpAny_pure ⟨_,rfl,.ref s1.heap.objs.size,_,I6,rfl,?_⟩⟩
      refine po'.lnew rh' ?_ gaa.2.1
      rw [<- wH (b:=b) hc2 hsh hc4 (p:=p) (by rw [hly,hlu]; exact a1) a2]
      exact (ry.mono pp tt).pick (fun i hi=>by have:=hin i hi; omega)
    ·cases es
   ·cases es
end
section
variable {kf:Str} {st:Stmt} {q:Addr} {fd:FuncData} {pn:List Str} {j jb:Nat} {f:Fn} {e:Expr} {me:Me} {p pos kp kpos rp rpos:Pos}
theorem DA {Q:VK} {b:Bool} {σ:St} {H:Hp} (h:rd C (uG f b me) σ H Q):Gu (rd C me) Jr σ H fun vs H1=>∃ x,vs=[x]/\r1 C (iR f b) x H1 Q:=by
 obtain ⟨φ,δ,h,rh,re,po⟩:=h
 refine ⟨φ,δ,h,rh,re,(post.bind po).imp ?_⟩
 rintro v H1 ⟨φ1,x,h1,p1,t1,rh1,rv1,q1⟩
 exact ⟨v,rfl,φ1,h1,x,rh1,rv1,q1⟩
theorem FK (D:Def C.K X.mg kf st q fd pn) (G:aZ X.prog X.w C.K X.mg X.base CX0 j q fd pn (spM C 1 f)) (he:SE C k X e me) (hb:("sorted" : Str)∈C.bs) (hj:j+2<=k:=by decide) (hg:Gl X "sorted" := by rfl) (hgk:Gl X kf:=by rfl) (hdk:(kf == ("__debug__" : Str))=false:=by decide)
  (hst:starEach [e] X.env=(false,eval e X.env) :: starEach [] X.env:=by rfl) (hbk:backTo pos (starEach [e] X.env)=(false,eval e X.env) :: backTo pos (starEach [] X.env):=by rfl) (hpl:(backTo pos (starEach [e] X.env)).any (·.1)=false:=by rfl):
  SE C k X (.Call (.Name "sorted" p) [e] [⟨some "key",.Name kf kp,kpos⟩] pos) (uG f false me):=fun c pins s σ H Q I h=>by
 refine wpAny_Call_Name_kw (kI I hg (c.bn _ hb) PyProof.Rows.Boot.«sorted» ?_ (by decide) (by decide))
 refine callWith_kw (thn (Ap (he c) Cu hst pos pins s σ H _ I (DA h)) fun us s1 hh=>?_) hbk hpl
 obtain ⟨vs,H1,I1,rv,x,rfl,r⟩:=hh
 obtain ⟨u,rfl,ru⟩:=vals1 rv
 refine kws_cons (An I1 hgk D.mg (kws_nil ?_) hdk)
 show wpAny _ _ (call (.builtin "sorted") [u] [(Str.ofString "key",.ref q)]) _ _ _
 exact zT c D G hj (fun v=>ksk_s1 _ _) (fun v=>ksk_l1 _ _) (fun v=>ksk_t1 _ _) I1 ru r
end
end
end L2
set_option Elab.async false
set_option linter.all false
set_option maxRecDepth 100000
namespace L2
open PySem
section
variable {α:Type} (key:α->List Key)
def BK (x:α):List α->List α
 | []=>[x]
 | y :: ys=>if aV (key y) (key x)=true then y :: BK x ys else x :: y :: ys
def gC:List α->List α
 | []=>[]
 | x :: xs=>BK key x (gC xs)
variable {key}
theorem sA (x:α):∀ ys,(BK key x ys).Perm (x :: ys)
 | []=>.refl _
 | y :: ys=>by
  unfold BK
  split
  ·exact ((sA x ys).cons y).trans (.swap x y ys)
  ·exact .refl _
theorem iS:∀ xs,(gC key xs).Perm xs
 | []=>.refl _
 | x :: xs=>(sA x _).trans ((iS xs).cons x)
theorem wI (f:α->PV) (x:α):∀ ys:List α,mD (key x,f x) (ys.map fun y=>(key y,f y))=(BK key x ys).map fun y=>(key y,f y)
 | []=>rfl
 | y :: ys=>by
  rw [List.map_cons]
  unfold mD BK
  dsimp only
  split
  ·rw [wI f x ys]; rfl
  ·rfl
theorem lE (f:α->PV):∀ xs:List α,dH (xs.map fun y=>(key y,f y))=(gC key xs).map fun y=>(key y,f y)
 | []=>rfl
 | x :: xs=>by
  rw [List.map_cons]
  unfold dH gC
  rw [lE f xs,wI]
theorem uH {S:List Bool} (f:α->PV) {xs:List α} (hs:∀ x∈xs,shape (key x)=S):(gC key xs).Pairwise (fun a b=>aV (key b) (key a)=false):=by
 have h:=eC (S:=S) (xs:=xs.map fun y=>(key y,f y)) (fun y hy=>by
  obtain ⟨x,hx,rfl⟩:=List.mem_map.mp hy
  exact hs x hx)
 rw [lE,List.pairwise_map] at h
 exact h
theorem wJ {β γ:Type} (f:α->β) (g:α->γ):∀ xs:List α,(xs.map f).zip (xs.map g)=xs.map fun x=>(f x,g x)
 | []=>rfl
 | x :: xs=>by simp [wJ f g xs]
theorem DB {b:Bool} {f:α->PV} {xs:List α} (h1:xs.length < 64) (h3:jN (xs.map key)=true) (h4:(xs.map key).Nodup):sortBy b ((xs.map key).map tP) (xs.map f)=some ((PySem.W.katRev b (gC key xs)).map f):=by
 rw [BJ (by simpa using h1) (by simp) h3 h4,wJ,lE]
 cases b with
 | false=>
  show some (((gC key xs).map fun y=>(key y,f y)).map Prod.snd)=some ((gC key xs).map f)
  rw [List.map_map]; rfl
 | true=>
  show some ((((gC key xs).map fun y=>(key y,f y)).reverse).map Prod.snd)=some ((gC key xs).reverse.map f)
  rw [<- List.map_reverse,List.map_map]; rfl
theorem DC {f:Fn} {b:Bool} {emb:α->PV} {ys zs:List PV} {Q:PV->PH->Prop}:∀ (r done:List α) (h:PH),(∀ d∈r,∀ h (Q:PV->PH->Prop),(∀ h',Ext h h'->Q (tP (key d)) h')->(f [emb d] h).W Q)->
  sortBy b (((done++r).map key).map tP) ys=some zs->(∀ h',Ext h h'->Q (.ref h'.length) (h'++[.lst zs]))->(dW f b ys (r.map emb) ((done.map key).map tP) h).W Q
 | [],done,h,_,hs,k=>by
  rw [List.append_nil] at hs
  simp only [List.map_nil,dW,hs,eZ]
  exact k h (Ext.refl h)
 | x :: r,done,h,hf,hs,k=>by
  rw [List.map_cons]
  unfold dW
  rw [zL]
  refine hf x List.mem_cons_self h _ fun h1 x1=>?_
  have e:(done.map key).map tP++[tP (key x)]=((done++[x]).map key).map tP:=by simp
  rw [e]
  exact DC r (done++[x]) h1 (fun d hd=>hf d (List.mem_cons_of_mem _ hd)) (by rw [List.append_assoc]; exact hs) fun h' x2=>k h' (x1.trans x2)
theorem FL {f:Fn} {b:Bool} {emb:α->PV} {xs:List α} {x:PV} {h:PH} {Q:PV->PH->Prop} {S:List Bool} (e:fZ x h=some (xs.map emb)) (h1:xs.length < 64) (h3:jN (xs.map key)=true) (hs:∀ x∈xs,shape (key x)=S) (h4:(xs.map key).Nodup)
  (hf:∀ d∈xs,∀ h (Q:PV->PH->Prop),(∀ h',Ext h h'->Q (tP (key d)) h')->(f [emb d] h).W Q)
  (k:∀ (os:List α) h',Ext h h'->os.Perm xs->os.Pairwise (fun p q=>(if b then aV (key p) (key q) else aV (key q) (key p))=false)->Q (.ref h'.length) (h'++[.lst (os.map emb)])):(iR f b x h).W Q:=by
 unfold iR
 rw [e]
 dsimp only
 rw [if_pos (by simpa using h1)]
 refine DC (key:=key) xs [] h hf (DB h1 h3 h4) fun h' hx=>k _ h' hx ?_ ?_
 ·cases b with
  | false=>exact iS xs
  | true=>exact (List.reverse_perm _).trans (iS xs)
 ·have hp:=uH emb hs
  cases b with
  | false=>exact hp
  | true=>
   show ((gC key xs).reverse).Pairwise _
   rw [List.pairwise_reverse]
   exact hp
end
section
variable {δ:Ev} {h:PH} {m:Me}
@[simp] theorem J9 {f:Fn} {b:Bool}:uG f b m δ h=(m δ h).bind fun x h1=>iR f b x h1:=(rfl)
theorem sC {n:Nat} {kvs:List (PV×PV)} (e:aX h n=some kvs):fB h n=some (kvs.map (·.2)):=by
 unfold aX at e
 split at e
 ·rename_i q; cases e; simp [fB,q]
 ·rename_i q; cases e; simp [fB,q]
 ·cases e
theorem pA {n:Nat} {kvs:List (PV×PV)} (e:aX h n=some kvs):∃ o,h[n]?=some o/\cX (.ref n) h=true/\∀ h',h'[n]?=some o->aX h' n=some kvs:=by
 unfold aX at e
 split at e
 ·rename_i q; cases e; exact ⟨_,q,by simp [cX,q],fun h' e=>by simp [aX,e]⟩
 ·rename_i q; cases e; exact ⟨_,q,by simp [cX,q],fun h' e=>by simp [aX,e]⟩
 ·cases e
theorem jR {h':PH} {n:Nat} {kvs:List (PV×PV)} (x:Ext h h') (e:aX h n=some kvs):aX h' n=some kvs:=by
 obtain ⟨o,g,_,k⟩:=pA e
 exact k h' (x _ _ g)
theorem wK {n d:Nat} {kvs:List (PV×PV)} (e:h[n]?=some (.vw 1 d)) (e2:aX h d=some kvs):fZ (.ref n) h=some (kvs.map (·.2)):=by
 have e1:aL h n=none:=by simp [aL,e]
 simp only [fZ,e1,oY,e]
 exact sC e2
theorem FM {d:Nat} {kvs:List (PV×PV)} (e:aX h d=some kvs):wG (.ref d) [] h=.ok (.ref h.length) (h++[.vw 1 d]):=by simp [wG,sC e]
theorem DD {n:Nat} {kvs:List (PV×PV)} {xs:List PV} {z:PV} (e:aX h n=some kvs) (hk:(PV.tup xs).ky 6=true) (hl:kvs.length < 16777216):oS (.ref n) (.tup xs) z h=some (h.set n (.dD (dA kvs (.tup xs) z))):=by
 have k1:(PV.tup xs).isKt=true:=hk
 have hl':kvs.length < sizeLine:=by rw [jJ]; exact hl
 unfold oS
 simp only [mT,k1,if_true,e]
 rw [if_pos hl']
@[simp] theorem Iq {xs:List PV}:kR (.tup xs)=false:=(rfl)
@[simp] theorem Ir:kR .non=true:=(rfl)
end
section
variable {δ:Ev} {h h1:PH} {js:List (Option Nat)} {tg:Mg} {elt:Me} {g:PH->Bool}
end
end L2
set_option Elab.async false
set_option linter.all false
set_option maxRecDepth 100000
namespace L2
open PySem PySem.Spec PyProof.Rows
def Kv (f:Str) (p:PV):List (Str×PV)->List (Str×PV)
 | []=>[(f,p)]
 | (g,x) :: r=>if g=f then (g,p) :: r else (g,x) :: Kv f p r
def Kw (x:PV) (h:PH):Option (Nat×Str×List (Str×PV)):=match x with
 | .ref n=>match h[n]? with
  | some (.ins c fs)=>some (n,c,fs)
  | _=>none
 | _=>none
def Kx (f:Str) (x y:PV) (h:PH):Option PH:=match Kw x h with
 | some (n,c,fs)=>if fs.length < 1000 then some (h.set n (.ins c (Kv f y fs))) else none
 | none=>none
section
variable {C:MC} {k:Nat} {X:Cx}
section
variable {e o value:Expr} {f:Str} {m mo mv:Me} {pos pos' tpos:Pos}
def ME (f:Str) (mo mv:Me):Ms:=fun δ h=>(mv δ h).fl fun y h1=>(mo δ h1).fl fun x h2=>match Kx f x y h2 with
 | some h3=>.nx δ h3
 | none=>.bad
end
section
variable {o e:Expr} {es:List Expr} {m:Str} {n:Nat} {tb:Str->Option Fn} {mo:Me} {ms:Ma} {pos apos:Pos} {pl:Sem Bool}
end
def Ky (cn:Str) (n:Nat) (f:Fn) (ms:Ma):Me:=fun δ h=>(ms δ h).bind fun ps h1=>if ps.length=n then (f (.ref h1.length :: ps) (h1++[.ins cn []])).bind fun v h2=>(match v with
 | .non=>.ok (.ref h1.length) h2
 | _=>.bad) else .bad
section
variable {x cn:Str} {ca f:Addr} {fd:FuncData} {ps:List Str} {j n:Nat} {fn:Fn} {e:Expr} {es:List Expr} {ms:Ma} {p pos:Pos}
end
end
def iI (x y v:PV) (h:PH):Option PH:=match x,y with
 | .ref n,.int i=>match cR h n with
  | some xs=>match ixN xs.length i with
   | some j=>some (h.set n (.lst (xs.set j v)))
   | none=>none
  | none=>oS x y v h
 | _,_=>oS x y v h
def mE (mv mo mi:Me):Ms:=fun δ h=>(mv δ h).fl fun v h1=>(mo δ h1).fl fun x h2=>(mi δ h2).fl fun y h3=>match iI x y v h3 with
 | some h4=>.nx δ h4
 | none=>.bad
def Kz:List PV->PH->Rs PV:=fun xs h=>match xs with
 | [.bl b]=>.ok (.int (if b then 1 else 0)) h
 | [.int i]=>.ok (.int i) h
 | _=>.bad
section
variable {C:MC} {k:Nat} {X:Cx}
theorem zU {φ:List Addr} {H:Hp} {h h':PH} {px py pv:PV} {x y v:V} (c:Cxt C k X) (rh:RH C φ H h) (rx:RV C φ H px x) (ry:RV C φ H py y) (rv:RV C φ H pv v) (e:iI px py pv h=some h') {pins:List (Addr×Obj)} {σ:St} {s:Shared} {xu yu vu:Value}
  {Q:Unit->Shared->Prop} (I:Inv X pins σ H s) (rxu:RelV x xu) (ryu:RelV y yu) (rvu:RelV v vu) (q:∀ s' H',Inv X pins σ H' s'->Kp H H'->RH C φ H' h'->Q () s'):wpAny (model X.prog X.w) X.A (setItem xu yu vu) Q X.xe s:=by
 unfold iI at e
 split at e
 ·rename_i n i
  split at e
  ·rename_i xs el
   split at e
   ·rename_i j ej
    cases e
    obtain ⟨a,rfl,ha⟩:=rx
    cases ry
    obtain ⟨ws,hH,rw'⟩:=rh.at' n a _ ha (eE el)
    refine thn (set_list pins s σ H (.ref a) (.int i) v xu yu vu (fun H'=>H'=upd H a (.lst (ws.set j v))) I rxu ryu rvu ⟨a,ws,i,j,rfl,rfl,hH,by rw [<- rw'.length]; exact ej,rfl⟩) ?_
    rintro _ s' ⟨H',I',rfl⟩
    refine q s' _ I' (Kp.lst hH) (rh.write ha (by rw [hH]; trivial) ⟨_,aJ,(RVs.set rv j rw').mono List.prefix_rfl (Kp.lst hH)⟩)
   ·cases e
  ·exact rW c rh rx ry rv e I rxu ryu rvu q
 ·exact rW c rh rx ry rv e I rxu ryu rvu q
theorem uI {o i value:Expr} {pos pos':Pos} {mv mo mi:Me} (hv:SE C k X value mv) (ho:SE C k X o mo) (hi:SE C k X i mi) (hs:swapsWith value (some (.Subscript o i pos')) pos.line X.env=pure false:=by rfl):
  SSt C k X (.Assign [.Subscript o i pos'] value pos) (mE mv mo mi):=fun c pins s σ H D I ⟨φ,δ,h,rh,re,p⟩=>by
 refine wpAny_Assign_Subscript (thn (hv c pins s σ H _ I ⟨φ,δ,h,rh,re,post.fl p⟩) ?_) hs
 rintro vu s1 ⟨v,H1,I1,rvu,φ1,pv,h1,p1,t1,rh1,rv1,q1⟩
 refine thn (ho c pins s1 σ H1 _ I1 ⟨φ1,δ,h1,rh1,re.mono p1 t1,post.fl q1⟩) ?_
 rintro xu s2 ⟨x,H2,I2,rxu,φ2,px,h2,p2,t2,rh2,rv2,q2⟩
 refine thn (hi c pins s2 σ H2 _ I2 ⟨φ2,δ,h2,rh2,(re.mono p1 t1).mono p2 t2,post.fl q2⟩) ?_
 rintro yu s3 ⟨y,H3,I3,ryu,φ3,py,h3,p3,t3,rh3,rv3,q3⟩
 cases e:iI px py pv h3 with
 | none=>rw [e] at q3; exact q3.elim
 | some h4=>
  rw [e] at q3
  exact zU c rh3 (rv2.mono p3 t3) rv3 ((rv1.mono p2 t2).mono p3 t3) e I3 rxu ryu rvu fun s' H' I' kp rh'=>⟨σ,H',I',q3 φ3 σ H' List.prefix_rfl kp rh' ((((re.mono p1 t1).mono p2 t2).mono p3 t3).mono List.prefix_rfl kp)⟩
end
section
variable {δ:Ev} {h:PH} {m mo mv:Me} {E:FE}
@[simp] theorem KA {cn:Str} {n:Nat} {f:Fn} {ms:Ma}:Ky cn n f ms δ h=(ms δ h).bind fun ps h1=>if ps.length=n then (f (.ref h1.length :: ps) (h1++[.ins cn []])).bind fun v h2=>(match v with | .non=>.ok (.ref h1.length) h2 | _=>.bad) else .bad:=(rfl)
@[simp] theorem Mq {mi:Me}:(mE mv mo mi δ h).W E=(mv δ h).W fun v h1=>(mo δ h1).W fun x h2=>(mi δ h2).W fun y h3=>∃ h4,iI x y v h3=some h4/\E.nx δ h4:=by
 unfold mE
 rw [Fw]
 congr 1
 funext v h1
 rw [Fw]
 congr 1
 funext x h2
 rw [Fw]
 congr 1
 funext y h3
 cases e:iI x y v h3 <;> simp
@[simp] theorem KB {b:Bool}:Kz [.bl b] h=.ok (.int (if b then 1 else 0)) h:=(rfl)
end
end L2
set_option Elab.async false
set_option linter.all false
set_option maxRecDepth 100000
namespace L2
open PySem PySem.Spec PyProof.Rows
section
variable {C:MC} {k:Nat} {X:Cx} {e:Expr} {me:Me} {p pos p2 pos2:Pos}
end
section
variable {h:PH}
end
end L2
namespace L2
open PySem PySem.Spec PyProof.Rows
section
variable {C:MC} {k:Nat} {X:Cx} {e st:Expr} {me:Me} {pos p2:Pos}
end
end L2
set_option Elab.async false
set_option linter.all false
set_option maxRecDepth 100000
namespace L2
open PySem PySem.Spec PyProof.Rows
def pB:List Int->Int
 | []=>0
 | [x]=>x
 | x :: y :: r=>max x (pB (y :: r))
def KC:List Int->Int
 | []=>0
 | [x]=>x
 | x :: y :: r=>min x (KC (y :: r))
theorem wL:∀ {ns:List Int},ns≠[]->pB ns∈ns/\∀ a∈ns,a<=pB ns
 | [],h=>(h rfl).elim
 | [x],_=>⟨by simp [pB],by simp [pB]⟩
 | x :: y :: r,_=>by
  obtain ⟨h1,h2⟩:=wL (ns:=y :: r) (by simp)
  unfold pB
  refine ⟨?_,fun a ha=>?_⟩
  ·rcases Int.le_total x (pB (y :: r)) with z | z
   ·rw [Int.max_eq_right z]; exact List.mem_cons_of_mem _ h1
   ·rw [Int.max_eq_left z]; exact List.mem_cons_self
  ·rcases List.mem_cons.mp ha with rfl | ha
   ·exact Int.le_max_left _ _
   ·exact Int.le_trans (h2 a ha) (Int.le_max_right _ _)
def AO:List PV->PH->Rs PV:=fun xs h=>match xs with
 | [.ref n]=>match aL h n with
  | some ys=>match lY ys with
   | some (a :: ns)=>.ok (.int (pB (a :: ns))) h
   | _=>.bad
  | none=>.bad
 | _=>Fq xs h
def KD:List PV->PH->Rs PV:=fun xs h=>match xs with
 | [.ref n]=>match aL h n with
  | some ys=>match lY ys with
   | some (a :: ns)=>.ok (.int (KC (a :: ns))) h
   | _=>.bad
  | none=>.bad
 | _=>JZ xs h
section
variable {prog:Program} {w:World} {A:Around} {E:Value->Shared->Prop} {s:Shared} {d:Addr} {oc:Obj} {es:Array DictEntry} {ep:Nat}
end
section
variable {C:MC} {k:Nat} {X:Cx}
theorem BL (c:Cxt C k X):bI X (.builtin "max") (fun xs H Q=>∃ (p:Addr) (ns:List Int),xs=[.ref p]/\SqL C.K H p (ns.map V.int)/\ns≠[]/\Q (.int (pB ns)) H):=by
 intro pins s σ H xs us Q I r h
 obtain ⟨p,ns,rfl,hq,hne,q⟩:=h
 obtain ⟨u,rfl,ru⟩:=vals1 r
 cases ru
 rw [<- c.K] at hq
 obtain ⟨its,rv,pl,hz⟩:=I.list hq
 have hi:IntsAre its ns:=intsAre_of rv
 obtain ⟨ys,hy⟩:=hi.allInts.items
 have hl:=pl.isList
 have hns:ns=ys.toList.map (·.1):=by rw [<- hi.numsOf,<- nums_intItems,<- hy]
 have hsz:0 < ys.size:=by
  have h3:0 < ns.length:=List.length_pos_iff.mpr hne
  rw [hns,List.length_map,Array.length_toList] at h3; exact h3
 rw [hy] at hl
 refine max_intList (I.ok.hd c.calm) hl hsz fun v h' tk hv hk=>?_
 obtain ⟨t,rfl⟩:=intItems_at hv
 obtain ⟨h1,h2⟩:=argBest_gt (numAt ys) (ys.size - 1)
 have hM:numAt ys (argBest (fun i j=>decide (numAt ys i > numAt ys j)) (ys.size - 1))=pB ns:=by
  obtain ⟨m1,m2⟩:=wL hne
  refine Int.le_antisymm (m2 _ ?_) ?_
  ·rw [hns,numAt_eq]; exact getD_mem (by rw [List.length_map,Array.length_toList]; omega)
  ·have ha:=m1
   rw [hns] at ha
   obtain ⟨j,hj,ej⟩:=mem_getD ha
   rw [List.length_map,Array.length_toList] at hj
   rw [<- hns] at ej
   rw [<- ej,hns,<- numAt_eq]
   exact h2 j (by omega)
 rw [hM]
 exact ⟨.int (pB ns),H,I.kept (t':=tk) hk,⟨_,rfl⟩,q⟩
theorem Iu:fV C k X (.builtin "max") AO:=fun c=>bI.imp (bI.or (JV c) (BL c)) fun vs H Q h=>by
 obtain ⟨φ,h,ps,rh,rv,po⟩:=h
 unfold AO at po
 split at po
 ·rename_i n
  split at po
  ·rename_i ys e
   split at po
   ·rename_i a ns en
    obtain ⟨v,rfl,rx⟩:=rv.one
    obtain ⟨p,rfl,hp⟩:=rx
    obtain ⟨p2,ws,hp2,sp,rp⟩:=bL rh e
    rw [hp] at hp2; cases hp2
    have ew:=uA rp en
    subst ew
    exact .inr ⟨p,a :: ns,rfl,sp,by simp,po.val rh rfl⟩
   ·exact po.elim
  ·exact po.elim
 ·exact .inl ⟨φ,h,_,rh,rv,po⟩
end
section
variable {h:PH}
@[simp] theorem J' {i j:Int}:AO [.int i,.int j] h=.ok (.int (if j > i then j else i)) h:=(rfl)
@[simp] theorem Ja {i j:Int}:KD [.int i,.int j] h=.ok (.int (if j < i then j else i)) h:=(rfl)
end
end L2
set_option Elab.async false
set_option linter.all false
set_option maxRecDepth 100000
namespace L2
open PySem PySem.Spec PyProof.Rows
theorem uJ:typeLookup (.type "list") "keys" = pure none:=by rw [typeLookup_type,builtinLookup_eq_fast]; kernel_rfl
theorem uK {prog:Program} {w:World} {A:Around} {E:Value->Shared->Prop} {s:Shared} {a:Addr} {o:Obj} {xs:Array Value} {k:Nat} {Q:Option Value->Shared->Prop}
  (hx:s.heap.get? a=some o) (hc:o.cls=.type "list") (hdat:o.data=.seq xs k) (hd:o.dict=none) (hA:A.handled=none)
  (h:∀ h' tk,(∀ b u,s.heap.get? b=some u->h'.get? b=some u)->Q none { s with heap:=h',toks:=tk }):wpAny (model prog w) A (getAttr? (.ref a) "keys") Q E s:=by
 obtain ⟨c,dct,dat,sl⟩:=o
 simp only at hc hdat hd
 subst hc hdat hd
 obtain ⟨hp,g,d,tk,os⟩:=s
 have hT:∀ tk',(⟨hp,g,d,tk',os⟩:Shared).TypeIs (.ref a) "list" := fun _=>⟨_,hx,rfl⟩
 have f1:=sub_AttributeError
 have f3:=F.slot_list_getattribute.lookup
 have f4:=F.slot_list_getattribute.bind (.ref a)
 have f5:=am_list_getattr_none
 unfold getAttr? getAttrBy? getAttrBy
 repeat (any_goals (first | assumption | exact hT _ | ((with_reducible show wpAny _ _ (call (Value.builtin "list.__getattribute__") _ _) _ _ _); refine call_meets F.slot_list_getattribute (hT _) am_entry_list_getattribute (F.args_list_getattribute_2 _ _) (meets_getattribute_miss_list a xs k sl "keys" _ uJ (by decide) (by size_fits)) ⟨hx,hA,fun h' tk' e hx'=>?_⟩) | wp_step))
 obtain ⟨t',u',he⟩:=hx'.there
 show wpAny _ _ (getattributeRaised _ _ _ _ _ _ _) _ _ _
 unfold getattributeRaised
 repeat (any_goals (first | assumption | wp_step))
 exact h _ _ hx'.of.keeps
section
variable {prog:Program} {w:World} {K:Type} [DecidableEq K] {knd:HeapKind prog w K} {A:Around} {R:Result->Shared->Prop}
def wM (xs:List (K×Addr×Value)) (ps:List (Addr×K×Addr×Value)):List (K×Addr×Value):=ps.foldl (fun acc p=>storedH acc p.2.1 p.2.2.1 p.2.2.2) xs
theorem mF (xs:List (K×Addr×Value)) (k:K) (a:Addr) (v:Value):(storedH xs k a v).length<=xs.length+1:=by
 unfold storedH
 split
 ·rw [List.length_map]; omega
 ·simp
theorem wN {xs:List (K×Addr×Value)} {k:K} {a:Addr} {v:Value} {x:K×Addr×Value} (h:x∈storedH xs k a v):(∃ y∈xs,x.1=y.1/\x.2.1=y.2.1)\/(x.1=k/\x.2.1=a):=by
 unfold storedH at h
 split at h
 ·obtain ⟨y,hy,rfl⟩:=List.mem_map.mp h
  refine .inl ⟨y,hy,?_,?_⟩
  ·unfold putAt; split <;> rfl
  ·unfold putAt; split <;> rfl
 ·rcases List.mem_append.mp h with h | h
  ·exact .inl ⟨x,h,rfl,rfl⟩
  ·rw [List.mem_singleton.mp h]; exact .inr ⟨rfl,rfl⟩
theorem wO {I d:Addr} {fp wr:List Addr} {n:Nat} {P:Nat->Value->Prop} {St:Nat->Heap->Prop} (W:Walks prog w A.in1 I fp wr n P St) (hd:d∉fp) (hu:knd.room A.in1) (ps:List (Addr×K×Addr×Value)) (hn:ps.length=n)
  (hP:∀ i v,P i v->∃ p,ps[i]?=some p/\v=.ref p.1) (h0:Heap) (hw0:∀ b u,h0.get? b=some u->b∉wr/\b≠d)
  (hk:∀ h',(∀ b u,h0.get? b=some u->h'.get? b=some u)->∀ p∈ps,knd.is h' p.2.1 p.2.2.1/\IsTup h' p.1 #[.ref p.2.2.1,p.2.2.2]) (res:Value):
  ∀ (m i:Nat) (s:Shared) (xs:List (K×Addr×Value)),n - i=m->i<=n->St i s.heap->s.heap.DictOfH knd d xs->(∀ x∈xs,∃ p∈ps,x.1=p.2.1/\x.2.1=p.2.2.1)->xs.length+n<=sizeLine+i->(∀ b u,h0.get? b=some u->s.heap.get? b=some u)->
  (∀ h' tk,h'.DictOfH knd d (wM xs (ps.drop i))->(∀ b u,h0.get? b=some u->h'.get? b=some u)->R (.ok (.ret res)) { s with heap:=h',toks:=tk })->
  codeAny (model prog w) A (.builtin "dict.update.loop" ⟨[.ref d,.ref I,rawInt i,res],[]⟩) R s:=by
 have hdw:d∉wr:=fun h=>hd (W.sub _ h)
 intro m
 induction m with
 | zero=>
  intro i s xs hm hi hst hdt hxs hz hit hR
  have hin:i=n:=by omega
  subst hin
  refine codeAny_builtin cP ?_
  rw [Around.under_plainId bA _]
  show wpAny _ A.in1 (pyNext (.ref I) >>= _) _ _ s
  refine wpAny_bind (W.done s _ _ hst fun h' tk hk'=>?_)
  show wpAny _ A.in1 (Builtin.Dict.addKeywords d [] >>= _) _ _ _
  have h00:∀ b u,h0.get? b=some u->h'.get? b=some u:=fun b u e=>hk' b u (hw0 b u e).1 (hit b u e)
  have hfin:=hR h' tk (by
   rw [List.drop_of_length_le (by omega)]
   obtain ⟨o,es,ep,h1,h2,h3,h4,h5,h6⟩:=hdt
   refine ⟨o,es,ep,hk' d _ hdw h1,h2,h3,h4,fun x hx=>?_,h6⟩
   obtain ⟨p,hp,e1,e2⟩:=hxs x hx
   rw [e1,e2]
   exact (hk h' h00 p hp).1) h00
  exact wpAny_bind (wpAny_pure (wpAny_pure hfin))
 | succ m ih=>
  intro i s xs hm hi hst hdt hxs hz hit hR
  have hlt:i < n:=by omega
  refine codeAny_builtin cP ?_
  rw [Around.under_plainId bA _]
  show wpAny _ A.in1 (pyNext (.ref I) >>= _) _ _ s
  refine wpAny_bind (W.item i s _ _ hlt hst fun v h' tk hPv hst' hk'=>?_)
  obtain ⟨p,hp,rfl⟩:=hP i v hPv
  have hpm:=List.mem_of_getElem? hp
  have h00:∀ b u,h0.get? b=some u->h'.get? b=some u:=fun b u e=>hk' b u (hw0 b u e).1 (hit b u e)
  obtain ⟨hki,ob,hb1',hb2,nn,hb3⟩:=hk h' h00 p hpm
  have hTy:({ s with heap:=h',toks:=tk }:Shared).TypeIs (.ref p.1) "tuple" := ⟨ob,hb1',hb2⟩
  have hdt':h'.DictOfH knd d xs:=by
   obtain ⟨o,es,ep,h1,h2,h3,h4,h5,h6⟩:=hdt
   refine ⟨o,es,ep,hk' d _ hdw h1,h2,h3,h4,fun x hx=>?_,h6⟩
   obtain ⟨p,hp,e1,e2⟩:=hxs x hx
   rw [e1,e2]
   exact (hk h' h00 p hp).1
  refine wpAny_bind (wpAny_holding (wpAny_bind (wpAny_tryCatch ?_)))
  unfold Builtin.Dict.pairItems
  refine wpAny_bind (wpAny_typeOf hTy ?_)
  rw [if_pos (by decide)]
  refine wpAny_bind (wpAny_seqItems hb1' hb3 (wpAny_pure ?_))
  show wpAny _ _ (holding [.ref p.2.2.1,p.2.2.2] (dictSet d (.ref p.2.2.1) p.2.2.2)) _ _ _
  refine wpAny_holding (wpAny_dictSet_heap (hsz:=by omega) hu hki hdt' fun h2 hd2 hs2=>?_)
  refine wpAny_pure ⟨plainId_quiet bA _,?_⟩
  have st2:St (i+1) h2:=W.frame (i+1) h' h2 hst' fun b hb o e=>(hs2.2 b (fun z=>hd (z ▸ hb))).trans e
  refine ih (i+1) _ (storedH xs p.2.1 p.2.2.1 p.2.2.2) (by omega) hlt st2 hd2 (fun x hx=>?_) ?_ (fun b u e=>(hs2.2 b (hw0 b u e).2).trans (h00 b u e)) fun h3 tk3 hd3 hk3=>?_
  ·rcases wN hx with ⟨y,hy,e1,e2⟩ | ⟨e1,e2⟩
   ·rw [e1,e2]; exact hxs y hy
   ·exact ⟨p,hpm,e1,e2⟩
  ·have:=mF xs p.2.1 p.2.2.1 p.2.2.2
   omega
  ·refine hR h3 tk3 ?_ hk3
   have hdr:ps.drop i=p :: ps.drop (i+1):=by
    obtain ⟨hl,e⟩:=List.getElem?_eq_some_iff.mp hp
    rw [List.drop_eq_getElem_cons hl,e]
   rw [hdr]
   exact hd3
theorem mX {E:Value->Shared->Prop} {s:Shared} {a:Addr} {o:Obj} {k:Nat} {ps:List (Addr×K×Addr×Value)} {Q:Value->Shared->Prop} (hA:A.handled=none) (hu:knd.room A.in1.in1) (hx:s.heap.get? a=some o) (hc:o.cls=.type "list") (hdat:o.data=.seq (ps.map fun p=>Value.ref p.1).toArray k) (hd:o.dict=none)
  (hk:∀ h',(∀ b u,s.heap.get? b=some u->h'.get? b=some u)->∀ p∈ps,knd.is h' p.2.1 p.2.2.1/\IsTup h' p.1 #[.ref p.2.2.1,p.2.2.2]) (hz:ps.length<=sizeLine)
  (h:∀ h' tk,h'.DictOfH knd s.heap.objs.size (wM [] ps)->(∀ b u,s.heap.get? b=some u->h'.get? b=some u)->Q (.ref s.heap.objs.size) { s with heap:=h',toks:=tk }):
  wpAny (model prog w) A (call (.type "dict") [.ref a]) Q E s:=by
 refine callType_codes (Q₁:=fun obj s₁=>obj=.ref s.heap.objs.size/\s₁={ s with heap:=s.heap.push { cls:=.type "dict",data:=.dict #[] } }) F.kt_called_dict (F.kt_typeCall_dict_1 _) F.entry_dict_init (kt_code_dict_new _ ⟨rfl,rfl⟩) ?_
 rintro obj s₁ ⟨rfl,rfl⟩
 have hnew:(s.heap.push { cls:=.type "dict",data:=.dict #[] }).DictOfH knd s.heap.objs.size []:=Heap.DictOfH.new s.heap
 have up:∀ b u,s.heap.get? b=some u->(s.heap.push { cls:=.type "dict",data:=.dict #[] }).get? b=some u:=fun b u e=>Heap.get?_push_of_some _ e
 have hTa:({ s with heap:=s.heap.push { cls:=.type "dict",data:=.dict #[] } }:Shared).TypeIs (.ref a) "list" := ⟨o,up _ _ hx,hc⟩
 refine ⟨hnew.typeIs,F.args_dict_init_2 _ _,?_⟩
 unfold Builtin.«dict.__init__»
 refine wpAny_bind ?_; unfold Builtin.Dict.selfAndRest
 refine wpAny_bind (wpAny_notOrdered_dict hnew.typeIs (show wpAny _ _ (pure (s.heap.objs.size,[Value.ref a])) _ _ _ from wpAny_pure ?_))
 show wpAny _ _ (Builtin.Dict.updateFrom "dict.__init__" s.heap.objs.size (.ref a) [] .none) _ _ _
 unfold Builtin.Dict.updateFrom
 refine wpAny_bind (wpAny_typeOf hTa ?_)
 rw [if_pos (by decide)]
 refine wpAny_bind (uK (up _ _ hx) hc hdat hd hA fun h1 tk1 kp1=>?_)
 rw [if_pos (by rfl)]
 refine wpAny_bind (wpAny_rule ?_)
 have ha1:h1.IsList a (ps.map fun p=>Value.ref p.1).toArray:=⟨o,kp1 _ _ (up _ _ hx),hc,k,hdat⟩
 refine wpAny_bind (wpAny_pyIter_list (s:={ s with heap:=h1,toks:=tk1 }) ha1 (wpAny_pure ⟨plainId_quiet bA _,?_⟩))
 have lt0:s.heap.objs.size < h1.objs.size:=by
  have:=kp1 s.heap.objs.size _ (Heap.get?_push_size s.heap rfl)
  exact Heap.lt_size this
 have hlt:∀ b u,s.heap.get? b=some u->b < s.heap.objs.size:=fun b u e=>Heap.lt_size e
 have ha0:=hlt _ _ hx
 refine wO (knd:=knd) (fp:=[h1.objs.size,a]) (wr:=[h1.objs.size]) (n:=(ps.map fun p=>Value.ref p.1).toArray.size) (Walks.list (A:=A.in1.in1) hA h1.objs.size a (Nat.ne_of_lt (Nat.lt_trans ha0 lt0)) (ps.map fun p=>Value.ref p.1).toArray) ?_ hu ps (by simp) (fun i v e=>?_) s.heap (fun b u e=>?_) hk .none _ 0 _ [] (Nat.sub_zero _) (Nat.zero_le _) ?_ ?_ (fun x hx=>nomatch hx) (by simpa using hz) (fun b u e=>?_) fun h' tk dd kk=>?_
 ·intro z
  rcases List.mem_cons.mp z with z | z
  ·exact Nat.ne_of_lt lt0 z
  ·exact Nat.ne_of_lt ha0 (List.mem_singleton.mp z).symm
 ·have e':(ps.map fun p=>Value.ref p.1)[i]?=some v:=by simpa using e
  rw [List.getElem?_map] at e'
  obtain ⟨p,hp,rfl⟩:=Option.map_eq_some_iff.mp e'
  exact ⟨p,hp,rfl⟩
 ·have h0:=hlt _ _ e
  exact ⟨fun z=>Nat.ne_of_lt (Nat.lt_trans h0 lt0) (List.mem_singleton.mp z),Nat.ne_of_lt h0⟩
 ·refine ⟨⟨_,Heap.get?_push_size _ rfl,rfl,rfl⟩,?_⟩
  obtain ⟨ob,e,r⟩:=ha1
  exact ⟨ob,Heap.get?_push_of_some _ e,r⟩
 ·obtain ⟨oo,es,ep,e,r1,r2,r3,r4,r5⟩:=hnew
  exact ⟨oo,es,ep,Heap.get?_push_of_some _ (kp1 _ _ e),r1,r2,r3,(fun x hx=>nomatch hx),r5⟩
 ·exact Heap.get?_push_of_some _ (kp1 _ _ (up _ _ e))
 ·exact ⟨rfl,h h' tk (by simpa using dd) kk⟩
end
section
variable {C:MC} {k:Nat} {X:Cx} {φ:List Addr} {H:Hp} {pins:List (Addr×Obj)} {σ:St} {s:Shared}
def pC:List PV->Option (List (PV×PV))
 | []=>some []
 | .tup [y,v] :: r=>if y.isKt=true then (pC r).map ((y,v) :: ·) else none
 | _=>none
def DE (kvs more:List (PV×PV)):List (PV×PV):=more.foldl (fun acc kv=>dA acc kv.1 kv.2) kvs
theorem sD {h h':Heap} (kp:∀ b u,h.get? b=some u->h'.get? b=some u) (a:Addr) (x:Array Value):IsTup h a x->IsTup h' a x:=fun ⟨o,e,r⟩=>⟨o,kp _ _ e,r⟩
theorem pD (I:Inv X pins σ H s) (hK:X.K=C.K):∀ {ps:List PV} {rs:List (PV×PV)} {vs:List V} {us:List Value},pC ps=some rs->RVs C φ H ps vs->aH vs us->
  ∃ qs:List (Addr×PV×Addr×Value),us=qs.map (fun q=>Value.ref q.1)/\(∀ h',(∀ b u,s.heap.get? b=some u->h'.get? b=some u)->∀ q∈qs,(iD X.prog X.w).is h' q.2.1 q.2.2.1/\IsTup h' q.1 #[.ref q.2.2.1,q.2.2.2])/\
   ∀ {kvs:List (PV×PV)} {ks:List (PV×Addr×V)} {xs:List (PV×Addr×Value)},RKd C φ H kvs ks->qL ks xs->∃ ks',RKd C φ H (DE kvs rs) ks'/\qL ks' (wM xs qs)
 | [],rs,[],us,e,_,ru=>by
  cases ru
  cases e
  exact ⟨[],rfl,(fun _ _ _ h=>nomatch h),fun r rx=>⟨_,r,rx⟩⟩
 | p :: ps,rs,v :: vs,us,e,r,ru=>by
  cases ru with
  | @cons _ u _ us' h t=>
   cases p with
   | tup xs=>
    match xs,e with
    | [y,z],e=>
     unfold pC at e
     split at e
     ·rename_i hk
      cases e2:pC ps with
      | none=>rw [e2] at e; cases e
      | some rs'=>
       rw [e2] at e
       cases e
       obtain ⟨qs,rfl,a1,a2⟩:=pD I hK e2 r.2 t
       obtain ⟨b,bs,rfl,sq,rb⟩:=r.1
       cases h
       obtain ⟨yv,zv,rfl,ry,rz⟩:=rb.two
       rw [<- hK] at sq
       obtain ⟨its,rits,pt,_⟩:=I.tuple sq
       obtain ⟨yu,zu,rfl,ryu,rzu⟩:=vals2 rits
       obtain ⟨c,rfl⟩:=mZ hk ry
       cases ryu
       have hki:=wA I hK hk ry
       refine ⟨(b,y,c,zu) :: qs,rfl,?_,fun {kvs ks xs} r' rx'=>?_⟩
       ·intro h' kp q hq
        rcases List.mem_cons.mp hq with rfl | hq
        ·exact ⟨⟨hki.1,HR.keep (sD kp) hki.2⟩,sD kp _ _ pt⟩
        ·exact a1 h' kp q hq
       ·obtain ⟨ks',r1,r2⟩:=HD.put (a:=b) r' rx' (mY hk) ry rz rzu
        exact a2 r1 r2
     ·cases e
    | [],e=>cases e
    | [_],e=>cases e
    | _ :: _ :: _ :: _,e=>cases e
   | _=>cases e
 | [],_,_ :: _,_,_,r,_=>r.elim
 | _ :: _,_,[],_,_,r,_=>r.elim
def pE:List PV->PH->Rs PV:=fun xs h=>match xs with
 | [.ref n]=>match h[n]? with
  | some (.lst ps)=>match pC ps with
   | some rs=>.ok (.ref h.length) (h++[.dD (DE [] rs)])
   | none=>.bad
  | _=>oU xs h
 | _=>oU xs h
theorem sE {K:Type} [DecidableEq K]:∀ (ps:List (Addr×K×Addr×Value)) (xs:List (K×Addr×Value)),(wM xs ps).length<=xs.length+ps.length
 | [],xs=>Nat.le_refl _
 | p :: ps,xs=>by
  have:=sE ps (storedH xs p.2.1 p.2.2.1 p.2.2.2)
  have h2:=mF xs p.2.1 p.2.2.1 p.2.2.2
  show (wM (storedH xs p.2.1 p.2.2.1 p.2.2.2) ps).length<=_
  rw [List.length_cons]
  omega
theorem FN:fV C k X (.type "dict") pE:=fun c pins s σ H xs us Q I r h=>by
 obtain ⟨φ,h,ps,rh,rv,po⟩:=h
 unfold pE at po
 split at po
 ·rename_i n
  split at po
  ·rename_i ls hk
   split at po
   ·rename_i rs e
    obtain ⟨v,rfl,rx⟩:=rv.one
    obtain ⟨a,rfl,ha⟩:=rx
    obtain ⟨u,rfl,ru⟩:=vals1 r
    cases ru
    obtain ⟨vs,hH,rvs⟩:=rh.at' n a _ ha hk
    obtain ⟨hz,its,m,rits,hl,hx⟩:=I.lstM hH
    obtain ⟨qs,rfl,a1,a2⟩:=pD I c.K e rvs rits
    have hq:qs.length<=sizeLine:=by
     rw [List.length_map] at hl
     omega
    have rm:(iD X.prog X.w).room X.A.in1.in1:=by
     have:=c.hu64
     show X.A.units+1+1+6 < cLine
     omega
    refine mX (knd:=iD X.prog X.w) (I.ok.hd c.calm) rm hx rfl rfl rfl a1 hq fun h' tk dd kk=>?_
    obtain ⟨ks',r1,r2⟩:=a2 (.nil:RKd C φ H [] []) (.nil:qL [] [])
    have fr:H s.heap.objs.size=none:=I.fresh
    obtain ⟨o,es,ep,hq1,h2,h3,h4,h5',h5⟩:=dd
    have hl2:ks'.length<=sizeLine:=by
     have e1:=Paired.length r2
     have e2:=sE qs ([]:List (PV×Addr×Value))
     simp at e2
     omega
    refine ⟨.ref s.heap.objs.size,_,I.laid (a:=s.heap.objs.size) (o:=dDO C.w s.heap.objs.size ks') (t':=tk) kk (Nat.le_refl _) ⟨⟨hl2,beq_eq_false_iff_ne.mpr (Ne.symm (Nat.ne_of_lt I.big)),_,r2,o,es,ep,hq1,h2,h3,?_,h5⟩,⟨o,hq1⟩,?_⟩,rfl,?_⟩
    ·rw [h4,<- c.w]; rfl
    ·rintro g1 g2 ⟨z1,z2,ws,z3,o',es',ep',z4,z5⟩ keep
     exact ⟨z1,z2,ws,z3,o',es',ep',keep _ z4,z5⟩
    ·exact po (φ++[s.heap.objs.size]) (.ref _) _ (List.prefix_append _ _) (Kp.new fr) (rh.new fr ⟨_,aJ,RKd.mono (List.prefix_append _ _) (Kp.new fr) r1⟩) ⟨_,rfl,by rw [<- rh.len]; simp⟩
   ·exact po.elim
  ·exact Du c pins s σ H xs us Q I r ⟨φ,h,_,rh,rv,po⟩
 ·exact Du c pins s σ H xs us Q I r ⟨φ,h,_,rh,rv,po⟩
end
end L2
set_option Elab.async false
set_option linter.all false
set_option maxRecDepth 100000
namespace L2
open PySem PySem.Spec PyProof.Rows PySem.SeqAt
open PySem.AutoSeq1 (wpAny_loadPart')
open PySem.MeetsSeq PySem.MeetsSeq2 PySem.MeetsSeq3
section
variable {X:Cx} {pins:List (Addr×Obj)} {σ:St} {H:Hp} {s:Shared}
end
section
variable {C:MC} {k:Nat} {X:Cx}
def KF:PV->PV->PH->Rs PV:=fun x y h=>match x,y with
 | .tup xs,.tup ys=>ofB ((Do (.tup xs) (.tup ys)).map (!·)) h
 | x,y=>vGe x y h
variable {h:PH}
@[simp] theorem KG {i j:Int}:KF (.int i) (.int j) h=.ok (.bl (decide (j<=i))) h:=(rfl)
@[simp] theorem KH {i j:Str}:KF (.str i) (.str j) h=.ok (.bl (!decide (i.cps.toList < j.cps.toList))) h:=(rfl)
end
end L2
set_option Elab.async false
set_option linter.all false
set_option maxRecDepth 100000
namespace L2
open PySem PySem.Spec PyProof.Rows
section
variable {prog:Program} {w:World} {A:Around} {E:Value->Shared->Prop} {s:Shared} {v dc it:Addr} {oc:Obj} {es:Array DictEntry} {ep:Nat}
theorem BM {Q:Value->Shared->Prop} (hT:s.TypeIs (.ref dc) "dict") (hd:(dc == sysModules)=false) (h1:s.heap.get? dc=some oc) (h2:oc.data=.dict es ep)
  (q:Q (.ref s.heap.objs.size) { s with heap:=s.heap.push { cls:=.type "dict_keyiterator",data:=.fields #[.ref dc,.int 0 0,.int es.size 0,.int ep 0] } }):wpAny (model prog w) A (pyIter (.ref dc)) Q E s:=by
 refine wpAny_pyIter_slot hT F.slot_dict_iter (wpAny_call_entry F.slot_dict_iter hT F.entry_dict_iter ?_ (F.args_dict_iter_1 _))
 unfold Builtin.«dict.__iter__»
 refine wpAny_bind ?_
 unfold Builtin.Dict.dictSlotNone
 refine wpAny_bind (wpAny_notOrdered_dict hT ?_)
 show wpAny _ _ (pure (Value.ref dc)) _ _ s
 refine wpAny_pure ?_
 show wpAny _ _ (Builtin.Dict.showsAll dc >>= _) _ _ s
 unfold Builtin.Dict.showsAll
 rw [if_neg (by rw [hd]; exact Bool.false_ne_true)]
 refine wpAny_bind (wpAny_pure ?_)
 refine wpAny_bind (wpAny_dictEntries h1 h2 ?_)
 refine wpAny_bind (wpAny_dictEpoch h1 h2 ?_)
 refine wpAny_bind (wpAny_newObj_type (wpAny_pure ⟨_,rfl,"dict_keyiterator",_,⟨_,Heap.get?_push_size _ rfl,rfl⟩,F.slot_dict_keyiterator_next.lookup,?_⟩))
 simpa [rawInt] using q
theorem DF {i:Nat} {Q:Option Value->Shared->Prop} (hI:s.heap.IsKeyIter it dc i es.size ep) (h1:s.heap.get? dc=some oc) (h2:oc.data=.dict es ep) (hlt:i < es.size)
  (q:∀ h',h'.IsKeyIter it dc (i+1) es.size ep->Heap.SameBut it s.heap h'->Q (some es[i].key) { s with heap:=h' }):wpAny (model prog w) A (pyNext (.ref it)) Q E s:=by
 obtain ⟨oi,g1,g2,g3⟩:=id hI
 unfold pyNext
 refine wpAny_bind (wpAny_attempt (wpAny_callSpecial?_slot (name:=Str.ofString "__next__") hI.typeIs F.slot_dict_keyiterator_next (wpAny_call_entry F.slot_dict_keyiterator_next hI.typeIs F.entry_dict_keyiterator_next ?_ (F.args_dict_keyiterator_next_1 _))))
 refine wpAny_bind (wpAny_pure (wpAny_bind (wpAny_bind ?_)))
 first | refine wpAny_bind (wpAny_typeNameOfWhole_keyiter hI.typeIs (wpAny_pure ?_)) | refine wpAny_bind (wpAny_typeNameOf_keyiter hI.typeIs (wpAny_pure ?_))
 refine wpAny_bind (wpAny_fieldsOf g1 g3 ?_)
 rw [show Builtin.Dict_items.ownsTuple "dict_keyiterator" = false by decide]; simp only [Bool.false_eq_true,if_false]
 show wpAny _ _ (if (Value.ref dc == Value.none)=true then _ else _) _ _ s
 rw [if_neg (show ¬ ((Value.ref dc == Value.none)=true) from Bool.false_ne_true)]
 refine wpAny_bind (wpAny_pure (wpAny_bind (wpAny_dictEntries h1 h2 ?_)))
 rw [if_neg (show ¬ _ by simp)]
 refine wpAny_bind (wpAny_pure (wpAny_bind (wpAny_dictEpoch h1 h2 ?_)))
 rw [if_neg (show ¬ _ by simp)]
 refine wpAny_pure ?_
 simp only [show ¬ ((i:Int) < 0) by omega,if_false,Int.toNat_natCast,Array.getElem?_eq_getElem hlt]
 refine wpAny_bind ?_
 first | refine wpAny_bind (wpAny_typeNameOfWhole_keyiter hI.typeIs (wpAny_pure ?_)) | refine wpAny_bind (wpAny_typeNameOf_keyiter hI.typeIs (wpAny_pure ?_))
 refine wpAny_bind (wpAny_isOneOf_keyiter hI.typeIs (show wpAny _ _ (setField (.ref it) 1 (rawInt ((i:Int)+1)) >>= _) _ _ s from wpAny_bind (wpAny_setField g1 g3 (by simp) ?_)))
 have hI':(s.heap.update it (Obj.mapFields (·.setIfInBounds 1 (rawInt ((i:Int)+1))))).IsKeyIter it dc (i+1) es.size ep:=
  ⟨_,Heap.get?_update_self _ g1 (Obj.isFreed_of_fields (Obj.data_mapFields g3 _)),(Obj.cls_mapFields ..).trans g2,by rw [Obj.data_mapFields g3]; simp [rawInt]⟩
 have ty':({ s with heap:=s.heap.update it (Obj.mapFields (·.setIfInBounds 1 (rawInt ((i:Int)+1)))) }:Shared).TypeIs (.ref it) "dict_keyiterator" := hI'.typeIs
 refine wpAny_bind (wpAny_holding (wpAny_bind (wpAny_isOneOf_keyiter ty' ?_)))
 show wpAny _ _ (pure es[i].key) _ _ _
 exact wpAny_pure (wpAny_pure ⟨_,rfl,wpAny_pure (q _ hI' (Heap.SameBut.update ..))⟩)
theorem DG {i:Nat} {Q:Option Value->Shared->Prop} (hh:A.handled=none) (hI:s.heap.IsKeyIter it dc i es.size ep) (h1:s.heap.get? dc=some oc) (h2:oc.data=.dict es ep) (hge:es.size<=i)
  (q:∀ h',Heap.ExtBut it s.heap h'->Q none { s with heap:=h' }):wpAny (model prog w) A (pyNext (.ref it)) Q E s:=by
 obtain ⟨oi,g1,g2,g3⟩:=id hI
 unfold pyNext
 refine wpAny_bind (wpAny_attempt (wpAny_callSpecial?_slot (name:=Str.ofString "__next__") hI.typeIs F.slot_dict_keyiterator_next (wpAny_call_entry F.slot_dict_keyiterator_next hI.typeIs F.entry_dict_keyiterator_next ?_ (F.args_dict_keyiterator_next_1 _))))
 refine wpAny_bind (wpAny_pure (wpAny_bind (wpAny_bind ?_)))
 first | refine wpAny_bind (wpAny_typeNameOfWhole_keyiter hI.typeIs (wpAny_pure ?_)) | refine wpAny_bind (wpAny_typeNameOf_keyiter hI.typeIs (wpAny_pure ?_))
 refine wpAny_bind (wpAny_fieldsOf g1 g3 ?_)
 rw [show Builtin.Dict_items.ownsTuple "dict_keyiterator" = false by decide]; simp only [Bool.false_eq_true,if_false]
 show wpAny _ _ (if (Value.ref dc == Value.none)=true then _ else _) _ _ s
 rw [if_neg (show ¬ ((Value.ref dc == Value.none)=true) from Bool.false_ne_true)]
 refine wpAny_bind (wpAny_pure (wpAny_bind (wpAny_dictEntries h1 h2 ?_)))
 rw [if_neg (show ¬ _ by simp)]
 refine wpAny_bind (wpAny_pure (wpAny_bind (wpAny_dictEpoch h1 h2 ?_)))
 rw [if_neg (show ¬ _ by simp)]
 refine wpAny_pure ?_
 simp only [show ¬ ((i:Int) < 0) by omega,if_false,Int.toNat_natCast,Array.getElem?_eq_none hge]
 refine wpAny_bind ?_
 first | refine wpAny_bind (wpAny_typeNameOfWhole_keyiter hI.typeIs (wpAny_pure ?_)) | refine wpAny_bind (wpAny_typeNameOf_keyiter hI.typeIs (wpAny_pure ?_))
 refine (show wpAny _ _ (setField (.ref it) 0 .none >>= _) _ _ s from wpAny_bind (wpAny_setField g1 g3 (by simp) ?_))
 refine (show wpAny _ _ (newExc (.type "StopIteration") [] >>= _) _ _ _ from wpAny_bind ?_); simp only [newExc,newTuple]
 refine wpAny_bind (wpAny_newObj_type (wpAny_bind (m:=firstArgMember _ _) (wpAny_of_eq (a:=Value.none) (by first | rfl | (simp only [firstArgMember]; rfl)) (wpAny_newObj_type ?_ (by size_fits)))) (by size_fits))
 simp only [raiseNew]
 refine wpAny_bind (wpAny_handled ?_); rw [show A.in1.handled=none from hh]
 refine wpAny_bind (wpAny_pure (wpAny_throw ?_)); refine wpAny_bind (wpAny_isInstance (T:="StopIteration") (b:=true) ⟨_,Heap.get?_push_size _ rfl,rfl⟩ isSubtype_stop ?_)
 exact wpAny_pure (q _ (((Heap.SameBut.update ..).extBut.push _).push _))
end
section
variable {C:MC} {k:Nat} {X:Cx}
end
section
variable {C:MC} {k:Nat} {X:Cx}
end
section
variable {C:MC} {k:Nat} {X:Cx} {ke ve:Expr} {mk mv:Me} {pos:Pos}
def putD (x y:PV) (n:Nat) (h:PH):Rs PV:=if x.isKt=true then (match aX h n with
 | some kvs=>if kvs.length < sizeLine then .ok (.ref n) (h.set n (.dD (dA kvs x y))) else .bad
 | none=>.bad) else .bad
def Iv (mk mv:Me):Me:=fun δ h=>(mk δ (h++[.dK []])).bind fun x h2=>(mv δ h2).bind fun y h3=>putD x y h.length h3
end
section
variable {C:MC} {k:Nat} {X:Cx} {x:Str} {a:Addr} {o:Obj} {its:Array Value} {n:Nat} {vs:List V} {ps:List PV} {pos:Pos}
end
section
theorem FO {h:PH} {n:Nat} {kvs:List (PV×PV)} {xs:List PV} {z:PV} (e:aX h n=some kvs) (hk:(PV.tup xs).ky 6=true) (hl:kvs.length < 16777216):iI (.ref n) (.tup xs) z h=some (h.set n (.dD (dA kvs (.tup xs) z))):=by
 show oS (.ref n) (.tup xs) z h=_
 exact DD e hk hl
theorem FP {h:PH} {n:Nat} {kvs:List (Key×PV)} {x:Str} {z:PV} (e:h[n]?=some (.dK kvs)) (hl:kvs.length < 16777216):iI (.ref n) (.str x) z h=some (h.set n (.dK (dA kvs (.inr x) z))):=by
 show oS (.ref n) (.str x) z h=_
 exact FJ e hl
@[simp] theorem Jb {mk mv:Me} {δ:Ev} {h:PH}:Iv mk mv δ h=(mk δ (h++[.dK []])).bind fun x h2=>(mv δ h2).bind fun y h3=>putD x y h.length h3:=(rfl)
end
end L2
set_option Elab.async false
set_option linter.all false
set_option maxRecDepth 100000
namespace L2
open PySem PySem.Spec PyProof.Rows PySem.SeqAt
section
variable {prog:Program} {w:World} {A:Around} {E:Value->Shared->Prop} {s:Shared}
variable {K:Type} [DecidableEq K] {knd:HeapKind prog w K}
end
section
variable {C:MC} {k:Nat} {X:Cx}
variable {h:PH}
end
end L2
set_option Elab.async false
set_option linter.all false
set_option maxRecDepth 100000
namespace L2
open PySem PySem.Spec PyProof.Rows
def DH:HO->Prop
 | .tup _=>False
 | .own _=>False
 | .tbl _=>False
 | _=>True
section
variable {X:Cx} {pins:List (Addr×Obj)} {σ:St} {H:Hp} {s:Shared}
theorem Inv.swap {d:Addr} {u u':HO} (I:Inv X pins σ H s) (hd:H d=some u) (hu:DH u) (hz:∀ o z,X.H₀ d≠some (.frz o z)) (new:bK X.prog X.w (upd H d u') s.heap d u'):Inv X pins σ (upd H d u') s:=by
 have nn:∀ b,H b=none->b≠d:=fun b n z=>by rw [z,hd] at n; cases n
 have nt:∀ b xs,H b=some (.tup xs)->b≠d:=fun b xs n z=>by rw [z,hd] at n; cases n; exact hu
 have no:∀ b y,H b=some (.own y)->b≠d:=fun b xs n z=>by rw [z,hd] at n; cases n; exact hu
 have nb:∀ b y,H b=some (.tbl y)->b≠d:=fun b xs n z=>by rw [z,hd] at n; cases n; exact hu
 refine ⟨I.ok,I.os,I.bare,⟨I.base.keep,I.base.slot,fun b o e n hx=>?_,I.base.there,fun b xs e=>?_,fun b o xs e=>?_,fun b ps e=>?_⟩,I.loc,I.cell,?_,fun x c e=>?_,fun p hp=>?_,fun b o e=>?_,I.len⟩
 ·have:=I.base.free b o e n hx
  rw [aE (nn b this)]; exact this
 ·have:=I.base.tups b xs e
  rw [aE (nt b xs this)]; exact this
 ·have:=I.base.frzs b o xs e
  have ne:b≠d:=fun z=>hz o xs (z ▸ e)
  rw [aE ne]; exact this
 ·obtain ⟨m,e1⟩:=I.base.tbls b ps e
  exact ⟨m,by rw [aE (nb b _ e1)]; exact e1⟩
 ·rw [aE (nn _ I.free)]; exact I.free
 ·have:=I.freeC x c e
  rw [aE (nn _ this)]; exact this
 ·obtain ⟨e,n,r⟩:=I.pin p hp
  exact ⟨e,by rw [aE (nn _ n)]; exact n,r⟩
 ·by_cases hb:b=d
  ·subst hb; rw [aJ] at e; cases e; exact new
  ·rw [aE hb] at e
   exact (I.hok b o e).stay (fun c v _ q=>q) (fun c q=>by rw [aE (no c b q)]; exact q) fun c xs q=>by rw [aE (nt c xs q)]; exact q
theorem Inv.nofrz {d:Addr} (I:Inv X pins σ H s) (hd:∀ o z,H d≠some (.frz o z)):∀ o z,X.H₀ d≠some (.frz o z):=fun o z e=>hd o z (I.base.frzs d o z e)
theorem Inv.freeze {d:Addr} {u:HO} {oc:Obj} (I:Inv X pins σ H s) (hd:H d=some u) (hu:DH u) (hf:∀ o z,u≠.frz o z) (ho:s.heap.get? d=some oc):Inv X pins σ (upd H d (.frz oc u)) s:=by
 have nt:∀ b xs,H b=some (.tup xs)->b≠d:=fun b xs n z=>by rw [z,hd] at n; cases n; exact hu
 have no:∀ b y,H b=some (.own y)->b≠d:=fun b xs n z=>by rw [z,hd] at n; cases n; exact hu
 refine I.swap hd hu (I.nofrz fun o z e=>?_) ⟨ho,(I.hok d u hd).stay (fun c v _ q=>q) (fun c q=>by rw [aE (no c d q)]; exact q) fun c xs q=>by rw [aE (nt c xs q)]; exact q⟩
 rw [hd] at e
 exact hf o z (Option.some.inj e)
theorem Inv.thaw {d:Addr} {u:HO} {oc:Obj} (I:Inv X pins σ H s) (hd:H d=some (.frz oc u)) (hz:∀ o z,X.H₀ d≠some (.frz o z)):Inv X pins σ (upd H d u) s:=by
 have nt:∀ b xs,H b=some (.tup xs)->b≠d:=fun b xs n z=>by rw [z,hd] at n; cases n
 have no:∀ b y,H b=some (.own y)->b≠d:=fun b xs n z=>by rw [z,hd] at n; cases n
 obtain ⟨_,q⟩:=I.hok d _ hd
 exact I.swap hd trivial hz (q.stay (fun c v _ q=>q) (fun c q=>by rw [aE (no c d q)]; exact q) fun c xs q=>by rw [aE (nt c xs q)]; exact q)
end
def ItI (dc:Addr) (oc:Obj) (u:HO) (ks:List (V×V)):It:=
 ⟨fun i H=>H dc=some (.frz oc u)/\i < ks.length,fun i H x H'=>∃ t kv,H t=none/\ks[i]?=some kv/\x=.ref t/\H'=upd H t (.tup [kv.1,kv.2]),fun i H=>H dc=some (.frz oc u)/\ks.length<=i⟩
def ItK (dc:Addr) (oc:Obj) (u:HO) (ks:List V):It:=
 ⟨fun i H=>H dc=some (.frz oc u)/\i < ks.length,fun i H x H'=>H'=H/\ks[i]?=some x,fun i H=>H dc=some (.frz oc u)/\ks.length<=i⟩
theorem zV {P:Program} {w:World} {K:PySem.W.Frag} {elts:List Expr} {x1:Nat} {pos:Pos} (it dc:Addr) (oc:Obj) (u:HO) (es:Array DictEntry) (ep:Nat) (h2:oc.data=.dict es ep) (ks:List (V×V)) (hl:ks.length=es.size)
  (hk:∀ (i:Nat) (hi:i < es.size),∃ kv,ks[i]?=some kv/\RelV kv.1 es[i].key/\RelV kv.2 es[i].val):Turn P w K (.Tuple elts x1 pos) (ItI dc oc u ks) [it] it (fun i h=>∃ ok ov,IsItemIter h it dc i es.size ep ok ov) where
 mem:=by simp
 obj:=fun i h ⟨ok,ov,st⟩ b hb=>by
  have e:b=it:=by simpa using hb
  subst e
  exact ⟨_,st,fun v z=>by cases z⟩
 keep:=fun i h h' ⟨ok,ov,st⟩ k=>⟨ok,ov,k it (by simp) _ st⟩
 item:=by
  intro X hP hw hK hc i pins s σ H E I hf ⟨ok,ov,st⟩ ⟨hg,hi⟩
  subst hP hw hK
  have hi':i < es.size:=by omega
  obtain ⟨kv,ekv,r1,r2⟩:=hk i hi'
  obtain ⟨f0,f1,f2,f3,f4,f5⟩:=hf it (by simp)
  have hoc:s.heap.get? dc=some oc:=(I.hok dc _ hg).1
  refine next_item st hoc h2 hi' fun h' out gt kp=>⟨_,rfl,?_⟩
  refine wpAny_letOwnedTupleGo_items (s:={ s with heap:=h' }) out fun h'' hI same=>?_
  have fr:H s.heap.objs.size=none:=I.hok.fresh (Nat.le_refl _)
  have ne:s.heap.objs.size≠it:=Nat.ne_of_gt (Heap.lt_size st)
  have gt':h''.get? s.heap.objs.size=some { cls:=.type "tuple",data:=.seq #[es[i].key,es[i].val] }:=(same.2 _ ne).trans gt
  have kp':∀ (b:Addr) (o:Obj),b≠it->s.heap.get? b=some o->h''.get? b=some o:=fun b o hb e=>(same.2 b hb).trans (kp b o hb e)
  have nit:∀ b u,H b=some u->b≠it:=fun b u e z=>by rw [z,f0] at e; cases e
  have nsz:∀ b u,H b=some u->b≠s.heap.objs.size:=fun b u e z=>by rw [z,fr] at e; cases e
  refine ⟨.ref s.heap.objs.size,upd H s.heap.objs.size (.tup [kv.1,kv.2]),?_,rfl,⟨_,kv,fr,ekv,rfl,rfl⟩,⟨_,_,hI⟩,fun b hb=>?_⟩
  ·refine Inv.step (s:=s) (h':=h'') (H:=H) (g':=s.gens) (d':=s.drawn) (t':=s.toks) (ch:=[it]) I (fun b hb=>?_) (fun b o _ _ hc e _=>kp' b o (fun z=>hc (by simp [z])) e) (fun b o _ _ hc e _=>⟨o.slots,kp' b o (fun z=>hc (by simp [z])) e⟩) (fun b o hc e n=>?_)
    (fun b o hc e=>⟨o,kp' b o (fun z=>hc (by simp [z])) e⟩) (fun b xs e=>by rw [aE (nsz _ _ e)]; exact e) (fun b o u e=>by rw [aE (nsz _ _ e)]; exact e) (fun b ps e=>⟨#[],by rw [aE (nsz _ _ e),e]; simp⟩) (fun m hm=>?_) (fun b u e=>?_) I.bare
   ·have e:b=it:=by simpa using hb
    subst e
    exact ⟨f3,f1,f4,f5⟩
   ·rw [aE (Nat.ne_of_lt (Heap.lt_size e))]; exact n
   ·obtain ⟨o,es,ep,ho,r⟩:=hm
    exact ⟨o,es,ep,kp' _ o (Ne.symm f1) ho,r⟩
   ·by_cases hb:b=s.heap.objs.size
    ·subst hb
     rw [aJ] at e
     cases e
     exact ⟨by show 2<=sizeLine; rw [jJ]; decide,[es[i].key,es[i].val],.cons r1 (.cons r2 .nil),_,gt',rfl,⟨_,rfl⟩,rfl⟩
    ·rw [aE hb] at e
     refine (I.hok b u e).stay (fun c v hc q=>kp' c v ?_ q) (fun c q=>by rw [aE (nsz _ _ q)]; exact q) fun c xs q=>by rw [aE (nsz _ _ q)]; exact q
     rcases hc with z | z
     ·rw [z]; exact nit b u e
     ·exact nit c _ z
  ·have e:b=it:=by simpa using hb
   subst e
   rw [aE (Ne.symm ne)]; exact f0
 done:=by
  intro X hP hw hK hc i pins s σ H E I hf ⟨ok,ov,st⟩ ⟨hg,hi⟩
  subst hP hw hK
  obtain ⟨f0,f1,f2,f3,f4,f5⟩:=hf it (by simp)
  have hoc:s.heap.get? dc=some oc:=(I.hok dc _ hg).1
  exact Bv (I.ok.hd hc) st hoc h2 (by omega) fun h' eb=>⟨rfl,I.turned (t':=s.toks) (fun b o hb e=>eb b o hb e) f0 f1 f3 f4 f5⟩
 self:=fun _ _ _ _ _ ⟨_,_,st⟩ h=>zC st h
theorem BN {P:Program} {w:World} {K:PySem.W.Frag} {tg:Expr} (it dc:Addr) (oc:Obj) (u:HO) (es:Array DictEntry) (ep:Nat) (h2:oc.data=.dict es ep) (ks:List V) (hl:ks.length=es.size)
  (hk:∀ (i:Nat) (hi:i < es.size),∃ kv,ks[i]?=some kv/\RelV kv es[i].key):Turn P w K tg (ItK dc oc u ks) [it] it (fun i h=>h.IsKeyIter it dc i es.size ep) where
 mem:=by simp
 obj:=fun i h st b hb=>by
  have e:b=it:=by simpa using hb
  subst e
  obtain ⟨o,e,c,d⟩:=st
  exact ⟨o,e,fun v z=>by rw [d] at z; cases z⟩
 keep:=fun i h h' st k=>st.at fun o e=>k it (by simp) o e
 item:=by
  intro X hP hw hK hc i pins s σ H E I hf st ⟨hg,hi⟩
  subst hP hw hK
  have hi':i < es.size:=by omega
  obtain ⟨kv,ekv,r1⟩:=hk i hi'
  obtain ⟨f0,f1,f2,f3,f4,f5⟩:=hf it (by simp)
  have hoc:s.heap.get? dc=some oc:=(I.hok dc _ hg).1
  refine DF st hoc h2 hi' fun h' st' sb=>?_
  have I1:Inv X pins σ H { s with heap:=h' }:=I.turned (t':=s.toks) (fun b o hb e=>(sb.2 b hb).trans e) f0 f1 f3 f4 f5
  obtain ⟨o,e,c,d⟩:=id st'
  exact ⟨_,rfl,Ao (s:={ s with heap:=h' }) e c d (by decide) ⟨kv,H,I1,r1,⟨rfl,ekv⟩,st',fun b hb=>(hf b hb).1⟩⟩
 done:=by
  intro X hP hw hK hc i pins s σ H E I hf st ⟨hg,hi⟩
  subst hP hw hK
  obtain ⟨f0,f1,f2,f3,f4,f5⟩:=hf it (by simp)
  have hoc:s.heap.get? dc=some oc:=(I.hok dc _ hg).1
  exact DG (I.ok.hd hc) st hoc h2 (by omega) fun h' eb=>⟨rfl,I.turned (t':=s.toks) (fun b o hb e=>eb b o hb e) f0 f1 f3 f4 f5⟩
 self:=fun _ _ _ _ _ st h=>wpAny_pyIter_keyiter st h
def pF:MO->Option (List PV)
 | .dK kvs=>some (kvs.map fun kv=>.tup [kP kv.1,kv.2])
 | .dD kvs=>some (kvs.map fun kv=>.tup [kv.1,kv.2])
 | _=>none
def pG:MO->Option (List PV)
 | .dK kvs=>some (kvs.map fun kv=>kP kv.1)
 | .dD kvs=>some (kvs.map (·.1))
 | _=>none
def wQ:Option MO->Bool
 | some (.dK _)=>true
 | some (.dD _)=>true
 | _=>false
def wkI (b:Bool) (x:PV) (h:PH):Option (Nat×MO×List PV):=match x with
 | .ref n=>match h[n]? with
  | some (.vw 0 d)=>if b then (h[d]?).bind fun o=>(pF o).map fun xs=>(d,o,xs) else none
  | some o=>(pG o).map fun xs=>(n,o,xs)
  | none=>none
 | _=>none
def mG (b:Bool) (m:Me):Mi:=fun δ h=>(m δ h).bind fun x h1=>match wkI b x h1 with
 | some (d,o,xs)=>.ok ⟨xs,fun _=>true⟩ (h1.set d (.fz o))
 | none=>.bad
section
variable {C:MC} {k:Nat} {X:Cx} {pins:List (Addr×Obj)} {σ:St} {H:Hp} {s:Shared} {φ:List Addr}
theorem Iw {k:Key} {v:Value} (h:lM k v=true):RelV (kV k) v:=by
 rcases aR h with ⟨i,t,rfl,rfl⟩ | ⟨x,t,rfl,rfl⟩
 ·exact ⟨t,rfl⟩
 ·exact ⟨t,rfl⟩
theorem lF {α β:Type} {F:α->β->Prop}:∀ {l:List α} {m:List β},Paired F l m->∀ {i:Nat} {a:α},l[i]?=some a->∃ b,m[i]?=some b/\F a b
 | _,_,.nil,i,a,e=>by simp at e
 | _,_,.cons (a:=x) (b:=y) r t,0,a,e=>by
  have:x=a:=by simpa using e
  subst this
  exact ⟨y,rfl,r⟩
 | _,_,.cons r t,i+1,a,e=>by
  obtain ⟨b,h1,h2⟩:=lF t (i:=i) (a:=a) (by simpa using e)
  exact ⟨b,by simpa using h1,h2⟩
theorem iT {α β:Type} {F:α->β->Prop}:∀ {l:List α} {m:List β},Paired F l m->∀ {i:Nat} {b:β},m[i]?=some b->∃ a,l[i]?=some a/\F a b
 | _,_,.nil,i,a,e=>by simp at e
 | _,_,.cons (a:=x) (b:=y) r t,0,b,e=>by
  have:y=b:=by simpa using e
  subst this
  exact ⟨x,rfl,r⟩
 | _,_,.cons r t,i+1,b,e=>by
  obtain ⟨a,h1,h2⟩:=iT t (i:=i) (b:=b) (by simpa using e)
  exact ⟨a,by simpa using h1,h2⟩
theorem AQ (a:Key):RV C φ H (kP a) (kV a):=by cases a <;> rfl
theorem DI {kvs:List (Key×PV)} {ks:List (Key×V)} (rk:RKv C φ H kvs ks):RVs C φ H (kvs.map fun kv=>kP kv.1) ((ks.map fun q=>(kV q.1,q.2)).map (·.1)):=by
 unfold RKv at rk
 induction rk with
 | nil=>trivial
 | @cons p q ps qs e t ih=>exact ⟨by show RV C φ H (kP p.1) (kV q.1); rw [e.1]; exact AQ q.1,ih⟩
theorem DJ {kvs:List (PV×PV)} {ks:List (PV×Addr×V)} (rk:RKd C φ H kvs ks):RVs C φ H (kvs.map (·.1)) ((ks.map fun q=>(V.ref q.2.1,q.2.2)).map (·.1)):=by
 unfold RKd at rk
 induction rk with
 | nil=>trivial
 | @cons p q ps qs e t ih=>exact ⟨e.2.2.1,ih⟩
structure KI (C:MC) (φ:List Addr) (H:Hp) (s:Shared) (b:Addr) (o:MO) (ks:List (V×V)) (u:HO) (oc:Obj) (es:Array DictEntry) (ep:Nat):Prop where
 at':H b=some u
 nf:DH u
 nz:∀ o z,u≠.frz o z
 nt:lQ (some u)
 get:s.heap.get? b=some oc
 cls:oc.cls=.type "dict"
 data:oc.data=.dict es ep
 nsys:(b == sysModules)=false
 fz:∀ φ' H',φ<+:φ'->H' b=some (.frz oc u)->Kp H H'->RO C φ' H' b (.fz o)
 len:ks.length=es.size
 ent:∀ (i:Nat) (hi:i < es.size),∃ kv,ks[i]?=some kv/\RelV kv.1 es[i].key/\RelV kv.2 es[i].val
 keys:∀ xs,pG o=some xs->RVs C φ H xs (ks.map (·.1))
 items:∀ xs,pF o=some xs->xs.length=ks.length/\∀ (i:Nat) p,xs[i]?=some p->∃ p1 p2 kv,p=.tup [p1,p2]/\ks[i]?=some kv/\RV C φ H p1 kv.1/\RV C φ H p2 kv.2
theorem GL {h:PH} {d:Nat} {b:Addr} {o:MO} (c:Cxt C k X) (I:Inv X pins σ H s) (rh:RH C φ H h) (hb:φ[d]?=some b) (ho:h[d]?=some o) (hd:wQ (some o)=true):∃ ks u oc es ep,KI C φ H s b o ks u oc es ep:=by
 cases o with
 | dK kvs=>
  obtain ⟨ks,hH,rk⟩:=rh.at' d b _ hb ho
  obtain ⟨z,hm,vs,rel,dd⟩:=vG I.hok hH
  obtain ⟨oc,es,ep,g1,g2,g3,g4,g5,g6⟩:=dd
  have l1:ks.length=vs.length:=Paired.length rel
  have l2:es.size=vs.length:=by have:=oX g5; have:=congrArg List.length this; simpa using this
  refine ⟨ks.map fun q=>(kV q.1,q.2),_,oc,es,ep,hH,trivial,(fun _ _ e=>by cases e),trivial,g1,g2.1,g3,hm,fun φ' H' p e t=>⟨oc,ks,e,rk.mono p t⟩,by rw [List.length_map,l1,l2],fun i hi=>?_,fun xs hx=>?_,fun xs hx=>?_⟩
  ·have hv:vs[i]?=some (vs[i]'(by omega)):=by simp [show i < vs.length by omega]
   have he:es.toList[i]?=some es[i]:=by simp [hi]
   obtain ⟨q1,q2⟩:=g5.get? he hv
   obtain ⟨kv,ekv,rkv⟩:=iT rel hv
   refine ⟨(kV kv.1,kv.2),by rw [List.getElem?_map,ekv]; rfl,?_,?_⟩
   ·show RelV (kV kv.1) es[i].key
    rw [rkv.1]
    exact Iw q1
   ·show RelV kv.2 es[i].val
    rw [q2]
    exact rkv.2
  ·cases hx
   exact DI rk
  ·cases hx
   have lk:kvs.length=ks.length:=Paired.length rk
   refine ⟨by rw [List.length_map,List.length_map,lk],fun i p e=>?_⟩
   rw [List.getElem?_map] at e
   obtain ⟨kv,e1,rfl⟩:=Option.map_eq_some_iff.mp e
   obtain ⟨q,e2,r2⟩:=lF rk e1
   exact ⟨_,_,(kV q.1,q.2),rfl,by rw [List.getElem?_map,e2]; rfl,by show RV C φ H (kP kv.1) (kV q.1); rw [r2.1]; exact AQ q.1,r2.2⟩
 | dD kvs=>
  obtain ⟨ks,hH,rk⟩:=rh.at' d b _ hb ho
  have hO:bK X.prog X.w H s.heap b (dDO C.w b ks):=I.hok b _ hH
  obtain ⟨⟨hz,hm,xs,rx,oc,es,ep,g1,g2,g3,g4,g5⟩,_⟩:=hO
  have l1:ks.length=xs.length:=Paired.length rx
  have l2:es.size=xs.length:=by have:=congrArg List.length g4; simpa using this
  refine ⟨ks.map fun q=>(V.ref q.2.1,q.2.2),_,oc,es,ep,hH,trivial,(fun _ _ e=>by cases e),trivial,g1,g2.1,g3,hm,fun φ' H' p e t=>⟨oc,ks,e,rk.mono p t⟩,by rw [List.length_map,l1,l2],fun i hi=>?_,fun xs hx=>?_,fun xs hx=>?_⟩
  ·have hv:xs[i]?=some (xs[i]'(by omega)):=by simp [show i < xs.length by omega]
   have he:es.toList[i]?=some es[i]:=by simp [hi]
   rw [g4,List.getElem?_map,hv] at he
   have he':=Option.some.inj he
   obtain ⟨kv,ekv,rkv⟩:=iT rx hv
   refine ⟨(V.ref kv.2.1,kv.2.2),by rw [List.getElem?_map,ekv]; rfl,?_,?_⟩
   ·show RelV (V.ref kv.2.1) es[i].key
    rw [<- he',rkv.2.1]
    rfl
   ·show RelV kv.2.2 es[i].val
    rw [<- he']
    exact rkv.2.2
  ·cases hx
   exact DJ rk
  ·cases hx
   have lk:kvs.length=ks.length:=Paired.length rk
   refine ⟨by rw [List.length_map,List.length_map,lk],fun i p e=>?_⟩
   rw [List.getElem?_map] at e
   obtain ⟨kv,e1,rfl⟩:=Option.map_eq_some_iff.mp e
   obtain ⟨q,e2,r2⟩:=lF rk e1
   exact ⟨_,_,(V.ref q.2.1,q.2.2),rfl,by rw [List.getElem?_map,e2]; rfl,r2.2.2.1,r2.2.2.2⟩
 | _=>cases hd
theorem DK {o:MO} {xs:List PV} (h:pG o=some xs):wQ (some o)=true:=by cases o <;> first | rfl | cases h
theorem BO {o:MO} {xs:List PV} (h:pF o=some xs):wQ (some o)=true:=by cases o <;> first | rfl | cases h
theorem FQ {b:Bool} {x:PV} {h:PH} {d:Nat} {o:MO} {xs:List PV} (e:wkI b x h=some (d,o,xs)):∃ n,x=.ref n/\((h[n]?=some (.vw 0 d)/\b=true/\h[d]?=some o/\pF o=some xs)\/(h[n]?=some o/\n=d/\pG o=some xs)):=by
 unfold wkI at e
 split at e
 ·rename_i n
  refine ⟨n,rfl,?_⟩
  split at e
  ·rename_i d' hv
   split at e
   ·rename_i hb
    cases e1:h[d']? with
    | none=>rw [e1] at e; cases e
    | some o'=>
     rw [e1] at e
     cases e2:pF o' with
     | none=>simp [e2] at e
     | some ys=>
      simp [e2] at e
      obtain ⟨rfl,rfl,rfl⟩:=e
      exact .inl ⟨hv,hb,e1,e2⟩
   ·cases e
  ·rename_i o' _ hv
   cases e2:pG o' with
   | none=>rw [e2] at e; cases e
   | some ys=>
    rw [e2] at e
    simp at e
    obtain ⟨rfl,rfl,rfl⟩:=e
    exact .inr ⟨hv,rfl,e2⟩
  ·cases e
 ·cases e
def walk2 (b:Bool) (x:PV) (h1:PH):Rs Wk:=match wkI b x h1 with
 | some (d,o,xs)=>.ok ⟨xs,fun _=>true⟩ (h1.set d (.fz o))
 | none=>.bad
theorem DL {iter tg:Expr} {m:Me} (b:Bool) (hb:b=true->∃ elts x1 pos,tg=.Tuple elts x1 pos) (h:SE C k X iter m):SI C k X tg iter (mG b m):=fun c=>by
 intro pins s σ H R I q
 obtain ⟨φ,δ,hh,rh,re,p⟩:=q
 have key:rd C m σ H fun v H1=>∃ φ1 x h1,φ<+:φ1/\Kp H H1/\RH C φ1 H1 h1/\RV C φ1 H1 x v/\cB C φ1 H1 (walk2 b x h1) R:=by
  refine ⟨φ,δ,hh,rh,re,?_⟩
  unfold mG at p
  cases e:m δ hh with
  | ok x h1=>
   rw [e] at p
   intro φ' v H' p' t' rh' rv'
   refine ⟨φ',x,h1,p',t',rh',rv',?_⟩
   show cB C φ' H' (walk2 b x h1) R
   have p0:cB C φ H (walk2 b x h1) R:=p
   cases e2:walk2 b x h1 with
   | ok w h2=>rw [e2] at p0; exact fun φ2 H2 J p2 t2=>p0 φ2 H2 J (p'.trans p2) (t'.trans t2)
   | exc z h2=>rw [e2] at p0; exact fun φ2 H2 p2 t2=>p0 φ2 H2 (p'.trans p2) (t'.trans t2)
   | bad=>rw [e2] at p0; exact p0
  | exc x h1=>rw [e] at p; exact p
  | bad=>rw [e] at p; exact p
 refine thn (h c pins s σ H _ I key) fun v s1 hz=>?_
 obtain ⟨x,H1,I1,r1,φ1,x',h1,p1,t1,rh1,rv1,q1⟩:=hz
 unfold walk2 at q1
 cases e:wkI b x' h1 with
 | none=>rw [e] at q1; exact q1.elim
 | some t=>
  obtain ⟨d,o,xs⟩:=t
  rw [e] at q1
  dsimp only at q1
  obtain ⟨n,rfl,hcase⟩:=FQ e
  obtain ⟨a,rfl,ha⟩:=rv1
  cases r1
  -- the frozen heap
  have fin:∀ {bb:Addr} {ks:List (V×V)} {u:HO} {oc:Obj} {es:Array DictEntry} {ep:Nat} (hbb:φ1[d]?=some bb) (W:KI C φ1 H1 s1 bb o ks u oc es ep) (ob:Obj) (J:It) (tn:Nat->Heap->Prop),(∀ φ2 H2 h2,φ1<+:φ2->Kp (upd H1 bb (.frz oc u)) H2->RH C φ2 H2 h2->∀ i:Nat,
    (i < xs.length->J.go i H2/\∀ x H',J.yld i H2 x H'->(∃ p,xs[i]?=some p/\RV C φ2 H' p x)/\Kp H2 H'/\RH C φ2 H' h2)/\(xs.length<=i->J.stop i H2))->
    Turn X.prog X.w X.K tg J [s1.heap.objs.size] s1.heap.objs.size tn->tn 0 (s1.heap.push ob)->PIE X pins σ tg R (.ref s1.heap.objs.size) { s1 with heap:=s1.heap.push ob }:=fun {bb ks u oc es ep} hbb W ob J tn hJ hT h0=>by
   have I2:=I1.freeze W.at' W.nf W.nz W.get
   have nt:lQ (H1 bb):=by rw [W.at']; exact W.nt
   refine ⟨s1.heap.objs.size,[s1.heap.objs.size],tn,J,upd H1 bb (.frz oc u),rfl,I2.kept (t':=s1.toks) fun b o e=>Heap.get?_push_of_some _ e,hT,h0,fun b hb=>?_,?_⟩
   ·have e:b=s1.heap.objs.size:=by simpa using hb
    subst e
    exact I2.fpOk (Nat.le_refl _) (I2.hok.fresh (Nat.le_refl _))
   ·exact q1 φ1 _ J List.prefix_rfl (Kp.upd nt) (rh1.write hbb nt (W.fz φ1 _ List.prefix_rfl aJ (Kp.upd nt))) fun φ2 H2 h2 p2 t2 rh2 _ i=>hJ φ2 H2 h2 p2 t2 rh2 i
  rcases hcase with ⟨hv,hbt,ho,hx⟩ | ⟨ho,rfl,hx⟩
  ·obtain ⟨bb,hbb,hH⟩:=rh1.at' n a _ ha hv
   obtain ⟨ks,u,oc,es,ep,W⟩:=GL c I1 rh1 hbb ho (BO hx)
   obtain ⟨elts,x1,pos,rfl⟩:=hb hbt
   have hview:s1.heap.IsItemsView a bb:=(I1.hok a _ hH).1
   obtain ⟨lx,ex⟩:=W.items xs hx
   refine zB hview W.get W.data (fin hbb W _ (ItI bb oc u ks) _ (fun φ2 H2 h2 p2 t2 rh2 i=>⟨fun hi=>⟨⟨t2.2 _ _ _ aJ,by omega⟩,fun x H' y=>?_⟩,fun hi=>⟨t2.2 _ _ _ aJ,by omega⟩⟩) (zV _ bb oc u es ep W.data ks W.len W.ent) ⟨.none,.none,Heap.get?_push_size _ rfl⟩)
   obtain ⟨t,kv,ht,ekv,rfl,rfl⟩:=y
   obtain ⟨p1,p2',kv',epp,ekv',rp1,rp2⟩:=ex i xs[i] (by simp [hi])
   rw [ekv] at ekv'
   cases ekv'
   have nt:lQ (H1 bb):=by rw [W.at']; exact W.nt
   have T:Kp H1 (upd H2 t (.tup [kv.1,kv.2])):=(Kp.upd nt).trans (t2.trans (Kp.new ht))
   refine ⟨⟨xs[i],by simp [hi],?_⟩,Kp.new ht,rh2.aside ht⟩
   rw [epp]
   exact ⟨t,[kv.1,kv.2],rfl,.inl (.inl aJ),rp1.mono p2 T,rp2.mono p2 T,trivial⟩
  ·obtain ⟨ks,u,oc,es,ep,W⟩:=GL c I1 rh1 ha ho (DK hx)
   have rk:=W.keys xs hx
   have lx:=rk.length
   rw [List.length_map] at lx
   refine BM ⟨oc,W.get,W.cls⟩ W.nsys W.get W.data (fin ha W _ (ItK a oc u (ks.map (·.1))) _ (fun φ2 H2 h2 p2 t2 rh2 i=>⟨fun hi=>⟨⟨t2.2 _ _ _ aJ,by rw [List.length_map]; omega⟩,fun x H' y=>?_⟩,fun hi=>⟨t2.2 _ _ _ aJ,by rw [List.length_map]; omega⟩⟩) (BN _ a oc u es ep W.data (ks.map (·.1)) (by rw [List.length_map]; exact W.len) fun i hi=>?_) ⟨_,Heap.get?_push_size _ rfl,rfl,rfl⟩)
   ·obtain ⟨rfl,ey⟩:=y
    have nt:lQ (H1 a):=by rw [W.at']; exact W.nt
    obtain ⟨p,ep',rp⟩:=rk.get ey
    exact ⟨⟨p,ep',rp.mono p2 ((Kp.upd nt).trans t2)⟩,Kp.refl _,rh2⟩
   ·obtain ⟨kv,ekv,r1,_⟩:=W.ent i hi
    exact ⟨kv.1,by rw [List.getElem?_map,ekv]; rfl,r1⟩
theorem RH.writeQ {h:PH} {H:Hp} {φ:List Addr} (r:RH C φ H h) {n:Nat} {a:Addr} {u:HO} {o:MO} (e:φ[n]?=some a) (t:Kq H (upd H a u)) (q:RO C φ (upd H a u) a o):RH C φ (upd H a u) (h.set n o):=by
 refine ⟨by rw [List.length_set]; exact r.len,r.nd,fun m b ob h1 h2=>?_⟩
 by_cases hm:n=m
 ·subst hm
  rw [e] at h1; cases h1
  have hl:n < h.length:=by rw [<- r.len]; exact (List.getElem?_eq_some_iff.mp e).1
  rw [List.getElem?_set_self hl] at h2
  cases h2
  exact q
 ·rw [List.getElem?_set_ne hm] at h2
  have hb:b≠a:=fun z=>by
   subst z
   exact hm ((List.getElem?_inj (List.getElem?_eq_some_iff.mp e).1 r.nd).mp (e.trans h1.symm))
  exact (r.at' m b ob h1 h2).stayQ List.prefix_rfl t (aE hb)
def fN (d:Nat) (h:PH):Option PH:=match h[d]? with
 | some (.fz o)=>some (h.set d o)
 | _=>none
theorem gS {φ φ':List Addr} {H H':Hp} {h h2 h3:PH} {d:Nat} (rh:RH C φ H h) (hd:wQ h[d]?=true) (p:φ<+:φ') (t:Kp H H') (rh2:RH C φ' H' h2) (e:fN d h2=some h3):
  ∃ a oc u,H' a=some (.frz oc u)/\(∀ o z,H a≠some (.frz o z))/\Kp H (upd H' a u)/\RH C φ' (upd H' a u) h3/\Kq H' (upd H' a u):=by
 unfold fN at e
 split at e
 ·rename_i o ho
  cases e
  cases e0:h[d]? with
  | none=>rw [e0] at hd; cases hd
  | some o0=>
   rw [e0] at hd
   obtain ⟨a,ha,r0⟩:=rh.get e0
   have nf:∀ o z,H a≠some (.frz o z):=fun o z q=>by
    cases o0 with
    | dK kvs=>obtain ⟨ks,q2,_⟩:=r0; rw [q] at q2; cases q2
    | dD kvs=>obtain ⟨ks,q2,_⟩:=r0; rw [q] at q2; cases q2
    | _=>cases hd
   have ha':=dR p ha
   have r1:=rh2.at' d a _ ha' ho
   have gen:∀ oc u,H' a=some (.frz oc u)->(∀ xs,u≠.tup xs)->(∀ xs,u≠.lst xs)->Kp H (upd H' a u)/\Kq H' (upd H' a u):=fun oc u q nt nl=>by
    have kq:Kq H' (upd H' a u):=⟨fun b xs z=>by
     have ne:b≠a:=by
      rintro rfl
      rcases z with z | ⟨ob,z⟩
      ·rw [q] at z; cases z
      ·rw [q] at z; cases z; exact nt _ rfl
     unfold Rd; rw [aE ne]; exact z,fun b ob xs z=>by
     have ne:b≠a:=by
      rintro rfl
      rw [q] at z; cases z; exact nl _ rfl
     rw [aE ne]; exact z⟩
    refine ⟨⟨fun b xs z=>kq.1 b xs (t.1 b xs z),fun b ob z q2=>?_⟩,kq⟩
    have ne:b≠a:=fun z2=>nf ob z (z2 ▸ q2)
    rw [aE ne]; exact t.2 b ob z q2
   cases o with
   | dK kvs=>
    obtain ⟨oc,ks,q,r⟩:=r1
    obtain ⟨k1,k2⟩:=gen oc _ q (fun _ z=>by cases z) (fun _ z=>by cases z)
    exact ⟨a,oc,_,q,nf,k1,rh2.writeQ ha' k2 ⟨ks,aJ,r.monoQ List.prefix_rfl k2⟩,k2⟩
   | dD kvs=>
    obtain ⟨oc,ks,q,r⟩:=r1
    obtain ⟨k1,k2⟩:=gen oc _ q (fun _ z=>by cases z) (fun _ z=>by cases z)
    exact ⟨a,oc,_,q,nf,k1,rh2.writeQ ha' k2 ⟨ks,aJ,r.monoQ List.prefix_rfl k2⟩,k2⟩
   | _=>exact r1.elim
 ·cases e
def wkD (b:Bool) (m:Me) (δ:Ev) (h:PH):Option Nat:=match m δ h with
 | .ok x h1=>match wkI b x h1 with
  | some (d,_,_)=>if wQ h[d]?=true then some d else none
  | none=>none
 | _=>none
theorem Iy {b:Bool} {m:Me} {δ:Ev} {h:PH} {d:Nat} (e:wkD b m δ h=some d):wQ h[d]?=true:=by
 unfold wkD at e
 split at e
 ·split at e
  ·split at e
   ·rename_i hd
    cases e
    exact hd
   ·cases e
  ·cases e
 ·cases e
theorem RE.monoQ {φ:List Addr} {H H':Hp} {δ:Ev} {σ:St} (t:Kq H H') (h:RE C φ H δ σ):RE C φ H' δ σ:=⟨h.1,fun i x e=>let ⟨v,q,r⟩:=h.2 i x e; ⟨v,q,r.monoQ List.prefix_rfl t⟩⟩
def gE (d:Nat):Fl->Fl
 | .nx δ h=>match fN d h with
  | some h3=>.nx δ h3
  | none=>.bad
 | .rt p h=>match fN d h with
  | some h3=>.rt p h3
  | none=>.bad
 | .bk δ h=>match fN d h with
  | some h3=>.bk δ h3
  | none=>.bad
 | .ct δ h=>match fN d h with
  | some h3=>.ct δ h3
  | none=>.bad
 | .exc x h=>.exc x h
 | .bad=>.bad
def gG (b:Bool) (m:Me) (ms:Ms):Ms:=fun δ h=>match wkD b m δ h with
 | some d=>gE d (ms δ h)
 | none=>.bad
def AR (H:Hp) (P:Hp->Prop) (H2:Hp):Prop:=∃ a oc u,H2 a=some (.frz oc u)/\(∀ o z,H a≠some (.frz o z))/\P (upd H2 a u)
theorem DM {st:Stmt} {ms:Ms} (b:Bool) (m:Me) (he:SSt C k X st ms):SSt C k X st (gG b m ms):=fun c=>by
 intro pins s σ H D I q
 obtain ⟨φ,δ,h,rh,re,p⟩:=q
 unfold gG at p
 cases ed:wkD b m δ h with
 | none=>rw [ed] at p; exact p.elim
 | some d=>
  rw [ed] at p
  dsimp only at p
  have hd:=Iy ed
  refine thn (he c pins s σ H { nx:=fun σ=>AR H (D.nx σ),rt:=fun v=>AR H (D.rt v),bk:=fun σ=>AR H (D.bk σ),ct:=fun σ=>AR H (D.ct σ) } I ⟨φ,δ,h,rh,re,?_⟩) ?_
  ·cases em:ms δ h with
   | bad=>rw [em] at p; exact p.elim
   | exc x h2=>rw [em] at p; exact p
   | nx δ2 h2=>
    rw [em] at p
    intro φ' v H' pp tt rh' rv'
    cases et:fN d h2 with
    | none=>simp only [gE,et] at p; exact p.elim
    | some h3=>
     simp only [gE,et] at p
     obtain ⟨a,oc,u,q,nf,k1,rh3,k2⟩:=gS rh hd pp tt rh' et
     exact ⟨a,oc,u,q,nf,p φ' v _ pp k1 rh3 (RE.monoQ k2 rv')⟩
   | rt x h2=>
    rw [em] at p
    intro φ' v H' pp tt rh' rv'
    cases et:fN d h2 with
    | none=>simp only [gE,et] at p; exact p.elim
    | some h3=>
     simp only [gE,et] at p
     obtain ⟨a,oc,u,q,nf,k1,rh3,k2⟩:=gS rh hd pp tt rh' et
     exact ⟨a,oc,u,q,nf,p φ' v _ pp k1 rh3 (rv'.monoQ List.prefix_rfl k2)⟩
   | bk δ2 h2=>
    rw [em] at p
    intro φ' v H' pp tt rh' rv'
    cases et:fN d h2 with
    | none=>simp only [gE,et] at p; exact p.elim
    | some h3=>
     simp only [gE,et] at p
     obtain ⟨a,oc,u,q,nf,k1,rh3,k2⟩:=gS rh hd pp tt rh' et
     exact ⟨a,oc,u,q,nf,p φ' v _ pp k1 rh3 (RE.monoQ k2 rv')⟩
   | ct δ2 h2=>
    rw [em] at p
    intro φ' v H' pp tt rh' rv'
    cases et:fN d h2 with
    | none=>simp only [gE,et] at p; exact p.elim
    | some h3=>
     simp only [gE,et] at p
     obtain ⟨a,oc,u,q,nf,k1,rh3,k2⟩:=gS rh hd pp tt rh' et
     exact ⟨a,oc,u,q,nf,p φ' v _ pp k1 rh3 (RE.monoQ k2 rv')⟩
  ·intro f s1 hf
   cases f with
   | next=>
    obtain ⟨σ',H2,I2,a,oc,u,q,nf,hq⟩:=hf
    exact ⟨σ',_,I2.thaw q (I.nofrz nf),hq⟩
   | brk=>
    obtain ⟨σ',H2,I2,a,oc,u,q,nf,hq⟩:=hf
    exact ⟨σ',_,I2.thaw q (I.nofrz nf),hq⟩
   | cont=>
    obtain ⟨σ',H2,I2,a,oc,u,q,nf,hq⟩:=hf
    exact ⟨σ',_,I2.thaw q (I.nofrz nf),hq⟩
   | ret w=>
    obtain ⟨v,σ',H2,I2,r,a,oc,u,q,nf,hq⟩:=hf
    exact ⟨v,σ',_,I2.thaw q (I.nofrz nf),r,hq⟩
end
section
variable {h h1:PH} {δ:Ev}
end
end L2
set_option Elab.async false
set_option linter.all false
set_option maxRecDepth 100000
namespace L2
open PySem PySem.Spec PyProof.Rows
section
variable {C:MC} {k:Nat} {X:Cx}
end
section
variable {h:PH}
end
end L2
set_option Elab.async false
set_option linter.all false
set_option maxRecDepth 100000
namespace L2
open PySem PySem.Spec PyProof.Rows PySem.SeqAt
section
variable {X:Cx} {pins:List (Addr×Obj)} {σ:St} {H:Hp} {s:Shared}
end
section
variable {C:MC} {k:Nat} {X:Cx} {pins:List (Addr×Obj)} {σ:St} {H:Hp} {s:Shared} {φ:List Addr} {h:PH}
end
end L2
set_option Elab.async false
set_option linter.all false
set_option maxRecDepth 100000
namespace L2
open PySem PySem.Spec PyProof.Rows PySem.SeqAt PySem.W
section
variable {X:Cx} {pins:List (Addr×Obj)} {σ:St} {H:Hp} {s:Shared} {A:Around} {E:Value->Shared->Prop}
end
def hdk:PV->Option Nat
 | .tup (.int _ :: _)=>some 0
 | .tup (.str _ :: _)=>some 1
 | .tup (.tup _ :: _)=>some 2
 | _=>none
def ltV (x y:PV):Bool:=match x.d,y.d with
 | some d,some e=>ltD d e == some true
 | _,_=>false
structure OkV (b:Bool) (ks:List PV):Prop where
 dat:∀ x∈ks,∃ xs ds,x=.tup xs/\PV.ds xs=some ds/\D.depths ds<=40
 hd:∃ t,((t == 2)=!b)/\t<=2/\∀ x∈ks,hdk x=some t
 can:∀ x∈ks,∀ y∈ks,∃ d e c,x.d=some d/\y.d=some e/\ltD d e=some c
 tr:∀ x∈ks,∀ y∈ks,∀ z∈ks,ltV y x=false->ltV z y=false->ltV z x=false
 as:∀ x∈ks,∀ y∈ks,ltV x y=true->ltV y x=false
 tot:∀ x∈ks,∀ y∈ks,ltV x y=false->ltV y x=false->x=y
section
variable {C:MC} {k:Nat} {X:Cx} {pins:List (Addr×Obj)} {σ:St} {H:Hp} {s:Shared} {φ:List Addr} {A:Around} {E:Value->Shared->Prop}
end
section
variable {C:MC} {k:Nat} {X:Cx}
section
variable {x:Str} {st:Stmt} {q:Addr} {fd:FuncData} {pn:List Str} {j:Nat} {f:Fn}
end
section
variable {kf:Str} {st:Stmt} {q:Addr} {fd:FuncData} {pn:List Str} {j jb:Nat} {f:Fn} {e:Expr} {me:Me} {p pos kp kpos rp rpos:Pos}
end
end
section
variable {prog:Program} {w:World} {A:Around} {E:Value->Shared->Prop} {s:Shared}
end
section
variable {C:MC} {k:Nat} {X:Cx}
end
section
variable {h:PH}
end
end L2
set_option Elab.async false
set_option linter.all false
set_option maxRecDepth 100000
namespace L2
open PySem PySem.Spec PyProof.Rows
section
variable {prog:Program} {w:World} {A:Around} {E:Value->Shared->Prop} {s:Shared} {a:Addr}
end
section
variable {C:MC} {k:Nat} {X:Cx}
end
end L2
set_option Elab.async false
set_option linter.all false
set_option maxRecDepth 100000
namespace L2
open PySem PySem.Spec PyProof.Rows
section
variable {C:MC} {k:Nat} {X:Cx}
end
section
variable {δ:Ev} {h:PH} {E:FE}
end
end L2
set_option Elab.async false
set_option linter.all false
set_option maxRecDepth 100000
namespace L2
open PySem PySem.Spec PyProof.Rows
section
variable {C:MC} {k:Nat} {X:Cx}
end
end L2
set_option Elab.async false
set_option linter.all false
set_option maxRecDepth 100000
namespace L2
open PySem PySem.Spec PyProof.Rows PySem.SeqAt
structure Mk0 (K:PySem.W.Frag) (C:Addr):Prop where
 makes:PySem.W.makesIn K C=true
 init:PySem.W.findIn K (.ref C) "__init__" = some (some (.builtin "object.__init__"))
 kp:PySem.W.keepIn K (.ref C)=true
section
variable {X:Cx} {C:Addr}
end
def Iz (cn:Str):Me:=fun δ h=>.ok (.ref h.length) (h++[.ins cn []])
section
variable {C:MC} {k:Nat} {X:Cx} {x cn:Str} {ca:Addr} {p pos:Pos}
end
section
@[simp] theorem Jc {cn:Str} {δ:Ev} {h:PH}:Iz cn δ h=.ok (.ref h.length) (h++[.ins cn []]):=(rfl)
end
end L2
set_option Elab.async false
set_option linter.all false
set_option maxRecDepth 100000
namespace L2
open PySem PySem.Spec PyProof.Rows
section
variable {X:Cx} {pins:List (Addr×Obj)} {σ:St} {H:Hp} {s:Shared} {C:MC} {φ:List Addr}
end
section
variable {C:MC} {k:Nat} {X:Cx}
end
end L2
set_option Elab.async false
set_option linter.all false
set_option maxRecDepth 100000
namespace L2
open PySem PySem.Spec PyProof.Rows
section
variable {prog:Program} {w:World} {A:Around} {E:Value->Shared->Prop} {s:Shared} {a:Addr}
end
section
variable {C:MC} {k:Nat} {X:Cx}
end
end L2
set_option Elab.async false
set_option linter.all false
set_option maxRecDepth 100000
namespace L2
open PySem PySem.Spec PyProof.Rows PySem.SeqAt PySem.W
open Classical in
noncomputable def KJ (b:Bool) (m:Nat) (ks ys:List PV):Option (List PV):=if ks.length < 64/\ks.length=ys.length/\OkN m ks/\(∀ a∈ks.zip ys,∀ c∈ks.zip ys,a.1=c.1->a.2=c.2) then some ((PySem.W.katRev b (GK Prod.fst (ks.zip ys))).map (·.2)) else none
noncomputable def wR (f:Fn) (b:Bool) (kb:Nat) (ys:List PV):List PV->List PV->PH->Rs PV
 | [],ks,h=>match KJ b kb ks ys with
  | some zs=>.ok (.ref h.length) (h++[.lst zs])
  | none=>.bad
 | x :: xs,ks,h=>(f [x] h).bind fun k h1=>wR f b kb ys xs (ks++[k]) h1
noncomputable def AS (f:Fn) (b:Bool) (kb:Nat) (x:PV) (h:PH):Rs PV:=match fZ x h with
 | some ys=>if ys.length < 64 then wR f b kb ys ys [] h else .bad
 | none=>.bad
noncomputable def FS (f:Fn) (b:Bool) (kb:Nat) (me:Me):Me:=fun δ h=>(me δ h).bind fun x h1=>AS f b kb x h1
section
variable {C:MC} {k:Nat} {X:Cx}
section
variable {x:Str} {st:Stmt} {q:Addr} {fd:FuncData} {pn:List Str} {j:Nat} {f:Fn}
end
section
variable {kf:Str} {st:Stmt} {q:Addr} {fd:FuncData} {pn:List Str} {j jb:Nat} {f:Fn} {e:Expr} {me:Me} {p pos kp kpos rp rpos:Pos}
end
end
section
variable {α:Type}
end
section
variable {δ:Ev} {h:PH} {m:Me}
@[simp] theorem IA {f:Fn} {b:Bool} {n:Nat}:FS f b n m δ h=(m δ h).bind fun x h1=>AS f b n x h1:=(rfl)
end
end L2
set_option Elab.async false
set_option linter.all false
set_option maxRecDepth 100000
namespace L2
open PySem PySem.Spec PyProof.Rows PySem.SeqAt
section
variable {C:MC} {k:Nat} {X:Cx} {pins:List (Addr×Obj)} {σ:St} {H:Hp} {s:Shared} {φ:List Addr} {h:PH}
end
end L2
set_option Elab.async false
set_option linter.all false
set_option maxRecDepth 100000
namespace L2
open PySem PySem.Spec PyProof.Rows PySem.SeqAt
open PySem.AutoSeq1 (wpAny_loadPart')
open PySem.MeetsSeq PySem.MeetsSeq2 PySem.MeetsSeq3
section
variable {X:Cx} {pins:List (Addr×Obj)} {σ:St} {H:Hp} {s:Shared}
end
section
variable {C:MC} {k:Nat} {X:Cx}
def Mr:PV->PV->PH->Rs PV:=fun x y h=>match x,y with
 | .tup xs,.tup ys=>ofB (if (PV.tup xs).d.all (fun d=>decide (d.depth<=40)) then (Do (.tup ys) (.tup xs)).map (!·) else none) h
 | x,y=>vLe x y h
variable {h:PH}
@[simp] theorem KL {i j:Int}:Mr (.int i) (.int j) h=.ok (.bl (decide (i<=j))) h:=(rfl)
end
end L2
set_option Elab.async false
set_option linter.all false
set_option maxRecDepth 100000
namespace L2
open PySem PySem.Spec PyProof.Rows PySem.SeqAt PySem.W
section
variable {prog:Program} {w:World} {A:Around} {E:Value->Shared->Prop} {s:Shared}
end
section
variable {C:MC} {k:Nat} {X:Cx} {x:Str} {st:Stmt} {q:Addr} {fd:FuncData} {pn:List Str} {j:Nat} {f:Fn}
end
section
variable {C:MC} {k:Nat} {X:Cx} {kf:Str} {st:Stmt} {q:Addr} {fd:FuncData} {pn:List Str} {j jn:Nat} {f:Fn} {e:Expr} {me:Me} {p pos kp kpos rp rpos:Pos}
end
end L2
set_option Elab.async false
set_option linter.all false
set_option maxRecDepth 100000
namespace L2
open PySem PySem.Spec PyProof.Rows PySem.SeqAt PySem.W
section
variable {C:MC} {k:Nat} {X:Cx}
end
end L2
set_option Elab.async false
set_option linter.all false
set_option maxRecDepth 100000
namespace L2
open PySem PySem.Spec PyProof.Rows PySem.SeqAt PySem.W
open Classical in
noncomputable def DN:List PV->PH->Rs PV:=fun xs h=>match xs with
 | [.int a,.int b]=>if -(2 ^ 62)<=a/\a < 2 ^ 62/\-(2 ^ 62)<=b/\b < 2 ^ 62/\b - a<=16777216 then .ok (.ref h.length) (h++[.lst (upTo a (b - a).toNat)]) else .bad
 | _=>.bad
theorem wU:∀ (us:List Value) (f:Nat->V),(∀ i u,us[i]?=some u->RelV (f i) u)->aH ((List.range us.length).map f) us
 | [],_,_=>.nil
 | u :: us,f,h=>by
  rw [List.length_cons,List.range_succ_eq_map,List.map_cons,List.map_map]
  exact .cons (h 0 u rfl) (wU us (fun i=>f (i+1)) fun i v e=>h (i+1) v e)
theorem DO {C:MC} {φ:List Addr} {H:Hp} (f:Nat->Int):∀ ks:List Nat,RVs C φ H (ks.map fun i=>PV.int (f i)) (ks.map fun i=>V.int (f i))
 | []=>trivial
 | k :: ks=>⟨rfl,DO f ks⟩
section
variable {C:MC} {k:Nat} {X:Cx} {e1 e2:Expr} {ms:Ma} {p pos p2 pos2:Pos}
theorem BP (ha:SA C k X [e1,e2] ms) (hbL:("list" : Str)∈C.bs) (hbR:("range" : Str)∈C.bs) (hgL:Gl X "list" := by rfl) (hgR:Gl X "range" := by rfl)
  (hst:starEach [e1,e2] X.env=(false,eval e1 X.env) :: starEach [e2] X.env:=by rfl) (hpl:(backTo pos2 (starEach [e2] X.env)).any (·.1)=false:=by rfl)
  (hst2:starEach [.Call (.Name "range" p2) [e1,e2] [] pos2] X.env=(false,eval (.Call (.Name "range" p2) [e1,e2] [] pos2) X.env) :: starEach [] X.env:=by rfl) (hpl2:(backTo pos (starEach [] X.env)).any (·.1)=false:=by rfl):
  SE C k X (.Call (.Name "list" p) [.Call (.Name "range" p2) [e1,e2] [] pos2] [] pos) (mCB DN ms):=fun c pins s σ H Q I h=>by
 refine wpAny_Call_Name_kw (kI I hgL (c.bn _ hbL) PyProof.Rows.Boot.«list» ?_ (by decide) (by decide))
 refine PyProof.Rows.callWith_type1 ?_ hst2 hpl2
 rw [hst2]
 show wpAny _ _ (spliced ((false,eval (.Call (.Name "range" p2) [e1,e2] [] pos2) X.env) :: backTo pos (starEach [] X.env))) _ _ s
 refine Calls.spliced_cons ?_
 refine wpAny_Call_Name_kw (kI I hgR (c.bn _ hbR) PyProof.Rows.Boot.«range» ?_ (by decide) (by decide))
 obtain ⟨φ,δ,h,rh,re,po⟩:=h
 refine PyProof.Rows.callWith_type1 (thn (ha c pos2 pins s σ H (fun vs H1=>∃ φ1 ps h1,φ<+:φ1/\Kp H H1/\RH C φ1 H1 h1/\RVs C φ1 H1 ps vs/\post C φ1 H1 (DN ps h1) Q) I ⟨φ,δ,h,rh,re,postA.bind po⟩) fun us s1 hh=>?_) hst hpl
 obtain ⟨vs,H1,I1,rv,φ1,ps,h1,pp,tt,rh1,rps,q1⟩:=hh
 unfold DN at q1
 split at q1
 ·rename_i a b
  obtain ⟨hc,q1⟩:=q1.ite
  obtain ⟨c1,c2,c3,c4,c5⟩:=hc
  match vs,rps with
  | [_,_],⟨rfl,rfl,_⟩=>
   cases rv with
   | cons ra rv=>
    cases rv with
    | cons rb rv=>
     cases rv
     obtain ⟨t,rfl⟩:=ra
     obtain ⟨u,rfl⟩:=rb
     refine call_range_2 ?_
     show wpAny _ _ (spliced (backTo pos (starEach [] X.env))) _ _ _
     refine Calls.spliced_nil ?_
     have fr:s1.heap.objs.size<=(s1.heap.push { cls:=.type "range",data:=.fields #[.int a t,.int b u,.int 1 s1.toks] }).objs.size:=by rw [Heap.size_push]; exact Nat.le_succ _
     refine call_list_range (I.ok.hd c.calm) (IsRange.new ..) (small_one c1 c2 c3 c4) (n:=(b - a).toNat) (by rw [rangeSize_one]; split <;> omega) (by omega) fun h' tk acc' c' hk hS hacc=>?_
     have kp:∀ x o,s1.heap.get? x=some o->h'.get? x=some o:=fun x o e=>hk x o (Heap.get?_push_of_some _ e)
     have hv:aH ((List.range (b - a).toNat).map fun (i:Nat)=>V.int (a+(i:Int))) acc'.toList:=by
      have hz:acc'.toList.length=(b - a).toNat:=by rw [Array.length_toList]; exact hacc.1
      rw [<- hz]
      refine wU _ _ fun i v e=>?_
      rw [Array.getElem?_toList] at e
      obtain ⟨t',rfl⟩:=hacc.2 i v e
      exact ⟨t',by rw [Int.mul_one]⟩
     have I2:=I1.laid (a:=(s1.heap.push { cls:=.type "range",data:=.fields #[.int a t,.int b u,.int 1 s1.toks] }).objs.size) (t':=tk) (o:=.lst ((List.range (b - a).toNat).map fun (i:Nat)=>V.int (a+(i:Int)))) kp fr ⟨by rw [List.length_map,List.length_range,sizeLine_eq]; omega,acc'.toList,c',hv,by rw [Array.toArray_toList]; exact hS⟩
     refine ⟨.ref _,_,I2,rfl,q1.lnew rh1 ?_ (I1.hok.fresh fr)⟩
     rw [jK]
     exact DO (fun (i:Nat)=>a+(i:Int)) _
 ·exact q1.elim
end
theorem FT {h:PH} {a b:Int} (c:-4611686018427387904<=a/\a < 4611686018427387904/\-4611686018427387904<=b/\b < 4611686018427387904/\b - a<=16777216):DN [.int a,.int b] h=.ok (.ref h.length) (h++[.lst (((List.range (b - a).toNat).map fun (i:Nat)=>a+(i:Int)).map PV.int)]):=by
 have c':-(2 ^ 62)<=a/\a < 2 ^ 62/\-(2 ^ 62)<=b/\b < 2 ^ 62/\b - a<=16777216:=c
 show (if -(2 ^ 62)<=a/\a < 2 ^ 62/\-(2 ^ 62)<=b/\b < 2 ^ 62/\b - a<=16777216 then Rs.ok (PV.ref h.length) (h++[.lst (upTo a (b - a).toNat)]) else .bad)=_
 rw [if_pos c',jK,List.map_map]
 rfl
end L2
set_option Elab.async false
set_option linter.all false
set_option maxRecDepth 100000
set_option maxHeartbeats 4000000
namespace K05
open PySem L2
noncomputable section
def sF:Ms:=
 (bD (cG 3 (aB eF (aB bM (aB bM (aB CV (mV 3) (mC (.int 48271))) (mC (.int 11))) (mV 5)) (mC (.int 2147483647))))
  (cG 4 (aB bM (mV 4) (aB vAt (mV 2) (aB eF (aB qI (mV 3) (mC (.int 64))) (mC (.int 26)))))))
def uL:Ms:=
 (bD (cG 2 (mC (.str "abcdefghijklmnopqrstuvwxyz")))
 (bD (cG 3 (aB eF (mV 0) (mC (.int 2147483647))))
 (bD (cG 4 (mC (.str "")))
 (bD (dO (iF (aC (mC (.int 8)) aN)) (gN 5) sF)
 (bD (kU (cJ (aB vEq (aB eF (mV 0) (mC (.int 3))) (mC (.int 0))))
  (dN (bQ [none,some 4,some 3] (iF (aC (mV 1) aN)) (gN 0) iB (mSl (mV 1) qJ (mP (aB bM (mC (.int 1)) (aB eF (aB bM (mV 0) (aB eF (mV 2) (mC (.int 8)))) (mC (.int 8))))))))
  mU)
 (bD (cG 4 (mSl (mV 4) qJ (mP (aB bM (mC (.int 1)) (aB eF (aB qI (mV 0) (mC (.int 3))) (mC (.int 8)))))))
 (bD (cG 6 (aB eF (mV 3) (mCB eU (aC (mV 4) aN))))
 (dN (bQ [none,some 4,some 2,some 6,some 3] (iF (aC (mV 1) aN)) (gN 0) iB (aB bM (aB bM (mSl (mV 1) qJ (mP (mV 3))) (aB vAt (mV 2) (aB eF (aB bM (aB qI (mV 4) (mC (.int 8))) (aB CV (mC (.int 5)) (mV 0))) (mC (.int 26))))) (mSl (mV 1) (mP (aB bM (mV 3) (mC (.int 1)))) qJ)))))))))))
def jS:Fn:=mFn 7 uL
def gH:Ms:=
 (mE (mC (.bl true)) (aB vAt (mV 2) (mV 5)) (mV 7))
def gI:Ms:=
 (mE (mCB AO (aC (mV 11) (aC (mMt cX wC (mV 9) (aC (mV 10) (aC (mC (.int 0)) aN))) aN))) (mV 9) (mV 10))
def mH:Ms:=
 (bD (cG 5 (aB eF (mV 4) (mCB eU (aC (mV 1) aN))))
  (bD (cG 6 (aB eF (aB qI (mV 4) (mC (.int 7))) (mCB eU (aC (mV 1) aN))))
  (bD (kU (vT (cJ (aB vEq (aB eF (aB qI (mV 4) (mC (.int 49))) (mC (.int 2))) (mC (.int 0)))) (cJ (aB vNe (mV 6) (mV 5))))
   (gG false (aB vAt (mV 2) (mV 6)) (dO (mG false (aB vAt (mV 2) (mV 6))) (gN 7) gH))
   mU)
  (bD (cG 8 (mCB eU (aC (bQ [none,some 1,some 5] (bF (mV 3)) (gN 0) (cJ (aB vEq (aB vAt (aB vAt (mV 0) (mC (.int 0))) (mC (.int 0))) (aB vAt (mV 1) (mV 2)))) (mV 0)) aN)))
  (bD (cG 9 iN)
  (bD (gG false (aB vAt (mV 2) (mV 5)) (dO (mG false (aB vAt (mV 2) (mV 5))) (gTp 2 (gCn (gN 10) (gCn (gN 11) gNl))) gI))
  (bD (D8 (mMt isL (onL eY) (mV 3) (aC (tQ (aC (tQ (aC (aB vAt (mV 1) (mV 5)) (aC (aB bM (mV 8) (mC (.int 1))) aN))) (aC (mCB kT (aC (mCB cE (aC (Da cX lC (mV 9)) aN)) aN)) (aC (tQ (aC (mC (.str "settle")) aN)) aN)))) aN)))
  (mE (mC (.bl true)) (aB vAt (mV 2) (mV 5)) (aB vAt (aB vAt (mV 3) (mUn CW (mC (.int 1)))) (mC (.int 0)))))))))))
def lG:Ms:=
 (bD (cG 2 (bQ [none] (bF (mV 1)) (gN 0) iB iN))
 (bD (cG 3 (HY aN))
 (bD (dO (bF (mV 0)) (gN 4) mH)
 (dN (mV 3)))))
def eK:Fn:=mFn 12 lG
def nA:Ms:=
 (dN (aB bM (mC (.int 1)) (mCB BF (aC (bQ [none] (bF (aB vAt (mV 0) (mC (.int 1)))) (gN 0) iB (aB vAt (mV 0) (mC (.int 1)))) aN))))
def dX:Fn:=mFn 1 nA
def zW:Ms:=
 (bD (Fs (aB vAt (mV 0) (mC (.int 0))) (gTp 2 (gCn (gN 1) (gCn (gN 2) gNl))))
 (dN (tQ (aC (cA 1 dX (aC (mV 0) aN)) (aC (mV 1) (aC (mV 2) aN))))))
def gJ:Fn:=mFn 3 zW
def jT:Ms:=
 (mE (mV 2) (mV 1) (aB vAt (mV 2) (mC (.int 0))))
def iU:Ms:=
 (bD (cG 1 iN)
 (bD (dO (bF (mV 0)) (gN 2) jT)
 (dN (uG gJ false (Da cX wG (mV 1))))))
def cL:Fn:=mFn 3 iU
def lH:Ms:=
 (bD (kU (cJ (aB iH (mV 1) (mCB eU (aC (mV 0) aN))))
  (dN (aB vAt (mV 0) (mV 1)))
  mU)
 (dN (mC (.int 0))))
def bZ:Fn:=mFn 2 lH
def DP:Ms:=
 (bD (cG 2 (mCB pE (aC (aB vAt (mV 1) (mC (.int 1))) aN)))
 (dN (bQ [none,some 2] (bF (mV 0)) (gN 0) (cJ (aB vLe (aB vAt (aB vAt (mV 0) (mC (.int 0))) (mC (.int 1))) (mMt cX wC (mV 1) (aC (aB vAt (aB vAt (mV 0) (mC (.int 0))) (mC (.int 0))) (aC (mC (.int 0)) aN))))) (mV 0))))
def pH:Fn:=mFn 3 DP
def uM:Ms:=
 (dN (aB iH (cA 1 gJ (aC (mV 0) aN)) (cA 1 gJ (aC (mV 1) aN))))
def gU:Fn:=mFn 2 uM
def pI:Ms:=
 (kU (cJ (aB vEq (mV 2) (aB vAt (mV 1) (mC (.int 0)))))
   (dN (aB vLe (aB vAt (mV 1) (mC (.int 1))) (mV 3)))
   mU)
def pJ:Ms:=
 (bD (dO (bF (mV 0)) (gTp 2 (gCn (gN 2) (gCn (gN 3) gNl))) pI)
 (dN (mC (.bl false))))
def dI:Fn:=mFn 4 pJ
def uN:Ms:=
 (kU (D6 (cJ (aB vGe (cA 1 dX (aC (mV 6) aN)) (cA 1 dX (aC (mV 5) aN)))) (D6 (D5 (cJ (cA 2 gU (aC (mV 6) (aC (mV 5) aN))))) (cJ (cA 2 gU (aC (mV 5) (aC (mV 6) aN))))))
    (dN (mC (.bl false)))
    mU)
def nB:Ms:=
 (bD (cG 5 (aB vAt (mV 3) (mV 4)))
  (bD (kU (cJ (aB vNe (bQ [none,some 5] (bF (mV 3)) (gN 0) (cJ (cA 2 dI (aC (aB vAt (mV 1) (mC (.int 1))) (aC (aB vAt (mV 0) (mC (.int 0))) aN)))) (mV 0)) (cA 2 pH (aC (mV 3) (aC (mV 5) aN)))))
   (dN (mC (.bl false)))
   mU)
  (bD (kU (cJ (aB vNe (mCB eU (aC (cA 2 pH (aC (mSl (mV 3) qJ (mP (mV 4))) (aC (mV 5) aN))) aN)) (mCB BF (aC (bQ [none,none] (bF (aB vAt (mV 5) (mC (.int 1)))) (gTp 2 (gCn (gN 0) (gCn (gN 1) gNl))) iB (mV 1)) aN))))
   (dN (mC (.bl false)))
   mU)
  (dO (bF (cA 2 pH (aC (mV 2) (aC (mV 5) aN)))) (gN 6) uN))))
def nC:Ms:=
 (bD (cG 8 (bQ [none,some 7] (bF (mV 3)) (gN 0) (cJ (aB vEq (aB vAt (aB vAt (mV 0) (mC (.int 0))) (mC (.int 0))) (mV 1))) (aB vAt (aB vAt (mV 0) (mC (.int 0))) (mC (.int 1)))))
  (kU (cJ (aB vNe (mV 8) (mCB DN (aC (mC (.int 1)) (aC (aB bM (mCB eU (aC (mV 8) aN)) (mC (.int 1))) aN)))))
   (dN (mC (.bl false)))
   mU))
def DQ:Ms:=
 (bD (cG 1 (cA 2 jS (aC (cA 2 bZ (aC (mV 0) (aC (mC (.int 0)) aN))) (aC (aB bM (mC (.int 1)) (aB eF (aB qI (cA 2 bZ (aC (mV 0) (aC (mC (.int 0)) aN))) (mC (.int 24))) (mC (.int 5)))) aN))))
 (bD (cG 2 (cA 2 eK (aC (mSl (mV 0) (mP (mC (.int 1))) (mP (mC (.int 31)))) (aC (mV 1) aN))))
 (bD (cG 3 (cA 1 cL (aC (mCB vU (aC (mV 2) aN)) aN)))
 (bD (kU (cJ (aB vNe (mCB cE (aC (bQ [none] (bF (mV 3)) (gN 0) iB (aB vAt (mV 0) (mC (.int 0)))) aN)) (mCB cE (aC (bQ [none] (bF (mV 2)) (gN 0) iB (aB vAt (mV 0) (mC (.int 0)))) aN))))
  (dN (mC (.bl false)))
  mU)
 (bD (dO (iF (aC (mCB eU (aC (mV 3) aN)) aN)) (gN 4) nB)
 (bD (dO (bF (mV 1)) (gN 7) nC)
 (dN (mC (.bl true)))))))))
def DR:Fn:=mFn 9 DQ
end
end K05
set_option Elab.async false
set_option linter.all false
set_option maxRecDepth 100000
set_option maxHeartbeats 1000000
namespace K05
open PySem L2
abbrev Seen:=List (Str×Int)
def ltS (a b:Str):Prop:=a.cps.toList < b.cps.toList
def look:Seen->Str->Option Int
 | [],_=>none
 | p :: r,h=>if p.1=h then some p.2 else look r h
theorem gW (p:Str×Int) (r:Seen) (h:Str):look (p :: r) h=if p.1=h then some p.2 else look r h:=(rfl)
def Asc (S:Seen):Prop:=S.Pairwise fun a b=>ltS a.1 b.1
def dput (kvs:Seen) (h:Str) (n:Int):Seen:=if (look kvs h).isSome then kvs.map (fun p=>if p.1=h then (p.1,n) else p) else kvs++[(h,n)]
def emb (kvs:Seen):List (Key×PV):=kvs.map fun p=>(.inr p.1,.int p.2)
def row (p:Str×Int):List Key:=[.inr p.1,.inl p.2]
def sv (S:Seen):PV:=.tup (S.map fun p=>.tup [.str p.1,.int p.2])
theorem jU (h:Str):∀ kvs:Seen,bH (emb kvs) (.inr h)=(look kvs h).map PV.int
 | []=>rfl
 | p :: r=>by
  show bH ((Sum.inr p.1,PV.int p.2) :: emb r) (.inr h)=_
  unfold bH look
  by_cases e:p.1=h
  ·rw [if_pos e,if_pos (by rw [e])]; rfl
  ·rw [if_neg e,if_neg (by simpa using e)]; exact jU h r
theorem AU (kvs:Seen) (h:Str) (n:Int):dA (emb kvs) (.inr h) (.int n)=emb (dput kvs h n):=by
 unfold dA dput
 rw [jU]
 cases look kvs h with
 | none=>simp [emb]
 | some m=>
  simp only [Option.map_some,Option.isSome_some,if_true]
  unfold emb
  rw [List.map_map,List.map_map]
  apply List.map_congr_left
  intro p _
  by_cases e:p.1=h
  ·simp [e]
  ·simp [e]
theorem gX {S:Seen} {h:Str}:look S h=none ↔ ∀ p∈S,p.1≠h:=by
 induction S with
 | nil=>simp [look]
 | cons p r ih=>
  unfold look
  by_cases e:p.1=h
  ·simp [e]
  ·simp [e,ih]
theorem wV {S:Seen} {h:Str} {n:Int} (e:look S h=some n):(h,n)∈S:=by
 induction S with
 | nil=>cases e
 | cons p r ih=>
  unfold look at e
  split at e
  ·rename_i z
   cases e
   rw [<- z]
   exact List.mem_cons_self
  ·exact List.mem_cons_of_mem _ (ih e)
theorem DS {S T:Seen} {h:Str}:look (S++T) h=(look S h).or (look T h):=by
 induction S with
 | nil=>simp [look]
 | cons p r ih=>
  show look (p :: (r++T)) h=_
  rw [gW,gW]
  split
  ·simp
  ·exact ih
theorem DT {S:Seen} {h h':Str} {n:Int}:look (S.map fun p=>if p.1=h then (p.1,n) else p) h'=(look S h').map fun m=>if h'=h then n else m:=by
 induction S with
 | nil=>rfl
 | cons p r ih=>
  rw [List.map_cons]
  by_cases e:p.1=h
  ·rw [if_pos e]
   unfold look
   by_cases e':p.1=h'
   ·rw [if_pos e',if_pos e']
    simp [<- e',e]
   ·rw [if_neg e',if_neg e']; exact ih
  ·rw [if_neg e]
   unfold look
   by_cases e':p.1=h'
   ·have:¬ h'=h:=fun z=>e (e'.trans z)
    rw [if_pos e',if_pos e']
    simp [this]
   ·rw [if_neg e',if_neg e']; exact ih
theorem pK (S:Seen) (h h':Str) (n:Int):look (dput S h n) h'=if h'=h then some n else look S h':=by
 unfold dput
 cases e:look S h with
 | some m=>
  simp only [Option.isSome_some,if_true]
  rw [DT]
  by_cases z:h'=h
  ·subst z; simp [e]
  ·simp [z]
 | none=>
  simp only [Option.isSome_none,Bool.false_eq_true,if_false]
  rw [DS]
  by_cases z:h'=h
  ·subst z; simp [e,look]
  ·have z':¬ h=h':=fun q=>z q.symm
   simp [look,z,z']
theorem keys_map {S:Seen} {h:Str} {n:Int}:(S.map fun p=>if p.1=h then (p.1,n) else p).map (·.1)=S.map (·.1):=by
 rw [List.map_map]
 apply List.map_congr_left
 intro p _
 by_cases e:p.1=h <;> simp [e]
theorem BQ {S:Seen} {h:Str} {n:Int} (hn:(S.map (·.1)).Nodup):((dput S h n).map (·.1)).Nodup:=by
 unfold dput
 cases e:look S h with
 | some m=>simp only [Option.isSome_some,if_true]; rw [keys_map]; exact hn
 | none=>
  simp only [Option.isSome_none,Bool.false_eq_true,if_false]
  rw [List.map_append,List.nodup_append]
  refine ⟨hn,by simp,fun x hx y hy=>?_⟩
  obtain ⟨p,hp,rfl⟩:=List.mem_map.mp hx
  have:y=h:=by simpa using hy
  subst this
  exact gX.mp e p hp
theorem FU {S:Seen} {h:Str} {n:Int}:(dput S h n).length<=S.length+1:=by
 unfold dput
 split <;> simp
theorem pL {S:Seen} (hn:(S.map (·.1)).Nodup) {p:Str×Int} (hp:p∈S):look S p.1=some p.2:=by
 induction S with
 | nil=>cases hp
 | cons q r ih=>
  rw [List.map_cons,List.nodup_cons] at hn
  unfold look
  rcases List.mem_cons.mp hp with rfl | hp
  ·simp
  ·have:¬ q.1=p.1:=fun z=>hn.1 (z ▸ List.mem_map.mpr ⟨p,hp,rfl⟩)
   rw [if_neg this]
   exact ih hn.2 hp
theorem FV (a:Str):¬ ltS a a:=List.lt_irrefl _
theorem gY {S:Seen} (h:Asc S):(S.map (·.1)).Nodup:=by
 unfold List.Nodup
 rw [List.pairwise_map]
 exact h.imp fun {a b} q e=>by rw [e] at q; exact FV _ q
def d1 (one:Seen):Seen:=one.foldl (fun acc p=>dput acc p.1 p.2) []
def KM (acc:Seen) (p:Str×Int):Seen:=dput acc p.1 (if (look acc p.1).getD p.2 > p.2 then (look acc p.1).getD p.2 else p.2)
def d2 (one other:Seen):Seen:=other.foldl KM (d1 one)
theorem AV:∀ (one:Seen) (acc:Seen),(one.map (·.1)).Nodup->∀ h,look (one.foldl (fun acc p=>dput acc p.1 p.2) acc) h=(look one h).or (look acc h)
 | [],acc,_,h=>by simp [look]
 | p :: r,acc,hn,h=>by
  rw [List.map_cons,List.nodup_cons] at hn
  rw [List.foldl_cons,AV r _ hn.2,pK]
  show _=(look (p :: r) h).or _
  rw [gW]
  by_cases e:p.1=h
  ·have:look r h=none:=gX.mpr fun q hq z=>hn.1 (by rw [e,<- z]; exact List.mem_map.mpr ⟨q,hq,rfl⟩)
   rw [if_pos e.symm,if_pos e,this]
   rfl
  ·rw [if_neg fun z=>e z.symm,if_neg e]
def wW:List Key->Str×Int
 | [.inr x,.inl n]=>(x,n)
 | _=>("",0)
theorem DU {a b:Str} (h:a.cps.toList=b.cps.toList):a=b:=by
 obtain ⟨x⟩:=a
 obtain ⟨y⟩:=b
 congr 1
 exact Array.toList_inj.mp h
theorem FW {a b:Str×Int} (h:aV (row b) (row a)=false) (hne:a.1≠b.1):ltS a.1 b.1:=by
 unfold row aV at h
 rw [if_neg (fun z=>hne (by injection z with z; exact z.symm))] at h
 have h':¬ b.1.cps.toList < a.1.cps.toList:=by simpa [keyLt] using h
 rcases Classical.em (a.1.cps.toList < b.1.cps.toList) with q | q
 ·exact q
 ·exact absurd (DU (List.le_antisymm h' q)) hne
theorem wX {D:Seen} (hn:(D.map (·.1)).Nodup):∃ S:Seen,aM (D.map row)=S.map row/\S.Perm D/\Asc S:=by
 have hp:=bT (D.map row)
 have e1:(D.map row).map wW=D:=by
  rw [List.map_map]
  conv=>rhs; rw [<- List.map_id D]
  rfl
 have p2:((aM (D.map row)).map wW).Perm D:=by
  have:=hp.map wW
  rwa [e1] at this
 have e2:((aM (D.map row)).map wW).map row=aM (D.map row):=by
  rw [List.map_map]
  conv=>rhs; rw [<- List.map_id (aM (D.map row))]
  apply List.map_congr_left
  intro z hz
  obtain ⟨p,_,rfl⟩:=List.mem_map.mp (hp.mem_iff.mp hz)
  rfl
 refine ⟨_,e2.symm,p2,?_⟩
 have s1:(aM (D.map row)).Pairwise (fun a b=>aV b a=false):=cQ (S:=[false,true]) fun y hy=>by
  obtain ⟨p,_,rfl⟩:=List.mem_map.mp hy; rfl
 rw [<- e2,List.pairwise_map] at s1
 have n1:(((aM (D.map row)).map wW).map (·.1)).Nodup:=(p2.map (·.1)).nodup_iff.mpr hn
 unfold List.Nodup at n1
 rw [List.pairwise_map] at n1
 exact (s1.and n1).imp fun {a b} h=>FW h.1 h.2
theorem sG:∀ S:Seen,fY (S.map fun p=>PV.tup [.str p.1,.int p.2])=some (emb S)
 | []=>rfl
 | p :: r=>by
  rw [List.map_cons]
  unfold fY
  rw [sG r]
  rfl
theorem sH:∀ (S acc:Seen),lA (emb acc) (emb S)=emb (S.foldl (fun acc p=>dput acc p.1 p.2) acc)
 | [],_=>rfl
 | p :: r,acc=>by
  show lA (dA (emb acc) (.inr p.1) (.int p.2)) (emb r)=_
  rw [AU,sH r]
  rfl
theorem sI (D:Seen):jN (D.map row)=true:=by
 cases D with
 | nil=>rfl
 | cons p r=>
  rw [List.map_cons]
  unfold jN
  rw [Bool.and_eq_true]
  refine ⟨rfl,List.all_eq_true.mpr fun z hz=>?_⟩
  obtain ⟨q,_,rfl⟩:=List.mem_map.mp hz
  rfl
theorem BR {n:Nat} {h:PH} {S:Seen} (e:h[n]?=some (.lst ((S.map row).map tP))):kT [.ref n] h=.ok (sv S) h:=by
 simp [kT,aL,e]
 unfold sv
 congr 1
abbrev zX:Str:="abcdefghijklmnopqrstuvwxyz"
theorem DV:zX.cps.toList.length=26:=by decide +kernel
theorem sJ:zX.length=26:=by decide +kernel
theorem DW:∀ i:Fin 26,zX.cps.toList[i.val]?=some (97+i.val):=by decide +kernel
theorem wY {x:Str} {c:Nat}:(x++(⟨#[c]⟩:Str)).length=x.length+1:=by
 rw [Str.length_append]; rfl
theorem AW {i:Int} (h0:0<=i) (h1:i < 26):atI zX.cps.toList i=some (97+i.toNat):=by
 rw [FA h0 (by rw [DV]; exact h1)]
 exact DW ⟨i.toNat,by omega⟩
theorem app_list (x y:Str):(x++y).cps.toList=x.cps.toList++y.cps.toList:=PySem.W.KT.app_list x y
theorem pM {z:Str} {j:Int} (h0:0<=j) (h1:j<=z.length):(Txt.slice z none (some j)).cps.toList=z.cps.toList.take j.toNat:=by
 have h1':j<=z.cps.toList.length:=by simpa [Str.length] using h1
 have e:Txt.slice z none (some j)=⟨((z.cps.toList.drop 0).take (j - 0).toNat).toArray⟩:=StrLaws.sliceText_to ⟨h0,h1'⟩
 rw [e]
 simp
theorem zY {z:Str} {j:Int} (h0:0<=j) (h1:j<=z.length):(Txt.slice z (some j) none).cps.toList=z.cps.toList.drop j.toNat:=by
 have h1':j<=z.cps.toList.length:=by simpa [Str.length] using h1
 have e:=StrLaws.sliceText_from (x:=z) ⟨h0,h1'⟩
 have e':Txt.slice z (some j) none=_:=e
 rw [e']
 show List.take _ _=_
 rw [List.take_of_length_le]
 rw [List.length_drop]
 omega
theorem len_list (z:Str):z.cps.toList.length=z.length:=by simp [Str.length]
def cell (ns:List Int) (i:Nat):Int:=ns.getD i 0
theorem FX (ns:List Int) (i:Nat) (h:PH):bZ [.fl (ns.map PV.int),.int i] h=.ok (.int (cell ns i)) h:=by
 have w:(bZ [.fl (ns.map PV.int),.int i] h).W fun p h'=>p=.int (cell ns i)/\h'=h:=by
  refine qK ?_
  simp [lH,aY]
  split
  ·rename_i z
   have z':i < ns.length:=by omega
   have e:atI (ns.map PV.int) (i:Int)=some (.int (cell ns i)):=nV (by simp [cell,z'])
   simp [e]
  ·rename_i z
   refine now ?_
   have:ns.length<=i:=by omega
   simp [cell,this]
 obtain ⟨p,h',e,rfl,rfl⟩:=Df w
 exact e
theorem IB (u v:List Nat) (x:Nat):(u++[x]++v)[u.length]?=some x:=by simp
theorem DX (c:Int) (m:Nat) (h1:1<=m) (h6:m<=6) (h:PH) (Q:PV->PH->Prop) (k:∀ hs:List Str,hs.length=m->hs.Nodup->Q (.ref h.length) (h++[.lst (hs.map PV.str)])):(jS [.int c,.int m] h).W Q:=by
 refine qK ?_
 simp (disch:=omega) [uL,aY]
 refine now ?_
 rw [aY]; simp (disch:=omega)
 refine now ?_
 rw [aY]; simp (disch:=omega)
 refine now ?_
 rw [aY]
 refine Dk (j:=8) (fun q δ h'=>h'=h/\∃ n w x5,δ=[some (.int c),some (.int m),some (.str zX),some (.int n),some (.str w),x5,none]/\w.length=q/\0<=n/\n < 2147483647) ?_ (by omega) ?_ ?_ ?_
 ·simp
 ·exact ⟨rfl,_,_,_,rfl,rfl,by omega,by omega⟩
 ·rintro q δ h' hq ⟨rfl,n,w,x5,rfl,hw,hn⟩
  simp (disch:=omega) [sF,Ig]
  have hm:0<=(n*48271+11+(q:Int)) % 2147483647/\(n*48271+11+(q:Int)) % 2147483647 < 2147483647:=by omega
  generalize (n*48271+11+(q:Int)) % 2147483647=n' at hm
  have hc:=AW (i:=n' / 64 % 26) (by omega) (by omega)
  have hl:=sJ
  have hl1:(⟨#[97+(n' / 64 % 26).toNat]⟩:Str).length=1:=rfl
  simp (disch:=omega) [hc]
  exact ⟨_,_,⟨rfl,rfl⟩,by rw [wY,hw],hm⟩
 ·rintro δ h' ⟨rfl,n,w,x5,rfl,hw,hn⟩
  have hw8:w.length=8:=by simpa using hw
  refine now ?_
  rw [aY]
  simp (disch:=omega)
  split
  ·have hc:=vY (js:=[none,some 4,some 3]) (tg:=gN 0) (tst:=iB) (elt:=mSl (mV 1) qJ (mP (aB bM (mC (.int 1)) (aB eF (aB bM (mV 0) (aB eF (mV 2) (mC (.int 8)))) (mC (.int 8)))))) (ms:=aC (mV 1) aN)
    (δ:=[some (.int c),some (.int m),some (.str zX),some (.int n),some (.str w),x5,none]) (h:=h') (h1:=h') (j:=m) (fun i=>some (.str (Txt.slice w none (some (1+((i:Int)+n % 8) % 8))))) (by simp) (by omega)
    (fun i hi=>⟨_,rfl,fun h3 _=>⟨rfl,by simp (disch:=omega) [cK]⟩⟩)
   simp [hc]
   have:=k ((List.range m).map fun (i:Nat)=>Txt.slice w none (some (1+((i:Int)+n) % 8))) (by simp) ?_
   ·rw [List.map_map] at this
    exact this
   ·unfold List.Nodup
    rw [List.pairwise_map]
    refine (List.pairwise_lt_range (n:=m)).imp_of_mem fun {a b} ha hb hab e=>?_
    have hb':=List.mem_range.mp hb
    have ha':=List.mem_range.mp ha
    have l1:∀ j:Int,0<=j->j<=8->(Txt.slice w none (some j)).length=j.toNat:=fun j j0 j8=>by
     rw [<- len_list,pM j0 (by omega),List.length_take,len_list]; omega
    have e':=congrArg Str.length e
    rw [l1 _ (by omega) (by omega),l1 _ (by omega) (by omega)] at e'
    omega
  ·refine now ?_
   rw [aY]
   simp (disch:=omega)
   have hL:1<=1+c / 3 % 8/\1+c / 3 % 8<=8:=by omega
   generalize 1+c / 3 % 8=L at hL
   have l1:(Txt.slice w none (some L)).length=L.toNat:=by
    rw [<- len_list,pM (by omega) (by omega),List.length_take,len_list]; omega
   generalize Txt.slice w none (some L)=z at l1
   refine now ?_
   rw [aY]
   simp (disch:=omega)
   have hz0:0 < z.length:=by omega
   have hat:0<=n % (z.length:Int)/\n % (z.length:Int) < z.length:=⟨Int.emod_nonneg _ (by omega),Int.emod_lt_of_pos _ (by omega)⟩
   generalize n % (z.length:Int)=at' at hat
   have s1:=pM (z:=z) hat.1 (by omega)
   have s2:=zY (z:=z) (j:=at'+1) (by omega) (by omega)
   have q1:(Txt.slice z none (some at')).length=at'.toNat:=by rw [<- len_list,s1,List.length_take,len_list]; omega
   have q2:(Txt.slice z (some (at'+1)) none).length=z.length - (at'+1).toNat:=by rw [<- len_list,s2,List.length_drop,len_list]
   have hll:=sJ
   have hc:=vY (js:=[none,some 4,some 2,some 6,some 3]) (tg:=gN 0) (tst:=iB) (elt:=aB bM (aB bM (mSl (mV 1) qJ (mP (mV 3))) (aB vAt (mV 2) (aB eF (aB bM (aB qI (mV 4) (mC (PV.int 8))) (aB CV (mC (PV.int 5)) (mV 0))) (mC (PV.int 26))))) (mSl (mV 1) (mP (aB bM (mV 3) (mC (PV.int 1)))) qJ)) (ms:=aC (mV 1) aN)
    (δ:=[some (.int c),some (.int m),some (.str zX),some (.int n),some (.str z),x5,some (.int at')]) (h:=h') (h1:=h') (j:=m) (fun i=>some (.str (Txt.slice z none (some at')++(⟨#[97+((n / 8+5*(i:Int)) % 26).toNat]⟩:Str)++Txt.slice z (some (at'+1)) none))) (by simp) (by omega)
    (fun i hi=>⟨_,rfl,fun h3 _=>⟨rfl,by
     have hcc:=AW (i:=(n / 8+5*(i:Int)) % 26) (by omega) (by omega)
     have q3:(⟨#[97+((n / 8+5*(i:Int)) % 26).toNat]⟩:Str).length=1:=rfl
     have q4:(Txt.slice z none (some at')++(⟨#[97+((n / 8+5*(i:Int)) % 26).toNat]⟩:Str)).length=at'.toNat+1:=by rw [wY,q1]
     simp (disch:=omega) [cK,hcc]⟩⟩)
   refine now ?_
   simp [hc]
   have:=k ((List.range m).map fun (i:Nat)=>Txt.slice z none (some at')++(⟨#[97+((n / 8+5*(i:Int)) % 26).toNat]⟩:Str)++Txt.slice z (some (at'+1)) none) (by simp) ?_
   ·rw [List.map_map] at this
    exact this
   ·unfold List.Nodup
    rw [List.pairwise_map]
    refine (List.pairwise_lt_range (n:=m)).imp_of_mem fun {a b} ha hb hab e=>?_
    have hb':=List.mem_range.mp hb
    have ha':=List.mem_range.mp ha
    have e':=congrArg (fun x=>x.cps.toList[at'.toNat]?) e
    simp only [app_list,s1,s2] at e'
    have lt:(List.take at'.toNat z.cps.toList).length=at'.toNat:=by rw [List.length_take,len_list]; omega
    have f:∀ b:Nat,(List.take at'.toNat z.cps.toList++[b]++List.drop (at'+1).toNat z.cps.toList)[at'.toNat]?=some b:=fun b=>by
     have:=IB (List.take at'.toNat z.cps.toList) (List.drop (at'+1).toNat z.cps.toList) b
     rwa [lt] at this
    have e2:some (97+((n / 8+5*(a:Int)) % 26).toNat)=some (97+((n / 8+5*(b:Int)) % 26).toNat):=(f _).symm.trans (e'.trans (f _))
    have e3:=Option.some.inj e2
    omega
def pv (p:Str×Int):PV:=.tup [.str p.1,.int p.2]
theorem zZ {p q:Str×Int} (h:pv p=pv q):p=q:=by
 obtain ⟨a,b⟩:=p
 obtain ⟨c,d⟩:=q
 simp [pv] at h
 simp [h]
theorem DY (S:Seen):sv S=.tup (S.map pv):=rfl
inductive Kd where
 | settle
 | back (f l:Int)
 | other
deriving DecidableEq
abbrev HD:=Int×Kd
structure Dd where
 nm:Str×Int
 seen:Seen
 kd:Kd
 act:List PV
def dP (d:Dd):PV:=.tup [pv d.nm,sv d.seen,.tup d.act]
def WfA:Kd->List PV->Prop
 | .settle,a=>a=[.str "settle"]
 | .back f l,a=>a=[.str "back",.int f,.int l]
 | .other,a=>∃ w r,a=.str w :: r/\w≠"settle" /\ w≠"back"
structure Wf (d:Dd):Prop where
 len:d.seen.length<=100
 act:WfA d.kd d.act
 pl:d.act.all (PV.pl 37)=true
def tot (S:Seen):Int:=(S.map (·.2)).sum
def kyL (d:Dd):List Key:=[.inl (1+tot d.seen),.inr d.nm.1,.inl d.nm.2]
theorem dP0 {d:Dd} {h:PH}:vIx (dP d) (.int 0) h=.ok (pv d.nm) h:=by unfold dP; simp
theorem dP1 {d:Dd} {h:PH}:vIx (dP d) (.int 1) h=.ok (sv d.seen) h:=by unfold dP; simp
theorem pv0 {p:Str×Int} {h:PH}:vIx (pv p) (.int 0) h=.ok (.str p.1) h:=by unfold pv; simp
theorem pv1 {p:Str×Int} {h:PH}:vIx (pv p) (.int 1) h=.ok (.int p.2) h:=by unfold pv; simp
theorem KN {p:Str×Int}:(PV.tup [.str p.1,.int p.2]).ky 6=true:=rfl
theorem pN (d:Dd) (hS:d.seen.length<=100) (h:PH) (Q:PV->PH->Prop) (k:∀ h',Ext h h'->Q (.int (1+tot d.seen)) h'):(dX [dP d] h).W Q:=by
 refine qK ?_
 have hc:=rV (js:=[none]) (tg:=gN 0) (tst:=iB) (elt:=aB vAt (mV 0) (mC (.int 1))) (m:=aB vAt (mV 0) (mC (.int 1))) (δ:=[some (dP d)]) (h:=h) (h1:=h) (ys:=d.seen) (emb:=pv)
  (fun q=>some (.int q.2)) (by simp [dP1,DY]) (by omega) (fun q hq=>⟨_,rfl,fun h3 _=>⟨rfl,by simp [cK,pv1]⟩⟩)
 have es:d.seen.filterMap (fun q=>some (PV.int q.2))=(d.seen.map (·.2)).map PV.int:=by rw [filterMap_some,List.map_map]; rfl
 rw [es] at hc
 have gs:(h++[MO.lst ((d.seen.map (·.2)).map PV.int)])[h.length]?=some (.lst ((d.seen.map (·.2)).map PV.int)):=aO
 change (nA [some (dP d)] h).W _
 unfold nA
 rw [GF,AG,K3,Rs.bind_ok,zM,oP,hc]
 simp only [Rs.bind_ok,tV,vW gs,rS,eZ]
 exact k _ (Ext.app _ _)
theorem uO (d:Dd) (hS:d.seen.length<=100) (h:PH) (Q:PV->PH->Prop) (k:∀ h',Ext h h'->Q (tP (kyL d)) h'):(gJ [dP d] h).W Q:=by
 refine qK ?_
 unfold zW
 rw [aY]
 simp [dP0]
 refine ⟨[some (dP d),some (.str d.nm.1),some (.int d.nm.2)],by simp [pv],?_⟩
 refine now ?_
 simp
 refine pN d hS _ _ fun h' hx=>?_
 try simp
 exact k h' hx
def ent (d:Dd):PV×PV:=(pv d.nm,dP d)
theorem wZ (p:Str×Int):∀ es:List Dd,(bH (es.map ent) (pv p)).isSome=true ↔ p∈es.map (·.nm)
 | []=>by simp [bH]
 | d :: es=>by
  rw [List.map_cons,List.map_cons,List.mem_cons]
  show (bH ((pv d.nm,dP d) :: es.map ent) (pv p)).isSome=true ↔ _
  unfold bH
  by_cases e:d.nm=p
  ·rw [if_pos (by rw [e])]; simp [e]
  ·rw [if_neg (fun z=>e (zZ z)),wZ p es]
   constructor
   ·exact .inr
   ·rintro (z | z)
    ·exact (e z.symm).elim
    ·exact z
theorem FY {es:List Dd} {d:Dd} (hu:∀ x∈es,x.nm=d.nm->x=d):dA (es.map ent) (pv d.nm) (dP d)=(if d.nm∈es.map (·.nm) then es else es++[d]).map ent:=by
 unfold dA
 have hl:=wZ d.nm es
 by_cases e:d.nm∈es.map (·.nm)
 ·rw [if_pos e,if_pos (hl.mpr e),List.map_map]
  apply List.map_congr_left
  intro x hx
  show (if (ent x).1=pv d.nm then ((ent x).1,dP d) else ent x)=ent x
  by_cases z:(ent x).1=pv d.nm
  ·rw [if_pos z]
   have:=hu x hx (zZ z)
   subst this
   rfl
  ·rw [if_neg z]
 ·rw [if_neg e,if_neg (fun z=>e (hl.mp z)),List.map_append]
  rfl
theorem FZ (xs:List Dd):jN (xs.map kyL)=true:=by
 cases xs with
 | nil=>rfl
 | cons a r=>
  rw [List.map_cons]
  unfold jN
  rw [Bool.and_eq_true]
  refine ⟨rfl,List.all_eq_true.mpr fun z hz=>?_⟩
  obtain ⟨q,_,rfl⟩:=List.mem_map.mp hz
  rfl
theorem DZ {β:Type} (f:Dd->β) (hf:∀ a b,f a=f b->a.nm=b.nm):∀ {xs:List Dd},(xs.map (·.nm)).Nodup->(xs.map f).Nodup:=fun {xs} h=>by
 unfold List.Nodup at*
 rw [List.pairwise_map] at*
 exact h.imp fun hne e=>hne (hf _ _ e)
theorem IC (a b:Dd) (e:kyL a=kyL b):a.nm=b.nm:=by
 unfold kyL at e
 simp at e
 exact Prod.ext e.2.1 e.2.2
theorem AX {h hX:PH} {o:MO} (x:Ext h hX):Ext h (hX.set h.length o):=fun n o' e=>by
 have hn:=(List.getElem?_eq_some_iff.mp e).1
 rw [List.getElem?_set_ne (by omega)]
 exact x n o' e
theorem E1 {h hX:PH} {o:MO} {n:Nat} (x:Ext h hX) (hn:h.length<=n):Ext h (hX.set n o):=fun m o' e=>by
 have:=(List.getElem?_eq_some_iff.mp e).1
 rw [List.getElem?_set_ne (by omega)]
 exact x m o' e
abbrev A0 (os:List Dd):Prop:=os.Pairwise (fun a b=>aV (kyL b) (kyL a)=false)
theorem uP (U ds:List Dd) (hU:∀ d∈ds,d∈U) (hlU:U.length<=63) (hw:∀ d∈ds,Wf d) (hl:ds.length<=1000) (hu:∀ d∈ds,∀ e∈ds,d.nm=e.nm->d=e) (n:Nat) (h:PH) (g:h[n]?=some (.lst (ds.map dP))) (Q:PV->PH->Prop)
  (k:∀ os l h',Ext h h'->h.length<=l->h'[l]?=some (.lst (os.map dP))->(os.map (·.nm)).Nodup->(∀ d,d∈os ↔ d∈ds)->A0 os->Q (.ref l) h'):(cL [.ref n] h).W Q:=by
 refine qK ?_
 unfold iU
 rw [aY]
 simp
 have x0:Ext h (h++[MO.dK []]):=Ext.app _ _
 have g0:aX (h++[MO.dK []]) h.length=some (([]:List Dd).map ent):=AM aO
 generalize h++[MO.dK []]=hA at x0 g0
 refine now ?_
 rw [aY]
 refine tX (n:=n) (xs:=ds.map dP) (h1:=hA) (fun q δ h'=>∃ es:List Dd,Ext h h'/\aX h' h.length=some (es.map ent)/\(es.map (·.nm)).Nodup/\(∀ d,d∈es ↔ d∈ds.take q)/\es.length<=q/\∃ x2,δ=[some (.ref n),some (.ref h.length),x2]) (by simp) (x0 _ _ g) ⟨[],x0,g0,by simp,by simp,by simp,_,rfl⟩ ?_ ?_ ?_
 ·rintro q δ h' hq ⟨es,x,_⟩
  exact x _ _ g
 ·rintro q y δ h' hy ⟨es,x,t,nd,mem,le,x2,rfl⟩
  rw [List.getElem?_map] at hy
  obtain ⟨d,hd,rfl⟩:=Option.map_eq_some_iff.mp hy
  have hq':q < ds.length:=(List.getElem?_eq_some_iff.mp hd).1
  have htk:ds.take (q+1)=ds.take q++[d]:=by rw [List.take_add_one,hd]; rfl
  have hin:d∈ds:=List.mem_of_getElem? hd
  have hes:∀ e∈es,e∈ds:=fun e he=>List.mem_of_mem_take ((mem e).mp he)
  refine ⟨_,rfl,?_⟩
  have hp:oS (.ref h.length) (pv d.nm) (dP d) h'=some (h'.set h.length (.dD (dA (es.map ent) (pv d.nm) (dP d)))):=DD t KN (by rw [List.length_map]; omega)
  rw [FY fun e he z=>hu e (hes e he) d hin z] at hp
  have hh:∃ o,h'[h.length]?=some o:=let ⟨o,g,_⟩:=pA t; ⟨o,g⟩
  obtain ⟨o,ho⟩:=hh
  unfold jT
  simp [dP0]
  refine ⟨_,hp,AX x,_,AN (eB ho),?_,?_,?_⟩
  ·split
   ·exact nd
   ·rename_i z
    rw [List.map_append,List.nodup_append]
    refine ⟨nd,by simp,fun a ha b hb e=>?_⟩
    rw [List.map_singleton,List.mem_singleton] at hb
    subst hb e
    exact z (by simpa using ha)
  ·intro e
   rw [htk]
   split
   ·rename_i z
    rw [mem e,List.mem_append,List.mem_singleton]
    constructor
    ·exact .inl
    ·rintro (z' | rfl)
     ·exact z'
     ·obtain ⟨e',he',en⟩:=List.mem_map.mp (show e.nm∈es.map (·.nm) by simpa using z)
      have:=hu e' (hes e' he') e hin en
      subst this
      exact (mem e').mp he'
   ·rw [List.mem_append,List.mem_append,mem e]
  ·split
   ·omega
   ·simp; omega
 ·rintro δ h' ⟨es,x,t,nd,mem,le,x2,rfl⟩
  have hle:es.length<=63:=by
   have h1:(es.map (·.nm)).length<=(U.map (·.nm)).length:=List.Nodup.length_le_of_subset nd fun p hp=>by
    obtain ⟨d,hd,rfl⟩:=List.mem_map.mp hp
    exact List.mem_map.mpr ⟨d,hU d (List.mem_of_mem_take ((mem d).mp hd)),rfl⟩
   simp at h1
   omega
  obtain ⟨o,ho,hdc,_⟩:=pA t
  refine now ?_
  simp [hdc,FM t]
  have x1:Ext h' (h'++[MO.vw 1 h.length]):=Ext.app _ _
  have ei:fZ (.ref h'.length) (h'++[MO.vw 1 h.length])=some (es.map dP):=by
   rw [wK aO (jR x1 t),List.map_map]
   rfl
  generalize h'++[MO.vw 1 h.length]=h2 at x1 ei
  have mem':∀ d,d∈es ↔ d∈ds:=fun d=>by rw [mem d,List.length_map,List.take_length]
  refine FL (key:=kyL) (emb:=dP) (S:=shape [.inl 0,.inr "",.inl 0]) ei (by omega) (FZ es) (fun _ _=>rfl) (DZ kyL IC nd) (fun d hd h Q kk=>uO d (hw d ((mem' d).mp hd)).len h Q kk) fun os h3 x3 hp ho=>?_
  refine k os h3.length _ ((x.trans x1).trans (x3.trans (Ext.app _ _))) (Nat.le_trans x.len (Nat.le_trans x1.len x3.len)) aO ((hp.map _).nodup_iff.mpr nd) (fun d=>(hp.mem_iff).trans (mem' d)) ho
theorem xB (ds:List Dd) (hw:∀ d∈ds,Wf d) (hl:ds.length<=63) (hu:∀ d∈ds,∀ e∈ds,d.nm=e.nm->d=e) (n:Nat) (h:PH) (g:h[n]?=some (.lst (ds.map dP))) (Q:PV->PH->Prop)
  (k:∀ os l h',Ext h h'->h'[l]?=some (.lst (os.map dP))->(os.map (·.nm)).Nodup->(∀ d,d∈os ↔ d∈ds)->A0 os->Q (.ref l) h'):(cL [.ref n] h).W Q:=by
 exact uP ds ds (fun _ h=>h) hl hw (by omega) hu n h g Q fun os l h' a _ b c d e=>k os l h' a b c d e
def mI (hs:List Str) (c:List Int) (x:Str):Option Int:=if x∈hs/\0 < c.getD (hs.idxOf x) 0 then some (c.getD (hs.idxOf x) 0) else none
structure fC (hs:List Str) (c:List Int) (S:Seen):Prop where
 asc:Asc S
 lk:∀ x,look S x=mI hs c x
theorem fC.len {hs:List Str} {c:List Int} {S:Seen} (a:fC hs c S):S.length<=hs.length:=by
 have nS:=gY a.asc
 have:=List.Nodup.length_le_of_subset nS (l₂:=hs) fun x hx=>by
  obtain ⟨p,hp,rfl⟩:=List.mem_map.mp hx
  have e:=pL nS hp
  rw [a.lk] at e
  unfold mI at e
  split at e
  ·rename_i z; exact z.1
  ·cases e
 rwa [List.length_map] at this
def prs (hs:List Str) (c:List Int) (k:Nat):Option (Str×Int):=if 0 < c.getD k 0 then some (hs.getD k "",c.getD k 0) else none
theorem G0 {hs:List Str} {c:List Int} (nd:hs.Nodup) {x:Str} {n:Int}:(x,n)∈(List.range hs.length).filterMap (prs hs c) ↔ mI hs c x=some n:=by
 rw [List.mem_filterMap]
 unfold mI prs
 constructor
 ·rintro ⟨k,hk,e⟩
  have hk:=List.mem_range.mp hk
  split at e
  ·rename_i hp
   have e:=Option.some.inj e
   have e1:hs.getD k "" = x:=congrArg Prod.fst e
   have e2:c.getD k 0=n:=congrArg Prod.snd e
   have e3:hs.getD k "" = hs[k]:=by simp [hk]
   rw [e3] at e1
   have hi:hs.idxOf x=k:=by rw [<- e1]; exact List.Nodup.idxOf_getElem nd k hk
   have hm:x∈hs:=by rw [<- e1]; exact List.getElem_mem hk
   rw [hi,if_pos ⟨hm,hp⟩,e2]
  ·cases e
 ·intro e
  split at e
  ·rename_i hp
   have hi:=List.idxOf_lt_length_iff.mpr hp.1
   refine ⟨hs.idxOf x,List.mem_range.mpr hi,?_⟩
   rw [if_pos hp.2]
   have e3:hs.getD (hs.idxOf x) "" = x:=by simp [hi]
   rw [e3,Option.some.inj e]
  ·cases e
theorem ID {hs:List Str} {c:List Int} (nd:hs.Nodup):(((List.range hs.length).filterMap (prs hs c)).map (·.1)).Nodup:=by
 have sub:(((List.range hs.length).filterMap (prs hs c)).map (·.1)).Sublist ((List.range hs.length).map fun k=>hs.getD k ""):=by
  generalize List.range hs.length=ks
  induction ks with
  | nil=>simp
  | cons k ks ih=>
   rw [List.filterMap_cons]
   unfold prs
   split
   ·rename_i e
    exact (List.Sublist.cons _ ih)
   ·rename_i b e
    split at e
    ·cases e
     rw [List.map_cons,List.map_cons]
     exact ih.cons_cons _
    ·cases e
 have e:(List.range hs.length).map (fun k=>hs.getD k "")=hs:=by
  apply List.ext_getElem
  ·simp
  ·intro i h1 h2
   simp [h2]
 rw [e] at sub
 exact sub.nodup nd
theorem xC {α:Type} (xs:List α) (i j:Nat) (v d:α) (hi:i < xs.length):(xs.set i v).getD j d=if i=j then v else xs.getD j d:=by
 by_cases e:i=j
 ·subst e; simp [hi]
 ·rw [if_neg e]
  simp [List.getElem?_set_ne e]
theorem KO (c:Int) {n:Nat} (h:0 < n):∃ w:Nat,c % (n:Int)=w/\w < n:=by
 have h1:=Int.emod_nonneg c (b:=(n:Int)) (by omega)
 have h2:=Int.emod_lt_of_pos c (b:=(n:Int)) (by omega)
 exact ⟨(c % (n:Int)).toNat,by omega,by omega⟩
theorem E2 {α:Type} {xs:List α} (nd:xs.Nodup) {i j:Nat} {a:α} (h1:xs[i]?=some a) (h2:xs[j]?=some a):i=j:=by
 obtain ⟨l1,e1⟩:=List.getElem?_eq_some_iff.mp h1
 obtain ⟨l2,e2⟩:=List.getElem?_eq_some_iff.mp h2
 have pw:=List.pairwise_iff_getElem.mp nd
 rcases Nat.lt_trichotomy i j with h | h | h
 ·exact absurd (e1.trans e2.symm) (pw i j l1 l2 h)
 ·exact h
 ·exact absurd (e2.trans e1.symm) (pw j i l2 l1 h)
def tv (n:Nat) (c:List Int):Int:=((List.range n).map fun k=>c.getD k 0).sum
theorem jV (n:Nat) (c:List Int):tv (n+1) c=tv n c+c.getD n 0:=by
 unfold tv
 rw [List.range_succ,List.map_append,List.sum_append]
 simp
theorem GM {a b:List Int}:∀ n,(∀ k,k < n->a.getD k 0<=b.getD k 0)->tv n a<=tv n b
 | 0,_=>by simp [tv]
 | n+1,h=>by
  have h1:=GM n fun k hk=>h k (by omega)
  have h2:=h n (by omega)
  rw [jV,jV]; omega
theorem GN {a b:List Int} {w:Nat}:∀ n,w < n->(∀ k,k < n->a.getD k 0<=b.getD k 0)->a.getD w 0 < b.getD w 0->tv n a < tv n b
 | 0,h,_,_=>by omega
 | n+1,hw,h,hl=>by
  have h2:=h n (by omega)
  rw [jV,jV]
  by_cases e:w=n
  ·subst e
   have h1:=GM w fun k hk=>h k (by omega)
   omega
  ·have h1:=GN n (by omega) (fun k hk=>h k (by omega)) hl
   omega
theorem AY (hs:List Str) (c:List Int) (nn:∀ k,0<=c.getD k 0):∀ ks:List Nat,((ks.filterMap (prs hs c)).map (·.2)).sum=(ks.map fun k=>c.getD k 0).sum
 | []=>rfl
 | k :: ks=>by
  rw [List.filterMap_cons,List.map_cons,List.sum_cons,<- AY hs c nn ks]
  unfold prs
  by_cases e:0 < c.getD k 0
  ·simp only [if_pos e,List.map_cons,List.sum_cons]
  ·simp only [if_neg e]
   have:=nn k
   omega
theorem E3 {a b:List Int} (p:a.Perm b):a.sum=b.sum:=by
 induction p with
 | nil=>rfl
 | cons x _ ih=>rw [List.sum_cons,List.sum_cons,ih]
 | swap x y l=>simp only [List.sum_cons]; omega
 | trans _ _ h1 h2=>exact h1.trans h2
theorem fC.tot {hs:List Str} (nd:hs.Nodup) {c:List Int} (nn:∀ k,0<=c.getD k 0) {S:Seen} (a:fC hs c S):tot S=tv hs.length c:=by
 have nS:=gY a.asc
 have nP:=ID (c:=c) nd
 have p:S.Perm ((List.range hs.length).filterMap (prs hs c)):=by
  rw [List.perm_ext_iff_of_nodup (List.Pairwise.of_map _ (fun a b q e=>q (by rw [e])) nS) (List.Pairwise.of_map _ (fun a b q e=>q (by rw [e])) nP)]
  intro q
  rw [G0 nd (x:=q.1) (n:=q.2),<- a.lk]
  exact ⟨fun h=>pL nS h,fun h=>wV h⟩
 show (S.map (·.2)).sum=_
 unfold tv
 rw [<- AY hs c nn]
 exact E3 (p.map (·.2))
theorem G1 {d:Nat} {fl:Fl} {P:Ev->PH->Prop} {E:FE} (w:fl.W { nx:=P,rt:=fun _ _=>False,bk:=fun _ _=>False,ct:=fun _ _=>False }) (k:∀ δ h,P δ h->∃ h3,fN d h=some h3/\E.nx δ h3):(gE d fl).W E:=by
 unfold Fl.W at w
 cases fl with
 | nx δ h=>
  obtain ⟨h3,e,q⟩:=k δ h w
  simp only [gE,e]
  unfold Fl.W
  exact q
 | rt p h=>exact w.elim
 | bk δ h=>exact w.elim
 | ct δ h=>exact w.elim
 | bad=>exact w.elim
 | exc x h=>exact w.elim
theorem AZ {m:Me} {tg:Mg} {body:Ms} {δ:Ev} {h:PH} {d:Nat} {o:MO} {xs:List PV} {E:FE} (I:Nat->Ev->PH->Prop) (e:m δ h=.ok (.ref d) h) (eo:h[d]?=some o) (ek:wkI false (.ref d) h=some (d,o,xs)) (hd:wQ (some o)=true) (h0:I 0 δ (h.set d (.fz o)))
  (step:∀ (q:Nat) x δ h,xs[q]?=some x->I q δ h->∃ δ1,tg x δ=some δ1/\(body δ1 h).W { nx:=I (q+1),ct:=I (q+1),rt:=fun _ _=>False,bk:=fun δ h'=>I xs.length δ h' })
  (fin:∀ δ h',I xs.length δ h'->h'[d]?=some (.fz o)/\E.nx δ (h'.set d o)):(gG false m (dO (mG false m) tg body) δ h).W E:=by
 have e1:wkD false m δ h=some d:=by
  unfold wkD
  rw [e]
  simp only [ek]
  rw [eo,if_pos hd]
 unfold gG
 rw [e1]
 refine G1 (P:=fun δ h'=>I xs.length δ h') ?_ fun δ h' i=>?_
 ·have go:(cW (fun _=>true) tg body xs δ (h.set d (.fz o))).W { nx:=fun δ h'=>I xs.length δ h',rt:=fun _ _=>False,bk:=fun _ _=>False,ct:=fun _ _=>False }:=oQ I _ 0 δ _ h0 (fun q x δ h _ hx hi=>⟨rfl,step q x δ h (by simpa using hx) hi⟩) (fun δ h hi=>⟨rfl,by simpa using hi⟩)
  unfold dO mG
  rw [e]
  simp only [Rs.bind_ok,ek]
  exact go
 ·obtain ⟨g,q⟩:=fin δ h' i
  exact ⟨_,by unfold fN; rw [g],q⟩
def vE (p:Str×Int):PV×PV:=(pv p,.bl true)
theorem B0 (p:Str×Int):∀ ks:List (Str×Int),bH (ks.map vE) (pv p)=if p∈ks then some (.bl true) else none
 | []=>rfl
 | k :: ks=>by
  show (if pv k=pv p then some (PV.bl true) else bH (ks.map vE) (pv p))=_
  by_cases h:k=p
  ·subst h; simp
  ·rw [if_neg fun z=>h (zZ z),B0 p ks]
   have:(p∈k :: ks) ↔ p∈ks:=⟨fun z=>(List.mem_cons.mp z).elim (fun q=>absurd q.symm h) id,fun z=>List.mem_cons_of_mem _ z⟩
   simp only [this]
def cT (ks:List (Str×Int)) (p:Str×Int):List (Str×Int):=if p∈ks then ks else ks++[p]
theorem pO {ks:List (Str×Int)} {p x:Str×Int}:x∈cT ks p ↔ x∈ks\/x=p:=by
 unfold cT
 split
 ·rename_i h
  exact ⟨.inl,fun z=>z.elim id fun e=>e ▸ h⟩
 ·simp
theorem E4 (ks:List (Str×Int)) (p:Str×Int):(cT ks p).length<=ks.length+1:=by unfold cT; split <;> simp
theorem IE (ks:List (Str×Int)) (p:Str×Int):dA (ks.map vE) (pv p) (.bl true)=(cT ks p).map vE:=by
 unfold dA
 rw [B0]
 unfold cT
 by_cases h:p∈ks
 ·simp only [if_pos h,Option.isSome_some,if_true,List.map_map]
  refine List.map_congr_left fun x _=>?_
  simp only [Function.comp]
  show (if (vE x).1=pv p then _ else _)=_
  split <;> rfl
 ·simp [h,vE]
theorem pP {h:PH} {r:Nat} {ks:List (Str×Int)} (e:aX h r=some (ks.map vE)):∃ o,h[r]?=some o/\wkI false (.ref r) h=some (r,o,ks.map pv)/\wQ (some o)=true/\∀ g:PH,g[r]?=some o->aX g r=some (ks.map vE):=by
 unfold aX at e
 split at e
 ·rename_i kvs g
  cases e
  refine ⟨_,g,?_,rfl,fun g' e'=>by unfold aX; rw [e']⟩
  simp only [wkI,g,pG,Option.map_some]
  rw [List.map_map]
  rfl
 ·rename_i g
  have:ks=[]:=by
   have:=Option.some.inj e
   simpa using this.symm
  subst this
  refine ⟨_,g,?_,rfl,fun g' e'=>by unfold aX; rw [e']; rfl⟩
  simp only [wkI,g,pG,Option.map_some]
  rfl
 ·cases e
theorem xD {h:PH} {r:Nat} {ks:List (Str×Int)} (e:aX h r=some (ks.map vE)) (l:ks.length<=1000) (p:Str×Int):iI (.ref r) (pv p) (.bl true) h=some (h.set r (.dD ((cT ks p).map vE))):=by
 have:=FO (z:=.bl true) (xs:=[.str p.1,.int p.2]) e rfl (by rw [List.length_map]; omega)
 have:iI (.ref r) (pv p) (.bl true) h=some (h.set r (.dD (dA (ks.map vE) (pv p) (.bl true)))):=this
 rw [IE] at this
 exact this
theorem B1 {h:PH} {n:Nat} {kvs kvs':List (PV×PV)} (e:aX h n=some kvs):aX (h.set n (.dD kvs')) n=some kvs':=by
 have hn:∃ o,h[n]?=some o:=by
  unfold aX at e
  split at e
  ·exact ⟨_,by assumption⟩
  ·exact ⟨_,by assumption⟩
  ·cases e
 obtain ⟨o,ho⟩:=hn
 exact AN (eB ho)
def inV (hs:List Str) (c:List Int) (p:Str×Int):Prop:=∃ w,w < hs.length/\p.1=hs.getD w "" /\ 1<=p.2/\p.2<=c.getD w 0
structure Vw where
 c:List Int
 r:Nat
 ks:List (Str×Int)
structure Z5 where
 w:Nat
 c0:List Int
 S:Seen
def zn (hs:List Str) (z:Z5):Str×Int:=(hs.getD z.w "",z.c0.getD z.w 0+1)
def dd (hs:List Str) (z:Z5):Dd:=⟨zn hs z,z.S,.settle,[.str "settle"]⟩
def vw (V:List Vw) (w:Nat):Vw:=V.getD w ⟨[],0,[]⟩
def tp (V:List Vw) (w:Nat):Int:=(vw V w).c.getD w 0
structure PJ (hs:List Str) (V:List Vw) (R:List Z5):Prop where
 len:V.length=hs.length
 cl:∀ v∈V,v.c.length=hs.length/\∀ k,0<=v.c.getD k 0
 km:∀ v∈V,∀ p,p∈v.ks ↔ inV hs v.c p
 ndk:∀ v∈V,v.ks.Nodup
 kr:∀ v∈V,∀ p∈v.ks,p∈R.map (zn hs)
 zo:∀ z∈R,z.w < hs.length/\z.c0.length=hs.length/\(∀ k,0<=z.c0.getD k 0)/\fC hs z.c0 z.S
 i1:∀ v∈V,∀ w,w < hs.length->v.c.getD w 0<=tp V w
 i2:∀ z∈R,(∀ w,w < hs.length->z.c0.getD w 0<=tp V w)/\z.c0.getD z.w 0+1<=tp V z.w
 i3:∀ z∈R,∀ v∈V,z.c0.getD z.w 0+1<=v.c.getD z.w 0->∀ u,u < hs.length->z.c0.getD u 0<=v.c.getD u 0
 i4:∀ z∈R,∀ y∈R,z.c0.getD z.w 0+1<=y.c0.getD z.w 0->∀ u,u < hs.length->z.c0.getD u 0<=y.c0.getD u 0
 i5:∀ w,w < hs.length->((R.filter fun z=>decide (z.w=w)).map fun z=>z.c0.getD z.w 0+1)=(List.range (tp V w).toNat).map fun (i:Nat)=>(i:Int)+1
theorem gK {V:List Vw} {w:Nat} (hw:w < V.length):V[w]?=some (vw V w)/\vw V w∈V:=by
 have e:V[w]?=some (vw V w):=by unfold vw; simp [hw]
 exact ⟨e,List.mem_of_getElem? e⟩
theorem E5 {V:List Vw} {w u:Nat} {x:Vw} (hw:w < V.length):vw (V.set w x) u=if w=u then x else vw V u:=by
 unfold vw
 exact xC _ _ _ _ _ hw
theorem pQ {hs:List Str} (nd:hs.Nodup) {v w:Nat} (hv:v < hs.length) (hw:w < hs.length) (e:hs.getD v "" = hs.getD w ""):v=w:=by
 have e1:hs.getD v "" = hs[v]:=by simp [hv]
 have e2:hs.getD w "" = hs[w]:=by simp [hw]
 rw [e1,e2] at e
 exact (List.getElem_inj nd).mp e
def mxs (n:Nat) (c f:List Int):List Int:=(List.range n).map fun k=>if f.getD k 0 > c.getD k 0 then f.getD k 0 else c.getD k 0
theorem xE (n:Nat) (c f:List Int) (w:Nat):(mxs n c f).getD w 0=if w < n then (if f.getD w 0 > c.getD w 0 then f.getD w 0 else c.getD w 0) else 0:=by
 unfold mxs
 by_cases h:w < n
 ·rw [if_pos h]; simp [h]
 ·rw [if_neg h]; simp [h]
theorem pR:∀ (es ks:List (Str×Int)) (p:Str×Int),p∈es.foldl cT ks ↔ p∈ks\/p∈es
 | [],ks,p=>by simp
 | e :: es,ks,p=>by
  rw [List.foldl_cons,pR es,pO,List.mem_cons,or_assoc]
theorem B2 {ks:List (Str×Int)} {p:Str×Int} (h:ks.Nodup):(cT ks p).Nodup:=by
 unfold cT
 split
 ·exact h
 ·rename_i hp
  rw [List.nodup_append]
  exact ⟨h,by simp,fun a ha b hb=>by simp at hb; subst hb; exact fun z=>hp (z ▸ ha)⟩
theorem B3:∀ (es ks:List (Str×Int)),ks.Nodup->(es.foldl cT ks).Nodup
 | [],_,h=>h
 | _ :: es,_,h=>B3 es _ (B2 h)
theorem PJ.met {hs:List Str} {V:List Vw} {R:List Z5} (i:PJ hs V R) {w o:Nat} (hw:w < hs.length) (ho:o < hs.length):
  PJ hs (V.set w ⟨mxs hs.length (vw V w).c (vw V o).c,(vw V w).r,(vw V o).ks.foldl cT (vw V w).ks⟩) R:=by
 have hwV:w < V.length:=by rw [i.len]; exact hw
 have hoV:o < V.length:=by rw [i.len]; exact ho
 obtain ⟨eW,mW⟩:=gK hwV
 obtain ⟨eO,mO⟩:=gK hoV
 have ge:∀ k,k < hs.length->(mxs hs.length (vw V w).c (vw V o).c).getD k 0=if (vw V o).c.getD k 0 > (vw V w).c.getD k 0 then (vw V o).c.getD k 0 else (vw V w).c.getD k 0:=fun k hk=>by rw [xE,if_pos hk]
 have tps:∀ u,u < hs.length->tp (V.set w ⟨mxs hs.length (vw V w).c (vw V o).c,(vw V w).r,(vw V o).ks.foldl cT (vw V w).ks⟩) u=tp V u:=fun u hu=>by
  unfold tp
  rw [E5 hwV]
  split
  ·rename_i z
   subst z
   show (mxs hs.length (vw V w).c (vw V o).c).getD w 0=_
   rw [ge w hw]
   have:=i.i1 _ mO w hw
   have:(vw V o).c.getD w 0<=(vw V w).c.getD w 0:=this
   rw [if_neg (by omega)]
  ·rfl
 have memS:∀ v∈V.set w ⟨mxs hs.length (vw V w).c (vw V o).c,(vw V w).r,(vw V o).ks.foldl cT (vw V w).ks⟩,v∈V\/v=⟨mxs hs.length (vw V w).c (vw V o).c,(vw V w).r,(vw V o).ks.foldl cT (vw V w).ks⟩:=fun v hv=>List.mem_or_eq_of_mem_set hv
 refine ⟨by rw [List.length_set]; exact i.len,fun v hv=>?_,fun v hv p=>?_,fun v hv=>?_,fun v hv p hp=>?_,i.zo,fun v hv u hu=>?_,fun z hz=>⟨fun u hu=>by rw [tps u hu]; exact (i.i2 z hz).1 u hu,by rw [tps _ (i.zo z hz).1]; exact (i.i2 z hz).2⟩,fun z hz v hv hn u hu=>?_,i.i4,fun u hu=>by rw [tps u hu]; exact i.i5 u hu⟩
 ·rcases memS v hv with h | rfl
  ·exact i.cl v h
  ·refine ⟨by unfold mxs; simp,fun k=>?_⟩
   show 0<=(mxs hs.length (vw V w).c (vw V o).c).getD k 0
   rw [xE]
   have a:=(i.cl _ mW).2 k
   have b:=(i.cl _ mO).2 k
   split
   ·split <;> omega
   ·exact Int.le_refl _
 ·rcases memS v hv with h | rfl
  ·exact i.km v h p
  ·show p∈(vw V o).ks.foldl cT (vw V w).ks ↔ inV hs (mxs hs.length (vw V w).c (vw V o).c) p
   rw [pR,i.km _ mW p,i.km _ mO p]
   unfold inV
   constructor
   ·rintro (⟨u,h1,h2,h3,h4⟩ | ⟨u,h1,h2,h3,h4⟩)
    ·refine ⟨u,h1,h2,h3,?_⟩
     rw [ge u h1]
     split <;> omega
    ·refine ⟨u,h1,h2,h3,?_⟩
     rw [ge u h1]
     split <;> omega
   ·rintro ⟨u,h1,h2,h3,h4⟩
    rw [ge u h1] at h4
    split at h4
    ·exact .inr ⟨u,h1,h2,h3,h4⟩
    ·exact .inl ⟨u,h1,h2,h3,h4⟩
 ·rcases memS v hv with h | rfl
  ·exact i.ndk v h
  ·exact B3 _ _ (i.ndk _ mW)
 ·rcases memS v hv with h | rfl
  ·exact i.kr v h p hp
  ·rcases (pR _ _ p).mp hp with z | z
   ·exact i.kr _ mW p z
   ·exact i.kr _ mO p z
 ·rw [tps u hu]
  rcases memS v hv with h | rfl
  ·exact i.i1 v h u hu
  ·show (mxs hs.length (vw V w).c (vw V o).c).getD u 0<=_
   rw [ge u hu]
   have a:=i.i1 _ mW u hu
   have b:=i.i1 _ mO u hu
   split <;> omega
 ·rcases memS v hv with h | rfl
  ·exact i.i3 z hz v h hn u hu
  ·have hn:z.c0.getD z.w 0+1<=(mxs hs.length (vw V w).c (vw V o).c).getD z.w 0:=hn
   show z.c0.getD u 0<=(mxs hs.length (vw V w).c (vw V o).c).getD u 0
   rw [ge _ (i.zo z hz).1] at hn
   rw [ge u hu]
   split at hn
   ·have:=i.i3 z hz _ mO hn u hu
    split <;> omega
   ·have:=i.i3 z hz _ mW hn u hu
    split <;> omega
theorem PJ.own {hs:List Str} (nd:hs.Nodup) {V:List Vw} {R:List Z5} (i:PJ hs V R) {w:Nat} (hw:w < hs.length) {S:Seen} (so:fC hs (vw V w).c S):
  PJ hs (V.set w ⟨(vw V w).c.set w (tp V w+1),(vw V w).r,cT (vw V w).ks (hs.getD w "",tp V w+1)⟩) (R++[⟨w,(vw V w).c,S⟩]):=by
 have hwV:w < V.length:=by rw [i.len]; exact hw
 obtain ⟨eW,mW⟩:=gK hwV
 have lw:w < (vw V w).c.length:=by rw [(i.cl _ mW).1]; exact hw
 have ge:∀ k,((vw V w).c.set w (tp V w+1)).getD k 0=if w=k then tp V w+1 else (vw V w).c.getD k 0:=fun k=>xC _ _ _ _ _ lw
 have t0:(vw V w).c.getD w 0=tp V w:=rfl
 have tn:0<=tp V w:=(i.cl _ mW).2 w
 have tps:∀ u,u < hs.length->tp (V.set w ⟨(vw V w).c.set w (tp V w+1),(vw V w).r,cT (vw V w).ks (hs.getD w "",tp V w+1)⟩) u=if w=u then tp V w+1 else tp V u:=fun u hu=>by
  unfold tp
  rw [E5 hwV]
  split
  ·rename_i z
   subst z
   show ((vw V w).c.set w (tp V w+1)).getD w 0=_
   rw [ge w,if_pos rfl]
   rfl
  ·rfl
 have tge:∀ u,u < hs.length->tp V u<=tp (V.set w ⟨(vw V w).c.set w (tp V w+1),(vw V w).r,cT (vw V w).ks (hs.getD w "",tp V w+1)⟩) u:=fun u hu=>by
  rw [tps u hu]
  split
  ·rename_i z; subst z; omega
  ·exact Int.le_refl _
 have memS:∀ v∈V.set w ⟨(vw V w).c.set w (tp V w+1),(vw V w).r,cT (vw V w).ks (hs.getD w "",tp V w+1)⟩,v∈V\/v=⟨(vw V w).c.set w (tp V w+1),(vw V w).r,cT (vw V w).ks (hs.getD w "",tp V w+1)⟩:=fun v hv=>List.mem_or_eq_of_mem_set hv
 have memR:∀ z∈R++[(⟨w,(vw V w).c,S⟩:Z5)],z∈R\/z=⟨w,(vw V w).c,S⟩:=fun z hz=>by
  rcases List.mem_append.mp hz with h | h
  ·exact .inl h
  ·simp at h; exact .inr h
 have zN:zn hs ⟨w,(vw V w).c,S⟩=(hs.getD w "",tp V w+1):=rfl
 refine ⟨by rw [List.length_set]; exact i.len,fun v hv=>?_,fun v hv p=>?_,fun v hv=>?_,fun v hv p hp=>?_,fun z hz=>?_,fun v hv u hu=>?_,fun z hz=>?_,fun z hz v hv hn u hu=>?_,fun z hz y hy hn u hu=>?_,fun u hu=>?_⟩
 ·rcases memS v hv with h | rfl
  ·exact i.cl v h
  ·refine ⟨by show ((vw V w).c.set w (tp V w+1)).length=_; rw [List.length_set]; exact (i.cl _ mW).1,fun k=>?_⟩
   show 0<=((vw V w).c.set w (tp V w+1)).getD k 0
   rw [ge k]
   split
   ·omega
   ·exact (i.cl _ mW).2 k
 ·rcases memS v hv with h | rfl
  ·exact i.km v h p
  ·show p∈cT (vw V w).ks (hs.getD w "",tp V w+1) ↔ inV hs ((vw V w).c.set w (tp V w+1)) p
   rw [pO,i.km _ mW p]
   unfold inV
   constructor
   ·rintro (⟨u,h1,h2,h3,h4⟩ | rfl)
    ·refine ⟨u,h1,h2,h3,?_⟩
     rw [ge u]
     split
     ·rename_i z; subst z; omega
     ·exact h4
    ·refine ⟨w,hw,rfl,by show 1<=tp V w+1; omega,?_⟩
     rw [ge w,if_pos rfl]
     exact Int.le_refl _
   ·rintro ⟨u,h1,h2,h3,h4⟩
    rw [ge u] at h4
    split at h4
    ·rename_i z
     subst z
     by_cases e:p.2=tp V w+1
     ·exact .inr (Prod.ext h2 e)
     ·exact .inl ⟨w,hw,h2,h3,by omega⟩
    ·exact .inl ⟨u,h1,h2,h3,h4⟩
 ·rcases memS v hv with h | rfl
  ·exact i.ndk v h
  ·exact B2 (i.ndk _ mW)
 ·rw [List.map_append,List.mem_append]
  rcases memS v hv with h | rfl
  ·exact .inl (i.kr v h p hp)
  ·rcases pO.mp hp with z | z
   ·exact .inl (i.kr _ mW p z)
   ·exact .inr (by rw [z]; simp [zN])
 ·rcases memR z hz with h | rfl
  ·exact i.zo z h
  ·exact ⟨hw,(i.cl _ mW).1,(i.cl _ mW).2,so⟩
 ·rcases memS v hv with h | rfl
  ·exact Int.le_trans (i.i1 v h u hu) (tge u hu)
  ·show ((vw V w).c.set w (tp V w+1)).getD u 0<=_
   rw [ge u,tps u hu]
   split
   ·exact Int.le_refl _
   ·exact i.i1 _ mW u hu
 ·rcases memR z hz with h | rfl
  ·exact ⟨fun u hu=>Int.le_trans ((i.i2 z h).1 u hu) (tge u hu),Int.le_trans (i.i2 z h).2 (tge _ (i.zo z h).1)⟩
  ·refine ⟨fun u hu=>Int.le_trans (i.i1 _ mW u hu) (tge u hu),?_⟩
   show tp V w+1<=_
   rw [tps w hw,if_pos rfl]
   exact Int.le_refl _
 ·have mono:∀ u,(vw V w).c.getD u 0<=((vw V w).c.set w (tp V w+1)).getD u 0:=fun u=>by
   rw [ge u]
   split
   ·rename_i z; subst z; omega
   ·exact Int.le_refl _
  rcases memR z hz with h | rfl
  ·rcases memS v hv with h' | rfl
   ·exact i.i3 z h v h' hn u hu
   ·have hn:z.c0.getD z.w 0+1<=((vw V w).c.set w (tp V w+1)).getD z.w 0:=hn
    have b:=(i.i2 z h).2
    refine Int.le_trans (i.i3 z h _ mW ?_ u hu) (mono u)
    rw [ge] at hn
    split at hn
    ·rename_i e
     rw [<- e] at b ⊢
     exact b
    ·exact hn
  ·rcases memS v hv with h' | rfl
   ·have a:=i.i1 v h' w hw
    have hn:tp V w+1<=v.c.getD w 0:=hn
    omega
   ·exact mono u
 ·rcases memR z hz with h | rfl
  ·rcases memR y hy with h' | rfl
   ·exact i.i4 z h y h' hn u hu
   ·exact i.i3 z h _ mW hn u hu
  ·have hn:tp V w+1<=y.c0.getD w 0:=hn
   rcases memR y hy with h' | rfl
   ·have:=(i.i2 y h').1 w hw
    omega
   ·have hn:tp V w+1<=tp V w:=hn
    omega
 ·rw [List.filter_append,List.map_append,i.i5 u hu,tps u hu]
  by_cases e:w=u
  ·subst e
   rw [if_pos rfl]
   have e1:(tp V w+1).toNat=(tp V w).toNat+1:=by omega
   have e2:((tp V w).toNat:Int)=tp V w:=by omega
   have e3:([(⟨w,(vw V w).c,S⟩:Z5)].filter fun z=>decide (z.w=w))=[⟨w,(vw V w).c,S⟩]:=by simp
   rw [e1,List.range_succ,List.map_append,e3]
   show _++[tp V w+1]=_++[((tp V w).toNat:Int)+1]
   rw [e2]
  ·rw [if_neg e]
   simp [e]
structure HH (b:PH) (lv lr:Nat) (hs:List Str) (V:List Vw) (R:List Z5) (h:PH):Prop where
 x:Ext b h
 vl:h[lv]?=some (.lst (V.map fun v=>.ref v.r))
 rl:h[lr]?=some (.lst ((R.map (dd hs)).map dP))
 ne:lv≠lr
 lb:b.length<=lr
 tb:∀ v∈V,aX h v.r=some (v.ks.map vE)/\b.length<=v.r
 nd:(V.map (·.r)).Nodup
theorem lI {h:PH} {r n:Nat} {kvs:List (PV×PV)} {xs:List PV} (t:aX h r=some kvs) (g:h[n]?=some (.lst xs)):r≠n:=fun e=>by
 subst e
 unfold aX at t
 rw [g] at t
 cases t
theorem lJ {h h':PH} {r:Nat} (e:h'[r]?=h[r]?):aX h' r=aX h r:=by
 unfold aX
 rw [e]
theorem HH.ext {b:PH} {lv lr:Nat} {hs:List Str} {V:List Vw} {R:List Z5} {h h':PH} (a:HH b lv lr hs V R h) (x:Ext h h'):HH b lv lr hs V R h':=
 ⟨a.x.trans x,x _ _ a.vl,x _ _ a.rl,a.ne,a.lb,fun v hv=>⟨jR x (a.tb v hv).1,(a.tb v hv).2⟩,a.nd⟩
theorem HH.at {b:PH} {lv lr:Nat} {hs:List Str} {V:List Vw} {R:List Z5} {h:PH} (a:HH b lv lr hs V R h) {w:Nat} (hw:w < V.length):atI (V.map fun v=>PV.ref v.r) (w:Int)=some (.ref (vw V w).r):=by
 refine nV ?_
 rw [List.getElem?_map,(gK hw).1]
 rfl
theorem HH.upd {b:PH} {lv lr:Nat} {hs:List Str} {V:List Vw} {R:List Z5} {h h':PH} (a:HH b lv lr hs V R h) {w:Nat} (hw:w < V.length) {c':List Int} {ks':List (Str×Int)} (e:∀ n,n≠(vw V w).r->h'[n]?=h[n]?) (t:aX h' (vw V w).r=some (ks'.map vE)):HH b lv lr hs (V.set w ⟨c',(vw V w).r,ks'⟩) R h':=by
 obtain ⟨eW,mW⟩:=gK hw
 have er:(V.set w ⟨c',(vw V w).r,ks'⟩).map (·.r)=V.map (·.r):=by
  rw [List.map_set]
  refine List.ext_getElem? fun i=>?_
  rw [List.getElem?_set]
  split
  ·rename_i z
   subst z
   rw [List.length_map,if_pos hw,List.getElem?_map,eW]
   rfl
  ·rfl
 have ef:∀ U:List Vw,(U.map fun v=>PV.ref v.r)=(U.map (·.r)).map PV.ref:=fun U=>by rw [List.map_map]; rfl
 obtain ⟨t0,l0⟩:=a.tb _ mW
 refine ⟨fun n o g=>?_,?_,?_,a.ne,a.lb,fun v hv=>?_,by rw [er]; exact a.nd⟩
 ·have:=(List.getElem?_eq_some_iff.mp g).1
  rw [e n (by omega)]
  exact a.x _ _ g
 ·rw [e _ (lI t0 a.vl).symm,ef,er,<- ef]
  exact a.vl
 ·rw [e _ (lI t0 a.rl).symm]
  exact a.rl
 ·obtain ⟨j,hj⟩:=List.mem_iff_getElem?.mp hv
  rw [List.getElem?_set] at hj
  split at hj
  ·rename_i z
   cases hj
   exact ⟨t,l0⟩
  ·rename_i z
   obtain ⟨t1,l1⟩:=a.tb v (List.mem_of_getElem? hj)
   refine ⟨?_,l1⟩
   have hr:v.r≠(vw V w).r:=fun q=>z (E2 a.nd (i:=w) (j:=j) (a:=(vw V w).r) (by rw [List.getElem?_map,eW]; rfl) (by rw [List.getElem?_map,hj,<- q]; rfl))
   rw [lJ (e _ hr)]
   exact t1
theorem PJ.klen {hs:List Str} {V:List Vw} {R:List Z5} (i:PJ hs V R) {v:Vw} (hv:v∈V):v.ks.length<=R.length:=by
 have:=List.Nodup.length_le_of_subset (i.ndk v hv) fun p hp=>i.kr v hv p hp
 rwa [List.length_map] at this
def G2:Ms:=gG false (aB vAt (mV 2) (mV 6)) (dO (mG false (aB vAt (mV 2) (mV 6))) (gN 7) gH)
theorem IF {b:PH} {lv lr w o:Nat} {hs:List Str} {V:List Vw} {R:List Z5} {h:PH} (i:PJ hs V R) (a:HH b lv lr hs V R h) (hw:w < hs.length) (ho:o < hs.length) (hne:o≠w) (lR:R.length<=400) {x0 x1 x3 x4 x7 x8 x9 x10 x11:Option PV} {E:FE}
  (k:∀ V' h' x7,PJ hs V' R->HH b lv lr hs V' R h'->E.nx [x0,x1,some (.ref lv),x3,x4,some (.int w),some (.int o),x7,x8,x9,x10,x11] h'):
  (G2 [x0,x1,some (.ref lv),x3,x4,some (.int w),some (.int o),x7,x8,x9,x10,x11] h).W E:=by
 have hwV:w < V.length:=by rw [i.len]; exact hw
 have hoV:o < V.length:=by rw [i.len]; exact ho
 obtain ⟨eW,mW⟩:=gK hwV
 obtain ⟨eO,mO⟩:=gK hoV
 obtain ⟨tW,lW⟩:=a.tb _ mW
 obtain ⟨tO,lO⟩:=a.tb _ mO
 obtain ⟨oo,go,wo,do',bo⟩:=pP tO
 have hr:(vw V o).r≠(vw V w).r:=fun q=>hne (E2 a.nd (i:=o) (j:=w) (a:=(vw V w).r) (by rw [List.getElem?_map,eO,<- q]; rfl) (by rw [List.getElem?_map,eW]; rfl))
 have nv:lv≠(vw V o).r/\lv≠(vw V w).r:=⟨(lI tO a.vl).symm,(lI tW a.vl).symm⟩
 have kO:=i.klen mO
 have kW:=i.klen mW
 unfold G2
 refine AZ (d:=(vw V o).r) (o:=oo) (xs:=(vw V o).ks.map pv) (fun q δ h'=>h'[(vw V o).r]?=some (.fz oo)/\aX h' (vw V w).r=some ((((vw V o).ks.take q).foldl cT (vw V w).ks).map vE)/\(∀ n,n≠(vw V o).r->n≠(vw V w).r->h'[n]?=h[n]?)/\(((vw V o).ks.take q).foldl cT (vw V w).ks).length<=R.length+q/\∃ x7,δ=[x0,x1,some (.ref lv),x3,x4,some (.int w),some (.int o),x7,x8,x9,x10,x11]) ?_ go wo do' ?_ ?_ ?_
 ·simp [cZ a.vl,a.at hoV]
 ·refine ⟨eB go,?_,fun n h1 _=>List.getElem?_set_ne (fun z=>h1 z.symm),by simpa using kW,_,rfl⟩
  rw [lJ (List.getElem?_set_ne hr)]
  exact tW
 ·rintro q x δ h' hx ⟨g1,t1,e1,l1,x7,rfl⟩
  rw [List.getElem?_map] at hx
  obtain ⟨p,hp,rfl⟩:=Option.map_eq_some_iff.mp hx
  have hq:=(List.getElem?_eq_some_iff.mp hp).1
  have htk:(vw V o).ks.take (q+1)=(vw V o).ks.take q++[p]:=by rw [List.take_add_one,hp]; rfl
  refine ⟨_,rfl,?_⟩
  have gv:h'[lv]?=some (.lst (V.map fun v=>.ref v.r)):=by rw [e1 lv nv.1 nv.2]; exact a.vl
  unfold gH
  simp [cZ gv,a.at hwV]
  refine ⟨_,xD t1 (by omega) p,zP g1 hr.symm,?_,fun n h1 h2=>?_,?_⟩
  ·rw [htk,List.foldl_append]
   exact B1 t1
  ·rw [List.getElem?_set_ne (fun z=>h2 z.symm)]
   exact e1 n h1 h2
  ·rw [htk,List.foldl_append]
   have:=E4 (((vw V o).ks.take q).foldl cT (vw V w).ks) p
   show (cT _ p).length<=_
   omega
 ·rintro δ h' ⟨g1,t1,e1,l1,x7,rfl⟩
  rw [List.length_map,List.take_length] at t1
  refine ⟨g1,k _ _ _ (i.met hw ho) (a.upd hwV (fun n hn=>?_) ?_)⟩
  ·by_cases z:n=(vw V o).r
   ·subst z
    rw [eB g1,go]
   ·rw [List.getElem?_set_ne (fun q=>z q.symm)]
    exact e1 n z hn
  ·rw [lJ (List.getElem?_set_ne hr)]
   exact t1
def E6:Ms:=gG false (aB vAt (mV 2) (mV 5)) (dO (mG false (aB vAt (mV 2) (mV 5))) (gTp 2 (gCn (gN 10) (gCn (gN 11) gNl))) gI)
theorem G3 {b:PH} {lv lr w:Nat} {hs:List Str} (nd:hs.Nodup) {V:List Vw} {R:List Z5} {h:PH} (i:PJ hs V R) (a:HH b lv lr hs V R h) (hw:w < hs.length) (lR:R.length<=400) {x0 x1 x3 x4 x6 x7 x8 x10 x11:Option PV} {E:FE}
  (k:∀ D h' x10 x11,Ext h h'->h'[h.length]?=some (.dK (emb D))->(D.map (·.1)).Nodup->(∀ x,look D x=mI hs (vw V w).c x)->E.nx [x0,x1,some (.ref lv),x3,x4,some (.int w),x6,x7,x8,some (.ref h.length),x10,x11] h'):
  (E6 [x0,x1,some (.ref lv),x3,x4,some (.int w),x6,x7,x8,some (.ref h.length),x10,x11] (h++[.dK []])).W E:=by
 have hwV:w < V.length:=by rw [i.len]; exact hw
 obtain ⟨eW,mW⟩:=gK hwV
 have xA:Ext h (h++[MO.dK []]):=Ext.app _ _
 have a':=a.ext xA
 have gA:(h++[MO.dK []])[h.length]?=some (.dK (emb [])):=aO
 generalize h++[MO.dK []]=hA at xA a' gA
 obtain ⟨tW,lW⟩:=a'.tb _ mW
 obtain ⟨oo,go,wo,do',bo⟩:=pP tW
 have hr:(vw V w).r≠h.length:=by
  obtain ⟨t0,_⟩:=a.tb _ mW
  obtain ⟨o',g',_⟩:=pP t0
  have:=(List.getElem?_eq_some_iff.mp g').1
  omega
 have nv:lv≠(vw V w).r:=(lI tW a'.vl).symm
 have nv2:lv < h.length:=(List.getElem?_eq_some_iff.mp a.vl).1
 have kW:=i.klen mW
 have pos:∀ p∈(vw V w).ks,1<=p.2:=fun p hp=>by
  obtain ⟨_,_,_,h3,_⟩:=(i.km _ mW p).mp hp
  exact h3
 unfold E6
 refine AZ (d:=(vw V w).r) (o:=oo) (xs:=(vw V w).ks.map pv) (fun q δ h'=>h'[(vw V w).r]?=some (.fz oo)/\(∀ n,n < h.length->n≠(vw V w).r->h'[n]?=hA[n]?)/\∃ D x10 x11,δ=[x0,x1,some (.ref lv),x3,x4,some (.int w),x6,x7,x8,some (.ref h.length),x10,x11]/\h'[h.length]?=some (.dK (emb D))/\(D.map (·.1)).Nodup/\D.length<=q/\(∀ x n,look D x=some n->(x,n)∈(vw V w).ks.take q)/\∀ p∈(vw V w).ks.take q,∃ n,look D p.1=some n/\p.2<=n) ?_ go wo do' ?_ ?_ ?_
 ·simp [cZ a'.vl,a'.at hwV]
 ·exact ⟨eB go,fun n h1 h2=>List.getElem?_set_ne (fun z=>h2 z.symm),[],_,_,rfl,by rw [List.getElem?_set_ne hr]; exact gA,by simp,by simp,fun x n e=>(by cases e),fun p hp=>(by simp at hp)⟩
 ·rintro q x δ h' hx ⟨g1,e1,D,x10,x11,rfl,gD,nD,lD,s1,s2⟩
  rw [List.getElem?_map] at hx
  obtain ⟨p,hp,rfl⟩:=Option.map_eq_some_iff.mp hx
  have hq:=(List.getElem?_eq_some_iff.mp hp).1
  have htk:(vw V w).ks.take (q+1)=(vw V w).ks.take q++[p]:=by rw [List.take_add_one,hp]; rfl
  have p1:=pos p (List.mem_of_getElem? hp)
  refine ⟨[x0,x1,some (.ref lv),x3,x4,some (.int w),x6,x7,x8,some (.ref h.length),some (.str p.1),some (.int p.2)],by simp [pv],?_⟩
  have eg:(bH (emb D) (.inr p.1)).getD (.int 0)=.int ((look D p.1).getD 0):=by
   rw [jU]
   cases look D p.1 <;> rfl
  unfold gI
  simp [jP gD,uE gD,eg]
  refine ⟨_,FP gD (by unfold emb; rw [List.length_map]; omega),zP g1 hr.symm,fun n h1 h2=>?_,dput D p.1 (if p.2 < (look D p.1).getD 0 then (look D p.1).getD 0 else p.2),?_,BQ nD,?_,fun x n e=>?_,fun r1 r2 hm=>?_⟩
  ·rw [List.getElem?_set_ne (by omega)]
   exact e1 n h1 h2
  ·rw [<- AU]
   exact eB gD
  ·have:=FU (S:=D) (h:=p.1) (n:=if p.2 < (look D p.1).getD 0 then (look D p.1).getD 0 else p.2)
   omega
  ·rw [pK] at e
   rw [htk,List.mem_append,List.mem_singleton]
   split at e
   ·rename_i z
    subst z
    have e:=Option.some.inj e
    split at e
    ·rename_i z
     cases hl:look D p.1 with
     | none=>rw [hl] at z; simp at z; omega
     | some m=>
      rw [hl] at e
      exact .inl (s1 _ _ (by rw [hl]; exact congrArg some e))
    ·exact .inr (by rw [<- e])
   ·exact .inl (s1 _ _ e)
  ·generalize er:(r1,r2)=r at hm
   have er1:r1=r.1:=congrArg Prod.fst er
   have er2:r2=r.2:=congrArg Prod.snd er
   rw [htk,List.mem_append,List.mem_singleton] at hm
   rw [pK,er1,er2]
   by_cases z:r.1=p.1
   ·rw [if_pos z]
    refine ⟨_,rfl,?_⟩
    rcases hm with hm | rfl
    ·obtain ⟨n,en,ln⟩:=s2 r hm
     rw [z] at en
     rw [en]
     simp only [Option.getD_some]
     split <;> omega
    ·split <;> omega
   ·rw [if_neg z]
    rcases hm with hm | rfl
    ·exact s2 r hm
    ·exact absurd rfl z
 ·rintro δ h' ⟨g1,e1,D,x10,x11,rfl,gD,nD,lD,s1,s2⟩
  rw [List.length_map,List.take_length] at s1 s2
  refine ⟨g1,k D _ _ _ (fun n o g=>?_) ?_ nD fun x=>?_⟩
  ·have hn:=(List.getElem?_eq_some_iff.mp g).1
   by_cases z:n=(vw V w).r
   ·subst z
    rw [eB g1]
    rw [xA _ _ g] at go
    exact go.symm
   ·rw [List.getElem?_set_ne (fun q=>z q.symm),e1 n hn z]
    exact xA _ _ g
  ·rw [List.getElem?_set_ne hr]
   exact gD
  ·have key:∀ m,(x,m)∈(vw V w).ks ↔ x∈hs/\1<=m/\m<=(vw V w).c.getD (hs.idxOf x) 0:=fun m=>by
    rw [i.km _ mW]
    constructor
    ·rintro ⟨u,h1,h2,h3,h4⟩
     have h2:x=hs.getD u "" := h2
     have e3:hs.getD u "" = hs[u]:=by simp [h1]
     rw [e3] at h2
     subst h2
     rw [List.Nodup.idxOf_getElem nd u h1]
     exact ⟨List.getElem_mem h1,h3,h4⟩
    ·rintro ⟨h1,h2,h3⟩
     have hi:=List.idxOf_lt_length_iff.mpr h1
     exact ⟨hs.idxOf x,hi,by simp [hi],h2,h3⟩
   unfold mI
   split
   ·rename_i z
    have hm:=(key ((vw V w).c.getD (hs.idxOf x) 0)).mpr ⟨z.1,by omega,Int.le_refl _⟩
    obtain ⟨n,en,ln⟩:=s2 _ hm
    have en:look D x=some n:=en
    have ln:(vw V w).c.getD (hs.idxOf x) 0<=n:=ln
    have:=((key n).mp (s1 _ _ en)).2.2
    rw [en,Int.le_antisymm this ln]
   ·rename_i z
    cases e:look D x with
    | none=>rfl
    | some n=>
     obtain ⟨q1,q2,q3⟩:=(key n).mp (s1 _ _ e)
     exact absurd ⟨q1,by omega⟩ z
theorem G4 {hs:List Str} {c:List Int} {D:Seen} (nD:(D.map (·.1)).Nodup) (lk:∀ x,look D x=mI hs c x):D.length<=hs.length/\∃ S:Seen,aM (D.map row)=S.map row/\fC hs c S:=by
 obtain ⟨S,eS,pS,aS⟩:=wX nD
 have nS:=gY aS
 have so:fC hs c S:=⟨aS,fun x=>by
  rw [<- lk x]
  cases e:look S x with
  | none=>
   symm
   rw [gX]
   exact fun p hp=>gX.mp e p (pS.mem_iff.mpr hp)
  | some n=>
   have:=pL nD (pS.mem_iff.mp (wV e))
   exact this.symm⟩
 refine ⟨?_,S,eS,so⟩
 rw [<- pS.length_eq]
 exact so.len
theorem E7 {hs:List Str} (nd:hs.Nodup) {V:List Vw} {R:List Z5} (i:PJ hs V R) {w:Nat} (hw:w < hs.length):(((R.map (dd hs)).filterMap fun d=>if d.nm.1=hs.getD w "" then some (dP d) else none).length:Int)=tp V w:=by
 have mW:=(gK (V:=V) (w:=w) (by rw [i.len]; exact hw)).2
 have tn:0<=tp V w:=(i.cl _ mW).2 w
 have e:=congrArg List.length (i.i5 w hw)
 rw [List.length_map,List.length_map,List.length_range] at e
 have e2:((R.map (dd hs)).filterMap fun d=>if d.nm.1=hs.getD w "" then some (dP d) else none).length=(R.filter fun z=>decide (z.w=w)).length:=by
  have zo:=i.zo
  clear e i
  induction R with
  | nil=>rfl
  | cons z R ih=>
   have ih:=ih fun y hy=>zo y (List.mem_cons_of_mem _ hy)
   have hz:=(zo z List.mem_cons_self).1
   rw [List.map_cons,List.filterMap_cons,List.filter_cons]
   by_cases q:z.w=w
   ·have:(dd hs z).nm.1=hs.getD w "" := by rw [<- q]; rfl
    rw [if_pos this,if_pos (by simpa using q),List.length_cons,List.length_cons,ih]
   ·have:¬ (dd hs z).nm.1=hs.getD w "" := fun e=>q (pQ nd hz hw e)
    rw [if_neg this,if_neg (by simpa using q),ih]
 rw [e2,e]
 omega
theorem HH.row {b:PH} {lv lr:Nat} {hs:List Str} {V:List Vw} {R:List Z5} {h:PH} (a:HH b lv lr hs V R h) (z:Z5):HH b lv lr hs V (R++[z]) (h.set lr (.lst ((R.map (dd hs)).map dP++[dP (dd hs z)]))):=by
 refine ⟨E1 a.x a.lb,zP a.vl a.ne.symm,?_,a.ne,a.lb,fun v hv=>⟨?_,(a.tb v hv).2⟩,a.nd⟩
 ·rw [eB a.rl]
  simp
 ·rw [lJ (List.getElem?_set_ne (lI (a.tb v hv).1 a.rl).symm)]
  exact (a.tb v hv).1
def E8:Ms:=
  (bD (cG 8 (mCB eU (aC (bQ [none,some 1,some 5] (bF (mV 3)) (gN 0) (cJ (aB vEq (aB vAt (aB vAt (mV 0) (mC (.int 0))) (mC (.int 0))) (aB vAt (mV 1) (mV 2)))) (mV 0)) aN)))
  (bD (cG 9 iN)
  (bD E6
  (bD (D8 (mMt isL (onL eY) (mV 3) (aC (tQ (aC (tQ (aC (aB vAt (mV 1) (mV 5)) (aC (aB bM (mV 8) (mC (.int 1))) aN))) (aC (mCB kT (aC (mCB cE (aC (Da cX lC (mV 9)) aN)) aN)) (aC (tQ (aC (mC (.str "settle")) aN)) aN)))) aN)))
  (mE (mC (.bl true)) (aB vAt (mV 2) (mV 5)) (aB vAt (aB vAt (mV 3) (mUn CW (mC (.int 1)))) (mC (.int 0))))))))
theorem IG {b:PH} {nh lv lr w:Nat} {hs:List Str} (nd:hs.Nodup) (lh:hs.length<=6) (gh:b[nh]?=some (.lst (hs.map PV.str))) {V:List Vw} {R:List Z5} {h:PH} (i:PJ hs V R) (a:HH b lv lr hs V R h) (hw:w < hs.length) (lR:R.length<=400) {x0 x4 x6 x7 x8 x9 x10 x11:Option PV} {E:FE}
  (k:∀ V' R' h' x8 x9 x10 x11,PJ hs V' R'->HH b lv lr hs V' R' h'->R'.length=R.length+1->E.nx [x0,some (.ref nh),some (.ref lv),some (.ref lr),x4,some (.int w),x6,x7,x8,x9,x10,x11] h'):
  (E8 [x0,some (.ref nh),some (.ref lv),some (.ref lr),x4,some (.int w),x6,x7,x8,x9,x10,x11] h).W E:=by
 have hwV:w < V.length:=by rw [i.len]; exact hw
 obtain ⟨eW,mW⟩:=gK hwV
 have eh:atI (hs.map PV.str) (w:Int)=some (.str (hs.getD w "")):=nV (by simp [hw])
 have gh1:=a.x _ _ gh
 have hc:=fX (js:=[none,some 1,some 5]) (tg:=gN 0) (tst:=cJ (aB vEq (aB vAt (aB vAt (mV 0) (mC (.int 0))) (mC (.int 0))) (aB vAt (mV 1) (mV 2)))) (elt:=mV 0) (m:=mV 3) (δ:=[x0,some (.ref nh),some (.ref lv),some (.ref lr),x4,some (.int w),x6,x7,x8,x9,x10,x11]) (h:=h) (h1:=h) (ys:=R.map (dd hs)) (emb:=dP)
  (fun d=>if d.nm.1=hs.getD w "" then some (dP d) else none) (by simp) a.rl (by rw [List.length_map]; omega) (fun d hd=>⟨_,rfl,fun h3 x3=>by
   have g3:=x3 _ _ gh1
   by_cases z:d.nm.1=hs.getD w ""
   ·simp only [if_pos z]
    simp [cK,dP0,pv0,cZ g3,eh,z]
   ·simp only [if_neg z]
    simp [cK,dP0,pv0,cZ g3,eh]
    simpa using z⟩)
 have ml:=E7 nd i hw
 generalize hF:((R.map (dd hs)).filterMap fun d=>if d.nm.1=hs.getD w "" then some (dP d) else none)=F at hc ml
 have x1:Ext h (h++[MO.lst F]):=Ext.app _ _
 have gF:(h++[MO.lst F])[h.length]?=some (.lst F):=aO
 have a1:=a.ext x1
 unfold E8
 rw [aY]
 simp only [Dg,zM,oP,hc,Rs.bind_ok,tV,eJ gF,eZ,ml]
 generalize h++[MO.lst F]=hB at x1 gF a1
 refine now ?_
 rw [aY]
 simp
 refine now ?_
 rw [aY]
 refine G3 nd i a1 hw lR fun D h2 x10 x11 x2 gD nD lD=>?_
 obtain ⟨dl,S,eS,so⟩:=G4 nD lD
 have a2:=a1.ext x2
 refine now ?_
 rw [aY]
 have g1:(h2++[MO.vw 0 hB.length])[h2.length]?=some (.vw 0 hB.length):=aO
 have g2:(h2++[MO.vw 0 hB.length])[hB.length]?=some (.dK (emb D)):=Ext.app _ _ _ _ gD
 have ek:(emb D).map (fun kv=>PV.tup [kP kv.1,kv.2])=(D.map row).map tP:=by
  unfold emb
  rw [List.map_map,List.map_map]
  rfl
 have hs':=qM g1 g2 ek (by rw [List.length_map]; omega) (sI _)
 rw [eS] at hs'
 have e3:∀ x:PH,(x++[MO.lst ((S.map row).map tP)])[x.length]?=some (.lst ((S.map row).map tP)):=fun x=>aO
 have gl2:=a2.x _ _ gh
 have a3:=(a2.ext (Ext.app h2 [MO.vw 0 hB.length])).ext (Ext.app _ [MO.lst ((S.map row).map tP)])
 have a4:=a3.row ⟨w,(vw V w).c,S⟩
 have ap:=zO (p:=dP (dd hs ⟨w,(vw V w).c,S⟩)) a3.rl (by rw [List.length_map,List.length_map]; omega)
 have il:=Fz a2.rl
 simp [cZ gl2,eh,il]
 refine ⟨jP gD,?_⟩
 rw [BI gD,eZ,hs',eZ,BR (e3 _),eZ]
 have ed:PV.tup [.tup [.str (hs[w]?.getD ""),.int (tp V w+1)],sv S,.tup [.str "settle"]]=dP (dd hs ⟨w,(vw V w).c,S⟩):=rfl
 rw [ed,ap,eZ]
 have gr:((h2++[MO.vw 0 hB.length]++[MO.lst ((S.map row).map tP)]).set lr (.lst ((R.map (dd hs)).map dP++[dP (dd hs ⟨w,(vw V w).c,S⟩)])))[lr]?=some (.lst ((R.map (dd hs)).map dP++[dP (dd hs ⟨w,(vw V w).c,S⟩)])):=eB a3.rl
 generalize (h2++[MO.vw 0 hB.length]++[MO.lst ((S.map row).map tP)]).set lr (.lst ((R.map (dd hs)).map dP++[dP (dd hs ⟨w,(vw V w).c,S⟩)]))=h4 at gr a4
 refine now ?_
 have tw:=(a4.tb _ mW).1
 have kw:=i.klen mW
 have pu:=xD tw (by omega) (hs.getD w "",tp V w+1)
 simp [cZ a4.vl,a4.at hwV,cZ gr,Dj,dP0]
 exact ⟨_,pu,k _ _ _ _ _ _ _ (i.own nd hw so) (a4.upd hwV (fun n hn=>List.getElem?_set_ne (fun z=>hn z.symm)) (B1 tw)) (by simp)⟩
theorem G5 {b:PH} {nh lv lr:Nat} {hs:List Str} (nd:hs.Nodup) (l1:1<=hs.length) (lh:hs.length<=6) (gh:b[nh]?=some (.lst (hs.map PV.str))) {V:List Vw} {R:List Z5} {h:PH} (i:PJ hs V R) (a:HH b lv lr hs V R h) (lR:R.length<=400) {c:Int} {x0 x5 x6 x7 x8 x9 x10 x11:Option PV} {E:FE}
  (k:∀ V' R' h' x5 x6 x7 x8 x9 x10 x11,PJ hs V' R'->HH b lv lr hs V' R' h'->R'.length=R.length+1->E.nx [x0,some (.ref nh),some (.ref lv),some (.ref lr),some (.int c),x5,x6,x7,x8,x9,x10,x11] h'):
  (mH [x0,some (.ref nh),some (.ref lv),some (.ref lr),some (.int c),x5,x6,x7,x8,x9,x10,x11] h).W E:=by
 obtain ⟨w,ew,hw⟩:=KO c (n:=hs.length) (by omega)
 obtain ⟨o,eo,ho⟩:=KO (c / 7) (n:=hs.length) (by omega)
 have gl:=a.x _ _ gh
 show (bD (cG 5 (aB eF (mV 4) (mCB eU (aC (mV 1) aN)))) (bD (cG 6 (aB eF (aB qI (mV 4) (mC (.int 7))) (mCB eU (aC (mV 1) aN)))) (bD (kU (vT (cJ (aB vEq (aB eF (aB qI (mV 4) (mC (.int 49))) (mC (.int 2))) (mC (.int 0)))) (cJ (aB vNe (mV 6) (mV 5)))) G2 mU) E8)) [x0,some (.ref nh),some (.ref lv),some (.ref lr),some (.int c),x5,x6,x7,x8,x9,x10,x11] h).W E
 have fin:∀ V' h' x7,PJ hs V' R->HH b lv lr hs V' R h'->Lt E8 E [x0,some (.ref nh),some (.ref lv),some (.ref lr),some (.int c),some (.int w),some (.int o),x7,x8,x9,x10,x11] h':=fun V' h' x7 i' a'=>now (IG nd lh gh i' a' hw lR fun V2 R2 h2 x8 x9 x10 x11 i2 a2 l2=>k V2 R2 h2 _ _ _ _ _ _ _ i2 a2 l2)
 have mid:o≠w->(G2 [x0,some (.ref nh),some (.ref lv),some (.ref lr),some (.int c),some (.int w),some (.int o),x7,x8,x9,x10,x11] h).W { E with nx:=Lt E8 E }:=fun z=>IF i a hw ho z lR fun V' h' x7 i' a'=>fin V' h' x7 i' a'
 rw [aY]
 simp (disch:=omega) [eJ gl,ew]
 refine now ?_
 rw [aY]
 simp (disch:=omega) [eJ gl,eo]
 refine now ?_
 rw [aY]
 simp (disch:=omega)
 split
 ·split
  ·exact fin V h x7 i a
  ·rename_i z
   exact mid fun q=>z (by rw [q])
 ·exact fin V h x7 i a
theorem E9 {hs:List Str} {nh:Nat} {h:PH} (gh:h[nh]?=some (.lst (hs.map PV.str))) (lh:hs.length<=6) {δ:Ev} (hd:mV 1 δ h=.ok (.ref nh) h) (Q:PV->PH->Prop)
  (k:∀ (rs:List Nat) h',Ext h h'->rs.length=hs.length->rs.Nodup->h'[h.length]?=some (.lst (rs.map PV.ref))->(∀ r∈rs,aX h' r=some []/\h.length<=r)->Q (.ref h.length) h'):(bQ [none] (bF (mV 1)) (gN 0) iB iN δ h).W Q:=by
 unfold bQ
 rw [vX hd gh,Rs.bind_ok]
 refine uB (fun i h'=>Ext h h'/\∃ rs:List Nat,rs.length=i/\rs.Nodup/\h'[h.length]?=some (.lst (rs.map PV.ref))/\∀ r∈rs,aX h' r=some []/\h.length < r/\r < h'.length) (hs.map PV.str) 0 _ ⟨Ext.app _ _,[],rfl,by simp,by simp,fun r hr=>(by simp at hr)⟩ (fun i x h' _ hx hi=>?_) (fun h' hi=>?_)
 ·obtain ⟨x1,rs,lr,nr,g1,ar⟩:=hi
  have hil:=(List.getElem?_eq_some_iff.mp hx).1
  rw [List.length_map] at hil
  have hh:=(List.getElem?_eq_some_iff.mp g1).1
  refine ⟨oR gh _ x1,_,rfl,?_⟩
  have hY:∀ δ1,iB δ1 h'=.ok true h':=fun _=>rfl
  rw [hY,eZ,if_pos rfl]
  simp
  refine ⟨rs.map PV.ref,by rw [List.getElem?_append_left hh]; exact g1,by rw [List.length_map]; omega,AX (x1.trans (Ext.app _ _)),rs++[h'.length],by simp [lr],?_,?_,fun r hr=>?_⟩
  ·rw [List.nodup_append]
   refine ⟨nr,by simp,fun a ha c hc e=>?_⟩
   simp at hc
   have:=(ar a ha).2.2
   omega
  ·rw [eB (by rw [List.getElem?_append_left hh]; exact g1)]
   simp
  ·rcases List.mem_append.mp hr with z | z
   ·obtain ⟨t,l1,l2⟩:=ar r z
    refine ⟨?_,l1,by omega⟩
    rw [lJ (List.getElem?_set_ne (by omega))]
    exact jR (Ext.app _ _) t
   ·simp at z
    subst z
    refine ⟨?_,by omega,by simp⟩
    rw [lJ (List.getElem?_set_ne (by omega))]
    exact AM aO
 ·obtain ⟨x1,rs,lr,nr,g1,ar⟩:=hi
  rw [Nat.zero_add,List.length_map] at lr
  exact ⟨oR gh _ x1,k rs h' x1 lr nr g1 fun r hr=>⟨(ar r hr).1,Nat.le_of_lt (ar r hr).2.1⟩⟩
def V0 (n:Nat) (rs:List Nat):List Vw:=rs.map fun r=>⟨List.replicate n 0,r,[]⟩
theorem rep0 (n k:Nat):(List.replicate n (0:Int)).getD k 0=0:=by
 by_cases h:k < n
 ·simp [h]
 ·simp [h]
theorem PJ.zero {hs:List Str} {rs:List Nat} (l:rs.length=hs.length):PJ hs (V0 hs.length rs) []:=by
 have m:∀ v∈V0 hs.length rs,v.c=List.replicate hs.length 0/\v.ks=[]:=fun v hv=>by
  obtain ⟨r,_,rfl⟩:=List.mem_map.mp hv
  exact ⟨rfl,rfl⟩
 have lV:(V0 hs.length rs).length=hs.length:=by unfold V0; rw [List.length_map]; exact l
 have t0:∀ w,w < hs.length->tp (V0 hs.length rs) w=0:=fun w hw=>by
  unfold tp
  rw [(m _ (gK (by rw [lV]; exact hw)).2).1,rep0]
 refine ⟨lV,fun v hv=>?_,fun v hv p=>?_,fun v hv=>?_,fun v hv p hp=>?_,fun z hz=>(by simp at hz),fun v hv w hw=>?_,fun z hz=>(by simp at hz),fun z hz=>(by simp at hz),fun z hz=>(by simp at hz),fun w hw=>?_⟩
 ·rw [(m v hv).1]
  exact ⟨by simp,fun k=>by rw [rep0]; exact Int.le_refl _⟩
 ·rw [(m v hv).1,(m v hv).2]
  constructor
  ·intro h; simp at h
  ·rintro ⟨w,_,_,h1,h2⟩
   rw [rep0] at h2
   omega
 ·rw [(m v hv).2]; exact List.nodup_nil
 ·rw [(m v hv).2] at hp; simp at hp
 ·rw [(m v hv).1,rep0,t0 w hw]; exact Int.le_refl _
 ·rw [t0 w hw]; rfl
theorem A1 {hs:List Str} (nd:hs.Nodup) (l1:1<=hs.length) (lh:hs.length<=6) {cs:List Int} (lc:cs.length<=30) {nc nh:Nat} {h:PH} (gc:h[nc]?=some (.lst (cs.map PV.int))) (gh:h[nh]?=some (.lst (hs.map PV.str))) (Q:PV->PH->Prop)
  (k:∀ V R lr h',PJ hs V R->R.length=cs.length->Ext h h'->h.length<=lr->h'[lr]?=some (.lst ((R.map (dd hs)).map dP))->Q (.ref lr) h'):(eK [.ref nc,.ref nh] h).W Q:=by
 refine qK ?_
 unfold lG
 rw [aY]
 simp only [Dg]
 refine E9 gh lh (by simp) _ fun rs h1 x1 lrs nr g1 ar=>?_
 refine now ?_
 rw [aY]
 simp
 have xA:Ext h1 (h1++[MO.lst []]):=Ext.app _ _
 have gA:(h1++[MO.lst []])[h1.length]?=some (.lst []):=aO
 have l1':=x1.len
 have a0:HH h h.length h1.length hs (V0 hs.length rs) [] (h1++[MO.lst []]):=by
  refine ⟨x1.trans xA,?_,gA,?_,l1',fun v hv=>?_,?_⟩
  ·rw [xA _ _ g1]
   unfold V0
   rw [List.map_map]
   rfl
  ·have:=(List.getElem?_eq_some_iff.mp g1).1
   omega
  ·obtain ⟨r,hr,rfl⟩:=List.mem_map.mp hv
   exact ⟨jR xA (ar r hr).1,(ar r hr).2⟩
  ·unfold V0
   rw [List.map_map]
   exact (List.map_id rs).symm ▸ nr
 generalize h1++[MO.lst []]=hA at xA a0
 refine now ?_
 rw [aY]
 refine tX (n:=nc) (xs:=cs.map PV.int) (h1:=hA) (fun q δ h'=>∃ V R,PJ hs V R/\HH h h.length h1.length hs V R h'/\R.length=q/\∃ x4 x5 x6 x7 x8 x9 x10 x11,δ=[some (.ref nc),some (.ref nh),some (.ref h.length),some (.ref h1.length),x4,x5,x6,x7,x8,x9,x10,x11]) (by simp) (a0.x _ _ gc) ⟨_,_,PJ.zero lrs,a0,rfl,_,_,_,_,_,_,_,_,rfl⟩ ?_ ?_ ?_
 ·rintro q δ h' hq ⟨V,R,i,a,_⟩
  exact a.x _ _ gc
 ·rintro q y δ h' hy ⟨V,R,i,a,lR,x4,x5,x6,x7,x8,x9,x10,x11,rfl⟩
  rw [List.getElem?_map] at hy
  obtain ⟨c,hc,rfl⟩:=Option.map_eq_some_iff.mp hy
  have hq:=(List.getElem?_eq_some_iff.mp hc).1
  refine ⟨_,rfl,?_⟩
  exact G5 nd l1 lh gh i a (by omega) fun V' R' h' x5 x6 x7 x8 x9 x10 x11 i' a' l'=>⟨V',R',i',a',by omega,_,_,_,_,_,_,_,_,rfl⟩
 ·rintro δ h' ⟨V,R,i,a,lR,x4,x5,x6,x7,x8,x9,x10,x11,rfl⟩
  refine now ?_
  simp
  exact k V R _ h' i (by rw [lR,List.length_map]) a.x l1' a.rl
def nu (z:Z5):Int:=z.c0.getD z.w 0+1
theorem B4 (t:Nat):((List.range t).map fun (i:Nat)=>(i:Int)+1).Pairwise (· < ·):=by
 rw [List.pairwise_map]
 exact (List.pairwise_lt_range (n:=t)).imp fun {a b} h=>by omega
theorem KQ {hs:List Str} (nd:hs.Nodup) {V:List Vw} {R:List Z5} (i:PJ hs V R) {z y:Z5} (hz:z∈R) (hy:y∈R) (e:zn hs z=zn hs y):z.w=y.w/\nu z=nu y:=
 ⟨pQ nd (i.zo z hz).1 (i.zo y hy).1 (congrArg Prod.fst e),congrArg Prod.snd e⟩
theorem PJ.ndR {hs:List Str} (nd:hs.Nodup) {V:List Vw} {R:List Z5} (i:PJ hs V R):(R.map (zn hs)).Nodup:=by
 unfold List.Nodup
 rw [List.pairwise_map,List.pairwise_iff_getElem]
 intro a b ha hb hab e
 obtain ⟨e1,e2⟩:=KQ nd i (List.getElem_mem ha) (List.getElem_mem hb) e
 have hw:=(i.zo _ (List.getElem_mem ha)).1
 have p:=B4 (tp V R[a].w).toNat
 rw [<- i.i5 _ hw,List.pairwise_map,List.pairwise_filter,List.pairwise_iff_getElem] at p
 have p:=p a b ha hb hab (by simp) (by simpa using e1.symm)
 have p:nu R[a] < nu R[b]:=p
 omega
theorem GO (hs:List Str) (R:List Z5):(R.map (dd hs)).map (·.nm)=R.map (zn hs):=by
 rw [List.map_map]
 rfl
theorem PJ.uq {hs:List Str} (nd:hs.Nodup) {V:List Vw} {R:List Z5} (i:PJ hs V R) {d e:Dd} (hd:d∈R.map (dd hs)) (he:e∈R.map (dd hs)) (h:d.nm=e.nm):d=e:=by
 have n:=i.ndR nd
 rw [<- GO] at n
 obtain ⟨j,hj⟩:=List.mem_iff_getElem?.mp hd
 obtain ⟨k,hk⟩:=List.mem_iff_getElem?.mp he
 have:=E2 n (i:=j) (j:=k) (a:=e.nm) (by rw [List.getElem?_map,hj]; simp [h]) (by rw [List.getElem?_map,hk]; rfl)
 subst this
 rw [hj] at hk
 exact Option.some.inj hk
def uQ (S:Seen) (nm:Str×Int):Bool:=match look S nm.1 with | some n=>decide (nm.2<=n) | none=>false
theorem IH {hs:List Str} (nd:hs.Nodup) {c:List Int} {S:Seen} (so:fC hs c S) {w:Nat} (hw:w < hs.length):look S (hs.getD w "")=if 0 < c.getD w 0 then some (c.getD w 0) else none:=by
 rw [so.lk]
 unfold mI
 have e3:hs.getD w "" = hs[w]:=by simp [hw]
 rw [e3,List.Nodup.idxOf_getElem nd w hw]
 simp
theorem GP {hs:List Str} (nd:hs.Nodup) {V:List Vw} {R:List Z5} (i:PJ hs V R) {z y:Z5} (hz:z∈R) (hy:y∈R):uQ y.S (zn hs z)=decide (nu z<=y.c0.getD z.w 0):=by
 unfold uQ
 have e:=IH nd (i.zo y hy).2.2.2 (i.zo z hz).1
 have e:look y.S (zn hs z).1=_:=e
 rw [e]
 have n1:=(i.zo z hz).2.2.1 z.w
 split
 ·rename_i n q
  split at q
  ·cases q; rfl
  ·cases q
 ·rename_i q
  split at q
  ·cases q
  ·unfold nu
   rw [eq_comm,decide_eq_false_iff_not]
   omega
theorem B5 {hs:List Str} (nd:hs.Nodup) {V:List Vw} {R:List Z5} (i:PJ hs V R) {z y:Z5} (hz:z∈R) (hy:y∈R) (h:nu z<=y.c0.getD z.w 0):tot z.S < tot y.S:=by
 obtain ⟨z1,_,z3,z4⟩:=i.zo z hz
 obtain ⟨y1,_,y3,y4⟩:=i.zo y hy
 rw [z4.tot nd z3,y4.tot nd y3]
 refine GN (w:=z.w) _ z1 (i.i4 z hz y hy h) ?_
 unfold nu at h
 omega
theorem KR (P:Z5->Bool) (m:Nat):∀ R:List Z5,(R.filter fun z=>decide (z.w < m+1) && P z).length=(R.filter fun z=>decide (z.w < m) && P z).length+((R.filter fun z=>decide (z.w=m)).filter P).length
 | []=>rfl
 | z :: R=>by
  have ih:=KR P m R
  rw [List.filter_cons,List.filter_cons,List.filter_cons]
  by_cases h1:z.w < m
  ·have h2:z.w < m+1:=by omega
   have h3:¬ z.w=m:=by omega
   cases hp:P z <;> simp [h1,h2,h3,ih] <;> omega
  ·by_cases h3:z.w=m
   ·cases hp:P z <;> simp [h3,hp,ih]; omega
   ·have h2:¬ z.w < m+1:=by omega
    simp [h1,h2,h3,ih]
theorem KS (n:Int):∀ t:Nat,0<=n->n<=t->(((List.range t).map fun (i:Nat)=>(i:Int)+1).filter fun x=>decide (x<=n)).length=n.toNat
 | 0,h0,h1=>by
  have:n=0:=by omega
  subst this; rfl
 | t+1,h0,h1=>by
  rw [List.range_succ,List.map_append,List.filter_append,List.length_append]
  by_cases e:n<=t
  ·rw [KS n t h0 e]
   have:¬ ((t:Int)+1<=n):=by omega
   simp [this]
  ·have e2:n=t+1:=by omega
   have e3:(((List.range t).map fun (i:Nat)=>(i:Int)+1).filter fun x=>decide (x<=n))=(List.range t).map fun (i:Nat)=>(i:Int)+1:=by
    rw [List.filter_eq_self]
    intro x hx
    obtain ⟨i,hi,rfl⟩:=List.mem_map.mp hx
    have:=List.mem_range.mp hi
    simp
    omega
   rw [e3]
   simp [e2]
theorem PJ.count {hs:List Str} {V:List Vw} {R:List Z5} (i:PJ hs V R) {c:List Int} (c0:∀ k,0<=c.getD k 0) (c1:∀ w,w < hs.length->c.getD w 0<=tp V w):((R.filter fun z=>decide (nu z<=c.getD z.w 0)).length:Int)=tv hs.length c:=by
 have go:∀ m,m<=hs.length->((R.filter fun z=>decide (z.w < m) && decide (nu z<=c.getD z.w 0)).length:Int)=tv m c:=fun m=>by
  induction m with
  | zero=>intro _; simp [tv]
  | succ m ih=>
   intro hm
   rw [KR,jV,<- ih (by omega)]
   have e1:((R.filter fun z=>decide (z.w=m)).filter fun z=>decide (nu z<=c.getD z.w 0))=((R.filter fun z=>decide (z.w=m)).filter fun z=>decide (nu z<=c.getD m 0)):=by
    refine List.filter_congr fun z hz=>?_
    have:=(List.mem_filter.mp hz).2
    have:z.w=m:=by simpa using this
    rw [this]
   have e2:((R.filter fun z=>decide (z.w=m)).filter fun z=>decide (nu z<=c.getD m 0)).length=(((R.filter fun z=>decide (z.w=m)).map nu).filter fun x=>decide (x<=c.getD m 0)).length:=by
    rw [List.filter_map,List.length_map]
    rfl
   have i5:(R.filter fun z=>decide (z.w=m)).map nu=(List.range (tp V m).toNat).map fun (i:Nat)=>(i:Int)+1:=i.i5 m (by omega)
   have a:=c0 m
   have b:=c1 m (by omega)
   rw [e1,e2,i5,KS _ _ a (by omega)]
   omega
 rw [<- go _ (Nat.le_refl _)]
 congr 2
 refine List.filter_congr fun z hz=>?_
 simp [(i.zo z hz).1]
structure Fd (hs:List Str) (V:List Vw) (R:List Z5) (os:List Dd):Prop where
 nd:hs.Nodup
 i:PJ hs V R
 nO:(os.map (·.nm)).Nodup
 me:∀ d,d∈os ↔ d∈R.map (dd hs)
 br:A0 os
theorem Fd.pm {hs:List Str} {V:List Vw} {R:List Z5} {os:List Dd} (f:Fd hs V R os):os.Perm (R.map (dd hs)):=by
 have n:=f.i.ndR f.nd
 rw [<- GO] at n
 exact (List.perm_ext_iff_of_nodup (List.Pairwise.of_map _ (fun a b q e=>q (by rw [e])) f.nO) (List.Pairwise.of_map _ (fun a b q e=>q (by rw [e])) n)).mpr f.me
theorem Fd.z {hs:List Str} {V:List Vw} {R:List Z5} {os:List Dd} (f:Fd hs V R os) {d:Dd} (h:d∈os):∃ z∈R,dd hs z=d:=List.mem_map.mp ((f.me d).mp h)
theorem B6 {d e:Dd} (h:tot d.seen < tot e.seen):aV (kyL d) (kyL e)=true:=by
 unfold kyL aV
 have:¬ (Sum.inl (1+tot d.seen):Key)=Sum.inl (1+tot e.seen):=fun z=>by injection z with z; omega
 rw [if_neg this]
 simpa [keyLt] using h
def cvd (d e:Dd):Bool:=uQ d.seen e.nm
theorem Fd.cv {hs:List Str} {V:List Vw} {R:List Z5} {os:List Dd} (f:Fd hs V R os) {d e:Dd} (hd:d∈os) (he:e∈os) (h:cvd d e=true):tot e.seen < tot d.seen:=by
 obtain ⟨y,hy,rfl⟩:=f.z hd
 obtain ⟨z,hz,rfl⟩:=f.z he
 have h:uQ y.S (zn hs z)=true:=h
 rw [GP f.nd f.i hz hy] at h
 exact B5 f.nd f.i hz hy (by simpa using h)
theorem Fd.take {hs:List Str} {V:List Vw} {R:List Z5} {os:List Dd} (f:Fd hs V R os) {k:Nat} {d:Dd} (hk:os[k]?=some d):(os.take k).filter (cvd d)=os.filter (cvd d):=by
 conv=>rhs; rw [<- List.take_append_drop k os,List.filter_append]
 have:(os.drop k).filter (cvd d)=[]:=by
  rw [List.filter_eq_nil_iff]
  intro e he hc
  have lt:=f.cv (List.mem_of_getElem? hk) (List.mem_of_mem_drop he) hc
  obtain ⟨hl,ek⟩:=List.getElem?_eq_some_iff.mp hk
  rw [List.drop_eq_getElem_cons hl,ek] at he
  rcases List.mem_cons.mp he with rfl | he
  ·omega
  ·have p:List.Pairwise _ os:=f.br
   rw [<- List.take_append_drop (k+1) os,List.pairwise_append] at p
   have:=p.2.2 d (by rw [List.take_add_one,hk]; simp) e he
   rw [B6 lt] at this
   cases this
 rw [this,List.append_nil]
theorem Fd.cnt {hs:List Str} {V:List Vw} {R:List Z5} {os:List Dd} (f:Fd hs V R os) {d:Dd} (hd:d∈os):((os.filter (cvd d)).length:Int)=tot d.seen:=by
 obtain ⟨y,hy,rfl⟩:=f.z hd
 obtain ⟨y1,_,y3,y4⟩:=f.i.zo y hy
 rw [(f.pm.filter _).length_eq,List.filter_map,List.length_map]
 have e:(R.filter (cvd (dd hs y) ∘ dd hs))=R.filter fun z=>decide (nu z<=y.c0.getD z.w 0):=List.filter_congr fun z hz=>GP f.nd f.i hz hy
 rw [e,f.i.count y3 (f.i.i2 y hy).1]
 exact (y4.tot f.nd y3).symm
theorem Fd.nums {hs:List Str} {V:List Vw} {R:List Z5} {os:List Dd} (f:Fd hs V R os) {w:Nat} (hw:w < hs.length):(os.filter fun d=>decide (d.nm.1=hs.getD w "")).map (fun d=>d.nm.2)=(List.range (tp V w).toNat).map fun (i:Nat)=>(i:Int)+1:=by
 refine List.Perm.eq_of_pairwise (le:=fun (a b:Int)=>a < b) (fun a b _ _ h1 h2=>by omega) ?_ (B4 _) ?_
 ·rw [List.pairwise_map,List.pairwise_filter]
  have n:=f.nO
  unfold List.Nodup at n
  rw [List.pairwise_map] at n
  refine (f.br.and n).imp_of_mem fun {a b} ha hb h pa pb=>?_
  obtain ⟨y,hy,rfl⟩:=f.z ha
  obtain ⟨z,hz,rfl⟩:=f.z hb
  have pa:hs.getD y.w "" = hs.getD w "" := of_decide_eq_true pa
  have pb:hs.getD z.w "" = hs.getD w "" := of_decide_eq_true pb
  have ey:=pQ f.nd (f.i.zo y hy).1 hw pa
  have ez:=pQ f.nd (f.i.zo z hz).1 hw pb
  show nu y < nu z
  have hne:nu y≠nu z:=fun e=>h.2 (Prod.ext (pa.trans pb.symm) e)
  refine Classical.byContradiction fun q=>?_
  have lt:nu z<=y.c0.getD z.w 0:=by
   have:nu y=y.c0.getD z.w 0+1:=by unfold nu; rw [ey,ez]
   omega
  have:=B6 (d:=dd hs z) (e:=dd hs y) (B5 f.nd f.i hz hy lt)
  rw [h.1] at this
  cases this
 ·have i5:(R.filter fun z=>decide (z.w=w)).map nu=(List.range (tp V w).toNat).map fun (i:Nat)=>(i:Int)+1:=f.i.i5 w hw
  rw [<- i5]
  have p:=(f.pm.filter fun d=>decide (d.nm.1=hs.getD w "")).map fun d=>d.nm.2
  refine p.trans (List.Perm.of_eq ?_)
  rw [List.filter_map,List.map_map]
  have e:(R.filter ((fun d:Dd=>decide (d.nm.1=hs.getD w "")) ∘ dd hs))=R.filter fun z=>decide (z.w=w):=List.filter_congr fun z hz=>by
   show decide (hs.getD z.w "" = hs.getD w "")=decide (z.w=w)
   by_cases q:z.w=w
   ·rw [q]; simp
   ·have:¬ hs.getD z.w "" = hs.getD w "" := fun e=>q (pQ f.nd (f.i.zo z hz).1 hw e)
    rw [decide_eq_false q,decide_eq_false this]
  rw [e]
  rfl
theorem Aq {n d k:Nat} (h:k<=n):HT.sIx n d (some (k:Int))=k:=by
 show (if (k:Int) < 0 then ((k:Int)+(n:Int)).toNat else min (k:Int).toNat n)=k
 rw [if_neg (by omega)]
 omega
theorem Ea {α:Type} {xs:List α} {n:Nat} (h:n<=xs.length):fP xs none (some (n:Int))=xs.take n:=by
 unfold fP
 rw [Aq h]
 show (xs.drop 0).take (n - 0)=_
 simp
theorem sL (S:Seen) (nm:Str×Int) (h:PH):dI [sv S,pv nm] h=.ok (.bl (uQ S nm)) h:=by
 have w:(dI [sv S,pv nm] h).W fun q h'=>q=.bl (uQ S nm)/\h'=h:=by
  refine qK ?_
  unfold pJ
  rw [aY]
  refine Ii (xs:=S.map pv) (fun q δ h'=>h'=h/\look (S.drop q) nm.1=look S nm.1/\∃ x2 x3,δ=[some (sv S),some (pv nm),x2,x3]) (.inl (by simp [DY])) ⟨rfl,rfl,_,_,rfl⟩ ?_ ?_
  ·rintro q x δ h' hx ⟨rfl,hk,x2,x3,rfl⟩
   rw [List.getElem?_map] at hx
   obtain ⟨p,hp,rfl⟩:=Option.map_eq_some_iff.mp hx
   have hd:S.drop q=p :: S.drop (q+1):=by
    obtain ⟨hl,e⟩:=List.getElem?_eq_some_iff.mp hp
    rw [List.drop_eq_getElem_cons hl,e]
   rw [hd,gW] at hk
   refine ⟨_,by simp [pv]; rfl,?_⟩
   unfold pI
   by_cases e:p.1=nm.1
   ·rw [if_pos e] at hk
    simp [pv,e,uQ]
    rw [<- hk]
   ·rw [if_neg e] at hk
    simp [pv,e]
    exact hk
  ·rintro δ h' ⟨rfl,hk,x2,x3,rfl⟩
   refine now ?_
   rw [List.length_map,List.drop_length] at hk
   simp [<- hk,look,uQ]
 obtain ⟨q,h',e,rfl,rfl⟩:=Df w
 exact e
theorem dB {α:Type} (p:α->Bool) (f:α->PV):∀ xs:List α,xs.filterMap (fun x=>if p x=true then some (f x) else none)=(xs.filter p).map f
 | []=>rfl
 | x :: xs=>by
  rw [List.filterMap_cons,List.filter_cons]
  cases h:p x <;> simp [dB p f xs]
theorem A2 (ds:List Dd) (ld:ds.length<=1000) (hp:∀ e∈ds,1<=e.nm.2) (d:Dd) (nS:(d.seen.map (·.1)).Nodup) (n:Nat) (h:PH) (g:h[n]?=some (.lst (ds.map dP))) (Q:PV->PH->Prop)
  (k:∀ l h',Ext h h'->h'[l]?=some (.lst ((ds.filter (cvd d)).map dP))->Q (.ref l) h'):(pH [.ref n,dP d] h).W Q:=by
 refine qK ?_
 unfold DP
 rw [aY]
 have m0:lA [] (emb d.seen)=emb (d1 d.seen):=sH d.seen []
 have v0:pE [sv d.seen] h=.ok (.ref h.length) (h++[.dK (emb (d1 d.seen))]):=by
  have:pE [sv d.seen] h=oU [sv d.seen] h:=rfl
  rw [this,<- m0]; exact wD (sG d.seen)
 have lk:∀ x,look (d1 d.seen) x=look d.seen x:=fun x=>by
  unfold d1
  rw [AV d.seen _ nS]
  simp [look]
 simp [dP1,v0]
 have x1:Ext h (h++[MO.dK (emb (d1 d.seen))]):=Ext.app _ _
 have g1:(h++[MO.dK (emb (d1 d.seen))])[h.length]?=some (.dK (emb (d1 d.seen))):=aO
 generalize h++[MO.dK (emb (d1 d.seen))]=hA at x1 g1
 refine now ?_
 have eg:∀ x,(bH (emb (d1 d.seen)) (.inr x)).getD (.int 0)=.int ((look d.seen x).getD 0):=fun x=>by
  rw [jU,lk]
  cases look d.seen x <;> rfl
 have hc:=fX (js:=[none,some 2]) (tg:=gN 0) (tst:=cJ (aB vLe (aB vAt (aB vAt (mV 0) (mC (.int 0))) (mC (.int 1))) (mMt cX wC (mV 1) (aC (aB vAt (aB vAt (mV 0) (mC (.int 0))) (mC (.int 0))) (aC (mC (.int 0)) aN))))) (elt:=mV 0) (m:=mV 0) (δ:=[some (.ref n),some (dP d),some (.ref h.length)]) (h:=hA) (h1:=hA) (ys:=ds) (emb:=dP)
  (fun e=>if cvd d e=true then some (dP e) else none) (by simp) (x1 _ _ g) (by omega) (fun e he=>⟨_,rfl,fun h3 x3=>by
   have g3:=x3 _ _ g1
   have e1:cvd d e=decide (e.nm.2<=(look d.seen e.nm.1).getD 0):=by
    unfold cvd uQ
    have:=hp e he
    cases look d.seen e.nm.1 with
    | none=>simp; omega
    | some m=>rfl
   by_cases z:e.nm.2<=(look d.seen e.nm.1).getD 0
   ·rw [e1,decide_eq_true z]
    simp [cK,dP0,pv0,pv1,jP g3,uE g3,eg,z]
   ·rw [e1,decide_eq_false z]
    simp [cK,dP0,pv0,pv1,jP g3,uE g3,eg]
    omega⟩)
 rw [dB] at hc
 rw [GF,hc,eZ]
 exact k _ _ (x1.trans (Ext.app _ _)) aO
theorem xF (d e:Dd) (hd:d.seen.length<=100) (he:e.seen.length<=100) (b:Bool) (hb:∀ h,iH (tP (kyL d)) (tP (kyL e)) h=.ok (.bl b) h) (h:PH) (Q:PV->PH->Prop) (k:∀ h',Ext h h'->Q (.bl b) h'):(gU [dP d,dP e] h).W Q:=by
 refine qK ?_
 simp [uM]
 refine uO d hd _ _ fun h1 x1=>?_
 refine uO e he _ _ fun h2 x2=>?_
 rw [hb,eZ]
 exact k _ (x1.trans x2)
theorem B7 {d e:Dd} (b:Bool) (h:tot d.seen≠tot e.seen) (hb:b=decide (tot d.seen < tot e.seen)) (h':PH):iH (tP (kyL d)) (tP (kyL e)) h'=.ok (.bl b) h':=by
 have q:ltL (ltP 39) [.int (1+tot d.seen),.str d.nm.1,.int d.nm.2] [.int (1+tot e.seen),.str e.nm.1,.int e.nm.2]=some b:=by
  have z:¬ PV.int (1+tot d.seen)=PV.int (1+tot e.seen):=fun z=>by injection z with z; omega
  unfold ltL
  rw [if_neg z,hb]
  unfold ltP
  congr 1
  rw [decide_eq_decide]
  omega
 exact Dq rfl rfl q
theorem Fd.wf {hs:List Str} {V:List Vw} {R:List Z5} {os:List Dd} (f:Fd hs V R os) (lh:hs.length<=6) {d:Dd} (h:d∈os):d.seen.length<=100/\(d.seen.map (·.1)).Nodup/\1<=d.nm.2/\∃ w,w < hs.length/\d.nm.1=hs.getD w "" := by
 obtain ⟨z,hz,rfl⟩:=f.z h
 obtain ⟨z1,z2,z3,z4⟩:=f.i.zo z hz
 have l:z.S.length<=hs.length:=z4.len
 refine ⟨by show z.S.length<=100; omega,gY z4.asc,?_,z.w,z1,rfl⟩
 show 1<=z.c0.getD z.w 0+1
 have:=z3 z.w
 omega
theorem II {d e:Dd} (hd:d.seen.length<=100) (he:e.seen.length<=100) (lt:tot e.seen < tot d.seen) {x0 x1 x2 x3 x4 x7 x8:Option PV} {h:PH} {E:FE} (k:∀ h',Ext h h'->E.nx [x0,x1,x2,x3,x4,some (dP d),some (dP e),x7,x8] h'):
  (uN [x0,x1,x2,x3,x4,some (dP d),some (dP e),x7,x8] h).W E:=by
 unfold uN
 simp
 refine pN e he _ _ fun h1 y1=>?_
 refine pN d hd _ _ fun h2 y2=>?_
 have z:¬ (1+tot d.seen<=1+tot e.seen):=by omega
 simp [z]
 refine xF e d he hd true (B7 true (by omega) (by simp [lt])) _ _ fun h3 y3=>?_
 simp
 refine xF d e hd he false (B7 false (by omega) (by simp; omega)) _ _ fun h4 y4=>?_
 simp
 exact k _ (y1.trans (y2.trans (y3.trans y4)))
theorem KU {hs:List Str} {z:Z5}:(dP (dd hs z)).pl 39=true:=by
 have e:(z.S.map pv).all (PV.pl 37)=true:=by
  rw [List.all_eq_true]
  intro x hx
  obtain ⟨p,_,rfl⟩:=List.mem_map.mp hx
  rfl
 show (PV.tup [pv (zn hs z),.tup (z.S.map pv),.tup [.str "settle"]]).pl 39=true
 have e2:(PV.tup (z.S.map pv)).pl 38=true:=e
 have e3:(pv (zn hs z)).pl 38=true:=rfl
 show List.all [pv (zn hs z),.tup (z.S.map pv),.tup [.str "settle"]] (PV.pl 38)=true
 rw [List.all_cons,List.all_cons,e2,e3]
 rfl
theorem Fd.pl {hs:List Str} {V:List Vw} {R:List Z5} {os:List Dd} (f:Fd hs V R os) (p:Dd->Bool):((os.filter p).map dP).all (PV.pl 39)=true:=by
 rw [List.all_eq_true]
 intro x hx
 obtain ⟨d,hd,rfl⟩:=List.mem_map.mp hx
 obtain ⟨z,_,rfl⟩:=f.z (List.mem_filter.mp hd).1
 exact KU
theorem IJ {hs:List Str} {V:List Vw} {R:List Z5} {os:List Dd} (f:Fd hs V R os):aM ((os.map (·.nm)).map row)=aM (((R.map (dd hs)).map (·.nm)).map row):=by
 have sh:∀ (xs:List (Str×Int)) y,y∈xs.map row->shape y=[false,true]:=fun xs y hy=>by
  obtain ⟨p,_,rfl⟩:=List.mem_map.mp hy
  rfl
 exact fA (sh _) ((bT _).trans ((f.pm.map _).map _)) (cQ (sh _))
theorem G6 {hs:List Str} {V:List Vw} {R:List Z5} {os:List Dd} (f:Fd hs V R os) (lh:hs.length<=6) (lo:os.length<=60) {k lr lf:Nat} {d:Dd} (hk:os[k]?=some d) {h:PH} (gr:h[lr]?=some (.lst ((R.map (dd hs)).map dP))) (gf:h[lf]?=some (.lst (os.map dP))) {x0 x1 x5 x6 x7 x8:Option PV} {E:FE}
  (kk:∀ h' x5 x6,Ext h h'->E.nx [x0,x1,some (.ref lr),some (.ref lf),some (.int k),x5,x6,x7,x8] h'):
  (nB [x0,x1,some (.ref lr),some (.ref lf),some (.int k),x5,x6,x7,x8] h).W E:=by
 have hd:d∈os:=List.mem_of_getElem? hk
 obtain ⟨d1,d2,d3,_⟩:=f.wf lh hd
 have hl:=(List.getElem?_eq_some_iff.mp hk).1
 have pos:∀ e∈os,1<=e.nm.2:=fun e he=>(f.wf lh he).2.2.1
 have ek:atI (os.map dP) (k:Int)=some (dP d):=nV (by rw [List.getElem?_map,hk]; rfl)
 unfold nB
 rw [aY]
 simp [cZ gf,ek]
 refine now ?_
 rw [aY]
 have hc:=fX (js:=[none,some 5]) (tg:=gN 0) (tst:=cJ (cA 2 dI (aC (aB vAt (mV 1) (mC (.int 1))) (aC (aB vAt (mV 0) (mC (.int 0))) aN)))) (elt:=mV 0) (m:=mV 3) (δ:=[x0,x1,some (.ref lr),some (.ref lf),some (.int k),some (dP d),x6,x7,x8]) (h:=h) (h1:=h) (ys:=os) (emb:=dP)
  (fun e=>if cvd d e=true then some (dP e) else none) (by simp) gf (by omega) (fun e he=>⟨_,rfl,fun h3 x3=>by
   by_cases z:cvd d e=true
   ·simp only [if_pos z]
    unfold cvd at z
    simp [cK,dP0,dP1,sL,z]
   ·simp only [if_neg z]
    unfold cvd at z
    simp [cK,dP0,dP1,sL]
    simpa using z⟩)
 rw [dB] at hc
 have y1:Ext h (h++[MO.lst ((os.filter (cvd d)).map dP)]):=Ext.app _ _
 have g1:(h++[MO.lst ((os.filter (cvd d)).map dP)])[h.length]?=some (.lst ((os.filter (cvd d)).map dP)):=aO
 simp [hc]
 generalize h++[MO.lst ((os.filter (cvd d)).map dP)]=h1 at y1 g1
 refine A2 os (by omega) pos d d2 _ _ (y1 _ _ gf) _ fun l2 h2 y2 g2=>?_
 rw [tY (y2 _ _ g1) g2 (f.pl _) (f.pl _)]
 simp
 refine now ?_
 rw [aY]
 have z2:=y1.trans y2
 simp [FD (z2 _ _ gf),Ea (n:=k) (xs:=os.map dP) (by rw [List.length_map]; omega)]
 have y3:Ext h2 (h2++[MO.lst ((os.map dP).take k)]):=Ext.app _ _
 have g3:(h2++[MO.lst ((os.map dP).take k)])[h2.length]?=some (.lst ((os.take k).map dP)):=by rw [List.map_take]; exact aO
 generalize h2++[MO.lst ((os.map dP).take k)]=h3 at y3 g3
 refine A2 (os.take k) (by rw [List.length_take]; omega) (fun e he=>pos e (List.mem_of_mem_take he)) d d2 _ _ g3 _ fun l4 h4 y4 g4=>?_
 rw [f.take hk] at g4
 rw [eJ g4,eZ,List.length_map,f.cnt hd]
 have hc2:=rV (js:=[none,none]) (tg:=gTp 2 (gCn (gN 0) (gCn (gN 1) gNl))) (tst:=iB) (elt:=mV 1) (m:=aB vAt (mV 5) (mC (.int 1))) (δ:=[x0,x1,some (.ref lr),some (.ref lf),some (.int k),some (dP d),x6,x7,x8]) (h:=h4) (h1:=h4) (ys:=d.seen) (emb:=pv)
  (fun q=>some (.int q.2)) (by simp [dP1,DY]) (by omega) (fun q hq=>⟨[some (.str q.1),some (.int q.2)],by simp [pv,cK],fun h3 _=>⟨rfl,by simp⟩⟩)
 have es:d.seen.filterMap (fun q=>some (PV.int q.2))=(d.seen.map (·.2)).map PV.int:=by rw [filterMap_some,List.map_map]; rfl
 rw [es] at hc2
 have gs:(h4++[MO.lst ((d.seen.map (·.2)).map PV.int)])[h4.length]?=some (.lst ((d.seen.map (·.2)).map PV.int)):=aO
 have y5:Ext h4 (h4++[MO.lst ((d.seen.map (·.2)).map PV.int)]):=Ext.app _ _
 rw [hc2,eZ]
 generalize h4++[MO.lst ((d.seen.map (·.2)).map PV.int)]=h5 at gs y5
 rw [vW gs,eZ]
 have et:(d.seen.map (·.2)).sum=tot d.seen:=rfl
 rw [et,FC,decide_eq_true rfl]
 simp
 refine now ?_
 have z5:=z2.trans (y3.trans (y4.trans y5))
 have nb:∀ e∈R.map (dd hs),1<=e.nm.2:=fun e he=>pos e ((f.me e).mpr he)
 have lRR:(R.map (dd hs)).length<=60:=by rw [<- f.pm.length_eq]; exact lo
 obtain ⟨p6,h6,e6,l6,rfl,y6,g6⟩:=Df (A2 (R.map (dd hs)) (by omega) nb d d2 lr h5 (z5 _ _ gr) (fun p h'=>∃ l,p=.ref l/\Ext h5 h'/\h'[l]?=some (.lst (((R.map (dd hs)).filter (cvd d)).map dP))) fun l h' y g=>⟨l,rfl,y,g⟩)
 refine tX (n:=l6) (xs:=((R.map (dd hs)).filter (cvd d)).map dP) (h1:=h6) (fun q δ h'=>Ext h6 h'/\∃ x6,δ=[x0,x1,some (.ref lr),some (.ref lf),some (.int k),some (dP d),x6,x7,x8]) (by rw [Dh]; simp [e6]) g6 ⟨Ext.refl _,_,rfl⟩ ?_ ?_ ?_
 ·rintro q δ h' _ ⟨y,_⟩
  exact y _ _ g6
 ·rintro q x δ h' hx ⟨y,x6,rfl⟩
  rw [List.getElem?_map] at hx
  obtain ⟨e,he,rfl⟩:=Option.map_eq_some_iff.mp hx
  obtain ⟨m1,m2⟩:=List.mem_filter.mp (List.mem_of_getElem? he)
  have me:=(f.me e).mpr m1
  refine ⟨_,rfl,?_⟩
  exact II d1 (f.wf lh me).1 (f.cv hd me m2) fun h7 y7=>⟨y.trans y7,_,rfl⟩
 ·rintro δ h' ⟨y,x6,rfl⟩
  exact kk _ _ _ (z5.trans (y6.trans y))
theorem G7 {hs:List Str} {V:List Vw} {R:List Z5} {os:List Dd} (f:Fd hs V R os) (lo:os.length<=60) {w lf:Nat} (hw:w < hs.length) {h:PH} (gf:h[lf]?=some (.lst (os.map dP))) {x0 x1 x2 x4 x5 x6 x8:Option PV} {E:FE}
  (kk:∀ h' x8,Ext h h'->E.nx [x0,x1,x2,some (.ref lf),x4,x5,x6,some (.str (hs.getD w "")),x8] h'):
  (nC [x0,x1,x2,some (.ref lf),x4,x5,x6,some (.str (hs.getD w "")),x8] h).W E:=by
 unfold nC
 rw [aY]
 have hc:=fX (js:=[none,some 7]) (tg:=gN 0) (tst:=cJ (aB vEq (aB vAt (aB vAt (mV 0) (mC (.int 0))) (mC (.int 0))) (mV 1))) (elt:=aB vAt (aB vAt (mV 0) (mC (.int 0))) (mC (.int 1))) (m:=mV 3) (δ:=[x0,x1,x2,some (.ref lf),x4,x5,x6,some (.str (hs.getD w "")),x8]) (h:=h) (h1:=h) (ys:=os) (emb:=dP)
  (fun e=>if decide (e.nm.1=hs.getD w "")=true then some (.int e.nm.2) else none) (by simp) gf (by omega) (fun e he=>⟨_,rfl,fun h3 x3=>by
   by_cases z:e.nm.1=hs.getD w ""
   ·simp only [decide_eq_true z,if_true]
    generalize hs.getD w "" = s at z
    simp [cK,dP0,pv0,pv1,z]
   ·simp only [decide_eq_false z,Bool.false_eq_true,if_false]
    generalize hs.getD w "" = s at z
    simp [cK,dP0,pv0,pv1,z]⟩)
 rw [dB] at hc
 have en:(os.filter fun e=>decide (e.nm.1=hs.getD w "")).map (fun e=>PV.int e.nm.2)=((List.range (tp V w).toNat).map fun (i:Nat)=>(i:Int)+1).map PV.int:=by
  rw [<- f.nums hw,List.map_map]
  rfl
 rw [en] at hc
 have tl:(tp V w).toNat<=60:=by
  have:=congrArg List.length (f.nums hw)
  rw [List.length_map,List.length_map,List.length_range] at this
  rw [<- this]
  exact Nat.le_trans (List.length_filter_le _ _) lo
 generalize (tp V w).toNat=t at hc tl
 generalize hs.getD w "" = s at hc kk
 have y1:Ext h (h++[MO.lst (((List.range t).map fun (i:Nat)=>(i:Int)+1).map PV.int)]):=Ext.app _ _
 have g1:(h++[MO.lst (((List.range t).map fun (i:Nat)=>(i:Int)+1).map PV.int)])[h.length]?=some (.lst (((List.range t).map fun (i:Nat)=>(i:Int)+1).map PV.int)):=aO
 simp only [Dg,hc,eZ]
 generalize h++[MO.lst (((List.range t).map fun (i:Nat)=>(i:Int)+1).map PV.int)]=h1 at y1 g1
 refine now ?_
 have ev:=FT (h:=h1) (a:=1) (b:=(t:Int)+1) (by omega)
 have ee:((List.range ((t:Int)+1 - 1).toNat).map fun (i:Nat)=>(1:Int)+(i:Int))=(List.range t).map fun (i:Nat)=>(i:Int)+1:=by
  have:((t:Int)+1 - 1).toNat=t:=by omega
  rw [this]
  refine List.map_congr_left fun i _=>?_
  omega
 rw [ee] at ev
 have pl:∀ xs:List Int,(xs.map PV.int).all (PV.pl 39)=true:=fun xs=>by
  rw [List.all_eq_true]
  intro x hx
  obtain ⟨p,_,rfl⟩:=List.mem_map.mp hx
  rfl
 have y2:Ext h1 (h1++[MO.lst (((List.range t).map fun (i:Nat)=>(i:Int)+1).map PV.int)]):=Ext.app _ _
 have ne:=tY (y2 _ _ g1) (aO (h:=h1)) (pl _) (pl ((List.range t).map fun (i:Nat)=>(i:Int)+1))
 have ln:(((List.range t).map fun (i:Nat)=>(i:Int)+1).map PV.int).length=t:=by simp
 have vl:=eJ g1
 rw [ln] at vl
 rw [decide_eq_true rfl] at ne
 simp
 rw [vl,eZ,rS,eZ,ev,eZ,ne,eZ]
 simp [-List.map_map]
 exact kk _ _ (y1.trans y2)
theorem Eb {α β:Type} (f:α->β) (xs:List α) (lo hi:Option Int):fP (xs.map f) lo hi=(fP xs lo hi).map f:=by
 unfold fP
 rw [List.length_map,<- List.map_drop,<- List.map_take]
theorem main (ns:List Int) (hl:ns.length<=63):∃ h,DR [.fl (ns.map PV.int)] []=.ok (.bl true) h:=by
 have w:(DR [.fl (ns.map PV.int)] []).W fun p _=>p=.bl true:=by
  refine qK ?_
  unfold DQ
  rw [aY]
  have c0:=FX ns 0 []
  have c0:bZ [.fl (ns.map PV.int),.int 0] []=.ok (.int (cell ns 0)) []:=c0
  generalize cell ns 0=c at c0
  obtain ⟨m,em,m1,m6⟩:∃ m:Nat,1+c / 24 % 5=(m:Int)/\1<=m/\m<=6:=⟨(1+c / 24 % 5).toNat,by omega,by omega,by omega⟩
  simp (disch:=omega) [c0,em]
  refine DX c m m1 m6 [] _ fun hs lh nd=>?_
  have g0:(([]:PH)++[MO.lst (hs.map PV.str)])[([]:PH).length]?=some (.lst (hs.map PV.str)):=aO
  generalize ([]:PH).length=nh at g0
  generalize ([]:PH)++[MO.lst (hs.map PV.str)]=h1 at g0
  refine now ?_
  rw [aY]
  simp
  have ec:∃ cs:List Int,cs.length<=30/\fP (ns.map PV.int) (some 1) (some 31)=cs.map PV.int:=by
   refine ⟨fP ns (some 1) (some 31),?_,by rw [Eb]⟩
   unfold fP
   rw [List.length_take]
   have e1:HT.sIx ns.length 0 (some (1:Int))=min 1 ns.length:=rfl
   have e2:HT.sIx ns.length ns.length (some (31:Int))=min 31 ns.length:=rfl
   rw [e1,e2]
   omega
  obtain ⟨cs,lcs,ecs⟩:=ec
  rw [ecs]
  have x2:Ext h1 (h1++[MO.lst (cs.map PV.int)]):=Ext.app _ _
  have g2:(h1++[MO.lst (cs.map PV.int)])[h1.length]?=some (.lst (cs.map PV.int)):=aO
  generalize h1++[MO.lst (cs.map PV.int)]=h2 at x2 g2
  refine A1 nd (by omega) (by omega) lcs g2 (x2 _ _ g0) _ fun V R lr h3 i lR x3 _ g3=>?_
  have gh3:=x3 _ _ (x2 _ _ g0)
  refine now ?_
  rw [aY]
  have vl3:vU [.ref lr] h3=.ok (.ref h3.length) (h3++[MO.lst ((R.map (dd hs)).map dP)]):=by simp [vU,aL,g3]
  simp
  rw [vl3,eZ]
  have x4:Ext h3 (h3++[MO.lst ((R.map (dd hs)).map dP)]):=Ext.app _ _
  have g4:(h3++[MO.lst ((R.map (dd hs)).map dP)])[h3.length]?=some (.lst ((R.map (dd hs)).map dP)):=aO
  generalize h3.length=l4 at g4
  generalize h3++[MO.lst ((R.map (dd hs)).map dP)]=h4 at x4 g4
  have wfR:∀ d∈R.map (dd hs),Wf d:=fun d hd=>by
   obtain ⟨z,hz,rfl⟩:=List.mem_map.mp hd
   have l:z.S.length<=hs.length:=(i.zo z hz).2.2.2.len
   exact ⟨by show z.S.length<=100; omega,rfl,rfl⟩
  refine xB (R.map (dd hs)) wfR (by rw [List.length_map]; omega) (fun d hd e he=>i.uq nd hd he) l4 h4 g4 _ fun os lf h5 x5 g5 nO me br=>?_
  have f:Fd hs V R os:=⟨nd,i,nO,me,br⟩
  have lo:os.length<=30:=by rw [f.pm.length_eq,List.length_map]; omega
  have x35:=x4.trans x5
  have gr5:=x35 _ _ g3
  have gh5:=x35 _ _ gh3
  refine now ?_
  rw [aY]
  have cn:∀ (ds:List Dd) (n:Nat) (m:Me) (h:PH),ds.length<=30->h[n]?=some (.lst (ds.map dP))->m [some (.fl (ns.map PV.int)),some (.ref nh),some (.ref lr),some (.ref lf),none,none,none,none,none] h=.ok (.ref n) h->mCB cE (aC (bQ [none] (bF m) (gN 0) iB (aB vAt (mV 0) (mC (.int 0)))) aN) [some (.fl (ns.map PV.int)),some (.ref nh),some (.ref lr),some (.ref lf),none,none,none,none,none] h=.ok (.ref (h.length+1)) ((h++[MO.lst (ds.map fun d=>pv d.nm)])++[MO.lst ((aM ((ds.map (·.nm)).map row)).map tP)]):=fun ds n m h ld g em=>by
   have hc:=fX (js:=[none]) (tg:=gN 0) (tst:=iB) (elt:=aB vAt (mV 0) (mC (.int 0))) (m:=m) (δ:=[some (.fl (ns.map PV.int)),some (.ref nh),some (.ref lr),some (.ref lf),none,none,none,none,none]) (h:=h) (h1:=h) (ys:=ds) (emb:=dP)
    (fun d=>some (pv d.nm)) em g (by omega) (fun d hd=>⟨_,rfl,fun h3 x3=>⟨rfl,by simp [cK,dP0]⟩⟩)
   rw [filterMap_some] at hc
   have gs:(h++[MO.lst (ds.map fun d=>pv d.nm)])[h.length]?=some (.lst (((ds.map (·.nm)).map row).map tP)):=by
    rw [aO,List.map_map,List.map_map]
    rfl
   have vs:=uF gs (by rw [List.length_map,List.length_map]; omega) (sI _)
   rw [zM,oP,hc,Rs.bind_ok,tV,Rs.bind_ok,Rs.bind_ok,vs]
   simp
  have s1:=cn os lf (mV 3) h5 lo g5 (by simp)
  have x6:Ext h5 ((h5++[MO.lst (os.map fun d=>pv d.nm)])++[MO.lst ((aM ((os.map (·.nm)).map row)).map tP)]):=(Ext.app _ _).trans (Ext.app _ _)
  have g6:((h5++[MO.lst (os.map fun d=>pv d.nm)])++[MO.lst ((aM ((os.map (·.nm)).map row)).map tP)])[h5.length+1]?=some (.lst ((aM ((os.map (·.nm)).map row)).map tP)):=by
   have:=aO (h:=h5++[MO.lst (os.map fun d=>pv d.nm)]) (o:=MO.lst ((aM ((os.map (·.nm)).map row)).map tP))
   rwa [List.length_append] at this
  generalize ((h5++[MO.lst (os.map fun d=>pv d.nm)])++[MO.lst ((aM ((os.map (·.nm)).map row)).map tP)])=h6 at s1 x6 g6
  generalize h5.length+1=l6 at s1 g6
  have s2:=cn (R.map (dd hs)) lr (mV 2) h6 (by rw [List.length_map]; omega) (x6 _ _ gr5) (by simp)
  rw [<- IJ f] at s2
  have x7:Ext h6 ((h6++[MO.lst ((R.map (dd hs)).map fun d=>pv d.nm)])++[MO.lst ((aM ((os.map (·.nm)).map row)).map tP)]):=(Ext.app _ _).trans (Ext.app _ _)
  have g7:((h6++[MO.lst ((R.map (dd hs)).map fun d=>pv d.nm)])++[MO.lst ((aM ((os.map (·.nm)).map row)).map tP)])[h6.length+1]?=some (.lst ((aM ((os.map (·.nm)).map row)).map tP)):=by
   have:=aO (h:=h6++[MO.lst ((R.map (dd hs)).map fun d=>pv d.nm)]) (o:=MO.lst ((aM ((os.map (·.nm)).map row)).map tP))
   rwa [List.length_append] at this
  generalize ((h6++[MO.lst ((R.map (dd hs)).map fun d=>pv d.nm)])++[MO.lst ((aM ((os.map (·.nm)).map row)).map tP)])=h7 at s2 x7 g7
  generalize h6.length+1=l7 at s2 g7
  have pl:((aM ((os.map (·.nm)).map row)).map tP).all (PV.pl 39)=true:=by
   rw [List.all_eq_true]
   intro x hx
   obtain ⟨y,hy,rfl⟩:=List.mem_map.mp hx
   obtain ⟨p,_,rfl⟩:=List.mem_map.mp ((bT _).mem_iff.mp hy)
   rfl
  have ne:=tY (x7 _ _ g6) g7 pl pl
  rw [decide_eq_true rfl] at ne
  have x57:=x6.trans x7
  have g57:=x57 _ _ g5
  have gr7:=x57 _ _ gr5
  have gh7:=x57 _ _ gh5
  have fin:Lt (bD (dO (iF (aC (mCB eU (aC (mV 3) aN)) aN)) (gN 4) nB) (bD (dO (bF (mV 1)) (gN 7) nC) (dN (mC (.bl true))))) { nx:=fun x h=>False,rt:=fun p x=>p=PV.bl true } [some (.fl (ns.map PV.int)),some (.ref nh),some (.ref lr),some (.ref lf),none,none,none,none,none] h7:=by
   refine now ?_
   rw [aY]
   have hlv:=eJ g57
   rw [List.length_map] at hlv
   refine Dk (j:=(os.length:Int)) (fun q δ h'=>Ext h7 h'/\∃ x4 x5 x6,δ=[some (.fl (ns.map PV.int)),some (.ref nh),some (.ref lr),some (.ref lf),x4,x5,x6,none,none]) (by simp [hlv]) (by omega) ⟨Ext.refl _,_,_,_,rfl⟩ ?_ ?_
   ·rintro q δ h' hq ⟨y1,x4,x5,x6,rfl⟩
    have hq':q < os.length:=by omega
    obtain ⟨d,hk⟩:∃ d,os[q]?=some d:=⟨os[q],by simp [hq']⟩
    exact G6 f (by omega) (by omega) hk (y1 _ _ gr7) (y1 _ _ g57) fun h'' x5 x6 y2=>⟨y1.trans y2,_,_,_,rfl⟩
   ·rintro δ h' ⟨y1,x4,x5,x6,rfl⟩
    refine now ?_
    rw [aY]
    refine tX (n:=nh) (xs:=hs.map PV.str) (h1:=h') (fun q δ h''=>Ext h7 h''/\∃ x7 x8,δ=[some (.fl (ns.map PV.int)),some (.ref nh),some (.ref lr),some (.ref lf),x4,x5,x6,x7,x8]) (by simp) (y1 _ _ gh7) ⟨y1,_,_,rfl⟩ ?_ ?_ ?_
    ·rintro q δ h'' _ ⟨y,_⟩
     exact y _ _ gh7
    ·rintro q x δ h'' hx ⟨y,x7,x8,rfl⟩
     rw [List.getElem?_map] at hx
     obtain ⟨s,hs1,rfl⟩:=Option.map_eq_some_iff.mp hx
     have hq:=(List.getElem?_eq_some_iff.mp hs1).1
     have es:s=hs.getD q "" := by rw [List.getD_eq_getElem?_getD,hs1]; rfl
     refine ⟨_,rfl,?_⟩
     rw [es]
     exact G7 f (by omega) hq (y _ _ g57) fun h9 x8 y9=>⟨y.trans y9,_,_,rfl⟩
    ·rintro δ h'' ⟨y,x7,x8,rfl⟩
     refine now ?_
     simp
  rw [K2,Fx,AG,s1,Rs.bind_ok,s2,Rs.bind_ok,ne]
  simp
  exact fin
 obtain ⟨p,h,e,rfl⟩:=Df w
 exact ⟨h,e⟩
end K05
set_option Elab.async false
set_option linter.all false
set_option maxRecDepth 100000
set_option maxHeartbeats 4000000
namespace K05
open PySem L2
def top (i:Nat):Stmt:=PySem.Challenge.pw_copymeet_k05_seen_lies_ahead.main.body.getD i (.Pass ⟨0,0,0,0⟩)
abbrev bsL:List Str:=["range","len","max","sorted","tuple","sum","dict","list"]
abbrev cC (w:World) (K:PySem.W.Frag) (cl:Str->Option Addr):MC:=⟨K,cl,bsL,fun _ _ _=>False,w⟩
abbrev fD:Stmt:=top 8
theorem cF:bN ["_law_cell","_law_many","_law_letters","_law_number","_law_stem","_law_k","_law_at"] ["_law_cell","_law_many"] (aF fD):=⟨rfl,rfl,rfl,by decide +kernel,rfl,by decide +kernel,by decide +kernel⟩
abbrev pT:List Str:=["_law_k","_law_stem","_law_number"]
theorem xG:(pT).Nodup:=by decide +kernel
abbrev pU:List Str:=["_law_k","_law_stem","_law_letters","_law_at","_law_number"]
theorem xH:(pU).Nodup:=by decide +kernel
abbrev cM:Stmt:=top 9
theorem bB:bN ["_law_cells","_law_hands_here","_law_views","_law_rows","_law_cell","_law_own","_law_other","_law_name","_law_many","_law_seen","_law_hand","_law_number"] ["_law_cells","_law_hands_here"] (aF cM):=⟨rfl,rfl,rfl,by decide +kernel,rfl,by decide +kernel,by decide +kernel⟩
abbrev jW:List Str:=["_law_hand"]
theorem qN:(jW).Nodup:=by decide +kernel
abbrev jX:List Str:=["_law_deed","_law_hands_here","_law_own"]
theorem qO:(jX).Nodup:=by decide +kernel
abbrev dY:Stmt:=top 2
theorem Ec:bN ["deed"] ["deed"] (aF dY):=⟨rfl,rfl,rfl,by decide +kernel,rfl,by decide +kernel,by decide +kernel⟩
abbrev pV:List Str:=["pair"]
theorem xI:(pV).Nodup:=by decide +kernel
abbrev gL:Stmt:=top 3
theorem uR:bN ["deed","hand","n"] ["deed"] (aF gL):=⟨rfl,rfl,rfl,by decide +kernel,rfl,by decide +kernel,by decide +kernel⟩
abbrev bX:Stmt:=top 5
theorem gM:bN ["deeds","by_name","deed"] ["deeds"] (aF bX):=⟨rfl,rfl,rfl,by decide +kernel,rfl,by decide +kernel,by decide +kernel⟩
abbrev cN:Stmt:=top 7
theorem A3:bN ["_law_script","_law_k"] ["_law_script","_law_k"] (aF cN):=⟨rfl,rfl,rfl,by decide +kernel,rfl,by decide +kernel,by decide +kernel⟩
abbrev pW:Stmt:=top 10
theorem Ed:bN ["_law_rows","_law_deed","_law_seen"] ["_law_rows","_law_deed"] (aF pW):=⟨rfl,rfl,rfl,by decide +kernel,rfl,by decide +kernel,by decide +kernel⟩
abbrev xJ:List Str:=["_law_one","_law_seen"]
theorem BS:(xJ).Nodup:=by decide +kernel
abbrev fE:Stmt:=top 4
theorem Ee:bN ["one","other"] ["one","other"] (aF fE):=⟨rfl,rfl,rfl,by decide +kernel,rfl,by decide +kernel,by decide +kernel⟩
abbrev dJ:Stmt:=top 1
theorem lK:bN ["seen","name","hand","n"] ["seen","name"] (aF dJ):=⟨rfl,rfl,rfl,by decide +kernel,rfl,by decide +kernel,by decide +kernel⟩
abbrev jY:Stmt:=top 11
theorem fF:bN ["_law_script","_law_hands_here","_law_rows","_law_found","_law_k","_law_deed","_law_one","_law_hand","_law_numbers"] ["_law_script"] (aF jY):=⟨rfl,rfl,rfl,by decide +kernel,rfl,by decide +kernel,by decide +kernel⟩
abbrev xK:List Str:=["_law_deed"]
theorem BU:(xK).Nodup:=by decide +kernel
abbrev xM:List Str:=["_law_deed"]
theorem BV:(xM).Nodup:=by decide +kernel
abbrev xN:List Str:=["_law_one","_law_deed"]
theorem BW:(xN).Nodup:=by decide +kernel
abbrev xO:List Str:=["_law_hand","_law_number"]
theorem sM:(xO).Nodup:=by decide +kernel
abbrev xP:List Str:=["_law_deed","_law_hand"]
theorem BX:(xP).Nodup:=by decide +kernel
section
variable {P:Program} {w:World} {K:PySem.W.Frag} {mg:Str->Option Value} {base:Heap} {cl:Str->Option Addr}
theorem Ef {f:Addr} {fd:FuncData} (hbn:∀ x∈bsL,mg x=none) (F:Fun K "_law_hands" "_law_hands" fD f fd):aZ P w K mg base CX0 1 f fd ["_law_cell","_law_many"] (spM (cC w K cl) 2 jS):=
 iG (C:=cC w K cl) (k:=0) (N:=["_law_cell","_law_many","_law_letters","_law_number","_law_stem","_law_k","_law_at"]) (body:=uL) (fun _ _ _ h=>h) hbn F cF fun cdv A outer s H E=>
 (aI (cH (i:=2) cF.nd CS)
 (aI (cH (i:=3) cF.nd (aT eG (aA 0) aG))
 (aI (cH (i:=4) cF.nd CS)
 (aI (jI (tT (aD aG aK) (hb:=(.head _))) (aW cF.nd)
  (aI (cH (i:=3) cF.nd (aT eG (aT cD (aT cD (aT GD (aA 3) aG) aG) (aA 5)) aG))
  (aP (cH (i:=4) cF.nd (aT cD (aA 4) (bU (aA 2) (aT eG (aT rP (aA 3) aG) aG)))))))
 (aI (tS (eI CZ (aT eG (aA 0) aG) aG)
  (aP (cI (eX (js:=[none,some 4,some 3]) (N:=pT) rfl rfl (by rfl) (tT (aD (aA 1) aK) (hb:=(.head _))) (fun _ _ _ _=>(aW xG)) (fun _ _ _ _=>iO) (fun _ _ _ _=>(BA (aA 1) oK (iM (aT cD aG (aT eG (aT cD (aA 0) (aT eG (aA 2) aG)) aG))))))))
  eV)
 (aI (cH (i:=4) cF.nd (BA (aA 4) oK (iM (aT cD aG (aT eG (aT rP (aA 0) aG) aG)))))
 (aI (cH (i:=6) cF.nd (aT eG (aA 3) (bP lX PyProof.Rows.Boot.«len» (aD (aA 4) aK) (hb:=(.tail _ (.head _))))))
 (aP (cI (eX (js:=[none,some 4,some 2,some 6,some 3]) (N:=pU) rfl rfl (by rfl) (tT (aD (aA 1) aK) (hb:=(.head _))) (fun _ _ _ _=>(aW xH)) (fun _ _ _ _=>iO) (fun _ _ _ _=>(aT cD (aT cD (BA (aA 1) oK (iM (aA 3))) (bU (aA 2) (aT eG (aT cD (aT rP (aA 4) aG) (aT GD aG (aA 0))) aG))) (BA (aA 1) (iM (aT cD (aA 3) aG)) oK)))))))))))))
theorem A4 {f:Addr} {fd:FuncData} (hbn:∀ x∈bsL,mg x=none) (F:Fun K "_law_history" "_law_history" cM f fd):aZ P w K mg base CX0 1 f fd ["_law_cells","_law_hands_here"] (spM (cC w K cl) 2 eK):=
 iG (C:=cC w K cl) (k:=0) (N:=["_law_cells","_law_hands_here","_law_views","_law_rows","_law_cell","_law_own","_law_other","_law_name","_law_many","_law_seen","_law_hand","_law_number"]) (body:=lG) (fun _ _ _ h=>h) hbn F bB fun cdv A outer s H E=>
 (aI (rR (i:=2) bB.nd rfl rfl (js:=[none]) (N:=jW) rfl rfl (by rfl) (dS (aA 1)) (fun _ _ _ _=>(aW qN)) (fun _ _ _ _=>iO) (fun _ _ _ _=>tR))
 (aI (cH (i:=3) bB.nd (JU aK))
 (aI (jI (dS (aA 0)) (aW bB.nd)
  (aI (cH (i:=5) bB.nd (aT eG (aA 4) (bP lX PyProof.Rows.Boot.«len» (aD (aA 1) aK) (hb:=(.tail _ (.head _))))))
  (aI (cH (i:=6) bB.nd (aT eG (aT rP (aA 4) aG) (bP lX PyProof.Rows.Boot.«len» (aD (aA 1) aK) (hb:=(.tail _ (.head _))))))
  (aI (tS (SW.t (w_and (eI CZ (aT eG (aT rP (aA 4) aG) aG) aG) (HW (eI D0 (aA 6) (aA 5)))))
   (aP (DM false (aB vAt (mV 2) (mV 6)) (jI (DL false (fun h=>nomatch h) (bU (aA 2) (aA 6))) (aW bB.nd)
    (aP (uI tL (bU (aA 2) (aA 5)) (aA 7))))))
   eV)
  (aI (cH (i:=8) bB.nd (bP lX PyProof.Rows.Boot.«len» (aD (eX (js:=[none,some 1,some 5]) (N:=jX) rfl rfl (by rfl) (dS (aA 3)) (fun _ _ _ _=>(aW qO)) (fun _ _ _ _=>(tU (eI CZ (bU (bU (aA 0) aG) aG) (bU (aA 1) (aA 2))))) (fun _ _ _ _=>(aA 0))) aK) (hb:=(.tail _ (.head _)))))
  (aI (cH (i:=9) bB.nd tR)
  (aI (DM false (aB vAt (mV 2) (mV 5)) (jI (DL false (fun h=>nomatch h) (bU (aA 2) (aA 5))) (AC (fW (aW bB.nd) (fW (aW bB.nd) AB)))
   (aP (uI (bP Iu PyProof.Rows.Boot.«max» (aD (aA 11) (aD (Kl PySem.F.plainAttrs_dict PySem.F.slot_dict_get PySem.F.type_dict_get GJ (aA 9) (aD (aA 10) (aD aG aK))) aK)) (hb:=(.tail _ (.tail _ (.head _))))) (aA 9) (aA 10)))))
  (aI (JY (M5 PySem.F.plainAttrs_list PySem.F.slot_list_append PySem.F.type_list_append Dc (aA 3) (aD (AA (aD (AA (aD (bU (aA 1) (aA 5)) (aD (aT cD (aA 8) aG) aK))) (aD (oM Fp PyProof.Rows.Boot.«tuple» (aD (bP oW PyProof.Rows.Boot.«sorted» (aD (GI PySem.F.plainAttrs_dict PySem.F.slot_dict_items PySem.F.type_dict_items FG (aA 9)) aK) (hb:=(.tail _ (.tail _ (.tail _ (.head _)))))) aK) (hb:=(.tail _ (.tail _ (.tail _ (.tail _ (.head _))))))) (aD (AA (aD CS aK)) aK)))) aK)))
  (aP (uI tL (bU (aA 2) (aA 5)) (bU (bU (aA 3) (LW K1 aG)) aG)))))))))))
 (aP (cI (aA 3))))))
theorem Eg {f:Addr} {fd:FuncData} (hbn:∀ x∈bsL,mg x=none) (F:Fun K "stamp" "stamp" dY f fd):aZ P w K mg base CX0 1 f fd ["deed"] (spM (cC w K cl) 1 dX):=
 iG (C:=cC w K cl) (k:=0) (N:=["deed"]) (body:=nA) (fun _ _ _ h=>h) hbn F Ec fun cdv A outer s H E=>
 (aP (cI (aT cD aG (bP GG PyProof.Rows.Boot.«sum» (aD (eX (js:=[none]) (N:=pV) rfl rfl (by rfl) (dS (bU (aA 0) aG)) (fun _ _ _ _=>(aW xI)) (fun _ _ _ _=>iO) (fun _ _ _ _=>(bU (aA 0) aG))) aK) (hb:=(.tail _ (.tail _ (.tail _ (.tail _ (.tail _ (.head _)))))))))))
theorem G8 {f:Addr} {fd:FuncData} (hbn:∀ x∈bsL,mg x=none) (F:Fun K "rank" "rank" gL f fd) {fG:Addr} {gO:FuncData} (dZ:Def K mg "stamp" dY fG gO ["deed"]) (fH:aZ P w K mg base CX0 1 fG gO ["deed"] (spM (cC w K cl) 1 dX)):aZ P w K mg base CX0 2 f fd ["deed"] (spM (cC w K cl) 1 gJ):=
 iG (C:=cC w K cl) (k:=1) (N:=["deed","hand","n"]) (body:=zW) (fun _ _ _ h=>h) hbn F uR fun cdv A outer s H E=>
 (aI (JX (bU (aA 0) aG) (AC (fW (aW uR.nd) (fW (aW uR.nd) AB))))
 (aP (cI (AA (aD (s_call dZ fH (aD (aA 0) aK)) (aD (aA 1) (aD (aA 2) aK)))))))
theorem xQ {f:Addr} {fd:FuncData} (hbn:∀ x∈bsL,mg x=none) (F:Fun K "in_order" "in_order" bX f fd) {iV:Addr} {jZ:FuncData} (gP:Def K mg "rank" gL iV jZ ["deed"]) (iW:aZ P w K mg base CX0 2 iV jZ ["deed"] (spM (cC w K cl) 1 gJ)):aZ P w K mg base CX0 5 f fd ["deeds"] (spM (cC w K cl) 1 cL):=
 iG (C:=cC w K cl) (k:=4) (N:=["deeds","by_name","deed"]) (body:=iU) (fun _ _ _ h=>h) hbn F gM fun cdv A outer s H E=>
 (aI (cH (i:=1) gM.nd tR)
 (aI (jI (dS (aA 0)) (aW gM.nd)
  (aP (uI (aA 2) (aA 1) (bU (aA 2) aG))))
 (aP (cI (FK gP iW (GI PySem.F.plainAttrs_dict PySem.F.slot_dict_values PySem.F.type_dict_values m_values (aA 1)) (hb:=(.tail _ (.tail _ (.tail _ (.head _))))))))))
theorem A5 {f:Addr} {fd:FuncData} (hbn:∀ x∈bsL,mg x=none) (F:Fun K "_law_cell_at" "_law_cell_at" cN f fd):aZ P w K mg base CX0 1 f fd ["_law_script","_law_k"] (spM (cC w K cl) 2 bZ):=
 iG (C:=cC w K cl) (k:=0) (N:=["_law_script","_law_k"]) (body:=lH) (fun _ _ _ h=>h) hbn F A3 fun cdv A outer s H E=>
 (aI (tS (eI Dp (aA 1) (bP lX PyProof.Rows.Boot.«len» (aD (aA 0) aK) (hb:=(.tail _ (.head _)))))
  (aP (cI (bU (aA 0) (aA 1))))
  eV)
 (aP (cI aG)))
theorem IK {f:Addr} {fd:FuncData} (hbn:∀ x∈bsL,mg x=none) (F:Fun K "_law_had" "_law_had" pW f fd):aZ P w K mg base CX0 1 f fd ["_law_rows","_law_deed"] (spM (cC w K cl) 2 pH):=
 iG (C:=cC w K cl) (k:=0) (N:=["_law_rows","_law_deed","_law_seen"]) (body:=DP) (fun _ _ _ h=>h) hbn F Ed fun cdv A outer s H E=>
 (aI (cH (i:=2) Ed.nd (oM FN PyProof.Rows.Boot.«dict» (aD (bU (aA 1) aG) aK) (hb:=(.tail _ (.tail _ (.tail _ (.tail _ (.tail _ (.tail _ (.head _))))))))))
 (aP (cI (eX (js:=[none,some 2]) (N:=xJ) rfl rfl (by rfl) (dS (aA 0)) (fun _ _ _ _=>(aW BS)) (fun _ _ _ _=>(tU (eI JO (bU (bU (aA 0) aG) aG) (Kl PySem.F.plainAttrs_dict PySem.F.slot_dict_get PySem.F.type_dict_get GJ (aA 1) (aD (bU (bU (aA 0) aG) aG) (aD aG aK)))))) (fun _ _ _ _=>(aA 0))))))
theorem Eh {f:Addr} {fd:FuncData} (hbn:∀ x∈bsL,mg x=none) (F:Fun K "ahead" "ahead" fE f fd) {iV:Addr} {jZ:FuncData} (gP:Def K mg "rank" gL iV jZ ["deed"]) (iW:aZ P w K mg base CX0 2 iV jZ ["deed"] (spM (cC w K cl) 1 gJ)):aZ P w K mg base CX0 3 f fd ["one","other"] (spM (cC w K cl) 2 gU):=
 iG (C:=cC w K cl) (k:=2) (N:=["one","other"]) (body:=uM) (fun _ _ _ h=>h) hbn F Ee fun cdv A outer s H E=>
 (aP (cI (GB Dp (s_call gP iW (aD (aA 0) aK)) (s_call gP iW (aD (aA 1) aK)))))
theorem BY {f:Addr} {fd:FuncData} (hbn:∀ x∈bsL,mg x=none) (F:Fun K "covers" "covers" dJ f fd):aZ P w K mg base CX0 1 f fd ["seen","name"] (spM (cC w K cl) 2 dI):=
 iG (C:=cC w K cl) (k:=0) (N:=["seen","name","hand","n"]) (body:=pJ) (fun _ _ _ h=>h) hbn F lK fun cdv A outer s H E=>
 (aI (jI (dS (aA 0)) (AC (fW (aW lK.nd) (fW (aW lK.nd) AB)))
  (aP (tS (eI CZ (aA 2) (bU (aA 1) aG))
   (aP (cI (GB JO (bU (aA 1) aG) (aA 3))))
   eV)))
 (aP (cI tL)))
theorem IL {f:Addr} {fd:FuncData} (hbn:∀ x∈bsL,mg x=none) (F:Fun K "law" "law" jY f fd) {nE:Addr} {xR:FuncData} (nF:Def K mg "_law_hands" fD nE xR ["_law_cell","_law_many"]) (uS:aZ P w K mg base CX0 1 nE xR ["_law_cell","_law_many"] (spM (cC w K cl) 2 jS)) {gZ:Addr} {pX:FuncData} (hV:Def K mg "_law_history" cM gZ pX ["_law_cells","_law_hands_here"]) (lL:aZ P w K mg base CX0 1 gZ pX ["_law_cells","_law_hands_here"] (spM (cC w K cl) 2 eK)) {fG:Addr} {gO:FuncData} (dZ:Def K mg "stamp" dY fG gO ["deed"]) (fH:aZ P w K mg base CX0 1 fG gO ["deed"] (spM (cC w K cl) 1 dX)) {fI:Addr} {mJ:FuncData} (fJ:Def K mg "in_order" bX fI mJ ["deeds"]) (iX:aZ P w K mg base CX0 5 fI mJ ["deeds"] (spM (cC w K cl) 1 cL)) {hW:Addr} {pY:FuncData} (eL:Def K mg "_law_cell_at" cN hW pY ["_law_script","_law_k"]) (hZ:aZ P w K mg base CX0 1 hW pY ["_law_script","_law_k"] (spM (cC w K cl) 2 bZ)) {B8:Addr} {Ei:FuncData} (sN:Def K mg "_law_had" pW B8 Ei ["_law_rows","_law_deed"]) (xS:aZ P w K mg base CX0 1 B8 Ei ["_law_rows","_law_deed"] (spM (cC w K cl) 2 pH)) {nG:Addr} {xT:FuncData} (kA:Def K mg "ahead" fE nG xT ["one","other"]) (nH:aZ P w K mg base CX0 3 nG xT ["one","other"] (spM (cC w K cl) 2 gU)) {kB:Addr} {sO:FuncData} (kC:Def K mg "covers" dJ kB sO ["seen","name"]) (pZ:aZ P w K mg base CX0 1 kB sO ["seen","name"] (spM (cC w K cl) 2 dI)):aZ P w K mg base CX0 6 f fd ["_law_script"] (spM (cC w K cl) 1 DR):=
 iG (C:=cC w K cl) (k:=5) (N:=["_law_script","_law_hands_here","_law_rows","_law_found","_law_k","_law_deed","_law_one","_law_hand","_law_numbers"]) (body:=DQ) (fun _ _ _ h=>h) hbn F fF fun cdv A outer s H E=>
 (aI (cH (i:=1) fF.nd (s_call nF uS (aD (s_call eL hZ (aD (aA 0) (aD aG aK))) (aD (aT cD aG (aT eG (aT rP (s_call eL hZ (aD (aA 0) (aD aG aK))) aG) aG)) aK))))
 (aI (cH (i:=2) fF.nd (s_call hV lL (aD (BA (aA 0) (iM aG) (iM aG)) (aD (aA 1) aK))))
 (aI (cH (i:=3) fF.nd (s_call fJ iX (aD (oM HZ PyProof.Rows.Boot.«list» (aD (aA 2) aK) (hb:=(.tail _ (.tail _ (.tail _ (.tail _ (.tail _ (.tail _ (.tail _ (.head _)))))))))) aK)))
 (aI (tS (eI D0 (bP oW PyProof.Rows.Boot.«sorted» (aD (eX (js:=[none]) (N:=xK) rfl rfl (by rfl) (dS (aA 3)) (fun _ _ _ _=>(aW BU)) (fun _ _ _ _=>iO) (fun _ _ _ _=>(bU (aA 0) aG))) aK) (hb:=(.tail _ (.tail _ (.tail _ (.head _)))))) (bP oW PyProof.Rows.Boot.«sorted» (aD (eX (js:=[none]) (N:=xM) rfl rfl (by rfl) (dS (aA 2)) (fun _ _ _ _=>(aW BV)) (fun _ _ _ _=>iO) (fun _ _ _ _=>(bU (aA 0) aG))) aK) (hb:=(.tail _ (.tail _ (.tail _ (.head _)))))))
  (aP (cI tL))
  eV)
 (aI (jI (tT (aD (bP lX PyProof.Rows.Boot.«len» (aD (aA 3) aK) (hb:=(.tail _ (.head _)))) aK) (hb:=(.head _))) (aW fF.nd)
  (aI (cH (i:=5) fF.nd (bU (aA 3) (aA 4)))
  (aI (tS (eI D0 (eX (js:=[none,some 5]) (N:=xN) rfl rfl (by rfl) (dS (aA 3)) (fun _ _ _ _=>(aW BW)) (fun _ _ _ _=>(tU (D4 (s_call kC pZ (aD (bU (aA 1) aG) (aD (bU (aA 0) aG) aK)))))) (fun _ _ _ _=>(aA 0))) (s_call sN xS (aD (aA 3) (aD (aA 5) aK))))
   (aP (cI tL))
   eV)
  (aI (tS (eI D0 (bP lX PyProof.Rows.Boot.«len» (aD (s_call sN xS (aD (BA (aA 3) oK (iM (aA 4))) (aD (aA 5) aK))) aK) (hb:=(.tail _ (.head _)))) (bP GG PyProof.Rows.Boot.«sum» (aD (eX (js:=[none,none]) (N:=xO) rfl rfl (by rfl) (dS (bU (aA 5) aG)) (fun _ _ _ _=>(AC (fW (aW sM) (fW (aW sM) AB)))) (fun _ _ _ _=>iO) (fun _ _ _ _=>(aA 1))) aK) (hb:=(.tail _ (.tail _ (.tail _ (.tail _ (.tail _ (.head _)))))))))
   (aP (cI tL))
   eV)
  (aP (jI (dS (s_call sN xS (aD (aA 2) (aD (aA 5) aK)))) (aW fF.nd)
   (aP (tS (SW.t (w_or (eI LZ (s_call dZ fH (aD (aA 6) aK)) (s_call dZ fH (aD (aA 5) aK))) (w_or (JQ (D4 (s_call kA nH (aD (aA 6) (aD (aA 5) aK))))) (JR (D4 (s_call kA nH (aD (aA 5) (aD (aA 6) aK))))))))
    (aP (cI tL))
    eV))))))))
 (aI (jI (dS (aA 1)) (aW fF.nd)
  (aI (rR (i:=8) fF.nd rfl rfl (js:=[none,some 7]) (N:=xP) rfl rfl (by rfl) (dS (aA 3)) (fun _ _ _ _=>(aW BX)) (fun _ _ _ _=>(tU (eI CZ (bU (bU (aA 0) aG) aG) (aA 1)))) (fun _ _ _ _=>(bU (bU (aA 0) aG) aG)))
  (aP (tS (eI D0 (aA 8) (BP (aD aG (aD (aT cD (bP lX PyProof.Rows.Boot.«len» (aD (aA 8) aK) (hb:=(.tail _ (.head _)))) aG) aK)) (.tail _ (.tail _ (.tail _ (.tail _ (.tail _ (.tail _ (.tail _ (.head _)))))))) (.head _)))
   (aP (cI tL))
   eV))))
 (aP (cI tL))))))))
end
def spL (K:PySem.W.Frag):Sp:=fun vs H Q _=>∃ (a:Addr) (ns:List Int),vs=[.ref a]/\Cz H/\SqL K H a (ns.map V.int)/\ns.length<=63/\∀ H',Q (.bl true) H'
@[elab_as_elim] theorem IM {P:List Value->Prop} (us:List Value) (hl:us.length=1) (h:∀ a0,P [a0]):P us:=by
 cases us with
 | nil=>cases hl
 | cons a0 us=>
  cases us with
  | nil=>exact h a0
  | cons b us=>
   simp only [List.length_cons] at hl
   omega
@[elab_as_elim] theorem BZ {P:List Value->Prop} (us:List Value) (hl:us.length=2) (h:∀ a0 a1,P [a0,a1]):P us:=by
 cases us with
 | nil=>cases hl
 | cons a0 us=>
  cases us with
  | nil=>cases hl
  | cons a1 us=>
   cases us with
   | nil=>exact h a0 a1
   | cons b us=>
    simp only [List.length_cons] at hl
    omega
theorem all_mk {l:PySem.W.OpenLaw} {w:World} {K:PySem.W.Frag} {h:Heap} {mg:Str->Option Value} {fa kE eM kF qA dM eN xU kG gQ Ej:Addr} (X:K.In h) (G:h.Ns mainGlobals mg) (hfa:mg "law" = some (.ref fa)) (hbn:∀ x∈bsL,mg x=none)
  (nE:PySem.W.nsIn K mainGlobals "_law_hands" = some (some (.ref kE)))
  {Ek El C0 Em sP En:Value} {Eo Ep:Option Addr} {C1:Array (Option Value)}
  (G9:K.lookup kE=some ⟨Ek,Eo,.func (PySem.W.fnOf "_law_hands" "_law_hands" (bC fD) (aU fD) (aF fD) .none El C0 Em Ep sP En),C1⟩)
  (Ga:PySem.W.codeIn K sP "_law_hands" = true)
  (Gb:PySem.W.keepIn K (.ref kE)=true)
  (gZ:PySem.W.nsIn K mainGlobals "_law_history" = some (some (.ref eM)))
  {A6 A7 xV A8 mK A9:Value} {Aa Ab:Option Addr} {xW:Array (Option Value)}
  (C2:K.lookup eM=some ⟨A6,Aa,.func (PySem.W.fnOf "_law_history" "_law_history" (bC cM) (aU cM) (aF cM) .none A7 xV A8 Ab mK A9),xW⟩)
  (C3:PySem.W.codeIn K mK "_law_history" = true)
  (C4:PySem.W.keepIn K (.ref eM)=true)
  (fG:PySem.W.nsIn K mainGlobals "stamp" = some (some (.ref kF)))
  {Er Es C5 Et sQ Eu:Value} {Ew Ex:Option Addr} {C6:Array (Option Value)}
  (Gc:K.lookup kF=some ⟨Er,Ew,.func (PySem.W.fnOf "stamp" "stamp" (bC dY) (aU dY) (aF dY) .none Es C5 Et Ex sQ Eu),C6⟩)
  (Gd:PySem.W.codeIn K sQ "stamp" = true)
  (Ge:PySem.W.keepIn K (.ref kF)=true)
  (iV:PySem.W.nsIn K mainGlobals "rank" = some (some (.ref qA)))
  {Gf Gg Ey Gh xX Gi:Value} {Gj Gk:Option Addr} {Ez:Array (Option Value)}
  (IP:K.lookup qA=some ⟨Gf,Gj,.func (PySem.W.fnOf "rank" "rank" (bC gL) (aU gL) (aF gL) .none Gg Ey Gh Gk xX Gi),Ez⟩)
  (IQ:PySem.W.codeIn K xX "rank" = true)
  (IR:PySem.W.keepIn K (.ref qA)=true)
  (fI:PySem.W.nsIn K mainGlobals "in_order" = some (some (.ref dM)))
  {xY xZ uT yA kH yB:Value} {yC yD:Option Addr} {uU:Array (Option Value)}
  (Ac:K.lookup dM=some ⟨xY,yC,.func (PySem.W.fnOf "in_order" "in_order" (bC bX) (aU bX) (aF bX) .none xZ uT yA yD kH yB),uU⟩)
  (Ad:PySem.W.codeIn K kH "in_order" = true)
  (Ae:PySem.W.keepIn K (.ref dM)=true)
  (hW:PySem.W.nsIn K mainGlobals "_law_cell_at" = some (some (.ref eN)))
  {Af Ag yE Ah mL Ai:Value} {Aj Ak:Option Addr} {yF:Array (Option Value)}
  (C7:K.lookup eN=some ⟨Af,Aj,.func (PySem.W.fnOf "_law_cell_at" "_law_cell_at" (bC cN) (aU cN) (aF cN) .none Ag yE Ah Ak mL Ai),yF⟩)
  (C8:PySem.W.codeIn K mL "_law_cell_at" = true)
  (C9:PySem.W.keepIn K (.ref eN)=true)
  (B8:PySem.W.nsIn K mainGlobals "_law_had" = some (some (.ref xU)))
  {IS IT Gm IU B9 IV:Value} {IW IX:Option Addr} {Gn:Array (Option Value)}
  (KW:K.lookup xU=some ⟨IS,IW,.func (PySem.W.fnOf "_law_had" "_law_had" (bC pW) (aU pW) (aF pW) .none IT Gm IU IX B9 IV),Gn⟩)
  (KY:PySem.W.codeIn K B9 "_law_had" = true)
  (KZ:PySem.W.keepIn K (.ref xU)=true)
  (nG:PySem.W.nsIn K mainGlobals "ahead" = some (some (.ref kG)))
  {EA EB Ca EC sR ED:Value} {EE EF:Option Addr} {Cb:Array (Option Value)}
  (Gp:K.lookup kG=some ⟨EA,EE,.func (PySem.W.fnOf "ahead" "ahead" (bC fE) (aU fE) (aF fE) .none EB Ca EC EF sR ED),Cb⟩)
  (Gq:PySem.W.codeIn K sR "ahead" = true)
  (Gr:PySem.W.keepIn K (.ref kG)=true)
  (kB:PySem.W.nsIn K mainGlobals "covers" = some (some (.ref gQ)))
  {Cc Cd Al Ce qB Cf:Value} {Cg Ci:Option Addr} {Am:Array (Option Value)}
  (EG:K.lookup gQ=some ⟨Cc,Cg,.func (PySem.W.fnOf "covers" "covers" (bC dJ) (aU dJ) (aF dJ) .none Cd Al Ce Ci qB Cf),Am⟩)
  (EH:PySem.W.codeIn K qB "covers" = true)
  (EI:PySem.W.keepIn K (.ref gQ)=true)
  (L0:PySem.W.nsIn K mainGlobals "law" = some (some (.ref Ej)))
  {IY EJ B' EK uV EL:Value} {IZ EM:Option Addr} {Gs:Array (Option Value)}
  (L1:K.lookup Ej=some ⟨IY,IZ,.func (PySem.W.fnOf "law" "law" (bC jY) (aU jY) (aF jY) .none EJ B' EK EM uV EL),Gs⟩)
  (L3:PySem.W.codeIn K uV "law" = true)
  (L4:PySem.W.keepIn K (.ref Ej)=true)
  : ∃ fd:FuncData,(∀ (s:Shared) (v:Value),BindsTo s fd ⟨[v],[]⟩ [("_law_script",v)])/\∀ base:Heap,K.In base->base.Ns mainGlobals mg->aZ l.prog w K mg base CX0 6 fa fd ["_law_script"] (spL K):=by
 have e:=hfa.symm.trans (PySem.W.mg_of X G L0)
 cases e
 have nF:Def K mg "_law_hands" fD kE _ ["_law_cell","_law_many"]:=Def.mk' X G nE G9 Ga Gb (fun _ _ _ _ _ _ us hl=>BZ us hl fun _ _=>rfl)
 have hV:Def K mg "_law_history" cM eM _ ["_law_cells","_law_hands_here"]:=Def.mk' X G gZ C2 C3 C4 (fun _ _ _ _ _ _ us hl=>BZ us hl fun _ _=>rfl)
 have dZ:Def K mg "stamp" dY kF _ ["deed"]:=Def.mk' X G fG Gc Gd Ge (fun _ _ _ _ _ _ us hl=>IM us hl fun _=>rfl)
 have gP:Def K mg "rank" gL qA _ ["deed"]:=Def.mk' X G iV IP IQ IR (fun _ _ _ _ _ _ us hl=>IM us hl fun _=>rfl)
 have fJ:Def K mg "in_order" bX dM _ ["deeds"]:=Def.mk' X G fI Ac Ad Ae (fun _ _ _ _ _ _ us hl=>IM us hl fun _=>rfl)
 have eL:Def K mg "_law_cell_at" cN eN _ ["_law_script","_law_k"]:=Def.mk' X G hW C7 C8 C9 (fun _ _ _ _ _ _ us hl=>BZ us hl fun _ _=>rfl)
 have sN:Def K mg "_law_had" pW xU _ ["_law_rows","_law_deed"]:=Def.mk' X G B8 KW KY KZ (fun _ _ _ _ _ _ us hl=>BZ us hl fun _ _=>rfl)
 have kA:Def K mg "ahead" fE kG _ ["one","other"]:=Def.mk' X G nG Gp Gq Gr (fun _ _ _ _ _ _ us hl=>BZ us hl fun _ _=>rfl)
 have kC:Def K mg "covers" dJ gQ _ ["seen","name"]:=Def.mk' X G kB EG EH EI (fun _ _ _ _ _ _ us hl=>BZ us hl fun _ _=>rfl)
 refine ⟨PySem.W.fnOf "law" "law" (bC jY) (aU jY) (aF jY) .none EJ B' EK EM uV EL,fun s v=>.of_eq rfl,fun base _ _=>?_⟩
 have uS:aZ l.prog w K mg base CX0 1 kE _ ["_law_cell","_law_many"] (spM (cC w K (fun z=>none)) 2 jS):=Ef (cl:=fun z=>none) hbn nF.fn
 have lL:aZ l.prog w K mg base CX0 1 eM _ ["_law_cells","_law_hands_here"] (spM (cC w K (fun z=>none)) 2 eK):=A4 (cl:=fun z=>none) hbn hV.fn
 have fH:aZ l.prog w K mg base CX0 1 kF _ ["deed"] (spM (cC w K (fun z=>none)) 1 dX):=Eg (cl:=fun z=>none) hbn dZ.fn
 have iW:aZ l.prog w K mg base CX0 2 qA _ ["deed"] (spM (cC w K (fun z=>none)) 1 gJ):=G8 (cl:=fun z=>none) hbn gP.fn dZ fH
 have iX:aZ l.prog w K mg base CX0 5 dM _ ["deeds"] (spM (cC w K (fun z=>none)) 1 cL):=xQ (cl:=fun z=>none) hbn fJ.fn gP iW
 have hZ:aZ l.prog w K mg base CX0 1 eN _ ["_law_script","_law_k"] (spM (cC w K (fun z=>none)) 2 bZ):=A5 (cl:=fun z=>none) hbn eL.fn
 have xS:aZ l.prog w K mg base CX0 1 xU _ ["_law_rows","_law_deed"] (spM (cC w K (fun z=>none)) 2 pH):=IK (cl:=fun z=>none) hbn sN.fn
 have nH:aZ l.prog w K mg base CX0 3 kG _ ["one","other"] (spM (cC w K (fun z=>none)) 2 gU):=Eh (cl:=fun z=>none) hbn kA.fn gP iW
 have pZ:aZ l.prog w K mg base CX0 1 gQ _ ["seen","name"] (spM (cC w K (fun z=>none)) 2 dI):=BY (cl:=fun z=>none) hbn kC.fn
 refine (IL (cl:=fun z=>none) hbn (yS (st:=jY) L1 L3 L4) nF uS hV lL dZ fH fJ iX eL hZ sN xS kA nH kC pZ).imp fun vs H Q E hh=>?_
 obtain ⟨a,ns,rfl,hO,hS,hl,hq⟩:=hh
 exact Ib (C:=cC w K (fun z=>none)) hO hS (main ns hl) hq
theorem walk {l:PySem.W.OpenLaw} {q:Program} {loose:List Str} {XP:(Str->Option Value)->Heap->Prop} {YP:World->Heap->Prop} {d:DefRec} {K:Params->PySem.W.Frag} (hn:l.most=some 63) (hdf:d.params.defaults=[])
  (hY:∀ (w:World) (h:Heap),YP w h->(K w.params).In h)
  (F:∀ (w:World) (mg:Str->Option Value) (fa:Addr) (h:Heap),(K w.params).In h->h.Ns mainGlobals mg->mg d.name=some (.ref fa)->
   ∃ fd:FuncData,(∀ (s:Shared) (u:Value),BindsTo s fd ⟨[u],[]⟩ [("_law_script",u)])/\∀ base:Heap,(K w.params).In base->base.Ns mainGlobals mg->aZ l.prog w (K w.params) mg base CX0 6 fa fd ["_law_script"] (spL (K w.params))):
  PySem.W.WalkO q loose XP YP l.row.toRowW d [] (fun f vs=>PySem.call f vs):=
 L2.walk_of (n:=63) (k:=6) (x:="_law_script") (CX:=fun _=>CX0) (sp:=fun w=>spL (K w.params)) hn (by decide) hdf ⟨rfl,by decide,by decide⟩ hY F (fun w H a ns hl hO hS=>⟨a,ns,rfl,hO,hS,hl,fun _=>rfl⟩) fun _ _ _ _ _ z=>z
end K05
open PySem PySem.W PyProof.Rows
set_option maxRecDepth 100000 in
set_option maxHeartbeats 0 in
theorem PySem.Challenge.cw_copymeet_k05_seen_lies_ahead_holds : PySem.Challenge.rw_copymeet_k05_seen_lies_ahead.Holds := by
 w_on; o_law; k_head; (case hw=>w_witness2)
 k_fill
 refine K05.walk (l:=PySem.Challenge.rw_copymeet_k05_seen_lies_ahead) rfl rfl (fun w h Y=>PySem.W.kIn_of Y) ?F
 case F=>
  intro w mg fa h KX G hmg
  have hbn:∀ x∈K05.bsL,mg x=none:=fun x hx=>by
   rcases List.mem_cons.mp hx with rfl | hx
   ·exact PySem.W.mg_none_of KX G (by k_is)
   rcases List.mem_cons.mp hx with rfl | hx
   ·exact PySem.W.mg_none_of KX G (by k_is)
   rcases List.mem_cons.mp hx with rfl | hx
   ·exact PySem.W.mg_none_of KX G (by k_is)
   rcases List.mem_cons.mp hx with rfl | hx
   ·exact PySem.W.mg_none_of KX G (by k_is)
   rcases List.mem_cons.mp hx with rfl | hx
   ·exact PySem.W.mg_none_of KX G (by k_is)
   rcases List.mem_cons.mp hx with rfl | hx
   ·exact PySem.W.mg_none_of KX G (by k_is)
   rcases List.mem_cons.mp hx with rfl | hx
   ·exact PySem.W.mg_none_of KX G (by k_is)
   rcases List.mem_cons.mp hx with rfl | hx
   ·exact PySem.W.mg_none_of KX G (by k_is)
   cases hx
  refine' K05.all_mk KX G hmg hbn ?h0 ?h1 ?h2 ?h3 ?h4 ?h5 ?h6 ?h7 ?h8 ?h9 ?h10 ?h11 ?h12 ?h13 ?h14 ?h15 ?h16 ?h17 ?h18 ?h19 ?h20 ?h21 ?h22 ?h23 ?h24 ?h25 ?h26 ?h27 ?h28 ?h29 ?h30 ?h31 ?h32 ?h33 ?h34 ?h35 ?h36 ?h37 ?h38 ?h39
  (case h0=>k_is)
  (case h1=>k_is)
  (case h2=>k_is)
  (case h3=>k_is)
  (case h4=>k_is)
  (case h5=>k_is)
  (case h6=>k_is)
  (case h7=>k_is)
  (case h8=>k_is)
  (case h9=>k_is)
  (case h10=>k_is)
  (case h11=>k_is)
  (case h12=>k_is)
  (case h13=>k_is)
  (case h14=>k_is)
  (case h15=>k_is)
  (case h16=>k_is)
  (case h17=>k_is)
  (case h18=>k_is)
  (case h19=>k_is)
  (case h20=>k_is)
  (case h21=>k_is)
  (case h22=>k_is)
  (case h23=>k_is)
  (case h24=>k_is)
  (case h25=>k_is)
  (case h26=>k_is)
  (case h27=>k_is)
  (case h28=>k_is)
  (case h29=>k_is)
  (case h30=>k_is)
  (case h31=>k_is)
  (case h32=>k_is)
  (case h33=>k_is)
  (case h34=>k_is)
  (case h35=>k_is)
  (case h36=>k_is)
  (case h37=>k_is)
  (case h38=>k_is)
  (case h39=>k_is)
