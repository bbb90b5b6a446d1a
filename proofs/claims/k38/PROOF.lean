import PyProof.Rows.All
import Wide.All
import OpenK.AllK
import Wide.FinOn
import Lean
import PyProof.EqAt
import PyProof.EqKinds
import PyProof.TupleCall
import PyProof.Rows.SortShell
import PyProof.NeKinds
import KE.KDictOf
import PyProof.AttrMissHeap
import PyProof.WalksMore
import PyProof.MeetsDict
import KE.KDictList
import KE.KRevIter
import PyProof.DictItemsLoops
import PyProof.DictWalks
import KE.KSortTup
import KE.KDictSum
import PyProof.SumAny
import PyProof.Conv_int_bool
import PyProof.Conv_int
import KE.KRevSl
import PyProof.MeetsStr
import PyProof.StrCalls3
import PyProof.Rows.TupDisplay
import PyProof.ZipIter
import PyProof.Draws
import PySem.Challenge.RW_copymeet_k38_whole_written_by_gaps
open PySem renaming wpAny_bind->aa,wpAny_pure->af,sizeLine->az,starEach->b9,Spec->de,FuncData->dq,mainGlobals->dr,compareOp->dt,cellsFrom->fj,wpAny_newObj_type->fm,sizeLine_eq->gh,binaryOp->gm,wpAny_field->gw,wpAny_holding->il,wpAny_callSpecial?_slot->ip,wpAny_typeNameOfWhole_itemiter->i9,wpAny_mono->ja,wpAny_call_entry->jd,wpAny_seqItems->jf,sysModules->jg,foldedSetIterable->jh,codeAny_builtin->jm,assignEach->jr,attributeBase->jv,wpAny_setField_rec->j2,wpAny_typeNameOf_itemiter->j6,wpAny_passesOwn->j8,wpAny_loadPart'->kj,mem_of_lookup->kr,plainId_quiet->k6,DictEntry->k9,wpAny_rule->lq,wpAny_Call_Name_kw->l0,NameKind->l6,bootBuiltins->md,wpAny_typeOf->mn,wpAny_notOrdered_dict->mw,wpAny_dictEntries->m6
open PySem.Heap renaming get?_push_of_some->ab,get?_push_size->ax,lt_size->ay,size_push->gb,get?_update_self->ig,get?_update_other->jo,SameBut->ju
open List renaming getElem?_eq_some_iff->ae,mem_append_right->ah,append_assoc->ai,length_map->aj,getD_eq_getElem?_getD->ak,mem_cons_of_mem->ao,getElem?_append_right->aq,pairwise_append->ar,mem_append->au,prefix_rfl->av,size_toArray->ba,getElem?_map->bf,mem_cons_self->bg,length_append->bh,take_append_drop->bo,getElem?_append_left->bp,length_take->bq,mem_cons->bw,length_drop->bz,mem_of_getElem?->b7,lookup_cons->cf,getElem?_eq_getElem->cm,mem_append_left->cq,mem_of_mem_take->cu,getElem_mem->cv,length_cons->cx,all_eq_true->cy,mem_map->cz,pairwise_iff_getElem->c8,map_cons->da,mem_of_mem_drop->df,drop_eq_getElem_cons->dj,append_nil->dk,mem_singleton->dm,prefix_append->dn,take_of_length_le->du,map_append->dz,drop_zero->d0,getElem?_cons_succ->d4,range->d6,getElem_of_mem->d7,cons_lt_cons_iff->e8,getElem?_set_ne->fe,getElem_take->fh,nodup_append->fq,drop_of_length_le->fw,set_cons_succ->f6,set_cons_zero->f7,pairwise_reverse->f9,mem_reverse->gc,reverse_perm->gg,length_reverse->gx,filter_eq_self->gz,getElem_drop->ij,getElem?_eq_none->ik,getElem?_set_self->ir,nodup_cons->i4,nil_append->i8,pairwise_cons->jc,pairwise_singleton->je,find?_cons->jl,not_mem_nil->jt,perm_append_comm->jy,mem_iff_getElem?->j0,zip_cons_cons->j1,getElem?_zip_eq_some->j4,length_nil->kc,ext_getElem?->kh,pairwise_map->ki,map_map->km,filterMap_cons->kn,all_cons->ku,map_take->kz,cons_append->lg,replicate->lj,any_cons->m4,map_drop->m5,length_set->nk,lookup->n8
open PySem.W renaming Frag->ag,keepIn->cw,fnOf->c9,codeIn->dg,findIn->d5,nsIn->fv,emptyDict->ie,instObj->jj,plainGet->nc,isFn->nh
open PyProof.Rows renaming wpS_bind->aw,wpS_pure->br,pendingOf->dh,slot_tuple_getitem->fg,wpS_forRange->fu,callWith_type1->jk,wpS_mono->jq,failedOf->jx,SortKind->j7,setPending->kg
open Nat renaming le_refl->bj,ne_of_lt->bu,lt_of_lt_of_le->b0,zero_le->dv,le_trans->ft,lt_irrefl->gf,ne_of_gt->gj,sub_zero->i6,zero_add->jz,add_sub_cancel_left->k5,lt_succ_self->k8,le_of_lt->mf,lt_trans->nj
open Bool renaming false_ne_true->bx,and_eq_true->dw,eq_iff_iff->d3,false_eq_true->d9,not_eq_true'->ji,beq_eq_decide_eq->mx
open Option renaming map_eq_some_iff->b6,isSome_iff_exists->j9
open Option.some renaming inj->b8
open List.Perm renaming append_left->cj,append_right->iu,refl->iy,trans->i5
open PySem.Value renaming ref->c0,none->di
open PySem.NameKind renaming free->d8,cell->nr
open PySem.Obj renaming mapSeq->fb,mapFields->nu
open PySem.Paired renaming length->fc
open PySem.Heap.SameBut renaming update->fi
open PySem.Builtin.Tuple renaming tupleHashOf->fo,tupleExact->ka,tupleItemsOf->m7
open PySem.Around renaming under_plainId->gi
open PySem.F renaming slot_dict_itemiterator_next->gq,plain_extend_loop->i3,slot_zip_next->my
open Array renaming length_toList->gv
open PySem.Builtin.SmallTypes renaming ownedTupleIsFree->ic,nextOf->j5,ownedTupleHandOut->m9
open Classical renaming propDecidable->iq
open False renaming elim->iw
open List.Pairwise renaming nil->ix
open Prod renaming fst->iz
open PySem.Str renaming ofString->jw
open PySem.Builtin.Slice renaming slicePlaces->j3,sliceAdjust->m8
open Ne renaming symm->ko
open PySem.Builtin.Dict renaming updateFrom->k7
open True renaming intro->lh
open PySem.Builtin.Dict_items renaming ownsTuple->l9,ownedTupleIsFree->ng
open PySem.Builtin.Str renaming strSliceIndices->mq
open PySem.Builtin.List renaming listExtendWith->mz
open ForInStep renaming yield->nq
set_option Elab.async false
set_option linter.all false
set_option maxRecDepth 1000000
set_option maxHeartbeats 4000000
namespace L2
open PySem PySem.Spec PyProof.Rows
abbrev Key:=Sum Int Str
def rT:Key->Value->Bool
 | .inl k,v=>Value.isInt k v
 | .inr x,v=>Value.isStrOf x v
def N6 (w:World):Key->Int
 | .inl k=>hashInt k
 | .inr x=>hashStr w x
theorem bJ:∀ {k:Key} {v:Value},rT k v=true->(∃ i t,k=Sum.inl i/\v=Value.int i t)\/(∃ x t,k=Sum.inr x/\v=Value.str x t)
 | .inl i,v,h=>by
  obtain ⟨t,e⟩:=Value.isInt_shape (k:=i) (v:=v) h;exact .inl ⟨i,t,rfl,e⟩
 | .inr x,v,h=>by
  obtain ⟨t,e⟩:=Value.isStrOf_shape (x:=x) (v:=v) h;exact .inr ⟨x,t,rfl,e⟩
theorem EX (i:Int) (t:Tok):rT (.inl i) (.int i t)=true:=by simp [rT,Value.isInt]
theorem EY (x:Str) (t:Tok):rT (.inr x) (.str x t)=true:=by simp [rT,Value.isStrOf]
theorem N7 (a b:Int):decide ((Sum.inl a:Key)=Sum.inl b)=(a == b):=by
 by_cases e:a=b
 ·subst e; simp
 ·have h:¬ (Sum.inl a:Key)=Sum.inl b:=fun q=>e (Sum.inl.inj q);rw [decide_eq_false h];exact (beq_eq_false_iff_ne.mpr e).symm
theorem N8 (a b:Str):decide ((Sum.inr a:Key)=Sum.inr b)=decide (a=b):=by
 by_cases e:a=b
 ·subst e; simp
 ·have h:¬ (Sum.inr a:Key)=Sum.inr b:=fun q=>e (Sum.inr.inj q);rw [decide_eq_false h,decide_eq_false e]
theorem N9 (a:Int) (b:Str):decide ((Sum.inl a:Key)=Sum.inr b)=false:=decide_eq_false (fun q=>nomatch q)
theorem N' (a:Str) (b:Int):decide ((Sum.inr a:Key)=Sum.inl b)=false:=decide_eq_false (fun q=>nomatch q)
def bX (prog:Program) (w:World):PySem.KeyKind prog w Key where
 is:=rT
 hash:=N6 w
 inj:=fun v a b ha hb=>by
  rcases bJ ha with ⟨i,t,rfl,rfl⟩ | ⟨x,t,rfl,rfl⟩
  ·rcases bJ hb with ⟨j,u,rfl,e⟩ | ⟨y,u,rfl,e⟩
   ·injection e with e1 _; rw [e1]
   ·exact nomatch e
  ·rcases bJ hb with ⟨j,u,rfl,e⟩ | ⟨y,u,rfl,e⟩
   ·exact nomatch e
   ·injection e with e1 _; rw [e1]
 byValue:=fun k v h=>by
  rcases bJ h with ⟨i,t,rfl,rfl⟩ | ⟨x,t,rfl,rfl⟩ <;> rfl
 pyHash:=fun hv h=>by
  rcases bJ hv with ⟨i,t,rfl,rfl⟩ | ⟨x,t,rfl,rfl⟩
  ·exact wpAny_pyHash_int h
  ·exact wpAny_pyHash_str h
 eqBool:=fun hu hv h=>by
  rcases bJ hu with ⟨i,t,rfl,rfl⟩ | ⟨x,t,rfl,rfl⟩
  ·rcases bJ hv with ⟨j,u,rfl,rfl⟩ | ⟨y,u,rfl,rfl⟩
   ·rw [N7] at h; exact wpAny_eqBool_int h
   ·rw [N9] at h; exact SeqAt.EqAt.int_str i t y u _ _ _ _ h
  ·rcases bJ hv with ⟨j,u,rfl,rfl⟩ | ⟨y,u,rfl,rfl⟩
   ·rw [N'] at h; exact SeqAt.EqAt.str_int x t j u _ _ _ _ h
   ·rw [N8] at h; exact wpAny_eqBool_str h
 «strs»:=fun k x t v h=>by
  rcases bJ h with ⟨i,u,rfl,e⟩ | ⟨y,u,rfl,e⟩
  ·exact nomatch e
  ·injection e with e1 _;subst e1;cases v <;> rfl
theorem Aj (prog:Program) (w:World) (i:Int) (t:Tok):(bX prog w).is (.inl i) (.int i t)=true:=EX i t
theorem Ak (prog:Program) (w:World) (x:Str) (t:Tok):(bX prog w).is (.inr x) (.str x t)=true:=EY x t
inductive V where
 | non | bl (b:Bool) | int (i:Int) | str (x:Str) | byt (b:Array UInt8) | flt (b:UInt64) | ref (a:Addr) | ty (n:String)
 deriving DecidableEq
def RelV:V->Value->Prop
 | .non,u=>u=di
 | .bl b,u=>u=Value.bool b
 | .int i,u=>∃ t,u=Value.int i t
 | .str x,u=>∃ t,u=Value.str x t
 | .byt b,u=>∃ t,u=Value.bytes b t
 | .flt b,u=>∃ t,u=Value.float b t
 | .ref a,u=>u=c0 a
 | .ty n,u=>u=Value.type n
abbrev aL:List V->List Value->Prop:=Paired RelV
theorem aL.length {xs:List V} {us:List Value} (r:aL xs us):xs.length=us.length:=fc r
theorem aL.get:∀ {xs:List V} {us:List Value} {i:Nat} {x:V},aL xs us->xs[i]?=some x->∃ u,us[i]?=some u/\RelV x u
 | _,_,_,_,.nil,e=>by simp at e
 | _,_,0,_,.cons r _,e=>by simp at e; subst e; exact ⟨_,rfl,r⟩
 | _,_,i+1,x,.cons _ t,e=>by
  obtain ⟨u,h1,h2⟩:=aL.get (i:=i) (x:=x) t (by simpa using e)
  exact ⟨u,by simpa using h1,h2⟩
theorem aL.set {x:V} {u:Value} (r:RelV x u):∀ {xs:List V} {us:List Value} (i:Nat),aL xs us->aL (xs.set i x) (us.set i u)
 | _,_,_,.nil=>.nil
 | _,_,0,.cons _ t=>.cons r t
 | _,_,i+1,.cons q t=>.cons q (aL.set r i t)
theorem aL.append:∀ {xs ys:List V} {us ws:List Value},aL xs us->aL ys ws->aL (xs++ys) (us++ws)
 | _,_,_,_,.nil,s=>s
 | _,_,_,_,.cons r t,s=>.cons r (aL.append t s)
theorem aL.take:∀ {xs:List V} {us:List Value} (n:Nat),aL xs us->aL (xs.take n) (us.take n)
 | _,_,0,_=>.nil
 | _,_,_+1,.nil=>.nil
 | _,_,n+1,.cons r t=>.cons r (aL.take n t)
theorem aL.drop:∀ {xs:List V} {us:List Value} (n:Nat),aL xs us->aL (xs.drop n) (us.drop n)
 | _,_,0,r=>r
 | _,_,_+1,.nil=>.nil
 | _,_,n+1,.cons _ t=>aL.drop n t
def kT:Option V->Option Value->Prop
 | some v,some u=>RelV v u
 | none,none=>True
 | _,_=>False
def KV {κ:Type}:List (κ×V)->List (κ×Value)->Prop:=Paired fun (p:κ×V) (q:κ×Value)=>p.1=q.1/\RelV p.2 q.2
def kV:Key->V
 | .inl i=>.int i
 | .inr x=>.str x
inductive HO where
 /-- a list -/
 | lst (xs:List V)
 /-- a tuple (never changes) -/
 | tup (xs:List V)
 /-- a dict whose keys are ints and texts; one whose keys are tuples of ints and texts (the empty one is both) -/
 | dK (kvs:List (Key×V)) | dT (kvs:List (List Key×V))
 /-- a set of ints: its members,its size -/
 | set (S:Int->Bool) (n:Nat)
 /-- an instance of the class at C,its dict at dx,its attributes -/
 | ins (C dx:Addr) (fs:List (Str×V))
 /-- the dict of the instance at x -/
 | own (x:Addr)
 /-- the dict of an exception -/
 | xd (fs:List (Str×V))
 /-- a bound method,f of x -/
 | met (f x:Addr)
 /-- a range object lo,lo+1,.. below hi -/
 | rng (lo hi:Int)
 /-- a thing that is known to the object (the script; a dict while a loop walks it): read,never written while it is so -/
 | frz (o:Obj) (u:HO)
 /-- a code object's table -/
 | tbl (ps:Array Value)
 /-- any other thing,by what is true of its one object (a def of one's own: SetO a S n:=HO.ext fun h=>..) -/
 | ext (φ:Heap->Prop)
abbrev Hp:=Addr->Option HO
def upd (H:Hp) (a:Addr) (o:HO):Hp:=fun b=>if b=a then some o else H b
theorem aW {H:Hp} {a:Addr} {o:HO}:upd H a o a=some o:=by unfold upd; rw [if_pos rfl]
theorem aN {H:Hp} {a b:Addr} {o:HO} (h:b≠a):upd H a o b=H b:=by unfold upd; rw [if_neg h]
theorem PJ {H:Hp} {a b:Addr} {o u:HO} (h:H a=some o) (h':H b=some u) (d:o≠u):a≠b:=by
 intro e; subst e; rw [h] at h'; exact d (b8 h')
theorem cH {H:Hp} {a b:Addr} {o:HO} (h:H a=some o) (h':H b=none):a≠b:=by
 intro e; subst e; rw [h] at h'; cases h'
def qS (h:Heap) (a:Addr) (items:Array Value):Prop:=∃ o,h.get? a=some o/\o.cls=.type "tuple" /\ (∃ n,o.data=.seq items n)/\o.dict=none
theorem qS.is {h:Heap} {a:Addr} {items:Array Value} (x:qS h a items):PyProof.Rows.IsTup h a items:=let ⟨o,h1,h2,h3,_⟩:=x; ⟨o,h1,h2,h3⟩
theorem qS.lt {h:Heap} {a:Addr} {items:Array Value} (x:qS h a items):a < h.objs.size:=let ⟨_,h1,_⟩:=x; ay h1
theorem qS.new (h:Heap) (items:Array Value):qS (h.push { cls:=.type "tuple",data:=.seq items 0 }) h.objs.size items:=⟨_,ax _ rfl,rfl,⟨_,rfl⟩,rfl⟩
section
variable (P:Program) (w:World)
def cI (H:Hp) (h:Heap) (a:Addr):HO->Prop
 | .lst xs=>xs.length<=az/\∃ (its:List Value) (n:Nat),aL xs its/\h.get? a=some { cls:=.type "list",data:=.seq its.toArray n }
 | .tup xs=>xs.length<=az/\∃ its:List Value,aL xs its/\qS h a its.toArray
 | .dK kvs=>kvs.length<=az/\(a == jg)=false/\∃ vs,KV kvs vs/\h.DictOf (bX P w) a vs
 | .dT kvs=>kvs.length<=az/\(a == jg)=false/\∃ xs:List (List Key×Addr×Value),
   Paired (fun (p:List Key×V) (q:List Key×Addr×Value)=>p.1=q.1/\H q.2.1=some (.tup (p.1.map kV))/\RelV p.2 q.2.2) kvs xs/\
   ∃ o es ep,h.get? a=some o/\o.ExactDict/\o.data=.dict es ep/\es.toList=xs.map (entryOfKey (tupleKind (bX P w)))/\(xs.map (·.1)).Nodup
 | .set S n=>h.SetOf (intKind P w) a S n
 | .ins C dx fs=>H dx=some (.own a)/\fs.length<=1000/\dx≠a/\h.get? a=some (jj C dx)/\
   ∃ mA,h.Ns1 dx mA/\(∀ f,kT (fs.lookup f) (mA f))/\PySem.Within mA (fs.map (·.1))
 | .own _=>∃ o,h.get? a=some o
 | .xd fs=>∃ mA,h.Ns1 a mA/\∀ f,kT (fs.lookup f) (mA f)
 | .rng lo hi=>∃ t u v,h.get? a=some { cls:=.type "range",data:=.fields #[.int lo t,.int hi u,.int 1 v] }
 | .frz o u=>h.get? a=some o/\cI H h a u
 | .tbl ps=>h.get? a=some { cls:=.none,data:=.fields ps }
 | .met f x=>h.get? a=some (PySem.W.methodObj (.ref f) (.ref x))
 | .ext φ=>φ h/\(∃ o,h.get? a=some o)/\∀ h1 h2:Heap,φ h1->(∀ o,h1.get? a=some o->h2.get? a=some o)->φ h2
def HOk (H:Hp) (h:Heap):Prop:=∀ a o,H a=some o->cI P w H h a o
end
section
variable {P:Program} {w:World} {H H':Hp} {h h':Heap} {a:Addr} {o:HO}
theorem cI.lt (x:cI P w H h a o):a < h.objs.size:=by
 cases o with
 | lst xs=>obtain ⟨_,_,_,_,e⟩:=x; exact ay e
 | tup xs=>obtain ⟨_,_,_,p⟩:=x; exact qS.lt p
 | dK kvs=>obtain ⟨_,_,_,_,o,_,_,e,_⟩:=x; exact ay e
 | dT kvs=>obtain ⟨_,_,_,_,o,_,_,e,_⟩:=x; exact ay e
 | set S n=>obtain ⟨o,_,_,_,e,_⟩:=x; exact ay e
 | ins C dx fs=>obtain ⟨_,_,_,e,_⟩:=x; exact ay e
 | own y=>obtain ⟨_,e⟩:=x; exact ay e
 | xd fs=>obtain ⟨_,⟨_,_,_,e,_⟩,_⟩:=x; exact ay e
 | rng lo hi=>obtain ⟨_,_,_,e⟩:=x; exact ay e
 | frz ob u=>obtain ⟨e,_⟩:=x; exact ay e
 | tbl ps=>exact ay (show h.get? a=some _ from x)
 | met f y=>exact ay (show h.get? a=some _ from x)
 | ext φ=>obtain ⟨_,⟨_,e⟩,_⟩:=x; exact ay e
theorem Paired.mapP {α β:Type} {F G:α->β->Prop}:∀ {l₁:List α} {l₂:List β},Paired F l₁ l₂->(∀ a b,F a b->G a b)->Paired G l₁ l₂
 | _,_,.nil,_=>.nil
 | _,_,.cons r t,f=>.cons (f _ _ r) (Paired.mapP t f)
theorem cI.stay (x:cI P w H h a o) (k:∀ b u,(b=a\/H b=some (.own a))->h.get? b=some u->h'.get? b=some u)
  (ho:∀ b,H b=some (.own a)->H' b=some (.own a)) (ht:∀ b xs,H b=some (.tup xs)->H' b=some (.tup xs)):cI P w H' h' a o:=by
 induction o with
 | lst xs=>obtain ⟨z,its,n,r,e⟩:=x; exact ⟨z,its,n,r,k _ _ (.inl rfl) e⟩
 | tup xs=>obtain ⟨z,its,r,ob,e,c⟩:=x; exact ⟨z,its,r,ob,k _ _ (.inl rfl) e,c⟩
 | dK kvs=>obtain ⟨z,y,vs,r,ob,es,ep,e,c⟩:=x; exact ⟨z,y,vs,r,ob,es,ep,k _ _ (.inl rfl) e,c⟩
 | dT kvs=>
  obtain ⟨z,y,xs,r,ob,es,ep,e,c⟩:=x;exact ⟨z,y,xs,Paired.mapP r fun p q z=>⟨z.1,ht _ _ z.2.1,z.2.2⟩,ob,es,ep,k _ _ (.inl rfl) e,c⟩
 | set S n=>obtain ⟨ob,es,ep,t,e,c⟩:=x; exact ⟨ob,es,ep,t,k _ _ (.inl rfl) e,c⟩
 | ins C dx fs=>
  obtain ⟨d,z,ne,e,mA,⟨od,es,ep,e2,c⟩,r⟩:=x;exact ⟨ho _ d,z,ne,k _ _ (.inl rfl) e,mA,⟨od,es,ep,k _ _ (.inr d) e2,c⟩,r⟩
 | own y=>obtain ⟨ob,e⟩:=x; exact ⟨ob,k _ _ (.inl rfl) e⟩
 | xd fs=>obtain ⟨mA,⟨od,es,ep,e,c⟩,r⟩:=x; exact ⟨mA,⟨od,es,ep,k _ _ (.inl rfl) e,c⟩,r⟩
 | rng lo hi=>obtain ⟨t,u,v,e⟩:=x; exact ⟨t,u,v,k _ _ (.inl rfl) e⟩
 | frz ob u ih=>obtain ⟨e,q⟩:=x; exact ⟨k _ _ (.inl rfl) e,ih q⟩
 | tbl ps=>
  have e:h.get? a=some { cls:=.none,data:=.fields ps }:=x
  show h'.get? a=some { cls:=.none,data:=.fields ps }
  exact k a _ (.inl rfl) e
 | met f y=>
  have e:h.get? a=some (PySem.W.methodObj (.ref f) (.ref y)):=x
  show h'.get? a=some (PySem.W.methodObj (.ref f) (.ref y))
  exact k a _ (.inl rfl) e
 | ext φ=>obtain ⟨p,⟨o,e⟩,st⟩:=x; exact ⟨st _ _ p fun o q=>k _ _ (.inl rfl) q,⟨o,k _ _ (.inl rfl) e⟩,st⟩
theorem HOk.lt (x:HOk P w H h) (e:H a=some o):a < h.objs.size:=(x a o e).lt
theorem HOk.fresh (x:HOk P w H h) (e:h.objs.size<=a):H a=none:=by
 cases q:H a with
 | none=>rfl
 | some u=>exact absurd (b0 (x.lt q) e) (gf _)
theorem HOk.kept (x:HOk P w H h) (k:∀ b u,h.get? b=some u->h'.get? b=some u):HOk P w H h':=fun a o e=>
 (x a o e).stay (fun b u _ q=>k b u q) (fun _ q=>q) fun _ _ q=>q
theorem HOk.laid (x:HOk P w H h) (k:∀ b u,h.get? b=some u->h'.get? b=some u) (hp:h.objs.size<=a) (new:cI P w (upd H a o) h' a o):HOk P w (upd H a o) h':=fun b u e=>by
 have hn:=x.fresh hp
 by_cases hb:b=a
 ·subst hb; rw [aW] at e; cases e; exact new
 ·rw [aN hb] at e;exact (x b u e).stay (fun c v _ q=>k c v q) (fun c q=>by rw [aN (cH q hn)]; exact q) fun c xs q=>by rw [aN (cH q hn)]; exact q
end
def Rd (H:Hp) (a:Addr) (u:HO):Prop:=H a=some u\/∃ o,H a=some (.frz o u)
theorem Rd.ok {P:Program} {w:World} {H:Hp} {h:Heap} {a:Addr} {u:HO} (r:Rd H a u) (x:HOk P w H h):cI P w H h a u:=by
 rcases r with r | ⟨o,r⟩
 ·exact x a u r
 ·obtain ⟨_,q⟩:=x a _ r;exact q
def Mut:Option HO->Prop
 | some (.lst _)=>True
 | some (.dK _)=>True
 | some (.dT _)=>True
 | some (.set _ _)=>True
 | some (.ins _ _ _)=>True
 | some (.ext _)=>True
 | _=>False
section
variable {P:Program} {w:World} {H:Hp} {h h':Heap} {x e:Addr} {o':HO}
theorem HOk.write (ok:HOk P w H h) (mu:Mut (H x)) (he:e=x\/H e=some (.own x)) (k:∀ b u,b≠e->h.get? b=some u->h'.get? b=some u) (heo:∃ u,h'.get? e=some u)
  (new:cI P w (upd H x o') h' x o'):HOk P w (upd H x o') h':=fun b u q=>by
 have nown:∀ c y,H c=some (.own y)->c≠x:=fun c y r z=>by subst z; rw [r] at mu; exact mu
 have ntup:∀ c xs,H c=some (.tup xs)->c≠x:=fun c xs r z=>by subst z; rw [r] at mu; exact mu
 by_cases hb:b=x
 ·subst hb; rw [aW] at q; cases q; exact new
 ·rw [aN hb] at q
  by_cases hbe:b=e
  ·have q':H b=some (.own x):=by
    rcases he with z | z
    ·exact absurd (hbe.trans z) hb
    ·rw [hbe]; exact z
   rw [q] at q'; cases q';obtain ⟨v,hv⟩:=heo;exact ⟨v,by rw [hbe]; exact hv⟩
  ·refine (ok b u q).stay (fun c v hc r=>k c v ?_ r) (fun c r=>by rw [aN (nown c b r)]; exact r) fun c xs r=>by rw [aN (ntup c xs r)]; exact r
   rcases hc with rfl | hc
   ·exact hbe
   ·rintro rfl;rcases he with z | z
    ·exact nown c b hc z
    ·rw [hc] at z; cases z; exact hb rfl
end
structure Un (fs ex:List Addr) (H H':Hp) (h h':Heap):Prop where
 keep:∀ b o,h.get? b=some o->H b=none->b∉fs->b∉ex->h'.get? b=some o
 slot:∀ b o,h.get? b=some o->H b=none->b∈fs->b∉ex->∃ sl,h'.get? b=some { o with slots:=sl }
 free:∀ b o,h.get? b=some o->H b=none->b∉ex->H' b=none
 there:∀ b o,h.get? b=some o->b∉ex->∃ o',h'.get? b=some o'
 tups:∀ b xs,H b=some (.tup xs)->H' b=some (.tup xs)
 frzs:∀ b o u,H b=some (.frz o u)->H' b=some (.frz o u)
 tbls:∀ b ps,H b=some (.tbl ps)->∃ more,H' b=some (.tbl (ps++more))
section
variable {fs fs' ex ex':List Addr} {H H1 H2:Hp} {h h1 h2 h':Heap} {a x e:Addr} {o:HO}
theorem Un.any (u:Un fs ex H H1 h h1) {b:Addr} {ob:Obj} (q:h.get? b=some ob) (n:H b=none) (hx:b∉ex):∃ sl,h1.get? b=some { ob with slots:=sl }:=by
 by_cases hb:b∈fs
 ·exact u.slot b ob q n hb hx
 ·exact ⟨ob.slots,u.keep b ob q n hb hx⟩
theorem Un.kept (k:∀ b u,h.get? b=some u->h'.get? b=some u):Un fs ex H H h h':=
 ⟨fun b ob q _ _ _=>k b ob q,fun b ob q _ _ _=>⟨ob.slots,k b ob q⟩,fun _ _ _ n _=>n,fun b ob q _=>⟨ob,k b ob q⟩,fun _ _ q=>q,fun _ _ _ q=>q,fun _ ps q=>⟨#[],by rw [q]; simp⟩⟩
theorem Un.refl:Un fs ex H H h h:=Un.kept fun _ _ q=>q
theorem Un.laid (k:∀ b u,h.get? b=some u->h'.get? b=some u) (hp:h.objs.size<=a) (hn:H a=none):Un fs ex H (upd H a o) h h' where
 keep:=fun b u q _ _ _=>k b u q
 slot:=fun b u q _ _ _=>⟨u.slots,k b u q⟩
 free:=fun b u q n _=>by rw [aN (bu (b0 (ay q) hp))]; exact n
 there:=fun b u q _=>⟨u,k b u q⟩
 tups:=fun b xs q=>by rw [aN (cH q hn)]; exact q
 frzs:=fun b u xs q=>by rw [aN (cH q hn)]; exact q
 tbls:=fun b ps q=>⟨#[],by rw [aN (cH q hn),q]; simp⟩
theorem Un.write (mu:Mut (H x)) (he:e=x\/H e=some (.own x)) (k:∀ b u,b≠e->h.get? b=some u->h'.get? b=some u) (heo:∃ u,h'.get? e=some u):Un fs ex H (upd H x o) h h':=by
 have hx:∀ b,H b=none->b≠x:=fun b n z=>by subst z; rw [n] at mu; exact mu
 have hb:∀ b,H b=none->b≠e:=fun b n z=>by
  subst z;rcases he with r | r
  ·exact hx b n r
  ·rw [n] at r; cases r
 have hm:∀ b u,H b=some u->¬ Mut (some u)->b≠x:=fun b u q nm z=>by subst z; rw [q] at mu; exact nm mu
 refine ⟨fun b u q n _ _=>k b u (hb b n) q,fun b u q n _ _=>⟨u.slots,k b u (hb b n) q⟩,fun b u q n _=>by rw [aN (hx b n)]; exact n,fun b u q _=>?_,
  fun b xs q=>by rw [aN (hm b _ q fun z=>z)]; exact q,fun b u xs q=>by rw [aN (hm b _ q fun z=>z)]; exact q,fun b ps q=>⟨#[],by rw [aN (hm b _ q fun z=>z),q]; simp⟩⟩
 by_cases hbe:b=e
 ·subst hbe; exact heo
 ·exact ⟨u,k b u hbe q⟩
end
def trk (h:Heap) (H:Hp):List Addr:=(d6 h.objs.size).filter fun a=>(H a).isSome
def xY (h:Heap) (H:Hp):Heap:=PySem.W.hideAll h (trk h H)
theorem EZ (h:Heap) (H:Hp):(xY h H).objs.size=h.objs.size:=PySem.W.hideAll_size _ _
theorem Gi {h:Heap} {H:Hp} {b:Addr} {o:Obj} (e:h.get? b=some o) (n:H b=none):(xY h H).get? b=some o:=
 PySem.W.hideAll_get _ e fun hm=>by
  have q:(H b).isSome=true:=(List.mem_filter.mp hm).2;rw [n] at q; simp at q
theorem K1 {h:Heap} {H:Hp} {b:Addr} {o:Obj} (e:(xY h H).get? b=some o):h.get? b=some o/\H b=none:=by
 have e':h.get? b=some o:=PySem.W.of_hideAll (trk h H) e;refine ⟨e',?_⟩;cases q:H b with
 | none=>rfl
 | some x=>
  have hm:b∈trk h H:=List.mem_filter.mpr ⟨List.mem_range.mpr (ay e'),by simp [q]⟩;have z:(xY h H).get? b=none:=PySem.W.hideAll_none (trk h H) hm;rw [z] at e; cases e
def K2 (g h:Heap) (L:Addr):List (Addr×Obj):=(d6 h.objs.size).filterMap fun a=>if a=L\/(g.get? a).isSome=true then none else (h.get? a).map fun o=>(a,o)
def rest (g h:Heap) (L d:Addr):List (Addr×Obj):=(K2 g h L).filter fun p=>decide (p.1≠d)
structure Mod (K:ag) (mg:Str->Option Value) (base:Heap):Prop where
 kin:K.In base
 glob:base.Ns dr mg
 blt:∃ mb,base.Ns builtinsNs mb/\∀ x:Str,x≠"__name__" -> mb x=md x
 nolimit:base.NoLimit
structure Cx where
 prog:Program
 w:World
 K:ag
 mg:Str->Option Value
 base:Heap
 A:Around
 N:List Str
 s₀:Shared
 H₀:Hp
 env:Env
 outer:List Env
 stack:List Env
 ex:List Addr
 fn:Str->Bool
 calm:Bool
 pn:List (Addr×Obj)
 xe:Value->Shared->Prop
def frs (l:List Env):List Addr:=l.filterMap (·.frame)
abbrev Cx.fs (X:Cx):List Addr:=frs X.outer
def Vis (sc:Scope) (x:Str):Prop:=sc.names.lookup x=some .local\/sc.names.lookup x=some .cell\/sc.names.lookup x=some .free
def Loc (sc:Scope) (x:Str):Prop:=sc.names.lookup x=some .local\/sc.names.lookup x=some .cell
def Look (env:Env) (h:Heap) (m:Str->Option Value) (x:Str) (u:Value):Prop:=
 (env.kindOf x=some .local/\m x=some u)\/((env.kindOf x=some .cell\/env.kindOf x=some .free)/\∃ c,env.cells.lookup x=some c/\h.IsCell c (some u))
structure Cx.Ok (X:Cx):Prop where
 mod:Mod X.K X.mg X.base
 kind:X.env.scope.kind=.function
 glob:X.env.globals=dr
 blt:X.env.builtins=builtinsNs
 above:X.s₀.heap.objs.size<=X.env.locals
 inj:∀ x y c,X.env.cells.lookup x=some c->X.env.cells.lookup y=some c->x=y
 has:∀ x,(X.env.kindOf x=some .cell\/X.env.kindOf x=some .free)->∃ c,X.env.cells.lookup x=some c
 cab:∀ x c,X.fn x=true->X.env.cells.lookup x=some c->X.s₀.heap.objs.size<=c
 hd:X.calm=true->X.A.handled=none
 frames:X.A.frames=some X.stack
 stk:X.stack=X.outer\/(X.stack=X.env :: X.outer/\X.env.frame=some X.env.locals)
 exf:∀ b∈X.ex,b≠X.env.locals/\∀ x c,X.env.cells.lookup x=some c->c≠b
 bs:∀ b o,X.base.get? b=some o->X.s₀.heap.get? b=some o/\X.H₀ b=none
 bsz:X.base.objs.size<=X.s₀.heap.objs.size
 noex:∀ b o,X.base.get? b=some o->b∉X.ex
 exfs:∀ b∈X.ex,b∉X.fs
 funs:X.s₀.heap.FunFrames X.base X.outer
 frf:∀ b∈X.fs,X.H₀ b=none
structure Inv (X:Cx) (pins:List (Addr×Obj)) (σ:List (Option V)) (H:Hp) (s:Shared):Prop where
 ok:X.Ok
 os:s.os=X.s₀.os
 bare:AllBare s.gens
 base:Un X.fs X.ex X.H₀ H X.s₀.heap s.heap
 loc:∃ m,s.heap.Ns X.env.locals m/\∀ (i:Nat) (x:Str) (v:V),X.N[i]?=some x->σ[i]?=some (some v)->Vis X.env.scope x->∃ u,RelV v u/\Look X.env s.heap m x u
 cell:∀ x c,X.env.cells.lookup x=some c->∃ v,s.heap.IsCell c v
 free:H X.env.locals=none
 freeC:∀ x c,X.env.cells.lookup x=some c->H c=none
 pin:∀ p∈X.pn++pins,s.heap.get? p.1=some p.2/\H p.1=none/\p.1≠X.env.locals/\p.1∉X.fs/\∀ v,p.2.data≠.cell v
 hok:HOk X.prog X.w H s.heap
 len:σ.length=X.N.length
section
variable {X:Cx} {pins:List (Addr×Obj)} {σ:List (Option V)} {H H':Hp} {s:Shared} {h':Heap}
theorem Cx.Ok.nofr (ok:X.Ok) {b:Addr} {o:Obj} (e:X.base.get? b=some o):b∉X.fs:=fun hb=>by
 have:=(ok.funs.mem hb).1;rw [e] at this; cases this
theorem Inv.bs (I:Inv X pins σ H s):∀ b o,X.base.get? b=some o->s.heap.get? b=some o/\H b=none:=fun b o e=>
 ⟨I.base.keep b o (I.ok.bs b o e).1 (I.ok.bs b o e).2 (I.ok.nofr e) (I.ok.noex b o e),I.base.free b o (I.ok.bs b o e).1 (I.ok.bs b o e).2 (I.ok.noex b o e)⟩
theorem Inv.bk (I:Inv X pins σ H s):∀ b o,X.base.get? b=some o->s.heap.get? b=some o:=fun b o e=>(I.bs b o e).1
theorem Inv.mod (I:Inv X pins σ H s):Mod X.K X.mg X.base:=I.ok.mod
theorem Inv.kIn (I:Inv X pins σ H s):X.K.In s.heap:=I.ok.mod.kin.keeps I.bk
theorem Inv.lt (I:Inv X pins σ H s):X.env.locals < s.heap.objs.size:=let ⟨_,hn,_⟩:=I.loc; hn.lt
theorem Inv.sz (I:Inv X pins σ H s):X.s₀.heap.objs.size<=s.heap.objs.size:=ft I.ok.above (mf I.lt)
theorem Inv.nofs (I:Inv X pins σ H s) {a:Addr} (h:s.heap.objs.size<=a):a∉X.fs:=fun hb=>by
 obtain ⟨_,o,ho,_⟩:=I.ok.funs.mem hb;exact absurd (b0 (ay ho) (ft I.sz h)) (gf _)
theorem Inv.cne (I:Inv X pins σ H s):∀ x c,X.env.cells.lookup x=some c->c≠X.env.locals:=fun x c e z=>by
 obtain ⟨v,o,ho,hd⟩:=I.cell x c e;obtain ⟨m,⟨o',es,ep,ho',hd',_⟩,_⟩:=I.loc;rw [z,ho'] at ho; cases ho; rw [hd'] at hd; cases hd
theorem Inv.funs (I:Inv X pins σ H s):s.heap.FunFrames X.base X.outer:=by
 have all:∀ (l:List Env),(∀ b∈frs l,b∈X.fs)->X.s₀.heap.FunFrames X.base l->s.heap.FunFrames X.base l:=by
  intro l
  induction l with
  | nil=>intro _ _; trivial
  | cons env r ih=>
   intro hs hl;obtain ⟨hk,⟨L,o,hf,hn,ho,hd⟩,hr⟩:=hl;have hL:L∈X.fs:=hs L (by unfold frs; rw [kn,hf]; exact bg);obtain ⟨sl,e⟩:=I.base.slot L o ho (I.ok.frf L hL) hL fun z=>I.ok.exfs L z hL;exact ⟨hk,⟨L,_,hf,hn,e,hd⟩,ih (fun b hb=>hs b (by unfold frs; rw [kn,hf]; exact ao _ hb)) hr⟩
 exact all X.outer (fun _ hb=>hb) I.ok.funs
theorem Inv.stack (I:Inv X pins σ H s):s.heap.FunFrames X.base X.stack:=by
 rcases I.ok.stk with e | ⟨e,hf⟩
 ·rw [e]; exact I.funs
 ·rw [e];obtain ⟨m,hn,_⟩:=I.loc;refine .cons (by rw [I.ok.kind]; decide) hf hn ?_ I.funs;exact Heap.get?_none_of_le (ft I.ok.bsz I.ok.above)
theorem Inv.stkSub (I:Inv X pins σ H s):∀ b∈frs X.stack,b∈X.env.locals :: X.fs:=fun b hb=>by
 rcases I.ok.stk with e | ⟨e,hf⟩
 ·rw [e] at hb; exact ao _ hb
 ·rw [e] at hb;unfold frs at hb;rw [kn,hf] at hb;exact hb
theorem Inv.stkFree (I:Inv X pins σ H s):∀ b∈frs X.stack,H b=none:=fun b hb=>by
 rcases bw.mp (I.stkSub b hb) with e | hb
 ·rw [e]; exact I.free
 ·obtain ⟨_,o,ho,_⟩:=I.ok.funs.mem hb;exact I.base.free b o ho (I.ok.frf b hb) fun z=>I.ok.exfs b z hb
theorem Inv.step {g':Array GenState} {t':Nat} {d':Drawn} {ch:List Addr} (I:Inv X pins σ H s)
  (hch:∀ b∈ch,(b∈X.ex\/X.s₀.heap.objs.size<=b)/\b≠X.env.locals/\(∀ x c,X.env.cells.lookup x=some c->c≠b)/\∀ p∈X.pn++pins,p.1≠b)
  (keep:∀ b o,b≠X.env.locals->b∉X.fs->b∉ch->s.heap.get? b=some o->H b=none->h'.get? b=some o)
  (slot:∀ b o,b≠X.env.locals->b∈X.fs->b∉ch->s.heap.get? b=some o->H b=none->∃ sl,h'.get? b=some { o with slots:=sl }) (free:∀ b o,b∉ch->s.heap.get? b=some o->H b=none->H' b=none)
  (there:∀ b o,b∉ch->s.heap.get? b=some o->∃ o',h'.get? b=some o')
  (tups:∀ b xs,H b=some (.tup xs)->H' b=some (.tup xs)) (frzs:∀ b o u,H b=some (.frz o u)->H' b=some (.frz o u)) (tbls:∀ b ps,H b=some (.tbl ps)->∃ more,H' b=some (.tbl (ps++more)))
  (ns:∀ m,s.heap.Ns X.env.locals m->h'.Ns X.env.locals m) (hok:HOk X.prog X.w H' h') (hg:AllBare g'):
  Inv X pins σ H' { s with heap:=h',gens:=g',drawn:=d',toks:=t' }:=by
 have neL:∀ b o,X.s₀.heap.get? b=some o->b≠X.env.locals:=fun b o e=>bu (b0 (ay e) I.ok.above);have neC:∀ b o,X.s₀.heap.get? b=some o->b∉X.ex->b∉ch:=fun b o e hx hb=>by
  rcases (hch b hb).1 with z | z
  ·exact hx z
  ·exact absurd (b0 (ay e) z) (gf _)
 have cellK:∀ x c,X.env.cells.lookup x=some c->∀ v,s.heap.IsCell c v->h'.IsCell c v:=fun x c e v ⟨o,ho,hd⟩=>by
  have nch:c∉ch:=fun z=>(hch c z).2.2.1 x c e rfl
  by_cases hc:c∈X.fs
  ·obtain ⟨sl,q⟩:=slot c o (I.cne x c e) hc nch ho (I.freeC x c e);exact ⟨_,q,hd⟩
  ·exact ⟨o,keep c o (I.cne x c e) hc nch ho (I.freeC x c e),hd⟩
 refine ⟨I.ok,I.os,hg,⟨fun b o e n hb hx=>?_,fun b o e n hb hx=>?_,fun b o e n hx=>?_,fun b o e hx=>?_,fun b xs e=>tups b xs (I.base.tups b xs e),fun b o xs e=>frzs b o xs (I.base.frzs b o xs e),fun b ps e=>?_⟩,?_,fun x c e=>?_,?_,fun x c e=>?_,fun p hp=>?_,hok,I.len⟩
 ·exact keep b o (neL b o e) hb (neC b o e hx) (I.base.keep b o e n hb hx) (I.base.free b o e n hx)
 ·obtain ⟨sl,e1⟩:=I.base.slot b o e n hb hx;obtain ⟨sl',e2⟩:=slot b _ (neL b o e) hb (neC b o e hx) e1 (I.base.free b o e n hx);exact ⟨sl',e2⟩
 ·obtain ⟨o',e1⟩:=I.base.there b o e hx;exact free b o' (neC b o e hx) e1 (I.base.free b o e n hx)
 ·obtain ⟨o',e1⟩:=I.base.there b o e hx;exact there b o' (neC b o e hx) e1
 ·obtain ⟨m1,e1⟩:=I.base.tbls b ps e;obtain ⟨m2,e2⟩:=tbls b _ e1;exact ⟨m1++m2,by rw [e2,Array.append_assoc]⟩
 ·obtain ⟨m,hn,hl⟩:=I.loc;refine ⟨m,ns m hn,fun i x v e1 e2 e3=>?_⟩;obtain ⟨u,r,l⟩:=hl i x v e1 e2 e3;refine ⟨u,r,?_⟩;rcases l with l | ⟨k,c,e,z⟩
  ·exact .inl l
  ·exact .inr ⟨k,c,e,cellK x c e _ z⟩
 ·obtain ⟨v,z⟩:=I.cell x c e;exact ⟨v,cellK x c e v z⟩
 ·obtain ⟨m,⟨o,_,_,ho,_⟩,_⟩:=I.loc;exact free _ o (fun z=>(hch _ z).2.1 rfl) ho I.free
 ·obtain ⟨v,o,ho,hd⟩:=I.cell x c e;exact free c o (fun z=>(hch c z).2.2.1 x c e rfl) ho (I.freeC x c e)
 ·obtain ⟨e,n,ne,nf,d⟩:=I.pin p hp;have nch:p.1∉ch:=fun z=>(hch p.1 z).2.2.2 p hp rfl;exact ⟨keep p.1 p.2 ne nf nch e n,free p.1 p.2 nch e n,ne,nf,d⟩
theorem Inv.un {t':Nat} (I:Inv X pins σ H s) (u:Un X.fs [] H H' s.heap h') (hok:HOk X.prog X.w H' h'):Inv X pins σ H' { s with heap:=h',toks:=t' }:=by
 obtain ⟨m,⟨o,es,ep,ho,r⟩,_⟩:=id I.loc;obtain ⟨sl,hL⟩:=u.any ho I.free (by simp);exact I.step (g':=s.gens) (d':=s.drawn) (ch:=[]) (fun _ z=>nomatch z) (fun b o _ hb _ e n=>u.keep b o e n hb (by simp)) (fun b o _ hb _ e n=>u.slot b o e n hb (by simp)) (fun b o _ e n=>u.free b o e n (by simp)) (fun b o _ e=>u.there b o e (by simp)) u.tups u.frzs u.tbls (fun m' hm=>by
  obtain ⟨o',es',ep',ho',r'⟩:=hm;rw [ho] at ho'; cases ho';exact ⟨_,es',ep',hL,r'⟩) hok I.bare
theorem Inv.call {g':Array GenState} {t':Nat} {d':Drawn} {ch:List Addr} (I:Inv X pins σ H s) (u:Un (frs X.stack) ch H H' s.heap h') (hok:HOk X.prog X.w H' h') (hg:AllBare g')
  (hch:∀ b∈ch,(b∈X.ex\/X.s₀.heap.objs.size<=b)/\b≠X.env.locals/\(∀ x c,X.env.cells.lookup x=some c->c≠b)/\∀ p∈X.pn++pins,p.1≠b):
  Inv X pins σ H' { s with heap:=h',gens:=g',drawn:=d',toks:=t' }:=by
 obtain ⟨m,⟨o,es,ep,ho,r⟩,_⟩:=id I.loc;obtain ⟨sl,hL⟩:=u.any ho I.free fun z=>(hch _ z).2.1 rfl;exact I.step (ch:=ch) hch (fun b o hL hb hc e n=>u.keep b o e n (fun z=>(bw.mp (I.stkSub b z)).elim hL hb) hc) (fun b o _ _ hc e n=>u.any e n hc) (fun b o hc e n=>u.free b o e n hc) (fun b o hc e=>u.there b o e hc) u.tups u.frzs u.tbls (fun m' hm=>by
  obtain ⟨o',es',ep',ho',r'⟩:=hm;rw [ho] at ho'; cases ho';exact ⟨_,es',ep',hL,r'⟩) hok hg
theorem Inv.turned {t':Nat} {it:Addr} (I:Inv X pins σ H s) (k:∀ b o,b≠it->s.heap.get? b=some o->h'.get? b=some o) (hn:H it=none) (hL:it≠X.env.locals)
  (h1:it∈X.ex\/X.s₀.heap.objs.size<=it) (h2:∀ x c,X.env.cells.lookup x=some c->c≠it) (h3:∀ p∈X.pn++pins,p.1≠it):Inv X pins σ H { s with heap:=h',toks:=t' }:=by
 have nit:∀ b u,H b=some u->b≠it:=fun b u e z=>by rw [z,hn] at e; cases e
 refine I.step (g':=s.gens) (d':=s.drawn) (ch:=[it]) (fun b hb=>?_) (fun b o _ _ hc e _=>k b o (fun z=>hc (by simp [z])) e) (fun b o _ _ hc e _=>⟨o.slots,k b o (fun z=>hc (by simp [z])) e⟩) (fun _ _ _ _ n=>n)
  (fun b o hc e=>⟨o,k b o (fun z=>hc (by simp [z])) e⟩) (fun _ _ e=>e) (fun _ _ _ e=>e) (fun b ps e=>⟨#[],by rw [e]; simp⟩) (fun m hm=>?_) (fun b u e=>?_) I.bare
 ·have e:b=it:=by simpa using hb
  subst e;exact ⟨h1,hL,h2,h3⟩
 ·obtain ⟨o,es,ep,ho,r⟩:=hm;exact ⟨o,es,ep,k _ o (ko hL) ho,r⟩
 ·refine (I.hok b u e).stay (fun c v hc q=>k c v ?_ q) (fun _ q=>q) fun _ _ q=>q;rcases hc with z | z
  ·rw [z]; exact nit b u e
  ·exact nit c _ z
theorem Inv.tok (I:Inv X pins σ H s) (t:Nat):Inv X pins σ H { s with toks:=t }:=I.un (h':=s.heap) (t':=t) Un.refl I.hok
theorem Inv.kept {t':Nat} (I:Inv X pins σ H s) (k:∀ b u,s.heap.get? b=some u->h'.get? b=some u):Inv X pins σ H { s with heap:=h',toks:=t' }:=I.un (Un.kept k) (I.hok.kept k)
theorem Inv.laid {a:Addr} {o:HO} {t':Nat} (I:Inv X pins σ H s) (k:∀ b u,s.heap.get? b=some u->h'.get? b=some u) (hp:s.heap.objs.size<=a) (new:cI X.prog X.w (upd H a o) h' a o):
  Inv X pins σ (upd H a o) { s with heap:=h',toks:=t' }:=I.un (Un.laid k hp (I.hok.fresh hp)) (I.hok.laid k hp new)
theorem Inv.write {x e:Addr} {o:HO} {t':Nat} (I:Inv X pins σ H s) (mu:Mut (H x)) (he:e=x\/H e=some (.own x)) (k:∀ b u,b≠e->s.heap.get? b=some u->h'.get? b=some u) (heo:∃ u,h'.get? e=some u)
  (new:cI X.prog X.w (upd H x o) h' x o):Inv X pins σ (upd H x o) { s with heap:=h',toks:=t' }:=I.un (Un.write mu he k heo) (I.hok.write mu he k heo new)
theorem Inv.pins_of {pins':List (Addr×Obj)} (I:Inv X pins σ H s) (h:∀ p∈pins',s.heap.get? p.1=some p.2/\H p.1=none/\p.1≠X.env.locals/\p.1∉X.fs/\∀ v,p.2.data≠.cell v):Inv X pins' σ H s:=
 ⟨I.ok,I.os,I.bare,I.base,I.loc,I.cell,I.free,I.freeC,fun p hp=>(au.mp hp).elim (fun z=>I.pin p (cq _ z)) (h p),I.hok,I.len⟩
theorem Al {N:List Str} (hN:N.Nodup) {i j:Nat} {x:Str} (a:N[i]?=some x) (b:N[j]?=some x):i=j:=by
 obtain ⟨h1,e1⟩:=ae.mp a;obtain ⟨h2,e2⟩:=ae.mp b;exact (List.getElem_inj hN).mp (e1.trans e2.symm)
theorem vV {M:Model} {A:Around} {E:Value->Shared->Prop} {i:Nat} {x:Str} {v:V} {u:Value} {Q:Unit->Shared->Prop} (I:Inv X pins σ H s) (hN:X.N.Nodup) (hi:X.N[i]?=some x) (hx:Loc X.env.scope x) (r:RelV v u)
  (h:∀ s',Inv X pins (σ.set i (some v)) H s'->(∃ a,ju a s.heap s'.heap/\(a=X.env.locals\/X.env.cells.lookup x=some a))->Q () s') (hf:X.fn x=true\/X.env.scope.names.lookup x=some .local:=by first | exact .inl rfl | exact .inr rfl | assumption):wpAny M A (storeName X.env x u) Q E s:=by
 obtain ⟨m,hn,hl⟩:=id I.loc;have hcls:(X.env.scope.kind == .class || (X.env.scope.kind == .module && X.env.locals != X.env.globals))=false:=by rw [I.ok.kind]; rfl
 have hiσ:i < σ.length:=by rw [I.len]; exact (ae.mp hi).1
 have cne:=I.cne;have tracked:∀ {a:Addr} {h':Heap},(∃ o,s.heap.get? a=some o/\H a=none)->ju a s.heap h'->HOk X.prog X.w H h':=fun {a h'} ha hs b ob e=>by
  obtain ⟨_,_,hfree⟩:=ha;refine (I.hok b ob e).stay (fun c w' hc q=>(hs.2 c ?_).trans q) (fun _ q=>q) fun _ _ q=>q;rintro rfl;rcases hc with rfl | hc
  ·rw [hfree] at e; cases e
  ·rw [hfree] at hc; cases hc
 rcases hx with hk | hk
 ·refine wpAny_storeName_local hk hn (fun h' hn' hs=>?_) hcls;obtain ⟨oL,_,_,hoL,_⟩:=id hn;refine h _ ⟨I.ok,I.os,I.bare,⟨fun b o e n hb hx=>?_,fun b o e n hb hx=>?_,I.base.free,fun b o e hx=>?_,I.base.tups,I.base.frzs,I.base.tbls⟩,⟨_,hn',fun j y v' e1 e2 e3=>?_⟩,fun y c e=>?_,I.free,I.freeC,fun p hp=>?_,tracked ⟨oL,hoL,I.free⟩ hs,by simpa using I.len⟩ ⟨_,hs,.inl rfl⟩
  ·exact (hs.2 b (bu (b0 (ay e) I.ok.above))).trans (I.base.keep b o e n hb hx)
  ·obtain ⟨sl,e1⟩:=I.base.slot b o e n hb hx;exact ⟨sl,(hs.2 b (bu (b0 (ay e) I.ok.above))).trans e1⟩
  ·obtain ⟨o',e1⟩:=I.base.there b o e hx;exact ⟨o',(hs.2 b (bu (b0 (ay e) I.ok.above))).trans e1⟩
  ·by_cases hj:j=i
   ·subst hj;rw [hi] at e1; cases e1;rw [ir hiσ] at e2;cases e2
    exact ⟨u,r,.inl ⟨hk,by simp⟩⟩
   ·rw [fe (ko hj)] at e2;obtain ⟨u',r',q⟩:=hl j y v' e1 e2 e3;refine ⟨u',r',?_⟩;rcases q with ⟨k,e⟩ | ⟨k,c,e,z⟩
    ·refine .inl ⟨k,?_⟩;have:y≠x:=fun e=>hj (Al hN e1 (e ▸ hi));simp [this,e]
    ·exact .inr ⟨k,c,e,z.sameBut hs (cne y c e)⟩
  ·obtain ⟨w',z⟩:=I.cell y c e;exact ⟨w',z.sameBut hs (cne y c e)⟩
  ·obtain ⟨e,n,ne,nf,d⟩:=I.pin p hp;exact ⟨(hs.2 p.1 ne).trans e,n,ne,nf,d⟩
 ·have hfn:X.fn x=true:=by
   rcases hf with z | z
   ·exact z
   ·rw [z] at hk; cases hk
  obtain ⟨c,hc⟩:=I.ok.has x (.inl hk);obtain ⟨w',z⟩:=I.cell x c hc;refine wpAny_storeName_cell I.ok.kind hk hc z (fun h' hc' hs=>?_);obtain ⟨oc,hoc,hocd⟩:=id z;refine h { s with heap:=h' } ⟨I.ok,I.os,I.bare,⟨fun b o e n hb hx=>?_,fun b o e n hb hx=>?_,I.base.free,fun b o e hx=>?_,I.base.tups,I.base.frzs,I.base.tbls⟩,⟨m,hn.sameBut hs (ko (cne x c hc)),fun j y v' e1 e2 e3=>?_⟩,fun y c' e=>?_,I.free,I.freeC,fun p hp=>?_,tracked ⟨oc,hoc,I.freeC x c hc⟩ hs,by simpa using I.len⟩ ⟨c,hs,.inr hc⟩
  ·exact (hs.2 b (bu (b0 (ay e) (I.ok.cab x c hfn hc)))).trans (I.base.keep b o e n hb hx)
  ·obtain ⟨sl,e1⟩:=I.base.slot b o e n hb hx;exact ⟨sl,(hs.2 b (bu (b0 (ay e) (I.ok.cab x c hfn hc)))).trans e1⟩
  ·obtain ⟨o',e1⟩:=I.base.there b o e hx;exact ⟨o',(hs.2 b (bu (b0 (ay e) (I.ok.cab x c hfn hc)))).trans e1⟩
  ·by_cases hj:j=i
   ·subst hj;rw [hi] at e1; cases e1;rw [ir hiσ] at e2;cases e2
    exact ⟨u,r,.inr ⟨.inl hk,c,hc,hc'⟩⟩
   ·rw [fe (ko hj)] at e2;obtain ⟨u',r',q⟩:=hl j y v' e1 e2 e3;refine ⟨u',r',?_⟩;rcases q with q | ⟨k,c',e,z'⟩
    ·exact .inl q
    ·refine .inr ⟨k,c',e,z'.sameBut hs ?_⟩;rintro rfl;exact hj (Al hN e1 (I.ok.inj _ _ _ e hc ▸ hi))
  ·by_cases hcc:c'=c
   ·subst hcc; exact ⟨_,hc'⟩
   ·obtain ⟨w2,z2⟩:=I.cell y c' e;exact ⟨w2,z2.sameBut hs hcc⟩
  ·obtain ⟨e,n,ne,nf,d⟩:=I.pin p hp;refine ⟨(hs.2 p.1 ?_).trans e,n,ne,nf,d⟩;intro q;rw [q,hoc] at e;have q':oc=p.2:=b8 e;exact d w' (by rw [<- q']; exact hocd)
theorem Am {M:Model} {A:Around} {E:Value->Shared->Prop} {i:Nat} {x:Str} {v:V} {u:Value} {Q:Unit->Shared->Prop} (I:Inv X pins σ H s) (hN:X.N.Nodup) (hi:X.N[i]?=some x) (hx:Loc X.env.scope x) (r:RelV v u)
  (h:∀ s',Inv X pins (σ.set i (some v)) H s'->Q () s') (hf:X.fn x=true\/X.env.scope.names.lookup x=some .local:=by first | exact .inl rfl | exact .inr rfl | assumption):wpAny M A (storeName X.env x u) Q E s:=
 vV I hN hi hx r (fun s' I' _=>h s' I') hf
theorem Inv.call' {s':Shared} {ch:List Addr} (I:Inv X pins σ H s) (ho:s'.os=s.os) (u:Un (frs X.stack) ch H H' s.heap s'.heap) (hok:HOk X.prog X.w H' s'.heap) (hg:AllBare s'.gens)
  (hch:∀ b∈ch,(b∈X.ex\/X.s₀.heap.objs.size<=b)/\b≠X.env.locals/\(∀ x c,X.env.cells.lookup x=some c->c≠b)/\∀ p∈X.pn++pins,p.1≠b):Inv X pins σ H' s':=by
 obtain ⟨h',g',d',t',o'⟩:=s';have e:o'=s.os:=ho;subst e;exact I.call (g':=g') (t':=t') (d':=d') u hok hg hch
end
abbrev XK:=Value->Option Addr->Hp->Prop
abbrev St:=List (Option V)
abbrev VK:=V->Hp->Prop
abbrev TE:=St->Hp->VK->Prop
abbrev TT:=St->Hp->(Bool->Hp->Prop)->Prop
abbrev TA:=St->Hp->(List V->Hp->Prop)->Prop
structure Ends where
 nx:St->Hp->Prop
 rt:VK
 bk:St->Hp->Prop:=fun _ _=>False
 ct:St->Hp->Prop:=fun _ _=>False
abbrev TS:=Ends->St->Hp->Prop
def EP (X:Cx) (pins:List (Addr×Obj)) (σ:St) (Q:VK) (u:Value) (s':Shared):Prop:=∃ v H',Inv X pins σ H' s'/\RelV v u/\Q v H'
def TP (X:Cx) (pins:List (Addr×Obj)) (σ:St) (Q:Bool->Hp->Prop) (b:Bool) (s':Shared):Prop:=∃ H',Inv X pins σ H' s'/\Q b H'
def AP (X:Cx) (pins:List (Addr×Obj)) (σ:St) (Q:List V->Hp->Prop) (us:List Value) (s':Shared):Prop:=∃ vs H',Inv X pins σ H' s'/\aL vs us/\Q vs H'
def SP (X:Cx) (pins:List (Addr×Obj)) (D:Ends) (f:Flow) (s':Shared):Prop:=
 match f with
 | .next=>∃ σ' H',Inv X pins σ' H' s'/\D.nx σ' H'
 | .brk=>∃ σ' H',Inv X pins σ' H' s'/\D.bk σ' H'
 | .cont=>∃ σ' H',Inv X pins σ' H' s'/\D.ct σ' H'
 | .ret u=>∃ v σ' H',Inv X pins σ' H' s'/\RelV v u/\D.rt v H'
def PE (X:Cx) (e:Expr) (t:TE):Prop:=
 ∀ (pins:List (Addr×Obj)) (s:Shared) (σ:St) (H:Hp) (Q:VK),Inv X pins σ H s->t σ H Q->wpAny (model X.prog X.w) X.A (eval e X.env) (EP X pins σ Q) X.xe s
def PT (X:Cx) (e:Expr) (t:TT):Prop:=
 ∀ (pins:List (Addr×Obj)) (s:Shared) (σ:St) (H:Hp) (Q:Bool->Hp->Prop),Inv X pins σ H s->t σ H Q->wpAny (model X.prog X.w) X.A (isTrue e X.env (eval e X.env)) (TP X pins σ Q) X.xe s
def PW (X:Cx) (e:Expr) (t:TT):Prop:=
 ∀ (whole:Sem Value) (pins:List (Addr×Obj)) (s:Shared) (σ:St) (H:Hp) (Q:Bool->Hp->Prop),Inv X pins σ H s->t σ H Q->wpAny (model X.prog X.w) X.A (isTrue e X.env whole) (TP X pins σ Q) X.xe s
theorem PW.pt {X:Cx} {e:Expr} {t:TT} (h:PW X e t):PT X e t:=h _
def PA (X:Cx) (es:List Expr) (t:TA):Prop:=
 ∀ (pos:Pos) (pins:List (Addr×Obj)) (s:Shared) (σ:St) (H:Hp) (Q:List V->Hp->Prop),Inv X pins σ H s->t σ H Q->wpAny (model X.prog X.w) X.A (spliced (backTo pos (b9 es X.env))) (AP X pins σ Q) X.xe s
def PS (X:Cx) (st:Stmt) (t:TS):Prop:=
 ∀ (pins:List (Addr×Obj)) (s:Shared) (σ:St) (H:Hp) (D:Ends),Inv X pins σ H s->t D σ H->wpAny (model X.prog X.w) X.A (exec st X.env) (SP X pins D) X.xe s
def PSs (X:Cx) (st:List Stmt) (t:TS):Prop:=
 ∀ (pins:List (Addr×Obj)) (s:Shared) (σ:St) (H:Hp) (D:Ends),Inv X pins σ H s->t D σ H->wpAny (model X.prog X.w) X.A (execs st X.env) (SP X pins D) X.xe s
theorem thn {α:Type} {t:Sem α} {Q Q':α->Shared->Prop} {M:Model} {A:Around} {E:Value->Shared->Prop} {s:Shared} (h:wpAny M A t Q E s) (hQ:∀ a s,Q a s->Q' a s):wpAny M A t Q' E s:=ja h hQ fun _ _ x=>x
section
variable {X:Cx}
def PK (i:Nat):TE:=fun σ H Q=>∃ v,σ[i]?=some (some v)/\Q v H
def tC (v:V):TE:=fun _ H Q=>Q v H
theorem Gj {i:Nat} {x:Str} {pos:Pos} (hN:X.N[i]?=some x) (hv:Vis X.env.scope x) (hd:(x == ("__debug__" : Str))=false:=by decide) (hcd:(x == ("__classdict__" : Str))=false:=by decide):PE X (.Name x pos) (PK i):=by
 intro pins s σ H Q I h;obtain ⟨v,e,h⟩:=h;obtain ⟨m,hn,hl⟩:=I.loc;obtain ⟨u,r,l⟩:=hl i x v hN e hv;have fin:EP X pins σ Q u s:=⟨v,H,I,r,h⟩;rcases l with ⟨hk,hm⟩ | ⟨hk,c,hc,hcell⟩
 ·exact wpAny_Name (wpAny_loadName_local I.ok.kind hk hn hm fin) hd
 ·rcases hk with hk | hk
  ·exact wpAny_Name (wpAny_loadName_cell I.ok.kind hk hc hcell fin) hd
  ·exact wpAny_Name (wpAny_loadName_free I.ok.kind hk hc hcell fin hcd) hd
theorem Na {i j pos}:PE X (.Constant (.int i) j pos) (tC (.int i)):=fun _ _ _ H _ I h=>wpAny_Constant_int ⟨.int i,H,I.tok _,⟨_,rfl⟩,h⟩
theorem PL {b j pos}:PE X (.Constant (.bool b) j pos) (tC (.bl b)):=fun _ _ _ H _ I h=>Constant_bool ⟨.bl b,H,I,rfl,h⟩
theorem Nb {j pos}:PE X (.Constant .none j pos) (tC .non):=fun _ _ _ H _ I h=>Constant_none ⟨.non,H,I,rfl,h⟩
theorem Nc {x j pos}:PE X (.Constant (.str x) j pos) (tC (.str x)):=fun _ _ _ H _ I h=>Calls.Constant_str ⟨.str x,H,I.tok _,⟨_,rfl⟩,h⟩
def Gl (X:Cx) (x:Str):Prop:=X.env.kindOf x=some .globalImplicit
theorem xZ {E:Value->Shared->Prop} {pins:List (Addr×Obj)} {s:Shared} {σ:St} {H:Hp} {x:Str} {u:Value} {pos:Pos} {Q:Value->Shared->Prop} (I:Inv X pins σ H s) (hg:Gl X x) (hm:X.mg x=some u) (h:Q u s)
  (hd:(x == ("__debug__" : Str))=false:=by decide):wpAny (model X.prog X.w) X.A (eval (.Name x pos) X.env) Q E s:=
 Calls.Name_function_global I.ok.kind hg (Calls.loadGlobal_global (by rw [I.ok.glob]; exact I.mod.glob.keeps I.bk) hm h) hd
theorem oO {E:Value->Shared->Prop} {pins:List (Addr×Obj)} {s:Shared} {σ:St} {H:Hp} {x:Str} {u:Value} {pos:Pos} {Q:Value->Shared->Prop} (I:Inv X pins σ H s) (hg:Gl X x) (hm:X.mg x=none) (hv:md x=some u) (h:Q u s)
  (hn:x≠"__name__" := by decide) (hd:(x == ("__debug__" : Str))=false:=by decide):wpAny (model X.prog X.w) X.A (eval (.Name x pos) X.env) Q E s:=by
 obtain ⟨mb,h1,h2⟩:=I.mod.blt;exact Calls.Name_function_global I.ok.kind hg (Calls.loadGlobal_builtin (by rw [I.ok.glob]; exact I.mod.glob.keeps I.bk) hm (by rw [I.ok.blt]; exact h1.keeps I.bk) ((h2 x hn).trans hv) h) hd
variable {a b:Expr} {ta tb:TE} {pos:Pos}
variable {tA tB':TT} {rest:List Expr}
def S9 (t u:TT):TT:=fun σ H Q=>t σ H fun c H1=>if c=true then u σ H1 Q else Q false H1
def tOr (t u:TT):TT:=fun σ H Q=>t σ H fun c H1=>if c=true then Q true H1 else u σ H1 Q
def Sa (t:TT):TT:=fun σ H Q=>t σ H fun c H1=>Q (!c) H1
theorem K3 (ha:PT X a tA):PW X (.BoolOp .And [a] pos) tA:=by
 intro wh pins s σ H Q I h;refine isTrue_and (thn (ha pins s σ H Q I h) fun c s1 e=>?_);cases c with
 | true=>exact isTrue_and_nil e
 | false=>exact e
theorem Nd (ha:PT X a tA):PW X (.BoolOp .Or [a] pos) tA:=by
 intro wh pins s σ H Q I h;refine isTrue_or (thn (ha pins s σ H Q I h) fun c s1 e=>?_);cases c with
 | false=>exact isTrue_or_nil e
 | true=>exact e
theorem Nf (ha:PT X a tA) (hb:PW X (.BoolOp .And (b :: rest) pos) tB'):PW X (.BoolOp .And (a :: b :: rest) pos) (S9 tA tB'):=by
 intro wh pins s σ H Q I h;refine isTrue_and (thn (ha pins s σ H _ I h) fun c s1 ⟨H1,I1,q1⟩=>?_);cases c with
 | true=>exact hb wh pins s1 σ H1 Q I1 q1
 | false=>exact ⟨H1,I1,q1⟩
theorem PM (ha:PT X a tA) (hb:PW X (.BoolOp .Or (b :: rest) pos) tB'):PW X (.BoolOp .Or (a :: b :: rest) pos) (tOr tA tB'):=by
 intro wh pins s σ H Q I h;refine isTrue_or (thn (ha pins s σ H _ I h) fun c s1 ⟨H1,I1,q1⟩=>?_);cases c with
 | true=>exact ⟨H1,I1,q1⟩
 | false=>exact hb wh pins s1 σ H1 Q I1 q1
theorem Ng (ha:PT X a tA):PT X (.UnaryOp .Not a pos) (Sa tA):=by
 intro pins s σ H Q I h;exact isTrue_not (ha pins s σ H (fun c H1=>Q (!c) H1) I h)
end
def SqL (K:ag) (H:Hp) (a:Addr) (xs:List V):Prop:=
 Rd H a (.lst xs)\/
  ∃ (o:Obj) (its:Array Value) (n:Nat),K.lookup a=some o/\o.cls=.type "list" /\ o.dict=none/\o.data=.seq its n/\its.size<=az/\aL xs its.toList
def SqT (K:ag) (H:Hp) (a:Addr) (xs:List V):Prop:=
 Rd H a (.tup xs)\/
  ∃ (o:Obj) (its:Array Value) (n:Nat),K.lookup a=some o/\o.cls=.type "tuple" /\ o.data=.seq its n/\its.size<=az/\aL xs its.toList/\o.dict=none
def Sb:Value->Option V
 | .none=>some .non
 | .bool b=>some (.bl b)
 | .int i _=>some (.int i)
 | .str x _=>some (.str x)
 | .bytes b _=>some (.byt b)
 | .float b _=>some (.flt b)
 | .ref a=>some (.ref a)
 | .type n=>some (.ty n)
 | _=>none
theorem RelV.abs {x:V} {u:Value} (r:RelV x u):Sb u=some x:=by
 cases x with
 | non=>cases r; rfl
 | bl _=>cases r; rfl
 | int _=>obtain ⟨t,rfl⟩:=r; rfl
 | str _=>obtain ⟨t,rfl⟩:=r; rfl
 | byt _=>obtain ⟨t,rfl⟩:=r; rfl
 | flt _=>obtain ⟨t,rfl⟩:=r; rfl
 | ref _=>cases r; rfl
 | ty _=>cases r; rfl
theorem RelV.inj {x y:V} {u:Value} (r:RelV x u) (q:RelV y u):x=y:=b8 (r.abs.symm.trans q.abs)
theorem aL.inj:∀ {xs ys:List V} {us:List Value},aL xs us->aL ys us->xs=ys
 | _,_,_,.nil,.nil=>rfl
 | _,_,_,.cons r t,.cons r' t'=>by rw [r.inj r',aL.inj t t']
section
variable {X:Cx} {pins:List (Addr×Obj)} {σ:St} {H:Hp} {s:Shared} {a:Addr} {xs ys:List V}
theorem SqL.of {K:ag} (h:H a=some (.lst xs)):SqL K H a xs:=.inl (.inl h)
theorem SqT.of {K:ag} (h:H a=some (.tup xs)):SqT K H a xs:=.inl (.inl h)
theorem Inv.list (I:Inv X pins σ H s) (h:SqL X.K H a xs):∃ its:List Value,aL xs its/\PlainL s.heap a its.toArray/\xs.length<=az:=by
 rcases h with h | ⟨o,its,n,hk,hc,hd,hs,hz,r⟩
 ·obtain ⟨z,its,n,r,e⟩:=h.ok I.hok;exact ⟨its,r,⟨_,n,e,rfl,rfl,rfl⟩,z⟩
 ·refine ⟨its.toList,r,⟨o,n,I.kIn a o hk,hc,hd,by simpa using hs⟩,?_⟩
  have e:=r.length;simp only [gv] at e;omega
theorem Inv.tuple (I:Inv X pins σ H s) (h:SqT X.K H a xs):∃ its:List Value,aL xs its/\IsTup s.heap a its.toArray/\xs.length<=az:=by
 rcases h with h | ⟨o,its,n,hk,hc,hs,hz,r,_⟩
 ·obtain ⟨z,its,r,p⟩:=h.ok I.hok;exact ⟨its,r,p.is,z⟩
 ·refine ⟨its.toList,r,⟨o,I.kIn a o hk,hc,n,by simpa using hs⟩,?_⟩
  have e:=r.length;simp only [gv] at e;omega
theorem Inv.list_inj (I:Inv X pins σ H s) (h:SqL X.K H a xs) (h':SqL X.K H a ys):xs=ys:=by
 obtain ⟨its,r,⟨o,n,e,_,_,d⟩,_⟩:=I.list h;obtain ⟨its',r',⟨o',n',e',_,_,d'⟩,_⟩:=I.list h';rw [e] at e'; cases e';rw [d] at d';injection d' with d1 _;have:its=its':=by simpa using congrArg Array.toList d1
 subst this;exact r.inj r'
theorem Inv.tuple_inj (I:Inv X pins σ H s) (h:SqT X.K H a xs) (h':SqT X.K H a ys):xs=ys:=by
 obtain ⟨its,r,⟨o,e,_,n,d⟩,_⟩:=I.tuple h;obtain ⟨its',r',⟨o',e',_,n',d'⟩,_⟩:=I.tuple h';rw [e] at e'; cases e';rw [d] at d';injection d' with d1 _;have:its=its':=by simpa using congrArg Array.toList d1
 subst this;exact r.inj r'
end
abbrev Cx.wish (X:Cx) (E:Value->Shared->Prop):Cx:={ X with xe:=E }
abbrev Cx.nox (X:Cx):Cx:=X.wish fun _ _=>False
theorem Cx.Ok.wish {X:Cx} (ok:X.Ok) (E:Value->Shared->Prop):(X.wish E).Ok:=
 ⟨ok.mod,ok.kind,ok.glob,ok.blt,ok.above,ok.inj,ok.has,ok.cab,ok.hd,ok.frames,ok.stk,ok.exf,ok.bs,ok.bsz,ok.noex,ok.exfs,ok.funs,ok.frf⟩
theorem Cx.Ok.unwish {X:Cx} {E:Value->Shared->Prop} (ok:(X.wish E).Ok):X.Ok:=
 ⟨ok.mod,ok.kind,ok.glob,ok.blt,ok.above,ok.inj,ok.has,ok.cab,ok.hd,ok.frames,ok.stk,ok.exf,ok.bs,ok.bsz,ok.noex,ok.exfs,ok.funs,ok.frf⟩
section
variable {X:Cx} {pins:List (Addr×Obj)} {σ:St} {H:Hp} {s:Shared} {E:Value->Shared->Prop}
theorem Inv.wish (I:Inv X pins σ H s) (E:Value->Shared->Prop):Inv (X.wish E) pins σ H s:=⟨I.ok.wish E,I.os,I.bare,I.base,I.loc,I.cell,I.free,I.freeC,I.pin,I.hok,I.len⟩
theorem Inv.unwish (I:Inv (X.wish E) pins σ H s):Inv X pins σ H s:=⟨I.ok.unwish,I.os,I.bare,I.base,I.loc,I.cell,I.free,I.freeC,I.pin,I.hok,I.len⟩
theorem SP.unwish {D:Ends} {f:Flow} {s':Shared} (h:SP (X.wish E) pins D f s'):SP X pins D f s':=by
 cases f with
 | next=>obtain ⟨σ',H',I,q⟩:=h; exact ⟨σ',H',I.unwish,q⟩
 | brk=>obtain ⟨σ',H',I,q⟩:=h; exact ⟨σ',H',I.unwish,q⟩
 | cont=>obtain ⟨σ',H',I,q⟩:=h; exact ⟨σ',H',I.unwish,q⟩
 | ret u=>obtain ⟨v,σ',H',I,r,q⟩:=h; exact ⟨v,σ',H',I.unwish,r,q⟩
theorem PSs.nox {st:List Stmt} {t:TS} (h:PSs X.nox st t):PSs X st t:=fun pins s σ H D I hw=>
 ja (h pins s σ H D (I.wish _) hw) (fun _ _ q=>q.unwish) fun _ _ z=>iw z
end
section
variable {X:Cx} {st:Stmt} {rest:List Stmt} {t u:TS} {e:Expr} {te:TE} {pos:Pos}
def MF:TS:=fun D σ H=>D.nx σ H
def Sd (t u:TS):TS:=fun D σ H=>t { D with nx:=u D } σ H
theorem K4:PSs X [] MF:=fun _ _ σ H _ I h=>wpAny_execs_nil ⟨σ,H,I,h⟩
theorem Gk (h1:PS X st t) (h2:PSs X rest u):PSs X (st :: rest) (Sd t u):=by
 intro pins s σ H D I h;refine wpAny_execs_cons (thn (h1 pins s σ H { D with nx:=u D } I h) fun f s1 q=>?_);cases f with
 | next=>
  obtain ⟨σ',H',I',q⟩:=q;exact h2 pins s1 σ' H' D I' q
 | ret v=>exact q
 | brk=>exact q
 | cont=>exact q
theorem K5 (h1:PS X st t):PSs X [st] t:=by
 intro pins s σ H D I h;refine wpAny_execs_cons (thn (h1 pins s σ H D I h) fun f s1 q=>?_);cases f with
 | next=>exact wpAny_execs_nil q
 | ret v=>exact q
 | brk=>exact q
 | cont=>exact q
theorem K6:PS X (.Pass pos) MF:=fun _ _ σ H _ I h=>wpAny_Pass ⟨σ,H,I,h⟩
theorem Inv.quiet {pins:List (Addr×Obj)} {σ:St} {H:Hp} {s:Shared} (I:Inv X pins σ H s):interactive X.env=false:=by simp [interactive,I.ok.kind]
def PN (te:TE):TS:=fun D σ H=>te σ H fun _ H1=>D.nx σ H1
theorem K7 (he:PE X e te) (hs:swapsWith e none pos.line X.env=pure false:=by rfl):PS X (.Expr e pos) (PN te):=by
 intro pins s σ H D I h;exact wpAny_Expr_any (thn (he pins s σ H _ I h) fun v s1 ⟨x,H1,I1,r1,q1⟩=>⟨σ,H1,I1,q1⟩) I.quiet hs
def Se (te:TE):TS:=fun D σ H=>te σ H D.rt
theorem Nh (he:PE X e te):PS X (.Return (some e) pos) (Se te):=by
 intro pins s σ H D I h;exact wpAny_Return_some (thn (he pins s σ H _ I h) fun v s1 ⟨x,H1,I1,r1,q1⟩=>⟨x,σ,H1,I1,r1,q1⟩)
def Sf (c:TT) (t u:TS):TS:=fun D σ H=>c σ H fun b H1=>if b=true then t D σ H1 else u D σ H1
theorem PP {c:Expr} {a b:List Stmt} {tc:TT} (hc:PT X c tc) (ha:PSs X a t) (hb:PSs X b u):PS X (.If c a b pos) (Sf tc t u):=by
 intro pins s σ H D I h;refine wpAny_If (thn (hc pins s σ H _ I h) fun d s1 ⟨H1,I1,q1⟩=>?_);cases d with
 | true=>exact ha pins s1 σ H1 D I1 q1
 | false=>exact hb pins s1 σ H1 D I1 q1
end
abbrev TG:=V->St->Hp->(St->Hp->Prop)->Prop
abbrev TGs:=List V->St->Hp->(St->Hp->Prop)->Prop
def PG (X:Cx) (target:Expr) (t:TG):Prop:=
 ∀ (pins:List (Addr×Obj)) (s:Shared) (σ:St) (H:Hp) (v:V) (u:Value) (Q:St->Hp->Prop),Inv X pins σ H s->RelV v u->t v σ H Q->
  wpAny (model X.prog X.w) X.A (assign target X.env u) (fun _ s'=>∃ σ' H',Inv X pins σ' H' s'/\Q σ' H') X.xe s
def PGs (X:Cx) (ts:List Expr) (t:TGs):Prop:=
 ∀ (pins:List (Addr×Obj)) (s:Shared) (σ:St) (H:Hp) (vs:List V) (us:List Value) (Q:St->Hp->Prop),Inv X pins σ H s->aL vs us->t vs σ H Q->
  wpAny (model X.prog X.w) X.A (assignInOrder ((jr ts X.env).map (·.2)) us) (fun _ s'=>∃ σ' H',Inv X pins σ' H' s'/\Q σ' H') X.xe s
abbrev Sh:=V->V->V->Hp->(Hp->Prop)->Prop
def Si (X:Cx) (t:Sh):Prop:=
 ∀ (pins:List (Addr×Obj)) (s:Shared) (σ:St) (H:Hp) (o i v:V) (ov iv u:Value) (Q:Hp->Prop),Inv X pins σ H s->RelV o ov->RelV i iv->RelV v u->t o i v H Q->
  wpAny (model X.prog X.w) X.A (setItem ov iv u) (fun _ s'=>∃ H',Inv X pins σ H' s'/\Q H') X.xe s
section
variable {X:Cx} {pos:Pos}
def Gm (i:Nat):TG:=fun v σ H Q=>Q (σ.set i (some v)) H
theorem K8 {i:Nat} {x:Str} (hN:X.N.Nodup) (hi:X.N[i]?=some x) (hx:Loc X.env.scope x) (hf:X.fn x=true\/X.env.scope.names.lookup x=some .local:=by first | exact .inl rfl | exact .inr rfl | assumption):PG X (.Name x pos) (Gm i):=by
 intro pins s σ H v u Q I r h;exact wpAny_assign_Name (Am I hN hi hx r (fun s' I'=>⟨_,H,I',h⟩) hf)
def Sj:TGs:=fun vs σ H Q=>vs=[]/\Q σ H
def PQ (t:TG) (u:TGs):TGs:=fun vs σ H Q=>∃ v r,vs=v :: r/\t v σ H fun σ' H'=>u r σ' H' Q
theorem K9:PGs X [] Sj:=by
 intro pins s σ H vs us Q I r h;obtain ⟨e,h⟩:=h;subst e;cases r
 exact assignInOrder_nil ⟨σ,H,I,h⟩
theorem Gn {e:Expr} {es:List Expr} {t:TG} {u:TGs} (h1:PG X e t) (h2:PGs X es u)
  (hs:(jr (e :: es) X.env).map (·.2)=assign e X.env :: (jr es X.env).map (·.2):=by rfl):PGs X (e :: es) (PQ t u):=by
 intro pins s σ H vs us Q I r h;obtain ⟨v,vr,e1,h⟩:=h;subst e1;cases r with
 | cons r rr=>
  rw [hs];refine assignInOrder_cons (thn (h1 pins s σ H _ _ _ I r h) fun _ s1 ⟨σ1,H1,I1,q1⟩=>?_);exact h2 pins s1 σ1 H1 _ _ Q I1 rr q1
def PR (K:ag) (n:Nat) (t:TGs):TG:=fun v σ H Q=>∃ a xs,v=.ref a/\SqT K H a xs/\xs.length=n/\t xs σ H Q
theorem Ni {es:List Expr} {k:Nat} {t:TGs} {n:Nat} (hc:X.calm=true) (h:PGs X es t)
  (hn:(jr es X.env).length=n:=by rfl) (hst:(jr es X.env).findIdx? (·.1)=none:=by rfl):PG X (.Tuple es k pos) (PR X.K n t):=by
 intro pins s σ H v u Q I r hw;obtain ⟨a,xs,e1,hq,hl,hw⟩:=hw;subst e1;cases r
 obtain ⟨its,rv,ht,hz⟩:=I.tuple hq;refine assign_Tuple_tuple (I.ok.hd hc) ht (by simp [hn,<- hl,rv.length]) hst fun h' hx=>?_;have I1:Inv X pins σ H { s with heap:=h' }:=I.kept (t':=s.toks) fun b o e=>hx b o (bu (ay e)) e;exact h pins _ σ H xs _ Q I1 (by simpa using rv) hw
def Nj (te:TE) (g:TG):TS:=fun D σ H=>te σ H fun x H1=>g x σ H1 D.nx
theorem Nk {tg e:Expr} {te:TE} {g:TG} (he:PE X e te) (hg:PG X tg g) (hs:swapsWithSole [tg] e pos.line X.env=pure false:=by rfl) (hw:swappedStores [tg] e X.env=pure none:=by rfl)
  (h1:(jr [tg] X.env).map (·.2)=[assign tg X.env]:=by rfl):PS X (.Assign [tg] e pos) (Nj te g):=by
 intro pins s σ H D I h;refine wpAny_Assign_stores (thn (he pins s σ H _ I h) fun v s1 hz=>?_) hs hw;obtain ⟨x,H1,I1,r1,q1⟩:=hz;rw [h1];exact thn (hg pins s1 σ H1 x v _ I1 r1 q1) fun _ s2 q=>q
theorem Nl {i:Nat} {x:Str} {e:Expr} {te:TE} {pos':Pos} (hN:X.N.Nodup) (hi:X.N[i]?=some x) (hx:Loc X.env.scope x) (he:PE X e te) (hs:swapsWith e (some (.Name x pos')) pos.line X.env=pure false:=by rfl) (hf:X.fn x=true\/X.env.scope.names.lookup x=some .local:=by first | exact .inl rfl | exact .inr rfl | assumption):
  PS X (.Assign [.Name x pos'] e pos) (Nj te (Gm i)):=by
 intro pins s σ H D I h;refine wpAny_Assign_Name (thn (he pins s σ H _ I h) fun v s1 hz=>?_) hs;obtain ⟨y,H1,I1,r1,q1⟩:=hz;exact Am I1 hN hi hx r1 (fun s2 I2=>⟨_,H1,I2,q1⟩) hf
end
section
variable {X:Cx} {pos:Pos}
def Nm (c:TT) (tb:TS):TS:=fun D σ H=>∃ W:Nat->St->Hp->Prop,(∃ m,W m σ H)/\∀ m σ H,W m σ H->
 c σ H fun b H1=>if b=true then ∃ N:St->Hp->Prop,(∀ σ' H',N σ' H'->∃ m',m' < m/\W m' σ' H')/\tb { D with nx:=N,ct:=N,bk:=D.nx } σ H1 else D.nx σ H1
theorem Gp {c:Expr} {body:List Stmt} {tc:TT} {tb:TS} (hp:PassesOwn (model X.prog X.w) X.A X.env X.xe) (hc:PT X c tc) (hb:PSs X body tb):PS X (.While c body [] pos) (Nm tc tb):=by
 intro pins s σ H D I h;obtain ⟨W,⟨m0,w0⟩,turn⟩:=h;refine wpAny_While (codeAny_whileLoop (fun n s'=>∃ σ' H',Inv X pins σ' H' s'/\W n σ' H') ?_ m0 ⟨σ,H,I,w0⟩);rintro n s1 ⟨σ1,H1,I1,w1⟩;refine j8 hp (thn (hc pins s1 σ1 H1 _ I1 (turn n σ1 H1 w1)) fun b s2 ⟨H2,I2,q2⟩=>?_);cases b with
 | true=>
  obtain ⟨N,hN,q2⟩:=q2;rw [if_pos rfl];refine j8 hp (thn (hb pins s2 σ1 H2 _ I2 q2) fun f s3 q3=>?_);cases f with
  | next=>
   obtain ⟨σ3,H3,I3,n3⟩:=q3;obtain ⟨m',hm,w3⟩:=hN σ3 H3 n3;exact ⟨m',hm,σ3,H3,I3,w3⟩
  | cont=>
   obtain ⟨σ3,H3,I3,n3⟩:=q3;obtain ⟨m',hm,w3⟩:=hN σ3 H3 n3;exact ⟨m',hm,σ3,H3,I3,w3⟩
  | brk=>exact q3
  | ret v=>exact q3
 | false=>
  rw [if_neg bx];exact wpAny_execs_nil ⟨σ1,H2,I2,q2⟩
end
structure It where
 go:Nat->Hp->Prop
 yld:Nat->Hp->V->Hp->Prop
 stop:Nat->Hp->Prop
def An (X:Cx) (pins:List (Addr×Obj)) (H:Hp) (b:Addr):Prop:=
 H b=none/\b≠X.env.locals/\b∉X.fs/\(b∈X.ex\/X.s₀.heap.objs.size<=b)/\(∀ x c,X.env.cells.lookup x=some c->c≠b)/\∀ p∈X.pn++pins,p.1≠b
theorem Inv.fpOk {X:Cx} {pins:List (Addr×Obj)} {σ:St} {H H':Hp} {s:Shared} {b:Addr} (I:Inv X pins σ H s) (hb:s.heap.objs.size<=b) (hn:H' b=none):An X pins H' b:=by
 refine ⟨hn,gj (b0 I.lt hb),I.nofs hb,.inr (ft I.sz hb),fun x c e z=>?_,fun p hp z=>?_⟩
 ·obtain ⟨v,q⟩:=I.cell x c e;exact absurd (b0 q.lt (by rw [z]; exact hb)) (gf _)
 ·exact absurd (b0 (ay (I.pin p hp).1) (by rw [z]; exact hb)) (gf _)
structure Turn (P:Program) (w:World) (K:ag) (tg:Expr) (J:It) (fp:List Addr) (it:Addr) (tn:Nat->Heap->Prop):Prop where
 mem:it∈fp
 obj:∀ i h,tn i h->∀ b∈fp,∃ o,h.get? b=some o/\∀ v,o.data≠.cell v
 keep:∀ i h h',tn i h->(∀ b∈fp,∀ o,h.get? b=some o->h'.get? b=some o)->tn i h'
 item:∀ (X:Cx),X.prog=P->X.w=w->X.K=K->X.calm=true->∀ (i:Nat) (pins:List (Addr×Obj)) (s:Shared) (σ:St) (H:Hp) (E:Value->Shared->Prop),Inv X pins σ H s->(∀ b∈fp,An X pins H b)->tn i s.heap->J.go i H->
  wpAny (model P w) X.A (pyNext (.ref it)) (fun r s1=>∃ u,r=some u/\
   wpAny (model P w) X.A (letOwnedTupleGo tg (.ref it) u) (fun _ s2=>∃ x H',Inv X pins σ H' s2/\RelV x u/\J.yld i H x H'/\tn (i+1) s2.heap/\∀ b∈fp,H' b=none) E s1) E s
 done:∀ (X:Cx),X.prog=P->X.w=w->X.K=K->X.calm=true->∀ (i:Nat) (pins:List (Addr×Obj)) (s:Shared) (σ:St) (H:Hp) (E:Value->Shared->Prop),Inv X pins σ H s->(∀ b∈fp,An X pins H b)->tn i s.heap->J.stop i H->
  wpAny (model P w) X.A (pyNext (.ref it)) (fun r s1=>r=none/\Inv X pins σ H s1) E s
 self:∀ (A:Around) (i:Nat) (s:Shared) (Q:Value->Shared->Prop) (E:Value->Shared->Prop),tn i s.heap->Q (.ref it) s->wpAny (model P w) A (pyIter (.ref it)) Q E s
abbrev TI:=St->Hp->(It->Hp->Prop)->Prop
def PIE (X:Cx) (pins:List (Addr×Obj)) (σ:St) (tg:Expr) (R:It->Hp->Prop) (itv:Value) (s2:Shared):Prop:=
 ∃ (it:Addr) (fp:List Addr) (tn:Nat->Heap->Prop) (J:It) (H':Hp),itv=.ref it/\Inv X pins σ H' s2/\Turn X.prog X.w X.K tg J fp it tn/\tn 0 s2.heap/\(∀ b∈fp,An X pins H' b)/\R J H'
def PI (X:Cx) (tg iter:Expr) (wi:TI):Prop:=
 ∀ (pins:List (Addr×Obj)) (s:Shared) (σ:St) (H:Hp) (R:It->Hp->Prop),Inv X pins σ H s->wi σ H R->
  wpAny (model X.prog X.w) X.A (eval iter X.env) (fun v s1=>wpAny (model X.prog X.w) X.A (pyIter v) (PIE X pins σ tg R) X.xe s1) X.xe s
theorem DV {M:Model} {A:Around} {E:Value->Shared->Prop} {s:Shared} {tg:Expr} {it:Addr} {u:Value} {o:Obj} {n:String} {vs:Array Value} {Q:Unit->Shared->Prop} (ho:s.heap.get? it=some o) (hc:o.cls=.type n) (hd:o.data=.fields vs)
  (hn:["enumerate","zip","dict_itemiterator","dict_reverseitemiterator","odict_iterator","itertools.zip_longest","itertools.pairwise"].contains n=false) (hQ:Q () s):wpAny M A (letOwnedTupleGo tg (.ref it) u) Q E s:=by
 unfold letOwnedTupleGo;cases tg <;> first
  | exact af hQ
  | (cases u <;> first
    | exact af hQ
    | (refine aa (wpAny_load ho ?_)
       rw [hc,hd]
       show wpAny M A (if (["enumerate","zip","dict_itemiterator","dict_reverseitemiterator","odict_iterator","itertools.zip_longest","itertools.pairwise"].contains n && vs[0]? == some (rawInt _))=true then _ else _) Q E s
       rw [if_neg (by intro h; rw [hn,Bool.false_and] at h; cases h)];exact af hQ))
def Itl (K:ag) (a:Addr):It:=
 ⟨fun i H=>∃ xs x,SqL K H a xs/\xs[i]?=some x,fun i H x H'=>H'=H/\∀ xs,SqL K H a xs->xs[i]?=some x,fun i H=>∃ xs,SqL K H a xs/\xs.length<=i⟩
def Itt (K:ag) (a:Addr):It:=
 ⟨fun i H=>∃ xs x,SqT K H a xs/\xs[i]?=some x,fun i H x H'=>H'=H/\∀ xs,SqT K H a xs->xs[i]?=some x,fun i H=>∃ xs,SqT K H a xs/\xs.length<=i⟩
def Itr (lo:Int) (n:Nat):It:=⟨fun i _=>i < n,fun i H x H'=>H'=H/\x=.int (lo+i),fun i _=>n<=i⟩
theorem vW {P:Program} {w:World} {K:ag} {tg:Expr} (a it:Addr):Turn P w K tg (Itl K a) [it] it (fun i h=>h.IsListIter it a i) where
 mem:=by simp
 obj:=fun i h st b hb=>by
  have e:b=it:=by simpa using hb
  subst e;obtain ⟨o,e,c,d⟩:=st;exact ⟨o,e,fun v z=>by rw [d] at z; cases z⟩
 keep:=fun i h h' st k=>st.at fun o e=>k it (by simp) o e
 item:=by
  intro X hP hw hK hc i pins s σ H E I hf st hg;subst hP hw hK;obtain ⟨xs,x,hq,hx⟩:=hg;obtain ⟨its,rv,p,hz⟩:=I.list hq;obtain ⟨u,hu,ru⟩:=rv.get hx;obtain ⟨f0,f1,f2,f3,f4,f5⟩:=hf it (by simp);refine wpAny_pyNext_list_item st p.isList (x:=u) (by simpa using hu) fun h' st' sb=>?_
  have I1:Inv X pins σ H { s with heap:=h' }:=I.turned (t':=s.toks) (fun b o hb e=>(sb.2 b hb).trans e) f0 f1 f3 f4 f5;obtain ⟨o,e,c,d⟩:=id st';exact ⟨u,rfl,DV (s:={ s with heap:=h' }) e c d (by decide) ⟨x,H,I1,ru,⟨rfl,fun ys hy=>by rw [I.list_inj hy hq]; exact hx⟩,st',fun b hb=>(hf b hb).1⟩⟩
 done:=by
  intro X hP hw hK hc i pins s σ H E I hf st hg;subst hP hw hK;obtain ⟨xs,hq,hx⟩:=hg;obtain ⟨its,rv,p,hz⟩:=I.list hq;obtain ⟨f0,f1,f2,f3,f4,f5⟩:=hf it (by simp);have hl:=rv.length;exact wpAny_pyNext_list_end (I.ok.hd hc) st p.isList (by simp; omega) fun h' eb=>⟨rfl,I.turned (t':=s.toks) (fun b o hb e=>eb b o hb e) f0 f1 f3 f4 f5⟩
 self:=fun _ _ _ _ _ st h=>wpAny_pyIter_listiter st h
theorem Cg {P:Program} {w:World} {K:ag} {tg:Expr} (a it:Addr):Turn P w K tg (Itt K a) [it] it (fun i h=>h.IsTupleIter it a i) where
 mem:=by simp
 obj:=fun i h st b hb=>by
  have e:b=it:=by simpa using hb
  subst e;obtain ⟨o,e,c,d⟩:=st;exact ⟨o,e,fun v z=>by rw [d] at z; cases z⟩
 keep:=fun i h h' st k=>st.at fun o e=>k it (by simp) o e
 item:=by
  intro X hP hw hK hc i pins s σ H E I hf st hg;subst hP hw hK;obtain ⟨xs,x,hq,hx⟩:=hg;obtain ⟨its,rv,p,hz⟩:=I.tuple hq;obtain ⟨u,hu,ru⟩:=rv.get hx;obtain ⟨f0,f1,f2,f3,f4,f5⟩:=hf it (by simp);refine wpAny_pyNext_tuple_item st (show s.heap.IsTuple a its.toArray from p) (x:=u) (by simpa using hu) fun h' st' sb=>?_
  have I1:Inv X pins σ H { s with heap:=h' }:=I.turned (t':=s.toks) (fun b o hb e=>(sb.2 b hb).trans e) f0 f1 f3 f4 f5;obtain ⟨o,e,c,d⟩:=id st';exact ⟨u,rfl,DV (s:={ s with heap:=h' }) e c d (by decide) ⟨x,H,I1,ru,⟨rfl,fun ys hy=>by rw [I.tuple_inj hy hq]; exact hx⟩,st',fun b hb=>(hf b hb).1⟩⟩
 done:=by
  intro X hP hw hK hc i pins s σ H E I hf st hg;subst hP hw hK;obtain ⟨xs,hq,hx⟩:=hg;obtain ⟨its,rv,p,hz⟩:=I.tuple hq;obtain ⟨f0,f1,f2,f3,f4,f5⟩:=hf it (by simp);have hl:=rv.length;exact wpAny_pyNext_tuple_end (I.ok.hd hc) st (show s.heap.IsTuple a its.toArray from p) (by simp; omega) fun h' eb=>⟨rfl,I.turned (t':=s.toks) (fun b o hb e=>eb b o hb e) f0 f1 f3 f4 f5⟩
 self:=fun _ _ _ _ _ st h=>wpAny_pyIter_tupleiter st h
theorem Ci {P:Program} {w:World} {K:ag} {tg:Expr} (it:Addr) (lo:Int) (n:Nat):Turn P w K tg (Itr lo n) [it] it (fun i h=>IsRangeIter h it (lo+(i:Nat)*1) ((n:Int) - (i:Nat)) 1) where
 mem:=by simp
 obj:=fun i h st b hb=>by
  have e:b=it:=by simpa using hb
  subst e;exact ⟨_,st,fun v z=>by
   have z':Data.fields _=Data.cell v:=z;cases z'⟩
 keep:=fun i h h' st k=>k it (by simp) _ st
 item:=by
  intro X hP hw hK hc i pins s σ H E I hf st hg;subst hP hw hK;obtain ⟨f0,f1,f2,f3,f4,f5⟩:=hf it (by simp);have W:=Walks.range (prog:=X.prog) (w:=X.w) (I.ok.hd hc) it lo 1 n;refine W.item i s _ _ hg st fun v h' tk hv st' kk=>?_;obtain ⟨t,rfl⟩:=hv;have I1:Inv X pins σ H { s with heap:=h',toks:=tk }:=I.turned (fun b o hb e=>kk b o (by simpa using hb) e) f0 f1 f3 f4 f5
  refine ⟨_,rfl,DV (s:={ s with heap:=h',toks:=tk }) (n:="range_iterator") st' rfl rfl (by decide) ⟨.int (lo+i),H,I1,⟨t,?_⟩,⟨rfl,rfl⟩,st',fun b hb=>(hf b hb).1⟩⟩;rw [Int.mul_one]
 done:=by
  intro X hP hw hK hc i pins s σ H E I hf st hg;subst hP hw hK;obtain ⟨f0,f1,f2,f3,f4,f5⟩:=hf it (by simp);exact wpAny_pyNext_range_end (I.ok.hd hc) st (by have:n<=i:=hg; omega) fun h' eb=>⟨rfl,I.turned (t':=s.toks) (fun b o hb e=>eb b o hb e) f0 f1 f3 f4 f5⟩
 self:=fun _ _ _ _ _ st h=>wpAny_pyIter_rangeiter st h
section
variable {X:Cx} {tg:Expr}
theorem Ao {pins:List (Addr×Obj)} {σ:St} {H:Hp} {s:Shared} {R:It->Hp->Prop} {E:Value->Shared->Prop} {lo hi:Int} {t u v:Tok} {tk:Nat} (I:Inv X pins σ H s) (h1:-(2 ^ 62)<=lo) (h2:lo < 2 ^ 62) (h3:-(2 ^ 62)<=hi) (h4:hi < 2 ^ 62)
  (q:R (Itr lo (hi - lo).toNat) H):wpAny (model X.prog X.w) X.A (pyIter (.ref s.heap.objs.size)) (PIE X pins σ tg R) E { s with heap:=s.heap.push { cls:=.type "range",data:=.fields #[.int lo t,.int hi u,.int 1 v] },toks:=tk }:=by
 refine wpAny_pyIter_range (IsRange.new ..) (small_one h1 h2 h3 h4) ?_;have I1:Inv X pins σ H { s with heap:=s.heap.push { cls:=.type "range",data:=.fields #[.int lo t,.int hi u,.int 1 v] },toks:=tk }:=I.kept fun b o e=>ab _ e;refine ⟨(s.heap.push { cls:=.type "range",data:=.fields #[.int lo t,.int hi u,.int 1 v] }).objs.size,[(s.heap.push { cls:=.type "range",data:=.fields #[.int lo t,.int hi u,.int 1 v] }).objs.size],_,_,H,rfl,
  I1.kept (t':=tk) fun b o e=>ab _ e,Ci _ lo (hi - lo).toNat,?_,fun b hb=>?_,q⟩
 ·have e1:lo+((0:Nat):Int)*1=lo:=by simp
  have e2:(((hi - lo).toNat:Nat):Int) - ((0:Nat):Int)=Builtin.Range.rangeSize lo hi 1:=by rw [rangeSize_one]; split <;> omega
  show IsRangeIter _ _ (lo+((0:Nat):Int)*1) ((((hi - lo).toNat:Nat):Int) - ((0:Nat):Int)) 1
  rw [e1,e2];exact ax _ rfl
 ·have e:b=(s.heap.push { cls:=.type "range",data:=.fields #[.int lo t,.int hi u,.int 1 v] }).objs.size:=by simpa using hb
  subst e;exact I1.fpOk (bj _) (I1.hok.fresh (bj _))
def Sk (wi:TI) (g:TG) (tb:TS):TS:=fun D σ H=>wi σ H fun J H1=>∃ W:Nat->Nat->St->Hp->Prop,(∃ m,W 0 m σ H1)/\∀ i m σ H,W i m σ H->
 (J.stop i H/\D.nx σ H)\/(J.go i H/\∃ N:St->Hp->Prop,(∀ σ' H',N σ' H'->∃ m',m' < m/\W (i+1) m' σ' H')/\∀ x H',J.yld i H x H'->g x σ H' fun σ2 H2=>tb { D with nx:=N,ct:=N,bk:=D.nx } σ2 H2)
def rV (fp:List Addr) (h:Heap):List (Addr×Obj):=fp.filterMap fun b=>(h.get? b).map fun o=>(b,o)
theorem hX {fp:List Addr} {h:Heap} {b:Addr} {o:Obj} (hb:b∈fp) (e:h.get? b=some o):(b,o)∈rV fp h:=List.mem_filterMap.mpr ⟨b,hb,by rw [e]; rfl⟩
theorem F0 {fp:List Addr} {h:Heap} {p:Addr×Obj} (hp:p∈rV fp h):p.1∈fp/\h.get? p.1=some p.2:=by
 obtain ⟨b,hb,e⟩:=List.mem_filterMap.mp hp;cases q:h.get? b with
 | none=>rw [q] at e; cases e
 | some o=>
  rw [q] at e;have e':(b,o)=p:=b8 e;subst e';exact ⟨hb,q⟩
theorem Inv.pinned {pins:List (Addr×Obj)} {σ:St} {H:Hp} {s:Shared} {fp:List Addr} (I:Inv X pins σ H s) (hf:∀ b∈fp,An X pins H b) (ho:∀ b∈fp,∃ o,s.heap.get? b=some o/\∀ v,o.data≠.cell v):Inv X (pins++rV fp s.heap) σ H s:=
 I.pins_of fun p hp=>(au.mp hp).elim (fun z=>I.pin p (ah _ z)) fun z=>by
  obtain ⟨hb,e⟩:=F0 z;obtain ⟨f0,f1,f2,_⟩:=hf p.1 hb;obtain ⟨o,e',d⟩:=ho p.1 hb;rw [e] at e'; cases e';exact ⟨e,f0,f1,f2,d⟩
theorem Inv.unpinned {pins pl:List (Addr×Obj)} {σ:St} {H:Hp} {s:Shared} (I:Inv X (pins++pl) σ H s):Inv X pins σ H s:=I.pins_of fun p hp=>I.pin p (ah _ (cq _ hp))
theorem Np {iter:Expr} {body:List Stmt} {wi:TI} {g:TG} {tb:TS} {pos:Pos} (hp:PassesOwn (model X.prog X.w) X.A X.env X.xe) (hc:X.calm=true) (hi:PI X tg iter wi) (hg:PG X tg g) (hb:PSs X body tb)
  (hs:∀ x,jh iter X.env x=pure x:=by intro _; rfl):PS X (.For tg iter body [] pos) (Sk wi g tb):=by
 intro pins s σ H D I h;refine wpAny_For (thn (hi pins s σ H _ I h) fun v s1 h1=>thn h1 fun itv s2 h2=>?_) hs;obtain ⟨it,fp,tn,J,H2,e,I2,T,st2,f2,W,⟨m0,w0⟩,turn⟩:=h2;subst e
 -- what stays true of the iterator's objects through the loop
 have stat:∀ {H':Hp},(∀ b∈fp,H' b=none)->∀ b∈fp,An X pins H' b:=fun hn b hb=>⟨hn b hb,(f2 b hb).2⟩;refine codeAny_forLoop_any (fun n s'=>∃ i σ' H',Inv X pins σ' H' s'/\tn i s'.heap/\(∀ b∈fp,H' b=none)/\W i n σ' H') ?_ m0 ⟨0,σ,H2,I2,st2,fun b hb=>(f2 b hb).1,w0⟩;rintro n s3 ⟨i,σ3,H3,I3,st3,fr3,w3⟩;rcases turn i n σ3 H3 w3 with ⟨stop,qn⟩ | ⟨go,N,hN,step⟩
 ·refine j8 hp (thn (T.done X rfl rfl rfl hc i pins s3 σ3 H3 X.xe I3 (stat fr3) st3 stop) fun r s4 ⟨hr,I4⟩=>?_);subst hr;exact wpAny_execs_nil ⟨σ3,H3,I4,qn⟩
 ·refine j8 hp (thn (T.item X rfl rfl rfl hc i pins s3 σ3 H3 X.xe I3 (stat fr3) st3 go) fun r s4 ⟨u,hr,h4⟩=>?_);subst hr;refine j8 hp (thn h4 fun _ s5 hz=>?_);obtain ⟨x,H5,I5,r5,y5,st5,fr5⟩:=hz;have I5':=I5.pinned (stat fr5) (T.obj _ _ st5);refine j8 hp (thn (hg _ s5 σ3 H5 x u _ I5' r5 (step x H5 y5)) fun _ s6 ⟨σ6,H6,I6,q6⟩=>?_);refine j8 hp (thn (hb _ s6 σ6 H6 _ I6 q6) fun f s7 q7=>?_);have again:∀ {σ7:St} {H7:Hp},Inv X (pins++rV fp s5.heap) σ7 H7 s7->N σ7 H7->∃ m,m < n/\∃ i σ' H',Inv X pins σ' H' s7/\tn i s7.heap/\(∀ b∈fp,H' b=none)/\W i m σ' H':=fun {σ7 H7} I7 n7=>by
   obtain ⟨m',hm,w7⟩:=hN σ7 H7 n7;refine ⟨m',hm,i+1,σ7,H7,I7.unpinned,T.keep _ _ _ st5 fun b hb o e=>(I7.pin (b,o) (ah _ (ah _ (hX hb e)))).1,fun b hb=>?_,w7⟩;obtain ⟨o,e,d⟩:=T.obj _ _ st5 b hb;exact (I7.pin (b,o) (ah _ (ah _ (hX hb e)))).2.1
  cases f with
  | next=>obtain ⟨σ7,H7,I7,n7⟩:=q7; exact again I7 n7
  | cont=>obtain ⟨σ7,H7,I7,n7⟩:=q7; exact again I7 n7
  | brk=>obtain ⟨σ7,H7,I7,q7⟩:=q7; exact ⟨σ7,H7,I7.unpinned,q7⟩
  | ret v=>obtain ⟨x7,σ7,H7,I7,r7,q7⟩:=q7; exact ⟨x7,σ7,H7,I7.unpinned,r7,q7⟩
end
abbrev R2:=V->V->Hp->VK->Prop
def OpR (X:Cx) (f:Value->Value->Sem Value) (r:R2):Prop:=
 ∀ (pins:List (Addr×Obj)) (s:Shared) (σ:St) (H:Hp) (x y:V) (v u:Value) (Q:VK),Inv X pins σ H s->RelV x v->RelV y u->r x y H Q->
  wpAny (model X.prog X.w) X.A (f v u) (EP X pins σ Q) X.xe s
def UnR (X:Cx) (f:Value->Sem Value) (r:V->Hp->VK->Prop):Prop:=
 ∀ (pins:List (Addr×Obj)) (s:Shared) (σ:St) (H:Hp) (x:V) (v:Value) (Q:VK),Inv X pins σ H s->RelV x v->r x H Q->
  wpAny (model X.prog X.w) X.A (f v) (EP X pins σ Q) X.xe s
def dW (X:Cx) (f:Value) (r:List V->Hp->VK->Prop):Prop:=
 ∀ (pins:List (Addr×Obj)) (s:Shared) (σ:St) (H:Hp) (xs:List V) (us:List Value) (Q:VK),Inv X pins σ H s->aL xs us->r xs H Q->
  wpAny (model X.prog X.w) X.A (call f us) (EP X pins σ Q) X.xe s
def Sl (X:Cx) (r:V->Hp->(Bool->Hp->Prop)->Prop):Prop:=
 ∀ (pins:List (Addr×Obj)) (s:Shared) (σ:St) (H:Hp) (x:V) (v:Value) (Q:Bool->Hp->Prop),Inv X pins σ H s->RelV x v->r x H Q->
  wpAny (model X.prog X.w) X.A (truthy v) (TP X pins σ Q) X.xe s
def tOp (r:R2) (ta tb:TE):TE:=fun σ H Q=>ta σ H fun x H1=>tb σ H1 fun y H2=>r x y H2 Q
def tUn (r:V->Hp->VK->Prop) (ta:TE):TE:=fun σ H Q=>ta σ H fun x H1=>r x H1 Q
def rI (C:Int->Int->Prop) (g:Int->Int->V):R2:=fun x y H Q=>∃ i j,x=.int i/\y=.int j/\C i j/\Q (g i j) H
def rI0 (g:Int->Int->V):R2:=fun x y H Q=>∃ i j,x=.int i/\y=.int j/\Q (g i j) H
def rU (g:Int->V):V->Hp->VK->Prop:=fun x H Q=>∃ i,x=.int i/\Q (g i) H
section
variable {X:Cx} {a b c:Expr} {ta tb tc:TE} {pos:Pos}
theorem Nq (ha:PE X a ta) (hb:PE X b tb) {pins:List (Addr×Obj)} {s:Shared} {σ:St} {H:Hp} {R:V->V->Hp->Prop} (I:Inv X pins σ H s)
  (h:ta σ H fun x H1=>tb σ H1 fun y H2=>R x y H2) {Q:Value->Shared->Prop} {f:Value->Value->Sem Value}
  (hf:∀ v u s2 x y H2,Inv X pins σ H2 s2->RelV x v->RelV y u->R x y H2->wpAny (model X.prog X.w) X.A (f v u) Q X.xe s2):
  wpAny (model X.prog X.w) X.A (eval a X.env) (fun v s₁=>wpAny (model X.prog X.w) X.A (eval b X.env) (fun u s₂=>wpAny (model X.prog X.w) X.A (f v u) Q X.xe s₂) X.xe s₁) X.xe s:=by
 refine thn (ha pins s σ H _ I h) fun v s1 hz=>?_;obtain ⟨x,H1,I1,r1,q1⟩:=hz;refine thn (hb pins s1 σ H1 _ I1 q1) fun u s2 hz=>?_;obtain ⟨y,H2,I2,r2,q2⟩:=hz;exact hf v u s2 x y H2 I2 r1 r2 q2
theorem PU {op:Operator} {r:R2} (ho:OpR X (gm op) r) (ha:PE X a ta) (hb:PE X b tb):PE X (.BinOp a op b pos) (tOp r ta tb):=by
 intro pins s σ H Q I h;exact wpAny_BinOp (Nq ha hb I h fun v u s2 x y H2 I2 rx ry q=>ho pins s2 σ H2 x y v u Q I2 rx ry q)
theorem PY {op:UnaryOp} {r:V->Hp->VK->Prop} (ho:UnR X (unaryOp op) r) (ha:PE X a ta):PE X (.UnaryOp op a pos) (tUn r ta):=by
 intro pins s σ H Q I h;exact UnaryOp_ (thn (ha pins s σ H _ I h) fun v s1 ⟨x,H1,I1,r1,q1⟩=>ho pins s1 σ H1 x v Q I1 r1 q1)
theorem opI {f:Value->Value->Sem Value} {C:Int->Int->Prop} {g:Int->Int->Int}
  (rule:∀ (i j:Int) (t u:Tok) (s:Shared) (Q:Value->Shared->Prop) (E:Value->Shared->Prop),C i j->Q (.int (g i j) s.toks) { s with toks:=s.toks+1 }->wpAny (model X.prog X.w) X.A (f (.int i t) (.int j u)) Q E s):
  OpR X f (rI C fun i j=>.int (g i j)):=by
 intro pins s σ H x y v u Q I rx ry h;obtain ⟨i,j,rfl,rfl,hc,q⟩:=h;obtain ⟨t,rfl⟩:=rx;obtain ⟨t',rfl⟩:=ry;exact rule i j t t' s _ _ hc ⟨.int (g i j),H,I.tok _,⟨_,rfl⟩,q⟩
theorem PZ {f:Value->Value->Sem Value} {g:Int->Int->Int}
  (rule:∀ (i j:Int) (t u:Tok) (s:Shared) (Q:Value->Shared->Prop) (E:Value->Shared->Prop),Q (.int (g i j) s.toks) { s with toks:=s.toks+1 }->wpAny (model X.prog X.w) X.A (f (.int i t) (.int j u)) Q E s):
  OpR X f (rI0 fun i j=>.int (g i j)):=by
 intro pins s σ H x y v u Q I rx ry h;obtain ⟨i,j,rfl,rfl,q⟩:=h;obtain ⟨t,rfl⟩:=rx;obtain ⟨t',rfl⟩:=ry;exact rule i j t t' s _ _ ⟨.int (g i j),H,I.tok _,⟨_,rfl⟩,q⟩
theorem Nr {f:Value->Value->Sem Value} {g:Int->Int->Bool}
  (rule:∀ (i j:Int) (t u:Tok) (s:Shared) (Q:Value->Shared->Prop) (E:Value->Shared->Prop),Q (.bool (g i j)) s->wpAny (model X.prog X.w) X.A (f (.int i t) (.int j u)) Q E s):
  OpR X f (rI0 fun i j=>.bl (g i j)):=by
 intro pins s σ H x y v u Q I rx ry h;obtain ⟨i,j,rfl,rfl,q⟩:=h;obtain ⟨t,rfl⟩:=rx;obtain ⟨t',rfl⟩:=ry;exact rule i j t t' s _ _ ⟨.bl (g i j),H,I,rfl,q⟩
def Gq (i j:Int):Prop:=0 < j/\j < 1073741824
def F1 (i j:Int):Prop:=0<=j/\j<=1000000/\i.natAbs < 2 ^ 64
def Ap (i j:Int):Prop:=(-(2 ^ 64) < i/\i < 2 ^ 64)\/(-(2 ^ 64) < j/\j < 2 ^ 64)
theorem Ap.ok {i j:Int} (h:Ap i j):IntMulOk i j:=by
 rcases h with ⟨h1,h2⟩ | ⟨h1,h2⟩
 ·exact .of_left (intBits_le_64 h1 h2)
 ·exact .of_right (intBits_le_64 h1 h2)
theorem Nt:OpR X (gm .Add) (rI0 fun i j=>.int (i+j)):=PZ fun _ _ _ _ _ _ _ q=>add_int q
theorem Nu:OpR X (gm .Sub) (rI0 fun i j=>.int (i - j)):=PZ fun _ _ _ _ _ _ _ q=>sub_int q
theorem Nv:OpR X (gm .Mult) (rI Ap fun i j=>.int (i*j)):=opI fun _ _ _ _ _ _ _ hc q=>mul_int q hc.ok
theorem K':OpR X (gm .FloorDiv) (rI Gq fun i j=>.int (i / j)):=opI fun i j _ _ _ _ _ hc q=>by
 have h1:(0:Int) < j:=hc.1;have h2:j < 1073741824:=hc.2;exact floordiv_int (by omega) (by rw [Int.fdiv_eq_ediv_of_nonneg i (by omega)]; exact q) (.inl (PyProof.noPylong_small (by omega)))
theorem Nw:OpR X (gm .Mod) (rI (fun _ j=>0 < j) fun i j=>.int (i % j)):=opI fun i j _ _ _ _ _ hc q=>by
 have h1:(0:Int) < j:=hc;exact mod_int' (by omega) (by rw [Int.fmod_eq_emod_of_nonneg i (by omega)]; exact q)
theorem Nx:OpR X (gm .Pow) (rI F1 fun i j=>.int (i ^ j.toNat)):=opI fun _ _ _ _ _ _ _ hc q=>pow_int_small hc.1 hc.2.1 hc.2.2 q
theorem unI {f:Value->Sem Value} {g:Int->Int}
  (rule:∀ (i:Int) (t:Tok) (s:Shared) (Q:Value->Shared->Prop) (E:Value->Shared->Prop),Q (.int (g i) s.toks) { s with toks:=s.toks+1 }->wpAny (model X.prog X.w) X.A (f (.int i t)) Q E s):
  UnR X f (rU fun i=>.int (g i)):=by
 intro pins s σ H x v Q I rx h;obtain ⟨i,rfl,q⟩:=h;obtain ⟨t,rfl⟩:=rx;exact rule i t s _ _ ⟨.int (g i),H,I.tok _,⟨_,rfl⟩,q⟩
theorem Ny:UnR X (unaryOp .USub) (rU fun i=>.int (-i)):=unI fun _ _ _ _ _ q=>neg_int q
end
section
variable {X:Cx} {a b c:Expr} {ta tb tc:TE} {pos:Pos}
theorem yB {pins:List (Addr×Obj)} {σ:St} {H:Hp} {s:Shared} {Q:VK} {k k':Bool} (I:Inv X pins σ H s) (q:Q (.bl k) H) (e:k=k'):EP X pins σ Q (.bool k') s:=by
 subst e;exact ⟨.bl k,H,I,rfl,q⟩
theorem Q1:OpR X (dt .Lt) (rI0 fun i j=>.bl (decide (i < j))):=Nr fun _ _ _ _ _ _ _ q=>lt_int q
theorem Q2:OpR X (dt .Gt) (rI0 fun i j=>.bl (decide (j < i))):=Nr fun _ _ _ _ _ _ _ q=>gt_int q
theorem Q3:OpR X (dt .GtE) (rI0 fun i j=>.bl (decide (j<=i))):=Nr fun _ _ _ _ _ _ _ q=>ge_int q
theorem F2:OpR X (dt .Lt) (fun x y H Q=>∃ i j,x=.str i/\y=.str j/\Q (.bl (decide (i.cps.toList < j.cps.toList))) H):=by
 intro pins s σ H x y v u Q I rx ry h;obtain ⟨i,j,rfl,rfl,q⟩:=h;obtain ⟨t,rfl⟩:=rx;obtain ⟨t',rfl⟩:=ry;exact lt_str (yB I q rfl)
theorem Nz:OpR X (dt .Is) (fun x y H Q=>y=.non/\Q (.bl (decide (x=.non))) H):=by
 intro pins s σ H x y v u Q I rx ry h;obtain ⟨rfl,q⟩:=h;cases ry
 refine is_none_gen (yB I q ?_);cases x <;> first
  | (cases rx; rfl)
  | (obtain ⟨t,rfl⟩:=rx; rfl)
theorem OpR.or {f:Value->Value->Sem Value} {r r':R2} (h:OpR X f r) (h':OpR X f r'):OpR X f (fun x y H Q=>r x y H Q\/r' x y H Q):=by
 intro pins s σ H x y v u Q I rx ry q;rcases q with q | q
 ·exact h pins s σ H x y v u Q I rx ry q
 ·exact h' pins s σ H x y v u Q I rx ry q
theorem Gr (b:Expr) {op:CmpOp} (h:op≠.In:=by decide) (h2:op≠.NotIn:=by decide):behindInMarks op b=false:=by
 have e1:(op == CmpOp.In)=false:=by cases op <;> first | rfl | exact absurd rfl h
 have e2:(op == CmpOp.NotIn)=false:=by cases op <;> first | rfl | exact absurd rfl h2
 cases b <;> simp [behindInMarks,e1,e2]
theorem Ka {op:CmpOp} {r:R2} (ho:OpR X (dt op) r) (ha:PE X a ta) (hb:PE X b tb) (hm:behindInMarks op b=false):PE X (.Compare a [op] [b] pos) (tOp r ta tb):=by
 intro pins s σ H Q I h;exact wpAny_Compare1 (Nq ha hb I h fun v u s2 x y H2 I2 rx ry q=>ho pins s2 σ H2 x y v u Q I2 rx ry q) hm
def Kb (K:ag) (x:V) (H:Hp) (k:Bool):Prop:=
 match x with
 | .non=>k=false
 | .bl b=>k=b
 | .int i=>k=(i != 0)
 | .str y=>y.length<=az/\k=((y.length:Int) != 0)
 | .byt y=>y.size<=az/\k=((y.size:Int) != 0)
 | .ref p=>(∃ xs,SqL K H p xs/\k=!xs.isEmpty)\/(∃ xs,SqT K H p xs/\k=!xs.isEmpty)\/∃ kvs,H p=some (.dK kvs)/\k=!kvs.isEmpty
 | _=>False
theorem Cj {κ:Type} {kvs:List (κ×V)} {vs:List (κ×Value)} (r:KV kvs vs):(!vs.isEmpty)=!kvs.isEmpty:=by
 cases r <;> rfl
theorem rW {xs:List V} {its:List Value} (r:aL xs its):(!its.toArray.isEmpty)=!xs.isEmpty:=by
 cases r <;> simp
theorem lN:(az:Nat) < 2 ^ 63:=by rw [gh]; decide
theorem Gs:Sl X (fun x H Q=>∃ k,Kb X.K x H k/\Q k H):=by
 intro pins s σ H x v Q I rx h;obtain ⟨k,e,q⟩:=h;have hl:=lN;have hs:az=16777216:=gh;cases x with
 | non=>
  cases rx
  have e':k=false:=e;subst e';exact truthy_none ⟨H,I,q⟩
 | bl b=>
  cases rx
  have e':k=b:=e;subst e';exact wpAny_truthy_bool ⟨H,I,q⟩
 | int i=>
  obtain ⟨t,rfl⟩:=rx;have e':k=(i != 0):=e;subst e';exact PySem.P.truthy_int ⟨H,I,q⟩
 | str y=>
  obtain ⟨t,rfl⟩:=rx;obtain ⟨hy,e'⟩:y.length<=az/\k=((y.length:Int) != 0):=e;subst e';exact PySem.P.truthy_str (by omega) ⟨H,I.tok _,q⟩
 | byt y=>
  obtain ⟨t,rfl⟩:=rx;obtain ⟨hy,e'⟩:y.size<=az/\k=((y.size:Int) != 0):=e;subst e';exact PySem.W.truthy_bytes (by omega) ⟨H,I.tok _,q⟩
 | ref p=>
  cases rx
  have e':(∃ xs,SqL X.K H p xs/\k=!xs.isEmpty)\/(∃ xs,SqT X.K H p xs/\k=!xs.isEmpty)\/∃ kvs,H p=some (.dK kvs)/\k=!kvs.isEmpty:=e;rcases e' with ⟨xs,hx,e'⟩ | ⟨xs,hx,e'⟩ | ⟨kvs,hx,e'⟩
  ·subst e';obtain ⟨its,r,pl,hz⟩:=I.list hx;have hlen:=r.length;exact wpAny_truthy_list pl.isList (by simp only [ba]; omega) ⟨H,I.tok _,by rw [rW r]; exact q⟩
  ·subst e';obtain ⟨its,r,pl,hz⟩:=I.tuple hx;have hlen:=r.length;exact truthy_tuple pl (by simp only [ba]; omega) ⟨H,I.tok _,by rw [rW r]; exact q⟩
  ·subst e';obtain ⟨hz,hS,vs,r,m⟩:kvs.length<=az/\(p == jg)=false/\∃ vs,KV kvs vs/\s.heap.DictOf (bX X.prog X.w) p vs:=I.hok p _ hx;have hlen:kvs.length=vs.length:=fc r;exact wpAny_truthy_dict hS m (by omega) ⟨H,I.tok _,by rw [Cj r]; exact q⟩
 | _=>exact (show False from e).elim
theorem Gu (ha:PE X a ta) (he:∀ whole,isTrue a X.env whole=(do let v <- whole; standAt a.pos; holding [v] (truthy v))):
  PT X a (fun σ H Q=>ta σ H fun x H'=>∃ k,Kb X.K x H' k/\Q k H'):=by
 intro pins s σ H Q I h
 exact isTrue_plain (thn (ha pins s σ H _ I h) fun v s1 ⟨x,H1,I1,r1,q1⟩=>Gs pins s1 σ H1 x v Q I1 r1 q1) (he _)
theorem Ck:OpR X (gm .Add) (fun x y H Q=>∃ i j,x=.str i/\y=.str j/\i.length+j.length<=az/\Q (.str (i++j)) H):=by
 intro pins s σ H x y v u Q I rx ry h;obtain ⟨i,j,rfl,rfl,hz,q⟩:=h;obtain ⟨t,rfl⟩:=rx;obtain ⟨t',rfl⟩:=ry;exact add_str (fun t' tk=>⟨.str (i++j),H,I.tok _,⟨_,rfl⟩,q⟩) hz
theorem vals1 {x:V} {us:List Value} (r:aL [x] us):∃ u,us=[u]/\RelV x u:=by
 cases r with
 | cons r1 r2=>cases r2; exact ⟨_,rfl,r1⟩
theorem vals2 {x y:V} {us:List Value} (r:aL [x,y] us):∃ u w',us=[u,w']/\RelV x u/\RelV y w':=by
 cases r with
 | cons r1 r2=>
  cases r2 with
  | cons r3 r4=>cases r4; exact ⟨_,_,rfl,r1,r3⟩
theorem F3 (hc:X.calm=true):dW X (.builtin "min") (fun xs H Q=>∃ i j,xs=[.int i,.int j]/\Q (.int (if j < i then j else i)) H):=by
 intro pins s σ H xs us Q I r h;obtain ⟨i,j,rfl,q⟩:=h;obtain ⟨u,w',rfl,⟨t,rfl⟩,⟨t',rfl⟩⟩:=vals2 r;refine min_two_ints (I.ok.hd hc) fun h' tk k=>⟨_,H,I.kept k,?_,q⟩
 by_cases hj:j < i
 ·rw [if_pos hj,if_pos hj]; exact ⟨_,rfl⟩
 ·rw [if_neg hj,if_neg hj]; exact ⟨_,rfl⟩
def Sm (K:ag) (x:V) (H:Hp) (n:Nat):Prop:=
 match x with
 | .str y=>y.length<=az/\n=y.length
 | .byt y=>y.size<=az/\n=y.size
 | .ref p=>(∃ xs,SqL K H p xs/\n=xs.length)\/∃ xs,SqT K H p xs/\n=xs.length
 | _=>False
theorem Gv:dW X (.builtin "len") (fun xs H Q=>∃ x n,xs=[x]/\Sm X.K x H n/\Q (.int n) H):=by
 intro pins s σ H xs us Q I r h;obtain ⟨x,n,rfl,e,q⟩:=h;obtain ⟨u,rfl,rx⟩:=vals1 r;have hl:=lN;have hs:az=16777216:=gh;cases x with
 | str y=>
  obtain ⟨t,rfl⟩:=rx;obtain ⟨hy,e'⟩:y.length<=az/\n=y.length:=e;subst e';exact len_str (by omega) ⟨.int _,H,I.tok _,⟨_,rfl⟩,q⟩
 | byt y=>
  obtain ⟨t,rfl⟩:=rx;obtain ⟨hy,e'⟩:y.size<=az/\n=y.size:=e;subst e';exact PySem.W.len_bytes (by omega) ⟨.int _,H,I.tok _,⟨_,rfl⟩,q⟩
 | ref p=>
  cases rx
  have e':(∃ xs,SqL X.K H p xs/\n=xs.length)\/∃ xs,SqT X.K H p xs/\n=xs.length:=e;rcases e' with ⟨xs,hx,e'⟩ | ⟨xs,hx,e'⟩
  ·subst e';obtain ⟨its,r',pl,hz⟩:=I.list hx;have hlen:=r'.length;exact Calls.call_len_list pl.isList (by simp only [ba]; omega) ⟨.int xs.length,H,I.tok _,⟨_,by simp only [ba]; rw [hlen]⟩,q⟩
  ·subst e';obtain ⟨its,r',pl,hz⟩:=I.tuple hx;have hlen:=r'.length;exact len_tuple pl (by simp only [ba]; omega) ⟨.int xs.length,H,I.tok _,⟨_,by simp only [ba]; rw [hlen]⟩,q⟩
 | _=>exact (show False from e).elim
end
structure Cm (h:Heap) (x dx C:Addr) (mA:Str->Option Value):Prop where
 obj:h.get? x=some (jj C dx)
 ns:h.Ns1 dx mA
 ne:dx≠x
theorem F4 {h:Heap} {dx:Addr} {mA:Str->Option Value} (n:h.Ns1 dx mA):∃ od,h.get? dx=some od/\∀ name,PySem.W.lookIn name od=some (mA name):=by
 obtain ⟨o,es,ep,ho,hd,hk,_,hm⟩:=n;refine ⟨o,ho,fun name=>?_⟩;have e:=hm name;unfold nsFind findBy at e;rw [<- Array.find?_toList] at e;unfold PySem.W.lookIn;rw [hd];dsimp only;split
 ·rename_i y q;rw [q] at e;exact congrArg some e
 ·rename_i q;rw [q] at e;have a:es.toList.any (·.refKey)=false:=by
   rw [List.any_eq_false];intro y hy;obtain ⟨z,t,hkey⟩:=hk y (Array.mem_toList_iff.mp hy);simp [DictEntry.refKey,hkey]
  have a':¬ es.toList.any (·.refKey)=true:=by rw [a]; exact bx
  rw [if_neg a'];exact congrArg some e
theorem Cm.look {h:Heap} {x dx C:Addr} {mA:Str->Option Value} (I:Cm h x dx C mA):∃ od,PySem.W.InstAt h x (jj C dx) C (some od)/\∀ name,PySem.W.lookIn name od=some (mA name):=
 let ⟨od,ho,hl⟩:=F4 I.ns
 ⟨od,⟨I.obj,rfl,rfl,ho⟩,hl⟩
section
variable {prog:Program} {w:World} {A:Around} {E:Value->Shared->Prop} {s:Shared} {K:ag} {x dx C f:Addr} {mA:Str->Option Value} {name:Str} {v:Value}
theorem get_map {expr:Bool} {Q:Value->Shared->Prop} (X:K.In s.heap) (I:Cm s.heap x dx C mA) (hg:nc K C name=true) (hh:PySem.W.hasDictIn K C=true)
  (ha:d5 K (.ref C) name=some none) (hv:mA name=some v) (hv':PySem.W.handedIn v=true) (h:Q v { s with toks:=s.toks+1 }):
  wpAny (model prog w) A (getAttr (.ref x) name expr) Q E s:=by
 obtain ⟨od,J,hl⟩:=I.look;exact PySem.W.get_value X J (PySem.W.plainGet_of hg).1 (PySem.W.findObj_own hh ha rfl (by rw [hl,hv])) hv' h
theorem Gw {pl:Sem Bool} {Q:Value×List Value->Shared->Prop} (X:K.In s.heap) (I:Cm s.heap x dx C mA) (hg:nc K C name=true)
  (hf:d5 K (.ref C) name=some (some (.ref f))) (ht:nh K (.ref f)=true) (hv:mA name=none) (h:Q (.ref f,[.ref x]) s):
  wpAny (model prog w) A (getMethod (.ref x) name pl) Q E s:=by
 obtain ⟨od,J,hl⟩:=I.look;exact PySem.W.method_fn X J (PySem.W.plainGet_of hg).1 (PySem.W.plainGet_of hg).2 hf (beq_iff_eq.mp ht) (by show (PySem.W.lookIn name od).map (·.isSome)=some false; rw [hl,hv]; rfl) h
theorem Kc {ns:List Str} {Q:Unit->Shared->Prop} (X:K.In s.heap) (I:Cm s.heap x dx C mA)
  (hs:d5 K (.ref C) "__setattr__" = some (some (.builtin "object.__setattr__"))) (hp:PySem.W.plainOver K C=true) (ht:PySem.W.takerIn K C name=some none) (hh:PySem.W.hasDictIn K C=true)
  (hw:PySem.Within mA ns) (hsz:ns.length<=az)
  (h:∀ h',Cm h' x dx C (fun y=>if y=name then some v else mA y)->ju dx s.heap h'->Q () { s with heap:=h',toks:=s.toks+2 }):
  wpAny (model prog w) A (setAttr (.ref x) name v) Q E s:=by
 obtain ⟨od,J,hl⟩:=I.look;refine PySem.W.set_plain X J hs (PySem.W.osa_open (s:={ s with toks:=s.toks+1 }) (r:=none) X J hp ht fun b=>?_);obtain ⟨cd,hc,hd'⟩:=PySem.W.any_some hh;have hx:s.heap.get? x=some ⟨.ref C,some dx,.plain,#[]⟩:=I.obj;refine aa (af (aa (aa (wpAny_loadPart hx (aa (PySem.W.Looks.here (s:={ s with toks:=s.toks+1 }) (PySem.W.looks_clsIn X hc) ?_))))));rw [hd'];refine af (a:=some dx) (aa (af (aa ?_)));refine wpAny_nsSet1 (s:={ s with toks:=s.toks+1 }) I.ns fun h' hn2 hs2=>?_;obtain ⟨oD,esD,epD,hoD,hdD,hcD⟩:=hn2.count (PySem.Within.cons name v hw);refine aa (wpAny_lookBehind hoD (by rw [hdD]; exact pastItsLine_dict (ft hcD (by rw [cx]; omega))) ?_);exact af (h _ ⟨(hs2.2 _ (ko I.ne)).trans I.obj,hn2,I.ne⟩ hs2)
theorem Gx {R:Result->Shared->Prop} {vs:List Value} {kw:List (Str×Value)} (X:K.In s.heap) (hm:PySem.W.makesIn K C=true)
  (hi:d5 K (.ref C) "__init__" = some (some (.ref f))) (hf:PySem.W.typeIn K (.ref f)=some (.type "function"))
  (h:codeAny (model prog w) (A.under (.builtin "type.__call__" ⟨.ref C :: vs,kw⟩)) (.call (.ref f) ⟨.ref (s.heap.objs.size+1) :: vs,kw⟩) (PySem.W.InitBack (s.heap.objs.size+1) R)
   { s with heap:=(s.heap.push ie).push (jj C s.heap.objs.size) }):
  codeAny (model prog w) A (.call (.ref C) ⟨vs,kw⟩) R s:=by
 obtain ⟨hh,g,d,t,os⟩:=s;exact PySem.W.make_core (PySem.W.makes_of X hm) (PySem.W.looks_findIn X hi) (fun self=>PySem.W.bind_fn X self hf) (.inl rfl) h
end
def gO (f:Str) (v:V):List (Str×V)->List (Str×V)
 | []=>[(f,v)]
 | (g,x) :: r=>if g=f then (g,v) :: r else (g,x) :: gO f v r
theorem pU (f g:Str) (v:V):∀ fs:List (Str×V),(gO f v fs).lookup g=if g=f then some v else fs.lookup g
 | []=>by
  show n8 g [(f,v)]=_
  by_cases h:g=f
  ·have hb:(g == f)=true:=beq_iff_eq.mpr h;simp only [n8,hb,if_pos h]
  ·have hb:(g == f)=false:=beq_eq_false_iff_ne.mpr h;simp only [n8,hb,if_neg h]
 | (k,x) :: r=>by
  have ih:=pU f g v r;rw [show gO f v ((k,x) :: r)=(if k=f then (k,v) :: r else (k,x) :: gO f v r) from rfl]
  by_cases hk:k=f
  ·rw [if_pos hk]
   by_cases h:g=k
   ·have hb:(g == k)=true:=beq_iff_eq.mpr h;simp only [n8,hb,if_pos (h.trans hk)]
   ·have hb:(g == k)=false:=beq_eq_false_iff_ne.mpr h;simp only [n8,hb,if_neg (fun e:g=f=>h (e.trans hk.symm))]
  ·rw [if_neg hk]
   by_cases h:g=k
   ·have hb:(g == k)=true:=beq_iff_eq.mpr h;simp only [n8,hb,if_neg (fun e:g=f=>hk (h.symm.trans e))]
   ·have hb:(g == k)=false:=beq_eq_false_iff_ne.mpr h;simp only [n8,hb];exact ih
theorem oP (f:Str) (v:V):∀ fs:List (Str×V),f∈(gO f v fs).map (·.1)/\∀ g,g∈fs.map (·.1)->g∈(gO f v fs).map (·.1)
 | []=>⟨by simp [gO],fun g h=>by simp at h⟩
 | (k,x) :: r=>by
  obtain ⟨i1,i2⟩:=oP f v r;rw [show gO f v ((k,x) :: r)=(if k=f then (k,v) :: r else (k,x) :: gO f v r) from rfl]
  by_cases hk:k=f
  ·rw [if_pos hk];subst hk;exact ⟨by simp,fun g h=>by simpa using h⟩
  ·rw [if_neg hk];refine ⟨?_,fun g h=>?_⟩
   ·rw [da];exact ao _ i1
   ·rw [da] at h ⊢;rcases bw.mp h with e | e
    ·exact bw.mpr (.inl e)
    ·exact ao _ (i2 g e)
theorem pV (f:Str) (v:V):∀ fs:List (Str×V),(gO f v fs).length<=fs.length+1
 | []=>by simp [gO]
 | (k,x) :: r=>by
  have ih:=pV f v r;rw [show gO f v ((k,x) :: r)=(if k=f then (k,v) :: r else (k,x) :: gO f v r) from rfl]
  by_cases hk:k=f
  ·rw [if_pos hk,cx,cx]; omega
  ·rw [if_neg hk,cx,cx]; omega
theorem kT.some_of {v:V} {o:Option Value} (r:kT (some v) o):∃ u,o=some u/\RelV v u:=by
 cases o with
 | none=>exact (show False from r).elim
 | some u=>exact ⟨u,rfl,r⟩
theorem kT.none_of {o:Option Value} (r:kT none o):o=none:=by
 cases o with
 | none=>rfl
 | some u=>exact (show False from r).elim
theorem F5 {v:V} {u:Value} (r:RelV v u):PySem.W.handedIn u=true:=by
 cases v with
 | non=>cases (show u=di from r); rfl
 | bl b=>cases (show u=Value.bool b from r); rfl
 | int i=>obtain ⟨t,e⟩:=(show ∃ t,u=Value.int i t from r); cases e; rfl
 | str x=>obtain ⟨t,e⟩:=(show ∃ t,u=Value.str x t from r); cases e; rfl
 | byt b=>obtain ⟨t,e⟩:=(show ∃ t,u=Value.bytes b t from r); cases e; rfl
 | flt b=>obtain ⟨t,e⟩:=(show ∃ t,u=Value.float b t from r); cases e; rfl
 | ref a=>cases (show u=c0 a from r); rfl
 | ty n=>cases (show u=Value.type n from r); rfl
section
variable {P:Program} {w:World} {H H':Hp} {h h':Heap} {a C dx:Addr} {fs fs':List (Str×V)}
theorem yC (hok:HOk P w H h) (e:H a=some (.ins C dx fs)):∃ mA,Cm h a dx C mA/\(∀ f,kT (fs.lookup f) (mA f))/\PySem.Within mA (fs.map (·.1))/\fs.length<=1000/\H dx=some (.own a):=by
 obtain ⟨d,z,ne,ob,mA,n,r,q⟩:=(show cI P w H h a (.ins C dx fs) from hok a _ e)
 exact ⟨mA,⟨ob,n,ne⟩,r,q,z,d⟩
end
structure Cls (K:ag) (C:Addr):Prop where
 pg:nc K C Str.empty=true
 hd:PySem.W.hasDictIn K C=true
 po:PySem.W.plainOver K C=true
 sa:d5 K (.ref C) "__setattr__" = some (some (.builtin "object.__setattr__"))
theorem Cls.get {K:ag} {C:Addr} (c:Cls K C) (f:Str):nc K C f=true:=c.pg
def jE (K:ag) (C:Addr) (f:Str):Prop:=d5 K (.ref C) f=some none
theorem jE.taker {K:ag} {C:Addr} {f:Str} (n:jE K C f):PySem.W.takerIn K C f=some none:=by
 unfold PySem.W.takerIn;rw [show d5 K (.ref C) f=some none from n]
 rfl
structure Con (K:ag) (C:Addr) (f:Str) (v:V) (u:Value):Prop where
 at_:d5 K (.ref C) f=some (some u)
 rel:RelV v u
 get:PySem.W.specialIn K u "__get__" = some none
 cp:PySem.W.copiedNames.contains f=false
structure oQ (K:ag) (C:Addr) (m:Str) (f:Addr):Prop where
 at_:d5 K (.ref C) m=some (some (.ref f))
 fn:nh K (.ref f)=true
 kp:cw K (.ref f)=true
section
variable {X:Cx} {pins:List (Addr×Obj)} {σ:St} {H:Hp} {s:Shared} {a C dx:Addr} {fs:List (Str×V)} {f:Str} {v:V} {A:Around} {E:Value->Shared->Prop}
theorem Cn {b:Bool} {Q:Value->Shared->Prop} (I:Inv X pins σ H s) (e:H a=some (.ins C dx fs)) (c:Cls X.K C) (n:jE X.K C f) (l:fs.lookup f=some v)
  (h:∀ u s',Inv X pins σ H s'->RelV v u->Q u s'):wpAny (model X.prog X.w) A (getAttr (.ref a) f b) Q E s:=by
 obtain ⟨mA,O,r,_,_,_⟩:=yC I.hok e;obtain ⟨u,hu,ru⟩:=kT.some_of (v:=v) (o:=mA f) (by rw [<- l]; exact r f);exact get_map I.kIn O (c.get f) c.hd n hu (F5 ru) (h u _ (I.tok _) ru)
theorem rX {m:Str} {g:Addr} {pl:Sem Bool} {Q:Value×List Value->Shared->Prop} (I:Inv X pins σ H s) (e:H a=some (.ins C dx fs)) (c:Cls X.K C) (k:oQ X.K C m g) (l:fs.lookup m=none)
  (h:Q (.ref g,[.ref a]) s):wpAny (model X.prog X.w) A (getMethod (.ref a) m pl) Q E s:=by
 obtain ⟨mA,O,r,_,_,_⟩:=yC I.hok e;have hn:mA m=none:=kT.none_of (by rw [<- l]; exact r m);exact Gw I.kIn O (c.get m) k.at_ k.fn hn h
theorem Co {y:V} {u:Value} {Q:Unit->Shared->Prop} (I:Inv X pins σ H s) (e:H a=some (.ins C dx fs)) (c:Cls X.K C) (n:jE X.K C f) (hl:fs.length < 1000) (ry:RelV y u)
  (h:∀ s',Inv X pins σ (upd H a (.ins C dx (gO f y fs))) s'->Q () s'):wpAny (model X.prog X.w) A (setAttr (.ref a) f u) Q E s:=by
 obtain ⟨mA,O,r,wi,_,ho⟩:=yC I.hok e;have hz:(fs.map (·.1)).length<=az:=by rw [aj,gh]; omega
 refine Kc I.kIn O c.sa c.po n.taker c.hd wi hz fun h' O' sb=>h _ ?_;have hd:∃ o,h'.get? dx=some o:=let ⟨o,_,_,e',_⟩:=O'.ns; ⟨o,e'⟩;refine I.write (x:=a) (e:=dx) (by rw [e]; exact lh) (.inr ho) (fun b q hb z=>(sb.2 b hb).trans z) hd ?_;refine ⟨by rw [aN O.ne]; exact ho,?_,O.ne,O'.obj,_,O'.ns,fun g=>?_,fun g hg=>?_⟩
 ·have:=pV f y fs; omega
 ·show kT ((gO f y fs).lookup g) (if g=f then some u else mA g)
  rw [pU]
  by_cases q:g=f
  ·rw [if_pos q,if_pos q]; exact ry
  ·rw [if_neg q,if_neg q]; exact r g
 ·by_cases q:g=f
  ·rw [q]; exact (oP f y fs).1
  ·refine (oP f y fs).2 g (wi g fun z=>hg ?_)
   show (if g=f then some u else mA g)=none
   rw [if_neg q]; exact z
theorem Inv.made (I:Inv X pins σ H s):Inv X pins σ (upd (upd H s.heap.objs.size (.own (s.heap.objs.size+1))) (s.heap.objs.size+1) (.ins C s.heap.objs.size []))
  { s with heap:=(s.heap.push ie).push (jj C s.heap.objs.size) }:=by
 have e1:(s.heap.push ie).get? s.heap.objs.size=some ie:=ax s.heap rfl;have e2:((s.heap.push ie).push (jj C s.heap.objs.size)).get? (s.heap.objs.size+1)=some (jj C s.heap.objs.size):=by
  have:=ax (s.heap.push ie) (o:=jj C s.heap.objs.size) rfl
  rwa [gb] at this
 have e3:(s.heap.push ie).Ns s.heap.objs.size (fun _=>none):=⟨ie,#[],_,e1,rfl,(fun e he=>absurd he (by simp)),fun _=>rfl⟩;have I1:=I.laid (a:=s.heap.objs.size) (o:=.own (s.heap.objs.size+1)) (h':=s.heap.push ie) (t':=s.toks) (fun b u q=>ab _ q) (bj _) ⟨_,e1⟩;refine I1.laid (a:=s.heap.objs.size+1) (o:=.ins C s.heap.objs.size []) (t':=s.toks) (fun b u q=>ab _ q) (Nat.le_of_eq (gb _ _)) ?_;have ne:s.heap.objs.size≠s.heap.objs.size+1:=bu (k8 _);refine ⟨by rw [aN ne,aW],dv _,ne,e2,fun _=>none,(Heap.Ns1.of_empty e3).at fun o q=>ab _ q,fun _=>lh,fun y hy=>absurd rfl hy⟩
theorem Kd {prog:Program} {w:World} {env:Env} {e:Expr} {f:Str} {pos:Pos} {s:Shared} {Q:Value->Shared->Prop} (hb:jv e f env (eval e env)=eval e env)
  (h:wpAny (model prog w) A (eval e env) (fun o s₁=>wpAny (model prog w) A (getAttr o f true) Q E s₁) E s):wpAny (model prog w) A (eval (.Attribute e f pos) env) Q E s:=
 Attribute_any_ h (by rw [arm_eval_Attribute,hb])
end
def Sn (K:ag) (ta:TE) (f:Str):TE:=fun σ H Q=>ta σ H fun x H1=>∃ a C dx fs v,x=.ref a/\H1 a=some (.ins C dx fs)/\Cls K C/\jE K C f/\fs.lookup f=some v/\Q v H1
def So (K:ag) (ta tv:TE) (f:Str):TS:=fun D σ H=>tv σ H fun y H1=>ta σ H1 fun x H2=>∃ a C dx fs,x=.ref a/\H2 a=some (.ins C dx fs)/\Cls K C/\jE K C f/\fs.length < 1000/\
 D.nx σ (upd H2 a (.ins C dx (gO f y fs)))
section
variable {X:Cx} {o e value:Expr} {f:Str} {pos pos' tpos:Pos} {ta tv:TE}
theorem NA (he:PE X e ta) (hb:jv e f X.env (eval e X.env)=eval e X.env):PE X (.Attribute e f pos) (Sn X.K ta f):=by
 intro pins s σ H Q I h;refine Kd hb (thn (he pins s σ H _ I h) fun u s1 hz=>?_);obtain ⟨x,H1,I1,rx,a,C,dx,fs,v,ex,ea,c,n,l,q⟩:=hz;subst ex;obtain rfl:u=c0 a:=rx;exact Cn I1 ea c n l fun u' s2 I2 ru=>⟨v,H1,I2,ru,q⟩
theorem NB (ha:PE X o ta) (hv:PE X value tv) (hs:swapsWith value (some (.Attribute o f pos')) pos.line X.env=pure false):PS X (.Assign [.Attribute o f pos'] value pos) (So X.K ta tv f):=by
 intro pins s σ H D I h;refine plainObj_wpAny_Assign_Attribute (thn (hv pins s σ H _ I h) fun u s1 ⟨y,H1,I1,ry,q⟩=>thn (ha pins s1 σ H1 _ I1 q) fun ov s2 hz=>?_) hs;obtain ⟨x,H2,I2,rx,a,C,dx,fs,ex,ea,c,n,l,q2⟩:=hz;subst ex;obtain rfl:ov=c0 a:=rx;exact Co I2 ea c n l ry fun s3 I3=>⟨σ,_,I3,q2⟩
end
section
variable {X:Cx} {pins:List (Addr×Obj)} {σ:St} {H:Hp} {s:Shared} {A:Around} {E:Value->Shared->Prop} {Q:Value->Shared->Prop} {c:Value} {b:Bool}
inductive rY (K:ag) (H:Hp):V->Value->Prop where
 | non:rY K H .non (.type "NoneType")
 | bl (x:Bool):rY K H (.bl x) (.type "bool")
 | int (i:Int):rY K H (.int i) (.type "int")
 | str (x:Str):rY K H (.str x) (.type "str")
 | flt (x:UInt64):rY K H (.flt x) (.type "float")
 | lst {a:Addr} {xs:List V} (e:H a=some (.lst xs)):rY K H (.ref a) (.type "list")
 | frz {a:Addr} {o:Obj} {xs:List V} (e:H a=some (.frz o (.lst xs))):rY K H (.ref a) (.type "list")
 | tup {a:Addr} {xs:List V} (e:H a=some (.tup xs)):rY K H (.ref a) (.type "tuple")
 | dK {a:Addr} {kvs:List (Key×V)} (e:H a=some (.dK kvs)):rY K H (.ref a) (.type "dict")
 | dT {a:Addr} {kvs:List (List Key×V)} (e:H a=some (.dT kvs)):rY K H (.ref a) (.type "dict")
 | ins {a C dx:Addr} {fs:List (Str×V)} (e:H a=some (.ins C dx fs)) (cl:Cls K C) (ha:d5 K (.ref C) "__class__" = some (some (.builtin "object.__class__")))
   (hn:PySem.W.specialIn K (.builtin "object.__class__") "__get__" = some (some (.builtin "getset_descriptor.__get__"))) (htk:PySem.W.takesIn K (.builtin "object.__class__")=some true)
   (hm:PySem.W.mroIn K C (.type "object")=some true):rY K H (.ref a) (.ref C)
end
structure dS (k:Nat) (A:Around):Prop where
 hd:A.handled=none
 dp:A.depth+3*k+5 < recursionLimit
 un:A.units+16*k+200 < cLine
theorem dS.mono {j k:Nat} {A:Around} (r:dS k A) (h:j<=k):dS j A:=⟨r.hd,by have:=r.dp; omega,by have:=r.un; omega⟩
theorem dS.deeper {k:Nat} {A:Around} (r:dS (k+1) A) (env:Env):dS k (A.deeper env):=
 ⟨r.hd,by have:=r.dp; show A.depth+1+3*k+5 < _; omega,by have:=r.un; show A.units+3+16*k+200 < _; omega⟩
theorem dS.in1 {k:Nat} {A:Around} (r:dS (k+1) A):dS k A.in1:=
 ⟨r.hd,by have:=r.dp; show A.depth+3*k+5 < _; omega,by have:=r.un; show A.units+1+16*k+200 < _; omega⟩
theorem Cp {A:Around} {C:Addr} {us:List Value} {kw:List (Str×Value)}:(A.under (.builtin "type.__call__" ⟨.ref C :: us,kw⟩)).depth=A.depth+1:=by
 first | rfl | simp [Around.under,Code.weight,Code.isCreation,Code.isGuard,Code.isCaller,Code.frames,Code.isFrame,guardIds]
theorem Cq {A:Around} {C:Addr} {us:List Value} {kw:List (Str×Value)}:(A.under (.builtin "type.__call__" ⟨.ref C :: us,kw⟩)).units=A.units+1:=by
 first | rfl | simp [Around.under,Code.cUnits,Code.frames,Code.isFrame]
theorem dS.make {k:Nat} {A:Around} (r:dS (k+1) A) (C:Addr) (us:List Value) (kw:List (Str×Value)):dS k (A.under (.builtin "type.__call__" ⟨.ref C :: us,kw⟩)):=
 ⟨r.hd,by have:=r.dp; rw [Cp]; omega,by have:=r.un; rw [Cq]; omega⟩
theorem dS.depth {k:Nat} {A:Around} (r:dS k A):A.depth < recursionLimit:=by have:=r.dp; omega
theorem dS.units {k:Nat} {A:Around} (r:dS k A):A.units+64 < cLine:=by have:=r.un; omega
def NC:TA:=fun _ H Q=>Q [] H
def MG (ta:TE) (tr:TA):TA:=fun σ H Q=>ta σ H fun x H1=>tr σ H1 fun xs H2=>Q (x :: xs) H2
section
variable {X:Cx} {e:Expr} {es:List Expr} {te:TE} {t:TA} {pos:Pos}
theorem Gy:PA X [] NC:=fun _ _ _ _ H Q I h=>Calls.spliced_nil ⟨[],H,I,.nil,h⟩
theorem DW (ha:PE X e te) (hr:PA X es t) (hs:b9 (e :: es) X.env=(false,eval e X.env) :: b9 es X.env:=by rfl):PA X (e :: es) (MG te t):=by
 intro pos pins s σ H Q I h;rw [hs]
 show wpAny _ _ (spliced ((false,eval e X.env) :: backTo pos (b9 es X.env))) _ _ s
 refine Calls.spliced_cons (thn (ha pins s σ H _ I h) fun u s1 hz=>?_);obtain ⟨x,H1,I1,r1,q1⟩:=hz;exact thn (hr pos pins s1 σ H1 _ I1 q1) fun us s2 ⟨xs,H2,I2,r2,q2⟩=>⟨x :: xs,H2,I2,.cons r1 r2,q2⟩
def Sq (t:TA):TE:=fun σ H Q=>t σ H fun xs H1=>xs.length<=az/\∀ p,H1 p=none->Q (.ref p) (upd H1 p (.tup xs))
def Sr (t:TA):TE:=fun σ H Q=>t σ H fun xs H1=>xs.length<=az/\∀ p,H1 p=none->Q (.ref p) (upd H1 p (.lst xs))
theorem ND {x1} (h:PA X es t):PE X (.Tuple es x1 pos) (Sq t):=by
 intro pins s σ H Q I hq;refine wpAny_Tuple_spliced (thn (h pos pins s σ H _ I hq) fun us s1 ⟨xs,H1,I1,r,z,q⟩=>⟨by rw [<- r.length]; exact z,?_⟩);have hf:H1 s1.heap.objs.size=none:=I1.hok.fresh (bj _);refine ⟨.ref s1.heap.objs.size,upd H1 s1.heap.objs.size (.tup xs),I1.laid (t':=s1.toks) (fun b u e=>ab _ e) (bj _) ?_,rfl,q _ hf⟩;exact ⟨z,us,r,⟨_,ax _ rfl,rfl,⟨_,rfl⟩,rfl⟩⟩
theorem NF (h:PA X es t):PE X (.List es pos) (Sr t):=by
 intro pins s σ H Q I hq;refine wpAny_List_spliced (thn (h pos pins s σ H _ I hq) fun us s1 ⟨xs,H1,I1,r,z,q⟩=>⟨by rw [<- r.length]; exact z,?_⟩);have hf:H1 s1.heap.objs.size=none:=I1.hok.fresh (bj _);refine ⟨.ref s1.heap.objs.size,upd H1 s1.heap.objs.size (.lst xs),I1.laid (t':=s1.toks) (fun b u e=>ab _ e) (bj _) ?_,rfl,q _ hf⟩;exact ⟨z,us,0,r,ax _ rfl⟩
end
abbrev Sp:=List V->Hp->VK->XK->Prop
abbrev CXT:=List Env->Hp->Shared->XK->Value->Shared->Prop
structure uW (P:Program) (w:World) (K:ag) (mg:Str->Option Value) (base:Heap) (A:Around) (outer:List Env) (s:Shared) (H:Hp):Prop where
 frames:A.frames=some outer
 mod:Mod K mg base
 bs:∀ b o,base.get? b=some o->s.heap.get? b=some o/\H b=none
 bsz:base.objs.size<=s.heap.objs.size
 funs:s.heap.FunFrames base outer
 frf:∀ b∈frs outer,H b=none
 hok:HOk P w H s.heap
 bare:AllBare s.gens
def CE (outer:List Env) (P:Program) (w:World) (H:Hp) (s:Shared) (Q:VK) (u:Value) (s':Shared):Prop:=
 ∃ v H',s'.os=s.os/\AllBare s'.gens/\Un (frs outer) [] H H' s.heap s'.heap/\HOk P w H' s'.heap/\RelV v u/\Q v H'
def CR (CX:CXT) (outer:List Env) (P:Program) (w:World) (H:Hp) (s:Shared) (Q:VK) (E:XK) (r:Result) (s':Shared):Prop:=
 match r with
 | .ok (.ret u)=>CE outer P w H s Q u s'
 | .ok _=>False
 | .error e=>CX outer H s E e s'
structure aT (P:Program) (w:World) (K:ag) (mg:Str->Option Value) (base:Heap) (CX:CXT) (k:Nat) (f:Addr) (fd:dq) (ps:List Str) (sp:Sp):Prop where
 len:∀ vs H Q E,sp vs H Q E->vs.length=ps.length
 run:∀ (A:Around) (outer:List Env) (s:Shared) (H:Hp) (args:Args) (us:List Value) (vs:List V) (Q:VK) (E:XK),dS k A->uW P w K mg base A outer s H->BindsTo s fd args (ps.zip us)->aL vs us->sp vs H Q E->
  codeAny (model P w) A (.call (.ref f) args) (CR CX outer P w H s Q E) s
theorem aT.imp {P:Program} {w:World} {K:ag} {mg:Str->Option Value} {base:Heap} {CX:CXT} {k:Nat} {f:Addr} {fd:dq} {ps:List Str} {sp sp':Sp} (F:aT P w K mg base CX k f fd ps sp)
  (h:∀ vs H Q E,sp' vs H Q E->sp vs H Q E):aT P w K mg base CX k f fd ps sp':=
 ⟨fun vs H Q E q=>F.len vs H Q E (h _ _ _ _ q),fun A outer s H args us vs Q E hr he hb hv hs=>F.run A outer s H args us vs Q E hr he hb hv (h _ _ _ _ hs)⟩
theorem uW.make {P:Program} {w:World} {K:ag} {mg:Str->Option Value} {base:Heap} {A:Around} {outer:List Env} {s:Shared} {H:Hp} (e:uW P w K mg base A outer s H) (C:Addr) (us:List Value) (kw:List (Str×Value)):
  uW P w K mg base (A.under (.builtin "type.__call__" ⟨.ref C :: us,kw⟩)) outer s H:=⟨by first | exact e.frames | (simpa [Around.under,Code.envs,Code.isFrame,pushEnvs] using e.frames),e.mod,e.bs,e.bsz,e.funs,e.frf,e.hok,e.bare⟩
theorem uW.in1 {P:Program} {w:World} {K:ag} {mg:Str->Option Value} {base:Heap} {A:Around} {outer:List Env} {s:Shared} {H:Hp} (e:uW P w K mg base A outer s H):
  uW P w K mg base A.in1 outer s H:=⟨e.frames,e.mod,e.bs,e.bsz,e.funs,e.frf,e.hok,e.bare⟩
section
variable {X:Cx} {pins:List (Addr×Obj)} {σ:St} {H:Hp} {s s':Shared}
theorem Inv.env0 (I:Inv X pins σ H s):uW X.prog X.w X.K X.mg X.base X.A X.stack s H:=
 ⟨I.ok.frames,I.ok.mod,I.bs,ft I.ok.bsz I.sz,I.stack,I.stkFree,I.hok,I.bare⟩
theorem Inv.after {Q:VK} {u:Value} (I:Inv X pins σ H s) (h:CE X.stack X.prog X.w H s Q u s'):EP X pins σ Q u s':=by
 obtain ⟨v,H',os,bare,un,hok,r,q⟩:=h;obtain ⟨hh,g,d,t,os'⟩:=s';obtain rfl:os'=s.os:=os;exact ⟨v,H',I.call (h':=hh) (g':=g) (d':=d) (t':=t) (ch:=[]) un hok bare (fun b z=>absurd z (by simp)),r,q⟩
end
def MJ (sp:Sp) (dvs:List V) (E:XK) (t:TA):TE:=fun σ H Q=>t σ H fun vs H1=>sp (vs++dvs) H1 Q E
def Q4 (C:Addr) (sp:Sp) (dvs:List V) (E:XK) (t:TA):TE:=fun σ H Q=>t σ H fun vs H1=>∀ x dx,H1 x=none->H1 dx=none->dx≠x->
 sp (.ref x :: (vs++dvs)) (upd (upd H1 dx (.own x)) x (.ins C dx [])) (fun v H2=>v=.non/\Q (.ref x) H2) E
def Binds (K:ag) (fd:dq) (ps:List Str) (ds:List Value):Prop:=
 ∀ (s:Shared) (us:List Value),K.In s.heap->(us++ds).length=ps.length->BindsTo s fd ⟨us,[]⟩ (ps.zip (us++ds))
theorem Binds.all {K:ag} {fd:dq} {ps:List Str} (h:∀ us:List Value,us.length=ps.length->bindArgs fd ⟨us,[]⟩=pure (ps.zip us)):Binds K fd ps []:=fun s us _ hl=>by
 rw [dk] at hl ⊢;exact .of_eq (h us hl)
def rZ (CX:CXT) (X:Cx) (E:XK):Prop:=∀ (pins:List (Addr×Obj)) (σ:St) (H:Hp) (s:Shared) (e:Value) (s':Shared),Inv X pins σ H s->CX X.stack H s E e s'->X.xe e s'
section
variable {X:Cx} {CX:CXT} {k:Nat} {f C:Addr} {fd:dq} {ps:List Str} {sp:Sp} {dvs:List V} {ds:List Value} {E:XK} {x m:Str} {p pos apos:Pos} {e o:Expr} {es:List Expr} {ta:TE} {t:TA}
theorem Cr {pins:List (Addr×Obj)} {σ:St} {H:Hp} {s:Shared} {Q:VK} {us:List Value} {vs:List V} (F:aT X.prog X.w X.K X.mg X.base CX k f fd ps sp) (hr:dS k X.A) (hb:Binds X.K fd ps ds) (hd:aL dvs ds) (hx:rZ CX X E)
  (I:Inv X pins σ H s) (r:aL vs us) (h:sp (vs++dvs) H Q E):wpAny (model X.prog X.w) X.A (call (.ref f) us) (EP X pins σ Q) X.xe s:=by
 have r2:aL (vs++dvs) (us++ds):=r.append hd;have hl:(us++ds).length=ps.length:=by rw [<- r2.length]; exact F.len _ _ _ _ h
 refine wpAny_call (codeAny_mono (F.run X.A X.stack s H ⟨us,[]⟩ (us++ds) (vs++dvs) Q E hr I.env0 (hb s us I.kIn hl) r2 h) fun r s' hq=>?_);cases r with
 | error e=>exact hx pins σ H s e s' I hq
 | ok fl=>
  cases fl with
  | ret u=>exact I.after hq
  | next=>exact iw hq
  | brk=>exact iw hq
  | cont=>exact iw hq
theorem Ke (F:aT X.prog X.w X.K X.mg X.base CX k f fd ps sp) (hr:dS k X.A) (hg:Gl X x) (hm:X.mg x=some (.ref f)) (hk:cw X.K (.ref f)=true) (hb:Binds X.K fd ps ds) (hd:aL dvs ds) (hx:rZ CX X E)
  (ha:PA X (e :: es) t) (hdb:(x == ("__debug__" : Str))=false:=by decide) (he:b9 (e :: es) X.env=(false,eval e X.env) :: b9 es X.env:=by rfl) (hpl:(backTo pos (b9 es X.env)).any (·.1)=false:=by rfl):
  PE X (.Call (.Name x p) (e :: es) [] pos) (MJ sp dvs E t):=by
 intro pins s σ H Q I h;refine l0 (xZ I hg hm ?_ hdb);refine PySem.W.callWith_K (h₀:=X.base) I.ok.mod.kin hk (thn (ha pos pins s σ H _ I h) fun us s1 ⟨vs,H1,I1,r,q⟩=>⟨I1.kIn,?_⟩) he hpl;exact Cr F hr hb hd hx I1 r q
structure Mk (K:ag) (C f:Addr):Prop where
 makes:PySem.W.makesIn K C=true
 init:d5 K (.ref C) "__init__" = some (some (.ref f))
 fn:nh K (.ref f)=true
 kp:cw K (.ref C)=true
theorem Gz {pins:List (Addr×Obj)} {σ:St} {H:Hp} {s:Shared} {Q:VK} {us:List Value} {vs:List V} (M:Mk X.K C f) (F:aT X.prog X.w X.K X.mg X.base CX k f fd ps sp) (hr:dS (k+1) X.A) (hb:Binds X.K fd ps ds) (hd:aL dvs ds)
  (hx:rZ CX X E) (I:Inv X pins σ H s) (r:aL vs us)
  (h:∀ x dx,H x=none->H dx=none->dx≠x->sp (.ref x :: (vs++dvs)) (upd (upd H dx (.own x)) x (.ins C dx [])) (fun v H2=>v=.non/\Q (.ref x) H2) E):
  wpAny (model X.prog X.w) X.A (call (.ref C) us) (EP X pins σ Q) X.xe s:=by
 have hq:=h (s.heap.objs.size+1) s.heap.objs.size (I.hok.fresh (Nat.le_succ _)) (I.hok.fresh (bj _)) (bu (k8 _));have I2:=Inv.made (C:=C) I;have r2:aL (V.ref (s.heap.objs.size+1) :: (vs++dvs)) (c0 (s.heap.objs.size+1) :: (us++ds)):=.cons rfl (r.append hd);have hl:(c0 (s.heap.objs.size+1) :: us++ds).length=ps.length:=by
  have e:=r2.length;rw [F.len _ _ _ _ hq] at e;exact e.symm
 refine wpAny_call (Gx (f:=f) I.kIn M.makes M.init (beq_iff_eq.mp M.fn) (codeAny_mono (F.run _ X.stack _ _ ⟨c0 (s.heap.objs.size+1) :: us,[]⟩ (c0 (s.heap.objs.size+1) :: (us++ds)) _ _ E (hr.make C us [])
  (I2.env0.make C us []) (hb _ (c0 (s.heap.objs.size+1) :: us) I2.kIn hl) r2 hq) fun r s' hq'=>?_))
 cases r with
 | error e=>exact hx pins σ _ _ e s' I2 hq'
 | ok fl=>
  cases fl with
  | ret u=>
   obtain ⟨v,H',I3,rv,ev,q3⟩:=I2.after hq';subst ev;exact ⟨rv,⟨V.ref (s.heap.objs.size+1),H',I3,rfl,q3⟩⟩
  | next=>exact iw hq'
  | brk=>exact iw hq'
  | cont=>exact iw hq'
theorem GA (M:Mk X.K C f) (F:aT X.prog X.w X.K X.mg X.base CX k f fd ps sp) (hr:dS (k+1) X.A) (hg:Gl X x) (hm:X.mg x=some (.ref C)) (hb:Binds X.K fd ps ds) (hd:aL dvs ds) (hx:rZ CX X E)
  (hdb:(x == ("__debug__" : Str))=false:=by decide):PE X (.Call (.Name x p) [] [] pos) (Q4 C sp dvs E NC):=by
 intro pins s σ H Q I h;refine l0 (xZ I hg hm ?_ hdb);exact PySem.W.callWith_K0 I.kIn M.kp (Gz (us:=[]) M F hr hb hd hx I .nil h)
end
section
variable {X:Cx} {CX:CXT} {k:Nat} {f C:Addr} {fd:dq} {ps ks:List Str} {sp:Sp} {E:XK} {x m:Str} {p pos apos kpos:Pos} {e o:Expr} {es:List Expr} {kws:List Keyword} {te ta:TE} {t tk:TA} {nm:Option Str}
structure Ss (K:ag) (fd:dq) (ps ks:List Str) (g:List Value->List Value->List Value) (gV:List V->List V->List V):Prop where
 to:∀ (s:Shared) (us ws:List Value),K.In s.heap->(g us ws).length=ps.length->BindsTo s fd ⟨us,ks.zip ws⟩ (ps.zip (g us ws))
 rel:∀ {vs:List V} {us:List Value} {zs:List V} {ws:List Value},aL vs us->aL zs ws->aL (gV vs zs) (g us ws)
variable {g:List Value->List Value->List Value} {gV:List V->List V->List V}
end
structure bB (N P:List Str) (sc:Scope):Prop where
 kind:sc.kind=.function
 co:sc.isCoroutine=false
 gen:sc.isGenerator=false
 nd:N.Nodup
 pre:N.take P.length=P
 par:∀ x∈P,sc.names.lookup x=some .local\/sc.names.lookup x=some .cell
 nofree:∀ y∈sc.names,y.2≠.free
theorem vX {kindOf:Str->Option l6} {x:Str}:∀ {binds:List (Str×Value)} {m:Str->Option Value},(∀ v,(x,v)∉binds)->bindL kindOf binds m x=m x
 | [],_,_=>rfl
 | (n,v) :: r,m,h=>by
  unfold bindL;rw [vX fun w hw=>h w (ao _ hw)];split
  ·have:x≠n:=by rintro rfl; exact h v bg
   simp [this]
  ·rfl
theorem vY {kindOf:Str->Option l6} {x:Str}:∀ {binds:List (Str×Value)} {m:Str->Option Value},(∀ v,(x,v)∉binds)->bindC kindOf binds m x=m x
 | [],_,_=>rfl
 | (n,v) :: r,m,h=>by
  unfold bindC;rw [vY fun w hw=>h w (ao _ hw)];split
  ·rfl
  ·have:x≠n:=by rintro rfl; exact h v bg
   simp [this]
theorem vZ {kindOf:Str->Option l6} {x:Str} {v:Value}:∀ {P:List Str} {vs:List Value} {i:Nat} {m:Str->Option Value},P.Nodup->P[i]?=some x->vs[i]?=some v->kindOf x=some .local->
  bindL kindOf (P.zip vs) m x=some v
 | [],_,_,_,_,h,_,_=>by simp at h
 | _ :: _,[],_,_,_,_,h,_=>by simp at h
 | p :: P,w :: vs,0,m,nd,h1,h2,hk=>by
  simp at h1 h2; subst h1; subst h2
  show bindL kindOf ((p,w) :: P.zip vs) m p=_
  unfold bindL;rw [vX fun v hv=>(i4.mp nd).1 (List.of_mem_zip hv).1,if_pos hk];simp
 | p :: P,w :: vs,i+1,m,nd,h1,h2,hk=>by
  show bindL kindOf ((p,w) :: P.zip vs) m x=_
  unfold bindL;exact vZ (i:=i) (i4.mp nd).2 (by simpa using h1) (by simpa using h2) hk
theorem wA {kindOf:Str->Option l6} {x:Str} {v:Value}:∀ {P:List Str} {vs:List Value} {i:Nat} {m:Str->Option Value},P.Nodup->P[i]?=some x->vs[i]?=some v->kindOf x≠some .local->
  bindC kindOf (P.zip vs) m x=some v
 | [],_,_,_,_,h,_,_=>by simp at h
 | _ :: _,[],_,_,_,_,h,_=>by simp at h
 | p :: P,w :: vs,0,m,nd,h1,h2,hk=>by
  simp at h1 h2; subst h1; subst h2
  show bindC kindOf ((p,w) :: P.zip vs) m p=_
  unfold bindC;rw [vY fun v hv=>(i4.mp nd).1 (List.of_mem_zip hv).1,if_neg hk];simp
 | p :: P,w :: vs,i+1,m,nd,h1,h2,hk=>by
  show bindC kindOf ((p,w) :: P.zip vs) m x=_
  unfold bindC;exact wA (i:=i) (i4.mp nd).2 (by simpa using h1) (by simpa using h2) hk
def start (N:List Str) (vs:List V):St:=vs.map some++lj (N.length - vs.length) none
def Cs (CX:CXT) (P:Program) (w:World) (K:ag) (mg:Str->Option Value) (base:Heap) (N:List Str) (qual:Str) (scope:Scope) (f:Addr) (cd:Value) (A:Around) (outer:List Env) (s:Shared) (H:Hp) (E:XK):Cx where
 prog:=P
 w:=w
 K:=K
 mg:=mg
 base:=base
 A:=A.deeper (envOfC qual scope s.heap.objs.size f cd)
 N:=N
 s₀:=s
 H₀:=H
 env:=envOfC qual scope s.heap.objs.size f cd
 outer:=outer
 stack:=envOfC qual scope s.heap.objs.size f cd :: outer
 ex:=[]
 calm:=true
 fn:=fun _=>true
 pn:=[]
 xe:=fun e s'=>wpAny (model P w) (A.deeper (envOfC qual scope s.heap.objs.size f cd)) (leaving (envOfC qual scope s.heap.objs.size f cd) e) (fun _ s''=>CX outer H s E e s'') (fun e' s''=>CX outer H s E e' s'') s'
theorem Aq {sc:Scope} {n:Nat} {x:Str} (h:sc.names.lookup x=some .cell):∃ c,(fj n sc.names []).lookup x=some c:=by
 have q:=PySem.W.cellsFrom_some sc.names n [] (.inl h);exact j9.mp q
theorem F6 {CX:CXT} {P:Program} {w:World} {K:ag} {mg:Str->Option Value} {base:Heap} {N ps:List Str} {qual:Str} {scope:Scope} {f:Addr} {cd:Value} {A:Around} {outer:List Env} {s s1:Shared} {H:Hp} {E:XK} {us:List Value} {vs:List V}
  (S:bB N ps scope) (hd:A.handled=none) (e0:uW P w K mg base A outer s H) (hl:vs.length=ps.length) (r:aL vs us)
  (x:InCallC s s.heap.objs.size (bindL (envOfC qual scope s.heap.objs.size f cd).kindOf (ps.zip us) fun _=>none) (fj (s.heap.objs.size+1) scope.names []) (bindC (envOfC qual scope s.heap.objs.size f cd).kindOf (ps.zip us) fun _=>none) s1):
  Inv (Cs CX P w K mg base N qual scope f cd A outer s H E) [] (start N vs) H s1:=by
 have hpl:ps.length<=N.length:=by have:=congrArg List.length S.pre; rw [bq] at this; omega
 obtain ⟨h1,tk,rfl,hk⟩:=x.done;have noA:∀ b:Addr,b∉(Cs CX P w K mg base N qual scope f cd A outer s H E).ex:=fun b z=>absurd (show b∈([]:List Addr) from z) (by simp)
 refine ⟨⟨e0.mod,S.kind,rfl,rfl,bj _,fun y z c h1 h2=>?_,fun y hy=>?_,fun y c _ h=>?_,fun _=>hd,Around.frames_deeper e0.frames,.inr ⟨rfl,rfl⟩,fun b z=>absurd z (noA b),e0.bs,e0.bsz,fun b _ _=>noA b,fun b z=>absurd z (noA b),e0.funs,e0.frf⟩,
  rfl,e0.bare,Un.kept hk,⟨_,x.toInCall.ns,fun i y v h1 h2 h3=>?_⟩,fun y c h=>⟨_,x.cell y c h⟩,e0.hok.fresh (bj _),fun y c h=>?_,fun p hp=>absurd (show p∈([]:List (Addr×Obj)) from hp) (by simp),e0.hok.kept hk,?_⟩
 ·exact name_of_addr x.apart (kr h1) (kr h2)
 ·have hy:scope.names.lookup y=some .cell\/scope.names.lookup y=some .free:=hy;rcases hy with hy | hy
  ·exact Aq hy
  ·exact absurd rfl (S.nofree _ (kr hy))
 ·exact mf (x.above y c (kr h))
 ·have hi:i < vs.length:=by
   unfold start at h2
   by_cases hi:i < vs.length
   ·exact hi
   ·rw [aq (by simpa using hi)] at h2
    rw [List.getElem?_replicate] at h2;split at h2 <;> cases h2
  have ha:vs[i]?=some v:=by
   unfold start at h2;rw [bp (by simpa using hi),bf] at h2
   cases e:vs[i]? with
   | none=>rw [e] at h2; cases h2
   | some a=>rw [e] at h2; cases h2; rfl
  obtain ⟨u,hu,rv⟩:=r.get ha;have hp:ps[i]?=some y:=by
   rw [<- S.pre,List.getElem?_take_of_lt (by omega)]; exact h1
  have ndP:ps.Nodup:=by rw [<- S.pre]; exact S.nd.sublist (List.take_sublist _ _)
  refine ⟨u,rv,?_⟩;rcases S.par y (b7 hp) with k | k
  ·exact .inl ⟨k,vZ ndP hp hu k⟩
  ·obtain ⟨c,e⟩:=Aq (n:=s.heap.objs.size+1) k;refine .inr ⟨.inl k,c,e,?_⟩;have q:=x.cell y c e;rw [wA ndP hp hu (by show scope.names.lookup y≠_; rw [k]; decide)] at q;exact q
 ·exact e0.hok.fresh (mf (x.above y c (kr h)))
 ·unfold start
  show _=N.length
  rw [bh,aj,List.length_replicate];omega
theorem Q5 {CX:CXT} {P:Program} {w:World} {K:ag} {mg:Str->Option Value} {base:Heap} {k:Nat} {f:Addr} {name qual:Str} {params:Arguments} {body:List Stmt} {scope:Scope} {dV kV doc pm cdv ct oc:Value} {an od:Option Addr}
  {osl:Array (Option Value)} {N ps:List Str} {sp:Sp} (lk:K.lookup f=some ⟨oc,od,.func (c9 name qual params body scope dV kV doc pm an cdv ct),osl⟩) (hcd:dg K cdv qual=true) (S:bB N ps scope)
  (len:∀ vs H Q E,sp vs H Q E->vs.length=ps.length)
  (hbody:∀ (A:Around) (outer:List Env) (s:Shared) (H:Hp) (vs:List V) (Q:VK) (E:XK),dS k (A.deeper (envOfC qual scope s.heap.objs.size f cdv))->sp vs H Q E->
   ∃ t,PSs (Cs CX P w K mg base N qual scope f cdv A outer s H E) body t/\t { nx:=fun _ H'=>Q .non H',rt:=Q } (start N vs) H):
  aT P w K mg base CX (k+1) f (c9 name qual params body scope dV kV doc pm an cdv ct) ps sp:=by
 refine ⟨len,fun A outer s H args us vs Q E hr e0 hb r hsp=>?_⟩;have hl:=len _ _ _ _ hsp;have KX:K.In s.heap:=e0.mod.kin.keeps fun b o e=>(e0.bs b o e).1;have lim:s.heap.NoLimit:=e0.mod.nolimit.keeps fun b o e=>(e0.bs b o e).1;have hkind:∀ y∈ps.zip us,scope.names.lookup y.1=some .local\/(scope.names.lookup y.1=some .cell/\((fj (s.heap.objs.size+1) scope.names []).lookup y.1).isSome=true):=fun ⟨n,v⟩ hy=>by
  rcases S.par n (List.of_mem_zip hy).1 with q | q
  ·exact .inl q
  ·exact .inr ⟨q,PySem.W.cellsFrom_some _ _ _ (.inl q)⟩
 refine codeAny_call_function hr.depth (KX _ _ lk) rfl S.co S.gen rfl (PySem.W.codeRec_of KX hcd) (hb _ _ _ _ ?_);refine wpAny_newFunctionEnv_cells S.kind hkind fun env he s1 x=>?_;subst he;refine ⟨lim.keeps x.toInCall.keep,codeAny_func ?_⟩;obtain ⟨t,ht,hq⟩:=hbody A outer s H vs Q E (hr.deeper _) hsp;have I:Inv (Cs CX P w K mg base N qual scope f cdv A outer s H E) [] (start N vs) H s1:=F6 S hr.hd e0 hl r x;refine ja (ht [] s1 (start N vs) H _ I hq) (fun fl s' hs=>?_) fun e s' hs=>hs;have fin:∀ {σ':St} {H':Hp} {v:V} {u:Value},Inv (Cs CX P w K mg base N qual scope f cdv A outer s H E) [] σ' H' s'->RelV v u->Q v H'->CE outer P w H s Q u s':=
  fun {σ' H' v u} J rv q=>⟨v,H',J.os,J.bare,J.base,J.hok,rv,q⟩
 cases fl with
 | ret u=>
  obtain ⟨v,σ',H',J,rv,q⟩:=hs;exact fin J rv q
 | next=>
  obtain ⟨σ',H',J,q⟩:=hs;exact fin (v:=V.non) (u:=di) J rfl q
 | brk=>
  obtain ⟨_,_,_,q⟩:=hs;exact iw q
 | cont=>
  obtain ⟨_,_,_,q⟩:=hs;exact iw q
section
variable {X:Cx} {x:Str} {p pos:Pos} {e:Expr} {es:List Expr} {t:TA} {id T:String} {r:List V->Hp->VK->Prop}
def tCB (r:List V->Hp->VK->Prop) (t:TA):TE:=fun σ H Q=>t σ H fun vs H1=>r vs H1 Q
theorem GB (hc:dW X (.builtin id) r) (hg:Gl X x) (hm:X.mg x=none) (hv:md x=some (.builtin id)) (ha:PA X (e :: es) t) (hn:x≠"__name__" := by decide) (hdb:(x == ("__debug__" : Str))=false:=by decide)
  (he:b9 (e :: es) X.env=(false,eval e X.env) :: b9 es X.env:=by rfl) (hpl:(backTo pos (b9 es X.env)).any (·.1)=false:=by rfl):PE X (.Call (.Name x p) (e :: es) [] pos) (tCB r t):=by
 intro pins s σ H Q I h;refine l0 (oO I hg hm hv ?_ hn hdb);exact PyProof.Rows.callWith_builtin1 (thn (ha pos pins s σ H _ I h) fun us s1 ⟨vs,H1,I1,r1,q1⟩=>hc pins s1 σ H1 vs us Q I1 r1 q1) he hpl
theorem F7 (hc:dW X (.type T) r) (hg:Gl X x) (hm:X.mg x=none) (hv:md x=some (.type T)) (ha:PA X (e :: es) t) (hn:x≠"__name__" := by decide) (hdb:(x == ("__debug__" : Str))=false:=by decide)
  (he:b9 (e :: es) X.env=(false,eval e X.env) :: b9 es X.env:=by rfl) (hpl:(backTo pos (b9 es X.env)).any (·.1)=false:=by rfl):PE X (.Call (.Name x p) (e :: es) [] pos) (tCB r t):=by
 intro pins s σ H Q I h;refine l0 (oO I hg hm hv ?_ hn hdb);exact jk (thn (ha pos pins s σ H _ I h) fun us s1 ⟨vs,H1,I1,r1,q1⟩=>hc pins s1 σ H1 vs us Q I1 r1 q1) he hpl
end
end L2
namespace HT
open PySem PyProof.Rows
section
variable {prog:Program} {w:World} {A:Around} {E:Value->Shared->Prop} {s:Shared}
theorem cat_tup {t b:Addr} {vs ws:List Value} {Q:Value->Shared->Prop} (ht:IsTup s.heap t vs.toArray) (hb:IsTup s.heap b ws.toArray) (hv:vs≠[])
  (h1:ws=[]->Q (.ref t) s) (h2:ws≠[]->Q (.ref s.heap.objs.size) { s with heap:=s.heap.push { cls:=.type "tuple",data:=.seq (vs++ws).toArray } })
  (hsz:vs.length+ws.length<=az):wpAny (model prog w) A (gm .Add (.ref t) (.ref b)) Q E s:=by
 obtain ⟨⟨cls,dd,data,sl⟩,ho,hc,n,hd⟩:=id ht;obtain ⟨⟨cls2,dd2,data2,sl2⟩,ho2,hc2,n2,hd2⟩:=id hb;simp only at hc hd hc2 hd2;subst hc hd hc2 hd2;have e:vs.toArray++ws.toArray=(vs++ws).toArray:=by simp
 by_cases hw:ws=[]
 ·exact concat_meets ⟨_,ho,rfl⟩ ⟨_,ho2,rfl⟩ noFill_tuple_add seq_tuple_add PySem.F.slot_tuple_add PySem.F.entry_tuple_add (PySem.F.args_tuple_add_2 _ _)
   (tuple_addW1 t b vs.toArray ws.toArray n n2 dd dd2 sl sl2 (by simpa using hv) (by simp [hw])) ⟨ho,ho2,h1 hw⟩
 ·refine concat_meets ⟨_,ho,rfl⟩ ⟨_,ho2,rfl⟩ noFill_tuple_add seq_tuple_add PySem.F.slot_tuple_add PySem.F.entry_tuple_add (PySem.F.args_tuple_add_2 _ _)
   (tuple_addW2 t b vs.toArray ws.toArray n n2 dd dd2 sl sl2 (by simpa using hv) (by simpa using hw) (by rw [ba,ba]; exact hsz)) ⟨ho,ho2,?_⟩
  rw [e];exact h2 hw
def sIx (n d:Nat):Option Int->Nat
 | none=>d
 | some v=>if v < 0 then (v+(n:Int)).toNat else min v.toNat n
theorem NG (n d:Nat) (hd:d<=n) (o:Option Int):sIx n d o<=n:=by
 cases o with
 | none=>exact hd
 | some v=>
  show (if v < 0 then (v+(n:Int)).toNat else min v.toNat n)<=n
  by_cases hv:v < 0
  ·rw [if_pos hv]; omega
  ·rw [if_neg hv]; exact Nat.min_le_right _ _
theorem DX (v:Int) (n d:Nat):(if v < 0 then max (v+(n:Int)) 0 else min v (n:Int))=((sIx n d (some v):Nat):Int):=by
 show (if v < 0 then max (v+(n:Int)) 0 else min v (n:Int))=(((if v < 0 then (v+(n:Int)).toNat else min v.toNat n):Nat):Int)
 by_cases hv:v < 0
 ·simp only [if_pos hv]; omega
 ·simp only [if_neg hv]; omega
theorem Ct (lo hi:Option Int) (n:Nat):m8 lo hi 1 (n:Int)=(((sIx n 0 lo:Nat):Int),((sIx n n hi:Nat):Int)):=by
 have h1:¬ ((1:Int) < 0):=by omega
 unfold m8;simp only [h1,if_false];refine Prod.ext ?_ ?_
 ·cases lo with
  | none=>rfl
  | some v=>exact DX v n 0
 ·cases hi with
  | none=>rfl
  | some v=>exact DX v n n
theorem Cu (i j:Nat):j3 (i:Int) (j:Int) 1=j - i:=by
 unfold j3;have h1:(1:Int) > 0:=by omega
 simp only [h1,if_true,Int.ediv_one];split <;> omega
theorem sA {v:Value} {o:Option Int} {Q:Option Int->Shared->Prop} (p:IsPart v o) (h:Q o s):wpAny (model prog w) A (Builtin.Slice.slicePartIndex v) Q E s:=by
 cases p with
 | none=>exact slicePart_none h
 | int i t=>exact slicePart_int h
theorem sliceApplied_gen {sl:Addr} {vl vu:Value} {lo hi:Option Int} {n:Nat} {Q:Int×Int×Nat->Shared->Prop} (hs:s.heap.IsSliceOf sl vl vu .none) (pl:IsPart vl lo) (pu:IsPart vu hi)
  (h:Q (((sIx n 0 lo:Nat):Int),1,sIx n n hi - sIx n 0 lo) s):wpAny (model prog w) A (Builtin.Slice.sliceApplied (.ref sl) (pure (n:Int))) Q E s:=by
 obtain ⟨os,hos,hcs,hds⟩:=id hs;unfold Builtin.Slice.sliceApplied Builtin.Slice.sliceFields;refine aa (aa (gw hos hds (x:=vl) rfl (aa (gw hos hds (x:=vu) rfl (aa (gw hos hds (x:=.none) rfl (af ?_)))))));refine aa (slicePart_none ?_)
 show wpAny _ _ (if ((1:Int) == 0)=true then _ else _) _ _ s
 rw [if_neg (by decide)];refine aa (sA pl (aa (sA pu (aa (af ?_)))))
 show wpAny _ _ (match m8 lo hi 1 (n:Int) with | (lo,hi)=>pure (lo,(1:Int),j3 lo hi 1)) _ _ s
 rw [Ct lo hi n]
 show wpAny _ _ (pure (((sIx n 0 lo:Nat):Int),(1:Int),j3 ((sIx n 0 lo:Nat):Int) ((sIx n n hi:Nat):Int) 1)) _ _ s
 rw [Cu];exact af h
theorem GC (xs:Array Value) (i k:Nat):((d6 k).filterMap fun (m:Nat)=>xs[((i:Int)+(m:Int)*1).toNat]?).toArray=((xs.toList.drop i).take k).toArray:=by
 have e:(fun (m:Nat)=>xs[((i:Int)+(m:Int)*1).toNat]?)=fun m=>xs[i+m]?:=by
  funext m
  have:((i:Int)+(m:Int)*1).toNat=i+m:=by omega
  rw [this]
 rw [e];have:=pick_run xs i k;rw [List.filterMap_map] at this;have e2:((fun x=>xs[x]?) ∘ fun x=>i+x)=fun m=>xs[i+m]?:=rfl;rw [e2] at this;rw [this]
theorem getItem_tuple_cut {t sl:Addr} {items:Array Value} {vl vu:Value} {lo hi:Option Int} {Q:Value->Shared->Prop} (ht:IsTup s.heap t items) (hs:s.heap.IsSliceOf sl vl vu .none) (pl:IsPart vl lo) (pu:IsPart vu hi)
  (hw:¬ (sIx items.size 0 lo=0/\sIx items.size items.size hi=items.size))
  (h:Q (.ref s.heap.objs.size) { s with heap:=s.heap.push { cls:=.type "tuple",data:=.seq ((items.toList.drop (sIx items.size 0 lo)).take (sIx items.size items.size hi - sIx items.size 0 lo)).toArray } })
  (hsz:items.size<=az):wpAny (model prog w) A (getItem (.ref t) (.ref sl)) Q E s:=by
 have htake:sizeOk (.seq ((items.toList.drop (sIx items.size 0 lo)).take (sIx items.size items.size hi - sIx items.size 0 lo)).toArray):=by
  show ((items.toList.drop (sIx items.size 0 lo)).take (sIx items.size items.size hi - sIx items.size 0 lo)).toArray.size<=az
  rw [ba,bq,bz,gv];omega
 have hj:sIx items.size items.size hi<=items.size:=NG _ _ (bj _) hi;obtain ⟨os,hos,hcs,hds⟩:=id hs;have hTs:s.TypeIs (.ref sl) "slice" := ⟨os,hos,hcs⟩;unfold getItem
 try with_reducible refine il ?_
 first | refine aa (af ?_) | skip
 refine aa (wpAny_sequenceKey ht.typeIs (by decide) ?_);refine aa (ip (name:=jw "__getitem__") ht.typeIs fg
  (jd fg ht.typeIs entry_tuple_getitem ?_ (args_tuple_getitem _ _)))
 show wpAny _ _ (m7 (.ref t) >>= _) _ _ s
 refine aa (tupleItemsOf_ ht ?_);refine aa (mn hTs ?_);rw [if_pos (by decide)];refine aa (sliceApplied_gen hs pl pu ?_);have hno:¬ ((((sIx items.size 0 lo:Nat):Int) == 0 && (1:Int) == 1 && (sIx items.size items.size hi - sIx items.size 0 lo) == items.size)=true):=by
  intro q;rw [dw,dw] at q;have q1:((sIx items.size 0 lo:Nat):Int)=0:=eq_of_beq q.1.1;have q2:sIx items.size items.size hi - sIx items.size 0 lo=items.size:=eq_of_beq q.2;exact hw ⟨by omega,by omega⟩
 show wpAny _ _ (if (((sIx items.size 0 lo:Nat):Int) == 0 && (1:Int) == 1 && (sIx items.size items.size hi - sIx items.size 0 lo) == items.size)=true then _ else _) _ _ s
 rw [if_neg hno,GC]
 first
  | exact aa (m:=ka _) (fm (af ⟨_,rfl,af h⟩) htake)
  | exact aa (m:=ka _) (fm (aa (af (af ⟨_,rfl,af h⟩))) htake)
  | exact aa (aa (m:=ka _) (fm (af (af ⟨_,rfl,af h⟩)) htake))
  | exact aa (aa (m:=ka _) (fm (af ⟨_,rfl,af h⟩) htake))
end
end HT
namespace L2
open PySem PySem.Spec PyProof.Rows
abbrev TO:=St->Hp->(Option Int->Hp->Prop)->Prop
def PO (X:Cx) (e:Option Expr) (t:TO):Prop:=
 ∀ (pins:List (Addr×Obj)) (s:Shared) (σ:St) (H:Hp) (Q:Option Int->Hp->Prop),Inv X pins σ H s->t σ H Q->
  wpAny (model X.prog X.w) X.A (evalPart e X.env) (fun u s'=>∃ o H',Inv X pins σ H' s'/\IsPart u o/\Q o H') X.xe s
def Kf:TO:=fun _ H Q=>Q none H
theorem intsAre_of {ns:List Int}:∀ {us:List Value},aL (ns.map V.int) us->IntsAre us ns:=by
 induction ns with
 | nil=>intro us r; rw [List.map_nil] at r; cases r; exact .nil
 | cons n ns ih=>
  intro us r;rw [da] at r;cases r with
  | cons r1 r2=>
   obtain ⟨t,e⟩:=r1;subst e;exact .cons n t (ih r2)
section
variable {X:Cx} {e:Expr} {te:TE} {lo hi:Option Expr} {tl th:TO} {pos p2:Pos}
theorem Kg:PO X none Kf:=by
 intro pins s σ H Q I h;rw [evalPart_none];exact af ⟨none,H,I,.none,h⟩
def SlR (X:Cx) (r:V->Option Int->Option Int->Hp->VK->Prop):Prop:=
 ∀ (pins:List (Addr×Obj)) (s:Shared) (σ:St) (H:Hp) (x:V) (v vl vu:Value) (lo hi:Option Int) (sl:Addr) (Q:VK),Inv X pins σ H s->RelV x v->s.heap.IsSliceOf sl vl vu .none->IsPart vl lo->IsPart vu hi->r x lo hi H Q->
  ∃ T id,typeLookup (.type T) "__getitem__" = pure (some (.builtin id))/\s.TypeIs v T/\wpAny (model X.prog X.w) X.A (getItem v (.ref sl)) (EP X pins σ Q) X.xe s
theorem SlR.or {r r':V->Option Int->Option Int->Hp->VK->Prop} (h:SlR X r) (h':SlR X r'):SlR X (fun x lo hi H Q=>r x lo hi H Q\/r' x lo hi H Q):=by
 intro pins s σ H x v vl vu lo hi sl Q I rx hs pl pu q;rcases q with q | q
 ·exact h pins s σ H x v vl vu lo hi sl Q I rx hs pl pu q
 ·exact h' pins s σ H x v vl vu lo hi sl Q I rx hs pl pu q
def tSl (r:V->Option Int->Option Int->Hp->VK->Prop) (te:TE) (tl th:TO):TE:=fun σ H Q=>te σ H fun x H1=>tl σ H1 fun l H2=>th σ H2 fun u H3=>r x l u H3 Q
theorem GD {r:V->Option Int->Option Int->Hp->VK->Prop} (hr:SlR X r) (he:PE X e te) (hl:PO X lo tl) (hu:PO X hi th):PE X (.Subscript e (.Slice lo hi none p2) pos) (tSl r te tl th):=by
 intro pins s σ H Q I h;refine Subscript_ (thn (he pins s σ H _ I h) fun v s1 hz=>?_);obtain ⟨x,H1,I1,r1,q1⟩:=hz;refine wpAny_Slice (thn (hl pins s1 σ H1 _ I1 q1) fun vl s2 ⟨l,H2,I2,pl,q2⟩=>thn (hu pins s2 σ H2 _ I2 q2) fun vu s3 hz=>?_);obtain ⟨u,H3,I3,pu,q3⟩:=hz;rw [evalPart_none];refine af ?_;have I4:Inv X pins σ H3 { s3 with heap:=s3.heap.push { cls:=.type "slice",data:=.fields #[vl,vu,.none] } }:=I3.kept (t':=s3.toks) fun b ob q=>ab _ q;obtain ⟨T,id,hT,ht,hg⟩:=hr pins { s3 with heap:=s3.heap.push { cls:=.type "slice",data:=.fields #[vl,vu,.none] } } σ H3 x v vl vu l u s3.heap.objs.size Q I4 r1 (Heap.IsSliceOf.new ..) pl pu q3
 show wpAny (model X.prog X.w) X.A (subscriptTail e (.Slice lo hi none p2) v (.ref s3.heap.objs.size)) (EP X pins σ Q) X.xe { s3 with heap:=s3.heap.push { cls:=.type "slice",data:=.fields #[vl,vu,.none] } }
 exact tail_any (ops:=[.ref s3.heap.objs.size,v]) ht hT hg (by with_unfolding_all rfl)
def Ar (xs:List V) (lo hi:Option Int):List V:=(xs.drop (HT.sIx xs.length 0 lo)).take (HT.sIx xs.length xs.length hi - HT.sIx xs.length 0 lo)
theorem pX (xs:List V) (lo hi:Option Int):(Ar xs lo hi).length<=xs.length:=by
 unfold Ar;rw [bq,bz];omega
def Q6 (K:ag):V->Option Int->Option Int->Hp->VK->Prop:=fun x lo hi H Q=>∃ a xs,x=.ref a/\SqT K H a xs/\
 ¬ (HT.sIx xs.length 0 lo=0/\HT.sIx xs.length xs.length hi=xs.length)/\∀ p,H p=none->Q (.ref p) (upd H p (.tup (Ar xs lo hi)))
theorem NH:SlR X (Q6 X.K):=by
 intro pins s σ H x v vl vu lo hi sl Q I rx hs pl pu h;obtain ⟨a,xs,rfl,hx,hw,q⟩:=h;cases rx
 obtain ⟨its,r,ht,hz⟩:=I.tuple hx;have hlen:its.toArray.size=xs.length:=by rw [ba]; exact r.length.symm
 refine ⟨"tuple",_,fg.lookup,ht.typeIs,?_⟩;refine HT.getItem_tuple_cut ht hs pl pu (by rw [hlen]; exact hw) ?_ (by rw [hlen]; exact hz);rw [hlen];refine ⟨.ref s.heap.objs.size,_,I.laid (t':=s.toks) (o:=.tup (Ar xs lo hi)) (fun b ob q=>ab _ q) (bj _) ?_,rfl,q _ (I.hok.fresh (bj _))⟩;exact ⟨ft (pX xs lo hi) hz,_,(r.drop (HT.sIx xs.length 0 lo)).take (HT.sIx xs.length xs.length hi - HT.sIx xs.length 0 lo),qS.new _ _⟩
def MK (K:ag):R2:=fun x y H Q=>∃ a b xs ys,x=.ref a/\y=.ref b/\SqT K H a xs/\SqT K H b ys/\xs≠[]/\xs.length+ys.length<=az/\
 (ys=[]->Q (.ref a) H)/\(ys≠[]->∀ p,H p=none->Q (.ref p) (upd H p (.tup (xs++ys))))
theorem aL.nil_iff {xs:List V} {us:List Value} (r:aL xs us):us=[] ↔ xs=[]:=by
 cases r with
 | nil=>simp
 | cons _ _=>simp
theorem Kh:OpR X (gm .Add) (MK X.K):=by
 intro pins s σ H x y v u Q I rx ry h;obtain ⟨a,b,xs,ys,rfl,rfl,ha,hb,hx,hz,q1,q2⟩:=h;cases rx
 cases ry
 obtain ⟨its,r1,p1,_⟩:=I.tuple ha;obtain ⟨its2,r2,p2,_⟩:=I.tuple hb;refine HT.cat_tup p1 p2 (fun z=>hx (r1.nil_iff.mp z)) (fun z=>⟨.ref a,H,I,rfl,q1 (r2.nil_iff.mp z)⟩) (fun z=>?_) (by rw [<- r1.length,<- r2.length]; exact hz);refine ⟨.ref s.heap.objs.size,_,I.laid (t':=s.toks) (o:=.tup (xs++ys)) (fun b ob q=>ab _ q) (bj _) ?_,rfl,q2 (fun w=>z (r2.nil_iff.mpr w)) _ (I.hok.fresh (bj _))⟩;exact ⟨by rw [bh]; exact hz,_,r1.append r2,qS.new _ _⟩
end
def ixN (n:Nat) (i:Int):Option Nat:=if 0<=i then (if i < n then some i.toNat else none) else if -(n:Int)<=i then some (i+n).toNat else none
def atI {α:Type} (xs:List α) (i:Int):Option α:=(ixN xs.length i).bind fun j=>xs[j]?
theorem DY {n:Nat} {i:Int} {j:Nat} (h:ixN n i=some j):seqIndex? i n=some j/\j < n/\-(n:Int)<=i/\i < n:=by
 unfold ixN at h
 by_cases h0:0<=i
 ·rw [if_pos h0] at h
  by_cases h1:i < n
  ·rw [if_pos h1] at h;have e:i.toNat=j:=b8 h;exact ⟨by rw [seqIndex_of h0 h1,e],by omega,by omega,h1⟩
  ·rw [if_neg h1] at h; cases h
 ·rw [if_neg h0] at h
  by_cases h1:-(n:Int)<=i
  ·rw [if_pos h1] at h;have e:(i+n).toNat=j:=b8 h;exact ⟨by rw [seqIndex_neg (by omega) h1,e],by omega,h1,by omega⟩
  ·rw [if_neg h1] at h; cases h
theorem yD {α:Type} {xs:List α} {i:Int} {v:α} (h:atI xs i=some v):∃ j,seqIndex? i xs.length=some j/\xs[j]?=some v/\j < xs.length/\-(xs.length:Int)<=i/\i < xs.length:=by
 unfold atI at h;cases e:ixN xs.length i with
 | none=>rw [e] at h; cases h
 | some j=>
  rw [e] at h;obtain ⟨h1,h2,h3,h4⟩:=DY e;exact ⟨j,h1,h,h2,h3,h4⟩
def DZ (b:Expr):Prop:=∀ o i,subscripted b false o i=operate [o,i] (getItem o i)
def IxR (X:Cx) (r:R2):Prop:=
 ∀ (value slice:Expr) (pins:List (Addr×Obj)) (s:Shared) (σ:St) (H:Hp) (x y:V) (v u:Value) (Q:VK),Inv X pins σ H s->RelV x v->RelV y u->r x y H Q->
  subscripted slice false v u=operate [v,u] (getItem v u)->wpAny (model X.prog X.w) X.A (subscriptTail value slice v u) (EP X pins σ Q) X.xe s
def MtR (X:Cx) (id:String) (r:V->List V->Hp->VK->Prop):Prop:=
 ∀ (pins:List (Addr×Obj)) (s:Shared) (σ:St) (H:Hp) (x:V) (xs:List V) (v:Value) (us:List Value) (Q:VK),Inv X pins σ H s->RelV x v->aL xs us->r x xs H Q->
  wpAny (model X.prog X.w) X.A (call (.builtin id) (v :: us)) (EP X pins σ Q) X.xe s
section
variable {X:Cx} {a b:Expr} {ta tb:TE} {pos:Pos}
theorem IxR.or {r r':R2} (h:IxR X r) (h':IxR X r'):IxR X (fun x y H Q=>r x y H Q\/r' x y H Q):=by
 intro value slice pins s σ H x y v u Q I rx ry q hs;rcases q with q | q
 ·exact h value slice pins s σ H x y v u Q I rx ry q hs
 ·exact h' value slice pins s σ H x y v u Q I rx ry q hs
theorem Q7 {r:R2} (hr:IxR X r) (ha:PE X a ta) (hb:PE X b tb) (hs:DZ b):PE X (.Subscript a b pos) (tOp r ta tb):=by
 intro pins s σ H Q I h;exact Subscript_ (Nq ha hb I h fun v u s2 x y H2 I2 rx ry q=>hr a b pins s2 σ H2 x y v u Q I2 rx ry q (hs _ _))
def Su (K:ag):R2:=fun x y H Q=>∃ p xs i v,x=.ref p/\y=.int i/\SqL K H p xs/\atI xs i=some v/\Q v H
def Sv (K:ag):R2:=fun x y H Q=>∃ p xs i v,x=.ref p/\y=.int i/\SqT K H p xs/\atI xs i=some v/\Q v H
def Sw:R2:=fun x y H Q=>∃ z i c,x=.str z/\y=.int i/\z.length<=az/\atI z.cps.toList i=some c/\Q (.str ⟨#[c]⟩) H
theorem Ki:IxR X (Su X.K):=by
 intro value slice pins s σ H x y v u Q I rx ry h hs;obtain ⟨p,xs,i,z,rfl,rfl,hq,he,q⟩:=h;cases rx
 obtain ⟨t,rfl⟩:=ry;obtain ⟨its,r,pl,hz⟩:=I.list hq;obtain ⟨j,h1,h2,h3,h4,h5⟩:=yD he;obtain ⟨w,ew,rw'⟩:=r.get h2;have hl:=r.length;have hn:=lN;have fin:EP X pins σ Q w s:=⟨z,H,I,rw',q⟩
 by_cases h0:0<=i
 ·have hj:i.toNat=j:=by
   rw [seqIndex_of h0 h5] at h1;exact b8 h1
  exact item_listR pl.isList h0 (by omega) (by rw [hj]; simpa using ew) fin hs
 ·have hj:(i+(its.toArray.size:Int)).toNat=j:=by
   rw [seqIndex_neg (by omega) h4] at h1;rw [ba,<- hl];exact b8 h1
  exact subscriptTail_builtinR (x:=w) pl.isList.typeIs slot_list_getitem.lookup
   (wpAny_getItem_list_neg (Q:=fun r s'=>r=w/\EP X pins σ Q r s') pl.isList (by omega) (by rw [ba] <;> omega) (by omega) (by rw [hj]; simpa using ew) ⟨rfl,fin⟩) hs
theorem NI:IxR X (Sv X.K):=by
 intro value slice pins s σ H x y v u Q I rx ry h hs;obtain ⟨p,xs,i,z,rfl,rfl,hq,he,q⟩:=h;cases rx
 obtain ⟨t,rfl⟩:=ry;obtain ⟨its,r,pl,hz⟩:=I.tuple hq;obtain ⟨j,h1,h2,h3,h4,h5⟩:=yD he;obtain ⟨w,ew,rw'⟩:=r.get h2;have hl:=r.length;have hn:=lN;have fin:EP X pins σ Q w s:=⟨z,H,I,rw',q⟩;exact subscriptTail_builtinR (x:=w) pl.typeIs slot_tuple_getitem.lookup
  (getItem_tuple (j:=j) (Q:=fun r s'=>r=w/\EP X pins σ Q r s') pl (by omega) (by omega) (by rw [ba,<- hl]; exact h1) (by simpa using ew) ⟨rfl,fin⟩) hs
theorem NJ:IxR X Sw:=by
 intro value slice pins s σ H x y v u Q I rx ry h hs;obtain ⟨z,i,c,rfl,rfl,hz,he,q⟩:=h;obtain ⟨t,rfl⟩:=rx;obtain ⟨t',rfl⟩:=ry;obtain ⟨j,h1,h2,h3,h4,h5⟩:=yD he;have hl:z.cps.toList.length=z.length:=by simp [Str.length]
 rw [hl] at h1 h4 h5;have hn:=lN;exact tail_any (typeIs_str s z t) slot_str_getitem.lookup (getItem_str (c:=c) (by
  have e1:decide (i < -(2 ^ 63:Int))=false:=decide_eq_false (by omega);have e2:decide (i >= 2 ^ 63)=false:=decide_eq_false (by omega);rw [e1,e2,Bool.or_false]) (by rw [h1]; simpa using h2) ⟨.str ⟨#[c]⟩,H,I.tok _,⟨_,rfl⟩,q⟩) hs
theorem Cv (its:List Value) (n j:Nat) (u:Value):fb (·.setIfInBounds j u) { cls:=.type "list",data:=.seq its.toArray n }={ cls:=.type "list",data:=.seq (its.set j u).toArray n }:=by
 simp [fb]
theorem Inv.lst {pins:List (Addr×Obj)} {σ:St} {H:Hp} {s:Shared} {p:Addr} {xs:List V} (I:Inv X pins σ H s) (h:H p=some (.lst xs)):
  ∃ (its:List Value) (n:Nat),aL xs its/\s.heap.get? p=some { cls:=.type "list",data:=.seq its.toArray n }/\xs.length<=az:=by
 obtain ⟨z,its,n,r,e⟩:=I.hok p _ h;exact ⟨its,n,r,e,z⟩
theorem Inv.lstUpd {pins:List (Addr×Obj)} {σ:St} {H:Hp} {s:Shared} {p:Addr} {xs ys:List V} {its its':List Value} {n n':Nat} {f:Obj->Obj} (I:Inv X pins σ H s) (h:H p=some (.lst xs))
  (ho:s.heap.get? p=some { cls:=.type "list",data:=.seq its.toArray n }) (hf:f { cls:=.type "list",data:=.seq its.toArray n }={ cls:=.type "list",data:=.seq its'.toArray n' }) (r:aL ys its') (hz:ys.length<=az) (t:Nat):
  Inv X pins σ (upd H p (.lst ys)) { s with heap:=s.heap.update p f,toks:=t }:=by
 have e:(s.heap.update p f).get? p=some { cls:=.type "list",data:=.seq its'.toArray n' }:=by
  rw [ig f ho (by rw [hf] <;> rfl),hf]
 refine I.write (x:=p) (e:=p) (by rw [h]; trivial) (.inl rfl) (fun b u hb q=>(jo _ _ (ko hb)).trans q) ⟨_,e⟩ ?_;exact ⟨hz,its',n',r,e⟩
def Q8:V->V->V->Hp->(Hp->Prop)->Prop:=fun o i v H Q=>∃ p xs k j,o=.ref p/\i=.int k/\H p=some (.lst xs)/\ixN xs.length k=some j/\Q (upd H p (.lst (xs.set j v)))
theorem set_list:Si X Q8:=by
 intro pins s σ H o i v ov iv u Q I ro ri rv h;obtain ⟨p,xs,k,j,rfl,rfl,hp,hj,q⟩:=h;cases ro
 obtain ⟨t,rfl⟩:=ri;obtain ⟨its,n,r,ho,hz⟩:=I.lst hp;obtain ⟨h1,h2,h3,h4⟩:=DY hj;have hl:=r.length;have hn:=lN;have I':Inv X pins σ (upd H p (.lst (xs.set j v))) { s with heap:=s.heap.update p (fb (·.setIfInBounds j u)) }:=
  I.lstUpd hp ho (Cv its n j u) (r.set rv j) (by rw [nk]; exact hz) s.toks
 by_cases h0:0<=k
 ·have hk:k.toNat=j:=by
   rw [seqIndex_of h0 h4] at h1;exact b8 h1
  exact PySem.W.ki_setAt ho h0 (by omega) (by rw [ba,<- hl]; exact h4) (by rw [hk]; exact ⟨_,I',q⟩)
 ·have hk:(k+(its.toArray.size:Int)).toNat=j:=by
   rw [seqIndex_neg (by omega) h3] at h1;rw [ba,<- hl];exact b8 h1
  exact PySem.W.ki_setBack ho (by omega) (by rw [ba,<- hl]; exact h3) (by omega) (by rw [hk]; exact ⟨_,I',q⟩)
theorem yE (lo hi:Option Int) (n:Nat):(sliceBounds lo hi none n).1=((HT.sIx n 0 lo:Nat):Int)/\(sliceBounds lo hi none n).2.1=((HT.sIx n n hi:Nat):Int)/\(sliceBounds lo hi none n).2.2=1:=by
 refine ⟨?_,?_,rfl⟩
 ·cases lo with
  | none=>simp [sliceBounds,HT.sIx]
  | some i=>
   simp only [sliceBounds,HT.sIx,Option.getD_none,show (1:Int) > 0 by decide,if_true]
   by_cases h:i < 0
   ·simp only [h,if_true] <;> omega
   ·simp only [h,if_false] <;> omega
 ·cases hi with
  | none=>simp [sliceBounds,HT.sIx]
  | some i=>
   simp only [sliceBounds,HT.sIx,Option.getD_none,show (1:Int) > 0 by decide,if_true]
   by_cases h:i < 0
   ·simp only [h,if_true] <;> omega
   ·simp only [h,if_false] <;> omega
theorem uX (its:List Value) (lo hi:Option Int):slicePick its.toArray lo hi none=((its.drop (HT.sIx its.length 0 lo)).take (HT.sIx its.length its.length hi - HT.sIx its.length 0 lo)).toArray:=by
 obtain ⟨h1,h2,h3⟩:=yE lo hi its.toArray.size;unfold slicePick;rw [h1,h2,h3];simp only [sliceRange_one,pick_run,ba] <;> rfl
def Q9 (K:ag):V->Option Int->Option Int->Hp->VK->Prop:=fun x lo hi H Q=>∃ a xs,x=.ref a/\SqL K H a xs/\∀ p,H p=none->Q (.ref p) (upd H p (.lst (Ar xs lo hi)))
theorem Kj:SlR X (Q9 X.K):=by
 intro pins s σ H x v vl vu lo hi sl Q I rx hs pl pu h;obtain ⟨a,xs,rfl,hx,q⟩:=h;cases rx
 obtain ⟨its,r,ht,hz⟩:=I.list hx;have hlen:=r.length;refine ⟨"list",_,slot_list_getitem.lookup,ht.isList.typeIs,?_⟩;refine wpAny_getItem_list_slice ht.isList hs pl pu .none (by simp) ?_ (by rw [ba] <;> omega);rw [uX,<- hlen];refine ⟨.ref s.heap.objs.size,_,I.laid (t':=s.toks) (o:=.lst (Ar xs lo hi)) (fun b ob q=>ab _ q) (bj _) ?_,rfl,q _ (I.hok.fresh (bj _))⟩;exact ⟨ft (pX xs lo hi) hz,_,0,(r.drop (HT.sIx xs.length 0 lo)).take (HT.sIx xs.length xs.length hi - HT.sIx xs.length 0 lo),ax _ rfl⟩
def pY:V->Bool
 | .non=>true
 | .bl _=>true
 | .int _=>true
 | .str _=>true
 | _=>false
def eqV:V->V->Bool
 | .non,.non=>true
 | .bl a,.bl b=>a == b
 | .bl a,.int b=>(if a then 1 else 0) == b
 | .int a,.bl b=>a == (if b then 1 else 0)
 | .int a,.int b=>a == b
 | .str a,.str b=>a == b
 | _,_=>false
theorem NK {A:Around} {s:Shared} {y x:V} {u v:Value} (ry:RelV y u) (rx:RelV x v) (fy:pY y=true) (fx:pY x=true):SeqAt.EqAt A s u v (eqV y x):=by
 cases y with
 | non=>
  cases ry
  cases x with
  | non=>cases rx; exact SeqAt.EqAt.same _
  | bl b=>cases rx; exact SeqAt.EqAt.none_bool b
  | int b=>obtain ⟨t,rfl⟩:=rx; exact SeqAt.EqAt.none_int b t
  | str b=>obtain ⟨t,rfl⟩:=rx; exact SeqAt.EqAt.none_str b t
  | _=>exact absurd (show false=true from fx) bx
 | bl a=>
  cases ry
  cases x with
  | non=>cases rx; exact SeqAt.EqAt.bool_none a
  | bl b=>cases rx; exact SeqAt.EqAt.bool_bool a b
  | int b=>obtain ⟨t,rfl⟩:=rx; exact SeqAt.EqAt.bool_int a b t
  | str b=>obtain ⟨t,rfl⟩:=rx; exact SeqAt.EqAt.bool_str a b t
  | _=>exact absurd (show false=true from fx) bx
 | int a=>
  obtain ⟨t',rfl⟩:=ry;cases x with
  | non=>cases rx; exact SeqAt.EqAt.int_none a t'
  | bl b=>cases rx; exact SeqAt.EqAt.int_bool a t' b
  | int b=>obtain ⟨t,rfl⟩:=rx; exact SeqAt.EqAt.int_int a t' b t
  | str b=>obtain ⟨t,rfl⟩:=rx; exact SeqAt.EqAt.int_str a t' b t
  | _=>exact absurd (show false=true from fx) bx
 | str a=>
  obtain ⟨t',rfl⟩:=ry;cases x with
  | non=>cases rx; exact SeqAt.EqAt.str_none a t'
  | bl b=>cases rx; exact SeqAt.EqAt.str_bool a t' b
  | int b=>obtain ⟨t,rfl⟩:=rx; exact SeqAt.EqAt.str_int a t' b t
  | str b=>obtain ⟨t,rfl⟩:=rx; exact SeqAt.EqAt.str_str a t' b t
  | _=>exact absurd (show false=true from fx) bx
 | _=>exact absurd (show false=true from fy) bx
def eqU (x:V) (u:Value):Bool:=match u with
 | .none=>eqV .non x
 | .bool b=>eqV (.bl b) x
 | .int i _=>eqV (.int i) x
 | .str z _=>eqV (.str z) x
 | _=>false
theorem GE {x y:V} {u:Value} (r:RelV y u) (f:pY y=true):eqU x u=eqV y x:=by
 cases y with
 | non=>cases r; rfl
 | bl b=>cases r; rfl
 | int i=>obtain ⟨t,rfl⟩:=r; rfl
 | str z=>obtain ⟨t,rfl⟩:=r; rfl
 | _=>exact absurd (show false=true from f) bx
theorem yF {x:V}:∀ {xs:List V} {us:List Value},aL xs us->xs.all pY=true->us.any (eqU x)=xs.any fun y=>eqV y x
 | _,_,.nil,_=>rfl
 | y :: xs,u :: us,.cons r t,f=>by
  rw [ku,dw] at f;rw [m4,m4,GE r f.1,yF t f.2]
theorem sC {A:Around} {s:Shared} {x:V} {v:Value} (rx:RelV x v) (fx:pY x=true):∀ {xs:List V} {us:List Value},aL xs us->xs.all pY=true->∀ u∈us,SeqAt.EqAt A s u v (eqU x u)
 | _,_,.nil,_=>fun u hu=>by cases hu
 | y :: xs,u :: us,.cons r t,f=>fun u' hu=>by
  rw [ku,dw] at f;rcases bw.mp hu with rfl | hu
  ·rw [GE r f.1]; exact NK r rx f.1 fx
  ·exact sC rx fx t f.2 u' hu
def inV (x:V) (xs:List V):Bool:=xs.any fun y=>eqV y x
def rIn (K:ag) (neg:Bool):R2:=fun x y H Q=>∃ p xs,y=.ref p/\(SqL K H p xs\/SqT K H p xs)/\pY x=true/\xs.all pY=true/\Q (.bl (if neg then !inV x xs else inV x xs)) H
theorem F8:OpR X (dt .In) (rIn X.K false):=by
 intro pins s σ H x y v u Q I rx ry h;obtain ⟨p,xs,rfl,hq,fx,fs,q⟩:=h;cases ry
 rcases hq with hq | hq
 ·obtain ⟨its,r,pl,hz⟩:=I.list hq;refine SeqAt.in_listAt (eqU x) pl.isList (fun w hw=>sC rx fx r fs w (by simpa using hw)) ⟨.bl _,H,I,rfl,?_⟩
  rw [show its.toArray.any (eqU x)=its.any (eqU x) by simp,yF r fs];exact q
 ·obtain ⟨its,r,pl,hz⟩:=I.tuple hq;refine SeqAt.in_tupleAt (eqU x) pl (fun w hw=>sC rx fx r fs w (by simpa using hw)) ⟨.bl _,H,I,rfl,?_⟩
  rw [show its.toArray.any (eqU x)=its.any (eqU x) by simp,yF r fs];exact q
theorem yG:dW X (.builtin "len") (fun xs H Q=>∃ p ys,xs=[.ref p]/\(SqL X.K H p ys\/SqT X.K H p ys)/\Q (.int ys.length) H):=by
 intro pins s σ H xs us Q I r h;obtain ⟨p,ys,rfl,hq,q⟩:=h;obtain ⟨u,rfl,rx⟩:=vals1 r;cases rx
 have hn:=lN;rcases hq with hq | hq
 ·obtain ⟨its,r',pl,hz⟩:=I.list hq;have hlen:=r'.length;exact Calls.call_len_list pl.isList (by simp only [ba] <;> omega) ⟨.int ys.length,H,I.tok _,⟨s.toks+1,by rw [ba,hlen]⟩,q⟩
 ·obtain ⟨its,r',pl,hz⟩:=I.tuple hq;have hlen:=r'.length;exact len_tuple pl (by simp only [ba] <;> omega) ⟨.int ys.length,H,I.tok _,⟨s.toks+1,by rw [ba,hlen]⟩,q⟩
theorem dW.or {f:Value} {r r':List V->Hp->VK->Prop} (h:dW X f r) (h':dW X f r'):dW X f (fun xs H Q=>r xs H Q\/r' xs H Q):=by
 intro pins s σ H xs us Q I rs q;rcases q with q | q
 ·exact h pins s σ H xs us Q I rs q
 ·exact h' pins s σ H xs us Q I rs q
def tyV (K:ag) (T:String) (x:V) (H:Hp):Prop:=match x with
 | .str _=>T="str"
 | .int _=>T="int"
 | .ref p=>(T="list" /\ ∃ xs,SqL K H p xs)\/(T="tuple" /\ ∃ o,K.lookup p=some o/\o.cls=.type "tuple" /\ o.dict=none)\/
   (T="dict" /\ ((∃ kvs,H p=some (.dK kvs))\/∃ kvs,H p=some (.dT kvs)))\/(T="set" /\ ∃ S n,H p=some (.set S n))
 | _=>False
theorem NL {pins:List (Addr×Obj)} {σ:St} {H:Hp} {s:Shared} {T:String} {x:V} {v:Value} (I:Inv X pins σ H s) (r:RelV x v) (ty:tyV X.K T x H):
  s.TypeIs v T/\∀ a,v=.ref a->∃ ob,s.heap.get? a=some ob/\ob.dict=none:=by
 cases x with
 | str z=>
  obtain ⟨t,rfl⟩:=r;cases (show T="str" from ty)
  exact ⟨typeIs_str s z t,fun _ e=>nomatch e⟩
 | int i=>
  obtain ⟨t,rfl⟩:=r;cases (show T="int" from ty)
  exact ⟨typeIs_int s i t,fun _ e=>nomatch e⟩
 | ref p=>
  cases r
  rcases ty with ⟨rfl,xs,hq⟩ | ⟨rfl,o,hk,hc,hd⟩ | ⟨rfl,hk⟩ | ⟨rfl,S,n,hk⟩
  ·obtain ⟨its,_,pl,_⟩:=I.list hq;refine ⟨pl.isList.typeIs,fun a e=>?_⟩;cases e
   obtain ⟨o,n,e,c,hd,_⟩:=pl;exact ⟨o,e,hd⟩
  ·refine ⟨⟨o,I.kIn p o hk,hc⟩,fun a e=>?_⟩;cases e
   exact ⟨o,I.kIn _ o hk,hd⟩
  ·have z:∃ o,s.heap.get? p=some o/\o.ExactDict:=by
    rcases hk with ⟨kvs,hk⟩ | ⟨kvs,hk⟩
    ·obtain ⟨_,_,_,_,o,_,_,e,ex,_⟩:=I.hok p _ hk;exact ⟨o,e,ex⟩
    ·obtain ⟨_,_,_,_,o,_,_,e,ex,_⟩:=I.hok p _ hk;exact ⟨o,e,ex⟩
   obtain ⟨o,e,ex⟩:=z;refine ⟨⟨o,e,ex.1⟩,fun a e2=>?_⟩;cases e2
   exact ⟨o,e,ex.2.1⟩
  ·obtain ⟨o,_,_,_,e,ex,_⟩:=I.hok p _ hk;refine ⟨⟨o,e,ex.1⟩,fun a e2=>?_⟩;cases e2
   exact ⟨o,e,ex.2.1⟩
 | _=>exact iw ty
def tBM (K:ag) (T:String) (r:V->List V->Hp->VK->Prop) (to:TE) (t:TA):TE:=fun σ H Q=>to σ H fun x H1=>tyV K T x H1/\t σ H1 fun xs H2=>r x xs H2 Q
variable {o e:Expr} {es:List Expr} {to:TE} {t:TA} {name:Str} {apos cpos:Pos} {T id:String} {r:V->List V->Hp->VK->Prop}
theorem Qa (pa:PlainAttrs T) (slot:Slot T name id) (hty:typeOf (.builtin id)=pure (.type "method_descriptor")) (hm:MtR X id r) (ho:PE X o to) (ha:PA X (e :: es) t)
  (hbase:jv o name X.env (eval o X.env)=eval o X.env:=by rfl)
  (hfew:((backTo cpos (b9 (e :: es) X.env)).all (fun x=>!x.1) && (backToKw cpos (keywordEach [] X.env)).all (fun x=>x.1.isSome)
   && decide ((e :: es).length+([]:List Keyword).length+(if ([]:List Keyword).isEmpty then 0 else 1) < 30))=true:=by rfl)
  (hline:(apos.endLine == cpos.line)=true:=by rfl) (hs:b9 (e :: es) X.env=(false,eval e X.env) :: b9 es X.env:=by rfl) (hplain:(backTo cpos (b9 es X.env)).any (·.1)=false:=by rfl):
  PE X (.Call (.Attribute o name apos) (e :: es) [] cpos) (tBM X.K T r to t):=by
 intro pins s σ H Q I h;refine wpAny_Call_method_late hbase hfew hline rfl (thn (ho pins s σ H _ I h) fun v s1 hz=>?_);obtain ⟨x,H1,I1,r1,ty,q1⟩:=hz;obtain ⟨h1,h2⟩:=NL I1 r1 ty;refine ⟨T,id,pa,slot,hty,h1,h2,?_⟩;have hA:=ha cpos pins s1 σ H1 _ I1 q1;rw [hs] at hA ⊢;refine Calls.callWith_builtin (by show (false || (backTo cpos (b9 es X.env)).any (·.1))=false; rw [hplain] <;> rfl) (Calls.evalArgs_plain ?_);exact thn hA fun us s2 ⟨vs,H2,I2,r2,q2⟩=>hm pins s2 σ H2 x vs v us Q I2 r1 r2 q2
end
def MtM (X:Cx) (id:String) (r:V->List V->Hp->VK->Prop):Prop:=
 ∀ (pins:List (Addr×Obj)) (s:Shared) (σ:St) (H:Hp) (x:V) (xs:List V) (v:Value) (us:List Value) (Q:VK),Inv X pins σ H s->RelV x v->aL xs us->r x xs H Q->
  wpAny (model X.prog X.w) X.A (call (.builtin id) (v :: us)) (EP X pins σ Q) X.xe s
theorem aL.one:∀ {x:V} {us:List Value},aL [x] us->∃ u,us=[u]/\RelV x u
 | _,_,.cons r .nil=>⟨_,rfl,r⟩
section
variable {X:Cx} {pins:List (Addr×Obj)} {σ:St} {H:Hp} {s:Shared} {l b:Addr} {xs ys zs:List V}
theorem Inv.lset {its its':List Value} {n:Nat} {f:Array Value->Array Value} {t':Nat} (I:Inv X pins σ H s) (hH:H l=some (.lst xs))
  (e:s.heap.get? l=some { cls:=.type "list",data:=.seq its.toArray n }) (hf:f its.toArray=its'.toArray) (hv:aL ys its') (hz:ys.length<=az):
  Inv X pins σ (upd H l (.lst ys)) { s with heap:=s.heap.update l (fb f),toks:=t' }:=by
 have q:=PySem.IsL.update e f;rw [hf] at q;refine I.write (x:=l) (e:=l) (by rw [hH]; exact trivial) (.inl rfl) (fun b' u hb hu=>(jo s.heap (fb f) (ko hb)).trans hu) ⟨_,q⟩ ?_;exact ⟨hz,its',_,hv,q⟩
theorem Inv.lnew {its:List Value} {t':Nat} (I:Inv X pins σ H s) (hv:aL ys its) (hz:ys.length<=az):
  Inv X pins σ (upd H s.heap.objs.size (.lst ys)) { s with heap:=s.heap.push { cls:=.type "list",data:=.seq its.toArray },toks:=t' }:=
 I.laid (fun _ _ q=>ab _ q) (bj _) ⟨hz,its,0,hv,ax _ rfl⟩
theorem Inv.fresh (I:Inv X pins σ H s):H s.heap.objs.size=none:=I.hok.fresh (bj _)
theorem Inv.lstM (I:Inv X pins σ H s) (hH:H l=some (.lst xs)):xs.length<=az/\∃ (its:List Value) (n:Nat),aL xs its/\xs.length=its.length/\s.heap.get? l=some { cls:=.type "list",data:=.seq its.toArray n }:=by
 obtain ⟨z,its,n,r,e⟩:=I.hok l _ hH;exact ⟨z,its,n,r,r.length,e⟩
end
section
variable {X:Cx}
def E1:V->List V->Hp->VK->Prop:=fun x vs H Q=>∃ l xs y,x=.ref l/\vs=[y]/\H l=some (.lst xs)/\xs.length < az/\Q .non (upd H l (.lst (xs++[y])))
theorem wB:MtM X "list.append" E1:=by
 intro pins s σ H x vs v us Q I rx rv h;obtain ⟨l,xs,y,rfl,rfl,hH,hz,q⟩:=h;cases rx
 obtain ⟨u,rfl,ru⟩:=rv.one;obtain ⟨z,its,n,r,hl,e⟩:=I.lstM hH;refine call_meets F.slot_list_append ⟨_,e,rfl⟩ F.entry_list_append (F.args_list_append_2 _ _) (PySem.list_append l its.toArray n u (by rw [ba]; omega)) ⟨e,?_⟩;refine ⟨.non,_,I.lset (its':=its++[u]) hH e (by simp) (r.append (.cons ru .nil)) ?_,rfl,q⟩;rw [bh,List.length_singleton];omega
def Qb:R2:=fun x y H Q=>∃ l b xs zs,x=.ref l/\y=.ref b/\H l=some (.lst xs)/\H b=some (.lst zs)/\xs.length+zs.length<=az/\∀ p,H p=none->Q (.ref p) (upd H p (.lst (xs++zs)))
theorem NM:OpR X (gm .Add) Qb:=by
 intro pins s σ H x y v u Q I rx ry h;obtain ⟨l,b,xs,zs,rfl,rfl,hH,hB,hz,q⟩:=h;cases rx
 cases ry
 obtain ⟨z,its,n,r,hl,e⟩:=I.lstM hH;obtain ⟨z2,its2,n2,r2,hl2,e2⟩:=I.lstM hB;refine PySem.P.add_list e e2 ?_ (by rw [ba,ba]; omega);have ea:its.toArray++its2.toArray=(its++its2).toArray:=by simp
 rw [ea];exact ⟨.ref _,_,I.lnew (t':=s.toks) (r.append r2) (by rw [bh]; omega),rfl,q _ I.fresh⟩
end
end L2
namespace Att
open PySem PySem.W PySem.Calls PyProof.Rows
theorem qT {P:Params} {h:Heap}:∀ (ns:List Int) (vs:List Value),WellAll P h vs (ns.map WData.int)->IntsAre vs ns:=by
 intro ns
 induction ns with
 | nil=>
  intro vs w;rw [List.map_nil] at w;cases w
  exact .nil
 | cons n ns ih=>
  intro vs w;rw [da] at w;cases w with
  | cons a b=>
   cases a
   exact .cons _ _ (ih _ b)
theorem F9 {l:OpenLaw} {n:Nat} (hn:l.most=some n) {P:Params} {h:Heap} {args:List WData} {vals:List Value}
  (hpre:l.row.toRowW.claim.pre args=true) (hwl:WellAll P h vals args):
  ∃ a vs ns,vals=[c0 a]/\args=[WData.list (ns.map WData.int)]/\h.get? a=some { cls:=.type "list",data:=.seq vs.toArray }/\IntsAre vs ns/\ns.length<=n:=by
 have hsh:WShape.hasAll [] args [.list .int]=true:=(pre_splitW hpre).1;have hc:l.pre.holds [] { args:=args }=true:=(pre_splitW hpre).2;obtain ⟨d,r,rfl,h1,h2⟩:=hasAllW_cons hsh;obtain rfl:=hasAllW_nil h2;obtain ⟨xs,rfl,h3⟩:=hasW_list h1;obtain ⟨ns,rfl⟩:=items_int h3;have hlen:ns.length<=n:=by
  unfold OpenLaw.pre at hc;have h4:(WTm.not (.lt (.lit (.int (n:Int))) (.len (.arg 0)))).holds [] { args:=[.list (ns.map .int)] }=true:=by
   have h4:=(holds_andW hc).1;rw [hn] at h4;exact h4
  have h5:=condW_of h4 (w_not (w_lt w_lit (w_len_list (w_arg rfl))));rw [aj] at h5;refine Nat.le_of_not_lt fun q=>?_;have q':(n:Int) < ((ns.length:Nat):Int):=by omega
  first
   | (rw [decide_eq_true q'] at h5; exact absurd h5 (by decide))
   | (simp at h5; omega)
 cases hwl with
 | cons w1 w2=>
  cases w2
  cases w1 with
  | list ho hall=>exact ⟨_,_,ns,rfl,rfl,ho,qT ns _ hall,hlen⟩
theorem Fb (l:OpenLaw) (args:List WData):l.row.toRowW.claim.post args (.bool true) args=true:=
 postW_of (r:=l.row.toRowW) (X:=(true == true))
  (show WShape.has [] (.bool true) .bool=true by first | rfl | decide | simp [WShape.has,WShape.arms,WShape.armsAll])
  (show (WTm.eq .res (.lit (.bool true))).value [] { args:=args,res:=some (.bool true),after:=args }=some (.bool (true == true)) from w_eq_bool (w_res rfl) w_lit) rfl
theorem attach_call {l:OpenLaw} {n:Nat} {q:Program} {loose:List Str} {XP:(Str->Option Value)->Heap->Prop} {YP:World->Heap->Prop} {d:DefRec}
  (hn:l.most=some n) (hdf:d.params.defaults=[])
  (call:∀ (w:World) (s₀ s₁:Shared) (mg mb:Str->Option Value) (fa:Addr) (o:Obj) (pm cd doc:Value) (a:Addr) (vs:List Value) (ns:List Int),
   Ground q loose [] XP w s₀ mg mb s₁.heap->YP w s₁.heap->
   s₁.heap.get? fa=some o->o.data=.func (docDef d.name d.params d.body d.scope pm cd doc)->s₁.heap.CodeRec cd d.name->mg d.name=some (.ref fa)->
   s₁.heap.get? a=some { cls:=.type "list",data:=.seq vs.toArray }->IntsAre vs ns->ns.length<=n->s₁.gens=#[]->
   codeAny (model l.prog w) callerA (.call (.ref fa) ⟨[.ref a],[]⟩) (fun r s'=>r=.ok (.ret (.bool true))/\OldK s₁.heap s'.heap/\s'.os=s₁.os/\AllBare s'.gens) s₁):
  WalkO q loose XP YP l.row.toRowW d [] (fun f vs=>PySem.call f vs):=by
 intro w s₀ s₁ mg mb G Y fa o pm cd doc dV kV ho hd hcd hD hmg hg args vals as hpre hlay hrd hwl hlo;obtain rfl:dV=.none:=Dflts.none hD hdf;obtain rfl:kV=.none:=Dflts.noKw hD;obtain ⟨a,vs,ns,rfl,rfl,hobj,hints,hlen⟩:=F9 hn hpre hwl;refine enter_call (codeAny_mono (call w s₀ s₁ mg mb fa o pm cd doc a vs ns G Y ho (fd_plain hd) hcd hmg hobj hints hlen hg) fun r s' hq=>?_);obtain ⟨rfl,h2,h3,h4⟩:=hq;exact ⟨.inl ⟨.bool true,.bool true,[],rfl,fun _=>rfl,.bool true,Fb l _,fun _=>⟨ix,fun _ hm=>(nomatch hm)⟩⟩,h2,h3,h4⟩
end Att
namespace L2
open PySem PySem.Spec PyProof.Rows
theorem wC:∀ {vs:List Value} {ns:List Int},IntsAre vs ns->aL (ns.map V.int) vs
 | _,_,.nil=>.nil
 | _,_,.cons n t h=>.cons ⟨t,rfl⟩ (wC h)
def GF (H:Hp):Prop:=∀ b,H b=none\/∃ o xs,H b=some (.frz o (.lst xs))
theorem GG {P:Program} {w:World} {K:ag} {mg mb:Str->Option Value} {CX:CXT} {k:Nat} {fa a:Addr} {fd:dq} {x:Str} {sp:Sp} {s₁:Shared} {vs:List Value} {ns:List Int}
  (KX:K.In s₁.heap) (hns:s₁.heap.Ns dr mg) (hb:s₁.heap.Ns builtinsNs mb) (hbb:∀ x:Str,x≠"__name__" -> mb x=md x) (hlim:s₁.heap.NoLimit) (hg:s₁.gens=#[])
  (ha:s₁.heap.get? a=some { cls:=.type "list",data:=.seq vs.toArray }) (hi:IntsAre vs ns) (hl:ns.length<=az) (hr:dS k callerA)
  (F:∀ base:Heap,K.In base->base.Ns dr mg->aT P w K mg base CX k fa fd [x] sp) (hbind:∀ (s:Shared) (u:Value),BindsTo s fd ⟨[u],[]⟩ [(x,u)])
  (hsp:∀ H:Hp,GF H->SqL K H a (ns.map V.int)->sp [.ref a] H (fun v _=>v=.bl true) fun _ _ _=>False)
  (hCX:∀ H e s',CX [] H s₁ (fun _ _ _=>False) e s'->False):
  codeAny (model P w) callerA (.call (.ref fa) ⟨[.ref a],[]⟩) (fun r s'=>r=.ok (.ret (.bool true))/\OldK s₁.heap s'.heap/\s'.os=s₁.os/\AllBare s'.gens) s₁:=by
 have rv:=wC hi;have lenV:=hi.length
 -- from an abstract heap in which nothing but the script may be tracked
 have core:∀ H:Hp,GF H->SqL K H a (ns.map V.int)->HOk P w H s₁.heap->(∀ b,H b≠none->b=a)->(H a≠none->K.lookup a=none)->
   codeAny (model P w) callerA (.call (.ref fa) ⟨[.ref a],[]⟩) (fun r s'=>r=.ok (.ret (.bool true))/\OldK s₁.heap s'.heap/\s'.os=s₁.os/\AllBare s'.gens) s₁:=by
  intro H hO hS hok hA hK;have base_of:∀ {b:Addr} {o:Obj},s₁.heap.get? b=some o->H b=none->(xY s₁.heap H).get? b=some o:=fun e n=>Gi e n;have noA:∀ {b:Addr} {o:Obj} {es:Array k9} {ep:Nat},s₁.heap.get? b=some o->o.data=.dict es ep->H b=none:=fun {b o es ep} e d=>by
   cases q:H b with
   | none=>rfl
   | some u=>
    have e':b=a:=hA b (by rw [q]; simp);subst e';rw [ha] at e; cases e;have d':Data.seq vs.toArray _=Data.dict es ep:=d;cases d'
  have nsK:∀ {b:Addr} {m:Str->Option Value},s₁.heap.Ns b m->(xY s₁.heap H).Ns b m:=fun {b m} ⟨o,es,ep,e,d,r⟩=>⟨o,es,ep,base_of e (noA e d),d,r⟩;have hKb:K.In (xY s₁.heap H):=fun b o e=>base_of (KX b o e) (by
   cases q:H b with
   | none=>rfl
   | some u=>
    have e':b=a:=hA b (by rw [q]; simp);subst e';rw [hK (by rw [q]; simp)] at e; cases e)
  have hM:Mod K mg (xY s₁.heap H):=⟨hKb,nsK hns,⟨mb,nsK hb,hbb⟩,let ⟨mc,h1,h2⟩:=hlim; ⟨mc,nsK h1,h2⟩⟩;have e0:uW P w K mg (xY s₁.heap H) callerA [] s₁ H:=⟨rfl,hM,fun b o e=>K1 e,Nat.le_of_eq (EZ _ _),trivial,fun b hb=>absurd (show b∈([]:List Addr) from hb) (by simp),hok,.of_eq hg⟩
  refine codeAny_mono ((F _ hKb (nsK hns)).run callerA [] s₁ H ⟨[.ref a],[]⟩ [.ref a] [.ref a] _ _ hr e0 (hbind s₁ (.ref a)) (.cons rfl .nil) (hsp H hO hS)) fun r s' h=>?_;cases r with
  | error e=>exact (hCX H e s' h).elim
  | ok fl=>
   cases fl with
   | next=>exact iw h
   | brk=>exact iw h
   | cont=>exact iw h
   | ret u=>
    obtain ⟨v,H',os,bare,un,hok',r',q⟩:=h;have q':v=.bl true:=q;subst q';obtain rfl:u=Value.bool true:=r';refine ⟨rfl,OldK.of_keep fun b o e=>?_,os,bare⟩;cases q:H b with
    | none=>exact un.keep b o e q (by intro z; exact absurd (show b∈([]:List Addr) from z) (by simp)) (by simp)
    | some u=>
     rcases hO b with z | ⟨ob,xs,z⟩
     ·rw [q] at z; cases z
     ·have z2:=un.frzs b ob _ z;obtain ⟨e1,_⟩:=hok b _ z;obtain ⟨e2,_⟩:=hok' b _ z2;rw [e] at e1; cases e1;exact e2
 cases hk:K.lookup a with
 | some o=>
  -- the script is one of the module's own objects
  have e:=KX a o hk;rw [ha] at e;cases e
  refine core (fun _=>none) (fun _=>.inl rfl) (.inr ⟨_,vs.toArray,_,hk,rfl,rfl,rfl,by rw [ba,lenV]; exact hl,by simpa using rv⟩) (fun b u z=>by have z':(none:Option HO)=some u:=z; cases z') (fun b z=>absurd rfl z) fun z=>absurd rfl z
 | none=>
  refine core (fun b=>if b=a then some (.frz { cls:=.type "list",data:=.seq vs.toArray } (.lst (ns.map V.int))) else none) (fun b=>?_) (.inl (.inr ⟨{ cls:=.type "list",data:=.seq vs.toArray },if_pos rfl⟩)) (fun b u z=>?_) (fun b z=>?_) fun _=>hk
  ·by_cases hb:b=a
   ·exact .inr ⟨_,_,if_pos hb⟩
   ·exact .inl (if_neg hb)
  ·by_cases hb:b=a
   ·have z':=(if_pos hb).symm.trans z;cases z'
    subst hb;exact ⟨ha,by rw [aj]; exact hl,vs,_,rv,ha⟩
   ·have z':=(if_neg hb).symm.trans z;cases z'
  ·by_cases hb:b=a
   ·exact hb
   ·exact absurd (if_neg hb) z
theorem walk_of {l:PySem.W.OpenLaw} {n k:Nat} {q:Program} {loose:List Str} {XP:(Str->Option Value)->Heap->Prop} {YP:World->Heap->Prop} {d:DefRec} {K:Params->ag} {CX:World->CXT} {sp:World->Sp} {x:Str}
  (hn:l.most=some n) (hn2:n<=az) (hdf:d.params.defaults=[]) (hr:dS k callerA)
  (hY:∀ (w:World) (h:Heap),YP w h->(K w.params).In h)
  (F:∀ (w:World) (mg:Str->Option Value) (fa:Addr) (h:Heap),(K w.params).In h->h.Ns dr mg->mg d.name=some (.ref fa)->
   ∃ fd:dq,(∀ (s:Shared) (u:Value),BindsTo s fd ⟨[u],[]⟩ [(x,u)])/\
    ∀ base:Heap,(K w.params).In base->base.Ns dr mg->aT l.prog w (K w.params) mg base (CX w) k fa fd [x] (sp w))
  (hsp:∀ (w:World) (H:Hp) (a:Addr) (ns:List Int),ns.length<=n->GF H->SqL (K w.params) H a (ns.map V.int)->sp w [.ref a] H (fun v _=>v=.bl true) fun _ _ _=>False)
  (hCX:∀ (w:World) (H:Hp) (s:Shared) (e:Value) (s':Shared),CX w [] H s (fun _ _ _=>False) e s'->False):
  PySem.W.WalkO q loose XP YP l.row.toRowW d [] (fun f vs=>PySem.call f vs):=by
 refine Att.attach_call hn hdf fun w s₀ s₁ mg mb fa o pm cd doc a vs ns G Y ho hd hcd hmg hobj hints hlen hg=>?_;have KX:=hY w _ Y;obtain ⟨fd,hb,hF⟩:=F w mg fa _ KX G.T.g hmg;exact GG KX G.T.g G.T.b G.T.builtins G.T.nolimit hg hobj hints (ft hlen hn2) hr hF hb (fun H hO hS=>hsp w H a ns hlen hO hS) fun H e s'=>hCX w H s₁ e s'
def inClass (s:Stmt) (j:Nat):Stmt:=match s with
 | .ClassDef _ _ _ body _ _ _ _ _ _ _=>body.getD j (.Pass ⟨0,0,0,0⟩)
 | _=>.Pass ⟨0,0,0,0⟩
def aU (s:Stmt):Arguments:=match s with
 | .FunctionDef _ a _ _ _ _ _ _ _ _=>a
 | _=>{ posonlyargs:=[],args:=[],vararg:=none,kwonlyargs:=[],kw_defaults:=[],kwarg:=none,defaults:=[] }
def aR (s:Stmt):List Stmt:=match s with
 | .FunctionDef _ _ b _ _ _ _ _ _ _=>b
 | _=>[]
def aE (s:Stmt):Scope:=match s with
 | .FunctionDef _ _ _ _ _ _ sc _ _ _=>sc
 | _=>{ kind:=.function,names:=[],isGenerator:=false,isCoroutine:=false }
abbrev CX0:CXT:=fun _ _ _ _ _ _=>False
abbrev E0:XK:=fun _ _ _=>False
theorem E2 {X:Cx}:rZ CX0 X E0:=fun _ _ _ _ _ _ _ h=>h.elim
structure Fun (K:ag) (x qual:Str) (st:Stmt) (f:Addr) (fd:dq):Prop where
 ex:∃ (oc:Value) (od:Option Addr) (kV doc pm:Value) (an:Option Addr) (cdv ct:Value) (osl:Array (Option Value)),
  fd=c9 x qual (aU st) (aR st) (aE st) .none kV doc pm an cdv ct/\K.lookup f=some ⟨oc,od,.func fd,osl⟩/\dg K cdv qual=true
 kp:cw K (.ref f)=true
section
variable {P:Program} {w:World} {K:ag} {mg:Str->Option Value} {base:Heap}
theorem Fun.ok {x qual:Str} {st:Stmt} {f:Addr} {fd:dq} {N ps:List Str} {k:Nat} {sp:Sp} (F:Fun K x qual st f fd) (S:bB N ps (aE st)) (len:∀ vs H Q E,sp vs H Q E->vs.length=ps.length)
  (hbody:∀ (cdv:Value) (A:Around) (outer:List Env) (s:Shared) (H:Hp) (vs:List V) (Q:VK) (E:XK),dS k (A.deeper (envOfC qual (aE st) s.heap.objs.size f cdv))->sp vs H Q E->
   ∃ t,PSs (Cs CX0 P w K mg base N qual (aE st) f cdv A outer s H E).nox (aR st) t/\t { nx:=fun _ H'=>Q .non H',rt:=Q } (start N vs) H):aT P w K mg base CX0 (k+1) f fd ps sp:=by
 obtain ⟨oc,od,kV,doc,pm,an,cdv,ct,osl,rfl,lk,hcd⟩:=F.ex;refine Q5 lk hcd S len fun A outer s H vs Q E hr hsp=>?_;obtain ⟨t,h,q⟩:=hbody cdv A outer s H vs Q E hr hsp;exact ⟨t,h.nox,q⟩
theorem Fun.binds {x qual:Str} {st:Stmt} {f:Addr} {fd:dq} {ps:List Str} (F:Fun K x qual st f fd)
  (h:∀ (kV doc pm:Value) (an:Option Addr) (cdv ct:Value) (us:List Value),us.length=ps.length->bindArgs (c9 x qual (aU st) (aR st) (aE st) .none kV doc pm an cdv ct) ⟨us,[]⟩=pure (ps.zip us)):Binds K fd ps []:=by
 obtain ⟨oc,od,kV,doc,pm,an,cdv,ct,osl,rfl,lk,hcd⟩:=F.ex;exact .all (h kV doc pm an cdv ct)
theorem lQ {x qual:Str} {st:Stmt} {f:Addr} {oc:Value} {od an:Option Addr} {osl:Array (Option Value)} {kV doc pm cdv ct:Value} (l:K.lookup f=some ⟨oc,od,.func (c9 x qual (aU st) (aR st) (aE st) .none kV doc pm an cdv ct),osl⟩)
  (c:dg K cdv qual=true) (k:cw K (.ref f)=true):Fun K x qual st f (c9 x qual (aU st) (aR st) (aE st) .none kV doc pm an cdv ct):=⟨⟨oc,od,kV,doc,pm,an,cdv,ct,osl,rfl,l,c⟩,k⟩
end
theorem Qc {A:Around} {k:Nat} (hr:dS k A):A.units+1 < cLine:=Nat.lt_of_le_of_lt (Nat.add_le_add_left (by decide:1<=64) _) hr.units
section
variable {X:Cx}
theorem pv (i:Nat) {x:Str} {pos:Pos} (hN:X.N[i]?=some x:=by rfl) (hv:Vis X.env.scope x:=by first | exact Or.inl rfl | exact Or.inr (Or.inl rfl) | exact Or.inr (Or.inr rfl)) (hd:(x == ("__debug__" : Str))=false:=by decide)
  (hcd:(x == ("__classdict__" : Str))=false:=by decide):PE X (.Name x pos) (PK i):=Gj hN hv hd hcd
end
theorem GH {A B:Prop} (h:B):if false=true then A else B:=by
 rw [if_neg bx];exact h
theorem GI {A B:Prop} (h:A):if true=true then A else B:=by
 rw [if_pos rfl];exact h
def uY (H H':Hp):Prop:=∀ b o,H b=some o->H' b=some o
section
variable {κ:Type} [DecidableEq κ]
def jB (kvs:List (κ×V)) (k:κ):Option V:=(kvs.find? fun kv=>decide (kv.1=k)).map (·.2)
def putK (kvs:List (κ×V)) (k:κ) (v:V):List (κ×V):=
 if (kvs.any fun kv=>decide (kv.1=k))=true then kvs.map (fun kv=>if kv.1=k then (kv.1,v) else kv) else kvs++[(k,v)]
theorem mS {p:κ×V} {r:List (κ×V)} {k:κ} (e:p.1=k):jB (p :: r) k=some p.2:=by simp [jB,jl,e]
theorem mT {p:κ×V} {r:List (κ×V)} {k:κ} (e:¬ p.1=k):jB (p :: r) k=jB r k:=by simp [jB,jl,e]
theorem sD (k:κ):∀ kvs:List (κ×V),(kvs.any fun kv=>decide (kv.1=k))=(jB kvs k).isSome
 | []=>rfl
 | p :: r=>by
  rw [m4]
  by_cases e:p.1=k
  ·simp only [mS e,decide_eq_true e,Bool.true_or,Option.isSome_some]
  ·rw [mT e,decide_eq_false e,Bool.false_or]; exact sD k r
theorem jF (kvs:List (κ×V)) (k:κ) (v:V):(putK kvs k v).length<=kvs.length+1:=by
 unfold putK;split
 ·rw [aj]; omega
 ·rw [bh,cx,kc]; omega
theorem kT.isSome_eq {o:Option V} {u:Option Value} (r:kT o u):o.isSome=u.isSome:=by
 cases o with
 | none=>cases u with
  | none=>rfl
  | some _=>exact (show False from r).elim
 | some _=>cases u with
  | none=>exact (show False from r).elim
  | some _=>rfl
theorem KV.val {kvs:List (κ×V)} {vs:List (κ×Value)} (r:KV kvs vs) (k:κ):kT (jB kvs k) (valueAt vs k):=by
 unfold KV at r
 induction r with
 | nil=>exact lh
 | @cons p q ps qs h t ih=>
  obtain ⟨h1,h2⟩:=h
  by_cases e:p.1=k
  ·have e':q.1=k:=h1.symm.trans e;have b:valueAt (q :: qs) k=some q.2:=by simp [valueAt,jl,e']
   rw [mS e,b]; exact h2
  ·have e':¬ q.1=k:=fun z=>e (h1.trans z);have b:valueAt (q :: qs) k=valueAt qs k:=by simp [valueAt,jl,e']
   rw [mT e,b]; exact ih
theorem KV.any {kvs:List (κ×V)} {vs:List (κ×Value)} (r:KV kvs vs) (k:κ):(kvs.any fun kv=>decide (kv.1=k))=vs.any fun kv=>decide (kv.1=k):=by
 unfold KV at r
 induction r with
 | nil=>rfl
 | cons h t ih=>rw [m4,m4,ih,h.1]
theorem KV.repl {kvs:List (κ×V)} {vs:List (κ×Value)} (r:KV kvs vs) (k:κ) {y:V} {u:Value} (ry:RelV y u):
  KV (kvs.map fun kv=>if kv.1=k then (kv.1,y) else kv) (vs.map fun kv=>if kv.1=k then (kv.1,u) else kv):=by
 unfold KV at r ⊢
 induction r with
 | nil=>exact .nil
 | @cons p q ps qs h t ih=>
  rw [da,da];refine .cons ?_ ih;obtain ⟨h1,h2⟩:=h
  by_cases e:p.1=k
  ·rw [if_pos e,if_pos (h1.symm.trans e)]; exact ⟨h1,ry⟩
  ·rw [if_neg e,if_neg (fun z=>e (h1.trans z))]; exact ⟨h1,h2⟩
theorem KV.put {kvs:List (κ×V)} {vs:List (κ×Value)} (r:KV kvs vs) (k:κ) {y:V} {u:Value} (ry:RelV y u):KV (putK kvs k y) (stored vs k u):=by
 unfold putK stored;rw [r.any k]
 by_cases e:(vs.any fun kv=>decide (kv.1=k))=true
 ·rw [if_pos e,if_pos e]; exact r.repl k ry
 ·rw [if_neg e,if_neg e]; exact Paired.snoc r ⟨rfl,ry⟩
theorem KV.length {kvs:List (κ×V)} {vs:List (κ×Value)} (r:KV kvs vs):kvs.length=vs.length:=fc r
end
theorem As {P:Program} {w:World} {k:Key} {u:Value} (r:RelV (kV k) u):(bX P w).is k u=true:=by
 cases k with
 | inl i=>obtain ⟨t,e⟩:=(show ∃ t,u=Value.int i t from r); subst e; exact Aj P w i t
 | inr x=>obtain ⟨t,e⟩:=(show ∃ t,u=Value.str x t from r); subst e; exact Ak P w x t
theorem wD {P:Program} {w:World}:∀ {ks:List Key} {us:List Value},aL (ks.map kV) us->ItemsAre (bX P w) ks us
 | [],_,r=>by rw [List.map_nil] at r; cases r; exact .nil
 | k :: ks,_,r=>by
  rw [da] at r;cases r with
  | cons h t=>exact .cons (As h) (wD t)
abbrev KT (H:Hp):List (List Key×V)->List (List Key×Addr×Value)->Prop:=Paired fun p q=>p.1=q.1/\H q.2.1=some (.tup (p.1.map kV))/\RelV p.2 q.2.2
theorem KT.val {H:Hp} {kvs:List (List Key×V)} {xs:List (List Key×Addr×Value)} (r:KT H kvs xs) (k:List Key):kT (jB kvs k) ((atKey xs k).map (·.2)):=by
 induction r with
 | nil=>exact lh
 | @cons p q ps qs h t ih=>
  obtain ⟨h1,_,h2⟩:=h
  by_cases e:p.1=k
  ·have e':q.1=k:=h1.symm.trans e;have b:atKey (q :: qs) k=some q.2:=by simp [atKey,jl,e']
   rw [mS e,b]; exact h2
  ·have e':¬ q.1=k:=fun z=>e (h1.trans z);have b:atKey (q :: qs) k=atKey qs k:=by simp [atKey,jl,e']
   rw [mT e,b]; exact ih
theorem KT.repl {H:Hp} {kvs:List (List Key×V)} {xs:List (List Key×Addr×Value)} (r:KT H kvs xs) (k:List Key) {y:V} {u:Value} (ry:RelV y u):
  KT H (kvs.map fun kv=>if kv.1=k then (kv.1,y) else kv) (xs.map (putAt k u)):=by
 induction r with
 | nil=>exact .nil
 | @cons p q ps qs h t ih=>
  rw [da,da];refine .cons ?_ ih;obtain ⟨h1,h2,h3⟩:=h;unfold putAt
  by_cases e:p.1=k
  ·rw [if_pos e,if_pos (h1.symm.trans e)]; exact ⟨h1,h2,ry⟩
  ·rw [if_neg e,if_neg (fun z=>e (h1.trans z))]; exact ⟨h1,h2,h3⟩
theorem KT.put {H:Hp} {kvs:List (List Key×V)} {xs:List (List Key×Addr×Value)} (r:KT H kvs xs) (k:List Key) {b:Addr} {y:V} {u:Value} (hb:H b=some (.tup (k.map kV))) (ry:RelV y u):
  KT H (putK kvs k y) (storedH xs k b u):=by
 have e:(kvs.any fun kv=>decide (kv.1=k))=(atKey xs k).isSome:=by
  rw [sD,(r.val k).isSome_eq,Option.isSome_map]
 unfold putK storedH;rw [e]
 by_cases q:(atKey xs k).isSome=true
 ·rw [if_pos q,if_pos q]; exact r.repl k ry
 ·rw [if_neg q,if_neg q]; exact Paired.snoc r ⟨rfl,hb,ry⟩
theorem KT.keeps {H H':Hp} {kvs:List (List Key×V)} {xs:List (List Key×Addr×Value)} (r:KT H kvs xs) (ht:∀ b ys,H b=some (.tup ys)->H' b=some (.tup ys)):KT H' kvs xs:=
 Paired.mapP r fun _ _ z=>⟨z.1,ht _ _ z.2.1,z.2.2⟩
section
variable {P:Program} {w:World} {H:Hp} {h:Heap} {a:Addr}
theorem ML {u:HO} (ok:HOk P w H h) (e:Rd H a u):cI P w H h a u:=e.ok ok
theorem wF {kvs:List (Key×V)} (ok:HOk P w H h) (e:Rd H a (.dK kvs)):kvs.length<=az/\(a == jg)=false/\∃ vs,KV kvs vs/\h.DictOf (bX P w) a vs:=
 show cI P w H h a (.dK kvs) from ML ok e
theorem E3 {kvs:List (Key×V)} (ok:HOk P w H h) (e:H a=some (.dK kvs)):kvs.length<=az/\(a == jg)=false/\∃ vs,KV kvs vs/\h.DictOf (bX P w) a vs:=wF ok (.inl e)
theorem yH {ks:List Key} (ok:HOk P w H h) (e:H a=some (.tup (ks.map kV))):(tupleKind (bX P w)).is h ks a:=by
 obtain ⟨_,its,r,o,h1,h2,⟨n,h3⟩,_⟩:=(show cI P w H h a (.tup (ks.map kV)) from ok a _ e)
 exact ⟨o,its.toArray,n,h1,h2,h3,by simpa using wD r⟩
theorem E4 {kvs:List (List Key×V)} (ok:HOk P w H h) (e:Rd H a (.dT kvs)):kvs.length<=az/\(a == jg)=false/\
  ∃ xs,KT H kvs xs/\h.DictOfH (tupleKind (bX P w)) a xs:=by
 obtain ⟨z,y,xs,r,o,es,ep,h1,h2,h3,h4,h5⟩:=(show cI P w H h a (.dT kvs) from ML ok e)
 refine ⟨z,y,xs,r,o,es,ep,h1,h2,h3,h4,fun x hx=>?_,h5⟩;have all:∀ {l:List (List Key×V)} {m:List (List Key×Addr×Value)},KT H l m->∀ x∈m,(tupleKind (bX P w)).is h x.1 x.2.1:=by
  intro l m q
  induction q with
  | nil=>intro x hx; exact nomatch hx
  | @cons p q ps qs hq t ih=>
   intro x hx;rcases bw.mp hx with e | hx
   ·subst e;exact yH ok (by rw [<- hq.1]; exact hq.2.1)
   ·exact ih x hx
 exact all r x hx
theorem Qd {kvs:List (List Key×V)} (ok:HOk P w H h) (e:H a=some (.dT kvs)):kvs.length<=az/\(a == jg)=false/\
  ∃ xs,KT H kvs xs/\h.DictOfH (tupleKind (bX P w)) a xs:=E4 ok (.inl e)
end
def sE (H:Hp) (a:Addr) (y:V) (r:Option V):Prop:=
 (∃ kvs k,Rd H a (.dK kvs)/\y=kV k/\r=jB kvs k)\/∃ kvs k b,Rd H a (.dT kvs)/\y=.ref b/\H b=some (.tup (k.map kV))/\r=jB kvs k
def NN (H:Hp) (a:Addr) (y v:V) (H':Hp):Prop:=
 (∃ kvs k,H a=some (.dK kvs)/\y=kV k/\kvs.length < az/\H'=upd H a (.dK (putK kvs k v)))\/
 ∃ kvs k b,H a=some (.dT kvs)/\y=.ref b/\H b=some (.tup (k.map kV))/\kvs.length < az/\H'=upd H a (.dT (putK kvs k v))
theorem sE.k {H:Hp} {a:Addr} {kvs:List (Key×V)} {k:Key} (e:H a=some (.dK kvs)):sE H a (kV k) (jB kvs k):=.inl ⟨kvs,k,.inl e,rfl,rfl⟩
theorem NN.k {H:Hp} {a:Addr} {kvs:List (Key×V)} {k:Key} {v:V} (e:H a=some (.dK kvs)) (hl:kvs.length < az):NN H a (kV k) v (upd H a (.dK (putK kvs k v))):=.inl ⟨kvs,k,e,rfl,hl,rfl⟩
section
variable {X:Cx} {pins:List (Addr×Obj)} {σ:St} {H:Hp} {s:Shared} {a:Addr} {y v:V} {u r:Value} {o:Option V} {A:Around} {E:Value->Shared->Prop}
theorem Inv.big (I:Inv X pins σ H s):jg < s.heap.objs.size:=by
 have h:dr < s.heap.objs.size:=(I.mod.glob.keeps I.bk).lt;exact nj (by decide) h
theorem Fc {Q:Value->Shared->Prop} (hu:A.units+1 < cLine) (I:Inv X pins σ H s) (g:sE H a y (some v)) (ry:RelV y u) (h:∀ w' s',Inv X pins σ H s'->RelV v w'->Q w' s'):
  wpAny (model X.prog X.w) A (getItem (.ref a) u) Q E s:=by
 rcases g with ⟨kvs,k,e,ey,l⟩ | ⟨kvs,k,b,e,ey,eb,l⟩
 ·subst ey;obtain ⟨z,hd,vs,rel,dd⟩:=wF I.hok e;obtain ⟨w',hw,rw'⟩:=kT.some_of (v:=v) (o:=valueAt vs k) (by rw [l]; exact rel.val k);exact wpAny_getItem_of (As ry) dd.mapOf hw (h w' _ (I.tok _) rw')
 ·subst ey;cases (show u=c0 b from ry)
  obtain ⟨z,hd,xs,rel,dd⟩:=E4 I.hok e;obtain ⟨w',hw,rw'⟩:=kT.some_of (v:=v) (o:=(atKey xs k).map (·.2)) (by rw [l]; exact rel.val k);obtain ⟨p,hp,hp2⟩:=b6.mp hw;refine wpAny_getItem_heap (tupleKind_room_in1 hu) (yH I.hok eb) dd hp ?_;rw [hp2];exact h w' _ (I.tok _) rw'
theorem Sx {Q:Value->Shared->Prop} (hu:A.units+1 < cLine) (I:Inv X pins σ H s) (g:sE H a y o) (ry:RelV y u) (h:∀ s',Inv X pins σ H s'->Q (.bool o.isSome) s'):
  wpAny (model X.prog X.w) A (dt .In u (.ref a)) Q E s:=by
 rcases g with ⟨kvs,k,e,ey,l⟩ | ⟨kvs,k,b,e,ey,eb,l⟩
 ·subst ey;obtain ⟨z,hd,vs,rel,dd⟩:=wF I.hok e;refine wpAny_in_of (As ry) hd dd.mapOf ?_;rw [<- (rel.val k).isSome_eq,<- l];exact h _ (I.tok _)
 ·subst ey;cases (show u=c0 b from ry)
  obtain ⟨z,hd,xs,rel,dd⟩:=E4 I.hok e;refine wpAny_in_heap (tupleKind_room_in1 hu) (yH I.hok eb) hd dd ?_;have q:=(rel.val k).isSome_eq;rw [Option.isSome_map] at q;rw [<- q,<- l];exact h _ (I.tok _)
theorem rF {h':Heap} {t':Nat} {ob:HO} (I:Inv X pins σ H s) (mu:Mut (H a)) (hs:ju a s.heap h') (he:∃ q,h'.get? a=some q) (new:cI X.prog X.w (upd H a ob) h' a ob):
  Inv X pins σ (upd H a ob) { s with heap:=h',toks:=t' }:=
 I.write (x:=a) (e:=a) mu (.inl rfl) (fun b q hb z=>(hs.2 b hb).trans z) he new
theorem Cw {P:Program} {w:World} {H':Hp} {h':Heap} {kvs:List (Key×V)} {vs:List (Key×Value)} (z:kvs.length<=az) (hd:(a == jg)=false) (rel:KV kvs vs) (dd:h'.DictOf (bX P w) a vs):
  cI P w H' h' a (.dK kvs):=⟨z,hd,vs,rel,dd⟩
theorem Fd {H':Hp} {Q:Unit->Shared->Prop} (hu:A.units+1 < cLine) (I:Inv X pins σ H s) (g:NN H a y v H') (ry:RelV y u) (rv:RelV v r) (h:∀ s',Inv X pins σ H' s'->Q () s'):
  wpAny (model X.prog X.w) A (setItem (.ref a) u r) Q E s:=by
 rcases g with ⟨kvs,k,e,ey,l,eH⟩ | ⟨kvs,k,b,e,ey,eb,l,eH⟩
 ·subst ey eH;obtain ⟨z,hd,vs,rel,dd⟩:=E3 I.hok e;have hz:vs.length<=az:=by rw [<- rel.length]; exact z
  have hl:(putK kvs k v).length<=az:=by have:=jF kvs k v; omega
  refine wpAny_setItem_pairs (hsz:=hz) (As ry) dd fun h' dd' hs=>h _ ?_;have he:∃ q,h'.get? a=some q:=let ⟨q,_,_,hq,_⟩:=dd'; ⟨q,hq⟩;exact rF I (by rw [e]; exact lh) hs he (Cw hl hd (rel.put k rv) dd')
 ·subst ey eH;cases (show u=c0 b from ry)
  obtain ⟨z,hd,xs,rel,dd⟩:=Qd I.hok e;have hz:xs.length<=az:=by rw [<- fc rel]; exact z
  have hl:(putK kvs k v).length<=az:=by have:=jF kvs k v; omega
  refine wpAny_setItem_heap (hsz:=hz) (tupleKind_room_in1 hu) (yH I.hok eb) dd fun h' dd' hs=>h _ ?_;obtain ⟨q,es,ep,hq,h2,h3,h4,_,h5⟩:=dd';refine rF I (by rw [e]; exact lh) hs ⟨q,hq⟩ ⟨hl,hd,_,(rel.put k eb rv).keeps fun c ys ec=>?_,q,es,ep,hq,h2,h3,h4,h5⟩;rw [aN (PJ ec e (fun z=>nomatch z))];exact ec
end
section
variable {X:Cx} {pins:List (Addr×Obj)} {σ:St} {H:Hp} {s:Shared} {a:Addr} {kvs:List (Key×V)} {k:Key} {u:Value} {A:Around} {E:Value->Shared->Prop}
theorem Qe {Q:Value->Shared->Prop} (I:Inv X pins σ H s) (e:Rd H a (.dK kvs)) (h:∀ t s',Inv X pins σ H s'->Q (.int kvs.length t) s'):wpAny (model X.prog X.w) A (call (.builtin "len") [.ref a]) Q E s:=by
 obtain ⟨z,hd,vs,rel,dd⟩:=wF I.hok e;refine call_len_dict hd dd (by rw [<- rel.length]; rw [gh] at z; omega) ?_;rw [<- rel.length];exact h _ _ (I.tok _)
end
theorem Au {X:Cx} {pins:List (Addr×Obj)} {σ:St} {H:Hp} {s:Shared} {a:Addr} {y:V} {o:Option V} (I:Inv X pins σ H s) (g:sE H a y o):s.TypeIs (.ref a) "dict" := by
 rcases g with ⟨kvs,k,e,_,_⟩ | ⟨kvs,k,b,e,_,_,_⟩
 ·obtain ⟨_,_,vs,_,dd⟩:=wF I.hok e;exact dd.typeIs
 ·obtain ⟨_,_,xs,_,dd⟩:=E4 I.hok e;exact dd.typeIs
theorem GJ {P:Program} {w:World} {H:Hp} (h:Heap) (hb:jg < h.objs.size):cI P w H (h.push { cls:=.type "dict",data:=.dict #[] }) h.objs.size (.dK []):=
 ⟨dv _,beq_eq_false_iff_ne.mpr (ko (bu hb)),[],.nil,Heap.DictOf.new h⟩
def NO:TE:=fun _ H Q=>∀ p,H p=none->Q (.ref p) (upd H p (.dK []))
section
variable {X:Cx} {pos:Pos}
theorem GK:PE X (.Dict [] [] pos) NO:=fun pins s σ H Q I h=>
 wpAny_Dict_empty ⟨.ref s.heap.objs.size,_,I.laid (a:=s.heap.objs.size) (o:=.dK []) (t':=s.toks) (fun _ _ q=>ab _ q) (bj _) (GJ s.heap I.big),rfl,h _ (I.hok.fresh (bj _))⟩
end
def oR (kvs more:List (Key×V)):List (Key×V):=more.foldl (fun acc kv=>putK acc kv.1 kv.2) kvs
theorem KV.merge:∀ {more:List (Key×V)} {rs:List (Key×Value)} {kvs:List (Key×V)} {vs:List (Key×Value)},KV more rs->KV kvs vs->KV (oR kvs more) (merged vs rs):=by
 intro more rs kvs vs r;unfold KV at r
 induction r generalizing kvs vs with
 | nil=>intro q; exact q
 | @cons p q ps qs h t ih=>
  intro r0;have e:KV (putK kvs p.1 p.2) (stored vs q.1 q.2):=by
   have:=r0.put p.1 h.2;rw [<- h.1]; exact this
  exact ih e
theorem kX:∀ (more kvs:List (Key×V)),(oR kvs more).length<=kvs.length+more.length
 | [],kvs=>by show kvs.length<=kvs.length+0; omega
 | p :: r,kvs=>by
  have h1:=kX r (putK kvs p.1 p.2);have h2:=jF kvs p.1 p.2
  show (oR (putK kvs p.1 p.2) r).length<=_
  rw [cx]; omega
structure M1 (X:Cx) (o:Expr) (m:Str) (apos:Pos) (e:Expr) (cpos:Pos):Prop where
 base:jv o m X.env (eval o X.env)=eval o X.env
 few:((backTo cpos (b9 [e] X.env)).all (fun x=>!x.1) && (backToKw cpos (keywordEach [] X.env)).all (fun x=>x.1.isSome)
  && decide (([e]:List Expr).length+([]:List Keyword).length+(if ([]:List Keyword).isEmpty then 0 else 1) < 30))=true
 line:(apos.endLine == cpos.line)=true
 trees:backTo cpos (b9 [e] X.env)=[(false,eval e X.env)]
structure M2 (X:Cx) (o:Expr) (m:Str) (apos:Pos) (e f:Expr) (cpos:Pos):Prop where
 base:jv o m X.env (eval o X.env)=eval o X.env
 few:((backTo cpos (b9 [e,f] X.env)).all (fun x=>!x.1) && (backToKw cpos (keywordEach [] X.env)).all (fun x=>x.1.isSome)
  && decide (([e,f]:List Expr).length+([]:List Keyword).length+(if ([]:List Keyword).isEmpty then 0 else 1) < 30))=true
 line:(apos.endLine == cpos.line)=true
 trees:backTo cpos (b9 [e,f] X.env)=[(false,eval e X.env),(false,eval f X.env)]
section
variable {X:Cx} {pins:List (Addr×Obj)} {σ:St} {H:Hp} {s:Shared} {a:Addr} {kvs:List (Key×V)} {A:Around} {E:Value->Shared->Prop}
theorem GL {Q:Value->Shared->Prop} (I:Inv X pins σ H s) (e:Rd H a (.dK kvs)) (h:∀ p s',H p=none->Inv X pins σ (upd H p (.dK kvs)) s'->Q (.ref p) s'):wpAny (model X.prog X.w) A (call (.type "dict") [.ref a]) Q E s:=by
 obtain ⟨z,hd,vs,rel,dd⟩:=wF I.hok e;refine kt_call_dict hd dd (by rw [<- rel.length]; exact z) fun h' dd' hs=>?_;refine h _ _ (I.hok.fresh (bj _)) (I.laid (a:=s.heap.objs.size) (o:=.dK kvs) (t':=s.toks) (fun b q hq=>?_) (bj _) (Cw z (beq_eq_false_iff_ne.mpr (ko (bu I.big))) rel dd'));exact (hs.2 b (bu (ay hq))).trans (ab _ hq)
end
section
variable {X:Cx}
theorem Fe:dW X (.builtin "len") (fun xs H Q=>∃ a kvs,xs=[V.ref a]/\H a=some (.dK kvs)/\Q (.int kvs.length) H):=by
 intro pins s σ H xs us Q I r h;obtain ⟨a,kvs,rfl,ha,q⟩:=h;obtain ⟨u,rfl,ru⟩:=vals1 r;cases ru
 exact Qe I (.inl ha) fun t s' I'=>⟨.int kvs.length,H,I',⟨t,rfl⟩,q⟩
end
def bQ:Bool->Keyed->Array Keyed->Nat->Nat->Nat->StateT SortSt Sem (Option Nat):=sortPriv% PySem.Builtin.gallop
def dI (left:Bool) (key:Keyed) (arr:Array Keyed) (base i:Nat):StateT SortSt Sem (Option Bool):=do
  let x <- elem' arr (base+i)
  if left then lt' x key else return (<- lt' key x).map (!·)
def yI (left:Bool) (key:Keyed) (arr:Array Keyed) (base n lo hi:Nat):StateT SortSt Sem (Option Nat):=do
 let mut lo:=lo
 let mut hi:=hi
 for _ in [0:n] do
  if lo >= hi then break
  let m:=lo+(hi - lo) / 2
  let some more <- dI left key arr base m | return none
  if more then lo:=m+1 else hi:=m
 return some hi
def MM (left:Bool) (key:Keyed) (arr:Array Keyed) (base n hint:Nat):StateT SortSt Sem (Option Nat):=do
 let mut lastofs:=0
 let mut ofs:=1
 let maxofs:=n - hint
 for _ in [0:n] do
  if ofs >= maxofs then break
  let some more <- dI left key arr base (hint+ofs) | return none
  if !more then break
  lastofs:=ofs
  ofs:=2*ofs+1
 yI left key arr base n (hint+lastofs+1) (hint+min ofs maxofs)
def MN (left:Bool) (key:Keyed) (arr:Array Keyed) (base n hint:Nat):StateT SortSt Sem (Option Nat):=do
 let mut lastofs:=0
 let mut ofs:=1
 let maxofs:=hint+1
 for _ in [0:n] do
  if ofs >= maxofs then break
  let some found <- dI left key arr base (hint - ofs) | return none
  if found then break
  lastofs:=ofs
  ofs:=2*ofs+1
 yI left key arr base n (hint+1 - min ofs maxofs) (hint - lastofs)
theorem Cy (left:Bool) (key:Keyed) (arr:Array Keyed) (base n hint:Nat):bQ left key arr base n hint=(do
 let some right <- dI left key arr base hint | return none
 if right then MM left key arr base n hint else MN left key arr base n hint):=rfl
section
variable {M:Model} {A:Around} {E:Value->Shared->Prop} {s:Shared}
variable {left:Bool} {key:Keyed} {arr:Array Keyed} {base n hint:Nat} {bey:Nat->Bool} {st:SortSt} {Q:Option Nat->SortSt->Prop}
theorem dZ {lo hi:Nat} (hb:∀ i,i < n->∀ Q':Option Bool->SortSt->Prop,Q' (some (bey i)) st->wpS M A E s (dI left key arr base i) Q' st)
  (mono:∀ i j,i<=j->j < n->bey j=true->bey i=true) (h1:lo<=hi) (h2:hi<=n) (h3:∀ i,i < lo->bey i=true) (h4:∀ i,hi<=i->i < n->bey i=false)
  (k:∀ r,r<=n->(∀ i,i < r->bey i=true)->(∀ i,r<=i->i < n->bey i=false)->Q (some r) st):
  wpS M A E s (yI left key arr base n lo hi) Q st:=by
 unfold yI;refine aw (fu (fun i c st'=>st'=st/\∃ lo hi,c=(none,lo,hi)/\lo<=hi/\hi<=n/\hi - lo<=n - i/\(∀ i,i < lo->bey i=true)/\∀ i,hi<=i->i < n->bey i=false) (fun i c st' _ hi=>?_) (fun c st'=>?_) ⟨rfl,lo,hi,rfl,h1,h2,by omega,h3,h4⟩)
 ·rintro ⟨rfl,lo,hi,rfl,a1,a2,a3,a4,a5⟩;dsimp only
  by_cases c:lo >= hi
  ·rw [if_pos c];refine br (br (k hi a2 (fun i q=>a4 i (by omega)) a5))
  ·rw [if_neg c];refine aw (hb (lo+(hi - lo) / 2) (by omega) _ ?_);dsimp only;cases e:bey (lo+(hi - lo) / 2) with
   | true=>
    rw [if_pos rfl];exact br ⟨rfl,_,_,rfl,by omega,a2,by omega,fun i q=>mono i _ (by omega) (by omega) e,a5⟩
   | false=>
    rw [if_neg (by decide)];refine br ⟨rfl,_,_,rfl,by omega,by omega,by omega,a4,fun i q1 q2=>?_⟩;cases e2:bey i with
    | false=>rfl
    | true=>rw [mono _ i q1 q2 e2] at e; cases e
 ·rintro ⟨rfl,lo,hi,rfl,a1,a2,a3,a4,a5⟩;dsimp only;exact br (k hi a2 (fun i q=>a4 i (by omega)) a5)
theorem fL (hb:∀ i,i < n->∀ Q':Option Bool->SortSt->Prop,Q' (some (bey i)) st->wpS M A E s (dI left key arr base i) Q' st)
  (mono:∀ i j,i<=j->j < n->bey j=true->bey i=true) (hh:hint < n)
  (k:∀ r,r<=n->(∀ i,i < r->bey i=true)->(∀ i,r<=i->i < n->bey i=false)->Q (some r) st):
  wpS M A E s (bQ left key arr base n hint) Q st:=by
 have anti:∀ i j,i<=j->j < n->bey i=false->bey j=false:=fun i j h1 h2 h3=>by
  cases e:bey j with
  | false=>rfl
  | true=>rw [mono i j h1 h2 e] at h3; cases h3
 rw [Cy];refine aw (hb hint hh _ ?_);dsimp only;cases e:bey hint with
 | true=>
  rw [if_pos rfl];unfold MM;refine aw (fu (fun i c st'=>st'=st/\∃ la of,c=(none,la,of)/\la < of/\i < of/\hint+la < n/\bey (hint+la)=true) (fun i c st' _ hi=>?_) (fun c st'=>?_) ⟨rfl,0,1,rfl,by omega,by omega,hh,e⟩)
  ·rintro ⟨rfl,la,of,rfl,a1,a2,a3,a4⟩;dsimp only
   by_cases c:of >= n - hint
   ·rw [if_pos c];refine br ?_;dsimp only;exact dZ hb mono (by omega) (by omega) (fun i q=>mono i _ (by omega) a3 a4) (fun i q1 q2=>by omega) k
   ·rw [if_neg c];refine aw (hb (hint+of) (by omega) _ ?_);dsimp only;cases e2:bey (hint+of) with
    | true=>
     rw [if_neg (by decide)];exact br ⟨rfl,_,_,rfl,by omega,by omega,by omega,e2⟩
    | false=>
     rw [if_pos (by decide)];refine br ?_;dsimp only;exact dZ hb mono (by omega) (by omega) (fun i q=>mono i _ (by omega) a3 a4) (fun i q1 q2=>anti _ i (by omega) q2 e2) k
  ·rintro ⟨rfl,la,of,rfl,a1,a2,a3,a4⟩;dsimp only;exact dZ hb mono (by omega) (by omega) (fun i q=>mono i _ (by omega) a3 a4) (fun i q1 q2=>by omega) k
 | false=>
  rw [if_neg (by decide)];unfold MN;refine aw (fu (fun i c st'=>st'=st/\∃ la of,c=(none,la,of)/\la < of/\i < of/\la<=hint/\bey (hint - la)=false) (fun i c st' _ hi=>?_) (fun c st'=>?_) ⟨rfl,0,1,rfl,by omega,by omega,by omega,e⟩)
  ·rintro ⟨rfl,la,of,rfl,a1,a2,a3,a4⟩;dsimp only
   by_cases c:of >= hint+1
   ·rw [if_pos c];refine br ?_;dsimp only;exact dZ hb mono (by omega) (by omega) (fun i q=>by omega) (fun i q1 q2=>anti _ i (by omega) q2 a4) k
   ·rw [if_neg c];refine aw (hb (hint - of) (by omega) _ ?_);dsimp only;cases e2:bey (hint - of) with
    | true=>
     rw [if_pos rfl];refine br ?_;dsimp only;exact dZ hb mono (by omega) (by omega) (fun i q=>mono i (hint - of) (by omega) (by omega) e2) (fun i q1 q2=>anti _ i (by omega) q2 a4) k
    | false=>
     rw [if_neg (by decide)];exact br ⟨rfl,_,_,rfl,by omega,by omega,by omega,e2⟩
  ·rintro ⟨rfl,la,of,rfl,a1,a2,a3,a4⟩;dsimp only;exact dZ hb mono (by omega) (by omega) (fun i q=>by omega) (fun i q1 q2=>anti _ i (by omega) q2 a4) k
end
def sF:Array Keyed->Array Keyed->StateT SortSt Sem (Array Keyed):=sortPriv% PySem.Builtin.mergeLo
abbrev oS (g:Nat) (st:SortSt):SortSt:=SortSt.mk' (kindOf st) (arrOf st) (dh st) g (jx st)
def bS (g:Nat):StateT SortSt Sem Unit:=modify (oS g)
def cW (a b:Array Keyed) (out:Array Keyed) (ia ib:Nat):=out++a.extract ia a.size++b.extract ib b.size
def hZ (a b:Array Keyed) (out:Array Keyed) (ia ib:Nat):=out++b.extract ib b.size++a.extract ia a.size
theorem Av (a b:Array Keyed):sF a b=(do
 rule "list.sort.merge-lo"
 let total:=a.size+b.size
 let mut out:Array Keyed:=#[<- elem' b 0]
 let mut ia:=0
 let mut ib:=1
 if ib == b.size then return cW a b out ia ib
 if ia+1 == a.size then return hZ a b out ia ib
 let mut minGallop:=gallopOf (<- get)
 for _ in [0:total] do
  let mut acount:=0
  let mut bcount:=0
  for _ in [0:total] do
   let some bWins <- lt' (<- elem' b ib) (<- elem' a ia) | return cW a b out ia ib
   if bWins then
    out:=out.push (<- elem' b ib); ib:=ib+1; bcount:=bcount+1; acount:=0
    if ib == b.size then return cW a b out ia ib
    if bcount >= minGallop then break
   else
    out:=out.push (<- elem' a ia); ia:=ia+1; acount:=acount+1; bcount:=0
    if ia+1 == a.size then return hZ a b out ia ib
    if acount >= minGallop then break
  rule "list.sort.gallop"
  minGallop:=minGallop+1
  for _ in [0:total] do
   if minGallop > 1 then minGallop:=minGallop - 1
   bS minGallop
   let some k <- bQ false (<- elem' b ib) a ia (a.size - ia) 0 | return cW a b out ia ib
   acount:=k
   if k > 0 then
    out:=out++a.extract ia (ia+k); ia:=ia+k
    if ia+1 == a.size then return hZ a b out ia ib
    if ia == a.size then return cW a b out ia ib
   out:=out.push (<- elem' b ib); ib:=ib+1
   if ib == b.size then return cW a b out ia ib
   let some k <- bQ true (<- elem' a ia) b ib (b.size - ib) 0 | return cW a b out ia ib
   bcount:=k
   if k > 0 then
    out:=out++b.extract ib (ib+k); ib:=ib+k
    if ib == b.size then return cW a b out ia ib
   out:=out.push (<- elem' a ia); ia:=ia+1
   if ia+1 == a.size then return hZ a b out ia ib
   if acount < 7 && bcount < 7 then break
  minGallop:=minGallop+1
  bS minGallop
 unsupported "internal:list.sort.merge-bound"):=rfl
structure Ask (M:Model) (A:Around) (E:Value->Shared->Prop) (s:Shared) (κ:j7) (pr:Nat->Keyed) (n:Nat) (lt:Nat->Nat->Bool):Prop where
 tr:∀ i j k,i < n->j < n->k < n->lt j i=false->lt k j=false->lt k i=false
 as:∀ i j,i < n->j < n->lt i j=true->lt j i=false
 run:∀ (st:SortSt) i j,kindOf st=κ->i < n->j < n->∀ Q:Option Bool->SortSt->Prop,Q (some (lt i j)) st->wpS M A E s (lt' (pr i) (pr j)) Q st
def arr (pr:Nat->Keyed) (l:List Nat):Array Keyed:=(l.map pr).toArray
theorem cJ (pr:Nat->Keyed) (l:List Nat):(arr pr l).size=l.length:=by simp [arr]
theorem eS (pr:Nat->Keyed) (l:List Nat) (i:Nat):(arr pr l).push (pr i)=arr pr (l++[i]):=by simp [arr]
theorem cV (pr:Nat->Keyed) (l m:List Nat):arr pr l++arr pr m=arr pr (l++m):=by simp [arr]
theorem cF (pr:Nat->Keyed) (l:List Nat) (i j:Nat):(arr pr l).extract i j=arr pr ((l.drop i).take (j - i)):=by
 unfold arr;rw [List.extract_toArray,kz,m5]
theorem aO {M:Model} {A:Around} {E:Value->Shared->Prop} {s:Shared} {pr:Nat->Keyed} {l:List Nat} {i:Nat} {st:SortSt} {Q:Keyed->SortSt->Prop} (hi:i < l.length) (h:Q (pr (l.getD i 0)) st):wpS M A E s (elem' (arr pr l) i) Q st:=by
 rw [elem'_eq];have e:(arr pr l)[i]?=some (pr (l.getD i 0)):=by simp [arr,hi]
 rw [e];exact br h
structure MI (lt:Nat->Nat->Bool) (la lb lo:List Nat) (ia ib:Nat):Prop where
 perm:(lo++(la.drop ia++lb.drop ib)).Perm (la++lb)
 srt:lo.Pairwise fun i j=>lt j i=false
 low:∀ o∈lo,∀ x∈la.drop ia++lb.drop ib,lt x o=false
structure Two (lt:Nat->Nat->Bool) (n:Nat) (la lb:List Nat):Prop where
 sa:la.Pairwise fun i j=>lt j i=false
 sb:lb.Pairwise fun i j=>lt j i=false
 na:∀ x∈la,x < n
 nb:∀ x∈lb,x < n
def Mgd (pr:Nat->Keyed) (lt:Nat->Nat->Bool) (la lb:List Nat) (out:Array Keyed):Prop:=∃ lo:List Nat,out=arr pr lo/\lo.Perm (la++lb)/\lo.Pairwise fun i j=>lt j i=false
section
variable {lt:Nat->Nat->Bool} {n:Nat} {la lb lo:List Nat} {ia ib:Nat}
theorem cU {R:Nat->Nat->Prop} {l:List Nat} (h:l.Pairwise R) (k:Nat):(l.drop k).Pairwise R:=h.sublist (List.drop_sublist k l)
theorem Aw {R:Nat->Nat->Prop} {l:List Nat} (h:l.Pairwise R) (i k:Nat):∀ x∈(l.drop i).take k,∀ y∈l.drop (i+k),R x y:=fun x hx y hy=>by
 have hd:=cU h i;rw [<- bo k (l.drop i)] at hd;rw [<- List.drop_drop] at hy;exact (ar.mp hd).2.2 x hx y hy
theorem iA (l:List Nat) (i k:Nat):l.drop i=(l.drop i).take k++l.drop (i+k):=by
 rw [<- List.drop_drop,bo]
theorem MI.pushA (m:MI lt la lb lo ia ib) (t:Two lt n la lb) {k:Nat} (h:∀ x∈(la.drop ia).take k,∀ y∈lb.drop ib,lt y x=false):MI lt la lb (lo++(la.drop ia).take k) (ia+k) ib:=by
 have sub:∀ x∈(la.drop ia).take k,x∈la.drop ia:=fun x hx=>cu hx;have sub2:∀ x∈la.drop (ia+k),x∈la.drop ia:=fun x hx=>by rw [iA la ia k]; exact ah _ hx
 refine ⟨?_,?_,?_⟩
 ·refine i5 ?_ m.perm;rw [ai];refine cj _ ?_;rw [<- ai,<- iA]
 ·rw [ar];exact ⟨m.srt,(cU t.sa ia).sublist (List.take_sublist k _),fun o ho x hx=>m.low o ho x (cq _ (sub x hx))⟩
 ·intro o ho x hx;rcases au.mp ho with q | q
  ·refine m.low o q x ?_;rcases au.mp hx with z | z
   ·exact cq _ (sub2 x z)
   ·exact ah _ z
  ·rcases au.mp hx with z | z
   ·exact Aw t.sa ia k o q x z
   ·exact h o q x z
theorem MI.pushB (m:MI lt la lb lo ia ib) (t:Two lt n la lb) {k:Nat} (h:∀ x∈(lb.drop ib).take k,∀ y∈la.drop ia,lt y x=false):MI lt la lb (lo++(lb.drop ib).take k) ia (ib+k):=by
 have sub:∀ x∈(lb.drop ib).take k,x∈lb.drop ib:=fun x hx=>cu hx;have sub2:∀ x∈lb.drop (ib+k),x∈lb.drop ib:=fun x hx=>by rw [iA lb ib k]; exact ah _ hx
 refine ⟨?_,?_,?_⟩
 ·refine i5 ?_ m.perm;rw [ai];refine cj _ ?_;refine (List.perm_append_comm_assoc _ _ _).trans ?_;rw [<- iA]
 ·rw [ar];exact ⟨m.srt,(cU t.sb ib).sublist (List.take_sublist k _),fun o ho x hx=>m.low o ho x (ah _ (sub x hx))⟩
 ·intro o ho x hx;rcases au.mp ho with q | q
  ·refine m.low o q x ?_;rcases au.mp hx with z | z
   ·exact cq _ z
   ·exact ah _ (sub2 x z)
  ·rcases au.mp hx with z | z
   ·exact h o q x z
   ·exact Aw t.sb ib k o q x z
theorem bZ {l:List Nat} {i:Nat} (h:i < l.length):(l.drop i).take 1=[l.getD i 0]:=by
 rw [dj h,List.take_succ_cons,List.take_zero,ak,cm h];rfl
theorem MI.done {pr:Nat->Keyed} (m:MI lt la lb lo ia ib) (t:Two lt n la lb) (h:ia=la.length\/ib=lb.length):Mgd pr lt la lb (cW (arr pr la) (arr pr lb) (arr pr lo) ia ib):=by
 refine ⟨lo++la.drop ia++lb.drop ib,?_,by rw [ai]; exact m.perm,?_⟩
 ·unfold cW;rw [cF,cF,cV,cV,cJ,cJ,du (by rw [bz]; omega),du (by rw [bz]; omega)]
 ·rw [ai,ar];refine ⟨m.srt,?_,m.low⟩;rw [ar];refine ⟨cU t.sa _,cU t.sb _,fun x hx y hy=>?_⟩;rcases h with h | h
  ·rw [h] at hx; simp at hx
  ·rw [h] at hy; simp at hy
theorem MI.last {pr:Nat->Keyed} (m:MI lt la lb lo ia ib) (t:Two lt n la lb) (h:ia+1=la.length) (top:∀ x∈lb,lt (la.getD ia 0) x=false):Mgd pr lt la lb (hZ (arr pr la) (arr pr lb) (arr pr lo) ia ib):=by
 have ed:la.drop ia=[la.getD ia 0]:=by
  rw [<- bZ (by omega),du (by rw [bz]; omega)]
 refine ⟨lo++lb.drop ib++la.drop ia,?_,?_,?_⟩
 ·unfold hZ;rw [cF,cF,cV,cV,cJ,cJ,du (by rw [bz]; omega),du (by rw [bz]; omega)]
 ·refine i5 ?_ m.perm;rw [ai];exact cj _ jy
 ·rw [ai,ar];refine ⟨m.srt,?_,fun o ho x hx=>m.low o ho x (by rcases au.mp hx with z | z; exact ah _ z; exact cq _ z)⟩;rw [ar];refine ⟨cU t.sb _,cU t.sa _,fun x hx y hy=>?_⟩;rw [ed] at hy;simp at hy;rw [hy];have:=top x (df hx);simpa using this
end
section
variable {M:Model} {A:Around} {E:Value->Shared->Prop} {s:Shared} {κ:j7} {pr:Nat->Keyed} {n:Nat} {lt:Nat->Nat->Bool}
def Sg (st st':SortSt):Prop:=kindOf st'=kindOf st/\arrOf st'=arrOf st/\dh st'=dh st/\jx st'=jx st
theorem Sg.refl (st:SortSt):Sg st st:=⟨rfl,rfl,rfl,rfl⟩
theorem iB {g:Nat} {st:SortSt} {Q:Unit->SortSt->Prop} (h:Q () (oS g st)):wpS M A E s (bS g) Q st:=wpS_modify h
theorem fH {x:String} {st:SortSt} {Q:Unit->SortSt->Prop} (h:Q () st):wpS M A E s (liftM (rule x):StateT SortSt Sem Unit) Q st:=wpS_lift (lq ⟨rfl,h⟩)
theorem Ff (O:Ask M A E s κ pr n lt) {l:List Nat} (sl:l.Pairwise fun i j=>lt j i=false) (nl:∀ x∈l,x < n) {y i:Nat} (hy:y < n) (hi:i < l.length) {st:SortSt} (hk:kindOf st=κ) {Q:Option Nat->SortSt->Prop}
  (k:∀ r,i+r<=l.length->(∀ x∈(l.drop i).take r,lt y x=false)->(∀ x∈l.drop (i+r),lt y x=true)->Q (some r) st):wpS M A E s (bQ false (pr y) (arr pr l) i (l.length - i) 0) Q st:=by
 have at':∀ j,j < l.length->l.getD j 0∈l:=fun j hj=>by
  have:l.getD j 0=l[j]:=by simp [hj]
  rw [this]; exact cv hj
 refine fL (bey:=fun j=>!lt y (l.getD (i+j) 0)) (fun j hj Q' hq=>?_) (fun a b h1 h2 h3=>?_) (by omega) (fun r h1 h2 h3=>k r (by omega) (fun x hx=>?_) (fun x hx=>?_))
 ·unfold dI;refine aw (aO (by omega) ?_);rw [if_neg (by decide)];refine aw (O.run st _ _ hk hy (nl _ (at' _ (by omega))) _ ?_);exact br hq
 ·rw [ji] at h3 ⊢
  by_cases e:a=b
  ·subst e; exact h3
  ·have q:=c8.mp sl (i+a) (i+b) (by omega) (by omega) (by omega);have e1:l.getD (i+a) 0=l[i+a]:=by simp [show i+a < l.length by omega]
   have e2:l.getD (i+b) 0=l[i+b]:=by simp [show i+b < l.length by omega]
   rw [e2] at h3;rw [e1];exact O.tr _ _ _ (nl _ (cv _)) (nl _ (cv _)) hy q h3
 ·obtain ⟨j,hj,rfl⟩:=d7 hx;rw [bq,bz] at hj;have:=h2 j (by omega);rw [ji] at this;rw [fh,ij];simpa [show i+j < l.length by omega] using this
 ·obtain ⟨j,hj,rfl⟩:=d7 hx;rw [bz] at hj;have:=h3 (r+j) (by omega) (by omega);rw [Bool.not_eq_false'] at this;rw [ij];have e:i+(r+j)=i+r+j:=by omega
  rw [e] at this;simpa [show i+r+j < l.length by omega] using this
theorem Ax (O:Ask M A E s κ pr n lt) {l:List Nat} (sl:l.Pairwise fun i j=>lt j i=false) (nl:∀ x∈l,x < n) {y i c:Nat} (hy:y < n) (hc:i+c<=l.length) {hint:Nat} (hi:hint < c) {st:SortSt} (hk:kindOf st=κ) {Q:Option Nat->SortSt->Prop}
  (k:∀ r,r<=c->(∀ x∈(l.drop i).take r,lt x y=true)->(∀ j,r<=j->j < c->lt (l.getD (i+j) 0) y=false)->Q (some r) st):wpS M A E s (bQ true (pr y) (arr pr l) i c hint) Q st:=by
 have at':∀ j,j < l.length->l.getD j 0∈l:=fun j hj=>by
  have:l.getD j 0=l[j]:=by simp [hj]
  rw [this]; exact cv hj
 refine fL (bey:=fun j=>lt (l.getD (i+j) 0) y) (fun j hj Q' hq=>?_) (fun a b h1 h2 h3=>?_) hi (fun r h1 h2 h3=>k r h1 (fun x hx=>?_) h3)
 ·unfold dI;refine aw (aO (by omega) ?_);rw [if_pos rfl];exact O.run st _ _ hk (nl _ (at' _ (by omega))) hy _ hq
 ·by_cases e:a=b
  ·subst e; exact h3
  ·have q:=c8.mp sl (i+a) (i+b) (by omega) (by omega) (by omega);have e1:l.getD (i+a) 0=l[i+a]:=by simp [show i+a < l.length by omega]
   have e2:l.getD (i+b) 0=l[i+b]:=by simp [show i+b < l.length by omega]
   show lt (l.getD (i+a) 0) y=true
   have h3:lt (l.getD (i+b) 0) y=true:=h3;rw [e2] at h3;rw [e1];cases z:lt l[i+a] y with
   | true=>rfl
   | false=>
    have:=O.tr y _ _ hy (nl _ (cv _)) (nl _ (cv _)) z q;rw [this] at h3;cases h3
 ·obtain ⟨j,hj,rfl⟩:=d7 hx;rw [bq,bz] at hj;have:lt (l.getD (i+j) 0) y=true:=h2 j (by omega);rw [fh,ij];simpa [show i+j < l.length by omega] using this
end
def Kk (a b:Array Keyed) (na nb g ac bc ia:Nat) (out:Array Keyed) (ib:Nat):StateT SortSt Sem (ForInStep (Option (Array Keyed)×Array Keyed×Nat×Nat×Nat×Nat×Nat)):=do
 let z <- elem' a ia
 if ia+1+1 == na then pure (.done (some (hZ a b (out.push z) (ia+1) ib),out.push z,ia+1,ib,g,ac,bc))
 else if ac < 7 && bc < 7 then pure (.done (none,out.push z,ia+1,ib,g,ac,bc))
 else pure (.yield (none,out.push z,ia+1,ib,g,ac,bc))
def Kl (a b:Array Keyed) (na nb g ac bc ib:Nat) (out:Array Keyed) (ia:Nat):StateT SortSt Sem (ForInStep (Option (Array Keyed)×Array Keyed×Nat×Nat×Nat×Nat×Nat)):=do
 let z <- elem' b ib
 if ib+1 == nb then pure (.done (some (cW a b (out.push z) ia (ib+1)),out.push z,ia,ib+1,g,ac,bc))
 else
  let some k <- bQ true (<- elem' a ia) b (ib+1) (nb - (ib+1)) 0 | pure (.done (some (cW a b (out.push z) ia (ib+1)),out.push z,ia,ib+1,g,ac,bc))
  if k > 0 then
   if ib+1+k == nb then pure (.done (some (cW a b (out.push z++b.extract (ib+1) (ib+1+k)) ia (ib+1+k)),out.push z++b.extract (ib+1) (ib+1+k),ia,ib+1+k,g,ac,k))
   else Kk a b na nb g ac k ia (out.push z++b.extract (ib+1) (ib+1+k)) (ib+1+k)
  else Kk a b na nb g ac k ia (out.push z) (ib+1)
def Qf (a b:Array Keyed) (na nb:Nat) (out:Array Keyed) (ia ib ac bc g:Nat):StateT SortSt Sem (ForInStep (Option (Array Keyed)×Array Keyed×Nat×Nat×Nat×Nat×Nat)):=do
 bS g
 let some k <- bQ false (<- elem' b ib) a ia (na - ia) 0 | pure (.done (some (cW a b out ia ib),out,ia,ib,g,ac,bc))
 if k > 0 then
  if ia+k+1 == na then pure (.done (some (hZ a b (out++a.extract ia (ia+k)) (ia+k) ib),out++a.extract ia (ia+k),ia+k,ib,g,k,bc))
  else if ia+k == na then pure (.done (some (cW a b (out++a.extract ia (ia+k)) (ia+k) ib),out++a.extract ia (ia+k),ia+k,ib,g,k,bc))
  else Kl a b na nb g k bc ib (out++a.extract ia (ia+k)) (ia+k)
 else Kl a b na nb g k bc ib out ia
def Ig (pr:Nat->Keyed) (lt:Nat->Nat->Bool) (la lb:List Nat) (st:SortSt) (p:Nat) (c:Option (Array Keyed)×Array Keyed×Nat×Nat×Nat×Nat×Nat) (st':SortSt):Prop:=Sg st st'/\∃ lo ia ib g ac bc,c=(none,arr pr lo,ia,ib,g,ac,bc)/\MI lt la lb lo ia ib/\ia+1 < la.length/\ib < lb.length/\p<=ia+ib
def Qg (pr:Nat->Keyed) (lt:Nat->Nat->Bool) (la lb:List Nat) (st:SortSt) (p:Nat) (c:Option (Array Keyed)×Array Keyed×Nat×Nat×Nat×Nat×Nat) (st':SortSt):Prop:=(Sg st st'/\∃ r d,c=(some r,d)/\Mgd pr lt la lb r)\/Ig pr lt la lb st p c st'
def Rg (pr:Nat->Keyed) (lt:Nat->Nat->Bool) (la lb:List Nat) (st:SortSt) (p:Nat) (r:ForInStep (Option (Array Keyed)×Array Keyed×Nat×Nat×Nat×Nat×Nat)) (st':SortSt):Prop:=match r with
 | .done c=>Qg pr lt la lb st p c st'
 | .yield c=>Ig pr lt la lb st p c st'
section
variable {M:Model} {A:Around} {E:Value->Shared->Prop} {s:Shared} {κ:j7} {pr:Nat->Keyed} {n:Nat} {lt:Nat->Nat->Bool} {la lb:List Nat}
theorem aP {l:List Nat} {i:Nat} (h:i < l.length):l.getD i 0∈l:=by
 have:l.getD i 0=l[i]:=by simp [h]
 rw [this]; exact cv h
theorem mU (O:Ask M A E s κ pr n lt) {l:List Nat} (sl:l.Pairwise fun i j=>lt j i=false) (nl:∀ x∈l,x < n) {x i:Nat} (hx:x < n) (hi:i < l.length) (h:lt (l.getD i 0) x=false):∀ y∈l.drop i,lt y x=false:=fun y hy=>by
 have hd:=cU sl i;rw [dj hi] at hd hy;have e:l.getD i 0=l[i]:=by simp [hi]
 rw [e] at h;rcases bw.mp hy with rfl | q
 ·exact h
 ·exact O.tr _ _ _ hx (nl _ (cv hi)) (nl _ (df q)) h ((jc.mp hd).1 y q)
theorem Two.pa (O:Ask M A E s κ pr n lt) (t:Two lt n la lb) {lo:List Nat} {ia ib:Nat} (m:MI lt la lb lo ia ib) (ha:ia < la.length) (hb:ib < lb.length) (e:lt (lb.getD ib 0) (la.getD ia 0)=false):MI lt la lb (lo++[la.getD ia 0]) (ia+1) ib:=by
 have:=m.pushA t (k:=1) fun x hx=>by
  rw [bZ ha] at hx;simp at hx;rw [hx];have:=mU O t.sb t.nb (t.na _ (aP ha)) hb e;simpa using this
 rwa [bZ ha] at this
theorem Two.pb (O:Ask M A E s κ pr n lt) (t:Two lt n la lb) {lo:List Nat} {ia ib:Nat} (m:MI lt la lb lo ia ib) (ha:ia < la.length) (hb:ib < lb.length) (e:lt (lb.getD ib 0) (la.getD ia 0)=true):MI lt la lb (lo++[lb.getD ib 0]) ia (ib+1):=by
 have:=m.pushB t (k:=1) fun x hx=>by
  rw [bZ hb] at hx;simp at hx;rw [hx];have:=mU O t.sa t.na (t.nb _ (aP hb)) ha (O.as _ _ (t.nb _ (aP hb)) (t.na _ (aP ha)) e);simpa using this
 rwa [bZ hb] at this
theorem Ay (O:Ask M A E s κ pr n lt) (t:Two lt n la lb) (top:∀ x∈lb,lt (la.getD (la.length - 1) 0) x=false) {st st3:SortSt} (sg:Sg st st3) {lo:List Nat} {ia ib p:Nat} (m:MI lt la lb lo ia ib) (ha:ia+1 < la.length) (hb:ib < lb.length) (h:∀ y∈lb.drop ib,lt y (la.getD ia 0)=false) (pg:p<=ia+ib) (g ac bc:Nat):wpS M A E s (Kk (arr pr la) (arr pr lb) la.length lb.length g ac bc ia (arr pr lo) ib) (Rg pr lt la lb st p) st3:=by
 unfold Kk;refine aw (aO (by omega) ?_);have m':MI lt la lb (lo++[la.getD ia 0]) (ia+1) ib:=by
  have:=m.pushA t (k:=1) fun x hx=>by
   rw [bZ (by omega)] at hx;simp at hx;rw [hx];simpa using h
  rwa [bZ (by omega)] at this
 rw [eS]
 by_cases c3:(ia+1+1 == la.length)=true
 ·rw [if_pos c3];rw [beq_iff_eq] at c3;refine br (.inl ⟨sg,_,_,rfl,m'.last t c3 ?_⟩);have:ia+1=la.length - 1:=by omega
  rw [this]; exact top
 rw [if_neg c3];rw [beq_iff_eq] at c3
 by_cases c4:(decide (ac < 7) && decide (bc < 7))=true
 ·rw [if_pos c4];exact br (.inr ⟨sg,_,_,_,_,_,_,rfl,m',by omega,hb,by omega⟩)
 ·rw [if_neg c4];exact br ⟨sg,_,_,_,_,_,_,rfl,m',by omega,hb,by omega⟩
theorem Az (O:Ask M A E s κ pr n lt) (t:Two lt n la lb) (top:∀ x∈lb,lt (la.getD (la.length - 1) 0) x=false) {st st3:SortSt} (hk:kindOf st=κ) (sg:Sg st st3) {lo:List Nat} {ia ib p:Nat} (m:MI lt la lb lo ia ib) (ha:ia+1 < la.length) (hb:ib < lb.length) (h:∀ x∈la.drop ia,lt (lb.getD ib 0) x=true) (pg:p<=ia+ib) (g ac bc:Nat):wpS M A E s (Kl (arr pr la) (arr pr lb) la.length lb.length g ac bc ib (arr pr lo) ia) (Rg pr lt la lb st p) st3:=by
 unfold Kl;refine aw (aO hb ?_);have hm:la.getD ia 0∈la.drop ia:=by
  have e:la.getD ia 0=la[ia]:=by simp [show ia < la.length by omega]
  rw [e,dj (show ia < la.length by omega)];exact bg
 have m':=t.pb O m (by omega) hb (h _ hm);rw [eS]
 by_cases c3:(ib+1 == lb.length)=true
 ·rw [if_pos c3];rw [beq_iff_eq] at c3;exact br (.inl ⟨sg,_,_,rfl,m'.done t (.inr c3)⟩)
 rw [if_neg c3];rw [beq_iff_eq] at c3;have hx:la.getD ia 0 < n:=t.na _ (aP (by omega));refine aw (aO (by omega) (aw (Ax O t.sb t.nb hx (by omega) (by omega) (sg.1.trans hk) fun r a1 a2 a3=>?_)));dsimp only;have rest:∀ y∈lb.drop (ib+1+r),lt y (la.getD ia 0)=false:=fun y hy=>by
  obtain ⟨j,hj,rfl⟩:=d7 hy;rw [bz] at hj;have:=a3 (r+j) (by omega) (by omega);rw [show ib+1+(r+j)=ib+1+r+j by omega] at this;rw [ij];simpa [show ib+1+r+j < lb.length by omega] using this
 by_cases c5:r > 0
 ·rw [if_pos c5,cF,cV,show ib+1+r - (ib+1)=r by omega];have m2:=m'.pushB t (k:=r) fun x hx'=>by
   have hxn:=t.nb x (df (cu hx'));exact mU O t.sa t.na hxn (by omega) (O.as _ _ hxn hx (a2 x hx'))
  by_cases c6:(ib+1+r == lb.length)=true
  ·rw [if_pos c6];rw [beq_iff_eq] at c6;exact br (.inl ⟨sg,_,_,rfl,m2.done t (.inr c6)⟩)
  rw [if_neg c6];rw [beq_iff_eq] at c6;exact Ay O t top sg m2 ha (by omega) rest (by omega) _ _ _
 ·rw [if_neg c5];obtain rfl:r=0:=by omega
  exact Ay O t top sg m' ha (by omega) rest (by omega) _ _ _
theorem AA (O:Ask M A E s κ pr n lt) (t:Two lt n la lb) (top:∀ x∈lb,lt (la.getD (la.length - 1) 0) x=false) {st st3:SortSt} (hk:kindOf st=κ) (sg:Sg st st3) {lo:List Nat} {ia ib p:Nat} (m:MI lt la lb lo ia ib) (ha:ia+1 < la.length) (hb:ib < lb.length) (pg:p<=ia+ib) (ac bc g:Nat):wpS M A E s (Qf (arr pr la) (arr pr lb) la.length lb.length (arr pr lo) ia ib ac bc g) (Rg pr lt la lb st p) st3:=by
 unfold Qf;refine aw (iB (aw (aO hb (aw (Ff (i:=ia) (st:=oS g st3) O t.sa t.na (t.nb _ (aP hb)) (by omega) (sg.1.trans hk) fun r a1 a2 a3=>?_)))));dsimp only;have sg':Sg st (oS g st3):=sg
 by_cases c5:r > 0
 ·rw [if_pos c5,cF,cV,show ia+r - ia=r by omega];have m':=m.pushA t (k:=r) fun x hx=>mU O t.sb t.nb (t.na x (df (cu hx))) hb (a2 x hx)
  by_cases c6:(ia+r+1 == la.length)=true
  ·rw [if_pos c6];rw [beq_iff_eq] at c6;refine br (.inl ⟨sg',_,_,rfl,m'.last t c6 ?_⟩);have:ia+r=la.length - 1:=by omega
   rw [this]; exact top
  rw [if_neg c6];rw [beq_iff_eq] at c6
  by_cases c7:(ia+r == la.length)=true
  ·rw [if_pos c7];rw [beq_iff_eq] at c7;exact br (.inl ⟨sg',_,_,rfl,m'.done t (.inl c7)⟩)
  rw [if_neg c7];rw [beq_iff_eq] at c7;exact Az O t top hk sg' m' (by omega) hb a3 (by omega) _ _ _
 ·rw [if_neg c5];obtain rfl:r=0:=by omega
  exact Az O t top hk sg' m ha hb a3 pg _ _ _
theorem AB (O:Ask M A E s κ pr n lt) (t:Two lt n la lb) (h1:0 < la.length) (h2:0 < lb.length) (first:lt (lb.getD 0 0) (la.getD 0 0)=true) (top:∀ x∈lb,lt (la.getD (la.length - 1) 0) x=false) {st:SortSt} (hk:kindOf st=κ) {Q:Array Keyed->SortSt->Prop}
  (k:∀ out st',Sg st st'->Mgd pr lt la lb out->Q out st'):wpS M A E s (sF (arr pr la) (arr pr lb)) Q st:=by
 have m0:MI lt la lb [] 0 0:=⟨by simp,ix,fun o ho=>by simp at ho⟩;have m1:=t.pb O m0 h1 h2 first
 have lst:∀ {lo:List Nat} {ia ib:Nat},MI lt la lb lo ia ib->ia+1=la.length->Mgd pr lt la lb (hZ (arr pr la) (arr pr lb) (arr pr lo) ia ib):=fun {lo ia ib} m h=>m.last t h (by
  have:ia=la.length - 1:=by omega
  rw [this]; exact top)
 rw [Av,cJ,cJ];refine aw (fH ?_);refine aw (aO h2 ?_);dsimp only
 by_cases c1:(1 == lb.length)=true
 ·rw [if_pos c1];rw [beq_iff_eq] at c1;exact br (k _ _ (Sg.refl _) (m1.done t (.inr c1)))
 rw [if_neg c1];rw [beq_iff_eq] at c1
 by_cases c2:(0+1 == la.length)=true
 ·rw [if_pos c2];rw [beq_iff_eq] at c2;exact br (k _ _ (Sg.refl _) (lst m1 c2))
 rw [if_neg c2];rw [beq_iff_eq] at c2;refine aw (wpS_get ?_);refine aw (jq (fu (fun i c st'=>Sg st st'/\∃ lo ia ib g,c=(none,arr pr lo,ia,ib,g)/\MI lt la lb lo ia ib/\ia+1 < la.length/\ib < lb.length/\i+1<=ia+ib) (Q:=fun c st'=>Sg st st'/\∃ r d,c=(some r,d)/\Mgd pr lt la lb r) (fun i c st' _ hi=>?_) (fun c st'=>?_) ⟨Sg.refl _,[lb.getD 0 0],0,1,_,rfl,m1,by omega,by omega,by omega⟩) fun c st' hq=>?_)
 ·rintro ⟨sg,lo,ia,ib,g,rfl,m,ha,hb,pg⟩;dsimp only;refine aw (jq (fu (fun j c st''=>Sg st st''/\∃ lo ia ib ac bc,c=(none,arr pr lo,ia,ib,ac,bc)/\MI lt la lb lo ia ib/\ia+1 < la.length/\ib < lb.length/\i+1+j<=ia+ib) (Q:=fun c st''=>Sg st st''/\((∃ r d,c=(some r,d)/\Mgd pr lt la lb r)\/∃ lo ia ib ac bc,c=(none,arr pr lo,ia,ib,ac,bc)/\MI lt la lb lo ia ib/\ia+1 < la.length/\ib < lb.length/\i+2<=ia+ib)) (fun j c st'' _ hj=>?_) (fun c st''=>?_) ⟨sg,lo,ia,ib,0,0,rfl,m,ha,hb,by omega⟩) fun c st'' hq=>?_)
  ·rintro ⟨sg,lo,ia,ib,ac,bc,rfl,m,ha,hb,pg⟩;dsimp only;refine aw (aO hb (aw (aO (by omega) (aw (O.run st'' _ _ (sg.1.trans hk) (t.nb _ (aP hb)) (t.na _ (aP (by omega))) _ ?_)))));dsimp only;cases e:lt (lb.getD ib 0) (la.getD ia 0) with
   | true=>
    rw [if_pos rfl];refine aw (aO hb ?_);have m':=t.pb O m (by omega) hb e;rw [eS]
    by_cases c3:(ib+1 == lb.length)=true
    ·rw [if_pos c3];rw [beq_iff_eq] at c3;exact br ⟨sg,.inl ⟨_,_,rfl,m'.done t (.inr c3)⟩⟩
    rw [if_neg c3];rw [beq_iff_eq] at c3
    by_cases c4:bc+1 >= g
    ·rw [if_pos c4];exact br ⟨sg,.inr ⟨_,_,_,_,_,rfl,m',ha,by omega,by omega⟩⟩
    ·rw [if_neg c4];exact br ⟨sg,_,_,_,_,_,rfl,m',ha,by omega,by omega⟩
   | false=>
    rw [if_neg (by decide)];refine aw (aO (by omega) ?_);have m':=t.pa O m (by omega) hb e;rw [eS]
    by_cases c3:(ia+1+1 == la.length)=true
    ·rw [if_pos c3];rw [beq_iff_eq] at c3;exact br ⟨sg,.inl ⟨_,_,rfl,lst m' c3⟩⟩
    rw [if_neg c3];rw [beq_iff_eq] at c3
    by_cases c4:ac+1 >= g
    ·rw [if_pos c4];exact br ⟨sg,.inr ⟨_,_,_,_,_,rfl,m',by omega,hb,by omega⟩⟩
    ·rw [if_neg c4];exact br ⟨sg,_,_,_,_,_,rfl,m',by omega,hb,by omega⟩
  ·rintro ⟨sg,lo,ia,ib,ac,bc,rfl,m,ha,hb,pg⟩;exact ⟨sg,.inr ⟨_,_,_,_,_,rfl,m,ha,hb,by omega⟩⟩
  ·obtain ⟨sg,⟨r,d,rfl,mg⟩ | ⟨lo,ia,ib,ac,bc,rfl,m,ha,hb,pg⟩⟩:=hq
   ·exact br ⟨sg,_,_,rfl,mg⟩
   dsimp only;refine aw (fH ?_);refine aw (jq (fu (fun j c st''=>Ig pr lt la lb st (i+2) c st'') (Q:=Qg pr lt la lb st (i+2)) (fun j c st'' _ hj=>?_) (fun c st'' h=>.inr h) ⟨sg,lo,ia,ib,_,ac,bc,rfl,m,ha,hb,pg⟩) fun c st'' hq=>?_)
   ·rintro ⟨sg,lo,ia,ib,g,ac,bc,rfl,m,ha,hb,pg⟩;dsimp only
    by_cases cg:g > 1
    ·rw [if_pos cg];exact jq (AA O t top hk sg m ha hb pg ac bc (g - 1)) fun r _ h=>by cases r <;> exact h
    ·rw [if_neg cg];exact jq (AA O t top hk sg m ha hb pg ac bc g) fun r _ h=>by cases r <;> exact h
   ·rcases hq with ⟨sg,r,d,rfl,mg⟩ | ⟨sg,lo,ia,ib,g,ac,bc,rfl,m,ha,hb,pg⟩
    ·exact br ⟨sg,_,_,rfl,mg⟩
    ·dsimp only;exact aw (iB (br ⟨sg,_,_,_,_,rfl,m,ha,hb,by omega⟩))
 ·rintro ⟨sg,lo,ia,ib,g,rfl,m,ha,hb,pg⟩;omega
 ·obtain ⟨sg,r,d,rfl,mg⟩:=hq;exact br (k _ _ sg mg)
end
def sG:Array Keyed->Array Keyed->StateT SortSt Sem (Array Keyed):=sortPriv% PySem.Builtin.mergeHi
def cX (a b:Array Keyed) (out:Array Keyed) (na nb:Nat):=a.extract 0 na++b.extract 0 nb++out.reverse
def fY (a b:Array Keyed) (out:Array Keyed) (na nb:Nat):=b.extract 0 nb++a.extract 0 na++out.reverse
theorem AC (a b:Array Keyed):sG a b=(do
 rule "list.sort.merge-hi"
 let total:=a.size+b.size
 let mut na:=a.size - 1
 let mut nb:=b.size
 let mut out:Array Keyed:=#[<- elem' a na]
 if na == 0 then return cX a b out na nb
 if nb == 1 then return fY a b out na nb
 let mut minGallop:=gallopOf (<- get)
 for _ in [0:total] do
  let mut acount:=0
  let mut bcount:=0
  for _ in [0:total] do
   let some aWins <- lt' (<- elem' b (nb - 1)) (<- elem' a (na - 1)) | return cX a b out na nb
   if aWins then
    na:=na - 1; out:=out.push (<- elem' a na); acount:=acount+1; bcount:=0
    if na == 0 then return cX a b out na nb
    if acount >= minGallop then break
   else
    nb:=nb - 1; out:=out.push (<- elem' b nb); bcount:=bcount+1; acount:=0
    if nb == 1 then return fY a b out na nb
    if bcount >= minGallop then break
  rule "list.sort.gallop"
  minGallop:=minGallop+1
  for _ in [0:total] do
   if minGallop > 1 then minGallop:=minGallop - 1
   bS minGallop
   let some at_ <- bQ false (<- elem' b (nb - 1)) a 0 na (na - 1) | return cX a b out na nb
   let k:=na - at_
   acount:=k
   if k > 0 then
    out:=out++(a.extract at_ na).reverse; na:=at_
    if na == 0 then return cX a b out na nb
   nb:=nb - 1; out:=out.push (<- elem' b nb)
   if nb == 1 then return fY a b out na nb
   let some at_ <- bQ true (<- elem' a (na - 1)) b 0 nb (nb - 1) | return cX a b out na nb
   let k:=nb - at_
   bcount:=k
   if k > 0 then
    out:=out++(b.extract at_ nb).reverse; nb:=at_
    if nb == 1 then return fY a b out na nb
    if nb == 0 then return cX a b out na nb
   na:=na - 1; out:=out.push (<- elem' a na)
   if na == 0 then return cX a b out na nb
   if acount < 7 && bcount < 7 then break
  minGallop:=minGallop+1
  bS minGallop
 unsupported "internal:list.sort.merge-bound"):=rfl
abbrev D2:=Option (Array Keyed)×Nat×Nat×Array Keyed×Nat×Nat×Nat
def Km (a b:Array Keyed) (g ac bc na nb:Nat) (out:Array Keyed):StateT SortSt Sem (ForInStep D2):=do
 let z <- elem' a (na - 1)
 if na - 1 == 0 then pure (.done (some (cX a b (out.push z) (na - 1) nb),na - 1,nb,out.push z,g,ac,bc))
 else if ac < 7 && bc < 7 then pure (.done (none,na - 1,nb,out.push z,g,ac,bc))
 else pure (.yield (none,na - 1,nb,out.push z,g,ac,bc))
def Kn (a b:Array Keyed) (g ac bc nb na:Nat) (out:Array Keyed):StateT SortSt Sem (ForInStep D2):=do
 let z <- elem' b (nb - 1)
 if nb - 1 == 1 then pure (.done (some (fY a b (out.push z) na (nb - 1)),na,nb - 1,out.push z,g,ac,bc))
 else
  let some at_ <- bQ true (<- elem' a (na - 1)) b 0 (nb - 1) (nb - 1 - 1) | pure (.done (some (cX a b (out.push z) na (nb - 1)),na,nb - 1,out.push z,g,ac,bc))
  if nb - 1 - at_ > 0 then
   if at_ == 1 then pure (.done (some (fY a b (out.push z++(b.extract at_ (nb - 1)).reverse) na at_),na,at_,out.push z++(b.extract at_ (nb - 1)).reverse,g,ac,nb - 1 - at_))
   else if at_ == 0 then pure (.done (some (cX a b (out.push z++(b.extract at_ (nb - 1)).reverse) na at_),na,at_,out.push z++(b.extract at_ (nb - 1)).reverse,g,ac,nb - 1 - at_))
   else Km a b g ac (nb - 1 - at_) na at_ (out.push z++(b.extract at_ (nb - 1)).reverse)
  else Km a b g ac (nb - 1 - at_) na (nb - 1) (out.push z)
def Qi (a b:Array Keyed) (out:Array Keyed) (na nb ac bc g:Nat):StateT SortSt Sem (ForInStep D2):=do
 bS g
 let some at_ <- bQ false (<- elem' b (nb - 1)) a 0 na (na - 1) | pure (.done (some (cX a b out na nb),na,nb,out,g,ac,bc))
 if na - at_ > 0 then
  if at_ == 0 then pure (.done (some (cX a b (out++(a.extract at_ na).reverse) at_ nb),at_,nb,out++(a.extract at_ na).reverse,g,na - at_,bc))
  else Kn a b g (na - at_) bc nb at_ (out++(a.extract at_ na).reverse)
 else Kn a b g (na - at_) bc nb na out
theorem rG (pr:Nat->Keyed) (l:List Nat):(arr pr l).reverse=arr pr l.reverse:=by simp [arr]
structure MH (lt:Nat->Nat->Bool) (la lb lo:List Nat) (na nb:Nat):Prop where
 perm:(la.take na++(lb.take nb++lo)).Perm (la++lb)
 srt:lo.Pairwise fun i j=>lt i j=false
 hi:∀ o∈lo,∀ x∈la.take na++lb.take nb,lt o x=false
section
variable {lt:Nat->Nat->Bool} {n:Nat} {la lb lo:List Nat} {na nb k:Nat}
theorem cY {l:List Nat} {i k:Nat} (h:i<=k):l.take k=l.take i++(l.take k).drop i:=by
 have:=bo i (l.take k);rw [List.take_take,Nat.min_eq_left h] at this;exact this.symm
theorem dJ {R:Nat->Nat->Prop} {l:List Nat} (h:l.Pairwise R) (k:Nat):(l.take k).Pairwise R:=h.sublist (List.take_sublist k l)
theorem E5 {R:Nat->Nat->Prop} {l:List Nat} (h:l.Pairwise R) {i k:Nat} (hi:i<=k):∀ x∈(l.take k).drop i,∀ y∈l.take i,R y x:=fun x hx y hy=>by
 have ht:=dJ h k;rw [cY hi] at ht;exact (ar.mp ht).2.2 y hy x hx
theorem MH.pushA (m:MH lt la lb lo na nb) (t:Two lt n la lb) (hk:k<=na) (h:∀ x∈(la.take na).drop k,∀ y∈lb.take nb,lt x y=false):MH lt la lb (lo++((la.take na).drop k).reverse) k nb:=by
 have sub:∀ x∈(la.take na).drop k,x∈la.take na:=fun x hx=>df hx;have sub2:∀ x∈la.take k,x∈la.take na:=fun x hx=>by rw [cY hk]; exact cq _ hx
 refine ⟨?_,?_,?_⟩
 ·refine i5 ?_ m.perm
  conv=>rhs; rw [cY (l:=la) hk,ai]
  refine cj _ ?_;have p1:(lb.take nb++(lo++((la.take na).drop k).reverse)).Perm ((lb.take nb++lo)++(la.take na).drop k):=by
   rw [<- ai];exact cj _ (gg _)
  exact p1.trans jy
 ·rw [ar];refine ⟨m.srt,?_,fun o ho x hx=>m.hi o ho x (cq _ (sub x (gc.mp hx)))⟩;rw [f9];exact (dJ t.sa na).sublist (List.drop_sublist k _)
 ·intro o ho x hx;rcases au.mp ho with q | q
  ·refine m.hi o q x ?_;rcases au.mp hx with z | z
   ·exact cq _ (sub2 x z)
   ·exact ah _ z
  ·have q:=gc.mp q;rcases au.mp hx with z | z
   ·exact E5 t.sa hk o q x z
   ·exact h o q x z
theorem MH.pushB (m:MH lt la lb lo na nb) (t:Two lt n la lb) (hk:k<=nb) (h:∀ x∈(lb.take nb).drop k,∀ y∈la.take na,lt x y=false):MH lt la lb (lo++((lb.take nb).drop k).reverse) na k:=by
 have sub:∀ x∈(lb.take nb).drop k,x∈lb.take nb:=fun x hx=>df hx;have sub2:∀ x∈lb.take k,x∈lb.take nb:=fun x hx=>by rw [cY hk]; exact cq _ hx
 refine ⟨?_,?_,?_⟩
 ·refine i5 (cj _ ?_) m.perm;have p1:(lb.take k++(lo++((lb.take nb).drop k).reverse)).Perm (lb.take k++((lb.take nb).drop k++lo)):=by
   refine cj _ ?_;exact (cj _ (gg _)).trans jy
  refine p1.trans ?_;rw [<- ai,<- cY hk]
 ·rw [ar];refine ⟨m.srt,?_,fun o ho x hx=>m.hi o ho x (ah _ (sub x (gc.mp hx)))⟩;rw [f9];exact (dJ t.sb nb).sublist (List.drop_sublist k _)
 ·intro o ho x hx;rcases au.mp ho with q | q
  ·refine m.hi o q x ?_;rcases au.mp hx with z | z
   ·exact cq _ z
   ·exact ah _ (sub2 x z)
  ·have q:=gc.mp q;rcases au.mp hx with z | z
   ·exact h o q x z
   ·exact E5 t.sb hk o q x z
theorem gP {l:List Nat} {i:Nat} (h0:0 < i) (h:i<=l.length):(l.take i).drop (i - 1)=[l.getD (i - 1) 0]:=by
 have hl:(l.take i).length=i:=by rw [bq]; omega
 rw [dj (by omega),fw (by omega),fh,ak,cm (show i - 1 < l.length by omega)];rfl
theorem MH.done {pr:Nat->Keyed} (m:MH lt la lb lo na nb) (t:Two lt n la lb) (h:na=0\/nb=0):Mgd pr lt la lb (cX (arr pr la) (arr pr lb) (arr pr lo) na nb):=by
 refine ⟨la.take na++lb.take nb++lo.reverse,?_,?_,?_⟩
 ·unfold cX;rw [cF,cF,rG,cV,cV,d0,d0,i6,i6]
 ·refine i5 ?_ m.perm;rw [ai];exact cj _ (cj _ (gg _))
 ·rw [ar];refine ⟨?_,by rw [f9]; exact m.srt,fun x hx y hy=>m.hi y (gc.mp hy) x hx⟩;rw [ar];refine ⟨dJ t.sa _,dJ t.sb _,fun x hx y hy=>?_⟩;rcases h with h | h
  ·rw [h] at hx; simp at hx
  ·rw [h] at hy; simp at hy
theorem MH.first {pr:Nat->Keyed} (m:MH lt la lb lo na nb) (t:Two lt n la lb) (h:nb=1) (hb:0 < lb.length) (low:∀ x∈la,lt x (lb.getD 0 0)=false):Mgd pr lt la lb (fY (arr pr la) (arr pr lb) (arr pr lo) na nb):=by
 subst h;have ed:lb.take 1=[lb.getD 0 0]:=by
  have:=bZ (l:=lb) (i:=0) hb
  rwa [d0] at this
 refine ⟨lb.take 1++la.take na++lo.reverse,?_,?_,?_⟩
 ·unfold fY;rw [cF,cF,rG,cV,cV,d0,d0,i6,i6]
 ·refine i5 ?_ m.perm;refine (cj _ (gg _)).trans ?_;rw [<- ai];exact iu _ jy
 ·rw [ar];refine ⟨?_,by rw [f9]; exact m.srt,fun x hx y hy=>m.hi y (gc.mp hy) x (by rcases au.mp hx with z | z; exact ah _ z; exact cq _ z)⟩;rw [ar];refine ⟨dJ t.sb _,dJ t.sa _,fun x hx y hy=>?_⟩;rw [ed] at hx;simp at hx;rw [hx];have:=low y (cu hy);simpa using this
end
section
variable {M:Model} {A:Around} {E:Value->Shared->Prop} {s:Shared} {κ:j7} {pr:Nat->Keyed} {n:Nat} {lt:Nat->Nat->Bool} {la lb:List Nat}
theorem Cz (O:Ask M A E s κ pr n lt) {l:List Nat} (sl:l.Pairwise fun i j=>lt j i=false) (nl:∀ x∈l,x < n) {y c:Nat} (hy:y < n) (h0:0 < c) (hc:c<=l.length) {st:SortSt} (hk:kindOf st=κ) {Q:Option Nat->SortSt->Prop}
  (k:∀ r,r<=c->(0 < r->lt y (l.getD (r - 1) 0)=false)->(∀ x∈(l.take c).drop r,lt y x=true)->Q (some r) st):wpS M A E s (bQ false (pr y) (arr pr l) 0 c (c - 1)) Q st:=by
 refine fL (bey:=fun j=>!lt y (l.getD (0+j) 0)) (fun j hj Q' hq=>?_) (fun a b h1 h2 h3=>?_) (by omega) (fun r h1 h2 h3=>k r h1 (fun hr=>?_) (fun x hx=>?_))
 ·unfold dI;refine aw (aO (by omega) ?_);rw [if_neg (by decide)];refine aw (O.run st _ _ hk hy (nl _ (aP (by omega))) _ ?_);exact br hq
 ·rw [ji] at h3 ⊢
  by_cases e:a=b
  ·subst e; exact h3
  ·have q:=c8.mp sl (0+a) (0+b) (by omega) (by omega) (by omega);have e1:l.getD (0+a) 0=l[0+a]:=by simp [show a < l.length by omega]
   have e2:l.getD (0+b) 0=l[0+b]:=by simp [show b < l.length by omega]
   rw [e2] at h3;rw [e1];exact O.tr _ _ _ (nl _ (cv _)) (nl _ (cv _)) hy q h3
 ·have:=h2 (r - 1) (by omega);rw [ji,jz] at this;exact this
 ·obtain ⟨j,hj,rfl⟩:=d7 hx;rw [bz,bq] at hj;have:=h3 (r+j) (by omega) (by omega);rw [Bool.not_eq_false',jz] at this;rw [ij,fh];simpa [show r+j < l.length by omega] using this
theorem Fg (O:Ask M A E s κ pr n lt) {l:List Nat} (sl:l.Pairwise fun i j=>lt j i=false) (nl:∀ x∈l,x < n) {y c:Nat} (hy:y < n) (h0:0 < c) (hc:c<=l.length) {st:SortSt} (hk:kindOf st=κ) {Q:Option Nat->SortSt->Prop}
  (k:∀ r,r<=c->(∀ x∈l.take r,lt x y=true)->(∀ x∈(l.take c).drop r,lt x y=false)->Q (some r) st):wpS M A E s (bQ true (pr y) (arr pr l) 0 c (c - 1)) Q st:=by
 refine Ax O sl nl hy (i:=0) (by omega) (by omega) hk fun r h1 h2 h3=>k r h1 (fun x hx=>h2 x (by rw [d0]; exact hx)) fun x hx=>?_;obtain ⟨j,hj,rfl⟩:=d7 hx;rw [bz,bq] at hj;have:=h3 (r+j) (by omega) (by omega);rw [jz] at this;rw [ij,fh];simpa [show r+j < l.length by omega] using this
theorem mW (O:Ask M A E s κ pr n lt) {l:List Nat} (sl:l.Pairwise fun i j=>lt j i=false) (nl:∀ x∈l,x < n) {x i:Nat} (hx:x < n) (h0:0 < i) (hi:i<=l.length) (h:lt x (l.getD (i - 1) 0)=false):∀ y∈l.take i,lt x y=false:=fun y hy=>by
 have e:l.getD (i - 1) 0=l[i - 1]:=by simp [show i - 1 < l.length by omega]
 obtain ⟨j,hj,rfl⟩:=d7 hy;rw [bq] at hj;rw [fh];rw [e] at h
 by_cases z:j=i - 1
 ·subst z; exact h
 ·have q:=c8.mp sl j (i - 1) (by omega) (by omega) (by omega);exact O.tr _ _ _ (nl _ (cv _)) (nl _ (cv _)) hx q h
theorem Two.qa (O:Ask M A E s κ pr n lt) (t:Two lt n la lb) {lo:List Nat} {na nb:Nat} (m:MH lt la lb lo na nb) (ha:0 < na) (ha':na<=la.length) (h:∀ y∈lb.take nb,lt (la.getD (na - 1) 0) y=false):MH lt la lb (lo++[la.getD (na - 1) 0]) (na - 1) nb:=by
 have:=m.pushA t (k:=na - 1) (by omega) fun x hx=>by
  rw [gP ha ha'] at hx;simp at hx;rw [hx];simpa using h
 rwa [gP ha ha',List.reverse_singleton] at this
theorem Two.qb (O:Ask M A E s κ pr n lt) (t:Two lt n la lb) {lo:List Nat} {na nb:Nat} (m:MH lt la lb lo na nb) (hb:0 < nb) (hb':nb<=lb.length) (h:∀ y∈la.take na,lt (lb.getD (nb - 1) 0) y=false):MH lt la lb (lo++[lb.getD (nb - 1) 0]) na (nb - 1):=by
 have:=m.pushB t (k:=nb - 1) (by omega) fun x hx=>by
  rw [gP hb hb'] at hx;simp at hx;rw [hx];simpa using h
 rwa [gP hb hb',List.reverse_singleton] at this
def Ih (pr:Nat->Keyed) (lt:Nat->Nat->Bool) (la lb:List Nat) (st:SortSt) (p:Nat) (c:D2) (st':SortSt):Prop:=Sg st st'/\∃ lo na nb g ac bc,c=(none,na,nb,arr pr lo,g,ac,bc)/\MH lt la lb lo na nb/\(0 < na/\na<=la.length)/\(1 < nb/\nb<=lb.length)/\p+(na+nb)<=la.length+lb.length
def Qh (pr:Nat->Keyed) (lt:Nat->Nat->Bool) (la lb:List Nat) (st:SortSt) (p:Nat) (c:D2) (st':SortSt):Prop:=(Sg st st'/\∃ r d,c=(some r,d)/\Mgd pr lt la lb r)\/Ih pr lt la lb st p c st'
def Rh (pr:Nat->Keyed) (lt:Nat->Nat->Bool) (la lb:List Nat) (st:SortSt) (p:Nat) (r:ForInStep D2) (st':SortSt):Prop:=match r with
 | .done c=>Qh pr lt la lb st p c st'
 | .yield c=>Ih pr lt la lb st p c st'
theorem AD (O:Ask M A E s κ pr n lt) (t:Two lt n la lb) {st st3:SortSt} (sg:Sg st st3) {lo:List Nat} {na nb p:Nat} (m:MH lt la lb lo na nb) (ha:0 < na/\na<=la.length) (hb:1 < nb/\nb<=lb.length) (h:∀ y∈lb.take nb,lt (la.getD (na - 1) 0) y=false) (pg:p+(na+nb)<=la.length+lb.length) (g ac bc:Nat):wpS M A E s (Km (arr pr la) (arr pr lb) g ac bc na nb (arr pr lo)) (Rh pr lt la lb st p) st3:=by
 unfold Km;refine aw (aO (by omega) ?_);have m':=t.qa O m ha.1 ha.2 h;rw [eS]
 by_cases c3:(na - 1 == 0)=true
 ·rw [if_pos c3];rw [beq_iff_eq] at c3;exact br (.inl ⟨sg,_,_,rfl,m'.done t (.inl c3)⟩)
 rw [if_neg c3];rw [beq_iff_eq] at c3
 by_cases c4:(decide (ac < 7) && decide (bc < 7))=true
 ·rw [if_pos c4];exact br (.inr ⟨sg,_,_,_,_,_,_,rfl,m',by omega,hb,by omega⟩)
 ·rw [if_neg c4];exact br ⟨sg,_,_,_,_,_,_,rfl,m',by omega,hb,by omega⟩
theorem AE (O:Ask M A E s κ pr n lt) (t:Two lt n la lb) (low:∀ x∈la,lt x (lb.getD 0 0)=false) {st st3:SortSt} (hk:kindOf st=κ) (sg:Sg st st3) {lo:List Nat} {na nb p:Nat} (m:MH lt la lb lo na nb) (ha:0 < na/\na<=la.length) (hb:1 < nb/\nb<=lb.length) (h:lt (lb.getD (nb - 1) 0) (la.getD (na - 1) 0)=false) (pg:p+(na+nb)<=la.length+lb.length) (g ac bc:Nat):wpS M A E s (Kn (arr pr la) (arr pr lb) g ac bc nb na (arr pr lo)) (Rh pr lt la lb st p) st3:=by
 unfold Kn;refine aw (aO (by omega) ?_);have hy:lb.getD (nb - 1) 0 < n:=t.nb _ (aP (by omega));have m':=t.qb O m (by omega) hb.2 (mW O t.sa t.na hy ha.1 ha.2 h);rw [eS]
 by_cases c3:(nb - 1 == 1)=true
 ·rw [if_pos c3];rw [beq_iff_eq] at c3;exact br (.inl ⟨sg,_,_,rfl,m'.first t c3 (by omega) low⟩)
 rw [if_neg c3];rw [beq_iff_eq] at c3;have hx:la.getD (na - 1) 0 < n:=t.na _ (aP (by omega));refine aw (aO (by omega) (aw (Fg O t.sb t.nb hx (by omega) (by omega) (sg.1.trans hk) fun r a1 a2 a3=>?_)));dsimp only;have rest:∀ y∈lb.take r,lt (la.getD (na - 1) 0) y=false:=fun y hy'=>O.as _ _ (t.nb y (cu hy')) hx (a2 y hy')
 by_cases c5:nb - 1 - r > 0
 ·rw [if_pos c5,cF,rG,cV];have ed:(lb.drop r).take (nb - 1 - r)=(lb.take (nb - 1)).drop r:=by rw [List.drop_take]
  rw [ed];have m2:=m'.pushB t (k:=r) (by omega) fun x hx'=>by
   have hxn:=t.nb x (cu (df hx'));exact mW O t.sa t.na hxn ha.1 ha.2 (a3 x hx')
  by_cases c6:(r == 1)=true
  ·rw [if_pos c6];rw [beq_iff_eq] at c6;exact br (.inl ⟨sg,_,_,rfl,m2.first t c6 (by omega) low⟩)
  rw [if_neg c6];rw [beq_iff_eq] at c6
  by_cases c7:(r == 0)=true
  ·rw [if_pos c7];rw [beq_iff_eq] at c7;exact br (.inl ⟨sg,_,_,rfl,m2.done t (.inr c7)⟩)
  rw [if_neg c7];rw [beq_iff_eq] at c7;exact AD O t sg m2 ha (by omega) rest (by omega) _ _ _
 ·rw [if_neg c5];obtain rfl:r=nb - 1:=by omega
  exact AD O t sg m' ha (by omega) rest (by omega) _ _ _
theorem AF (O:Ask M A E s κ pr n lt) (t:Two lt n la lb) (low:∀ x∈la,lt x (lb.getD 0 0)=false) {st st3:SortSt} (hk:kindOf st=κ) (sg:Sg st st3) {lo:List Nat} {na nb p:Nat} (m:MH lt la lb lo na nb) (ha:0 < na/\na<=la.length) (hb:1 < nb/\nb<=lb.length) (pg:p+(na+nb)<=la.length+lb.length) (ac bc g:Nat):wpS M A E s (Qi (arr pr la) (arr pr lb) (arr pr lo) na nb ac bc g) (Rh pr lt la lb st p) st3:=by
 unfold Qi;have hy:lb.getD (nb - 1) 0 < n:=t.nb _ (aP (by omega));have sg':Sg st (oS g st3):=sg;refine aw (iB (aw (aO (by omega) (aw (Cz (st:=oS g st3) O t.sa t.na hy ha.1 ha.2 (sg.1.trans hk) fun r a1 a2 a3=>?_)))));dsimp only
 by_cases c5:na - r > 0
 ·rw [if_pos c5,cF,rG,cV];have ed:(la.drop r).take (na - r)=(la.take na).drop r:=by rw [List.drop_take]
  rw [ed];have m':=m.pushA t (k:=r) (by omega) fun x hx'=>by
   have hxn:=t.na x (cu (df hx'));exact mW O t.sb t.nb hxn (by omega) hb.2 (O.as _ _ hy hxn (a3 x hx'))
  by_cases c6:(r == 0)=true
  ·rw [if_pos c6];rw [beq_iff_eq] at c6;exact br (.inl ⟨sg',_,_,rfl,m'.done t (.inl c6)⟩)
  rw [if_neg c6];rw [beq_iff_eq] at c6;exact AE O t low hk sg' m' (by omega) hb (a2 (by omega)) (by omega) _ _ _
 ·rw [if_neg c5];obtain rfl:r=na:=by omega
  exact AE O t low hk sg' m ha hb (a2 (by omega)) pg _ _ _
theorem AG (O:Ask M A E s κ pr n lt) (t:Two lt n la lb) (h1:0 < la.length) (h2:0 < lb.length) (low:∀ x∈la,lt x (lb.getD 0 0)=false) (top:∀ x∈lb,lt (la.getD (la.length - 1) 0) x=false) {st:SortSt} (hk:kindOf st=κ) {Q:Array Keyed->SortSt->Prop}
  (k:∀ out st',Sg st st'->Mgd pr lt la lb out->Q out st'):wpS M A E s (sG (arr pr la) (arr pr lb)) Q st:=by
 have m0:MH lt la lb [] la.length lb.length:=⟨by simp,ix,fun o ho=>by simp at ho⟩;have m1:=t.qa O m0 h1 (bj _) (fun y hy=>top y (cu hy));rw [AC,cJ,cJ];refine aw (fH ?_);refine aw (aO (by omega) ?_);dsimp only
 by_cases c1:(la.length - 1 == 0)=true
 ·rw [if_pos c1];rw [beq_iff_eq] at c1;exact br (k _ _ (Sg.refl _) (m1.done t (.inl c1)))
 rw [if_neg c1];rw [beq_iff_eq] at c1
 by_cases c2:(lb.length == 1)=true
 ·rw [if_pos c2];rw [beq_iff_eq] at c2;exact br (k _ _ (Sg.refl _) (m1.first t c2 h2 low))
 rw [if_neg c2];rw [beq_iff_eq] at c2;refine aw (wpS_get ?_);refine aw (jq (fu (fun i c st'=>Sg st st'/\∃ lo na nb g,c=(none,na,nb,arr pr lo,g)/\MH lt la lb lo na nb/\(0 < na/\na<=la.length)/\(1 < nb/\nb<=lb.length)/\i+1+(na+nb)<=la.length+lb.length) (Q:=fun c st'=>Sg st st'/\∃ r d,c=(some r,d)/\Mgd pr lt la lb r) (fun i c st' _ hi=>?_) (fun c st'=>?_) ⟨Sg.refl _,[la.getD (la.length - 1) 0],_,_,_,rfl,m1,by omega,by omega,by omega⟩) fun c st' hq=>?_)
 ·rintro ⟨sg,lo,na,nb,g,rfl,m,ha,hb,pg⟩;dsimp only;refine aw (jq (fu (fun j c st''=>Sg st st''/\∃ lo na nb ac bc,c=(none,na,nb,arr pr lo,ac,bc)/\MH lt la lb lo na nb/\(0 < na/\na<=la.length)/\(1 < nb/\nb<=lb.length)/\i+1+j+(na+nb)<=la.length+lb.length) (Q:=fun c st''=>Sg st st''/\((∃ r d,c=(some r,d)/\Mgd pr lt la lb r)\/∃ lo na nb ac bc,c=(none,na,nb,arr pr lo,ac,bc)/\MH lt la lb lo na nb/\(0 < na/\na<=la.length)/\(1 < nb/\nb<=lb.length)/\i+2+(na+nb)<=la.length+lb.length)) (fun j c st'' _ hj=>?_) (fun c st''=>?_) ⟨sg,lo,na,nb,0,0,rfl,m,ha,hb,by omega⟩) fun c st'' hq=>?_)
  ·rintro ⟨sg,lo,na,nb,ac,bc,rfl,m,ha,hb,pg⟩;dsimp only;have hx:la.getD (na - 1) 0 < n:=t.na _ (aP (by omega));have hy:lb.getD (nb - 1) 0 < n:=t.nb _ (aP (by omega));refine aw (aO (by omega) (aw (aO (by omega) (aw (O.run st'' _ _ (sg.1.trans hk) hy hx _ ?_)))));dsimp only;cases e:lt (lb.getD (nb - 1) 0) (la.getD (na - 1) 0) with
   | true=>
    rw [if_pos rfl];refine aw (aO (by omega) ?_);have m':=t.qa O m ha.1 ha.2 (mW O t.sb t.nb hx (by omega) hb.2 (O.as _ _ hy hx e));rw [eS]
    by_cases c3:(na - 1 == 0)=true
    ·rw [if_pos c3];rw [beq_iff_eq] at c3;exact br ⟨sg,.inl ⟨_,_,rfl,m'.done t (.inl c3)⟩⟩
    rw [if_neg c3];rw [beq_iff_eq] at c3
    by_cases c4:ac+1 >= g
    ·rw [if_pos c4];exact br ⟨sg,.inr ⟨_,_,_,_,_,rfl,m',by omega,hb,by omega⟩⟩
    ·rw [if_neg c4];exact br ⟨sg,_,_,_,_,_,rfl,m',by omega,hb,by omega⟩
   | false=>
    rw [if_neg (by decide)];refine aw (aO (by omega) ?_);have m':=t.qb O m (by omega) hb.2 (mW O t.sa t.na hy ha.1 ha.2 e);rw [eS]
    by_cases c3:(nb - 1 == 1)=true
    ·rw [if_pos c3];rw [beq_iff_eq] at c3;exact br ⟨sg,.inl ⟨_,_,rfl,m'.first t c3 h2 low⟩⟩
    rw [if_neg c3];rw [beq_iff_eq] at c3
    by_cases c4:bc+1 >= g
    ·rw [if_pos c4];exact br ⟨sg,.inr ⟨_,_,_,_,_,rfl,m',ha,by omega,by omega⟩⟩
    ·rw [if_neg c4];exact br ⟨sg,_,_,_,_,_,rfl,m',ha,by omega,by omega⟩
  ·rintro ⟨sg,lo,na,nb,ac,bc,rfl,m,ha,hb,pg⟩;exact ⟨sg,.inr ⟨_,_,_,_,_,rfl,m,ha,hb,by omega⟩⟩
  ·obtain ⟨sg,⟨r,d,rfl,mg⟩ | ⟨lo,na,nb,ac,bc,rfl,m,ha,hb,pg⟩⟩:=hq
   ·exact br ⟨sg,_,_,rfl,mg⟩
   dsimp only;refine aw (fH ?_);refine aw (jq (fu (fun j c st''=>Ih pr lt la lb st (i+2) c st'') (Q:=Qh pr lt la lb st (i+2)) (fun j c st'' _ hj=>?_) (fun c st'' h=>.inr h) ⟨sg,lo,na,nb,_,ac,bc,rfl,m,ha,hb,pg⟩) fun c st'' hq=>?_)
   ·rintro ⟨sg,lo,na,nb,g,ac,bc,rfl,m,ha,hb,pg⟩;dsimp only
    by_cases cg:g > 1
    ·rw [if_pos cg];exact jq (AF O t low hk sg m ha hb pg ac bc (g - 1)) fun r _ h=>by cases r <;> exact h
    ·rw [if_neg cg];exact jq (AF O t low hk sg m ha hb pg ac bc g) fun r _ h=>by cases r <;> exact h
   ·rcases hq with ⟨sg,r,d,rfl,mg⟩ | ⟨sg,lo,na,nb,g,ac,bc,rfl,m,ha,hb,pg⟩
    ·exact br ⟨sg,_,_,rfl,mg⟩
    ·dsimp only;exact aw (iB (br ⟨sg,_,_,_,_,rfl,m,ha,hb,by omega⟩))
 ·rintro ⟨sg,lo,na,nb,g,rfl,m,ha,hb,pg⟩;omega
 ·obtain ⟨sg,r,d,rfl,mg⟩:=hq;exact br (k _ _ sg mg)
end
theorem AH (i:Nat):mergeAt' i=(do
 let s <- get
 let (some (sa,na,power),some (sb,nb,_)):=((dh s)[i]?,(dh s)[i+1]?) | unsupported "internal:list.sort.pending"
 set (kg s (((dh s).setIfInBounds i (sa,na+nb,power)).eraseIdxIfInBounds (i+1)))
 let some k <- bQ false (<- elem' (arrOf s) sb) (arrOf s) sa na 0 | return false
 let (sa,na):=(sa+k,na - k)
 if na == 0 then return true
 let some nb <- bQ true (<- elem' (arrOf s) (sa+na - 1)) (arrOf s) sb nb (nb - 1) | return false
 if nb == 0 then return true
 let x:=(arrOf s).extract sa sb
 let y:=(arrOf s).extract sb (sb+nb)
 let merged <- if na<=nb then sF x y else sG x y
 modify fun s=>setArr s (merged.toList.zipIdx.foldl (fun a (p,j)=>a.setIfInBounds (sa+j) p) (arrOf s))
 return (jx (<- get)).isNone):=rfl
section
variable {M:Model} {A:Around} {E:Value->Shared->Prop} {s:Shared} {κ:j7} {pr:Nat->Keyed} {n:Nat} {lt:Nat->Nat->Bool}
theorem rH {X S Y:List Nat} {j:Nat} (h:j < S.length):(X++(S++Y)).getD (X.length+j) 0=S.getD j 0:=by
 rw [ak,aq (by omega),k5,bp h,ak]
theorem CA (O:Ask M A E s κ pr n lt) {X S Y:List Nat} (sl:S.Pairwise fun i j=>lt j i=false) (nl:∀ x∈S,x < n) {y hint:Nat} (hy:y < n) (hh:hint < S.length) {st:SortSt} (hk:kindOf st=κ) {Q:Option Nat->SortSt->Prop}
  (k:∀ r,r<=S.length->(∀ x∈S.take r,lt y x=false)->(∀ x∈S.drop r,lt y x=true)->Q (some r) st):wpS M A E s (bQ false (pr y) (arr pr (X++(S++Y))) X.length S.length hint) Q st:=by
 refine fL (bey:=fun j=>!lt y (S.getD j 0)) (fun j hj Q' hq=>?_) (fun a b h1 h2 h3=>?_) hh (fun r h1 h2 h3=>k r h1 (fun x hx=>?_) (fun x hx=>?_))
 ·unfold dI;refine aw (aO (by rw [bh,bh]; omega) ?_);rw [if_neg (by decide),rH hj];refine aw (O.run st _ _ hk hy (nl _ (aP hj)) _ ?_);exact br hq
 ·rw [ji] at h3 ⊢
  by_cases e:a=b
  ·subst e; exact h3
  ·have q:=c8.mp sl a b (by omega) (by omega) (by omega);have e1:S.getD a 0=S[a]:=by simp [show a < S.length by omega]
   have e2:S.getD b 0=S[b]:=by simp [show b < S.length by omega]
   rw [e2] at h3;rw [e1];exact O.tr _ _ _ (nl _ (cv _)) (nl _ (cv _)) hy q h3
 ·obtain ⟨j,hj,rfl⟩:=d7 hx;rw [bq] at hj;have:=h2 j (by omega);rw [ji] at this;rw [fh];simpa [show j < S.length by omega] using this
 ·obtain ⟨j,hj,rfl⟩:=d7 hx;rw [bz] at hj;have:=h3 (r+j) (by omega) (by omega);rw [Bool.not_eq_false'] at this;rw [ij];simpa [show r+j < S.length by omega] using this
theorem Fh (O:Ask M A E s κ pr n lt) {X S Y P:List Nat} {o:Nat} (hP:P=X++(S++Y)) (ho:o=X.length) (sl:S.Pairwise fun i j=>lt j i=false) (nl:∀ x∈S,x < n) {y hint:Nat} (hy:y < n) (hh:hint < S.length) {st:SortSt} (hk:kindOf st=κ) {Q:Option Nat->SortSt->Prop}
  (k:∀ r,r<=S.length->(∀ x∈S.take r,lt x y=true)->(∀ x∈S.drop r,lt x y=false)->Q (some r) st):wpS M A E s (bQ true (pr y) (arr pr P) o S.length hint) Q st:=by
 subst hP ho;refine fL (bey:=fun j=>lt (S.getD j 0) y) (fun j hj Q' hq=>?_) (fun a b h1 h2 h3=>?_) hh (fun r h1 h2 h3=>k r h1 (fun x hx=>?_) (fun x hx=>?_))
 ·unfold dI;refine aw (aO (by rw [bh,bh]; omega) ?_);rw [if_pos rfl,rH hj];exact O.run st _ _ hk (nl _ (aP hj)) hy _ hq
 ·by_cases e:a=b
  ·subst e; exact h3
  ·have q:=c8.mp sl a b (by omega) (by omega) (by omega);have e1:S.getD a 0=S[a]:=by simp [show a < S.length by omega]
   have e2:S.getD b 0=S[b]:=by simp [show b < S.length by omega]
   show lt (S.getD a 0) y=true
   have h3:lt (S.getD b 0) y=true:=h3;rw [e2] at h3;rw [e1];cases z:lt S[a] y with
   | true=>rfl
   | false=>
    have:=O.tr y _ _ hy (nl _ (cv _)) (nl _ (cv _)) z q;rw [this] at h3;cases h3
 ·obtain ⟨j,hj,rfl⟩:=d7 hx;rw [bq] at hj;have:lt (S.getD j 0) y=true:=h2 j (by omega);rw [fh];simpa [show j < S.length by omega] using this
 ·obtain ⟨j,hj,rfl⟩:=d7 hx;rw [bz] at hj;have:lt (S.getD (r+j) 0) y=false:=h3 (r+j) (by omega) (by omega);rw [ij];simpa [show r+j < S.length by omega] using this
theorem GM (pr:Nat->Keyed):∀ (W X D Y:List Nat),D.length=W.length->(W.map pr).zipIdx.foldl (fun (a:Array Keyed) (p:Keyed×Nat)=>a.setIfInBounds (X.length+p.2) p.1) (arr pr (X++(D++Y)))=arr pr (X++(W++Y))
 | W,X,D,Y,h=>by
  have gen:∀ (W D:List Nat) (X:List Nat) (c:Nat) (o:Nat),D.length=W.length->X.length=o+c->((W.map pr).zipIdx c).foldl (fun (a:Array Keyed) (p:Keyed×Nat)=>a.setIfInBounds (o+p.2) p.1) (arr pr (X++(D++Y)))=arr pr (X++(W++Y)):=by
   intro W
   induction W with
   | nil=>intro D X c o h1 h2; simp at h1; subst h1; rfl
   | cons w W ih=>
    intro D X c o h1 h2;cases D with
    | nil=>simp at h1
    | cons d D=>
     rw [da,List.zipIdx_cons,List.foldl_cons];have e:(arr pr (X++(d :: D++Y))).setIfInBounds (o+c) (pr w)=arr pr ((X++[w])++(D++Y)):=by
      unfold arr;rw [List.setIfInBounds_toArray]
      congr 1
      rw [<- h2,dz,List.set_append_right _ _ (by simp)];simp
     have e':(arr pr (X++(d :: D++Y))).setIfInBounds (o+(pr w,c).2) (pr w,c).1=arr pr ((X++[w])++(D++Y)):=e;rw [e',ih D (X++[w]) (c+1) o (by simpa using h1) (by simp; omega)]
     simp
  exact gen W D X 0 X.length h rfl
theorem Ko {st st':SortSt} {Q:PUnit->SortSt->Prop} (h:Q ⟨⟩ st'):wpS M A E s (set st':StateT SortSt Sem PUnit) Q st:=by
 unfold wpS;rw [StateT.run_set];exact af ⟨rfl,h⟩
def Srt (lt:Nat->Nat->Bool) (l:List Nat):Prop:=l.Pairwise fun i j=>lt j i=false
theorem E6 {X U Z:List Nat} {r c:Nat} (h:r+c<=U.length):((X++(U++Z)).drop (X.length+r)).take c=(U.drop r).take c:=by
 rw [List.drop_append,fw (by omega),i8,k5,List.drop_append,List.take_append];have e:c - (U.drop r).length=0:=by rw [bz]; omega
 rw [e,List.take_zero,dk]
theorem AI (O:Ask M A E s κ pr n lt) {X U V Y:List Nat} (sU:Srt lt U) (sV:Srt lt V) (nU:∀ x∈U,x < n) (nV:∀ x∈V,x < n) (lU:0 < U.length) (lV:0 < V.length) {st:SortSt} (hk:kindOf st=κ) (hf:jx st=none) (ha:arrOf st=arr pr (X++(U++(V++Y)))) {i w w':Nat} (p1:(dh st)[i]?=some (X.length,U.length,w)) (p2:(dh st)[i+1]?=some (X.length+U.length,V.length,w')) {Q:Bool->SortSt->Prop}
  (k:∀ W st',W.Perm (U++V)->Srt lt W->arrOf st'=arr pr (X++(W++Y))->dh st'=((dh st).setIfInBounds i (X.length,U.length+V.length,w)).eraseIdxIfInBounds (i+1)->kindOf st'=κ->jx st'=none->Q true st'):wpS M A E s (mergeAt' i) Q st:=by
 rw [AH]
 refine aw (wpS_get ?_)
 rw [p1,p2,ha]
 dsimp only
 refine aw (Ko ?_)
 have k1:kindOf (kg st (((dh st).setIfInBounds i (X.length,U.length+V.length,w)).eraseIdxIfInBounds (i+1)))=κ:=hk
 have f1:jx (kg st (((dh st).setIfInBounds i (X.length,U.length+V.length,w)).eraseIdxIfInBounds (i+1)))=none:=hf
 have q1:dh (kg st (((dh st).setIfInBounds i (X.length,U.length+V.length,w)).eraseIdxIfInBounds (i+1)))=((dh st).setIfInBounds i (X.length,U.length+V.length,w)).eraseIdxIfInBounds (i+1):=rfl
 have a0:arrOf (kg st (((dh st).setIfInBounds i (X.length,U.length+V.length,w)).eraseIdxIfInBounds (i+1)))=arr pr (X++(U++(V++Y))):=ha
 generalize kg st (((dh st).setIfInBounds i (X.length,U.length+V.length,w)).eraseIdxIfInBounds (i+1))=st1 at k1 f1 q1 a0
 have v0:V.getD 0 0∈V:=aP lV
 have zU:U.getD (U.length - 1) 0∈U:=aP (by omega)
 have eV:(X++(U++(V++Y))).getD (X.length+U.length) 0=V.getD 0 0:=by
  have:=rH (X:=X++U) (S:=V) (Y:=Y) (j:=0) lV
  rwa [Nat.add_zero,bh,ai] at this
 refine aw (aO (by simp; omega) ?_)
 rw [eV]
 refine aw (CA O (S:=U) sU nU (nV _ v0) lU k1 fun r a1 a2 a3=>?_)
 dsimp only
 have join:∀ x∈U,lt (V.getD 0 0) x=false->∀ y∈V,lt y x=false:=fun x hx h=>by
  have:=mU O sV nV (i:=0) (nU x hx) lV h
  rwa [d0] at this
 by_cases c1:(U.length - r == 0)=true
 ·rw [if_pos c1]
  rw [beq_iff_eq] at c1
  refine br (k (U++V) st1 (iy _) ?_ (by rw [a0,ai]) q1 k1 f1)
  unfold Srt
  rw [ar]
  refine ⟨sU,sV,fun x hx=>join x hx (a2 x ?_)⟩
  rw [du (by omega)]
  exact hx
 rw [if_neg c1]
 rw [beq_iff_eq] at c1
 have eZ:(X++(U++(V++Y))).getD (X.length+r+(U.length - r) - 1) 0=U.getD (U.length - 1) 0:=by
  rw [show X.length+r+(U.length - r) - 1=X.length+(U.length - 1) by omega]
  exact rH (by omega)
 refine aw (aO (by simp; omega) ?_)
 rw [eZ]
 refine aw (Fh O (X:=X++U) (S:=V) (Y:=Y) (by rw [ai]) (by rw [bh]) sV nV (nU _ zU) (by omega) k1 fun nb b1 b2 b3=>?_)
 dsimp only
 have upz:∀ x∈U,lt (U.getD (U.length - 1) 0) x=false:=fun x hx=>by
  obtain ⟨j,hj,rfl⟩:=d7 hx
  have e:U.getD (U.length - 1) 0=U[U.length - 1]:=by simp [show U.length - 1 < U.length by omega]
  rw [e]
  by_cases z:j=U.length - 1
  ·subst z
   cases q:lt U[U.length - 1] U[U.length - 1] with
   | false=>rfl
   | true=>have:=O.as _ _ (nU _ (cv _)) (nU _ (cv _)) q; rw [q] at this; exact this
  ·exact c8.mp sU j (U.length - 1) hj (by omega) (by omega)
 by_cases c2:(nb == 0)=true
 ·rw [if_pos c2]
  rw [beq_iff_eq] at c2
  subst c2
  refine br (k (U++V) st1 (iy _) ?_ (by rw [a0,ai]) q1 k1 f1)
  unfold Srt
  rw [ar]
  refine ⟨sU,sV,fun x hx y hy=>?_⟩
  exact O.tr _ _ _ (nU x hx) (nU _ zU) (nV y hy) (upz x hx) (b3 y (by rw [d0]; exact hy))
 rw [if_neg c2]
 rw [beq_iff_eq] at c2
 have ex:(arr pr (X++(U++(V++Y)))).extract (X.length+r) (X.length+U.length)=arr pr (U.drop r):=by
  rw [cF,show X.length+U.length - (X.length+r)=U.length - r by omega,E6 (by omega),du (by rw [bz]; omega)]
 have ey:(arr pr (X++(U++(V++Y)))).extract (X.length+U.length) (X.length+U.length+nb)=arr pr (V.take nb):=by
  have:=E6 (X:=X++U) (U:=V) (Z:=Y) (r:=0) (c:=nb) (by omega)
  rw [cF,k5]
  rw [ai,bh,Nat.add_zero,d0] at this
  rw [this]
 rw [ex,ey]
 have t:Two lt n (U.drop r) (V.take nb):=⟨cU sU r,dJ sV nb,fun x hx=>nU x (df hx),fun x hx=>nV x (cu hx)⟩
 have l1:0 < (U.drop r).length:=by rw [bz]; omega
 have l2:0 < (V.take nb).length:=by rw [bq]; omega
 have g1:(V.take nb).getD 0 0=V.getD 0 0:=by
  rw [ak,List.getElem?_take,if_pos (by omega),ak]
 have g2:(U.drop r).getD ((U.drop r).length - 1) 0=U.getD (U.length - 1) 0:=by
  rw [ak,List.getElem?_drop,bz,ak]
  congr 2
  omega
 have top:∀ x∈V.take nb,lt ((U.drop r).getD ((U.drop r).length - 1) 0) x=false:=fun x hx=>by
  rw [g2]
  exact O.as _ _ (t.nb x hx) (nU _ zU) (b2 x hx)
 have low:∀ x∈U.drop r,lt x ((V.take nb).getD 0 0)=false:=fun x hx=>by
  rw [g1]
  exact O.as _ _ (nV _ v0) (t.na x hx) (a3 x hx)
 have first:lt ((V.take nb).getD 0 0) ((U.drop r).getD 0 0)=true:=by
  rw [g1]
  exact a3 _ (aP l1)
 have fin:∀ out st2,Sg st1 st2->Mgd pr lt (U.drop r) (V.take nb) out->wpS M A E s (do
   modify fun s=>setArr s (out.toList.zipIdx.foldl (fun a (p,j)=>a.setIfInBounds (X.length+r+j) p) (arrOf s))
   return (jx (<- get)).isNone) Q st2:=fun out st2 sg mg=>by
  obtain ⟨W0,rfl,pW,sW⟩:=mg
  refine aw (wpS_modify (aw (wpS_get ?_)))
  have eW:=GM pr W0 (X++U.take r) (U.drop r++V.take nb) (V.drop nb++Y) pW.length_eq.symm
  have eP:(X++U.take r)++((U.drop r++V.take nb)++(V.drop nb++Y))=X++(U++(V++Y)):=by
   conv=>rhs; rw [<- bo r U,<- bo nb V]
   simp only [ai]
  have eL:(X++U.take r).length=X.length+r:=by rw [bh,bq]; omega
  rw [eP,eL] at eW
  have eA:arrOf st2=arr pr (X++(U++(V++Y))):=sg.2.1.trans a0
  have eT:(arr pr W0).toList=W0.map pr:=by simp [arr]
  have ef:jx (setArr st2 ((arr pr W0).toList.zipIdx.foldl (fun a (x:Keyed×Nat)=>a.setIfInBounds (X.length+r+x.2) x.1) (arrOf st2)))=none:=sg.2.2.2.trans f1
  show wpS M A E s (pure (jx (setArr st2 ((arr pr W0).toList.zipIdx.foldl (fun a (x:Keyed×Nat)=>a.setIfInBounds (X.length+r+x.2) x.1) (arrOf st2)))).isNone) Q (setArr st2 ((arr pr W0).toList.zipIdx.foldl (fun a (x:Keyed×Nat)=>a.setIfInBounds (X.length+r+x.2) x.1) (arrOf st2)))
  rw [ef]
  have pw:(U.take r++(W0++V.drop nb)).Perm (U++V):=by
   conv=>rhs; rw [<- bo r U,<- bo nb V,ai]
   refine cj _ ?_
   rw [<- ai]
   exact iu _ pW
  have memW:∀ x∈W0,x∈U.drop r\/x∈V.take nb:=fun x hx=>au.mp (pW.mem_iff.mp hx)
  refine br (k (U.take r++(W0++V.drop nb)) _ pw ?_ ?_ (sg.2.2.1.trans q1) (sg.1.trans k1) ef)
  ·unfold Srt
   have lowU:∀ x∈U.take r,∀ y∈U.drop r,lt y x=false:=fun x hx y hy=>by
    have:=sU
    unfold Srt at this
    rw [<- bo r U] at this
    exact (ar.mp this).2.2 x hx y hy
   have lowV:∀ x∈V.take nb,∀ y∈V.drop nb,lt y x=false:=fun x hx y hy=>by
    have:=sV
    unfold Srt at this
    rw [<- bo nb V] at this
    exact (ar.mp this).2.2 x hx y hy
   have UV:∀ x∈U.take r,∀ y∈V,lt y x=false:=fun x hx=>join x (cu hx) (a2 x hx)
   rw [ar]
   refine ⟨dJ sU r,?_,fun x hx y hy=>?_⟩
   ·rw [ar]
    refine ⟨sW,cU sV nb,fun x hx y hy=>?_⟩
    rcases memW x hx with q | q
    ·have hxU:=df q
     exact O.tr _ _ _ (nU x hxU) (nU _ zU) (nV y (df hy)) (upz x hxU) (b3 y hy)
    ·exact lowV x q y hy
   ·rcases au.mp hy with q | q
    ·rcases memW y q with z | z
     ·exact lowU x hx y z
     ·exact UV x hx y (cu z)
    ·exact UV x hx y (df q)
  ·show (arr pr W0).toList.zipIdx.foldl (fun a (x:Keyed×Nat)=>a.setIfInBounds (X.length+r+x.2) x.1) (arrOf st2)=_
   rw [eA,eT,eW]
   congr 1
   simp only [ai]
 by_cases c3:U.length - r<=nb
 ·rw [if_pos c3]
  exact aw (AB O t l1 l2 first top k1 fin)
 ·rw [if_neg c3]
  exact aw (AG O t l1 l2 low top k1 fin)
end
def GN (lo nrem n:Nat):StateT SortSt Sem (Option Nat):=do
 let mut n:=n
 for _ in [n:nrem] do
  let some smaller <- ltAt' (lo+n) (lo+n - 1) | return none
  if smaller then break
  n:=n+1
 return some n
def GO (lo nrem n:Nat):StateT SortSt Sem (Option Nat):=do
 reverseSlice' lo (lo+n)
 GN lo nrem n
def CB (lo nrem n:Nat):StateT SortSt Sem (Option Nat):=do
 rule "list.sort.descending-run"
 let mut n:=n+1
 let mut neq:=0
 for _ in [n:nrem] do
  let some smaller <- ltAt' (lo+n) (lo+n - 1) | return none
  if smaller then
   if neq > 0 then reverseSlice' (lo+n - (neq+1)) (lo+n)
   neq:=0
  else
   let some larger <- ltAt' (lo+n - 1) (lo+n) | return none
   if larger then break
   neq:=neq+1
  n:=n+1
 if neq > 0 then reverseSlice' (lo+n - (neq+1)) (lo+n)
 GO lo nrem n
theorem yJ (lo nrem:Nat):countRun' lo nrem=(do
 let mut n:=1
 for _ in [1:nrem] do
  let some smaller <- ltAt' (lo+n) (lo+n - 1) | return none
  if smaller then break
  n:=n+1
 if n == nrem then return some n
 if n > 1 then
  let some rose <- ltAt' lo (lo+n - 1) | return none
  if rose then return some n
  reverseSlice' lo (lo+n)
 CB lo nrem n):=rfl
section
variable {M:Model} {A:Around} {E:Value->Shared->Prop} {s:Shared} {κ:j7} {pr:Nat->Keyed} {n:Nat} {lt:Nat->Nat->Bool}
theorem yK {X Z:List Nat} (j:Nat):(X++Z).getD (X.length+j) 0=Z.getD j 0:=by
 rw [ak,aq (by omega),k5,ak]
structure Tl (pr:Nat->Keyed) (κ:j7) (X Z:List Nat) (pd:Array (Nat×Nat×Nat)) (st:SortSt):Prop where
 a:arrOf st=arr pr (X++Z)
 k:kindOf st=κ
 p:dh st=pd
 f:jx st=none
theorem kD (O:Ask M A E s κ pr n lt) {X Z:List Nat} {pd:Array (Nat×Nat×Nat)} {st:SortSt} (T:Tl pr κ X Z pd st) (nZ:∀ x∈Z,x < n) {i j:Nat} (hi:i < Z.length) (hj:j < Z.length) {Q:Option Bool->SortSt->Prop} (h:Q (some (lt (Z.getD i 0) (Z.getD j 0))) st):wpS M A E s (ltAt' (X.length+i) (X.length+j)) Q st:=by
 rw [ltAt'_eq];refine aw (wpS_get ?_);rw [T.a];refine aw (aO (by simp; omega) (aw (aO (by simp; omega) ?_)));rw [yK,yK];exact O.run st _ _ T.k (nZ _ (aP hi)) (nZ _ (aP hj)) _ h
theorem CC (pr:Nat->Keyed) (X B Y:List Nat):mirror (arr pr (X++(B++Y))) X.length (X.length+B.length) ((X.length+B.length - X.length) / 2)=arr pr (X++(B.reverse++Y)):=by
 apply Array.ext_getElem?;intro k;have g:∀ (l:List Nat) (k:Nat),(arr pr l)[k]?=(l[k]?).map pr:=fun l k=>by simp [arr]
 rw [getElem?_mirror_all (by rw [cJ]; simp),g,g,g];split
 ·rename_i h;rw [aq (by omega),bp (by omega),aq (by omega),bp (by rw [gx]; omega),List.getElem?_reverse (by omega)]
  congr 2
  omega
 ·rename_i h
  by_cases c:k < X.length
  ·rw [bp c,bp c]
  ·rw [aq (by omega),aq (by omega),aq (by omega),aq (by rw [gx]; omega),gx]
theorem yL {X Z B Y D:List Nat} {pd:Array (Nat×Nat×Nat)} {st:SortSt} (T:Tl pr κ X Z pd st) (e:Z=D++(B++Y)) {i j:Nat} (hi:i=X.length+D.length) (hj:j=X.length+D.length+B.length) {Q:Unit->SortSt->Prop} (h:∀ st',Tl pr κ X (D++(B.reverse++Y)) pd st'->Q () st'):wpS M A E s (reverseSlice' i j) Q st:=by
 rw [reverseSlice'_eq];refine wpS_modify (h _ ⟨?_,T.k,T.p,T.f⟩)
 show mirror (arrOf st) i j ((j - i) / 2)=_
 have:=CC pr (X++D) B Y;rw [bh,ai,ai] at this;rw [T.a,e,hi,hj,this]
def Dsc (lt:Nat->Nat->Bool) (l:List Nat):Prop:=l.Pairwise fun i j=>lt i j=false
theorem Dsc.rev {l:List Nat} (h:Dsc lt l):Srt lt l.reverse:=by
 unfold Srt;rw [f9];exact h
theorem Srt.rev {l:List Nat} (h:Srt lt l):Dsc lt l.reverse:=by
 unfold Dsc;rw [f9];exact h
theorem take_one {Z:List Nat} {m:Nat} (h:m < Z.length):Z.take (m+1)=Z.take m++[Z.getD m 0]:=by
 rw [List.take_add_one,ak,cm h];rfl
theorem wG {Z:List Nat} {m:Nat} (h0:0 < m) (h:m<=Z.length):∃ l,Z.take m=l++[Z.getD (m - 1) 0]:=⟨Z.take (m - 1),by
 have:=take_one (Z:=Z) (m:=m - 1) (by omega)
 rwa [show m - 1+1=m by omega] at this⟩
theorem Srt.more (O:Ask M A E s κ pr n lt) {Z:List Nat} (nZ:∀ x∈Z,x < n) {m:Nat} (h0:0 < m) (hm:m < Z.length) (h:Srt lt (Z.take m)) (e:lt (Z.getD m 0) (Z.getD (m - 1) 0)=false):Srt lt (Z.take (m+1)):=by
 obtain ⟨l,el⟩:=wG (Z:=Z) h0 (by omega);have n1:∀ x∈Z.take m,x < n:=fun x hx=>nZ x (cu hx);have ny:Z.getD m 0 < n:=nZ _ (aP hm);rw [take_one hm];unfold Srt at h ⊢;rw [ar];refine ⟨h,by simp,fun x hx y hy=>?_⟩;simp at hy;have hy:y=Z.getD m 0:=by simpa using hy
 rw [hy];have hx0:=n1 x hx;rw [el] at h hx n1;rcases au.mp hx with q | q
 ·have:=(ar.mp h).2.2 x q (Z.getD (m - 1) 0) (by simp);exact O.tr _ _ _ hx0 (n1 _ (by simp)) ny this e
 ·have q:x=Z.getD (m - 1) 0:=by simpa using q
  rw [q]; exact e
theorem Fi (O:Ask M A E s κ pr n lt) {X Z:List Nat} {pd:Array (Nat×Nat×Nat)} {st:SortSt} (T:Tl pr κ X Z pd st) (nZ:∀ x∈Z,x < n) {m:Nat} (h0:0 < m) (hm:m<=Z.length) (hs:Srt lt (Z.take m)) {Q:Option Nat->SortSt->Prop}
  (k:∀ r,0 < r->r<=Z.length->Srt lt (Z.take r)->Q (some r) st):wpS M A E s (GN X.length Z.length m) Q st:=by
 unfold GN;refine aw (jq (fu (fun i c st'=>st'=st/\c=(none,i)/\Srt lt (Z.take i)) (Q:=fun c st'=>st'=st/\∃ r,c=(none,r)/\0 < r/\r<=Z.length/\Srt lt (Z.take r)) (fun i c st' h1 h2=>?_) (fun c st'=>?_) ⟨rfl,rfl,hs⟩) fun c st' hq=>?_)
 ·rintro ⟨rfl,rfl,hs⟩;dsimp only;rw [show X.length+i - 1=X.length+(i - 1) by omega];refine aw (kD O T nZ h2 (by omega) ?_);dsimp only;cases e:lt (Z.getD i 0) (Z.getD (i - 1) 0) with
  | true=>
   rw [if_pos rfl];exact br ⟨rfl,i,rfl,by omega,by omega,hs⟩
  | false=>
   rw [if_neg (by decide)];exact br ⟨rfl,rfl,hs.more O nZ (by omega) h2 e⟩
 ·rintro ⟨rfl,rfl,hs⟩;exact ⟨rfl,_,rfl,by omega,by omega,hs⟩
 ·obtain ⟨rfl,r,rfl,a1,a2,a3⟩:=hq;exact br (k r a1 a2 a3)
theorem wH (O:Ask M A E s κ pr n lt) {X Z:List Nat} {pd:Array (Nat×Nat×Nat)} {st:SortSt} (T:Tl pr κ X Z pd st) (nZ:∀ x∈Z,x < n) {m:Nat} (h0:0 < m) (hm:m<=Z.length) (hs:Dsc lt (Z.take m)) {Q:Option Nat->SortSt->Prop}
  (k:∀ r Z' st',0 < r->r<=Z'.length->Z'.Perm Z->Srt lt (Z'.take r)->Tl pr κ X Z' pd st'->Q (some r) st'):wpS M A E s (GO X.length Z.length m) Q st:=by
 unfold GO;have lm:(Z.take m).length=m:=by rw [bq]; omega
 refine aw (yL T (D:=[]) (B:=Z.take m) (Y:=Z.drop m) (by rw [i8,bo]) (by simp) (by simp [lm]) fun st' T'=>?_);rw [i8] at T';have pz:((Z.take m).reverse++Z.drop m).Perm Z:=by
  have:=iu (Z.drop m) (gg (Z.take m))
  rwa [bo] at this
 have lz:=pz.length_eq;have et:((Z.take m).reverse++Z.drop m).take m=(Z.take m).reverse:=by
  rw [List.take_append,du (by rw [gx]; omega),gx,lm,Nat.sub_self,List.take_zero,dk]
 rw [<- lz];refine Fi O T' (fun x hx=>nZ x (pz.mem_iff.mp hx)) h0 (by omega) (by rw [et]; exact hs.rev) fun r a1 a2 a3=>k r _ st' a1 a2 pz a3 T'
theorem Ask.irr (O:Ask M A E s κ pr n lt) {x:Nat} (h:x < n):lt x x=false:=by
 cases e:lt x x with
 | false=>rfl
 | true=>have:=O.as x x h h e; rw [e] at this; exact this
theorem Dsc.last (O:Ask M A E s κ pr n lt) {Z:List Nat} (nZ:∀ x∈Z,x < n) {m:Nat} (h0:0 < m) (hm:m<=Z.length) (h:Dsc lt (Z.take m)):∀ x∈Z.take m,lt x (Z.getD (m - 1) 0)=false:=fun x hx=>by
 obtain ⟨l,el⟩:=wG (Z:=Z) h0 hm;unfold Dsc at h;rw [el] at h hx;rcases au.mp hx with q | q
 ·exact (ar.mp h).2.2 x q _ (by simp)
 ·have q:x=Z.getD (m - 1) 0:=by simpa using q
  rw [q];exact O.irr (nZ _ (aP (by omega)))
theorem Dsc.more (O:Ask M A E s κ pr n lt) {Z:List Nat} (nZ:∀ x∈Z,x < n) {m:Nat} (hm:m < Z.length) (h:Dsc lt (Z.take m)) (e:∀ x∈Z.take m,lt x (Z.getD m 0)=false):Dsc lt (Z.take (m+1)):=by
 rw [take_one hm];unfold Dsc at h ⊢;rw [ar];refine ⟨h,by simp,fun x hx y hy=>?_⟩;have hy:y=Z.getD m 0:=by simpa using hy
 rw [hy];exact e x hx
def ER (lt:Nat->Nat->Bool) (Z:List Nat) (m q:Nat):Prop:=∀ x∈(Z.take m).drop (m - (q+1)),∀ y∈(Z.take m).drop (m - (q+1)),lt x y=false
theorem AJ (O:Ask M A E s κ pr n lt) {X Z:List Nat} {pd:Array (Nat×Nat×Nat)} {st:SortSt} (T:Tl pr κ X Z pd st) {m q:Nat} (hq:q < m) (hm:m<=Z.length) (hd:Dsc lt (Z.take m)) (er:ER lt Z m q) {Q:Unit->SortSt->Prop}
  (k:∀ Z' st',Z'.Perm Z->Dsc lt (Z'.take m)->(∀ x,x∈Z'.take m ↔ x∈Z.take m)->(∀ j,m<=j->Z'.getD j 0=Z.getD j 0)->Tl pr κ X Z' pd st'->Q () st'):wpS M A E s (reverseSlice' (X.length+m - (q+1)) (X.length+m)) Q st:=by
 have lm:(Z.take m).length=m:=by rw [bq]; omega
 obtain ⟨D,eD⟩:∃ D,D=Z.take (m - (q+1)):=⟨_,rfl⟩;obtain ⟨B,eB⟩:∃ B,B=(Z.take m).drop (m - (q+1)):=⟨_,rfl⟩;have e1:Z.take m=D++B:=by rw [eD,eB]; exact cY (by omega)
 have lD:D.length=m - (q+1):=by rw [eD,bq]; omega
 have lB:B.length=q+1:=by rw [eB,bz,lm]; omega
 have e2:Z=D++(B++Z.drop m):=by rw [<- ai,<- e1,bo]
 unfold ER at er;rw [<- eB] at er;refine yL T (D:=D) (B:=B) (Y:=Z.drop m) e2 (by omega) (by omega) fun st' T'=>?_;have et:(D++(B.reverse++Z.drop m)).take m=D++B.reverse:=by
  rw [<- ai,List.take_append,du (by simp; omega)];simp;omega
 refine k _ st' ?_ ?_ (fun x=>?_) (fun j hj=>?_) T'
 ·conv=>rhs; rw [e2]
  exact cj _ (iu _ (gg _))
 ·rw [et];rw [e1] at hd;unfold Dsc at hd ⊢;obtain ⟨a1,a2,a3⟩:=ar.mp hd;rw [ar];refine ⟨a1,?_,fun x hx y hy=>a3 x hx y (gc.mp hy)⟩;exact c8.mpr fun i j hi hj _=>er _ (gc.mp (cv hi)) _ (gc.mp (cv hj))
 ·rw [et,e1,au,au,gc]
 ·rw [ak,ak]
  congr 1
  conv=>rhs; rw [e2]
  rw [<- ai,<- ai,aq (by simp; omega),aq (by simp; omega)];simp
theorem sH (O:Ask M A E s κ pr n lt) {X Z:List Nat} {pd:Array (Nat×Nat×Nat)} {st:SortSt} (T:Tl pr κ X Z pd st) (nZ:∀ x∈Z,x < n) {m:Nat} (hm:m < Z.length) (hs:Dsc lt (Z.take (m+1))) {Q:Option Nat->SortSt->Prop}
  (k:∀ r Z' st',0 < r->r<=Z'.length->Z'.Perm Z->Srt lt (Z'.take r)->Tl pr κ X Z' pd st'->Q (some r) st'):wpS M A E s (CB X.length Z.length m) Q st:=by
 unfold CB;have er0:∀ (Z':List Nat) (i:Nat),(∀ x∈Z',x < n)->0 < i->i<=Z'.length->ER lt Z' i 0:=fun Z' i nz h0 hi=>by
  unfold ER;rw [gP h0 hi];intro x hx y hy;have hx:x=Z'.getD (i - 1) 0:=by simpa using hx
  have hy:y=Z'.getD (i - 1) 0:=by simpa using hy
  rw [hx,hy];exact O.irr (nz _ (aP (by omega)))
 refine aw (fH ?_);refine aw (jq (fu (fun i c st'=>∃ Z' q,c=(none,i,q)/\Z'.Perm Z/\Tl pr κ X Z' pd st'/\Dsc lt (Z'.take i)/\q < i/\ER lt Z' i q) (Q:=fun c st'=>∃ Z' i q,c=(none,i,q)/\i<=Z.length/\Z'.Perm Z/\Tl pr κ X Z' pd st'/\Dsc lt (Z'.take i)/\q < i/\ER lt Z' i q) (fun i c st' h1 h2=>?_) (fun c st'=>?_) ⟨Z,0,rfl,iy _,T,hs,by omega,er0 Z _ nZ (by omega) (by omega)⟩) fun c st' hq=>?_)
 ·rintro ⟨Z',q,rfl,pz,T',ds,hq,er⟩;have lz:=pz.length_eq;have nz:∀ x∈Z',x < n:=fun x hx=>nZ x (pz.mem_iff.mp hx);have low:=ds.last O nz (by omega) (by omega);have ny:Z'.getD i 0 < n:=nz _ (aP (by omega));have nv:Z'.getD (i - 1) 0 < n:=nz _ (aP (by omega));dsimp only;rw [show X.length+i - 1=X.length+(i - 1) by omega];refine aw (kD O T' nz (by omega) (by omega) ?_);dsimp only;cases e:lt (Z'.getD i 0) (Z'.getD (i - 1) 0) with
  | true=>
   rw [if_pos rfl];have lows:∀ x∈Z'.take i,lt x (Z'.getD i 0)=false:=fun x hx=>O.tr _ _ _ ny nv (nz x (cu hx)) (O.as _ _ ny nv e) (low x hx)
   by_cases c:q > 0
   ·rw [if_pos c];refine aw (AJ O T' hq (by omega) ds er fun Z2 st2 p2 d2 m2 g2 T2=>?_);have l2:=p2.length_eq;have nz2:∀ x∈Z2,x < n:=fun x hx=>nz x (p2.mem_iff.mp hx);refine br ⟨Z2,0,rfl,p2.trans pz,T2,d2.more O nz2 (by omega) (fun x hx=>by rw [g2 i (bj _)]; exact lows x ((m2 x).mp hx)),by omega,er0 Z2 _ nz2 (by omega) (by omega)⟩
   ·rw [if_neg c];exact br ⟨Z',0,rfl,pz,T',ds.more O nz (by omega) lows,by omega,er0 Z' _ nz (by omega) (by omega)⟩
  | false=>
   rw [if_neg (by decide)];refine aw (kD O T' nz (by omega) (by omega) ?_);dsimp only;cases e2:lt (Z'.getD (i - 1) 0) (Z'.getD i 0) with
   | true=>
    rw [if_pos rfl];exact br ⟨Z',i,q,rfl,by omega,pz,T',ds,hq,er⟩
   | false=>
    rw [if_neg (by decide)];have lows:∀ x∈Z'.take i,lt x (Z'.getD i 0)=false:=fun x hx=>O.tr _ _ _ ny nv (nz x (cu hx)) e2 (low x hx);refine br ⟨Z',q+1,rfl,pz,T',ds.more O nz (by omega) lows,by omega,?_⟩;have lt':(Z'.take i).length=i:=by rw [bq]; omega
    have ed:(Z'.take (i+1)).drop (i+1 - (q+1+1))=(Z'.take i).drop (i - (q+1))++[Z'.getD i 0]:=by
     rw [take_one (by omega),show i+1 - (q+1+1)=i - (q+1) by omega,List.drop_append_of_le_length (by omega)]
    have vin:Z'.getD (i - 1) 0∈(Z'.take i).drop (i - (q+1)):=by
     have e3:(Z'.take i).drop (i - 1)=[Z'.getD (i - 1) 0]:=gP (by omega) (by omega);have:Z'.getD (i - 1) 0∈(Z'.take i).drop (i - 1):=by rw [e3]; simp
     rw [show i - 1=(i - (q+1))+q by omega,<- List.drop_drop] at this;rw [show (i - (q+1))+q=i - 1 by omega] at this;exact df this
    have sub:∀ x∈(Z'.take i).drop (i - (q+1)),x∈Z'.take i:=fun x hx=>df hx;intro x hx y hy;rw [ed] at hx hy;rcases au.mp hx with a | a
    ·rcases au.mp hy with b | b
     ·exact er x a y b
     ·have b:y=Z'.getD i 0:=by simpa using b
      rw [b]; exact lows x (sub x a)
    ·have a:x=Z'.getD i 0:=by simpa using a
     rw [a];rcases au.mp hy with b | b
     ·exact O.tr _ _ _ (nz y (cu (sub y b))) nv ny (er _ vin y b) e
     ·have b:y=Z'.getD i 0:=by simpa using b
      rw [b]; exact O.irr ny
 ·rintro ⟨Z',q,rfl,pz,T',ds,hq,er⟩;exact ⟨Z',_,q,rfl,by omega,pz,T',ds,hq,er⟩
 ·obtain ⟨Z',i,q,rfl,hi,pz,T',ds,hq,er⟩:=hq;have lz:=pz.length_eq;have nz:∀ x∈Z',x < n:=fun x hx=>nZ x (pz.mem_iff.mp hx);dsimp only
  by_cases c:q > 0
  ·rw [if_pos c];refine aw (AJ O T' hq (by omega) ds er fun Z2 st2 p2 d2 m2 g2 T2=>?_);have l2:=p2.length_eq;rw [<- lz,<- l2];exact wH O T2 (fun x hx=>nz x (p2.mem_iff.mp hx)) (by omega) (by omega) d2 fun r Z3 st3 b1 b2 b3 b4 b5=>k r Z3 st3 b1 b2 (b3.trans (p2.trans pz)) b4 b5
  ·rw [if_neg c];rw [<- lz];exact wH O T' nz (by omega) (by omega) ds fun r Z3 st3 b1 b2 b3 b4 b5=>k r Z3 st3 b1 b2 (b3.trans pz) b4 b5
theorem uZ (O:Ask M A E s κ pr n lt) {X Z:List Nat} {pd:Array (Nat×Nat×Nat)} {st:SortSt} (T:Tl pr κ X Z pd st) (nZ:∀ x∈Z,x < n) (h0:0 < Z.length) {Q:Option Nat->SortSt->Prop}
  (k:∀ r Z' st',0 < r->r<=Z'.length->Z'.Perm Z->Srt lt (Z'.take r)->Tl pr κ X Z' pd st'->Q (some r) st'):wpS M A E s (countRun' X.length Z.length) Q st:=by
 rw [yJ];have s1:Srt lt (Z.take 1):=by
  have:=bZ (l:=Z) (i:=0) h0;rw [d0] at this;rw [this];exact je _ _
 refine aw (jq (fu (fun i c st'=>st'=st/\c=(none,i)/\Srt lt (Z.take i)) (Q:=fun c st'=>st'=st/\∃ r,c=(none,r)/\0 < r/\r<=Z.length/\Srt lt (Z.take r)/\(r < Z.length->lt (Z.getD r 0) (Z.getD (r - 1) 0)=true)) (fun i c st' h1 h2=>?_) (fun c st'=>?_) ⟨rfl,rfl,s1⟩) fun c st' hq=>?_)
 ·rintro ⟨rfl,rfl,hs⟩;dsimp only;rw [show X.length+i - 1=X.length+(i - 1) by omega];refine aw (kD O T nZ h2 (by omega) ?_);dsimp only;cases e:lt (Z.getD i 0) (Z.getD (i - 1) 0) with
  | true=>
   rw [if_pos rfl];exact br ⟨rfl,i,rfl,by omega,by omega,hs,fun _=>e⟩
  | false=>
   rw [if_neg (by decide)];exact br ⟨rfl,rfl,hs.more O nZ (by omega) h2 e⟩
 ·rintro ⟨rfl,rfl,hs⟩;exact ⟨rfl,_,rfl,by omega,by omega,hs,fun q=>by omega⟩
 ·obtain ⟨rfl,r,rfl,a1,a2,a3,a4⟩:=hq;dsimp only
  by_cases c1:(r == Z.length)=true
  ·rw [if_pos c1];exact br (k r Z st' a1 a2 (iy _) a3 T)
  rw [if_neg c1];rw [beq_iff_eq] at c1;have e:=a4 (by omega);have ny:Z.getD r 0 < n:=nZ _ (aP (by omega));have nv:Z.getD (r - 1) 0 < n:=nZ _ (aP (by omega));have n0:Z.getD 0 0 < n:=nZ _ (aP h0)
  by_cases c2:r > 1
  ·rw [if_pos c2];rw [show X.length+r - 1=X.length+(r - 1) by omega];have w:=kD (M:=M) (A:=A) (E:=E) (s:=s) O T nZ (i:=0) (j:=r - 1) h0 (by omega) (Q:=fun b st2=>b=some (lt (Z.getD 0 0) (Z.getD (r - 1) 0))/\st2=st') ⟨rfl,rfl⟩;rw [Nat.add_zero] at w;refine aw (jq w fun b st2 hb=>?_);obtain ⟨rfl,rfl⟩:=hb;dsimp only;cases e2:lt (Z.getD 0 0) (Z.getD (r - 1) 0) with
   | true=>
    rw [if_pos rfl];exact br (k r Z st2 a1 a2 (iy _) a3 T)
   | false=>
    rw [if_neg (by decide)];have lm:(Z.take r).length=r:=by rw [bq]; omega
    refine aw (yL T (D:=[]) (B:=Z.take r) (Y:=Z.drop r) (by rw [i8,bo]) (by simp) (by simp [lm]) fun st3 T3=>?_);rw [i8] at T3;have pz:((Z.take r).reverse++Z.drop r).Perm Z:=by
     have:=iu (Z.drop r) (gg (Z.take r))
     rwa [bo] at this
    have lz:=pz.length_eq;have nz:∀ x∈(Z.take r).reverse++Z.drop r,x < n:=fun x hx=>nZ x (pz.mem_iff.mp hx);have et:((Z.take r).reverse++Z.drop r).take r=(Z.take r).reverse:=by
     rw [List.take_append,du (by rw [gx]; omega),gx,lm,Nat.sub_self,List.take_zero,dk]
    have eg:((Z.take r).reverse++Z.drop r).getD r 0=Z.getD r 0:=by
     have:=yK (X:=(Z.take r).reverse) (Z:=Z.drop r) 0;rw [gx,lm,Nat.add_zero] at this;rw [this,ak,List.getElem?_drop,ak,Nat.add_zero]
    have d1:Dsc lt (((Z.take r).reverse++Z.drop r).take (r+1)):=by
     refine Dsc.more O nz (by omega) (by rw [et]; exact a3.rev) fun x hx=>?_;rw [et] at hx;rw [eg];have hx:=gc.mp hx;have nx:=nZ x (cu hx);have g0:lt x (Z.getD 0 0)=false:=by
      have s0:=a3;unfold Srt at s0;have hc:=dj (l:=Z.take r) (i:=0) (by omega);have e0:(Z.take r)[0]'(by omega)=Z.getD 0 0:=by rw [fh]; simp [h0]
      rw [d0,e0] at hc;rw [hc] at s0 hx;rcases bw.mp hx with q | q
      ·rw [q]; exact O.irr n0
      ·exact (jc.mp s0).1 x q
     exact O.tr _ _ _ ny nv nx (O.as _ _ ny nv e) (O.tr _ _ _ nv n0 nx e2 g0)
    rw [<- lz];exact sH O T3 nz (by omega) d1 fun q Z3 st3 b1 b2 b3 b4 b5=>k q Z3 st3 b1 b2 (b3.trans pz) b4 b5
  ·rw [if_neg c2];obtain rfl:r=1:=by omega
   have d1:Dsc lt (Z.take (1+1)):=by
    refine Dsc.more O nZ (by omega) (by rw [show Z.take 1=[Z.getD 0 0] by have:=bZ (l:=Z) (i:=0) h0; rwa [d0] at this]; exact je _ _) fun x hx=>?_;rw [show Z.take 1=[Z.getD 0 0] by have:=bZ (l:=Z) (i:=0) h0; rwa [d0] at this] at hx;have hx:x=Z.getD 0 0:=by simpa using hx
    rw [hx];exact O.as _ _ ny n0 e
   exact sH O T nZ (by omega) d1 k
end
section
variable {M:Model} {A:Around} {E:Value->Shared->Prop} {s:Shared} {κ:j7} {pr:Nat->Keyed} {n:Nat} {lt:Nat->Nat->Bool}
theorem CD (P B Y:List Nat) (y:Nat):bubble (arr pr (P++(B++y :: Y))) (P.length+B.length) B.length=arr pr (P++(y :: (B++Y))):=by
 apply Array.ext_getElem?;intro i;rw [getElem?_bubble (by rw [cJ]; simp) _ (by omega)];have g:∀ (l:List Nat) (i:Nat),(arr pr l)[i]?=(l[i]?).map pr:=fun l i=>by simp [arr]
 simp only [g,Nat.add_sub_cancel]
 by_cases h1:i=P.length
 ·rw [if_pos h1,h1]
  congr 1
  rw [aq (by omega),aq (by omega),aq (by omega)];simp
 rw [if_neg h1]
 by_cases h2:P.length < i/\i<=P.length+B.length
 ·rw [if_pos h2]
  congr 1
  rw [aq (by omega),bp (by omega),aq (by omega),show i - P.length=(i - 1 - P.length)+1 by omega,d4,bp (by omega)]
 rw [if_neg h2]
 congr 1
 by_cases h3:i < P.length
 ·rw [bp h3,bp h3]
 ·rw [aq (by omega),aq (by omega),aq (by omega),show i - P.length=(i - P.length - 1)+1 by omega,d4,aq (by omega),show i - P.length - 1+1 - B.length=(i - P.length - 1 - B.length)+1 by omega,d4]
theorem E7 {Z:List Nat} {l k x:Nat} (hk:k<=Z.length) (h:x∈(Z.take k).drop l):∃ i,l<=i/\i < k/\x=Z.getD i 0:=by
 obtain ⟨i,hi,rfl⟩:=List.mem_iff_getElem.mp h;rw [bz,bq] at hi;refine ⟨l+i,by omega,by omega,?_⟩;rw [ij,fh,ak,cm (by omega)];rfl
theorem Srt.at (O:Ask M A E s κ pr n lt) {Z:List Nat} (nZ:∀ x∈Z,x < n) {k:Nat} (hk:k<=Z.length) (h:Srt lt (Z.take k)) {i j:Nat} (hij:i<=j) (hj:j < k):lt (Z.getD j 0) (Z.getD i 0)=false:=by
 by_cases c:i=j
 ·rw [c]; exact O.irr (nZ _ (aP (by omega)))
 ·have lm:(Z.take k).length=k:=by rw [bq]; omega
  have:=c8.mp h i j (by omega) (by omega) (by omega);rw [fh,fh] at this;have ei:Z.getD i 0=Z[i]'(by omega):=by simp [show i < Z.length by omega]
  have ej:Z.getD j 0=Z[j]'(by omega):=by simp [show j < Z.length by omega]
  rw [ei,ej];exact this
theorem qU (O:Ask M A E s κ pr n lt) {X Z:List Nat} {pd:Array (Nat×Nat×Nat)} {st:SortSt} (T:Tl pr κ X Z pd st) (nZ:∀ x∈Z,x < n) {m ok:Nat} (hm:m<=Z.length) (hok:ok<=m) (hs:Srt lt (Z.take ok)) {Q:Bool->SortSt->Prop}
  (k:∀ Z' st',Z'.Perm Z->Srt lt (Z'.take m)->Tl pr κ X Z' pd st'->Q true st'):wpS M A E s (binarySort' X.length m ok) Q st:=by
 rw [binarySort'_eq]
 refine aw (jq (fu (I:=fun k c st'=>c=(none,())/\∃ Z',Z'.Perm Z/\Tl pr κ X Z' pd st'/\Srt lt (Z'.take (min k m)))
  (Q:=fun c st'=>c=(none,())/\∃ Z',Z'.Perm Z/\Tl pr κ X Z' pd st'/\Srt lt (Z'.take m)) ?step ?fin ?init) ?post)
 case post=>
  rintro c st' ⟨rfl,Z',p,T',h⟩
  exact br (k Z' st' p h T')
 case init=>
  refine ⟨rfl,Z,iy _,T,?_⟩
  by_cases h1:ok=0
  ·by_cases h2:m=0
   ·rw [h2,Nat.min_zero,List.take_zero]; exact ix
   ·rw [show min (max ok 1) m=1 by omega]
    have:=bZ (l:=Z) (i:=0) (by omega)
    rw [d0] at this
    rw [this]
    exact je _ _
  ·rwa [show min (max ok 1) m=ok by omega]
 case fin=>
  rintro c st' ⟨hc,Z',p,T',h⟩
  refine ⟨hc,Z',p,T',?_⟩
  rwa [show min (max (max ok 1) m) m=m by omega] at h
 case step=>
  rintro k c st' hak hkn ⟨rfl,Z',p,T',hs'⟩
  rw [show min k m=k by omega] at hs'
  have lz:=p.length_eq
  have nz:∀ x∈Z',x < n:=fun x hx=>nZ x (p.mem_iff.mp hx)
  have gn:∀ i,i < Z'.length->Z'.getD i 0 < n:=fun i hi=>nz _ (aP hi)
  refine aw (jq (fu (I:=fun x c st''=>st''=st'/\∃ l r,c=(none,l,r)/\l<=r/\r<=k/\r - l<=k - x/\
    (∀ i,i < l->lt (Z'.getD k 0) (Z'.getD i 0)=false)/\(∀ i,r<=i->i < k->lt (Z'.getD k 0) (Z'.getD i 0)=true))
   (Q:=fun c st''=>st''=st'/\∃ l r,c=(none,l,r)/\l<=k/\
    (∀ i,i < l->lt (Z'.getD k 0) (Z'.getD i 0)=false)/\(∀ i,l<=i->i < k->lt (Z'.getD k 0) (Z'.getD i 0)=true)) ?istep ?ifin ?iinit) ?ipost)
  case iinit=>exact ⟨rfl,0,k,rfl,by omega,by omega,by omega,fun i hi=>by omega,fun i h1 h2=>by omega⟩
  case ifin=>
   rintro c st'' ⟨rfl,l,r,rfl,hlr,hrk,hm,hlo,hhi⟩
   have:l=r:=by omega
   subst this
   exact ⟨rfl,l,l,rfl,hrk,hlo,hhi⟩
  case istep=>
   rintro x c st'' _ hxk ⟨rfl,l,r,rfl,hlr,hrk,hm,hlo,hhi⟩
   dsimp only
   by_cases hge:l >= r
   ·rw [if_pos hge]
    have:l=r:=by omega
    subst this
    exact br ⟨rfl,l,l,rfl,hrk,hlo,hhi⟩
   ·rw [if_neg hge]
    refine aw (kD O T' nz (by omega) (by omega) ?_)
    dsimp only
    cases e:lt (Z'.getD k 0) (Z'.getD ((l+r) / 2) 0) with
    | true=>
     rw [if_pos rfl]
     refine br ⟨rfl,l,(l+r) / 2,rfl,by omega,by omega,by omega,hlo,fun i h1 h2=>?_⟩
     cases e2:lt (Z'.getD k 0) (Z'.getD i 0) with
     | true=>rfl
     | false=>
      have:=O.tr _ _ _ (gn ((l+r) / 2) (by omega)) (gn i (by omega)) (gn k (by omega)) (hs'.at O nz (by omega) h1 h2) e2
      rw [e] at this; exact absurd this (by decide)
    | false=>
     rw [if_neg (by decide)]
     refine br ⟨rfl,(l+r) / 2+1,r,rfl,by omega,by omega,by omega,fun i h1=>?_,hhi⟩
     exact O.tr _ _ _ (gn i (by omega)) (gn ((l+r) / 2) (by omega)) (gn k (by omega)) (hs'.at O nz (by omega) (by omega) (by omega)) e
  case ipost=>
   rintro c st'' ⟨rfl,l,r,rfl,hlk,hlo,hhi⟩
   show wpS _ _ _ _ (do moveDown' (X.length+k) (X.length+l); pure (nq (none,()))) _ _
   rw [moveDown'_eq]
   obtain ⟨D,eD⟩:∃ D,D=Z'.take l:=⟨_,rfl⟩
   obtain ⟨B,eB⟩:∃ B,B=(Z'.take k).drop l:=⟨_,rfl⟩
   have lD:D.length=l:=by rw [eD,bq]; omega
   have lB:B.length=k - l:=by rw [eB,bz,bq]; omega
   have et:Z'.take k=D++B:=by rw [eD,eB]; exact cY hlk
   have ez:Z'=D++(B++(Z'.getD k 0 :: Z'.drop (k+1))):=by
    conv=>lhs; rw [<- bo k Z',et,ai]
    rw [dj (by omega)]
    simp [show k < Z'.length by omega]
   have eb:bubble (arr pr (X++Z')) (X.length+k) (X.length+k - (X.length+l))=arr pr (X++(D++(Z'.getD k 0 :: (B++Z'.drop (k+1))))):=by
    have:=CD (pr:=pr) (X++D) B (Z'.drop (k+1)) (Z'.getD k 0)
    rw [bh,lD,lB,ai,ai,<- ez,show X.length+l+(k - l)=X.length+k by omega] at this
    rw [show X.length+k - (X.length+l)=k - l by omega]
    exact this
   refine aw (wpS_modify (br ⟨rfl,D++(Z'.getD k 0 :: (B++Z'.drop (k+1))),?_,⟨?_,T'.k,T'.p,T'.f⟩,?_⟩))
   ·refine i5 ?_ p
    conv=>rhs; rw [ez]
    exact cj _ (List.perm_middle.symm)
   ·rw [<- eb,<- T'.a]
   ·rw [show min (k+1) m=k+1 by omega]
    have et2:(D++(Z'.getD k 0 :: (B++Z'.drop (k+1)))).take (k+1)=D++(Z'.getD k 0 :: B):=by
     rw [show D++(Z'.getD k 0 :: (B++Z'.drop (k+1)))=(D++(Z'.getD k 0 :: B))++Z'.drop (k+1) by simp]
     rw [List.take_append_of_le_length (by simp; omega),du (by simp; omega)]
    rw [et2]
    rw [et] at hs'
    unfold Srt at hs' ⊢
    obtain ⟨a1,a2,a3⟩:=ar.mp hs'
    refine ar.mpr ⟨a1,jc.mpr ⟨fun x hx=>?_,a2⟩,fun x hx y hy=>?_⟩
    ·rw [eB] at hx
     obtain ⟨i,i1,i2,rfl⟩:=E7 (by omega) hx
     exact O.as _ _ (gn k (by omega)) (gn i (by omega)) (hhi i i1 i2)
    ·rcases bw.mp hy with rfl | hy
     ·rw [eD] at hx
      obtain ⟨i,i1,i2,rfl⟩:=E7 (l:=0) (Z:=Z') (k:=l) (x:=x) (by omega) (by rwa [d0])
      exact hlo i i2
     ·exact a3 x hx y hy
end
def dX:Nat->List (List Nat×Nat)->List (Nat×Nat×Nat)
 | _,[]=>[]
 | b,(u,w) :: r=>(b,u.length,w) :: dX (b+u.length) r
def aJ (g:List (List Nat×Nat)):List Nat:=(g.map iz).flatten
theorem oT (g h:List (List Nat×Nat)):aJ (g++h)=aJ g++aJ h:=by simp [aJ]
theorem fM (u:List Nat×Nat) (h:List (List Nat×Nat)):aJ (u :: h)=u.1++aJ h:=by simp [aJ]
theorem oU:aJ []=[]:=rfl
theorem fI:∀ (b:Nat) (g:List (List Nat×Nat)),(dX b g).length=g.length
 | _,[]=>rfl
 | b,(u,w) :: r=>by show (dX _ r).length+1=_; rw [fI]; rfl
theorem dA:∀ (b:Nat) (g h:List (List Nat×Nat)),dX b (g++h)=dX b g++dX (b+(aJ g).length) h
 | b,[],h=>rfl
 | b,(u,w) :: r,h=>by
  show (b,u.length,w) :: dX (b+u.length) (r++h)=_
  rw [dA,fM,bh,<- Nat.add_assoc];rfl
theorem Kr {α:Type} (l r:List α) (a b:α):(l++a :: r).set l.length b=l++b :: r:=by simp
theorem Fj {α:Type} (l r:List α) (a b:α):(l++a :: b :: r).eraseIdx (l.length+1)=l++a :: r:=by
 rw [List.eraseIdx_append_of_length_le (by omega)];simp
theorem AK {α:Type} (l:List α) (a:α) (f:α->α):(l++[a]).modify l.length f=l++[f a]:=by
 apply kh;intro i;rw [List.getElem?_modify]
 by_cases h:l.length=i
 ·subst h; simp
 ·simp only [if_neg h]
  by_cases h2:i < l.length
  ·rw [bp h2,bp h2]; simp
  ·rw [ik (by simp; omega),ik (by simp; omega)]; rfl
structure Rn (pr:Nat->Keyed) (κ:j7) (lt:Nat->Nat->Bool) (n:Nat) (g:List (List Nat×Nat)) (R:List Nat) (st:SortSt):Prop where
 a:arrOf st=arr pr (aJ g++R)
 k:kindOf st=κ
 f:jx st=none
 p:(dh st).toList=dX 0 g
 s:∀ u∈g,Srt lt u.1/\0 < u.1.length
 q:(aJ g++R).Perm (d6 n)
section
variable {M:Model} {A:Around} {E:Value->Shared->Prop} {s:Shared} {κ:j7} {pr:Nat->Keyed} {n:Nat} {lt:Nat->Nat->Bool}
theorem Rn.sz {g:List (List Nat×Nat)} {R:List Nat} {st:SortSt} (h:Rn pr κ lt n g R st):(dh st).size=g.length:=by
 rw [<- gv,h.p,fI]
theorem Rn.lo {g:List (List Nat×Nat)} {R:List Nat} {st:SortSt} (h:Rn pr κ lt n g R st):∀ x∈aJ g++R,x < n:=fun x hx=>by
 have:=h.q.mem_iff.mp hx;simpa using this
theorem Rn.len {g:List (List Nat×Nat)} {R:List Nat} {st:SortSt} (h:Rn pr κ lt n g R st):(aJ g).length+R.length=n:=by
 have:=h.q.length_eq;simpa using this
theorem Rn.at {S S':List (List Nat×Nat)} {u:List Nat×Nat} {R:List Nat} {st:SortSt} (h:Rn pr κ lt n (S++u :: S') R st):(dh st)[S.length]?=some ((aJ S).length,u.1.length,u.2):=by
 rw [<- Array.getElem?_toList,h.p,dA,jz,aq (by rw [fI]; omega),fI,Nat.sub_self];rfl
theorem mX (O:Ask M A E s κ pr n lt) {S S':List (List Nat×Nat)} {u v:List Nat×Nat} {R:List Nat} {st:SortSt} (h:Rn pr κ lt n (S++u :: v :: S') R st) {Q:Bool->SortSt->Prop}
  (k:∀ W st',W.length=u.1.length+v.1.length->Rn pr κ lt n (S++(W,u.2) :: S') R st'->Q true st'):wpS M A E s (mergeAt' S.length) Q st:=by
 have su:=h.s u (by simp);have sv:=h.s v (by simp);have ef:aJ (S++u :: v :: S')++R=aJ S++(u.1++(v.1++(aJ S'++R))):=by simp [aJ]
 have hl:=h.lo;rw [ef] at hl;have p2:(dh st)[S.length+1]?=some ((aJ S).length+u.1.length,v.1.length,v.2):=by
  have h':Rn pr κ lt n ((S++[u])++v :: S') R st:=by rw [ai]; exact h
  have:=h'.at
  rw [bh,oT,bh] at this;simpa [aJ] using this
 refine AI O su.1 sv.1 (fun x hx=>hl x (by simp [hx])) (fun x hx=>hl x (by simp [hx])) su.2 sv.2 h.k h.f (X:=aJ S) (Y:=aJ S'++R) (by rw [h.a,ef]) h.at p2 fun W st' w1 w2 w3 w4 w5 w6=>k W st' (by rw [w1.length_eq,bh]) ?_;have lw:W.length=u.1.length+v.1.length:=by rw [w1.length_eq,bh]
 have ew:aJ (S++(W,u.2) :: S')++R=aJ S++(W++(aJ S'++R)):=by simp [aJ]
 refine ⟨by rw [w3,ew],w5,w6,?_,fun z hz=>?_,?_⟩
 ·rw [w4,Array.toList_eraseIdxIfInBounds,Array.toList_setIfInBounds,h.p,dA,dA]
  show (((dX 0 S++(_ :: _ :: _)).set S.length _).eraseIdx (S.length+1))=_
  have lp:=fI 0 S;rw [<- lp,Kr,Fj]
  show dX 0 S++(_ :: dX _ S')=dX 0 S++(_ :: dX _ S')
  rw [jz,lw,Nat.add_assoc]
 ·rcases au.mp hz with a | a
  ·exact h.s z (by simp [a])
  ·rcases bw.mp a with rfl | a
   ·exact ⟨w2,by show 0 < W.length; omega⟩
   ·exact h.s z (by simp [a])
 ·have:=h.q;rw [ef] at this;rw [ew];refine i5 (cj _ ?_) this;have:=iu (aJ S'++R) w1
  rwa [ai u.1] at this
theorem GP {α:Type} {g:List α} {i:Nat} (h:i+1 < g.length):∃ S u v S',g=S++u :: v :: S'/\S.length=i:=by
 refine ⟨g.take i,g[i],g[i+1],g.drop (i+2),?_,by rw [bq]; omega⟩
 conv=>lhs; rw [<- bo i g,dj (by omega),dj (by omega)]
def oV (size lo n:Nat):StateT SortSt Sem (ForInStep (Option Unit×Nat)):=do
 match (dh (<- get)).back? with
 | some (s1,n1,_)=>
  let pw:=power' size (2*s1+n1) (2*s1+n1+n1+n) size
  let r <- forIn [0:size] ((none:Option Unit),()) fun _ _=>do
   let p:=dh (<- get)
   match (if p.size > 1 then p[p.size - 2]? else none) with
   | some (_,_,older)=>
    if older<=pw then pure (.done (none,())) else do
     let b <- mergeAt' (p.size - 2)
     if !b then pure (.done (some (),())) else pure (.yield (none,()))
   | _=>pure (.done (none,()))
  match r.1 with
  | some a=>pure (.done (some a,lo))
  | none=>do
   modify fun s=>kg s ((dh s).modify ((dh s).size - 1) fun (st,len,_)=>(st,len,pw))
   modify fun s=>kg s ((dh s).push (lo,n,0))
   pure (.yield (none,lo+n))
 | _=>do
  modify fun s=>kg s ((dh s).push (lo,n,0))
  pure (.yield (none,lo+n))
def yM (size minrun lo:Nat):StateT SortSt Sem (ForInStep (Option Unit×Nat)):=
 if lo >= size then pure (.done (none,lo)) else do
  match (<- countRun' lo (size - lo)) with
  | some found=>
   if found < minrun then do
    rule "list.sort.binary-insertion"
    let b <- binarySort' lo (min (size - lo) minrun) found
    if !b then pure (.done (some (),lo)) else oV size lo (min (size - lo) minrun)
   else oV size lo found
  | _=>pure (.done (some (),lo))
def GQ (size:Nat):StateT SortSt Sem Unit:=do
 for _ in [0:size] do
  let p:=dh (<- get)
  if p.size<=1 then break
  let i:=p.size - 2
  let before:=if i > 0 then p[i - 1]?.map (·.2.1) else none
  let i:=if before.any (· < (p[i+1]?.elim 0 (·.2.1))) then i - 1 else i
  if !(<- mergeAt' i) then return
theorem yN:sortRuns'=(do
 let size:=(arrOf (<- get)).size
 let r <- forIn [0:size] ((none:Option Unit),0) fun _ c=>yM size (minRun' size size 0) c.2
 match r.1 with
 | some a=>pure a
 | none=>GQ size):=by
 rw [sortRuns'_eq]
 refine bind_congr fun st=>?_
 dsimp only
 refine congr (congrArg _ (congrArg _ (funext fun x=>funext fun c=>?_))) (funext fun r=>?_)
 ·unfold yM
  by_cases h:c.2 >= (arrOf st).size
  ·rw [if_pos h,if_pos h]
  ·rw [if_neg h,if_neg h]
   refine bind_congr fun o=>?_
   cases o with
   | none=>rfl
   | some f=>
    dsimp only
    by_cases h2:f < minRun' (arrOf st).size (arrOf st).size 0
    ·rw [if_pos h2,if_pos h2]
     refine bind_congr fun _=>?_
     refine bind_congr fun b=>?_
     cases b
     ·rfl
     ·unfold oV
      refine bind_congr fun st2=>?_
      cases e:(dh st2).back? with
      | none=>rfl
      | some t=>
       obtain ⟨a1,a2,a3⟩:=t
       dsimp only
       refine bind_congr fun r=>?_
       obtain ⟨r1,r2⟩:=r
       cases r1 <;> rfl
    ·rw [if_neg h2,if_neg h2]
     unfold oV
     refine bind_congr fun st2=>?_
     cases e:(dh st2).back? with
      | none=>rfl
      | some t=>
       obtain ⟨a1,a2,a3⟩:=t
       dsimp only
       refine bind_congr fun r=>?_
       obtain ⟨r1,r2⟩:=r
       cases r1 <;> rfl
 ·obtain ⟨r1,r2⟩:=r
  cases r1
  ·rfl
  ·rfl
end
section
variable {M:Model} {A:Around} {E:Value->Shared->Prop} {s:Shared} {κ:j7} {pr:Nat->Keyed} {n:Nat} {lt:Nat->Nat->Bool}
theorem Rn.push {g:List (List Nat×Nat)} {Z:List Nat} {st:SortSt} (h:Rn pr κ lt n g Z st) {m:Nat} (h0:0 < m) (hm:m<=Z.length) (hs:Srt lt (Z.take m)):Rn pr κ lt n (g++[(Z.take m,0)]) (Z.drop m) (kg st ((dh st).push ((aJ g).length,m,0))):=by
 have lm:(Z.take m).length=m:=by rw [bq]; omega
 have ef:aJ (g++[(Z.take m,0)])++Z.drop m=aJ g++Z:=by
  rw [oT,fM,oU,dk,ai,bo]
 refine ⟨by rw [ef]; exact h.a,h.k,h.f,?_,fun u hu=>?_,by rw [ef]; exact h.q⟩
 ·show ((dh st).push _).toList=_
  rw [Array.toList_push,h.p,dA,jz]
  show _=dX 0 g++[(_,(Z.take m).length,0)]
  rw [lm]
 ·rcases au.mp hu with a | a
  ·exact h.s u a
  ·have a:u=(Z.take m,0):=by simpa using a
   rw [a];exact ⟨hs,by show 0 < (Z.take m).length; omega⟩
theorem Rn.pow {S:List (List Nat×Nat)} {u:List Nat×Nat} {Z:List Nat} {st:SortSt} (h:Rn pr κ lt n (S++[u]) Z st) (pw:Nat):Rn pr κ lt n (S++[(u.1,pw)]) Z (kg st ((dh st).modify ((dh st).size - 1) fun x=>(x.1,x.2.1,pw))):=by
 have ef:aJ (S++[(u.1,pw)])=aJ (S++[u]):=by simp [aJ]
 have hz:=h.sz;rw [bh] at hz;refine ⟨by rw [ef]; exact h.a,h.k,h.f,?_,fun v hv=>?_,by rw [ef]; exact h.q⟩
 ·show ((dh st).modify _ _).toList=_
  rw [Array.toList_modify,h.p,dA,dA,hz]
  show (dX 0 S++[_]).modify S.length _=dX 0 S++[_]
  have:=AK (dX 0 S) (0+(aJ S).length,u.1.length,u.2) (fun x=>(x.1,x.2.1,pw));rw [fI] at this;exact this
 ·rcases au.mp hv with a | a
  ·exact h.s v (by simp [a])
  ·have a:v=(u.1,pw):=by simpa using a
   rw [a];exact h.s u (by simp)
theorem E8 {α:Type} {g:List α} (h:g≠[]):∃ S u,g=S++[u]:=⟨g.dropLast,g.getLast h,(List.dropLast_concat_getLast h).symm⟩
theorem sI (O:Ask M A E s κ pr n lt) {g:List (List Nat×Nat)} {Z:List Nat} {st:SortSt} (h:Rn pr κ lt n g Z st) {m:Nat} (h0:0 < m) (hm:m<=Z.length) (hs:Srt lt (Z.take m)) {Q:ForInStep (Option Unit×Nat)->SortSt->Prop}
  (k:∀ g' st',(aJ g').length=(aJ g).length+m->Rn pr κ lt n g' (Z.drop m) st'->Q (.yield (none,(aJ g).length+m)) st'):wpS M A E s (oV n (aJ g).length m) Q st:=by
 unfold oV
 have lm:(Z.take m).length=m:=by rw [bq]; omega
 have fin:∀ g' st',(aJ g').length=(aJ g).length->Rn pr κ lt n g' Z st'->wpS M A E s (do
   modify fun s=>kg s ((dh s).push ((aJ g).length,m,0))
   pure (.yield (none,(aJ g).length+m))) Q st':=fun g' st' e r=>by
  refine aw (wpS_modify (br ?_))
  refine k (g'++[(Z.take m,0)]) _ ?_ ?_
  ·rw [oT,fM,oU,dk,bh,e,lm]
  ·rw [<- e]; exact r.push h0 hm hs
 refine aw (wpS_get ?_)
 by_cases hg:g=[]
 ·have hb:(dh st).back?=none:=by
   rw [<- Array.getLast?_toList,h.p,hg]; rfl
  rw [hb]
  exact fin g st rfl h
 ·obtain ⟨S,u,eg⟩:=E8 hg
  have hb:(dh st).back?=some ((aJ S).length,u.1.length,u.2):=by
   rw [<- Array.getLast?_toList,h.p,eg,dA,jz]
   show (dX 0 S++[_]).getLast?=_
   rw [List.getLast?_concat]
  rw [hb]
  dsimp only
  generalize power' n (2*(aJ S).length+u.1.length) (2*(aJ S).length+u.1.length+u.1.length+m) n=pw
  refine aw (jq (fu (fun i c st'=>c=(none,())/\∃ g',g'≠[]/\(aJ g').length=(aJ g).length/\Rn pr κ lt n g' Z st') (Q:=fun c st'=>c=(none,())/\∃ g',g'≠[]/\(aJ g').length=(aJ g).length/\Rn pr κ lt n g' Z st') (fun i c st' h1 h2=>?_) (fun c st' hq=>hq) ⟨rfl,g,hg,rfl,h⟩) fun c st' hq=>?_)
  ·rintro ⟨rfl,g',hn,e,r⟩
   refine aw (wpS_get ?_)
   rw [r.sz]
   by_cases c:g'.length > 1
   ·rw [if_pos c]
    obtain ⟨S2,u2,v2,S3,eg2,l2⟩:=GP (g:=g') (i:=g'.length - 2) (by omega)
    have l3:S3=[]:=by
     have:=congrArg List.length eg2
     simp at this
     exact List.length_eq_zero_iff.mp (by omega)
    subst l3
    rw [<- l2]
    have ra:Rn pr κ lt n (S2++u2 :: v2 :: []) Z st':=eg2 ▸ r
    rw [ra.at]
    dsimp only
    by_cases c2:u2.2<=pw
    ·rw [if_pos c2]
     exact br ⟨rfl,g',hn,e,r⟩
    ·rw [if_neg c2]
     refine aw (mX O ra fun W st2 lw r2=>?_)
     refine br ⟨rfl,_,by simp,?_,r2⟩
     rw [<- e,eg2]
     simp [aJ]
     omega
   ·rw [if_neg c]
    exact br ⟨rfl,g',hn,e,r⟩
  ·obtain ⟨rfl,g',hn,e,r⟩:=hq
   dsimp only
   obtain ⟨S2,u2,rfl⟩:=E8 hn
   refine aw (wpS_modify ?_)
   exact fin _ _ (by rw [<- e]; simp [aJ]) (r.pow pw)
theorem CF (O:Ask M A E s κ pr n lt) (mr:Nat) {g:List (List Nat×Nat)} {Z:List Nat} {st:SortSt} (h:Rn pr κ lt n g Z st) {Q:ForInStep (Option Unit×Nat)->SortSt->Prop}
  (k0:(aJ g).length=n->Q (.done (none,(aJ g).length)) st)
  (k:∀ g' Z' st',(aJ g).length < (aJ g').length->Rn pr κ lt n g' Z' st'->Q (.yield (none,(aJ g').length)) st'):wpS M A E s (yM n mr (aJ g).length) Q st:=by
 unfold yM;have hl:=h.len
 by_cases c:(aJ g).length >= n
 ·rw [if_pos c];exact br (k0 (by omega))
 rw [if_neg c];have T:Tl pr κ (aJ g) Z (dh st) st:=⟨h.a,h.k,rfl,h.f⟩;have nZ:∀ x∈Z,x < n:=fun x hx=>h.lo x (ah _ hx);have ez:n - (aJ g).length=Z.length:=by omega
 rw [ez];have up:∀ Z' st',Z'.Perm Z->Tl pr κ (aJ g) Z' (dh st) st'->Rn pr κ lt n g Z' st':=fun Z' st' p T'=>⟨T'.a,T'.k,T'.f,by rw [T'.p]; exact h.p,h.s,(cj _ p).trans h.q⟩;refine aw (uZ O T nZ (by omega) fun r Z' st' a1 a2 a3 a4 a5=>?_);dsimp only;have lz:=a3.length_eq
 by_cases c2:r < mr
 ·rw [if_pos c2];refine aw (fH ?_);refine aw (qU O a5 (fun x hx=>nZ x (a3.mem_iff.mp hx)) (m:=min Z.length mr) (by omega) (by omega) a4 fun Z2 st2 b1 b2 b3=>?_);have l2:=b1.length_eq;exact sI O (up Z2 st2 (b1.trans a3) b3) (by omega) (by omega) b2 fun g' st3 c1 c2=>c1 ▸ k g' _ st3 (by omega) c2
 ·rw [if_neg c2];exact sI O (up Z' st' a3 a5) a1 a2 a4 fun g' st3 c1 c2=>c1 ▸ k g' _ st3 (by omega) c2
theorem Rn.few {g:List (List Nat×Nat)} {R:List Nat} {st:SortSt} (h:Rn pr κ lt n g R st):g.length<=n:=by
 have:∀ g:List (List Nat×Nat),(∀ u∈g,0 < u.1.length)->g.length<=(aJ g).length:=by
  intro g
  induction g with
  | nil=>intro _; exact bj _
  | cons u r ih=>
   intro hu;rw [fM,bh,cx];have:=ih fun v hv=>hu v (ao _ hv);have:=hu u (bg ..);omega
 have:=this g fun u hu=>(h.s u hu).2;have:=h.len;omega
theorem Fk (O:Ask M A E s κ pr n lt) {g:List (List Nat×Nat)} {st:SortSt} (h:Rn pr κ lt n g [] st) {Q:Unit->SortSt->Prop}
  (k:∀ W st',W.Perm (d6 n)->Srt lt W->arrOf st'=arr pr W->jx st'=none->Q () st'):wpS M A E s (GQ n) Q st:=by
 unfold GQ;refine aw (jq (fu (fun i c st'=>c=(none,())/\∃ g',(g'.length<=1\/g'.length+i<=n)/\Rn pr κ lt n g' [] st') (Q:=fun c st'=>c=(none,())/\∃ g',g'.length<=1/\Rn pr κ lt n g' [] st') (fun i c st' h1 h2=>?_) (fun c st'=>?_) ⟨rfl,g,.inr h.few,h⟩) fun c st' hq=>?_)
 ·rintro ⟨rfl,g',hx,r⟩;refine aw (wpS_get ?_);dsimp only;rw [r.sz]
  by_cases c:g'.length<=1
  ·rw [if_pos c];exact br ⟨rfl,g',c,r⟩
  ·rw [if_neg c];generalize ei:(if Option.any _ _=true then g'.length - 2 - 1 else g'.length - 2)=j;have hj:j+1 < g'.length:=by
    have hb:∀ b:Bool,(if b=true then g'.length - 2 - 1 else g'.length - 2)+1 < g'.length:=fun b=>by
     cases b
     ·rw [if_neg (by decide)]; omega
     ·rw [if_pos rfl]; omega
    rw [<- ei];exact hb _
   obtain ⟨S,u,v,S',rfl,rfl⟩:=GP hj;refine aw (mX O r fun W st2 lw r2=>?_);refine br ⟨rfl,_,?_,r2⟩;simp at hx c ⊢;omega
 ·rintro ⟨rfl,g',hx,r⟩;exact ⟨rfl,g',by omega,r⟩
 ·obtain ⟨rfl,g',hx,r⟩:=hq;refine br ?_;have ra:=r.a;have rq:=r.q;rw [dk] at ra rq;refine k (aJ g') st' rq ?_ ra r.f
  match g',hx,r with
  | [],_,_=>exact ix
  | [u],_,r=>
   rw [fM,oU,dk];exact (r.s u (by simp)).1
theorem vA (O:Ask M A E s κ pr n lt) {st:SortSt} (ha:arrOf st=arr pr (d6 n)) (hk:kindOf st=κ) (hp:dh st=#[]) (hf:jx st=none) {Q:Unit->SortSt->Prop}
  (k:∀ W st',W.Perm (d6 n)->Srt lt W->arrOf st'=arr pr W->jx st'=none->Q () st'):wpS M A E s sortRuns' Q st:=by
 rw [yN];refine aw (wpS_get ?_);dsimp only;rw [ha,cJ,List.length_range];have r0:Rn pr κ lt n [] (d6 n) st:=⟨ha,hk,hf,by rw [hp]; rfl,fun u hu=>absurd hu (by simp),iy _⟩;refine aw (jq (fu (fun i c st'=>∃ g R,c=(none,(aJ g).length)/\i<=(aJ g).length/\Rn pr κ lt n g R st') (Q:=fun c st'=>∃ g,c.1=none/\Rn pr κ lt n g [] st') (fun i c st' h1 h2=>?_) (fun c st'=>?_) ⟨[],_,rfl,dv _,r0⟩) fun c st' hq=>?_)
 ·rintro ⟨g,R,rfl,hi,r⟩;have hl:=r.len;refine CF O _ r (fun e=>?_) fun g' Z' st2 e r2=>?_
  ·obtain rfl:R=[]:=List.length_eq_zero_iff.mp (by omega);exact ⟨g,rfl,r⟩
  ·exact ⟨g',Z',rfl,by omega,r2⟩
 ·rintro ⟨g,R,rfl,hi,r⟩;have hl:=r.len;obtain rfl:R=[]:=List.length_eq_zero_iff.mp (by omega);exact ⟨g,rfl,r⟩
 ·obtain ⟨g,e,r⟩:=hq;rw [e];exact Fk O r k
end
section
variable {prog:Program} {w:World} {A:Around} {E:Value->Shared->Prop} {s:Shared} {ks vs:List Value} {κ:j7}
theorem GR (hl:ks.length=vs.length) (lt:Nat->Nat->Bool)
  (tr:∀ i j k,i < vs.length->j < vs.length->k < vs.length->lt j i=false->lt k j=false->lt k i=false) (as:∀ i j,i < vs.length->j < vs.length->lt i j=true->lt j i=false)
  (hlt:∀ i j,i < vs.length->j < vs.length->∀ Q:Bool->Shared->Prop,Q (lt i j) s->wpAny (model prog w) A (keyLt' κ (ks.getD i di) (ks.getD j di)) Q (fun _ _=>False) s):
  wpAny (model prog w) A ((sortRuns').run (SortSt.mk' κ (ks.toArray.zip vs.toArray) #[] 7 none)) (fun r s'=>s'=s/\∃ p:List Nat,p.Perm (d6 vs.length)/\p.Pairwise (fun i j=>lt j i=false)/\(arrOf r.2).map (·.2)=(p.map fun i=>vs.getD i di).toArray/\jx r.2=none) E s:=by
 have O:Ask (model prog w) A E s κ (fun i=>(ks.getD i di,vs.getD i di)) vs.length lt:=⟨tr,as,fun st i j hk hi hj Q q=>by
  rw [lt'_eq];refine aw (wpS_get ?_);rw [hk];refine aw (wpS_lift (wpAny_attempt (ja (hlt i j hi hj (fun b s'=>b=lt i j/\s'=s) ⟨rfl,rfl⟩) (fun b s' hb=>?_) fun _ _ f=>f.elim)));obtain ⟨rfl,rfl⟩:=hb;exact ⟨rfl,br q⟩⟩
 have ea:ks.toArray.zip vs.toArray=arr (fun i=>(ks.getD i di,vs.getD i di)) (d6 vs.length):=by
  apply Array.toList_inj.mp;apply kh;intro i;unfold arr
  by_cases hi:i < vs.length
  ·have hi':i < ks.length:=by omega
   simp [hi,hi',j4]
  ·have hi':¬ i < ks.length:=by omega
   simp [hi,hi'];omega
 refine vA O (st:=SortSt.mk' κ (ks.toArray.zip vs.toArray) #[] 7 none) ea rfl rfl rfl (Q:=fun _ st'=>∃ p:List Nat,p.Perm (d6 vs.length)/\p.Pairwise (fun i j=>lt j i=false)/\(arrOf st').map (·.2)=(p.map fun i=>vs.getD i di).toArray/\jx st'=none) fun W st' w1 w2 w3 w4=>⟨W,w1,w2,?_,w4⟩;rw [w3];unfold arr;simp
end
section
variable {prog:Program} {w:World} {A:Around} {R:Result->Shared->Prop} {s:Shared}
def E9 (ifs:List Expr) (env:Env):Sem Bool:=forIn ifs true fun c r=>if r=true then do let ok <- isTrue c env (eval c env); pure (nq ok) else pure (nq r)
theorem yO {elt target iter:Expr} {ifs:List Expr} {scope:Scope} {pos:Pos} {it acc:Value} {env:Env} (I:Nat->Shared->Prop)
  (turn:∀ n s,I n s->wpAny (model prog w) A (pyNext it) (fun r s₁=>match r with
   | none=>R (.ok .next) s₁
   | some v=>wpAny (model prog w) A (letOwnedTupleGo target it v) (fun _ s₁'=>wpAny (model prog w) A (assign target env v) (fun _ s₂=>
     wpAny (model prog w) A (E9 ifs env) (fun ok s₃=>
      if ok=true then wpAny (model prog w) A (eval elt env) (fun x s₄=>
       wpAny (model prog w) A (call (.builtin "list.append") [acc,x]) (fun _ s₅=>∃ m,m < n/\I m s₅) (fun _ _=>False) s₄) (fun _ _=>False) s₃
      else ∃ m,m < n/\I m s₃) (fun _ _=>False) s₂) (fun _ _=>False) s₁') (fun _ _=>False) s₁) (fun _ _=>False) s)
  (n:Nat) (h:I n s):
  codeAny (model prog w) A (.compLoop (.ListComp elt [⟨target,iter,ifs,0⟩] scope pos) 0 it acc env) R s:=by
 refine codeAny_loop rfl I (fun n s hI=>?_) n h
 show wpAny _ A ((compTurn (.ListComp elt [⟨target,iter,ifs,0⟩] scope pos) 0 it acc env).onRaise (fun x=>do noteFrame x env; theTreesLotGoes x)) _ _ s
 refine wpAny_noted ?_;rw [compTurn_list];refine aa (wpAny_standAt (aa (ja (turn n s hI) (fun r s₁ h₁=>?_) fun _ _ h'=>h'.elim)));cases r with
 | none=>exact af h₁
 | some v=>
  refine aa (ja h₁ (fun _ s₁' h₁'=>?_) fun _ _ h'=>h'.elim);refine aa (ja h₁' (fun _ s₂ h₂=>aa (ja h₂ (fun ok s₃ h₃=>?_) fun _ _ h'=>h'.elim)) fun _ _ h'=>h'.elim);cases ok with
  | false=>exact af ⟨rfl,h₃⟩
  | true=>
   exact aa (aa (ja h₃ (fun x s₄ h₄=>aa (ja h₄ (fun _ s₅ h₅=>af (af ⟨rfl,h₅⟩)) fun _ _ h'=>h'.elim)) fun _ _ h'=>h'.elim))
end
def fN (cells:List (Str×Addr)):List (Str×l6)->List (Str×Addr)->List (Str×Addr)
 | [],cs=>cs
 | (n,k) :: r,cs=>fN cells r (if (k == d8)=true then (n,(cells.lookup n).getD 0) :: cs else cs)
theorem vB {scope:Scope} {env:Env} (h:∀ y∈scope.names,y.2=d8->∃ c,env.cells.lookup y.1=some c):closureFor scope env=pure (fN env.cells scope.names []):=by
 have go:∀ (names:List (Str×l6)) (cs:List (Str×Addr)),(∀ y∈names,y.2=d8->∃ c,env.cells.lookup y.1=some c)->
   (forIn names cs fun (x:Str×l6) (r:List (Str×Addr))=>match x with
    | (name,kind)=>if (kind == d8)=true then (do let y <- cellOf env name; pure (nq ((name,y) :: r))) else (pure (nq r):Sem _))=(pure (fN env.cells names cs):Sem _):=by
  intro names
  induction names with
  | nil=>intro cs _; rfl
  | cons y r ih=>
   intro cs hy
   obtain ⟨n,k⟩:=y
   rw [List.forIn_cons]
   have ih':=fun cs'=>ih cs' fun y hm=>hy y (ao _ hm)
   by_cases hk:(k == d8)=true
   ·obtain ⟨c,hc⟩:=hy (n,k) bg (by simpa using hk)
    have e1:cellOf env n=pure c:=by unfold cellOf; rw [show env.cells.lookup n=some c from hc]
    have e2:fN env.cells ((n,k) :: r) cs=fN env.cells r ((n,c) :: cs):=by
     show fN env.cells r (if (k == d8)=true then _ else _)=_
     rw [if_pos hk,show env.cells.lookup n=some c from hc]; rfl
    rw [e2,<- ih' ((n,c) :: cs)]
    simp only [hk,if_true,e1,pure_bind]
   ·have e2:fN env.cells ((n,k) :: r) cs=fN env.cells r cs:=by
     show fN env.cells r (if (k == d8)=true then _ else _)=_
     rw [if_neg hk]
    rw [e2,<- ih' cs]
    simp only [hk,if_false,pure_bind]
    try rfl
 have:=go scope.names [] h
 unfold closureFor
 simpa using this
theorem pZ {cells:List (Str×Addr)} {x:Str} {c:Addr}:∀ (names:List (Str×l6)) (cs:List (Str×Addr)),(fN cells names cs).lookup x=some c->cs.lookup x=some c\/(∃ y∈names,y.1=x/\y.2=d8/\c=(cells.lookup x).getD 0)
 | [],_,h=>.inl h
 | (n,k) :: r,cs,h=>by
  rcases pZ r _ h with h1 | ⟨y,hy,e⟩
  ·by_cases hk:(k == d8)=true
   ·rw [if_pos hk] at h1
    by_cases hx:x=n
    ·subst hx;simp only [cf,beq_self_eq_true] at h1;exact .inr ⟨(x,k),bg,rfl,by simpa using hk,(b8 h1).symm⟩
    ·have:(x == n)=false:=by simpa using hx
     simp only [cf,this] at h1;exact .inl h1
   ·rw [if_neg hk] at h1;exact .inl h1
  ·exact .inr ⟨y,ao _ hy,e⟩
theorem sJ {cells:List (Str×Addr)} {x:Str}:∀ (names:List (Str×l6)) (cs:List (Str×Addr)),((∃ c,cs.lookup x=some c)\/∃ y∈names,y.1=x/\y.2=d8)->∃ c,(fN cells names cs).lookup x=some c
 | [],_,h=>by
  rcases h with h | ⟨y,hy,_⟩
  ·exact h
  ·cases hy
 | (n,k) :: r,cs,h=>by
  refine sJ r _ ?_;rcases h with ⟨c,h⟩ | ⟨y,hy,e1,e2⟩
  ·left
   by_cases hk:(k == d8)=true
   ·rw [if_pos hk]
    by_cases hx:x=n
    ·subst hx; simp [cf]
    ·have:(x == n)=false:=by simpa using hx
     exact ⟨c,by simp only [cf,this]; exact h⟩
   ·rw [if_neg hk]; exact ⟨c,h⟩
  ·rcases bw.mp hy with rfl | hy
   ·left;have hk:(k == d8)=true:=by simpa using e2
    rw [if_pos hk];have hx:n=x:=e1;subst hx;simp [cf]
   ·exact .inr ⟨y,hy,e1,e2⟩
def lX (os:Scope) (oN:List Str) (sc:Scope) (N:List Str) (js:List (Option Nat)):Bool:=
 (match sc.kind with | .function=>true | _=>false) && sc.names.all (fun y=>match y.2 with
  | .cell=>(match sc.names.lookup y.1 with | some .cell=>true | _=>false)
  | _=>true) &&
 sc.names.all (fun y=>match y.2 with
  | .local=>(match sc.names.lookup y.1 with | some .local=>true | _=>false)
  | .free=>(match sc.names.lookup y.1,os.names.lookup y.1 with | some .free,some .cell=>true | some .free,some .free=>true | _,_=>false)
  | _=>true) &&
 js.length == N.length && (js.zip N).all (fun p=>match p.1 with
  | none=>true
  | some j=>(match oN[j]? with | some x=>decide (x=p.2) | none=>false) && (match sc.names.lookup p.2 with | some .free=>true | _=>false))
structure NP (os:Scope) (oN:List Str) (sc:Scope) (N:List Str) (js:List (Option Nat)):Prop where
 kind:sc.kind=.function
 own:∀ y∈sc.names,y.2=.cell->sc.names.lookup y.1=some .cell
 nm:∀ y∈sc.names,y.2=.local->sc.names.lookup y.1=some .local
 fr:∀ y∈sc.names,y.2=.free->os.names.lookup y.1=some .cell\/os.names.lookup y.1=some .free
 len:js.length=N.length
 cap:∀ (i j:Nat),js[i]?=some (some j)->∃ x,N[i]?=some x/\oN[j]?=some x/\sc.names.lookup x=some .free
theorem Fm {os:Scope} {oN:List Str} {sc:Scope} {N:List Str} {js:List (Option Nat)} (h:lX os oN sc N js=true):NP os oN sc N js:=by
 unfold lX at h;simp only [dw] at h;obtain ⟨⟨⟨⟨h1,h2⟩,h3⟩,h4⟩,h5⟩:=h;refine ⟨?_,fun y hy e=>?_,fun y hy e=>?_,fun y hy e=>?_,by simpa using h4,fun i j e=>?_⟩
 ·cases hk:sc.kind <;> rw [hk] at h1 <;> first | rfl | exact absurd h1 bx
 ·have:=cy.mp h2 y hy;rw [e] at this;dsimp only at this;cases hl:sc.names.lookup y.1 with
  | none=>rw [hl] at this; exact absurd this bx
  | some k=>cases k <;> rw [hl] at this <;> first | rfl | exact absurd this bx
 ·have:=cy.mp h3 y hy;rw [e] at this;dsimp only at this;cases hl:sc.names.lookup y.1 with
  | none=>rw [hl] at this; exact absurd this bx
  | some k=>cases k <;> rw [hl] at this <;> first | rfl | exact absurd this bx
 ·have:=cy.mp h3 y hy;rw [e] at this;dsimp only at this;cases hl:sc.names.lookup y.1 with
  | none=>rw [hl] at this; exact absurd this bx
  | some k=>
   rw [hl] at this;cases ho:os.names.lookup y.1 with
   | none=>rw [ho] at this; cases k <;> exact absurd this bx
   | some k'=>rw [ho] at this; cases k <;> cases k' <;> first | exact .inl rfl | exact .inr rfl | exact absurd this bx
 ·have hlen:js.length=N.length:=by simpa using h4
  obtain ⟨hi,ej⟩:=ae.mp e;have hN:i < N.length:=by omega
  have hz:(js.zip N)[i]?=some (some j,N[i]):=by
   rw [j4];exact ⟨e,by simp [hN]⟩
  have:=cy.mp h5 _ (b7 hz);simp only [dw] at this;obtain ⟨t1,t2⟩:=this;refine ⟨N[i],by simp [hN],?_,?_⟩
  ·cases ho:oN[j]? with
   | none=>rw [ho] at t1; exact absurd t1 bx
   | some x=>rw [ho] at t1; rw [of_decide_eq_true t1]
  ·cases hl:sc.names.lookup N[i] with
   | none=>rw [hl] at t2; exact absurd t2 bx
   | some k=>rw [hl] at t2; cases k <;> first | rfl | exact absurd t2 bx
theorem cK {κ:Type} {x:Str} {k:κ}:∀ {l:List (Str×κ)},l.lookup x=some k->(x,k)∈l
 | [],h=>by simp at h
 | (n,v) :: r,h=>by
  by_cases hx:x=n
  ·subst hx;simp only [cf,beq_self_eq_true] at h;cases h
   exact bg
  ·have:(x == n)=false:=by simpa using hx
   simp only [cf,this] at h;exact ao _ (cK h)
theorem jG {sc:Scope} {env:Env}:∀ {names:List (Str×l6)} {x:Str} {k:l6},(names.map fun (n,k)=>if (k == d8 && env.scope.kind == .function && env.kindOf n == some .cell) then (n,nr) else (n,k)).lookup x=some k->
  names.lookup x=some k\/(k=.cell/\names.lookup x=some .free)
 | [],_,_,h=>by simp at h
 | (n,q) :: r,x,k,h=>by
  have ih:=@jG sc env r x k
  by_cases hc:(q == d8 && env.scope.kind == .function && env.kindOf n == some .cell)=true
  ·simp only [da] at h;rw [if_pos hc] at h;have hq:q=.free:=by
    simp only [dw] at hc;simpa using hc.1.1
   by_cases hx:x=n
   ·subst hx;simp only [cf,beq_self_eq_true] at h ⊢;exact .inr ⟨(b8 h).symm,by rw [hq]⟩
   ·have e:(x == n)=false:=by simpa using hx
    simp only [cf,e] at h ⊢;exact ih h
  ·simp only [da] at h;rw [if_neg hc] at h
   by_cases hx:x=n
   ·subst hx;simp only [cf,beq_self_eq_true] at h ⊢;exact .inl h
   ·have e:(x == n)=false:=by simpa using hx
    simp only [cf,e] at h ⊢;exact ih h
theorem mY {env:Env}:∀ {names:List (Str×l6)} {x:Str},names.lookup x=some .free->
  (names.map fun (n,k)=>if (k == d8 && env.scope.kind == .function && env.kindOf n == some .cell) then (n,nr) else (n,k)).lookup x=some .free\/
  (names.map fun (n,k)=>if (k == d8 && env.scope.kind == .function && env.kindOf n == some .cell) then (n,nr) else (n,k)).lookup x=some .cell
 | [],_,h=>by simp at h
 | (n,q) :: r,x,h=>by
  have ih:=@mY env r x
  by_cases hc:(q == d8 && env.scope.kind == .function && env.kindOf n == some .cell)=true
  ·simp only [da];rw [if_pos hc]
   by_cases hx:x=n
   ·subst hx;simp only [cf,beq_self_eq_true]
    first | exact .inr rfl | exact .inr trivial
   ·have e:(x == n)=false:=by simpa using hx
    simp only [cf,e] at h ⊢;exact ih h
  ·simp only [da];rw [if_neg hc]
   by_cases hx:x=n
   ·subst hx;simp only [cf,beq_self_eq_true] at h ⊢;exact .inl h
   ·have e:(x == n)=false:=by simpa using hx
    simp only [cf,e] at h ⊢;exact ih h
theorem bA:∀ (names:List (Str×l6)) (n:Nat) (acc:List (Str×Addr)),fj n names acc=fj n names []++acc
 | [],_,_=>rfl
 | (x,k) :: r,n,acc=>by
  unfold fj;split
  ·rw [bA r _ ((x,n) :: acc),bA r _ [(x,n)],ai];rfl
  ·exact bA r n acc
theorem iC {x:Str} {c:Addr}:∀ {names:List (Str×l6)} {n:Nat},(x,c)∈fj n names []->(x,nr)∈names
 | [],_,h=>by cases h
 | (y,k) :: r,n,h=>by
  unfold fj at h;split at h
  ·rename_i hk;rw [bA,au] at h;rcases h with h | h
   ·exact ao _ (iC h)
   ·have e:=dm.mp h;have ex:x=y:=congrArg iz e;have ek:k=.cell:=by simpa using hk
    rw [ex,ek];exact bg
  ·exact ao _ (iC h)
theorem qA {α:Type} {x:Str} {c:α}:∀ {l:List (Str×α)},(x,c)∈l->∃ d,l.lookup x=some d
 | (y,d) :: r,h=>by
  by_cases e:x=y
  ·subst e; exact ⟨d,by simp [cf]⟩
  ·have z:(x == y)=false:=by simpa using e
   rcases bw.mp h with q | q
   ·exact absurd (congrArg iz q) e
   ·obtain ⟨d',hd⟩:=qA q;exact ⟨d',by simp only [cf,z]; exact hd⟩
theorem eO {x:Str}:∀ {names:List (Str×l6)} {n:Nat},(x,nr)∈names->∃ c,(fj n names []).lookup x=some c
 | (y,k) :: r,n,h=>by
  have go:∃ c,(x,c)∈fj n ((y,k) :: r) []:=by
   rcases bw.mp h with q | q
   ·have ex:x=y:=congrArg iz q;have ek:k=.cell:=(congrArg Prod.snd q).symm;refine ⟨n,?_⟩;unfold fj;rw [if_pos (by rw [ek]; rfl),bA,ex];exact ah _ bg
   ·unfold fj;split
    ·obtain ⟨c,hc⟩:=eO (n:=n+1) q;rw [bA];exact ⟨c,cq _ (mem_of_lookup hc)⟩
    ·obtain ⟨c,hc⟩:=eO (n:=n) q;exact ⟨c,mem_of_lookup hc⟩
  obtain ⟨c,hc⟩:=go;exact qA hc
theorem mZ {α:Type} {x:Str}:∀ {l r:List (Str×α)},(l++r).lookup x=(l.lookup x).or (r.lookup x)
 | [],_=>by simp
 | (y,d) :: l,r=>by
  have ih:=mZ (x:=x) (l:=l) (r:=r);cases e:x == y with
  | true=>simp [cf,e]
  | false=>simp only [lg,cf,e]; exact ih
theorem oW {M:Model} {A:Around} {E:Value->Shared->Prop} {s:Shared} {scope:Scope} {globals:Addr} {closure:List (Str×Addr)} {qual:Str} {func:Option Addr} {code:Value} {outer:Env} {builtins:Addr} {Q:Env->Shared->Prop}
  (hQ:Q (newEnv scope s.heap.objs.size globals (fj (s.heap.objs.size+1) scope.names closure) qual func code (some outer) builtins) { s with heap:=pushCells (s.heap.push { cls:=.type "dict",data:=.dict #[] }) scope.names }):
  wpAny M A (newFunctionEnv scope globals closure [] qual func code (some outer) builtins) Q E s:=by
 simp only [newFunctionEnv,Option.isSome_some,if_true];refine aa (wpAny_alloc ?_);refine aa (wpAny_layCells _ (fun name kind cells=>by cases hkc:kind == nr <;> simp [hkc]) _ _ _ _ ?_);rw [show ({ s with heap:=s.heap.push { cls:=.type "dict",data:=.dict #[] } }:Shared).heap.objs.size=s.heap.objs.size+1 from gb ..]
 rw [List.forIn_nil];exact aa (af (af hQ))
def Cx.comp (X:Cx) (sc:Scope) (N:List Str) (C:Addr) (fp:List Addr) (s₀:Shared) (H₀:Hp):Cx:=
 { X with N:=N,s₀:=s₀,H₀:=H₀,env:=compEnvC sc (fj (C+1) sc.names (fN X.env.cells sc.names [])) C X.env,outer:=X.stack,ex:=fp,fn:=fun x=>(match sc.names.lookup x with | some .cell=>true | _=>false),pn:=[],xe:=fun _ _=>False }
def GS:St->Nat->Option V
 | [],_=>none
 | x :: _,0=>x
 | _ :: r,n+1=>GS r n
theorem AL:∀ {σ:St} {i:Nat} {v:V},GS σ i=some v->σ[i]?=some (some v)
 | [],_,_,h=>by cases h
 | x :: _,0,v,h=>by
  have h':x=some v:=h;simp [h']
 | _ :: r,n+1,v,h=>by
  rw [d4];exact AL (σ:=r) (i:=n) h
def iD (js:List (Option Nat)) (σ:St):St:=js.map fun o=>match o with
 | none=>none
 | some j=>GS σ j
theorem Ks {js:List (Option Nat)} {σ:St} {i:Nat} {v:V} (h:(iD js σ)[i]?=some (some v)):∃ j,js[i]?=some (some j)/\σ[j]?=some (some v):=by
 unfold iD at h;rw [bf] at h;cases e:js[i]? with
 | none=>rw [e] at h; cases h
 | some o=>
  rw [e] at h;cases o with
  | none=>cases h
  | some j=>exact ⟨j,rfl,AL (b8 h)⟩
def PTs (X:Cx) (ifs:List Expr) (t:TT):Prop:=
 ∀ (pins:List (Addr×Obj)) (s:Shared) (σ:St) (H:Hp) (Q:Bool->Hp->Prop),Inv X pins σ H s->t σ H Q->wpAny (model X.prog X.w) X.A (E9 ifs X.env) (TP X pins σ Q) X.xe s
def Qj:TT:=fun _ H Q=>Q true H
theorem Kt {X:Cx}:PTs X [] Qj:=fun _ _ _ H _ I h=>wpAny_tests_nil ⟨H,I,h⟩
theorem Ku {X:Cx} {c:Expr} {t:TT} (h:PT X c t):PTs X [c] t:=fun pins s σ H Q I q=>wpAny_tests_one (h pins s σ H Q I q)
def MP (js:List (Option Nat)) (g:TG) (tt:TT) (te:TE) (σ:St) (acc:Addr) (x:V) (H:Hp) (N:Hp->Prop):Prop:=g x (iD js σ) H fun σ2 H4=>tt σ2 H4 fun b H5=>
   if b=true then te σ2 H5 fun v H6=>∃ ys,H6 acc=some (.lst ys)/\ys.length < az/\N (upd H6 acc (.lst (ys++[v]))) else N H5
def Ea (js:List (Option Nat)) (wi:TI) (g:TG) (tt:TT) (te:TE):TE:=fun σ H Q=>wi σ H fun J H1=>∀ acc,H1 acc=none->
 ∃ W:Nat->Nat->Hp->Prop,(∃ m,W 0 m (upd H1 acc (.lst [])))/\∀ i m H2,W i m H2->
  (J.stop i H2/\Q (.ref acc) H2)\/(J.go i H2/\∃ N:Hp->Prop,(∀ H',N H'->∃ m',m' < m/\W (i+1) m' H')/\∀ x H3,J.yld i H2 x H3->MP js g tt te σ acc x H3 N)
section
variable {X:Cx} {elt iter tg:Expr} {ifs:List Expr} {sc:Scope} {pos:Pos} {os:Scope} {oN N:List Str} {js:List (Option Nat)} {wi:TI} {g:TG} {tt:TT} {te:TE}
structure Off (X:Cx) (pins:List (Addr×Obj)) (H:Hp) (C:Addr) (s:Shared):Prop where
 ns:∃ m,s.heap.Ns C m
 none:H C=none
 loc:C≠X.env.locals
 new:X.s₀.heap.objs.size<=C
 cells:∀ x c,X.env.cells.lookup x=some c->c≠C
 pins:∀ p∈X.pn++pins,p.1≠C
theorem Off.go {pins:List (Addr×Obj)} {σ:St} {H:Hp} {C:Addr} {s:Shared} {h':Heap} (o:Off X pins H C s) (I:Inv X pins σ H s) (hs:ju C s.heap h'):Inv X pins σ H { s with heap:=h' }:=
 I.turned (t':=s.toks) (fun b ob hb e=>(hs.2 b hb).trans e) o.none o.loc (.inr o.new) o.cells o.pins
theorem wI {use:Option (Value->Sem Unit)} {Q0:Value->Shared->Prop} (hc:X.calm=true) (hes:X.env.scope=os) (heN:X.N=oN) (ok:lX os oN sc N js=true) (hi:PI X tg iter wi)
  (hg:∀ C fp s₀ H₀,PG (X.comp sc N C fp s₀ H₀) tg g) (ht:∀ C fp s₀ H₀,PTs (X.comp sc N C fp s₀ H₀) ifs tt) (he:∀ C fp s₀ H₀,PE (X.comp sc N C fp s₀ H₀) elt te)
  {pins:List (Addr×Obj)} {s:Shared} {σ:St} {H:Hp} {Q:VK} (I:Inv X pins σ H s) (h:Ea js wi g tt te σ H Q)
  (hfin:∀ acc C s6 H6,Inv X pins σ H6 s6->Off X pins H6 C s6->Q (.ref acc) H6->compPost (model X.prog X.w) X.A X.xe use Q0 (.ref acc) C (.ok .next) s6)
  (hs:∀ x,jh iter X.env x=pure x:=by intro _; rfl):
  wpAny (model X.prog X.w) X.A (comprehension (.ListComp elt [⟨tg,iter,ifs,0⟩] sc pos) sc X.env (firstIterPos [⟨tg,iter,ifs,0⟩] pos) (newList []) false (eval iter X.env) use) Q0 X.xe s:=by
 have S:=Fm ok;subst hes heN;have hcl:∀ y∈sc.names,y.2=d8->∃ c,X.env.cells.lookup y.1=some c:=fun y hy e=>I.ok.has y.1 (S.fr y hy e);have clsub:∀ x c,(fN X.env.cells sc.names []).lookup x=some c->X.env.cells.lookup x=some c:=fun x c e=>by
  rcases pZ _ _ e with z | ⟨y,hy,e1,e2,e3⟩
  ·cases z
  ·obtain ⟨d,hd⟩:=hcl y hy e2;rw [e1] at hd;rw [hd] at e3;rw [hd,e3]; rfl
 refine wpAny_comprehension_free (use:=use) rfl hs (vB hcl) S.kind S.nm (thn (hi pins s σ H _ I h) fun v s1 h1=>thn h1 fun itv s2 h2=>?_);obtain ⟨it,fp,tn,J,H2,e,I2,T,st2,f2,q⟩:=h2;subst e;obtain ⟨W,⟨m0,w0⟩,turn⟩:=q s2.heap.objs.size I2.fresh;refine fm (oW ?_);have I3:Inv X pins σ (upd H2 s2.heap.objs.size (.lst [])) { s2 with heap:=s2.heap.push { cls:=.type "list",data:=.seq ([]:List Value).toArray },toks:=s2.toks }:=I2.lnew (its:=[]) (ys:=[]) .nil (dv _);generalize hH3:upd H2 s2.heap.objs.size (HO.lst [])=H3 at w0 I3;generalize hs3:({ s2 with heap:=s2.heap.push { cls:=.type "list",data:=.seq ([]:List Value).toArray },toks:=s2.toks }:Shared)=s3 at I3;have es3:({ s2 with heap:=s2.heap.push { cls:=.type "list",dict:=none,data:=.seq ([]:List Value).toArray } }:Shared)=s3:=hs3;have eh3:s2.heap.push { cls:=.type "list",dict:=none,data:=.seq ([]:List Value).toArray }=s3.heap:=by rw [<- es3]
 (try rw [eh3])
 have hC:∀ b o,s3.heap.get? b=some o->b≠s3.heap.objs.size:=fun b o e=>bu (ay e);have old:∀ b o,s3.heap.get? b=some o->(pushCells (s3.heap.push { cls:=.type "dict",data:=.dict #[] }) sc.names).get? b=some o:=fun b o e=>pushCells_keeps _ _ b o (ab _ e);have hns₁:(pushCells (s3.heap.push { cls:=.type "dict",data:=.dict #[] }) sc.names).Ns s3.heap.objs.size (fun _=>none):=(Heap.Ns.new s3.heap (.type "dict")).keeps (pushCells_keeps _ _);have cok:=cellsFrom_ok sc.names (s3.heap.push { cls:=.type "dict",data:=.dict #[] }) (s3.heap.objs.size+1) [] ⟨fun _ _ hm=>(nomatch hm),ix⟩ (by rw [gb]; exact bj _);rw [gb] at cok;generalize pushCells (s3.heap.push { cls:=.type "dict",data:=.dict #[] }) sc.names=h₁ at old hns₁ cok ⊢;have cl1:∀ {x c},(fj (s3.heap.objs.size+1) sc.names (fN X.env.cells sc.names [])).lookup x=some c->((x,c)∈fj (s3.heap.objs.size+1) sc.names []/\h₁.IsCell c none/\s3.heap.objs.size+1<=c)\/(X.env.cells.lookup x=some c/\c < s3.heap.objs.size):=fun {x c} e=>by
  rw [bA,mZ] at e;cases eo:(fj (s3.heap.objs.size+1) sc.names []).lookup x with
  | some d=>
   rw [eo] at e;cases e
   have:=mem_of_lookup eo;exact .inl ⟨this,cok.empty x c this⟩
  | none=>
   rw [eo] at e;have e:=clsub x c e;obtain ⟨v,z⟩:=I3.cell x c e;exact .inr ⟨e,z.lt⟩
 have cl2:∀ {x c},sc.names.lookup x=some .free->(fN X.env.cells sc.names []).lookup x=some c->(fj (s3.heap.objs.size+1) sc.names (fN X.env.cells sc.names [])).lookup x=some c:=fun {x c} hf e=>by
  rw [bA,mZ];cases eo:(fj (s3.heap.objs.size+1) sc.names []).lookup x with
  | some d=>
   have:=S.own _ (iC (mem_of_lookup eo)) rfl;rw [hf] at this;cases this
  | none=>exact e
 have st3:tn 0 s3.heap:=T.keep 0 _ _ st2 fun b hb o e=>by
  rw [<- eh3]; exact ab _ e
 have fobj:∀ b∈fp,∃ o,s3.heap.get? b=some o/\∀ v,o.data≠.cell v:=T.obj 0 _ st3;have f3:∀ b∈fp,An X pins H3 b:=fun b hb=>by
  obtain ⟨o,ho,_⟩:=T.obj 0 _ st2 b hb;refine ⟨?_,(f2 b hb).2⟩;rw [<- hH3,aN (bu (ay ho))];exact (f2 b hb).1
 -- the block's context
 have Xok:(X.comp sc N s3.heap.objs.size fp s3 H3).Ok:=by
  refine ⟨I.ok.mod,S.kind,I.ok.glob,I.ok.blt,bj _,fun x y c e1 e2=>?_,fun x hx=>?_,fun x c z e=>?_,I.ok.hd,I.ok.frames,.inl rfl,fun b hb=>?_,I3.bs,
   ft I.ok.bsz I3.sz,fun b o e hb=>?_,fun b hb hf=>?_,I3.stack,I3.stkFree⟩
  ·rcases cl1 e1 with ⟨m1,_,g1⟩ | ⟨z1,g1⟩ <;> rcases cl1 e2 with ⟨m2,_,g2⟩ | ⟨z2,g2⟩
   ·exact name_of_addr cok.apart m1 m2
   ·exact absurd (b0 g2 (Nat.le_of_succ_le g1)) (gf _)
   ·exact absurd (b0 g1 (Nat.le_of_succ_le g2)) (gf _)
   ·exact I.ok.inj x y c z1 z2
  ·have fr:sc.names.lookup x=some .free->∃ c,(fj (s3.heap.objs.size+1) sc.names (fN X.env.cells sc.names [])).lookup x=some c:=fun hf=>
    let ⟨c,hc⟩:=sJ (cells:=X.env.cells) (x:=x) sc.names [] (.inr ⟨_,cK hf,rfl,rfl⟩)
    ⟨c,cl2 hf hc⟩
   have fin:∀ {k},(relabel sc X.env).names.lookup x=some k->(k=.cell\/k=.free)->∃ c,(fj (s3.heap.objs.size+1) sc.names (fN X.env.cells sc.names [])).lookup x=some c:=fun {k} e hk=>by
    rcases jG (sc:=sc) e with z | ⟨_,z⟩
    ·rcases hk with rfl | rfl
     ·obtain ⟨c,hc⟩:=eO (n:=s3.heap.objs.size+1) (cK z);exact ⟨c,by rw [bA,mZ,hc]; rfl⟩
     ·exact fr z
    ·exact fr z
   rcases hx with hx | hx
   ·exact fin hx (.inl rfl)
   ·exact fin hx (.inr rfl)
  ·have z:sc.names.lookup x=some .cell:=by
    have z:(match sc.names.lookup x with | some .cell=>true | _=>false)=true:=z
    split at z
    ·assumption
    ·cases z
   have e:(fj (s3.heap.objs.size+1) sc.names (fN X.env.cells sc.names [])).lookup x=some c:=e;obtain ⟨d,hd⟩:=eO (n:=s3.heap.objs.size+1) (cK z);rw [bA,mZ,hd] at e;cases e
   exact Nat.le_of_succ_le (cok.empty x c (mem_of_lookup hd)).2
  ·obtain ⟨o,ho,_⟩:=fobj b hb;refine ⟨hC b o ho,fun x c e=>?_⟩;rcases cl1 e with ⟨_,_,g1⟩ | ⟨z1,_⟩
   ·exact gj (b0 (ay ho) (Nat.le_of_succ_le g1))
   ·exact (f3 b hb).2.2.2.2.1 x c z1
  ·rcases (f3 b hb).2.2.2.1 with z | z
   ·exact I.ok.noex b o e z
   ·exact absurd (b0 (ay e) (ft I.ok.bsz z)) (gf _)
  ·rcases bw.mp (I3.stkSub b hf) with z | z
   ·exact (f3 b hb).2.1 z
   ·exact (f3 b hb).2.2.1 z
 -- what the block takes from around it
 have capt:∀ (i:Nat) (x:Str) (v:V),N[i]?=some x->(iD js σ)[i]?=some (some v)->∃ u c o,RelV v u/\((compEnvC sc (fj (s3.heap.objs.size+1) sc.names (fN X.env.cells sc.names [])) s3.heap.objs.size X.env).kindOf x=some .cell\/(compEnvC sc (fj (s3.heap.objs.size+1) sc.names (fN X.env.cells sc.names [])) s3.heap.objs.size X.env).kindOf x=some .free)/\
   (fj (s3.heap.objs.size+1) sc.names (fN X.env.cells sc.names [])).lookup x=some c/\s3.heap.get? c=some o/\o.data=.cell (some u)/\H3 c=none/\c∉fp:=by
  intro i x v hN hv;obtain ⟨j,hj,hσ⟩:=Ks hv;obtain ⟨x',hx',ho,hf⟩:=S.cap i j hj;rw [hN] at hx'; cases hx';obtain ⟨m,hn,hl⟩:=I3.loc;have hvis:Vis X.env.scope x:=by
   rcases S.fr _ (cK hf) rfl with z | z
   ·exact .inr (.inl z)
   ·exact .inr (.inr z)
  obtain ⟨u,r,l⟩:=hl j x v ho hσ hvis;obtain ⟨c,hcl'⟩:=sJ (cells:=X.env.cells) (x:=x) sc.names [] (.inr ⟨_,cK hf,rfl,rfl⟩);have hcx:=clsub x c hcl';have hcell:s3.heap.IsCell c (some u):=by
   rcases l with ⟨k,_⟩ | ⟨_,c',e,z⟩
   ·exfalso;rcases S.fr _ (cK hf) rfl with z | z
    ·have k':X.env.scope.names.lookup x=some .local:=k;rw [z] at k'; cases k'
    ·have k':X.env.scope.names.lookup x=some .local:=k;rw [z] at k'; cases k'
   ·rw [hcx] at e; cases e; exact z
  obtain ⟨o,ho',hd⟩:=hcell;refine ⟨u,c,o,r,?_,cl2 hf hcl',ho',hd,I3.freeC x c hcx,fun hb=>(f3 c hb).2.2.2.2.1 x c hcx rfl⟩;exact (mY (env:=X.env) hf).symm
 -- at any state of the block,its names as at its start
 have recap:∀ {pins':List (Addr×Obj)} {σ8:St} {H8:Hp} {s8:Shared},Inv (X.comp sc N s3.heap.objs.size fp s3 H3) pins' σ8 H8 s8->Inv (X.comp sc N s3.heap.objs.size fp s3 H3) [] (iD js σ) H8 s8:=fun {pins' σ8 H8 s8} I8=>by
  refine ⟨I8.ok,I8.os,I8.bare,I8.base,?_,I8.cell,I8.free,I8.freeC,fun p hp=>by simp [Cx.comp] at hp,I8.hok,?_⟩
  ·obtain ⟨m,hn,_⟩:=I8.loc;refine ⟨m,hn,fun i x v hN hv _=>?_⟩;obtain ⟨u,c,o,r,k,hl,ho,hd,hn3,hnf⟩:=capt i x v hN hv;refine ⟨u,r,.inr ⟨k,c,hl,?_⟩⟩;obtain ⟨sl,e⟩:=I8.base.any ho hn3 hnf;exact ⟨_,e,hd⟩
  ·show (iD js σ).length=N.length
   unfold iD;rw [aj,S.len]
 have I4:Inv (X.comp sc N s3.heap.objs.size fp s3 H3) [] (iD js σ) H3 { s3 with heap:=h₁ }:=by
  refine ⟨Xok,rfl,I3.bare,Un.kept old,⟨_,hns₁,fun i x v hN hv _=>?_⟩,fun x c e=>?_,I3.fresh,fun x c e=>?_,fun p hp=>by simp [Cx.comp] at hp,I3.hok.kept old,?_⟩
  ·obtain ⟨u,c,o,r,k,hl,ho,hd,_,_⟩:=capt i x v hN hv;exact ⟨u,r,.inr ⟨k,c,hl,o,old c o ho,hd⟩⟩
  ·rcases cl1 e with ⟨_,g1,_⟩ | ⟨z1,_⟩
   ·exact ⟨_,g1⟩
   ·obtain ⟨v,o,ho,hd⟩:=I3.cell x c z1;exact ⟨v,o,old c o ho,hd⟩
  ·rcases cl1 e with ⟨_,_,g1⟩ | ⟨z1,_⟩
   ·exact I3.hok.fresh (by omega)
   ·exact I3.freeC x c z1
  ·show (iD js σ).length=N.length
   unfold iD;rw [aj,S.len]
 have st4:tn 0 h₁:=T.keep 0 _ _ st3 fun b hb o e=>old b o e;have fpok:∀ {H':Hp},(∀ b∈fp,H' b=none)->∀ b∈fp,An (X.comp sc N s3.heap.objs.size fp s3 H3) [] H' b:=fun {H'} hn b hb=>
  ⟨hn b hb,(Xok.exf b hb).1,Xok.exfs b hb,.inl hb,(Xok.exf b hb).2,fun p hp=>by simp [Cx.comp] at hp⟩
 have fin:∀ (s6:Shared) (H6:Hp),Inv (X.comp sc N s3.heap.objs.size fp s3 H3) [] (iD js σ) H6 s6->Q (.ref s2.heap.objs.size) H6->compPost (model X.prog X.w) X.A X.xe use Q0 (.ref s2.heap.objs.size) s3.heap.objs.size (.ok .next) s6:=fun s6 H6 I6 q6=>by
  have I7:Inv X pins σ H6 s6:=I3.call' (ch:=fp) I6.os I6.base I6.hok I6.bare fun b hb=>⟨(f3 b hb).2.2.2.1,(f3 b hb).2.1,(f3 b hb).2.2.2.2.1,(f3 b hb).2.2.2.2.2⟩;refine hfin _ _ _ _ I7 ⟨let ⟨m,hn,_⟩:=I6.loc; ⟨m,hn⟩,I6.free,gj I3.lt,I3.sz,fun x c e=>?_,fun p hp=>?_⟩ q6
  ·obtain ⟨v,z⟩:=I3.cell x c e;exact bu z.lt
  ·exact bu (ay (I3.pin p hp).1)
 have loop:codeAny (model X.prog X.w) X.A (.compLoop (.ListComp elt [⟨tg,iter,ifs,0⟩] sc pos) 0 (.ref it) (.ref s2.heap.objs.size) (compEnvC sc (fj (s3.heap.objs.size+1) sc.names (fN X.env.cells sc.names [])) s3.heap.objs.size X.env))
   (compPost (model X.prog X.w) X.A X.xe use Q0 (.ref s2.heap.objs.size) s3.heap.objs.size) { s3 with heap:=h₁ }:=by
  refine yO (fun n s'=>∃ i H',Inv (X.comp sc N s3.heap.objs.size fp s3 H3) [] (iD js σ) H' s'/\tn i s'.heap/\(∀ b∈fp,H' b=none)/\W i n H') ?_ m0 ⟨0,H3,I4,st4,fun b hb=>(f3 b hb).1,w0⟩;rintro n s5 ⟨i,H5,I5,st5,fr5,w5⟩;rcases turn i n H5 w5 with ⟨stop,qn⟩ | ⟨go,Nn,hN,step⟩
  ·refine thn (T.done (X.comp sc N s3.heap.objs.size fp s3 H3) rfl rfl rfl hc i [] s5 (iD js σ) H5 (fun _ _=>False) I5 (fpok fr5) st5 stop) fun r s6 ⟨hr,I6⟩=>?_;subst hr;exact fin s6 H5 I6 qn
  ·refine thn (T.item (X.comp sc N s3.heap.objs.size fp s3 H3) rfl rfl rfl hc i [] s5 (iD js σ) H5 (fun _ _=>False) I5 (fpok fr5) st5 go) fun r s6 ⟨u,hr,h6⟩=>?_;subst hr;refine thn h6 fun _ s7 hz=>?_;obtain ⟨x,H7,I7,r7,y7,st7,fr7⟩:=hz;have I7':=I7.pinned (fpok fr7) (T.obj _ _ st7);refine thn (hg _ _ _ _ _ s7 _ H7 x u _ I7' r7 (step x H7 y7)) fun _ s8 ⟨σ8,H8,I8,q8⟩=>?_;refine thn (ht _ _ _ _ _ s8 σ8 H8 _ I8 q8) fun b s9 ⟨H9,I9,q9⟩=>?_;have again:∀ {σ':St} {H':Hp} {s':Shared},Inv (X.comp sc N s3.heap.objs.size fp s3 H3) ([]++rV fp s7.heap) σ' H' s'->Nn H'->∃ m,m < n/\∃ i H',Inv (X.comp sc N s3.heap.objs.size fp s3 H3) [] (iD js σ) H' s'/\tn i s'.heap/\(∀ b∈fp,H' b=none)/\W i m H':=fun {σ' H' s'} I' n'=>by
    obtain ⟨m',hm,w'⟩:=hN H' n';refine ⟨m',hm,i+1,H',recap I',T.keep _ _ _ st7 fun b hb o e=>(I'.pin (b,o) (ah _ (ah _ (hX hb e)))).1,fun b hb=>?_,w'⟩;obtain ⟨o,e,d⟩:=T.obj _ _ st7 b hb;exact (I'.pin (b,o) (ah _ (ah _ (hX hb e)))).2.1
   cases b with
   | false=>exact again I9 q9
   | true=>
    refine thn (he _ _ _ _ _ s9 σ8 H9 _ I9 q9) fun u' s10 ⟨v,H10,I10,rv,ys,hacc,hz,n10⟩=>?_;refine thn (wB (X:=X.comp sc N s3.heap.objs.size fp s3 H3) _ s10 σ8 H10 (.ref s2.heap.objs.size) [v] (.ref s2.heap.objs.size) [u'] (fun _ H'=>Nn H') I10 rfl (.cons rv .nil) ⟨_,ys,v,rfl,rfl,hacc,hz,n10⟩) fun _ s11 ⟨_,H11,I11,_,n11⟩=>?_;exact again I11 n11
 exact codeAny_compStart_list loop (T.self X.A 0 _ _ _ st4 loop)
theorem Kv (hc:X.calm=true) (hes:X.env.scope=os) (heN:X.N=oN) (ok:lX os oN sc N js=true) (hi:PI X tg iter wi)
  (hg:∀ C fp s₀ H₀,PG (X.comp sc N C fp s₀ H₀) tg g) (ht:∀ C fp s₀ H₀,PTs (X.comp sc N C fp s₀ H₀) ifs tt) (he:∀ C fp s₀ H₀,PE (X.comp sc N C fp s₀ H₀) elt te)
  (hs:∀ x,jh iter X.env x=pure x:=by intro _; rfl):PE X (.ListComp elt [⟨tg,iter,ifs,0⟩] sc pos) (Ea js wi g tt te):=by
 intro pins s σ H Q I h;rw [eval_ListComp];refine wI (use:=none) hc hes heN ok hi hg ht he I h (fun acc C s6 H6 I6 o q=>?_) hs;exact ⟨o.ns.choose,o.ns.choose_spec,fun h' hs'=>⟨.ref acc,H6,o.go I6 hs',rfl,q⟩⟩
theorem CG {i:Nat} {x:Str} {pos' spos:Pos} (hN:X.N.Nodup) (hx':X.N[i]?=some x) (hloc:X.env.scope.names.lookup x=some .local) (hc:X.calm=true) (hes:X.env.scope=os) (heN:X.N=oN) (ok:lX os oN sc N js=true) (hi:PI X tg iter wi)
  (hg:∀ C fp s₀ H₀,PG (X.comp sc N C fp s₀ H₀) tg g) (ht:∀ C fp s₀ H₀,PTs (X.comp sc N C fp s₀ H₀) ifs tt) (he:∀ C fp s₀ H₀,PE (X.comp sc N C fp s₀ H₀) elt te)
  (hsw:swapsWith (.ListComp elt [⟨tg,iter,ifs,0⟩] sc pos) (some (.Name x pos')) spos.line X.env=pure true:=by rfl)
  (hs:∀ x,jh iter X.env x=pure x:=by intro _; rfl):PS X (.Assign [.Name x pos'] (.ListComp elt [⟨tg,iter,ifs,0⟩] sc pos) spos) (Nj (Ea js wi g tt te) (Gm i)):=by
 intro pins s σ H D I h
 rw [exec_Assign_Name_used _ _ _ _ hsw]
 refine aa (wpAny_standAt (aa ?_))
 show wpAny _ X.A (do let _ <- comprehension (.ListComp elt [⟨tg,iter,ifs,0⟩] sc pos) sc X.env _ (newList []) false (eval iter X.env) (some (assign (.Name x pos') X.env))) _ _ s
 refine aa (thn (wI (use:=some (assign (.Name x pos') X.env)) (Q0:=fun _ s'=>SP X pins D .next s') hc hes heN ok hi hg ht he I h (fun acc C s6 H6 I6 o q=>?_) hs) fun _ s' hq=>af (af hq))
 show wpAny _ X.A (assign (.Name x pos') X.env (.ref acc)) _ _ _
 refine wpAny_assign_Name (vV I6 hN hx' (.inl hloc) (v:=.ref acc) rfl (fun s7 I7 ⟨a,hs7,ha⟩=>?_) (.inr hloc))
 have hCa:C≠a:=by
  rcases ha with rfl | ha
  ·exact o.loc
  ·exact fun e=>o.cells x a ha e.symm
 obtain ⟨m,hn⟩:=o.ns
 have o7:Off X pins H6 C s7:=⟨⟨m,hn.sameBut hs7 hCa⟩,o.none,o.loc,o.new,o.cells,o.pins⟩
 exact ⟨m,hn.sameBut hs7 hCa,fun h' hs'=>⟨_,H6,o7.go I7 hs',q⟩⟩
end
section
variable {X:Cx}
def Qk:V->Option Int->Option Int->Hp->VK->Prop:=fun x lo hi H Q=>∃ z,x=.str z/\z.length<=az/\Q (.str (Txt.slice z lo hi)) H
theorem part_of {v:Value} {o:Option Int} (h:IsPart v o):∃ p:Option (Int×Tok),v=partValue p/\p.map (·.1)=o:=by
 cases h with
 | none=>exact ⟨none,rfl,rfl⟩
 | int i t=>exact ⟨some (i,t),rfl,rfl⟩
theorem NQ:SlR X Qk:=by
 intro pins s σ H x v vl vu lo hi sl Q I rx hs pl pu h;obtain ⟨z,rfl,hz,q⟩:=h;obtain ⟨t,rfl⟩:=rx;obtain ⟨l,rfl,rfl⟩:=part_of pl;obtain ⟨u,rfl,rfl⟩:=part_of pu;obtain ⟨o,ho,hc,hd⟩:=hs;refine ⟨"str",_,PySem.F.slot_str_getitem.lookup,typeIs_str s z t,?_⟩;refine wpAny_getItem_str_slice (l:=l) (u:=u) (st:=none) ⟨o,ho,hc,hd⟩ rfl ?_;have e:sliceMade z t l u none=if ((1:Int) == 1 && (mq (l.map (·.1)) (u.map (·.1)) 1 z.length).length == z.length)=true then Made.val (.str z t) else Made.str ⟨((mq (l.map (·.1)) (u.map (·.1)) 1 z.length).filterMap (z.cps[·]?)).toArray⟩:=rfl;have hle:=Txt.slice_le z (l.map (·.1)) (u.map (·.1));unfold Txt.slice at q hle;rw [e]
 by_cases hc':((1:Int) == 1 && (mq (l.map (·.1)) (u.map (·.1)) 1 z.length).length == z.length)=true
 ·rw [if_pos hc'] at q ⊢;exact ⟨.str z,H,I,⟨t,rfl⟩,q⟩
 ·rw [if_neg hc'] at q hle ⊢;exact ⟨ft hle hz,.str _,H,I.tok _,⟨_,rfl⟩,q⟩
theorem gT {es:List Expr} {k:Nat} {t:TGs} {n:Nat} {pos:Pos} (K:ag) (hK:X.K=K) (hc:X.calm=true) (h:PGs X es t)
  (hn:(jr es X.env).length=n:=by rfl) (hst:(jr es X.env).findIdx? (·.1)=none:=by rfl):PG X (.Tuple es k pos) (PR K n t):=by subst hK; exact Ni hc h hn hst
end
section
variable {X:Cx} {e a b:Expr} {t t' ta tb:TE} {pos:Pos}
theorem PE.imp (h:PE X e t) (i:∀ σ H Q,t' σ H Q->t σ H Q):PE X e t':=fun pins s σ H Q I q=>h pins s σ H Q I (i σ H Q q)
theorem PT.imp {t t':TT} (h:PT X e t) (i:∀ σ H Q,t' σ H Q->t σ H Q):PT X e t':=fun pins s σ H Q I q=>h pins s σ H Q I (i σ H Q q)
theorem OpR.imp {f:Value->Value->Sem Value} {r r':R2} (h:OpR X f r) (i:∀ x y H Q,r' x y H Q->r x y H Q):OpR X f r':=fun pins s σ H x y v u Q I rx ry q=>h pins s σ H x y v u Q I rx ry (i x y H Q q)
theorem dW.imp {f:Value} {r r':List V->Hp->VK->Prop} (h:dW X f r) (i:∀ xs H Q,r' xs H Q->r xs H Q):dW X f r':=fun pins s σ H xs us Q I rx q=>h pins s σ H xs us Q I rx (i xs H Q q)
def Ql (K:ag):R2:=fun x y H Q=>match x,y with
 | .int i,.int j=>Q (.int (i+j)) H
 | .str i,.str j=>i.length+j.length<=az/\Q (.str (i++j)) H
 | .ref _,.ref _=>Qb x y H Q\/MK K x y H Q
 | _,_=>False
theorem Kw (K:ag) (hK:X.K=K):OpR X (gm .Add) (Ql K):=by
 subst hK;refine (Nt.or (Ck.or (NM.or Kh))).imp fun x y H Q h=>?_;cases x <;> cases y <;> first
  | exact .inl ⟨_,_,rfl,rfl,h⟩
  | exact .inr (.inl ⟨_,_,rfl,rfl,h.1,h.2⟩)
  | exact .inr (.inr h)
  | exact h.elim
def wJ (C:Int->Int->Prop) (f:Int->Int->Int):R2:=fun x y H Q=>match x,y with
 | .int i,.int j=>C i j/\Q (.int (f i j)) H
 | _,_=>False
def GT (f:Int->Int->Int):R2:=fun x y H Q=>match x,y with
 | .int i,.int j=>Q (.int (f i j)) H
 | _,_=>False
theorem rJ {f:Value->Value->Sem Value} {C:Int->Int->Prop} {g:Int->Int->Int} (h:OpR X f (rI C fun i j=>.int (g i j))):OpR X f (wJ C g):=
 h.imp fun x y H Q q=>by cases x <;> cases y <;> first | exact ⟨_,_,rfl,rfl,q.1,q.2⟩ | exact q.elim
theorem GU {f:Value->Value->Sem Value} {g:Int->Int->Int} (h:OpR X f (rI0 fun i j=>.int (g i j))):OpR X f (GT g):=
 h.imp fun x y H Q q=>by cases x <;> cases y <;> first | exact ⟨_,_,rfl,rfl,q⟩ | exact q.elim
theorem Kx:OpR X (gm .Sub) (GT fun i j=>i - j):=GU Nu
theorem Ky:OpR X (gm .Mult) (wJ Ap fun i j=>i*j):=rJ Nv
theorem Kz:OpR X (gm .FloorDiv) (wJ Gq fun i j=>i / j):=rJ K'
theorem KA:OpR X (gm .Mod) (wJ (fun _ j=>0 < j) fun i j=>i % j):=rJ Nw
theorem KB:OpR X (gm .Pow) (wJ F1 fun i j=>i ^ j.toNat):=rJ Nx
def AM (f:Int->Int->Bool) (g:List Nat->List Nat->Bool):R2:=fun x y H Q=>match x,y with
 | .int i,.int j=>Q (.bl (f i j)) H
 | .str i,.str j=>Q (.bl (g i.cps.toList j.cps.toList)) H
 | _,_=>False
theorem yP {f:Value->Value->Sem Value} {p:Int->Int->Bool} {g:List Nat->List Nat->Bool} (h1:OpR X f (rI0 fun i j=>.bl (p i j)))
  (h2:OpR X f (fun x y H Q=>∃ i j,x=.str i/\y=.str j/\Q (.bl (g i.cps.toList j.cps.toList)) H)):OpR X f (AM p g):=
 (h1.or h2).imp fun x y H Q q=>by cases x <;> cases y <;> first | exact .inl ⟨_,_,rfl,rfl,q⟩ | exact .inr ⟨_,_,rfl,rfl,q⟩ | exact q.elim
theorem NR:OpR X (dt .Lt) (AM (fun i j=>decide (i < j)) fun i j=>decide (i < j)):=yP Q1 F2
theorem NS:OpR X (dt .Gt) (AM (fun i j=>decide (j < i)) fun i j=>decide (j < i)):=yP Q2 fun pins s σ H x y v u Q I rx ry h=>by
 obtain ⟨i,j,rfl,rfl,q⟩:=h;obtain ⟨t,rfl⟩:=rx;obtain ⟨t',rfl⟩:=ry;exact PySem.P.gt_str (yB I q rfl)
theorem NT:OpR X (dt .GtE) (AM (fun i j=>decide (j<=i)) fun i j=>!decide (i < j)):=yP Q3 fun pins s σ H x y v u Q I rx ry h=>by
 obtain ⟨i,j,rfl,rfl,q⟩:=h;obtain ⟨t,rfl⟩:=rx;obtain ⟨t',rfl⟩:=ry;exact PySem.P.ge_str (yB I q rfl)
end
structure Tu (t:TE):Prop where
 go:∀ σ H (Q Q':VK),(∀ v H1,Q v H1->Q' v H1)->t σ H Q->t σ H Q'
section
variable {X:Cx} {e a b:Expr} {t t' ta tb:TE} {pos:Pos}
theorem KC (hu:X.A.units+1 < cLine):IxR X (fun x y H Q=>∃ p v,x=.ref p/\sE H p y (some v)/\Q v H):=by
 intro value slice pins s σ H x y v u Q I rx ry h hs;obtain ⟨p,w,rfl,g,q⟩:=h;cases rx
 have hT:=Au I g;unfold subscriptTail;refine aa ?_;rw [getitemInPython_of_ne hT.not_modules];refine aa (wpAny_specialOf hT PySem.F.slot_dict_getitem.lookup ?_);have fin:wpAny (model X.prog X.w) X.A (subscripted slice false (.ref p) u) (fun r s₃=>wpAny (model X.prog X.w) X.A (letTemporaryGo value (.ref p) r >>= fun _=>pure r) (EP X pins σ Q) X.xe s₃) X.xe s:=by
  rw [hs];exact wpAny_operating (Fc hu I g ry fun w' s3 I3 rw'=>aa (wpAny_letTemporaryGo (af ⟨w,H,I3,rw',q⟩)))
 first
  | exact af (aa fin)
  | exact aa (af (aa fin))
  | exact aa fin
def Qm (K:ag):R2:=fun x y H Q=>match x with
 | .str z=>(match y with
  | .int i=>z.length<=az/\∃ c,atI z.cps.toList i=some c/\Q (.str ⟨#[c]⟩) H
  | _=>False)
 | .ref p=>(∃ xs i v,y=.int i/\(SqL K H p xs\/SqT K H p xs)/\atI xs i=some v/\Q v H)\/∃ v,sE H p y (some v)/\Q v H
 | _=>False
theorem IxR.imp {r r':R2} (h:IxR X r) (i:∀ x y H Q,r' x y H Q->r x y H Q):IxR X r':=fun a b pins s σ H x y v u Q I rx ry q hs=>h a b pins s σ H x y v u Q I rx ry (i x y H Q q) hs
theorem ixC (hu:X.A.units+1 < cLine) (K:ag) (hK:X.K=K):IxR X (Qm K):=by
 subst hK;refine (Ki.or (NI.or (NJ.or (KC hu)))).imp fun x y H Q h=>?_;cases x with
 | str z=>
  cases y with
  | int i=>obtain ⟨h1,c,h2,h3⟩:=h; exact .inr (.inr (.inl ⟨z,i,c,rfl,rfl,h1,h2,h3⟩))
  | _=>exact h.elim
 | ref p=>
  rcases h with ⟨xs,i,v,rfl,hs | hs,ha,hq⟩ | ⟨v,g,hq⟩
  ·exact .inl ⟨p,xs,i,v,rfl,rfl,hs,ha,hq⟩
  ·exact .inr (.inl ⟨p,xs,i,v,rfl,rfl,hs,ha,hq⟩)
  ·exact .inr (.inr (.inr ⟨p,v,rfl,g,hq⟩))
 | _=>exact h.elim
theorem NU (hu:X.A.units+1 < cLine) (K:ag) (hK:X.K=K):OpR X (dt .In) (fun x y H Q=>rIn K false x y H Q\/∃ a o,y=.ref a/\sE H a x o/\Q (.bl o.isSome) H):=by
 subst hK;refine F8.or fun pins s σ H x y v u Q I rx ry h=>?_;obtain ⟨a,o,rfl,g,q⟩:=h;cases ry
 exact Sx hu I g rx fun s' I'=>⟨.bl o.isSome,H,I',rfl,q⟩
def Qn (K:ag):List V->Hp->VK->Prop:=fun xs H Q=>match xs with
 | [.str y]=>y.length<=az/\Q (.int y.length) H
 | [.ref p]=>(∃ xs,(SqL K H p xs\/SqT K H p xs)/\Q (.int xs.length) H)\/∃ kvs,H p=some (.dK kvs)/\Q (.int kvs.length) H
 | _=>False
theorem Fo (K:ag) (hK:X.K=K):dW X (.builtin "len") (Qn K):=by
 subst hK;intro pins s σ H xs us Q I r h
 match xs,h with
 | [.str y],h=>exact Gv pins s σ H _ us Q I r ⟨_,_,rfl,⟨h.1,rfl⟩,h.2⟩
 | [.ref p],h=>
  rcases h with ⟨ys,hs,q⟩ | ⟨kvs,hs,q⟩
  ·exact yG pins s σ H _ us Q I r ⟨p,ys,rfl,hs,q⟩
  ·exact Fe pins s σ H _ us Q I r ⟨p,kvs,rfl,hs,q⟩
def Qo (ta:TA):TI:=fun σ H R=>ta σ H fun vs H1=>match vs with
 | [.int j]=>(-(2 ^ 62)<=j/\j < 2 ^ 62)/\R (Itr 0 j.toNat) H1
 | _=>False
def Qp (ta:TA):TI:=fun σ H R=>ta σ H fun vs H1=>match vs with
 | [.int i,.int j]=>(-(2 ^ 62)<=i/\i < 2 ^ 62/\-(2 ^ 62)<=j/\j < 2 ^ 62)/\R (Itr i (j - i).toNat) H1
 | _=>False
theorem KD {vs:List V} {Q:Int->Prop} (h:match vs with | [.int i]=>Q i | _=>False):∃ i,vs=[.int i]/\Q i:=by
 split at h
 · exact ⟨_,rfl,h⟩
 · exact h.elim
theorem pr1 {x:Expr} {ta:TA} {tg:Expr} {p pos:Pos} (hg:Gl X "range") (hm:X.mg "range" = none) (ha:PA X [x] ta) (hs:b9 [x] X.env=[(false,eval x X.env)]:=by rfl):PI X tg (.Call (.Name "range" p) [x] [] pos) (Qo ta):=by
 intro pins s σ H R I h;refine Call_ (oO I hg hm boot_range (jk (thn (ha pos pins s σ H _ I h) fun us s1 hz=>?_) hs rfl));obtain ⟨vs,H1,I1,r1,q1⟩:=hz;obtain ⟨j,rfl,⟨h1,h2⟩,q⟩:=KD q1;obtain ⟨u,rfl,t,rfl⟩:=vals1 r1;exact call_range_1 (Ao I1 (by omega) (by omega) h1 h2 (by simpa using q))
theorem GV {vs:List V} {Q:Int->Int->Prop} (h:match vs with | [.int i,.int j]=>Q i j | _=>False):∃ i j,vs=[.int i,.int j]/\Q i j:=by
 split at h
 ·exact ⟨_,_,rfl,h⟩
 ·exact h.elim
theorem pr2 {x y:Expr} {ta:TA} {tg:Expr} {p pos:Pos} (hg:Gl X "range") (hm:X.mg "range" = none) (ha:PA X [x,y] ta) (hs:b9 [x,y] X.env=[(false,eval x X.env),(false,eval y X.env)]:=by rfl) (hs2:b9 [y] X.env=[(false,eval y X.env)]:=by rfl):
  PI X tg (.Call (.Name "range" p) [x,y] [] pos) (Qp ta):=by
 intro pins s σ H R I h;refine Call_ (oO I hg hm boot_range (jk (thn (ha pos pins s σ H _ I h) fun us s1 hz=>?_) (by rw [hs,hs2]) (by rw [hs2]; rfl)));obtain ⟨vs,H1,I1,r1,q1⟩:=hz;obtain ⟨i,j,e,⟨h1,h2,h3,h4⟩,q⟩:=GV (Q:=fun i j=>(-(2 ^ 62)<=i/\i < 2 ^ 62/\-(2 ^ 62)<=j/\j < 2 ^ 62)/\R (Itr i (j - i).toNat) H1) q1;subst e;obtain ⟨u,w',rfl,⟨t,rfl⟩,⟨t',rfl⟩⟩:=vals2 r1;exact call_range_2 (Ao I1 h1 h2 h3 h4 q)
def Qq (t:TE):TO:=fun σ H Q=>t σ H fun x H1=>match x with
 | .int i=>Q (some i) H1
 | _=>False
theorem GW {x:Expr} {te:TE} (h:PE X x te):PO X (some x) (Qq te):=by
 intro pins s σ H Q I hw;rw [evalPart_some];refine thn (h pins s σ H _ I hw) fun u s1 hz=>?_;obtain ⟨x,H1,I1,r1,q1⟩:=hz;cases x with
 | int i=>
  obtain ⟨t,rfl⟩:=r1;exact ⟨some i,H1,I1,.int i t,q1⟩
 | _=>exact q1.elim
end
structure Def (K:ag) (mg:Str->Option Value) (x:Str) (st:Stmt) (f:Addr) (fd:dq) (ps:List Str):Prop where
 fn:Fun K x x st f fd
 mg:mg x=some (.ref f)
 bd:Binds K fd ps []
section
variable {X:Cx}
theorem Qr {x:Str} {st:Stmt} {f:Addr} {fd:dq} {ps:List Str} {k:Nat} {sp:Sp} {e:Expr} {es:List Expr} {t:TA} {p pos:Pos} (D:Def X.K X.mg x st f fd ps) (G:aT X.prog X.w X.K X.mg X.base CX0 k f fd ps sp) (hr:dS k X.A) (ha:PA X (e :: es) t)
  (hg:Gl X x:=by rfl) (hdb:(x == ("__debug__" : Str))=false:=by decide) (he:b9 (e :: es) X.env=(false,eval e X.env) :: b9 es X.env:=by rfl) (hpl:(backTo pos (b9 es X.env)).any (·.1)=false:=by rfl):
  PE X (.Call (.Name x p) (e :: es) [] pos) (MJ sp [] E0 t):=Ke G hr hg D.mg D.fn.kp D.bd .nil E2 ha hdb he hpl
end
theorem lY {α:Type} {xs:List α} {i:Nat} {v:α} (h:xs[i]?=some v):atI xs (i:Int)=some v:=by
 have h1:=(ae.mp h).1;unfold atI ixN;rw [if_pos (by omega),if_pos (by omega)];simpa using h
theorem uY.upd {H:Hp} {a:Addr} {o:HO} (h:H a=none):uY H (upd H a o):=fun b u e=>by
 rw [aN (cH e h)]; exact e
theorem Def.mk' {K:ag} {mg:Str->Option Value} {h:Heap} {x:Str} {st:Stmt} {f:Addr} {ps:List Str} {oc:Value} {od an:Option Addr} {osl:Array (Option Value)} {kV doc pm cdv ct:Value} (X:K.In h) (G:h.Ns dr mg)
  (a:fv K dr x=some (some (.ref f))) (l:K.lookup f=some ⟨oc,od,.func (c9 x x (aU st) (aR st) (aE st) .none kV doc pm an cdv ct),osl⟩)
  (c:dg K cdv x=true) (k:cw K (.ref f)=true)
  (b:∀ (kV doc pm:Value) (an:Option Addr) (cdv ct:Value) (us:List Value),us.length=ps.length->bindArgs (c9 x x (aU st) (aR st) (aE st) .none kV doc pm an cdv ct) ⟨us,[]⟩=pure (ps.zip us)):
  Def K mg x st f (c9 x x (aU st) (aR st) (aE st) .none kV doc pm an cdv ct) ps:=
 ⟨lQ l c k,PySem.W.mg_of X G a,(lQ (st:=st) l c k).binds b⟩
end L2
namespace L2
open PySem PySem.Spec PyProof.Rows PySem.SeqAt
inductive D where
 | non | bl (b:Bool) | int (i:Int) | str (x:Str) | tup (xs:List D)
mutual
def D.depth:D->Nat
 | .tup xs=>D.depths xs+1
 | _=>0
def D.depths:List D->Nat
 | []=>0
 | x :: xs=>max (D.depth x) (D.depths xs)
end
theorem D.depths_le:∀ {xs:List D} {i:Nat} {d:D},xs[i]?=some d->d.depth<=D.depths xs
 | [],_,_,h=>by simp at h
 | x :: xs,0,d,h=>by
  have:x=d:=by simpa using h
  subst this
  show x.depth<=max x.depth (D.depths xs)
  omega
 | x :: xs,i+1,d,h=>by
  have:=D.depths_le (xs:=xs) (i:=i) (d:=d) (by simpa using h)
  show d.depth<=max x.depth (D.depths xs)
  omega
mutual
/-- the value x is the datum,in the heap H -/
def Rep (K:ag) (H:Hp):D->V->Prop
 | .non,v=>v=.non
 | .bl b,v=>v=.bl b
 | .int i,v=>v=.int i
 | .str x,v=>v=.str x
 | .tup ds,v=>∃ a vs,v=.ref a/\SqT K H a vs/\eY K H ds vs
def eY (K:ag) (H:Hp):List D->List V->Prop
 | [],[]=>True
 | d :: ds,v :: vs=>Rep K H d v/\eY K H ds vs
 | [],_ :: _=>False
 | _ :: _,[]=>False
end
mutual
/-- == -/
def eqD:D->D->Bool
 | .non,.non=>true
 | .bl a,.bl b=>a == b
 | .bl a,.int b=>(if a then 1 else 0) == b
 | .int a,.bl b=>a == (if b then 1 else 0)
 | .int a,.int b=>a == b
 | .str a,.str b=>a == b
 | .tup xs,.tup ys=>fF xs ys
 | _,_=>false
def fF:List D->List D->Bool
 | [],[]=>true
 | x :: xs,y :: ys=>eqD x y && fF xs ys
 | [],_ :: _=>false
 | _ :: _,[]=>false
end
mutual
/-- < (none: an error) -/
def ltD:D->D->Option Bool
 | .int a,.int b=>some (decide (a < b))
 | .str a,.str b=>some (decide (a.cps.toList < b.cps.toList))
 | .tup xs,.tup ys=>fV xs ys
 | _,_=>none
def fV:List D->List D->Option Bool
 | [],[]=>some false
 | [],_ :: _=>some true
 | _ :: _,[]=>some false
 | x :: xs,y :: ys=>if eqD x y=true then fV xs ys else ltD x y
end
mutual
theorem sL:∀ d:D,eqD d d=true
 | .non=>rfl
 | .bl b=>by simp [eqD]
 | .int i=>by simp [eqD]
 | .str x=>by simp [eqD]
 | .tup xs=>by simp only [eqD]; exact wK xs
theorem wK:∀ ds:List D,fF ds ds=true
 | []=>rfl
 | d :: ds=>by simp only [fF,sL d,wK ds,Bool.and_self]
end
def iE (H H':Hp):Prop:=∀ a xs,Rd H a (.tup xs)->Rd H' a (.tup xs)
theorem iE.refl (H:Hp):iE H H:=fun _ _ h=>h
theorem iE.trans {H H1 H2:Hp} (a:iE H H1) (b:iE H1 H2):iE H H2:=fun c xs h=>b c xs (a c xs h)
theorem iE.same {H H':Hp} (s:uY H H'):iE H H':=fun a xs h=>by
 rcases h with h | ⟨o,h⟩
 ·exact .inl (s _ _ h)
 ·exact .inr ⟨o,s _ _ h⟩
def AN:Option HO->Prop
 | some (.tup _)=>False
 | some (.frz _ _)=>False
 | _=>True
theorem iE.upd {H:Hp} {p:Addr} {o:HO} (h:AN (H p)):iE H (upd H p o):=fun a xs q=>by
 have ne:a≠p:=by
  rintro rfl;rcases q with q | ⟨ob,q⟩
  ·rw [q] at h; exact h
  ·rw [q] at h; exact h
 rcases q with q | ⟨ob,q⟩
 ·exact .inl (by rw [aN ne]; exact q)
 ·exact .inr ⟨ob,by rw [aN ne]; exact q⟩
theorem iE.sq {K:ag} {H H':Hp} {a:Addr} {xs:List V} (t:iE H H') (h:SqT K H a xs):SqT K H' a xs:=by
 rcases h with h | h
 ·exact .inl (t a xs h)
 ·exact .inr h
section
variable {K:ag} {H H':Hp}
mutual
theorem Rep.tp (t:iE H H'):∀ {d:D} {v:V},Rep K H d v->Rep K H' d v
 | .non,_,h=>h
 | .bl _,_,h=>h
 | .int _,_,h=>h
 | .str _,_,h=>h
 | .tup ds,_,⟨a,vs,e,q,r⟩=>⟨a,vs,e,t.sq q,eY.tp t r⟩
theorem eY.tp (t:iE H H'):∀ {ds:List D} {vs:List V},eY K H ds vs->eY K H' ds vs
 | [],[],_=>trivial
 | _ :: _,_ :: _,⟨h,r⟩=>⟨Rep.tp t h,eY.tp t r⟩
 | [],_ :: _,h=>h.elim
 | _ :: _,[],h=>h.elim
end
theorem eY.length:∀ {ds:List D} {vs:List V},eY K H ds vs->ds.length=vs.length
 | [],[],_=>rfl
 | _ :: _,_ :: _,⟨_,r⟩=>by simp [eY.length r]
 | [],_ :: _,h=>h.elim
 | _ :: _,[],h=>h.elim
theorem eY.get:∀ {ds:List D} {vs:List V} {i:Nat} {v:V},eY K H ds vs->vs[i]?=some v->∃ d,ds[i]?=some d/\Rep K H d v
 | [],[],_,_,_,e=>by simp at e
 | d :: _,w :: _,0,v,⟨h,_⟩,e=>by
  have:w=v:=by simpa using e
  subst this;exact ⟨d,rfl,h⟩
 | _ :: ds,_ :: vs,i+1,v,⟨_,r⟩,e=>by
  obtain ⟨d,h1,h2⟩:=eY.get (ds:=ds) (vs:=vs) (i:=i) (v:=v) r (by simpa using e)
  exact ⟨d,by simpa using h1,h2⟩
 | [],_ :: _,_,_,h,_=>h.elim
 | _ :: _,[],_,_,h,_=>h.elim
theorem eY.at:∀ {ds:List D} {vs:List V} {i:Nat} {d:D},eY K H ds vs->ds[i]?=some d->∃ v,vs[i]?=some v/\Rep K H d v
 | [],[],_,_,_,e=>by simp at e
 | d :: _,w :: _,0,d',⟨h,_⟩,e=>by
  have:d=d':=by simpa using e
  subst this;exact ⟨w,rfl,h⟩
 | _ :: ds,_ :: vs,i+1,d,⟨_,r⟩,e=>by
  obtain ⟨v,h1,h2⟩:=eY.at (ds:=ds) (vs:=vs) (i:=i) (d:=d) r (by simpa using e)
  exact ⟨v,by simpa using h1,h2⟩
 | [],_ :: _,_,_,h,_=>h.elim
 | _ :: _,[],_,_,h,_=>h.elim
end
section
variable {X:Cx} {pins:List (Addr×Obj)} {σ:St} {H:Hp} {s:Shared}
theorem iF {A:Around} {s:Shared} {v u:Value} {b:Bool} (h:RcAt A s v u b) (hs:v=u->b=true) (hf:∀ f t,v≠.float f t):EqAt A s v u b:=fun prog w E Q hq=>by
 unfold eqBool;refine il ?_;refine wpAny_ite_split (fun hab=>?_) (fun _=>?_)
 ·have e:=hs (eq_of_beq hab);subst e;exact aa (lq (af hq))
 ·cases v <;> first | exact absurd rfl (hf _ _) | exact aa (h prog w E _ (wpAny_truthy_bool hq)) | (cases u <;> exact aa (h prog w E _ (wpAny_truthy_bool hq)))
theorem wL {K:ag} {H:Hp} {d:D} {x:V} {v:Value} (h:Rep K H d x) (r:RelV x v):∀ f t,v≠.float f t:=fun f t e=>by
 subst e;cases d with
 | non=>cases h; cases r
 | bl b=>cases h; cases r
 | int b=>cases h; obtain ⟨_,z⟩:=r; cases z
 | str b=>cases h; obtain ⟨_,z⟩:=r; cases z
 | tup ds=>obtain ⟨_,_,rfl,_⟩:=h; cases r
theorem rK (I:Inv X pins σ H s):∀ (n:Nat) (d e:D) (v:V),d.depth<=n->Rep X.K H d v->Rep X.K H e v->d=e
 | n,.non,e,v,_,h,h'=>by
  cases h
  cases e <;> first | (obtain ⟨_,_,z,_⟩:=h'; exact absurd z (by intro q; cases q)) | rfl | exact absurd h' (by intro z; cases z)
 | n,.bl b,e,v,_,h,h'=>by
  cases h
  cases e <;> first | (obtain ⟨_,_,z,_⟩:=h'; exact absurd z (by intro q; cases q)) | (cases h'; rfl) | exact absurd h' (by intro z; cases z)
 | n,.int i,e,v,_,h,h'=>by
  cases h
  cases e <;> first | (obtain ⟨_,_,z,_⟩:=h'; exact absurd z (by intro q; cases q)) | (cases h'; rfl) | exact absurd h' (by intro z; cases z)
 | n,.str x,e,v,_,h,h'=>by
  cases h
  cases e <;> first | (obtain ⟨_,_,z,_⟩:=h'; exact absurd z (by intro q; cases q)) | (cases h'; rfl) | exact absurd h' (by intro z; cases z)
 | 0,.tup ds,e,v,hd,h,h'=>absurd hd (by show ¬ D.depths ds+1<=0; omega)
 | n+1,.tup ds,e,v,hd,h,h'=>by
  obtain ⟨a,vs,rfl,q,r⟩:=h;cases e with
  | tup es=>
   obtain ⟨a',vs',ea,q',r'⟩:=h';cases ea
   have:=I.tuple_inj q q';subst this;have hd':D.depths ds+1<=n+1:=hd;have:ds=es:=by
    apply kh;intro i;cases hi:ds[i]? with
    | none=>
     have h1:=r.length;have h2:=r'.length;have:ds.length<=i:=List.getElem?_eq_none_iff.mp hi;exact (List.getElem?_eq_none_iff.mpr (by omega)).symm
    | some d=>
     obtain ⟨v,hv,hr⟩:=r.at hi;obtain ⟨e,he,hr'⟩:=r'.get hv;rw [he,rK I n d e v (by have:=D.depths_le hi; omega) hr hr']
   rw [this]
  | _=>cases h'
theorem nB {xs ys:List D}:((d6 (min xs.length ys.length)).all (fun j=>match xs[j]?,ys[j]? with | some x,some y=>eqD x y | _,_=>false) && xs.length == ys.length)=fF xs ys:=by
 induction xs generalizing ys with
 | nil=>
  cases ys with
  | nil=>rfl
  | cons y ys=>simp [fF]
 | cons x xs ih=>
  cases ys with
  | nil=>simp [fF]
  | cons y ys=>
   have:=ih (ys:=ys);have e:min (x :: xs).length (y :: ys).length=min xs.length ys.length+1:=by simp only [cx]; omega
   rw [e,List.range_succ_eq_map,ku,List.all_map];simp only [List.getElem?_cons_zero,Function.comp_def,d4,cx,fF];rw [<- this];have e2:(xs.length+1 == ys.length+1)=(xs.length == ys.length):=by simp
   rw [e2,Bool.and_assoc]
theorem Qs (I:Inv X pins σ H s):∀ (n:Nat) (d e:D) (A:Around) (x y:V) (v u:Value),d.depth<=n->A.units+n < cLine->Rep X.K H d x->Rep X.K H e y->RelV x v->RelV y u->RcAt A s v u (eqD d e):=by
 intro n
 induction n with
 | zero=>
  intro d e A x y v u hd hu hx hy rx ry;cases d with
  | tup ds=>exact absurd hd (by show ¬ D.depths ds+1<=0; omega)
  | non=>
   cases hx; cases rx;cases e with
   | non=>cases hy; cases ry; exact RcAt.none_none
   | bl b=>cases hy; cases ry; exact RcAt.none_bool b
   | int b=>cases hy; obtain ⟨t,rfl⟩:=ry; exact RcAt.none_int b t
   | str b=>cases hy; obtain ⟨t,rfl⟩:=ry; exact RcAt.none_str b t
   | tup es=>obtain ⟨a,vs,rfl,q,r⟩:=hy; cases ry; obtain ⟨its,_,p,_⟩:=I.tuple q; exact RcAt.none_tuple p (by omega)
  | bl a=>
   cases hx; cases rx;cases e with
   | non=>cases hy; cases ry; exact RcAt.bool_none a
   | bl b=>cases hy; cases ry; exact RcAt.bool_bool a b
   | int b=>cases hy; obtain ⟨t,rfl⟩:=ry; exact RcAt.bool_int a b t
   | str b=>cases hy; obtain ⟨t,rfl⟩:=ry; exact RcAt.bool_str a b t
   | tup es=>obtain ⟨a',vs,rfl,q,r⟩:=hy; cases ry; obtain ⟨its,_,p,_⟩:=I.tuple q; exact RcAt.bool_tuple a p (by omega)
  | int a=>
   cases hx; obtain ⟨t',rfl⟩:=rx;cases e with
   | non=>cases hy; cases ry; exact RcAt.int_none a t'
   | bl b=>cases hy; cases ry; exact RcAt.int_bool a t' b
   | int b=>cases hy; obtain ⟨t,rfl⟩:=ry; exact RcAt.int_int a t' b t
   | str b=>cases hy; obtain ⟨t,rfl⟩:=ry; exact RcAt.int_str a t' b t
   | tup es=>obtain ⟨a',vs,rfl,q,r⟩:=hy; cases ry; obtain ⟨its,_,p,_⟩:=I.tuple q; exact RcAt.int_tuple a t' p (by omega)
  | str a=>
   cases hx; obtain ⟨t',rfl⟩:=rx;cases e with
   | non=>cases hy; cases ry; exact RcAt.str_none a t'
   | bl b=>cases hy; cases ry; exact RcAt.str_bool a t' b
   | int b=>cases hy; obtain ⟨t,rfl⟩:=ry; exact RcAt.str_int a t' b t
   | str b=>cases hy; obtain ⟨t,rfl⟩:=ry; exact RcAt.str_str a t' b t
   | tup es=>obtain ⟨a',vs,rfl,q,r⟩:=hy; cases ry; obtain ⟨its,_,p,_⟩:=I.tuple q; exact RcAt.str_tuple a t' p (by omega)
 | succ n ih=>
  intro d e A x y v u hd hu hx hy rx ry
  by_cases h0:d.depth<=n
  ·exact ih d e A x y v u h0 (by omega) hx hy rx ry
  ·cases d with
   | non=>exact absurd (show D.depth .non<=n from dv n) h0
   | bl b=>exact absurd (show D.depth (.bl b)<=n from dv n) h0
   | int b=>exact absurd (show D.depth (.int b)<=n from dv n) h0
   | str b=>exact absurd (show D.depth (.str b)<=n from dv n) h0
   | tup ds=>
    have hds:D.depths ds<=n:=by have:D.depths ds+1<=n+1:=hd; omega
    obtain ⟨a,vs,rfl,q,r⟩:=hx;cases rx
    obtain ⟨its,rv,p,_⟩:=I.tuple q;cases e with
    | non=>cases hy; cases ry; exact RcAt.tuple_none p (by omega)
    | bl b=>cases hy; cases ry; exact RcAt.tuple_bool b p (by omega)
    | int b=>cases hy; obtain ⟨t,rfl⟩:=ry; exact RcAt.tuple_int b t p (by omega)
    | str b=>cases hy; obtain ⟨t,rfl⟩:=ry; exact RcAt.tuple_str b t p (by omega)
    | tup es=>
     obtain ⟨a',vs',rfl,q',r'⟩:=hy;cases ry
     obtain ⟨its',rv',p',_⟩:=I.tuple q';have l1:=r.length;have l2:=r'.length;have l3:=rv.length;have l4:=rv'.length;have key:=RcAt.tuples (A:=A) (e:=fun j=>match ds[j]?,es[j]? with | some x,some y=>eqD x y | _,_=>false) p p' (by omega) (fun j h1 h2=>by
      have h1':j < ds.length:=by simp at h1; omega
      have h2':j < es.length:=by simp at h2; omega
      have g1:ds[j]?=some ds[j]:=by simp [h1']
      have g2:es[j]?=some es[j]:=by simp [h2']
      obtain ⟨xv,hxv,hrx⟩:=r.at g1;obtain ⟨yv,hyv,hry⟩:=r'.at g2;obtain ⟨xu,hxu,hru⟩:=rv.get hxv;obtain ⟨yu,hyu,hru'⟩:=rv'.get hyv;have e1:its.toArray[j]=xu:=by
       have:its[j]?=some xu:=hxu;simpa using (ae.mp this).2
      have e2:its'.toArray[j]=yu:=by
       have:its'[j]?=some yu:=hyu;simpa using (ae.mp this).2
      rw [e1,e2];simp only [g1,g2];have hdj:=D.depths_le g1;refine iF (ih ds[j] es[j] A.in1 xv yv xu yu (by omega) (by show A.units+1+n < cLine; omega) hrx hry hru hru') (fun ev=>by
      subst ev;have exy:xv=yv:=RelV.inj hru hru';subst exy;rw [rK I n ds[j] es[j] xv (by omega) hrx hry];exact sL _) (wL hrx hru))
     have sz:((d6 (min its.toArray.size its'.toArray.size)).all (fun j=>match ds[j]?,es[j]? with | some x,some y=>eqD x y | _,_=>false) && its.toArray.size == its'.toArray.size)=eqD (.tup ds) (.tup es):=by
      have a1:its.toArray.size=ds.length:=by simp; omega
      have a2:its'.toArray.size=es.length:=by simp; omega
      rw [a1,a2];simp only [eqD];exact nB
     rw [<- sz];exact key
theorem GX (I:Inv X pins σ H s) {n:Nat} {d e:D} {A:Around} {x y:V} {v u:Value} (hd:d.depth<=n) (hu:A.units+n < cLine) (hx:Rep X.K H d x) (hy:Rep X.K H e y) (rx:RelV x v) (ry:RelV y u):EqAt A s v u (eqD d e):=
 iF (Qs I n d e A x y v u hd hu hx hy rx ry) (fun ev=>by
  subst ev;have exy:x=y:=RelV.inj rx ry;subst exy;rw [rK I n d e x hd hx hy];exact sL _) (wL hx rx)
theorem NV (I:Inv X pins σ H s):∀ (n:Nat) (d e:D) (A:Around) (x y:V) (v u:Value),d.depth<=n->A.units+n < cLine->Rep X.K H d x->Rep X.K H e y->RelV x v->RelV y u->RcNeAt A s v u (!eqD d e):=by
 intro n
 induction n with
 | zero=>
  intro d e A x y v u hd hu hx hy rx ry;cases d with
  | tup ds=>exact absurd hd (by show ¬ D.depths ds+1<=0; omega)
  | non=>
   cases hx; cases rx;cases e with
   | non=>cases hy; cases ry; exact RcNeAt.none_none
   | bl b=>cases hy; cases ry; exact RcNeAt.none_bool b
   | int b=>cases hy; obtain ⟨t,rfl⟩:=ry; exact RcNeAt.none_int b t
   | str b=>cases hy; obtain ⟨t,rfl⟩:=ry; exact RcNeAt.none_str b t
   | tup es=>obtain ⟨a,vs,rfl,q,r⟩:=hy; cases ry; obtain ⟨its,_,p,_⟩:=I.tuple q; exact RcNeAt.none_tuple p (by omega)
  | bl a=>
   cases hx; cases rx;cases e with
   | non=>cases hy; cases ry; exact RcNeAt.bool_none a
   | bl b=>cases hy; cases ry; exact RcNeAt.bool_bool a b
   | int b=>cases hy; obtain ⟨t,rfl⟩:=ry; exact RcNeAt.bool_int a b t
   | str b=>cases hy; obtain ⟨t,rfl⟩:=ry; exact RcNeAt.bool_str a b t
   | tup es=>obtain ⟨a',vs,rfl,q,r⟩:=hy; cases ry; obtain ⟨its,_,p,_⟩:=I.tuple q; exact RcNeAt.bool_tuple a p (by omega)
  | int a=>
   cases hx; obtain ⟨t',rfl⟩:=rx;cases e with
   | non=>cases hy; cases ry; exact RcNeAt.int_none a t'
   | bl b=>cases hy; cases ry; exact RcNeAt.int_bool a t' b
   | int b=>cases hy; obtain ⟨t,rfl⟩:=ry; exact RcNeAt.int_int a t' b t
   | str b=>cases hy; obtain ⟨t,rfl⟩:=ry; exact RcNeAt.int_str a t' b t
   | tup es=>obtain ⟨a',vs,rfl,q,r⟩:=hy; cases ry; obtain ⟨its,_,p,_⟩:=I.tuple q; exact RcNeAt.int_tuple a t' p (by omega)
  | str a=>
   cases hx; obtain ⟨t',rfl⟩:=rx;cases e with
   | non=>cases hy; cases ry; exact RcNeAt.str_none a t'
   | bl b=>cases hy; cases ry; exact RcNeAt.str_bool a t' b
   | int b=>cases hy; obtain ⟨t,rfl⟩:=ry; exact RcNeAt.str_int a t' b t
   | str b=>cases hy; obtain ⟨t,rfl⟩:=ry; exact RcNeAt.str_str a t' b t
   | tup es=>obtain ⟨a',vs,rfl,q,r⟩:=hy; cases ry; obtain ⟨its,_,p,_⟩:=I.tuple q; exact RcNeAt.str_tuple a t' p (by omega)
 | succ n ih=>
  intro d e A x y v u hd hu hx hy rx ry
  by_cases h0:d.depth<=n
  ·exact ih d e A x y v u h0 (by omega) hx hy rx ry
  ·cases d with
   | non=>exact absurd (show D.depth .non<=n from dv n) h0
   | bl b=>exact absurd (show D.depth (.bl b)<=n from dv n) h0
   | int b=>exact absurd (show D.depth (.int b)<=n from dv n) h0
   | str b=>exact absurd (show D.depth (.str b)<=n from dv n) h0
   | tup ds=>
    have hds:D.depths ds<=n:=by have:D.depths ds+1<=n+1:=hd; omega
    obtain ⟨a,vs,rfl,q,r⟩:=hx;cases rx
    obtain ⟨its,rv,p,_⟩:=I.tuple q;cases e with
    | non=>cases hy; cases ry; exact RcNeAt.tuple_none p (by omega)
    | bl b=>cases hy; cases ry; exact RcNeAt.tuple_bool b p (by omega)
    | int b=>cases hy; obtain ⟨t,rfl⟩:=ry; exact RcNeAt.tuple_int b t p (by omega)
    | str b=>cases hy; obtain ⟨t,rfl⟩:=ry; exact RcNeAt.tuple_str b t p (by omega)
    | tup es=>
     obtain ⟨a',vs',rfl,q',r'⟩:=hy;cases ry
     obtain ⟨its',rv',p',_⟩:=I.tuple q';have l1:=r.length;have l2:=r'.length;have l3:=rv.length;have l4:=rv'.length;have key:=RcNeAt.tuples (A:=A) (e:=fun j=>match ds[j]?,es[j]? with | some x,some y=>eqD x y | _,_=>false) p p' (by omega) (fun j h1 h2=>by
      have h1':j < ds.length:=by simp at h1; omega
      have h2':j < es.length:=by simp at h2; omega
      have g1:ds[j]?=some ds[j]:=by simp [h1']
      have g2:es[j]?=some es[j]:=by simp [h2']
      obtain ⟨xv,hxv,hrx⟩:=r.at g1;obtain ⟨yv,hyv,hry⟩:=r'.at g2;obtain ⟨xu,hxu,hru⟩:=rv.get hxv;obtain ⟨yu,hyu,hru'⟩:=rv'.get hyv;have e1:its.toArray[j]=xu:=by
       have:its[j]?=some xu:=hxu;simpa using (ae.mp this).2
      have e2:its'.toArray[j]=yu:=by
       have:its'[j]?=some yu:=hyu;simpa using (ae.mp this).2
      rw [e1,e2];simp only [g1,g2];have hdj:=D.depths_le g1;exact GX I (n:=n) (by omega) (by show A.units+1+n < cLine; omega) hrx hry hru hru')
     have sz:(!((d6 (min its.toArray.size its'.toArray.size)).all (fun j=>match ds[j]?,es[j]? with | some x,some y=>eqD x y | _,_=>false) && its.toArray.size == its'.toArray.size))=(!eqD (.tup ds) (.tup es)):=by
      have a1:its.toArray.size=ds.length:=by simp; omega
      have a2:its'.toArray.size=es.length:=by simp; omega
      rw [a1,a2];simp only [eqD];rw [nB]
     rw [<- sz];exact key
def Sy (K:ag):R2:=fun x y H Q=>∃ d e,Rep K H d x/\Rep K H e y/\d.depth<=40/\Q (.bl (eqD d e)) H
def Sz (K:ag):R2:=fun x y H Q=>∃ d e,Rep K H d x/\Rep K H e y/\d.depth<=40/\Q (.bl (!eqD d e)) H
theorem NW (hu:X.A.units+64 < cLine) (K:ag) (hK:X.K=K):OpR X (dt .Eq) (Sy K):=by
 subst hK;intro pins s σ H x y v u Q I rx ry h;obtain ⟨d,e,hx,hy,hd,q⟩:=h;exact Qs I 40 d e X.A x y v u hd (by omega) hx hy rx ry X.prog X.w X.xe _ ⟨.bl _,H,I,rfl,q⟩
theorem NX (hu:X.A.units+64 < cLine) (K:ag) (hK:X.K=K):OpR X (dt .NotEq) (Sz K):=by
 subst hK;intro pins s σ H x y v u Q I rx ry h;obtain ⟨d,e,hx,hy,hd,q⟩:=h;exact NV I 40 d e X.A x y v u hd (by omega) hx hy rx ry X.prog X.w X.xe _ ⟨.bl _,H,I,rfl,q⟩
def Fp (K:ag) (H:Hp) (ds:List D) (v:V):Prop:=∃ a vs,v=.ref a/\SqL K H a vs/\eY K H ds vs
theorem wM {xs ys:List D} (h:xs.length=ys.length):(d6 xs.length).all (fun j=>match xs[j]?,ys[j]? with | some x,some y=>eqD x y | _,_=>false)=fF xs ys:=by
 have:=nB (xs:=xs) (ys:=ys);rw [h,Nat.min_self,beq_self_eq_true,Bool.and_true] at this;rw [h];exact this
theorem AO {xs ys:List D} (h:fF xs ys=true):xs.length=ys.length:=by
 rw [<- nB,dw] at h;exact eq_of_beq h.2
theorem sM {I:Inv X pins σ H s} {A:Around} {ds es:List D} {vs vs':List V} {its its':List Value} (r:eY X.K H ds vs) (r':eY X.K H es vs') (rv:aL vs its) (rv':aL vs' its') (hd:D.depths ds<=40) (hu:A.units+42 < cLine):
  ∀ j (h1:j < its.toArray.size) (h2:j < its'.toArray.size),EqAt A.in1 s its.toArray[j] its'.toArray[j] (match ds[j]?,es[j]? with | some x,some y=>eqD x y | _,_=>false):=fun j h1 h2=>by
 have l1:=r.length;have l2:=r'.length;have l3:=rv.length;have l4:=rv'.length;have h1':j < ds.length:=by simp at h1; omega
 have h2':j < es.length:=by simp at h2; omega
 have g1:ds[j]?=some ds[j]:=by simp [h1']
 have g2:es[j]?=some es[j]:=by simp [h2']
 obtain ⟨xv,hxv,hrx⟩:=r.at g1;obtain ⟨yv,hyv,hry⟩:=r'.at g2;obtain ⟨xu,hxu,hru⟩:=rv.get hxv;obtain ⟨yu,hyu,hru'⟩:=rv'.get hyv;have e1:its.toArray[j]=xu:=by simpa using (ae.mp hxu).2
 have e2:its'.toArray[j]=yu:=by simpa using (ae.mp hyu).2
 rw [e1,e2];simp only [g1,g2];have hdj:=D.depths_le g1;exact GX I (n:=40) (by omega) (by show A.units+1+40 < cLine; omega) hrx hry hru hru'
def SB (K:ag):R2:=fun x y H Q=>∃ ds es,Fp K H ds x/\Fp K H es y/\D.depths ds<=40/\Q (.bl (fF ds es)) H
def SC (K:ag):R2:=fun x y H Q=>∃ ds es,Fp K H ds x/\Fp K H es y/\D.depths ds<=40/\Q (.bl (!fF ds es)) H
theorem NY (hu:X.A.units+64 < cLine) (K:ag) (hK:X.K=K):OpR X (dt .Eq) (SB K):=by
 subst hK;intro pins s σ H x y v u Q I rx ry h;obtain ⟨ds,es,⟨a,vs,rfl,q,r⟩,⟨b,vs',rfl,q',r'⟩,hd,k⟩:=h;cases rx; cases ry;obtain ⟨its,rv,p,_⟩:=I.list q;obtain ⟨its',rv',p',_⟩:=I.list q';have l1:=r.length;have l2:=r'.length;have l3:=rv.length;have l4:=rv'.length
 by_cases hl:ds.length=es.length
 ·refine eq_listAt p.isList p'.isList (by simp; omega) (by omega) (sM (I:=I) r r' rv rv' hd (by omega)) ⟨.bl _,H,I,rfl,?_⟩;have e1:its.toArray.size=ds.length:=by simp; omega
  rw [e1,wM hl];exact k
 ·refine eq_list_lengthsAt p.isList p'.isList (by simp; omega) (by omega) ⟨.bl false,H,I,rfl,?_⟩;have e:fF ds es=false:=by
   cases h:fF ds es with
   | false=>rfl
   | true=>exact absurd (AO h) hl
  rw [e] at k;exact k
theorem NZ (hu:X.A.units+64 < cLine) (K:ag) (hK:X.K=K):OpR X (dt .NotEq) (SC K):=by
 subst hK;intro pins s σ H x y v u Q I rx ry h;obtain ⟨ds,es,⟨a,vs,rfl,q,r⟩,⟨b,vs',rfl,q',r'⟩,hd,k⟩:=h;cases rx; cases ry;obtain ⟨its,rv,p,_⟩:=I.list q;obtain ⟨its',rv',p',_⟩:=I.list q';have l1:=r.length;have l2:=r'.length;have l3:=rv.length;have l4:=rv'.length
 by_cases hl:ds.length=es.length
 ·refine RcNeAt.lists p.isList p'.isList (by simp; omega) (by omega) (sM (I:=I) r r' rv rv' hd (by omega)) X.prog X.w X.xe _ ⟨.bl _,H,I,rfl,?_⟩;have e1:its.toArray.size=ds.length:=by simp; omega
  rw [e1,wM hl];exact k
 ·refine RcNeAt.lists_lengths p.isList p'.isList (by simp; omega) (by omega) X.prog X.w X.xe _ ⟨.bl true,H,I,rfl,?_⟩;have e:fF ds es=false:=by
   cases h:fF ds es with
   | false=>rfl
   | true=>exact absurd (AO h) hl
  rw [e] at k;exact k
def SD (K:ag) (neg:Bool):R2:=fun x y H Q=>∃ d p ds vs,y=.ref p/\(SqL K H p vs\/SqT K H p vs)/\Rep K H d x/\eY K H ds vs/\D.depths ds<=40/\Q (.bl (if neg then !ds.any (fun e=>eqD e d) else ds.any (fun e=>eqD e d))) H
noncomputable def isD (K:ag) (H:Hp) (d:D) (u:Value):Bool:=@decide (∃ e x,RelV x u/\Rep K H e x/\e.depth<=40/\eqD e d=true) (iq _)
theorem GY (I:Inv X pins σ H s) {d e:D} {x:V} {u:Value} (r:RelV x u) (h:Rep X.K H e x) (hd:e.depth<=40):isD X.K H d u=eqD e d:=by
 unfold isD;cases q:eqD e d with
 | true=>exact @decide_eq_true _ (iq _) ⟨e,x,r,h,hd,q⟩
 | false=>
  refine @decide_eq_false _ (iq _) ?_;rintro ⟨e',x',r',h',hd',q'⟩;have ex:x'=x:=RelV.inj r' r;subst ex;rw [rK I 40 e' e x' hd' h' h] at q';rw [q] at q';cases q'
theorem yQ (I:Inv X pins σ H s) {d:D}:∀ {ds:List D} {vs:List V} {us:List Value},eY X.K H ds vs->aL vs us->D.depths ds<=40->us.any (isD X.K H d)=ds.any fun e=>eqD e d
 | [],[],_,_,.nil,_=>rfl
 | e :: ds,_ :: _,_,⟨h,r⟩,.cons rv rvs,hd=>by
  have h1:e.depth<=40/\D.depths ds<=40:=by
   have:max e.depth (D.depths ds)<=40:=hd;omega
  rw [m4,m4,GY I rv h h1.1,yQ I r rvs h1.2]
 | [],_ :: _,_,h,_,_=>h.elim
 | _ :: _,[],_,h,_,_=>h.elim
theorem yR (I:Inv X pins σ H s) {A:Around} {d:D} {x:V} {v:Value} (hx:Rep X.K H d x) (rx:RelV x v) (hu:A.units+42 < cLine):∀ {ds:List D} {vs:List V} {us:List Value},eY X.K H ds vs->aL vs us->D.depths ds<=40->∀ u∈us,EqAt A.in1 s u v (isD X.K H d u)
 | [],[],_,_,.nil,_=>fun u hu=>by cases hu
 | e :: ds,_ :: _,_,⟨h,r⟩,.cons rv rvs,hd=>fun u hm=>by
  have h1:e.depth<=40/\D.depths ds<=40:=by
   have:max e.depth (D.depths ds)<=40:=hd;omega
  rcases bw.mp hm with rfl | hm
  ·rw [GY I rv h h1.1];exact GX I (n:=40) h1.1 (by show A.units+1+40 < cLine; omega) h hx rv rx
  ·exact yR I hx rx hu r rvs h1.2 u hm
 | [],_ :: _,_,h,_,_=>h.elim
 | _ :: _,[],_,h,_,_=>h.elim
theorem O0 (hu:X.A.units+64 < cLine) (K:ag) (hK:X.K=K):OpR X (dt .In) (SD K false):=by
 subst hK;intro pins s σ H x y v u Q I rx ry h;obtain ⟨d,p,ds,vs,rfl,hq,hx,hr,hd,k⟩:=h;cases ry
 rcases hq with hq | hq
 ·obtain ⟨its,r,pl,hz⟩:=I.list hq;refine SeqAt.in_listAt (isD X.K H d) pl.isList (fun w hw=>yR I hx rx (by omega) hr r hd w (by simpa using hw)) ⟨.bl _,H,I,rfl,?_⟩
  rw [show its.toArray.any (isD X.K H d)=its.any (isD X.K H d) by simp,yQ I hr r hd];exact k
 ·obtain ⟨its,r,pl,hz⟩:=I.tuple hq;refine SeqAt.in_tupleAt (isD X.K H d) pl (fun w hw=>yR I hx rx (by omega) hr r hd w (by simpa using hw)) ⟨.bl _,H,I,rfl,?_⟩
  rw [show its.toArray.any (isD X.K H d)=its.any (isD X.K H d) by simp,yQ I hr r hd];exact k
end
end L2
namespace L2
open PySem
def keyLt:Sum Int Str->Sum Int Str->Bool
 | .inl a,.inl b=>decide (a < b)
 | .inr a,.inr b=>decide (a.cps.toList < b.cps.toList)
 | _,_=>false
def Qt:List (Sum Int Str)->List (Sum Int Str)->Bool
 | [],[]=>false
 | [],_ :: _=>true
 | _ :: _,[]=>false
 | x :: xs,y :: ys=>if x=y then Qt xs ys else keyLt x y
def Qu:Sum Int Str->Bool
 | .inl _=>true
 | .inr _=>false
abbrev shape (ks:List (Sum Int Str)):List Bool:=ks.map Qu
theorem KF {a b:Str} (h:a.cps.toList=b.cps.toList):a=b:=by
 cases a; cases b
 congr
 exact Array.toList_inj.mp h
end L2
namespace L2
open PySem PySem.W PyProof.Rows
section
variable (lt:Nat->Nat->Bool)
abbrev pa' (p:Array Nat) (i:Nat):Nat:=p.getD i 0
def NIc (p:Array Nat) (k:Nat):Prop:=∀ i j,i<=j->j < k->lt (pa' p i) (pa' p j)=false
end
structure SF (lt:Nat->Nat->Bool) (p:Array Nat) (n f:Nat) (r:Array Nat×Nat×Nat):Prop where
 perm:r.1.Perm p
 lo:n<=r.2.1
 hi:r.2.1<=n+f
 q:r.2.2+1<=r.2.1
 ni:NIc lt r.1 r.2.1
 eq:∀ i j,r.2.1 - (r.2.2+1)<=i->i < r.2.1->r.2.1 - (r.2.2+1)<=j->j < r.2.1->lt (pa' r.1 i) (pa' r.1 j)=false
section
variable {lt:Nat->Nat->Bool} (tr:∀ i j k,lt j i=false->lt k j=false->lt k i=false) (as:∀ i j,lt i j=true->lt j i=false)
include tr as
end
end L2
namespace L2
open PySem PySem.Spec PyProof.Rows PySem.SeqAt PySem.W
section
variable {n:Nat} (hn:0 < n)
include hn
end
def yS (H:Hp) (ps:List (Addr×List V)):Hp:=fun b=>match ps.lookup b with
 | some xs=>some (.tup xs)
 | none=>H b
theorem qB {κ:Type} {x:Addr} {k:κ}:∀ {l:List (Addr×κ)},l.lookup x=some k->(x,k)∈l
 | [],h=>by simp at h
 | (n,v) :: r,h=>by
  by_cases hx:x=n
  ·subst hx;simp only [cf,beq_self_eq_true] at h;cases h
   exact bg
  ·have:(x == n)=false:=by simpa using hx
   simp only [cf,this] at h;exact ao _ (qB h)
theorem nC {κ:Type} {x:Addr}:∀ {l:List (Addr×κ)},(∀ p∈l,p.1≠x)->l.lookup x=none
 | [],_=>rfl
 | (n,v) :: r,h=>by
  have hx:(x == n)=false:=by
   have:=h (n,v) bg;simpa using fun e:x=n=>this e.symm
  simp only [cf,hx];exact nC fun p hp=>h p (ao _ hp)
theorem AQ {H:Hp} {ps:List (Addr×List V)} {b:Addr} (h:∀ p∈ps,p.1≠b):yS H ps b=H b:=by
 unfold yS; rw [nC h]
theorem AR {H:Hp}:∀ {ps:List (Addr×List V)} {j:Nat} {a:Addr} {xs:List V},(ps.map (·.1)).Nodup->ps[j]?=some (a,xs)->yS H ps a=some (.tup xs)
 | [],_,_,_,_,h=>by simp at h
 | (n,v) :: r,0,a,xs,_,h=>by
  simp at h;obtain ⟨rfl,rfl⟩:=h;unfold yS;simp [cf]
 | (n,v) :: r,j+1,a,xs,nd,h=>by
  have nd':(n :: r.map (·.1)).Nodup:=nd;obtain ⟨n1,n2⟩:=i4.mp nd';have h':r[j]?=some (a,xs):=by simpa using h
  have ne:(a == n)=false:=by
   have:a∈r.map (·.1):=cz.mpr ⟨_,b7 h',rfl⟩;simpa using fun e:a=n=>n1 (e ▸ this)
  have ih:=AR (H:=H) n2 h';unfold yS at ih ⊢;simp only [cf,ne];exact ih
section
variable {X:Cx} {pins:List (Addr×Obj)} {σ:St} {H:Hp} {s:Shared} {h':Heap}
theorem Inv.laidT {ps:List (Addr×List V)} {t':Nat} (I:Inv X pins σ H s) (k:∀ b u,s.heap.get? b=some u->h'.get? b=some u) (hp:∀ p∈ps,s.heap.objs.size<=p.1) (new:∀ p∈ps,p.2.length<=az/\∃ its:List Value,aL p.2 its/\qS h' p.1 its.toArray):
  Inv X pins σ (yS H ps) { s with heap:=h',toks:=t' }:=by
 have nb:∀ b,b < s.heap.objs.size->∀ p∈ps,p.1≠b:=fun b hb p hp' e=>gf _ (b0 hb (e ▸ hp p hp'));have old:∀ b,b < s.heap.objs.size->yS H ps b=H b:=fun b hb=>AQ (nb b hb);refine I.un ⟨fun b u q _ _ _=>k b u q,fun b u q _ _ _=>⟨u.slots,k b u q⟩,fun b u q n _=>(old b (ay q)).trans n,fun b u q _=>⟨u,k b u q⟩,fun b xs q=>(old b (I.hok.lt q)).trans q,fun b u xs q=>(old b (I.hok.lt q)).trans q,fun b ps' q=>⟨#[],by rw [old b (I.hok.lt q),q]; simp⟩⟩ ?_;intro b u e;unfold yS at e;cases q:ps.lookup b with
 | some xs=>
  rw [q] at e;cases e
  obtain ⟨z,its,r,p⟩:=new _ (qB q);exact ⟨z,its,r,p⟩
 | none=>
  rw [q] at e;have hb:=I.hok.lt e;exact (I.hok b u e).stay (fun c v _ q=>k c v q) (fun c q=>(old c (I.hok.lt q)).trans q) fun c xs q=>(old c (I.hok.lt q)).trans q
theorem wN (I:Inv X pins σ H s) {ps:List (Addr×List V)} (hp:∀ p∈ps,s.heap.objs.size<=p.1):uY H (yS H ps):=fun b o e=>by
 have nb:∀ p∈ps,p.1≠b:=fun p hp' z=>gf _ (b0 (I.hok.lt e) (z ▸ hp p hp'));rw [AQ nb];exact e
end
section
variable {X:Cx}
theorem Fq {α:Type} {xs:List α} {d:α} {p:List Nat} (h:p.Perm (d6 xs.length)):(p.map fun i=>xs.getD i d).Perm xs:=by
 have e:(d6 xs.length).map (fun i=>xs.getD i d)=xs:=by
  apply kh;intro i
  by_cases hi:i < xs.length
  ·simp [hi]
  ·simp [hi]
 have:=h.map fun i=>xs.getD i d
 rwa [e] at this
theorem wO {vs:List V} {us:List Value} (r:aL vs us):∀ {p:List Nat},(∀ i∈p,i < vs.length)->aL (p.map fun i=>vs.getD i .non) (p.map fun i=>us.getD i di)
 | [],_=>.nil
 | i :: p,h=>by
  have hi:=h i bg;have g:vs[i]?=some (vs.getD i .non):=by simp [hi]
  obtain ⟨u,hu,hr⟩:=r.get g;have e:us.getD i di=u:=by simp [ak,hu]
  refine .cons ?_ (wO r fun j hj=>h j (ao _ hj))
  show RelV (vs.getD i .non) (us.getD i di)
  rw [e];exact hr
end
end L2
namespace L2
open PySem PySem.Spec PyProof.Rows
theorem vC:typeLookup (.type "tuple") "keys" = pure none:=by rw [typeLookup_type,builtinLookup_eq_fast]; kernel_rfl
theorem eQ:entryFor table "dict.update.loop" = some Builtin.«dict.update.loop»:=entryFor_of_tree (by kernel_rfl)
theorem bK:plainId "dict.update.loop" = true:=by decide +kernel
theorem vD {prog:Program} {w:World} {A:Around} {E:Value->Shared->Prop} {s:Shared} {a:Addr} {o:Obj} {xs:Array Value} {k:Nat} {Q:Option Value->Shared->Prop}
  (hx:s.heap.get? a=some o) (hc:o.cls=.type "tuple") (hdat:o.data=.seq xs k) (hd:o.dict=none) (hA:A.handled=none)
  (h:∀ h' tk,(∀ b u,s.heap.get? b=some u->h'.get? b=some u)->Q none { s with heap:=h',toks:=tk }):wpAny (model prog w) A (getAttr? (.ref a) "keys") Q E s:=by
 obtain ⟨c,dct,dat,sl⟩:=o;simp only at hc hdat hd;subst hc hdat hd;obtain ⟨hp,g,d,tk,os⟩:=s;have hT:∀ tk',(⟨hp,g,d,tk',os⟩:Shared).TypeIs (.ref a) "tuple" := fun _=>⟨_,hx,rfl⟩;have f1:=sub_AttributeError;have f3:=F.slot_tuple_getattribute.lookup;have f4:=F.slot_tuple_getattribute.bind (.ref a);have f5:=am_tuple_getattr_none;unfold getAttr? getAttrBy? getAttrBy
 repeat (any_goals (first | assumption | exact hT _ | ((with_reducible show wpAny _ _ (call (Value.builtin "tuple.__getattribute__") _ _) _ _ _); refine call_meets F.slot_tuple_getattribute (hT _) am_entry_tuple_getattribute (F.args_tuple_getattribute_2 _ _) (meets_getattribute_miss_tuple a xs k sl "keys" _ vC (by decide) (by size_fits)) ⟨hx,hA,fun h' tk' e hx'=>?_⟩) | wp_step))
 obtain ⟨t',u',he⟩:=hx'.there
 show wpAny _ _ (getattributeRaised _ _ _ _ _ _ _) _ _ _
 unfold getattributeRaised
 repeat (any_goals (first | assumption | wp_step))
 exact h _ _ hx'.of.keeps
section
variable {prog:Program} {w:World} {K:Type} [DecidableEq K] {knd:KeyKind prog w K} {A:Around} {R:Result->Shared->Prop}
theorem CH {I d:Addr} {fp wr:List Addr} {n:Nat} {P:Nat->Value->Prop} {St:Nat->Heap->Prop} (W:Walks prog w A.in1 I fp wr n P St) (hd:d∉fp) (ps:List (Addr×K×Value×Value)) (hn:ps.length=n)
  (hP:∀ i v,P i v->∃ p,ps[i]?=some p/\v=.ref p.1) (hT:∀ p∈ps,p.1∉wr/\p.1≠d) (hk:∀ p∈ps,knd.is p.2.1 p.2.2.1=true) (res:Value):
  ∀ (m i:Nat) (s:Shared) (kvs:List (K×Value)),n - i=m->i<=n->St i s.heap->s.heap.DictOf knd d kvs->kvs.length+n<=az+i->(∀ p∈ps,IsTup s.heap p.1 #[p.2.2.1,p.2.2.2])->
  (∀ h' tk,h'.DictOf knd d (merged kvs ((ps.drop i).map fun p=>(p.2.1,p.2.2.2)))->(∀ b o,b≠d->b∉wr->s.heap.get? b=some o->h'.get? b=some o)->R (.ok (.ret res)) { s with heap:=h',toks:=tk })->
  codeAny (model prog w) A (.builtin "dict.update.loop" ⟨[.ref d,.ref I,rawInt i,res],[]⟩) R s:=by
 have hdw:d∉wr:=fun h=>hd (W.sub _ h);intro m
 induction m with
 | zero=>
  intro i s kvs hm hi hst hdt hz hit hR;have hin:i=n:=by omega
  subst hin;refine jm eQ ?_;rw [gi bK _]
  show wpAny _ A.in1 (pyNext (.ref I) >>= _) _ _ s
  refine aa (W.done s _ _ hst fun h' tk hk'=>?_)
  show wpAny _ A.in1 (Builtin.Dict.addKeywords d [] >>= _) _ _ _
  have hfin:=hR h' tk (by
   rw [fw (by omega)];obtain ⟨o,es,ep,h1,h2⟩:=hdt;exact ⟨o,es,ep,hk' d _ hdw h1,h2⟩) fun b o _ hb e=>hk' b o hb e
  exact aa (af (af hfin))
 | succ m ih=>
  intro i s kvs hm hi hst hdt hz hit hR;have hlt:i < n:=by omega
  refine jm eQ ?_;rw [gi bK _]
  show wpAny _ A.in1 (pyNext (.ref I) >>= _) _ _ s
  refine aa (W.item i s _ _ hlt hst fun v h' tk hPv hst' hk'=>?_);obtain ⟨p,hp,rfl⟩:=hP i v hPv;have hpm:=b7 hp;obtain ⟨ob,hb1,hb2,nn,hb3⟩:=hit p hpm;have hb1':=hk' _ _ (hT p hpm).1 hb1;have hTy:({ s with heap:=h',toks:=tk }:Shared).TypeIs (.ref p.1) "tuple" := ⟨ob,hb1',hb2⟩;have hdt':h'.DictOf knd d kvs:=by
   obtain ⟨o,es,ep,h1,h2⟩:=hdt;exact ⟨o,es,ep,hk' d _ hdw h1,h2⟩
  refine aa (il (aa (wpAny_tryCatch ?_)));unfold Builtin.Dict.pairItems;refine aa (mn hTy ?_);rw [if_pos (by decide)];refine aa (jf hb1' hb3 (af ?_))
  show wpAny _ _ (holding [p.2.2.1,p.2.2.2] (dictSet d p.2.2.1 p.2.2.2)) _ _ _
  refine il (wpAny_dictSet_pairs (hk p hpm) hdt' (hsz:=by omega) fun h2 hd2 hs2=>?_);refine af ⟨k6 bK _,?_⟩;have st2:St (i+1) h2:=W.frame (i+1) h' h2 hst' fun b hb o e=>(hs2.2 b (fun z=>hd (z ▸ hb))).trans e;refine ih (i+1) _ (stored kvs p.2.1 p.2.2.2) (by omega) hlt st2 hd2 ?_ (fun q hq=>?_) fun h3 tk3 hd3 hk3=>?_
  ·have:=stored_length_le kvs p.2.1 p.2.2.2;omega
  ·obtain ⟨ob',c1,c2⟩:=hit q hq;exact ⟨ob',(hs2.2 _ (hT q hq).2).trans (hk' _ _ (hT q hq).1 c1),c2⟩
  ·refine hR h3 tk3 ?_ fun b o hb hw e=>hk3 b o hb hw ((hs2.2 b hb).trans (hk' b o hw e));have hdr:ps.drop i=p :: ps.drop (i+1):=by
    obtain ⟨hl,e⟩:=ae.mp hp;rw [dj hl,e]
   rw [hdr];exact hd3
theorem qV {E:Value->Shared->Prop} {s:Shared} {a:Addr} {o:Obj} {k:Nat} {ps:List (Addr×K×Value×Value)} {Q:Value->Shared->Prop} (hA:A.handled=none) (hx:s.heap.get? a=some o) (hc:o.cls=.type "tuple") (hdat:o.data=.seq (ps.map fun p=>c0 p.1).toArray k) (hd:o.dict=none)
  (hk:∀ p∈ps,knd.is p.2.1 p.2.2.1=true) (hit:∀ p∈ps,IsTup s.heap p.1 #[p.2.2.1,p.2.2.2]) (hz:ps.length<=az)
  (h:∀ h' tk,h'.DictOf knd s.heap.objs.size (merged [] (ps.map fun p=>(p.2.1,p.2.2.2)))->(∀ b u,s.heap.get? b=some u->h'.get? b=some u)->Q (.ref s.heap.objs.size) { s with heap:=h',toks:=tk }):
  wpAny (model prog w) A (call (.type "dict") [.ref a]) Q E s:=by
 refine callType_codes (Q₁:=fun obj s₁=>obj=.ref s.heap.objs.size/\s₁={ s with heap:=s.heap.push { cls:=.type "dict",data:=.dict #[] } }) F.kt_called_dict (F.kt_typeCall_dict_1 _) F.entry_dict_init (kt_code_dict_new _ ⟨rfl,rfl⟩) ?_;rintro obj s₁ ⟨rfl,rfl⟩;have hnew:(s.heap.push { cls:=.type "dict",data:=.dict #[] }).DictOf knd s.heap.objs.size []:=Heap.DictOf.new s.heap;have up:∀ b u,s.heap.get? b=some u->(s.heap.push { cls:=.type "dict",data:=.dict #[] }).get? b=some u:=fun b u e=>ab _ e;have hTa:({ s with heap:=s.heap.push { cls:=.type "dict",data:=.dict #[] } }:Shared).TypeIs (.ref a) "tuple" := ⟨o,up _ _ hx,hc⟩;refine ⟨hnew.typeIs,F.args_dict_init_2 _ _,?_⟩;unfold Builtin.«dict.__init__»;refine aa ?_; unfold Builtin.Dict.selfAndRest;refine aa (mw hnew.typeIs (show wpAny _ _ (pure (s.heap.objs.size,[c0 a])) _ _ _ from af ?_))
 show wpAny _ _ (k7 "dict.__init__" s.heap.objs.size (.ref a) [] .none) _ _ _
 unfold k7;refine aa (mn hTa ?_);rw [if_pos (by decide)];refine aa (vD (up _ _ hx) hc hdat hd hA fun h1 tk1 kp1=>?_);rw [if_pos (by rfl)];refine aa (lq ?_);have ha1:IsTup h1 a (ps.map fun p=>c0 p.1).toArray:=⟨o,kp1 _ _ (up _ _ hx),hc,k,hdat⟩;refine aa (wpAny_pyIter_tuple (show ({ s with heap:=h1,toks:=tk1 }:Shared).heap.IsTuple a _ from ha1) (af ⟨k6 bK _,?_⟩))
 have lt0:s.heap.objs.size < h1.objs.size:=by
  have:=kp1 s.heap.objs.size _ (ax s.heap rfl);exact ay this
 have hlt:∀ b u,s.heap.get? b=some u->b < s.heap.objs.size:=fun b u e=>ay e;have ha0:=hlt _ _ hx;refine CH (knd:=knd) (fp:=[h1.objs.size,a]) (wr:=[h1.objs.size]) (n:=(ps.map fun p=>c0 p.1).toArray.size) (Walks.tuple (A:=A.in1.in1) hA h1.objs.size a (bu (nj ha0 lt0)) (ps.map fun p=>c0 p.1).toArray) ?_ ps (by simp) (fun i v e=>?_) (fun p hp=>?_) hk .none _ 0 _ [] (i6 _) (dv _) ?_ ?_ (by simpa using hz) (fun p hp=>?_) fun h' tk dd kk=>?_
 ·intro z;rcases bw.mp z with z | z
  ·exact bu lt0 z
  ·exact bu ha0 (dm.mp z).symm
 ·have e':(ps.map fun p=>c0 p.1)[i]?=some v:=by simpa using e
  rw [bf] at e';obtain ⟨p,hp,rfl⟩:=b6.mp e';exact ⟨p,hp,rfl⟩
 ·obtain ⟨ob,e,_⟩:=hit p hp;have h0:=hlt _ _ e;exact ⟨fun z=>bu (nj h0 lt0) (dm.mp z),bu h0⟩
 ·refine ⟨⟨_,ax _ rfl,rfl,rfl⟩,?_⟩;obtain ⟨ob,e,r⟩:=ha1;exact ⟨ob,ab _ e,r⟩
 ·obtain ⟨oo,es,ep,e,r⟩:=hnew;exact ⟨oo,es,ep,ab _ (kp1 _ _ e),r⟩
 ·obtain ⟨ob,e,r⟩:=hit p hp;exact ⟨ob,ab _ (kp1 _ _ (up _ _ e)),r⟩
 ·refine ⟨rfl,h h' tk (by simpa using dd) fun b u e=>?_⟩
  have h0:=hlt _ _ e;exact kk b u (bu h0) (fun z=>bu (nj h0 lt0) (dm.mp z)) (ab _ (kp1 _ _ (up _ _ e)))
end
section
variable {prog:Program} {w:World} {A:Around} {E:Value->Shared->Prop} {s:Shared} {v dc it:Addr} {oc:Obj} {es:Array k9} {ep:Nat} {ok ov:Value}
theorem CI {Q:Value->Shared->Prop} (hv:s.heap.IsItemsView v dc) (h1:s.heap.get? dc=some oc) (h2:oc.data=.dict es ep)
  (q:Q (.ref s.heap.objs.size) { s with heap:=s.heap.push { cls:=.type "dict_itemiterator",data:=.fields #[.none,.bool false,.ref dc,.int 0 0,.int es.size 0,.int ep 0,.none,.none] } }):wpAny (model prog w) A (pyIter (.ref v)) Q E s:=by
 obtain ⟨ov,g1,g2,g3⟩:=id hv;refine wpAny_pyIter_slot hv.typeIs F.slot_dict_items_iter (jd F.slot_dict_items_iter hv.typeIs F.entry_dict_items_iter (show wpAny _ _ (Builtin.«dict_items.__iter__» _) _ _ _ from ?_) (F.args_dict_items_iter_1 _))
 unfold Builtin.«dict_items.__iter__»;refine aa (af (aa ?_)); unfold Builtin.Dict_items.dictOf;refine aa (gw g1 g3 (x:=.ref dc) rfl (af (aa ?_))); unfold Builtin.Dict_items.newIterator;refine aa (m6 h1 h2 (aa (wpAny_dictEpoch h1 h2 ?_)));rw [show l9 "dict_itemiterator" = true by decide]; simp only [if_true,Builtin.Dict_items.ownedTupleFields,lg,i8,d9,if_false];refine fm (af ⟨_,rfl,"dict_itemiterator",_,⟨_,ax _ rfl,rfl⟩,gq.lookup,(by simpa [rawInt] using q)⟩)
theorem AS (dc:Addr) (hd:(dc == jg)=false):MeetsIn prog w (Builtin.«dict.items» ⟨[.ref dc],[]⟩) (fun _ R s=>s.TypeIs (.ref dc) "dict" /\
   R (.ok (.ret (.ref s.heap.objs.size))) { s with heap:=s.heap.push { cls:=.type "dict_items",data:=.fields #[.ref dc] } }):=
 .of_wp fun A R s ⟨hT,h⟩=>by
  refine aa ?_; unfold Builtin.Dict.noArgs;refine aa (mw hT (show wpAny _ _ (pure dc) _ _ s from af (show wpAny _ _ (Builtin.Dict.showsAll dc >>= _) _ _ s from ?_)))
  unfold Builtin.Dict.showsAll; rw [if_neg (show ¬ _ from by rw [hd]; decide)]
  refine aa (af (aa (fm (af ⟨_,rfl,h⟩))))
end
structure TOk (bt:Bool) (t:SetTable):Prop where
 dum:t.dummies=#[]
 led:bt=false->t.led=true
 ris:t.plain=true->t.place.toList.Pairwise (· < ·)
end L2
namespace L2
open PySem PySem.Spec PyProof.Rows PySem.SeqAt PySem.W
def fC (b:Bool) (n i:Nat):Nat:=if b then n - 1 - i else i
def AU (b:Bool) (n:Nat) (p:List Nat):List Nat:=katRev b (p.map (fC b n))
theorem jH {α:Type} (b:Bool) {l:List α} {d:α} {i:Nat} (hi:i < l.length):(katRev b l).getD i d=l.getD (fC b l.length i) d:=by
 cases b with
 | false=>rfl
 | true=>
  show l.reverse.getD i d=l.getD (l.length - 1 - i) d
  rw [ak,ak,List.getElem?_reverse hi]
theorem fO {b:Bool} {n i:Nat} (h:i < n):fC b n i < n:=by
 unfold fC; split <;> omega
theorem CJ {b:Bool} {n:Nat} {p:List Nat} (h:p.Perm (d6 n)):(AU b n p).Perm (d6 n):=by
 cases b with
 | false=>
  have e:AU false n p=p:=by
   show p.map (fun i=>fC false n i)=p
   have:(fun i=>fC false n i)=id:=by funext i; rfl
   rw [this,List.map_id]
  rw [e]; exact h
 | true=>
  have e:(d6 n).map (fC true n)=(d6 n).reverse:=by
   apply List.ext_getElem
   ·simp
   ·intro i h1 h2;simp [fC]
  show ((p.map (fC true n)).reverse).Perm _
  refine (gg _).trans ((h.map _).trans ?_);rw [e];exact gg _
theorem CK {b:Bool} {n:Nat} {p:List Nat} {lt:Nat->Nat->Bool} (h:p.Pairwise (fun i j=>lt (fC b n j) (fC b n i)=false)):(AU b n p).Pairwise (fun i j=>(if b then lt i j else lt j i)=false):=by
 have h1:(p.map (fC b n)).Pairwise (fun i j=>lt j i=false):=ki.mpr h;cases b with
 | false=>exact h1
 | true=>
  show ((p.map (fC true n)).reverse).Pairwise _
  rw [f9];exact h1
theorem Fs {b:Bool} {vs:List Value} {p:List Nat} (h:∀ i∈p,i < vs.length):katRev b (p.map fun i=>(katRev b vs).getD i di)=(AU b vs.length p).map fun i=>vs.getD i di:=by
 have e:(p.map fun i=>(katRev b vs).getD i di)=(p.map (fC b vs.length)).map fun i=>vs.getD i di:=by
  rw [km];exact List.map_congr_left fun i hi=>jH b (h i hi)
 rw [e];unfold AU katRev;split
 ·rw [List.map_reverse]
 ·rfl
theorem CL {α:Type} (b:Bool) (l:List α):katRev b (katRev b l)=l:=by
 unfold katRev; split <;> simp
theorem range_getD (vs:List Value):((d6 vs.length).map fun i=>vs.getD i di)=vs:=by
 apply kh;intro i
 by_cases hi:i < vs.length
 ·simp [hi]
 ·simp [hi]
section
variable {prog:Program} {w:World} {A:Around} {E:Value->Shared->Prop} {s:Shared} {a kS:Addr} {b:Bool} {vs ks:List Value}
theorem MQ {st:SortSt} {e e1:Nat} {out:List Value} {P:PySem.Fin->Shared->Prop} (hout:(arrOf st).map (·.2)=out.toArray) (hz:out.length < 1000000) (hkz:ks.length < 1000000) (hf:jx st=none) (hka:kS≠a)
  (gk:s.heap.get? kS=some (seqObj "list" ks.toArray e)) (ga:s.heap.get? a=some (seqObj "list" #[] e1))
  (h:∀ (h':Heap) (c:Nat),(∀ x o,x≠a->x≠kS->s.heap.get? x=some o->h'.get? x=some o)->h'.get? a=some (seqObj "list" (katRev b out).toArray c)->(∃ o,h'.get? kS=some o)->P (.done (.ret .none)) { s with heap:=h' }):
  wpAny (model prog w) A (ksk_tail a b e1 (.ref kS) st) P E s:=by
 have w1:=fi s.heap kS (fb fun _=>(#[]:Array Value));obtain ⟨ck,hck⟩:∃ ck,(s.heap.update kS (fb fun _=>(#[]:Array Value))).get? kS=some (seqObj "list" #[] ck):=⟨_,get?_update_seq gk fun _=>#[]⟩;have ga1:=(w1.2 a hka.symm).trans ga;have w2:=fi (s.heap.update kS (fb fun _=>(#[]:Array Value))) a (fb fun _=>(katRev b out).toArray);obtain ⟨c2,hc2⟩:∃ c2,((s.heap.update kS (fb fun _=>(#[]:Array Value))).update a (fb fun _=>(katRev b out).toArray)).get? a=some (seqObj "list" (katRev b out).toArray c2):=⟨_,get?_update_seq ga1 fun _=>(katRev b out).toArray⟩;have hsz:(katRev b out).toArray.size=out.length:=by rw [ba,kat_len]
 unfold ksk_tail
 try dsimp only
 rw [hout,kat_outs];refine aa (listUpdate_at gk rfl ?_ (by rw [ba,gh]; omega) (dv _));refine aa (wpAny_letGo (aa (seqEpoch_at ga1 rfl ?_)));refine aa (listUpdate_at ga1 rfl ?_ (dv _) (ft (Nat.le_of_eq hsz) (by rw [gh]; omega)));rw [hf];simp only [bne_self_eq_false,d9,if_false];exact af (h _ c2 (fun x o h1 h2 q=>(w2.2 x h1).trans ((w1.2 x h2).trans q)) hc2 ⟨_,(w2.2 kS hka).trans hck⟩)
theorem SH {e e1:Nat} {κ:j7} {P:PySem.Fin->Shared->Prop} (lt:Nat->Nat->Bool) (hl:ks.length=vs.length) (h64:vs.length < 1000000) (hka:kS≠a)
  (tr:∀ i j k,i < vs.length->j < vs.length->k < vs.length->lt j i=false->lt k j=false->lt k i=false) (as:∀ i j,i < vs.length->j < vs.length->lt i j=true->lt j i=false)
  (gk:s.heap.get? kS=some (seqObj "list" ks.toArray e)) (ga:s.heap.get? a=some (seqObj "list" #[] e1))
  (hk:2<=vs.length->∀ (Q:j7->Shared->Prop) E',Q κ s->wpAny (model prog w) A (keyKind' ks.toArray) Q E' s)
  (hlt:∀ i j,i < vs.length->j < vs.length->∀ Q:Bool->Shared->Prop,Q (lt i j) s->wpAny (model prog w) A (keyLt' κ (ks.getD i di) (ks.getD j di)) Q (fun _ _=>False) s)
  (h:∀ (p:List Nat) (h':Heap) (c:Nat),p.Perm (d6 vs.length)->p.Pairwise (fun i j=>(if b then lt i j else lt j i)=false)->(∀ x o,x≠a->x≠kS->s.heap.get? x=some o->h'.get? x=some o)->
   h'.get? a=some (seqObj "list" (p.map fun i=>vs.getD i di).toArray c)->(∃ o,h'.get? kS=some o)->P (.done (.ret .none)) { s with heap:=h' }):
  wpAny (model prog w) A (ksk_end a b vs.toArray e1 (.ref kS) ks.toArray) P E s:=by
 have skip:∀ t:Sem PySem.Fin,wpAny (model prog w) A t P E s->wpAny (model prog w) A (if b=true then (do let _ <- rule "list.sort.reverse"; t) else t) P E s:=fun t ht=>by
  split
  ·exact aa (lq ht)
  ·exact ht
 have hlr:(katRev b ks).length=(katRev b vs).length:=by rw [kat_len,kat_len,hl]
 unfold ksk_end
 try dsimp only
 refine skip _ ?_
 rw [kat_pairs b hl]
 by_cases h2:vs.toArray.size < 2
 ·rw [if_pos h2,if_pos h2]
  rw [ba] at h2
  refine aa (af ?_)
  rw [StateT.run_pure]
  refine aa (af ?_)
  try dsimp only
  refine MQ (st:=SortSt.mk' general' ((katRev b ks).toArray.zip (katRev b vs).toArray) #[] 7 none) (out:=katRev b vs) (ks:=ks) ?_ (by rw [kat_len]; exact h64) (by omega) rfl hka gk ga fun h' c k1 k2 k3=>?_
  ·show ((katRev b ks).toArray.zip (katRev b vs).toArray).map (·.2)=(katRev b vs).toArray
   apply Array.toList_inj.mp
   rw [Array.toList_map,ksk_zip]
   show (List.zip _ _).map Prod.snd=_
   rw [List.map_snd_zip (by rw [hlr]; exact bj _)]
  ·rw [CL] at k2
   refine h (d6 vs.length) h' c (iy _) ?_ k1 (by rw [range_getD]; exact k2) k3
   rw [c8]
   intro i j hi hj hij
   simp only [List.length_range] at hi hj
   omega
 ·rw [if_neg h2,if_neg h2]
  rw [ba] at h2
  refine aa (hk (by omega) _ _ ?_)
  refine aa (ja (GR (ks:=katRev b ks) (vs:=katRev b vs) (E:=E) (κ:=κ) hlr (fun i j=>lt (fC b vs.length i) (fC b vs.length j))
   (by rw [kat_len]; exact fun i j k hi hj hk=>tr _ _ _ (fO hi) (fO hj) (fO hk)) (by rw [kat_len]; exact fun i j hi hj=>as _ _ (fO hi) (fO hj)) (by
    rw [kat_len]
    intro i j hi hj C hC
    rw [jH b (by omega),jH b (by omega),hl]
    exact hlt _ _ (fO hi) (fO hj) C hC)) ?_ fun _ _ x=>x)
  rintro ⟨⟨⟩,st'⟩ s' ⟨rfl,p,c1,c2,hout,hf⟩
  try dsimp only
  rw [kat_len] at c1
  have hin:∀ i∈p,i < vs.length:=fun i hi=>by simpa using c1.mem_iff.mp hi
  refine MQ (ks:=ks) hout (by rw [aj,c1.length_eq,List.length_range]; exact h64) (by omega) hf hka gk ga fun h' c k1 k2 k3=>?_
  rw [Fs hin] at k2
  exact h _ h' c (CJ c1) (CK c2) k1 k2 k3
theorem CM {f:Value} {n:Nat} {κ:j7} {P:PySem.Fin->Shared->Prop} (ho:s.heap.get? a=some (seqObj "list" vs.toArray n)) (h64:vs.length < 1000000) (J:Addr->Nat->List Value->Nat->Shared->Prop)
  (h0:∀ (kS e1:Nat) (h':Heap),(∀ x o,x≠a->s.heap.get? x=some o->h'.get? x=some o)->s.heap.objs.size<=kS->h'.get? a=some (seqObj "list" #[] e1)->h'.get? kS=some (seqObj "list" #[] 0)->J kS e1 [] 0 { s with heap:=h' })
  (hget:∀ kS e1 ks e s',J kS e1 ks e s'->kS≠a/\s'.heap.get? a=some (seqObj "list" #[] e1)/\s'.heap.get? kS=some (seqObj "list" ks.toArray e))
  (turn:∀ kS e1 ks e s' x,vs[ks.length]?=some x->J kS e1 ks e s'->wpAny (model prog w) A (call f [x]) (fun v s''=>s''.heap.get? kS=some (seqObj "list" ks.toArray e)/\∀ (h':Heap) e',ju kS s''.heap h'->h'.get? kS=some (seqObj "list" (ks++[v]).toArray e')->J kS e1 (ks++[v]) e' { s'' with heap:=h' }) (fun _ _=>False) s')
  (fin:∀ kS e1 ks e s',ks.length=vs.length->J kS e1 ks e s'->∃ lt:Nat->Nat->Bool,(∀ i j k,i < vs.length->j < vs.length->k < vs.length->lt j i=false->lt k j=false->lt k i=false)/\(∀ i j,i < vs.length->j < vs.length->lt i j=true->lt j i=false)/\
   (2<=vs.length->∀ (Q:j7->Shared->Prop) E',Q κ s'->wpAny (model prog w) A (keyKind' ks.toArray) Q E' s')/\
   (∀ i j,i < vs.length->j < vs.length->∀ Q:Bool->Shared->Prop,Q (lt i j) s'->wpAny (model prog w) A (keyLt' κ (ks.getD i di) (ks.getD j di)) Q (fun _ _=>False) s')/\
   ∀ (p:List Nat) (h':Heap) (c:Nat),p.Perm (d6 vs.length)->p.Pairwise (fun i j=>(if b then lt i j else lt j i)=false)->(∀ x o,x≠a->x≠kS->s'.heap.get? x=some o->h'.get? x=some o)->
   h'.get? a=some (seqObj "list" (p.map fun i=>vs.getD i di).toArray c)->(∃ o,h'.get? kS=some o)->P (.done (.ret .none)) { s' with heap:=h' }):
  wpAny (model prog w) A (ksk_tree a f b) P E s:=by
 have ha:a < s.heap.objs.size:=ay ho;have w1:=fi s.heap a (fb fun _=>(#[]:Array Value));obtain ⟨e1,ho1⟩:∃ e1,(s.heap.update a (fb fun _=>(#[]:Array Value))).get? a=some (seqObj "list" #[] e1):=⟨_,get?_update_seq ho fun _=>#[]⟩;unfold ksk_tree;refine aa (listItems_at ho rfl (aa (listUpdate_at ho rfl ?_ (by rw [ba,gh]; omega) (dv _))));refine aa (seqEpoch_at ho1 rfl (aa (wpAny_newTuple ?_ (by show vs.length<=_; rw [gh]; omega))));refine aa (wpAny_newList (il ?_) (dv _));have hk1:((s.heap.update a (fb fun _=>(#[]:Array Value))).push (seqObj "tuple" vs.toArray 0)).objs.size=s.heap.objs.size+1:=by rw [size_push',Heap.size_update]
 have J0:=h0 ((s.heap.update a (fb fun _=>(#[]:Array Value))).push (seqObj "tuple" vs.toArray 0)).objs.size e1 (((s.heap.update a (fb fun _=>(#[]:Array Value))).push (seqObj "tuple" vs.toArray 0)).push (seqObj "list" #[] 0))
  (fun x o hx q=>ab _ (ab _ ((w1.2 x hx).trans q))) (by rw [hk1]; exact Nat.le_succ _) (ab _ (ab _ ho1)) (ax _ rfl)
 show wpAny (model prog w) A (ksk_rest a f b vs.toArray e1 (.ref ((s.heap.update a (fb fun _=>(#[]:Array Value))).push (seqObj "tuple" vs.toArray 0)).objs.size)) P E { s with heap:=((s.heap.update a (fb fun _=>(#[]:Array Value))).push (seqObj "tuple" vs.toArray 0)).push (seqObj "list" #[] 0) }
 generalize ((s.heap.update a (fb fun _=>(#[]:Array Value))).push (seqObj "tuple" vs.toArray 0)).objs.size=kS at J0
 revert J0
 generalize ({ s with heap:=((s.heap.update a (fb fun _=>(#[]:Array Value))).push (seqObj "tuple" vs.toArray 0)).push (seqObj "list" #[] 0) }:Shared)=s0;intro J0;unfold ksk_rest;refine aa (lq ?_)
 first
  | rw [List.forIn_toArray]
  | (rw [<- Array.forIn_toList]; simp only [List.toList_toArray])
 refine aa (ksk_fold (fun i s'=>∃ ks e,ks.length=i/\J kS e1 ks e s') vs 0 s0 ⟨[],0,rfl,J0⟩ ?step ?done)
 case step=>
  rintro j x s' hx ⟨ks,e,hl,hJ⟩;have hj:j < vs.length:=(ae.mp hx).1;have hl':ks.length=j:=by omega
  refine aa (wpAny_attempt (ja (turn kS e1 ks e s' x (by rw [hl']; exact hx) hJ) (fun v s'' q=>?_) fun _ _ z=>z.elim));obtain ⟨gk,nxt⟩:=q
  try dsimp only
  have w2:=fi s''.heap kS (fb (·.push v));obtain ⟨c2,hc2⟩:∃ c2,(s''.heap.update kS (fb (·.push v))).get? kS=some (seqObj "list" (ks.toArray.push v) c2):=⟨_,get?_update_seq gk (·.push v)⟩;refine aa (listUpdate_at gk rfl ?_ (by rw [ba,gh]; omega) (ft (Nat.le_of_eq (Array.size_push ..)) (by rw [ba,gh]; omega)));refine af ⟨rfl,ks++[v],c2,by simp; omega,nxt _ c2 w2 ?_⟩;rw [hc2];simp
 case done=>
  rintro s' ⟨ks,e,hl,hJ⟩;have hl':ks.length=vs.length:=by omega
  obtain ⟨hka,ga,gk⟩:=hget kS e1 ks e s' hJ;obtain ⟨lt,tr,as,hk,hlt,h⟩:=fin kS e1 ks e s' hl' hJ
  try dsimp only
  refine aa (listItems_at gk rfl ?_);exact SH (κ:=κ) lt hl' h64 hka tr as gk ga hk hlt h
end
end L2
namespace L2
open PySem PySem.Spec PyProof.Rows PySem.SeqAt
inductive PV where
 | non | bl (b:Bool) | int (i:Int) | str (x:Str) | tup (xs:List PV) | ref (n:Nat) | ty (n:String) | fl (xs:List PV)
mutual
def PV.beq:PV->PV->Bool
 | .non,.non=>true
 | .bl a,.bl b=>a == b
 | .int a,.int b=>a == b
 | .str a,.str b=>a == b
 | .tup a,.tup b=>PV.beqs a b
 | .ref a,.ref b=>a == b
 | .ty a,.ty b=>a == b
 | .fl a,.fl b=>PV.beqs a b
 | _,_=>false
def PV.beqs:List PV->List PV->Bool
 | [],[]=>true
 | x :: xs,y :: ys=>PV.beq x y && PV.beqs xs ys
 | _,_=>false
end
mutual
theorem PV.beq_self:∀ x:PV,PV.beq x x=true
 | .non=>rfl
 | .bl a=>by simp [PV.beq]
 | .int a=>by simp [PV.beq]
 | .str a=>by simp [PV.beq]
 | .tup a=>by simp only [PV.beq]; exact PV.beqs_self a
 | .ref a=>by simp [PV.beq]
 | .ty a=>by simp [PV.beq]
 | .fl a=>by simp only [PV.beq]; exact PV.beqs_self a
theorem PV.beqs_self:∀ x:List PV,PV.beqs x x=true
 | []=>rfl
 | x :: xs=>by simp only [PV.beqs,PV.beq_self x,PV.beqs_self xs,Bool.and_self]
end
mutual
theorem PV.beq_eq:∀ {x y:PV},PV.beq x y=true->x=y
 | .non,y,h=>by cases y <;> first | rfl | (simp [PV.beq] at h)
 | .bl a,y,h=>by cases y <;> first | (simp [PV.beq] at h; rw [h]) | (simp [PV.beq] at h)
 | .int a,y,h=>by cases y <;> first | (simp [PV.beq] at h; rw [h]) | (simp [PV.beq] at h)
 | .str a,y,h=>by cases y <;> first | (simp [PV.beq] at h; rw [h]) | (simp [PV.beq] at h)
 | .tup a,y,h=>by
  cases y with
  | tup b=>simp only [PV.beq] at h; rw [PV.beqs_eq h]
  | _=>simp [PV.beq] at h
 | .ref a,y,h=>by cases y <;> first | (simp [PV.beq] at h; rw [h]) | (simp [PV.beq] at h)
 | .ty a,y,h=>by cases y <;> first | (simp [PV.beq] at h; rw [h]) | (simp [PV.beq] at h)
 | .fl a,y,h=>by
  cases y with
  | fl b=>simp only [PV.beq] at h; rw [PV.beqs_eq h]
  | _=>simp [PV.beq] at h
theorem PV.beqs_eq:∀ {x y:List PV},PV.beqs x y=true->x=y
 | [],y,h=>by cases y <;> first | rfl | (simp [PV.beqs] at h)
 | x :: xs,y,h=>by
  cases y with
  | nil=>simp [PV.beqs] at h
  | cons y ys=>
   simp only [PV.beqs,dw] at h;rw [PV.beq_eq h.1,PV.beqs_eq h.2]
end
instance:DecidableEq PV:=fun x y=>match h:PV.beq x y with
 | true=>isTrue (PV.beq_eq h)
 | false=>isFalse fun e=>by rw [e,PV.beq_self] at h; cases h
def PV.ky:Nat->PV->Bool
 | _,.int _=>true
 | _,.str _=>true
 | n+1,.tup xs=>xs.all (PV.ky n)
 | _,_=>false
section
variable (w:World)
mutual
def hsh:PV->Int
 | .int i=>N6 w (.inl i)
 | .str x=>N6 w (.inr x)
 | .tup xs=>reduceHash (fo (qW xs))
 | _=>0
def qW:List PV->List Int
 | []=>[]
 | x :: xs=>hsh x :: qW xs
end
end
mutual
def drw:PV->Nat
 | .tup xs=>AV xs+1
 | _=>1
def AV:List PV->Nat
 | []=>0
 | x :: xs=>drw x+AV xs
end
mutual
/-- the raw value is the key -/
def HR (h:Heap):PV->Value->Prop
 | .int i,v=>∃ t,v=.int i t
 | .str x,v=>∃ t,v=.str x t
 | .tup ps,v=>∃ a its,v=.ref a/\IsTup h a its.toArray/\HRs h ps its
 | _,_=>False
def HRs (h:Heap):List PV->List Value->Prop
 | [],[]=>True
 | p :: ps,v :: vs=>HR h p v/\HRs h ps vs
 | [],_ :: _=>False
 | _ :: _,[]=>False
end
theorem HRs.length {h:Heap}:∀ {ps:List PV} {vs:List Value},HRs h ps vs->ps.length=vs.length
 | [],[],_=>rfl
 | _ :: _,_ :: _,r=>congrArg (·+1) (HRs.length r.2)
 | [],_ :: _,r=>r.elim
 | _ :: _,[],r=>r.elim
theorem HRs.at {h:Heap}:∀ {ps:List PV} {vs:List Value} {j:Nat} {p:PV},HRs h ps vs->ps[j]?=some p->∃ v,vs[j]?=some v/\HR h p v
 | [],[],_,_,_,e=>by simp at e
 | q :: _,v :: _,0,p,r,e=>by
  have:q=p:=by simpa using e
  subst this;exact ⟨v,rfl,r.1⟩
 | _ :: ps,_ :: vs,j+1,p,r,e=>by
  obtain ⟨v,h1,h2⟩:=HRs.at (ps:=ps) (vs:=vs) (j:=j) (p:=p) r.2 (by simpa using e)
  exact ⟨v,by simpa using h1,h2⟩
 | [],_ :: _,_,_,r,_=>r.elim
 | _ :: _,[],_,_,r,_=>r.elim
theorem Ft {h:Heap} {a:Addr} {x y:Array Value} (p:IsTup h a x) (q:IsTup h a y):x=y:=by
 obtain ⟨o,ho,_,n,hd⟩:=p;obtain ⟨o',ho',_,n',hd'⟩:=q;obtain rfl:o=o':=b8 (ho.symm.trans ho');rw [hd] at hd';injection hd'
mutual
theorem HR.one {h:Heap}:∀ {p q:PV} {v:Value},HR h p v->HR h q v->p=q
 | .int i,q,v,r,r'=>by
  obtain ⟨t,rfl⟩:=r;cases q with
  | int j=>obtain ⟨t',e⟩:=r'; injection e with e; rw [e]
  | str j=>obtain ⟨t',e⟩:=r'; cases e
  | tup j=>obtain ⟨_,_,e,_⟩:=r'; cases e
  | _=>exact r'.elim
 | .str i,q,v,r,r'=>by
  obtain ⟨t,rfl⟩:=r;cases q with
  | int j=>obtain ⟨t',e⟩:=r'; cases e
  | str j=>obtain ⟨t',e⟩:=r'; injection e with e; rw [e]
  | tup j=>obtain ⟨_,_,e,_⟩:=r'; cases e
  | _=>exact r'.elim
 | .tup ps,q,v,r,r'=>by
  obtain ⟨a,its,rfl,p,rs⟩:=r;cases q with
  | int j=>obtain ⟨t',e⟩:=r'; cases e
  | str j=>obtain ⟨t',e⟩:=r'; cases e
  | tup qs=>
   obtain ⟨b,its',e,p',rs'⟩:=r';cases e
   have:its=its':=by simpa using congrArg Array.toList (Ft p p')
   subst this;rw [HRs.one rs rs']
  | _=>exact r'.elim
 | .non,_,_,r,_=>r.elim
 | .bl _,_,_,r,_=>r.elim
 | .ref _,_,_,r,_=>r.elim
 | .ty _,_,_,r,_=>r.elim
 | .fl _,_,_,r,_=>r.elim
theorem HRs.one {h:Heap}:∀ {ps qs:List PV} {vs:List Value},HRs h ps vs->HRs h qs vs->ps=qs
 | [],[],[],_,_=>rfl
 | p :: ps,q :: qs,v :: vs,r,r'=>by rw [HR.one r.1 r'.1,HRs.one r.2 r'.2]
 | [],_ :: _,[],_,r=>r.elim
 | [],_,_ :: _,r,_=>r.elim
 | _ :: _,_,[],r,_=>r.elim
 | _ :: _,[],_ :: _,_,r=>r.elim
end
theorem CN {h h':Heap} {a d:Addr} {o:Obj} {es ep} {x:Array Value} (p:IsTup h a x) (ho:h.get? d=some o) (hd:o.data=.dict es ep) (hs:ju d h h'):IsTup h' a x:=by
 obtain ⟨q,hq,hc,n,hdt⟩:=p;have ne:a≠d:=by
  rintro rfl;obtain rfl:q=o:=b8 (hq.symm.trans ho);rw [hd] at hdt;cases hdt
 exact ⟨q,(hs.2 a ne).trans hq,hc,n,hdt⟩
mutual
theorem HR.keep {h h':Heap} (k:∀ a x,IsTup h a x->IsTup h' a x):∀ {p:PV} {v:Value},HR h p v->HR h' p v
 | .int i,v,r=>r
 | .str i,v,r=>r
 | .tup ps,v,⟨a,its,e,p,rs⟩=>⟨a,its,e,k _ _ p,HRs.keep k rs⟩
 | .non,_,r=>r.elim
 | .bl _,_,r=>r.elim
 | .ref _,_,r=>r.elim
 | .ty _,_,r=>r.elim
 | .fl _,_,r=>r.elim
theorem HRs.keep {h h':Heap} (k:∀ a x,IsTup h a x->IsTup h' a x):∀ {ps:List PV} {vs:List Value},HRs h ps vs->HRs h' ps vs
 | [],[],_=>trivial
 | _ :: _,_ :: _,r=>⟨HR.keep k r.1,HRs.keep k r.2⟩
 | [],_ :: _,r=>r.elim
 | _ :: _,[],r=>r.elim
end
section
variable {prog:Program} {w:World}
theorem GZ:∀ (n:Nat) {A:Around} {E:Value->Shared->Prop} {s:Shared} {p:PV} {v:Value} {Q:Int->Shared->Prop},p.ky n=true->A.units+n < cLine->HR s.heap p v->Q (hsh w p) { s with toks:=s.toks+drw p }->
  wpAny (model prog w) A (pyHash v) Q E s:=by
 intro n
 induction n with
 | zero=>
  intro A E s p v Q hk hu r h;cases p with
  | int i=>obtain ⟨t,rfl⟩:=r; exact wpAny_pyHash_int h
  | str i=>obtain ⟨t,rfl⟩:=r; exact wpAny_pyHash_str h
  | _=>cases hk
 | succ n ih=>
  intro A E s p v Q hk hu r h;cases p with
  | int i=>obtain ⟨t,rfl⟩:=r; exact wpAny_pyHash_int h
  | str i=>obtain ⟨t,rfl⟩:=r; exact wpAny_pyHash_str h
  | tup ps=>
   obtain ⟨a,its,rfl,⟨o,ho,hc,m,hd⟩,rs⟩:=r;have hk':∀ q∈ps,q.ky n=true:=cy.mp hk;have hT:s.TypeIs (.ref a) "tuple" := ⟨o,ho,hc⟩;unfold pyHash; unfold pyHashByItsType;refine aa (wpAny_cRoomFor_or (.inr (show A.units < cLine by omega)) (aa (wpAny_specialOf hT F.slot_tuple_hash.lookup ?_)))
   show wpAny _ _ (if ((some (Value.builtin "tuple.__hash__"):Option Value) == some di)=true then _ else _) Q E s
   rw [if_neg (show ¬ _ from by rw [beq_builtin_none]; decide)]
   refine aa (wpAny_specialOf hT F.slot_tuple_hash.lookup (show wpAny _ _ (callSpecialIfBoundUnlessNone? (.ref a) "__hash__" _ >>= _) Q E s from ?_))
   refine aa (wpAny_callSpecialIfBoundUnlessNone?_slot hT F.slot_tuple_hash (jd F.slot_tuple_hash hT F.entry_tuple_hash (show wpAny _ _ (m7 (.ref a) >>= _) _ _ s from ?_) (F.args_tuple_hash_1 _)))
   refine aa (wpAny_tupleItemsOf ho hd (aa ?_)); rw [<- Array.forIn_toList];refine wpAny_forIn_list _ (fun rest (b:Array Int) s'=>∃ left,HRs s.heap left rest/\(∀ q∈left,q.ky n=true)/\b.toList++qW w left=qW w ps/\s'.heap=s.heap/\s'={ s with toks:=s'.toks }/\s'.toks+AV left=s.toks+AV ps) _ ?turn ?stop _ _ ⟨ps,rs,hk',rfl,rfl,rfl,rfl⟩
   case turn=>
    rintro x rest b s' ⟨left,rl,kl,eb,eh,es,et⟩;cases left with
    | nil=>exact rl.elim
    | cons q left=>
     have r1:HR s'.heap q x:=by rw [eh]; exact rl.1
     refine aa (ih (kl q bg) (show A.units+1+n < cLine by omega) r1 (af ?_));refine ⟨left,rl.2,fun z hz=>kl z (ao _ hz),?_,eh,?_,?_⟩
     ·rw [<- eb]; simp [qW]
     ·rw [es]
     ·rw [<- et]
      show s'.toks+drw q+AV left=s'.toks+(drw q+AV left)
      omega
   case stop=>
    rintro b s' ⟨left,rl,kl,eb,eh,es,et⟩;cases left with
    | cons q left=>exact rl.elim
    | nil=>
     have eb':b.toList=qW w ps:=by rw [<- eb]; simp [qW]
     have et':s'.toks=s.toks+AV ps:=et
     show wpAny _ _ (retInt (fo b.toList)) _ _ _
     rw [eb',es];refine wpAny_ret_mkInt ?_
     show wpAny _ _ (if (decide (-(2:Int) ^ 63<=fo (qW w ps)) && decide (fo (qW w ps) < 2 ^ 63))=true then _ else _) Q E _
     have h':Q (reduceHash (fo (qW w ps))) { s with toks:=s.toks+(AV ps+1) }:=h;unfold reduceHash at h';rw [et']
     by_cases hr:(decide (-(2:Int) ^ 63<=fo (qW w ps)) && decide (fo (qW w ps) < 2 ^ 63))=true
     ·rw [if_pos hr] at h' ⊢;exact af (by simpa [Nat.add_assoc] using h')
     ·rw [if_neg hr] at h' ⊢;exact aa (lq (af (by simpa [Nat.add_assoc] using h')))
  | _=>cases hk
theorem O1:∀ (n:Nat) {A:Around} {s:Shared} {p q:PV} {v u:Value},p.ky n=true->q.ky n=true->A.units+n < cLine->HR s.heap p v->HR s.heap q u->RcAt A s v u (decide (p=q)):=by
 intro n
 induction n with
 | zero=>
  intro A s p q v u hp hq hu r r';cases p with
  | int i=>
   obtain ⟨t,rfl⟩:=r;cases q with
   | int j=>obtain ⟨t',rfl⟩:=r'; have:=RcAt.int_int (A:=A) (s:=s) i t j t'; rwa [show decide (PV.int i=PV.int j)=(i == j) by simp [mx]]
   | str j=>obtain ⟨t',rfl⟩:=r'; exact RcAt.int_str i t j t'
   | _=>cases hq
  | str i=>
   obtain ⟨t,rfl⟩:=r;cases q with
   | int j=>obtain ⟨t',rfl⟩:=r'; exact RcAt.str_int i t j t'
   | str j=>obtain ⟨t',rfl⟩:=r'; have:=RcAt.str_str (A:=A) (s:=s) i t j t'; rwa [show decide (PV.str i=PV.str j)=(i == j) by simp [mx]]
   | _=>cases hq
  | _=>cases hp
 | succ n ih=>
  intro A s p q v u hp hq hu r r';cases p with
  | int i=>
   obtain ⟨t,rfl⟩:=r;cases q with
   | int j=>obtain ⟨t',rfl⟩:=r'; have:=RcAt.int_int (A:=A) (s:=s) i t j t'; rwa [show decide (PV.int i=PV.int j)=(i == j) by simp [mx]]
   | str j=>obtain ⟨t',rfl⟩:=r'; exact RcAt.int_str i t j t'
   | tup js=>obtain ⟨b,its,rfl,p',_⟩:=r'; exact RcAt.int_tuple i t p' (by omega)
   | _=>cases hq
  | str i=>
   obtain ⟨t,rfl⟩:=r;cases q with
   | int j=>obtain ⟨t',rfl⟩:=r'; exact RcAt.str_int i t j t'
   | str j=>obtain ⟨t',rfl⟩:=r'; have:=RcAt.str_str (A:=A) (s:=s) i t j t'; rwa [show decide (PV.str i=PV.str j)=(i == j) by simp [mx]]
   | tup js=>obtain ⟨b,its,rfl,p',_⟩:=r'; exact RcAt.str_tuple i t p' (by omega)
   | _=>cases hq
  | tup ps=>
   obtain ⟨a,its,rfl,ta,rs⟩:=r;cases q with
   | int j=>obtain ⟨t',rfl⟩:=r'; exact RcAt.tuple_int j t' ta (by omega)
   | str j=>obtain ⟨t',rfl⟩:=r'; exact RcAt.tuple_str j t' ta (by omega)
   | tup qs=>
    obtain ⟨b,its',rfl,tb,rs'⟩:=r';have kp:∀ z∈ps,z.ky n=true:=cy.mp hp;have kq:∀ z∈qs,z.ky n=true:=cy.mp hq;have l1:=rs.length;have l2:=rs'.length;have key:=RcAt.tuples (A:=A) (e:=fun j=>match ps[j]?,qs[j]? with | some x,some y=>decide (x=y) | _,_=>false) ta tb (by omega) (fun j h1 h2=>by
     have h1':j < ps.length:=by simp at h1; omega
     have h2':j < qs.length:=by simp at h2; omega
     have g1:ps[j]?=some ps[j]:=by simp [h1']
     have g2:qs[j]?=some qs[j]:=by simp [h2']
     obtain ⟨xu,hxu,hru⟩:=rs.at g1;obtain ⟨yu,hyu,hru'⟩:=rs'.at g2;have e1:its.toArray[j]=xu:=by simpa using (ae.mp hxu).2
     have e2:its'.toArray[j]=yu:=by simpa using (ae.mp hyu).2
     rw [e1,e2];simp only [g1,g2];refine iF (ih (kp _ (cv h1')) (kq _ (cv h2')) (show A.units+1+n < cLine by omega) hru hru') (fun ev=>?_) (fun f t e=>?_)
     ·subst ev;rw [HR.one hru hru'];exact decide_eq_true rfl
     ·subst e;generalize ps[j]=z at hru;cases z with
      | int i=>obtain ⟨_,e⟩:=hru; cases e
      | str i=>obtain ⟨_,e⟩:=hru; cases e
      | tup i=>obtain ⟨_,_,e,_⟩:=hru; cases e
      | _=>exact hru.elim)
    have sz:((d6 (min its.toArray.size its'.toArray.size)).all (fun j=>match ps[j]?,qs[j]? with | some x,some y=>decide (x=y) | _,_=>false) && its.toArray.size == its'.toArray.size)=decide (PV.tup ps=PV.tup qs):=by
     have a1:its.toArray.size=ps.length:=by simp; omega
     have a2:its'.toArray.size=qs.length:=by simp; omega
     rw [a1,a2,d3];simp only [dw,cy,List.mem_range,beq_iff_eq,decide_eq_true_eq,PV.tup.injEq];constructor
     ·rintro ⟨hall,hlen⟩;apply List.ext_getElem hlen;intro i hi hi';have:=hall i (by omega);simpa [hi,hi'] using this
     ·rintro rfl;refine ⟨fun x hx=>?_,rfl⟩;have:x < ps.length:=by omega
      simp [this]
    rw [<- sz];exact key
   | _=>cases hq
  | _=>cases hp
theorem HR.noflt {h:Heap} {p:PV} {v:Value} (r:HR h p v):∀ f t,v≠.float f t:=fun f t e=>by
 subst e;cases p with
 | int i=>obtain ⟨_,e⟩:=r; cases e
 | str i=>obtain ⟨_,e⟩:=r; cases e
 | tup i=>obtain ⟨_,_,e,_⟩:=r; cases e
 | _=>exact r.elim
theorem CO {n:Nat} {A:Around} {s:Shared} {p q:PV} {v u:Value} (hp:p.ky n=true) (hq:q.ky n=true) (hu:A.units+n < cLine) (r:HR s.heap p v) (r':HR s.heap q u):EqAt A s v u (decide (p=q)):=
 iF (O1 n hp hq hu r r') (fun ev=>by subst ev; rw [HR.one r r']; exact decide_eq_true rfl) r.noflt
theorem Fu:∀ (n m:Nat) {A:Around} {E:Value->Shared->Prop} {s:Shared} {p:PV} {v:Value} {Q:Bool->Shared->Prop},p.ky n=true->n<=m->HR s.heap p v->Q true s->wpAny (model prog w) A (eqIsQuiet m v) Q E s:=by
 intro n
 induction n with
 | zero=>
  intro m A E s p v Q hk hm r h;cases p with
  | int i=>obtain ⟨t,rfl⟩:=r; rw [eqIsQuiet_byValue _ rfl]; exact af h
  | str i=>obtain ⟨t,rfl⟩:=r; rw [eqIsQuiet_byValue _ rfl]; exact af h
  | _=>cases hk
 | succ n ih=>
  intro m A E s p v Q hk hm r h;cases p with
  | int i=>obtain ⟨t,rfl⟩:=r; rw [eqIsQuiet_byValue _ rfl]; exact af h
  | str i=>obtain ⟨t,rfl⟩:=r; rw [eqIsQuiet_byValue _ rfl]; exact af h
  | tup ps=>
   obtain ⟨a,its,rfl,⟨o,ho,hc,m',hd⟩,rs⟩:=r;have hk':∀ q∈ps,q.ky n=true:=cy.mp hk;have hT:s.TypeIs (.ref a) "tuple" := ⟨o,ho,hc⟩;obtain ⟨m,rfl⟩:∃ j,m=j+1:=⟨m - 1,by omega⟩;unfold eqIsQuiet;refine aa (wpAny_specialOf hT F.slot_tuple_eq.lookup (show wpAny _ _ (isInstance (.ref a) (.type "tuple") >>= _) _ _ s from ?_))
   refine aa (wpAny_isInstance hT isSubtype_tuple_tuple ?_); simp only [Bool.not_true,d9,if_false];refine aa (jf ho hd (aa (show wpAny _ _ (forIn its.toArray _ _) _ _ s from ?_))); rw [<- Array.forIn_toList]
   refine wpAny_forIn_list _ (fun rest r s'=>r.1=none/\s'=s/\∃ left,HRs s.heap left rest/\∀ q∈left,q.ky n=true) _ ?_ ?_ _ _ ⟨rfl,rfl,ps,rs,hk'⟩
   ·rintro v rest r s' ⟨hr,rfl,left,rl,kl⟩;cases left with
    | nil=>exact rl.elim
    | cons q left=>
     refine aa (ih m (kl q bg) (by omega) rl.1 ?_); simp only [Bool.not_true,d9,if_false];exact af ⟨rfl,rfl,left,rl.2,fun z hz=>kl z (ao _ hz)⟩
   ·rintro ⟨r1,r2⟩ s' ⟨hr,rfl,_⟩; simp only at hr; subst hr;exact af h
  | _=>cases hk
def qC (prog:Program) (w:World):HeapKind prog w PV where
 is:=fun h p a=>p.ky 6=true/\HR h p (.ref a)
 hash:=hsh w
 draws:=drw
 room:=fun A=>A.units+6 < cLine
 inj:=fun x y=>HR.one x.2 y.2
 keeps:=fun x ho hd hs=>⟨x.1,HR.keep (fun a it p=>CN p ho hd hs) x.2⟩
 pyHash:=fun hu x h=>GZ 6 x.1 hu x.2 h
 eqBool:=fun hu x y h=>CO x.1 y.1 hu x.2 y.2 _ _ _ _ h
 quiet:=fun x h=>Fu 6 8 x.1 (by omega) x.2 h
end
def dDO (w:World) (a:Addr) (ks:List (PV×Addr×V)):HO:=.ext fun h=>ks.length<=az/\(a == jg)=false/\∃ xs:List (PV×Addr×Value),
 Paired (fun (p:PV×Addr×V) (q:PV×Addr×Value)=>p.1=q.1/\p.2.1=q.2.1/\RelV p.2.2 q.2.2) ks xs/\
 ∃ o es ep,h.get? a=some o/\o.ExactDict/\o.data=.dict es ep/\es.toList=xs.map (fun x=>(⟨hsh w x.1,.ref x.2.1,x.2.2⟩:k9))/\(xs.map (·.1)).Nodup
def Ha (kd:Nat) (v d:Addr):HO:=.ext fun h=>match kd with
 | 0=>h.IsItemsView v d
 | 1=>h.IsValuesView v d
 | _=>∃ o,h.get? v=some o/\o.cls=.type "dict_keys" /\ o.data=.fields #[.ref d]
end L2
namespace L2
open PySem PySem.Spec PyProof.Rows
inductive MO where
 | lst (xs:List PV)
 | dK (kvs:List (Key×PV))
 | ins (C:Str) (fs:List (Str×PV))
 | dD (kvs:List (PV×PV))
 | vw (kd d:Nat)
 | fz (o:MO)
abbrev PH:=List MO
abbrev Ev:=List (Option PV)
structure PX where
 cls:Str
 fs:List (Str×PV)
inductive Rs (α:Type) where
 | ok (a:α) (h:PH)
 | exc (x:PX) (h:PH)
 | bad
inductive Fl where
 | nx (δ:Ev) (h:PH)
 | rt (p:PV) (h:PH)
 | bk (δ:Ev) (h:PH)
 | ct (δ:Ev) (h:PH)
 | exc (x:PX) (h:PH)
 | bad
abbrev Me:=Ev->PH->Rs PV
abbrev Ms:=Ev->PH->Fl
abbrev Fn:=List PV->PH->Rs PV
def Rs.bind {α β:Type} (r:Rs α) (f:α->PH->Rs β):Rs β:=match r with
 | .ok a h=>f a h
 | .exc x h=>.exc x h
 | .bad=>.bad
@[simp] theorem Rs.bind_ok {α β:Type} (a:α) (h:PH) (f:α->PH->Rs β):(Rs.ok a h).bind f=f a h:=rfl
@[simp] theorem Rs.bind_exc {α β:Type} (x:PX) (h:PH) (f:α->PH->Rs β):(Rs.exc x h:Rs α).bind f=.exc x h:=rfl
@[simp] theorem Rs.bind_bad {α β:Type} (f:α->PH->Rs β):(Rs.bad:Rs α).bind f=.bad:=rfl
structure MC where
 K:ag
 cl:Str->Option Addr
 bs:List Str
 ex:List Addr->Hp->PX->Prop
 w:World
def SqF (K:ag) (H:Hp) (a:Addr) (xs:List V):Prop:=
 (∃ o,H a=some (.frz o (.lst xs)))\/
  ∃ (o:Obj) (its:Array Value) (n:Nat),K.lookup a=some o/\o.cls=.type "list" /\ o.dict=none/\o.data=.seq its n/\its.size<=az/\aL xs its.toList
theorem SqF.sq {K:ag} {H:Hp} {a:Addr} {xs:List V} (h:SqF K H a xs):SqL K H a xs:=by
 rcases h with ⟨o,h⟩ | h
 ·exact .inl (.inr ⟨o,h⟩)
 ·exact .inr h
def Kp (H H':Hp):Prop:=iE H H'/\∀ a o u,H a=some (.frz o u)->H' a=some (.frz o u)
theorem Kp.refl (H:Hp):Kp H H:=⟨iE.refl H,fun _ _ _ h=>h⟩
theorem Kp.trans {H H1 H2:Hp} (a:Kp H H1) (b:Kp H1 H2):Kp H H2:=⟨a.1.trans b.1,fun c o u h=>b.2 c o u (a.2 c o u h)⟩
theorem Kp.same {H H':Hp} (s:uY H H'):Kp H H':=⟨iE.same s,fun _ _ _ h=>s _ _ h⟩
theorem Kp.new {H:Hp} {a:Addr} {o:HO} (h:H a=none):Kp H (upd H a o):=Kp.same (uY.upd h)
theorem Kp.upd {H:Hp} {p:Addr} {o:HO} (h:AN (H p)):Kp H (upd H p o):=⟨iE.upd h,fun a ob u q=>by
 have ne:a≠p:=by
  rintro rfl;rw [q] at h; exact h
 rw [aN ne]; exact q⟩
theorem Kp.lst {H:Hp} {p:Addr} {o:HO} {xs:List V} (h:H p=some (.lst xs)):Kp H (L2.upd H p o):=Kp.upd (by rw [h]; trivial)
theorem Kp.dK {H:Hp} {p:Addr} {o:HO} {xs:List (Key×V)} (h:H p=some (.dK xs)):Kp H (L2.upd H p o):=Kp.upd (by rw [h]; trivial)
theorem Kp.sq {K:ag} {H H':Hp} {a:Addr} {xs:List V} (t:Kp H H') (h:SqT K H a xs):SqT K H' a xs:=t.1.sq h
theorem Kp.sf {K:ag} {H H':Hp} {a:Addr} {xs:List V} (t:Kp H H') (h:SqF K H a xs):SqF K H' a xs:=by
 rcases h with ⟨o,h⟩ | h
 ·exact .inl ⟨o,t.2 _ _ _ h⟩
 ·exact .inr h
section
variable (C:MC) (φ:List Addr) (H:Hp)
mutual
def RV:PV->V->Prop
 | .non,v=>v=.non
 | .bl b,v=>v=.bl b
 | .int i,v=>v=.int i
 | .str x,v=>v=.str x
 | .ty n,v=>v=.ty n
 | .tup ps,v=>∃ a vs,v=.ref a/\SqT C.K H a vs/\RVs ps vs
 | .ref n,v=>∃ a,v=.ref a/\φ[n]?=some a
 | .fl ps,v=>∃ a vs,v=.ref a/\SqF C.K H a vs/\RVs ps vs
def RVs:List PV->List V->Prop
 | [],[]=>True
 | p :: ps,v :: vs=>RV p v/\RVs ps vs
 | [],_ :: _=>False
 | _ :: _,[]=>False
end
def RKv {κ:Type}:List (κ×PV)->List (κ×V)->Prop:=Paired fun p q=>p.1=q.1/\RV C φ H p.2 q.2
def RKd:List (PV×PV)->List (PV×Addr×V)->Prop:=Paired fun p q=>p.1=q.1/\p.1.ky 6=true/\RV C φ H p.1 (.ref q.2.1)/\RV C φ H p.2 q.2.2
def RO (a:Addr):MO->Prop
 | .lst ps=>∃ vs,H a=some (.lst vs)/\RVs C φ H ps vs
 | .dK kvs=>∃ ks,H a=some (.dK ks)/\RKv C φ H kvs ks
 | .ins n fs=>∃ c dx ks,C.cl n=some c/\H a=some (.ins c dx ks)/\RKv C φ H fs ks
 | .dD kvs=>∃ ks,H a=some (dDO C.w a ks)/\RKd C φ H kvs ks
 | .vw kd d=>∃ b,φ[d]?=some b/\H a=some (Ha kd a b)
 | .fz (.dK kvs)=>∃ ob ks,H a=some (.frz ob (.dK ks))/\RKv C φ H kvs ks
 | .fz (.dD kvs)=>∃ ob ks,H a=some (.frz ob (dDO C.w a ks))/\RKd C φ H kvs ks
 | .fz _=>False
structure RH (h:PH):Prop where
 len:φ.length=h.length
 nd:φ.Nodup
 at':∀ (n:Nat) (a:Addr) (o:MO),φ[n]?=some a->h[n]?=some o->RO C φ H a o
def RE (δ:Ev) (σ:St):Prop:=δ.length=σ.length/\∀ (i:Nat) (p:PV),δ[i]?=some (some p)->∃ v,σ[i]?=some (some v)/\RV C φ H p v
end
section
variable {C:MC} {φ φ':List Addr} {H H':Hp}
theorem fZ {α:Type} {l l':List α} (p:l<+:l') {n:Nat} {a:α} (h:l[n]?=some a):l'[n]?=some a:=by
 obtain ⟨t,rfl⟩:=p;have:=(ae.mp h).1;rw [bp this];exact h
def Kq (H H':Hp):Prop:=iE H H'/\∀ a o xs,H a=some (.frz o (.lst xs))->H' a=some (.frz o (.lst xs))
theorem Kp.q (t:Kp H H'):Kq H H':=⟨t.1,fun a o xs h=>t.2 a o _ h⟩
theorem Kq.sq {K:ag} {a:Addr} {xs:List V} (t:Kq H H') (h:SqT K H a xs):SqT K H' a xs:=t.1.sq h
theorem Kq.sf {K:ag} {a:Addr} {xs:List V} (t:Kq H H') (h:SqF K H a xs):SqF K H' a xs:=by
 rcases h with ⟨o,h⟩ | h
 ·exact .inl ⟨o,t.2 _ _ _ h⟩
 ·exact .inr h
mutual
theorem RV.monoQ (p:φ<+:φ') (t:Kq H H'):∀ {x:PV} {v:V},RV C φ H x v->RV C φ' H' x v
 | .non,_,h=>h
 | .bl _,_,h=>h
 | .int _,_,h=>h
 | .str _,_,h=>h
 | .ty _,_,h=>h
 | .tup _,_,⟨a,vs,e,q,r⟩=>⟨a,vs,e,t.sq q,RVs.monoQ p t r⟩
 | .ref _,_,⟨a,e,q⟩=>⟨a,e,fZ p q⟩
 | .fl _,_,⟨a,vs,e,q,r⟩=>⟨a,vs,e,t.sf q,RVs.monoQ p t r⟩
theorem RVs.monoQ (p:φ<+:φ') (t:Kq H H'):∀ {xs:List PV} {vs:List V},RVs C φ H xs vs->RVs C φ' H' xs vs
 | [],[],_=>trivial
 | _ :: _,_ :: _,⟨h,r⟩=>⟨RV.monoQ p t h,RVs.monoQ p t r⟩
 | [],_ :: _,h=>h.elim
 | _ :: _,[],h=>h.elim
end
theorem RV.mono (p:φ<+:φ') (t:Kp H H') {x:PV} {v:V} (h:RV C φ H x v):RV C φ' H' x v:=RV.monoQ p t.q h
theorem RVs.mono (p:φ<+:φ') (t:Kp H H') {xs:List PV} {vs:List V} (h:RVs C φ H xs vs):RVs C φ' H' xs vs:=RVs.monoQ p t.q h
theorem RVs.length:∀ {xs:List PV} {vs:List V},RVs C φ H xs vs->xs.length=vs.length
 | [],[],_=>rfl
 | _ :: _,_ :: _,⟨_,r⟩=>by simp [RVs.length r]
 | [],_ :: _,h=>h.elim
 | _ :: _,[],h=>h.elim
theorem RVs.get:∀ {xs:List PV} {vs:List V} {i:Nat} {v:V},RVs C φ H xs vs->vs[i]?=some v->∃ x,xs[i]?=some x/\RV C φ H x v
 | [],[],_,_,_,e=>by simp at e
 | x :: _,w :: _,0,v,⟨h,_⟩,e=>by
  have:w=v:=by simpa using e
  subst this;exact ⟨x,rfl,h⟩
 | _ :: xs,_ :: vs,i+1,v,⟨_,r⟩,e=>by
  obtain ⟨x,h1,h2⟩:=RVs.get (xs:=xs) (vs:=vs) (i:=i) (v:=v) r (by simpa using e)
  exact ⟨x,by simpa using h1,h2⟩
 | [],_ :: _,_,_,h,_=>h.elim
 | _ :: _,[],_,_,h,_=>h.elim
theorem RVs.at:∀ {xs:List PV} {vs:List V} {i:Nat} {x:PV},RVs C φ H xs vs->xs[i]?=some x->∃ v,vs[i]?=some v/\RV C φ H x v
 | [],[],_,_,_,e=>by simp at e
 | x :: _,w :: _,0,x',⟨h,_⟩,e=>by
  have:x=x':=by simpa using e
  subst this;exact ⟨w,rfl,h⟩
 | _ :: xs,_ :: vs,i+1,x,⟨_,r⟩,e=>by
  obtain ⟨v,h1,h2⟩:=RVs.at (xs:=xs) (vs:=vs) (i:=i) (x:=x) r (by simpa using e)
  exact ⟨v,by simpa using h1,h2⟩
 | [],_ :: _,_,_,h,_=>h.elim
 | _ :: _,[],_,_,h,_=>h.elim
theorem RVs.append:∀ {xs ys:List PV} {vs us:List V},RVs C φ H xs vs->RVs C φ H ys us->RVs C φ H (xs++ys) (vs++us)
 | [],_,[],_,_,h=>h
 | _ :: _,_,_ :: _,_,⟨h,r⟩,h'=>⟨h,RVs.append r h'⟩
 | [],_,_ :: _,_,h,_=>h.elim
 | _ :: _,_,[],_,h,_=>h.elim
theorem RVs.snoc {xs:List PV} {vs:List V} {x:PV} {v:V} (r:RVs C φ H xs vs) (h:RV C φ H x v):RVs C φ H (xs++[x]) (vs++[v]):=r.append ⟨h,trivial⟩
theorem RVs.drop:∀ {xs:List PV} {vs:List V} (n:Nat),RVs C φ H xs vs->RVs C φ H (xs.drop n) (vs.drop n)
 | _,_,0,h=>h
 | [],[],_+1,_=>trivial
 | _ :: _,_ :: _,n+1,⟨_,r⟩=>RVs.drop n r
 | [],_ :: _,_+1,h=>h.elim
 | _ :: _,[],_+1,h=>h.elim
theorem RVs.take:∀ {xs:List PV} {vs:List V} (n:Nat),RVs C φ H xs vs->RVs C φ H (xs.take n) (vs.take n)
 | [],[],0,_=>trivial
 | _ :: _,_ :: _,0,_=>trivial
 | [],[],_+1,_=>trivial
 | _ :: _,_ :: _,n+1,⟨h,r⟩=>⟨h,RVs.take n r⟩
 | [],_ :: _,_,h=>h.elim
 | _ :: _,[],_,h=>h.elim
theorem RVs.set {x:PV} {v:V} (h:RV C φ H x v):∀ {xs:List PV} {vs:List V} (n:Nat),RVs C φ H xs vs->RVs C φ H (xs.set n x) (vs.set n v)
 | [],[],_,_=>trivial
 | _ :: _,_ :: _,0,⟨_,r⟩=>⟨h,r⟩
 | _ :: _,_ :: _,n+1,⟨q,r⟩=>⟨q,RVs.set h n r⟩
 | [],_ :: _,_,h=>h.elim
 | _ :: _,[],_,h=>h.elim
theorem RKv.monoQ {κ:Type} (p:φ<+:φ') (t:Kq H H') {x:List (κ×PV)} {v:List (κ×V)} (h:RKv C φ H x v):RKv C φ' H' x v:=Paired.mapP h fun _ _ q=>⟨q.1,q.2.monoQ p t⟩
theorem RKd.monoQ (p:φ<+:φ') (t:Kq H H') {x:List (PV×PV)} {v:List (PV×Addr×V)} (h:RKd C φ H x v):RKd C φ' H' x v:=Paired.mapP h fun _ _ q=>⟨q.1,q.2.1,q.2.2.1.monoQ p t,q.2.2.2.monoQ p t⟩
theorem RKv.mono {κ:Type} (p:φ<+:φ') (t:Kp H H') {x:List (κ×PV)} {v:List (κ×V)} (h:RKv C φ H x v):RKv C φ' H' x v:=Paired.mapP h fun _ _ q=>⟨q.1,q.2.mono p t⟩
theorem RKd.mono (p:φ<+:φ') (t:Kp H H') {x:List (PV×PV)} {v:List (PV×Addr×V)} (h:RKd C φ H x v):RKd C φ' H' x v:=Paired.mapP h fun _ _ q=>⟨q.1,q.2.1,q.2.2.1.mono p t,q.2.2.2.mono p t⟩
theorem RE.mono (p:φ<+:φ') (t:Kp H H') {δ:Ev} {σ:St} (h:RE C φ H δ σ):RE C φ' H' δ σ:=⟨h.1,fun i x e=>let ⟨v,q,r⟩:=h.2 i x e; ⟨v,q,r.mono p t⟩⟩
theorem RE.set {δ:Ev} {σ:St} {x:PV} {v:V} (h:RE C φ H δ σ) (r:RV C φ H x v) (i:Nat):RE C φ H (δ.set i (some x)) (σ.set i (some v)):=by
 refine ⟨by rw [nk,nk]; exact h.1,fun j p e=>?_⟩
 by_cases hj:i=j
 ·subst hj
  by_cases hl:i < δ.length
  ·rw [ir hl] at e;cases e
   exact ⟨v,by rw [ir (by rw [<- h.1]; exact hl)],r⟩
  ·rw [ik (by rw [nk]; omega)] at e;cases e
 ·rw [fe hj] at e;rw [fe hj];exact h.2 j p e
theorem RO.stayQ {a:Addr} {o:MO} (p:φ<+:φ') (t:Kq H H') (e:H' a=H a) (h:RO C φ H a o):RO C φ' H' a o:=by
 cases o with
 | lst ps=>obtain ⟨vs,q,r⟩:=h; exact ⟨vs,e.trans q,r.monoQ p t⟩
 | dK ps=>obtain ⟨vs,q,r⟩:=h; exact ⟨vs,e.trans q,r.monoQ p t⟩
 | ins n fs=>obtain ⟨c,dx,ks,hc,q,r⟩:=h; exact ⟨c,dx,ks,hc,e.trans q,r.monoQ p t⟩
 | dD kvs=>obtain ⟨ks,q,r⟩:=h; exact ⟨ks,e.trans q,r.monoQ p t⟩
 | vw kd d=>obtain ⟨b,hb,q⟩:=h; exact ⟨b,fZ p hb,e.trans q⟩
 | fz o=>
  cases o with
  | dK kvs=>obtain ⟨ob,ks,q,r⟩:=h; exact ⟨ob,ks,e.trans q,r.monoQ p t⟩
  | dD kvs=>obtain ⟨ob,ks,q,r⟩:=h; exact ⟨ob,ks,e.trans q,r.monoQ p t⟩
  | _=>exact h.elim
theorem RO.stay {a:Addr} {o:MO} (p:φ<+:φ') (t:Kp H H') (e:H' a=H a) (h:RO C φ H a o):RO C φ' H' a o:=h.stayQ p t.q e
theorem RO.some {a:Addr} {o:MO} (h:RO C φ H a o):∃ u,H a=some u:=by
 cases o with
 | lst ps=>obtain ⟨vs,q,r⟩:=h; exact ⟨_,q⟩
 | dK ps=>obtain ⟨vs,q,r⟩:=h; exact ⟨_,q⟩
 | ins n fs=>obtain ⟨c,dx,ks,hc,q,r⟩:=h; exact ⟨_,q⟩
 | dD kvs=>obtain ⟨ks,q,r⟩:=h; exact ⟨_,q⟩
 | vw kd d=>obtain ⟨b,hb,q⟩:=h; exact ⟨_,q⟩
 | fz o=>
  cases o with
  | dK kvs=>obtain ⟨ob,ks,q,r⟩:=h; exact ⟨_,q⟩
  | dD kvs=>obtain ⟨ob,ks,q,r⟩:=h; exact ⟨_,q⟩
  | _=>exact h.elim
theorem RH.get {h:PH} (r:RH C φ H h) {n:Nat} {o:MO} (e:h[n]?=some o):∃ a,φ[n]?=some a/\RO C φ H a o:=by
 have hn:=(ae.mp e).1;have:n < φ.length:=by rw [r.len]; exact hn
 exact ⟨φ[n],by simp [this],r.at' n _ o (by simp [this]) e⟩
theorem RH.tracked {h:PH} (r:RH C φ H h) {n:Nat} {a:Addr} (e:φ[n]?=some a):∃ u,H a=some u:=by
 have hn:=(ae.mp e).1;have:n < h.length:=by rw [<- r.len]; exact hn
 exact (r.at' n a h[n] e (by simp [this])).some
theorem RH.aside {h:PH} (r:RH C φ H h) {a:Addr} {o:HO} (e:H a=none):RH C φ (upd H a o) h:=
 ⟨r.len,r.nd,fun n b ob h1 h2=>by
  have q:=r.at' n b ob h1 h2;obtain ⟨u,hu⟩:=q.some;exact q.stay (av) (Kp.new e) (aN (cH hu e))⟩
theorem RH.new {h:PH} (r:RH C φ H h) {a:Addr} {u:HO} {o:MO} (e:H a=none) (q:RO C (φ++[a]) (upd H a u) a o):RH C (φ++[a]) (upd H a u) (h++[o]):=by
 refine ⟨by simp [r.len],?_,fun n b ob h1 h2=>?_⟩
 ·rw [fq];refine ⟨r.nd,by simp,fun x hx y hy z=>?_⟩;rw [dm] at hy;subst hy z;obtain ⟨n,hn⟩:=j0.mp hx;obtain ⟨u',hu⟩:=r.tracked hn;rw [e] at hu; cases hu
 ·by_cases hn:n < φ.length
  ·rw [bp hn] at h1;rw [bp (by rw [<- r.len]; exact hn)] at h2;have q':=r.at' n b ob h1 h2;obtain ⟨u',hu⟩:=q'.some;exact q'.stay (dn _ _) (Kp.new e) (aN (cH hu e))
  ·have hn':n=φ.length:=by
    have:=(ae.mp h1).1;simp at this;omega
   subst hn';rw [aq (bj _),Nat.sub_self] at h1;rw [r.len,aq (bj _),Nat.sub_self] at h2;cases h1
   cases h2
   exact q
theorem RH.write {h:PH} (r:RH C φ H h) {n:Nat} {a:Addr} {u:HO} {o:MO} (e:φ[n]?=some a) (t:AN (H a)) (q:RO C φ (upd H a u) a o):RH C φ (upd H a u) (h.set n o):=by
 refine ⟨by rw [nk]; exact r.len,r.nd,fun m b ob h1 h2=>?_⟩
 by_cases hm:n=m
 ·subst hm;rw [e] at h1; cases h1;have hl:n < h.length:=by rw [<- r.len]; exact (ae.mp e).1
  rw [ir hl] at h2;cases h2
  exact q
 ·rw [fe hm] at h2;have hb:b≠a:=fun z=>by
   subst z;exact hm ((List.getElem?_inj (ae.mp e).1 r.nd).mp (e.trans h1.symm))
  exact (r.at' m b ob h1 h2).stay av (Kp.upd t) (aN hb)
end
section
variable (C:MC) (φ:List Addr) (H:Hp)
def post (r:Rs PV) (Q:VK):Prop:=match r with
 | .ok p h=>∀ φ' v H',φ<+:φ'->Kp H H'->RH C φ' H' h->RV C φ' H' p v->Q v H'
 | .exc x h=>∀ φ' H',φ<+:φ'->Kp H H'->RH C φ' H' h->C.ex φ' H' x
 | .bad=>False
def bN (r:Rs Bool) (Q:Bool->Hp->Prop):Prop:=match r with
 | .ok b h=>∀ φ' H',φ<+:φ'->Kp H H'->RH C φ' H' h->Q b H'
 | .exc x h=>∀ φ' H',φ<+:φ'->Kp H H'->RH C φ' H' h->C.ex φ' H' x
 | .bad=>False
def postA (r:Rs (List PV)) (Q:List V->Hp->Prop):Prop:=match r with
 | .ok ps h=>∀ φ' vs H',φ<+:φ'->Kp H H'->RH C φ' H' h->RVs C φ' H' ps vs->Q vs H'
 | .exc x h=>∀ φ' H',φ<+:φ'->Kp H H'->RH C φ' H' h->C.ex φ' H' x
 | .bad=>False
def bO (r:Fl) (D:Ends):Prop:=match r with
 | .nx δ h=>∀ φ' σ H',φ<+:φ'->Kp H H'->RH C φ' H' h->RE C φ' H' δ σ->D.nx σ H'
 | .rt p h=>∀ φ' v H',φ<+:φ'->Kp H H'->RH C φ' H' h->RV C φ' H' p v->D.rt v H'
 | .bk δ h=>∀ φ' σ H',φ<+:φ'->Kp H H'->RH C φ' H' h->RE C φ' H' δ σ->D.bk σ H'
 | .ct δ h=>∀ φ' σ H',φ<+:φ'->Kp H H'->RH C φ' H' h->RE C φ' H' δ σ->D.ct σ H'
 | .exc x h=>∀ φ' H',φ<+:φ'->Kp H H'->RH C φ' H' h->C.ex φ' H' x
 | .bad=>False
end
section
variable {C:MC} {φ φ1:List Addr} {H H1:Hp}
theorem post.weak {r:Rs PV} {Q:VK} (p:φ<+:φ1) (t:Kp H H1) (h:post C φ H r Q):post C φ1 H1 r Q:=by
 cases r with
 | ok a h'=>exact fun φ' v H' p' t'=>h φ' v H' (p.trans p') (t.trans t')
 | exc a h'=>exact fun φ' H' p' t'=>h φ' H' (p.trans p') (t.trans t')
 | bad=>exact h
theorem bN.weak {r:Rs Bool} {Q:Bool->Hp->Prop} (p:φ<+:φ1) (t:Kp H H1) (h:bN C φ H r Q):bN C φ1 H1 r Q:=by
 cases r with
 | ok a h'=>exact fun φ' H' p' t'=>h φ' H' (p.trans p') (t.trans t')
 | exc a h'=>exact fun φ' H' p' t'=>h φ' H' (p.trans p') (t.trans t')
 | bad=>exact h
theorem postA.weak {r:Rs (List PV)} {Q:List V->Hp->Prop} (p:φ<+:φ1) (t:Kp H H1) (h:postA C φ H r Q):postA C φ1 H1 r Q:=by
 cases r with
 | ok a h'=>exact fun φ' v H' p' t'=>h φ' v H' (p.trans p') (t.trans t')
 | exc a h'=>exact fun φ' H' p' t'=>h φ' H' (p.trans p') (t.trans t')
 | bad=>exact h
theorem bO.weak {r:Fl} {D:Ends} (p:φ<+:φ1) (t:Kp H H1) (h:bO C φ H r D):bO C φ1 H1 r D:=by
 cases r with
 | nx a h'=>exact fun φ' v H' p' t'=>h φ' v H' (p.trans p') (t.trans t')
 | rt a h'=>exact fun φ' v H' p' t'=>h φ' v H' (p.trans p') (t.trans t')
 | bk a h'=>exact fun φ' v H' p' t'=>h φ' v H' (p.trans p') (t.trans t')
 | ct a h'=>exact fun φ' v H' p' t'=>h φ' v H' (p.trans p') (t.trans t')
 | exc a h'=>exact fun φ' H' p' t'=>h φ' H' (p.trans p') (t.trans t')
 | bad=>exact h
theorem post.imp {r:Rs PV} {Q Q':VK} (h:post C φ H r Q) (i:∀ v H',Q v H'->Q' v H'):post C φ H r Q':=by
 cases r with
 | ok a h'=>exact fun φ' v H' p t rh rv=>i v H' (h φ' v H' p t rh rv)
 | exc a h'=>exact h
 | bad=>exact h
theorem post.bind {r:Rs PV} {f:PV->PH->Rs PV} {Q:VK} (h:post C φ H (r.bind f) Q):post C φ H r fun v H1=>∃ φ1 p h1,φ<+:φ1/\Kp H H1/\RH C φ1 H1 h1/\RV C φ1 H1 p v/\post C φ1 H1 (f p h1) Q:=by
 cases r with
 | ok a h'=>exact fun φ' v H' p t rh rv=>⟨φ',a,h',p,t,rh,rv,post.weak p t h⟩
 | exc a h'=>exact h
 | bad=>exact h
theorem post.bindB {r:Rs PV} {f:PV->PH->Rs Bool} {Q:Bool->Hp->Prop} (h:bN C φ H (r.bind f) Q):post C φ H r fun v H1=>∃ φ1 p h1,φ<+:φ1/\Kp H H1/\RH C φ1 H1 h1/\RV C φ1 H1 p v/\bN C φ1 H1 (f p h1) Q:=by
 cases r with
 | ok a h'=>exact fun φ' v H' p t rh rv=>⟨φ',a,h',p,t,rh,rv,bN.weak p t h⟩
 | exc a h'=>exact h
 | bad=>exact h
theorem bN.bind {r:Rs Bool} {f:Bool->PH->Rs PV} {Q:VK} (h:post C φ H (r.bind f) Q):bN C φ H r fun b H1=>∃ φ1 h1,φ<+:φ1/\Kp H H1/\RH C φ1 H1 h1/\post C φ1 H1 (f b h1) Q:=by
 cases r with
 | ok a h'=>exact fun φ' H' p t rh=>⟨φ',h',p,t,rh,post.weak p t h⟩
 | exc a h'=>exact h
 | bad=>exact h
theorem bN.bindB {r:Rs Bool} {f:Bool->PH->Rs Bool} {Q:Bool->Hp->Prop} (h:bN C φ H (r.bind f) Q):bN C φ H r fun b H1=>∃ φ1 h1,φ<+:φ1/\Kp H H1/\RH C φ1 H1 h1/\bN C φ1 H1 (f b h1) Q:=by
 cases r with
 | ok a h'=>exact fun φ' H' p t rh=>⟨φ',h',p,t,rh,bN.weak p t h⟩
 | exc a h'=>exact h
 | bad=>exact h
theorem postA.bind {r:Rs (List PV)} {f:List PV->PH->Rs PV} {Q:VK} (h:post C φ H (r.bind f) Q):postA C φ H r fun vs H1=>∃ φ1 ps h1,φ<+:φ1/\Kp H H1/\RH C φ1 H1 h1/\RVs C φ1 H1 ps vs/\post C φ1 H1 (f ps h1) Q:=by
 cases r with
 | ok a h'=>exact fun φ' v H' p t rh rv=>⟨φ',a,h',p,t,rh,rv,post.weak p t h⟩
 | exc a h'=>exact h
 | bad=>exact h
theorem postA.bindA {r:Rs (List PV)} {f:List PV->PH->Rs (List PV)} {Q:List V->Hp->Prop} (h:postA C φ H (r.bind f) Q):postA C φ H r fun vs H1=>∃ φ1 ps h1,φ<+:φ1/\Kp H H1/\RH C φ1 H1 h1/\RVs C φ1 H1 ps vs/\postA C φ1 H1 (f ps h1) Q:=by
 cases r with
 | ok a h'=>exact fun φ' v H' p t rh rv=>⟨φ',a,h',p,t,rh,rv,postA.weak p t h⟩
 | exc a h'=>exact h
 | bad=>exact h
theorem post.bindA {r:Rs PV} {f:PV->PH->Rs (List PV)} {Q:List V->Hp->Prop} (h:postA C φ H (r.bind f) Q):post C φ H r fun v H1=>∃ φ1 p h1,φ<+:φ1/\Kp H H1/\RH C φ1 H1 h1/\RV C φ1 H1 p v/\postA C φ1 H1 (f p h1) Q:=by
 cases r with
 | ok a h'=>exact fun φ' v H' p t rh rv=>⟨φ',a,h',p,t,rh,rv,postA.weak p t h⟩
 | exc a h'=>exact h
 | bad=>exact h
theorem post.val {p:PV} {v:V} {h:PH} {Q:VK} (q:post C φ H (.ok p h) Q) (rh:RH C φ H h) (rv:RV C φ H p v):Q v H:=q φ v H av (Kp.refl H) rh rv
end
end L2
namespace L2
open PySem PySem.Spec PyProof.Rows
structure Cxt (C:MC) (k:Nat) (X:Cx):Prop where
 K:X.K=C.K
 calm:X.calm=true
 room:dS k X.A
 bn:∀ x∈C.bs,X.mg x=none
 w:X.w=C.w
theorem Cxt.hu {C:MC} {k:Nat} {X:Cx} (c:Cxt C k X):X.A.units+1 < cLine:=Qc c.room
theorem Cxt.hu64 {C:MC} {k:Nat} {X:Cx} (c:Cxt C k X):X.A.units+64 < cLine:=c.room.units
theorem Cxt.comp {C:MC} {k:Nat} {X:Cx} (c:Cxt C k X) (sc:Scope) (N:List Str) (a:Addr) (fp:List Addr) (s:Shared) (H:Hp):Cxt C k (X.comp sc N a fp s H):=⟨c.K,c.calm,c.room,c.bn,c.w⟩
section
variable (C:MC)
def rd (m:Me):TE:=fun σ H Q=>∃ φ δ h,RH C φ H h/\RE C φ H δ σ/\post C φ H (m δ h) Q
def rdB (m:Ev->PH->Rs Bool):TT:=fun σ H Q=>∃ φ δ h,RH C φ H h/\RE C φ H δ σ/\bN C φ H (m δ h) Q
def rdA (m:Ev->PH->Rs (List PV)):TA:=fun σ H Q=>∃ φ δ h,RH C φ H h/\RE C φ H δ σ/\postA C φ H (m δ h) Q
def rdS (m:Ms):TS:=fun D σ H=>∃ φ δ h,RH C φ H h/\RE C φ H δ σ/\bO C φ H (m δ h) D
def r2 (g:PV->PV->PH->Rs PV):R2:=fun x y H Q=>∃ φ h p q,RH C φ H h/\RV C φ H p x/\RV C φ H q y/\post C φ H (g p q h) Q
def r1 (g:PV->PH->Rs PV):V->Hp->VK->Prop:=fun x H Q=>∃ φ h p,RH C φ H h/\RV C φ H p x/\post C φ H (g p h) Q
def rL (g:List PV->PH->Rs PV):List V->Hp->VK->Prop:=fun xs H Q=>∃ φ h ps,RH C φ H h/\RVs C φ H ps xs/\post C φ H (g ps h) Q
end
variable {C:MC} {k:Nat} {X:Cx}
def SE (C:MC) (k:Nat) (X:Cx) (e:Expr) (m:Me):Prop:=Cxt C k X->PE X e (rd C m)
def ST (C:MC) (k:Nat) (X:Cx) (e:Expr) (m:Ev->PH->Rs Bool):Prop:=Cxt C k X->PT X e (rdB C m)
def SA (C:MC) (k:Nat) (X:Cx) (es:List Expr) (m:Ev->PH->Rs (List PV)):Prop:=Cxt C k X->PA X es (rdA C m)
def SSt (C:MC) (k:Nat) (X:Cx) (st:Stmt) (m:Ms):Prop:=Cxt C k X->PS X st (rdS C m)
def SSs (C:MC) (k:Nat) (X:Cx) (st:List Stmt) (m:Ms):Prop:=Cxt C k X->PSs X st (rdS C m)
def OpS (C:MC) (k:Nat) (X:Cx) (f:Value->Value->Sem Value) (g:PV->PV->PH->Rs PV):Prop:=Cxt C k X->OpR X f (r2 C g)
def UnS (C:MC) (k:Nat) (X:Cx) (f:Value->Sem Value) (g:PV->PH->Rs PV):Prop:=Cxt C k X->UnR X f (r1 C g)
def sN (C:MC) (k:Nat) (X:Cx) (f:Value) (g:List PV->PH->Rs PV):Prop:=Cxt C k X->dW X f (rL C g)
def nD:Ev->Nat->Option PV
 | [],_=>none
 | x :: _,0=>x
 | _ :: r,n+1=>nD r n
@[simp] theorem Pp (x:Option PV) (r:Ev):nD (x :: r) 0=x:=(rfl)
@[simp] theorem Pq (x:Option PV) (r:Ev) (n:Nat):nD (x :: r) (n+1)=nD r n:=(rfl)
theorem sO:∀ {δ:Ev} {i:Nat} {p:PV},nD δ i=some p->δ[i]?=some (some p)
 | [],_,_,h=>by cases h
 | x :: _,0,p,h=>by
  have h':x=some p:=h;simp [h']
 | _ :: r,n+1,p,h=>by
  rw [d4];exact sO (δ:=r) (i:=n) h
def mV (i:Nat):Me:=fun δ h=>match nD δ i with
 | some p=>.ok p h
 | none=>.bad
def mC (p:PV):Me:=fun _ h=>.ok p h
theorem aB (i:Nat) {x:Str} {pos:Pos} (hN:X.N[i]?=some x:=by rfl) (hv:Vis X.env.scope x:=by first | exact Or.inl rfl | exact Or.inr (Or.inl rfl) | exact Or.inr (Or.inr rfl)) (hd:(x == ("__debug__" : Str))=false:=by decide)
  (hcd:(x == ("__classdict__" : Str))=false:=by decide):SE C k X (.Name x pos) (mV i):=fun _=>by
 refine (Gj hN hv hd hcd).imp fun σ H Q h=>?_;obtain ⟨φ,δ,h,rh,re,p⟩:=h;unfold mV at p;cases e:nD δ i with
 | none=>rw [e] at p; exact p.elim
 | some x=>
  rw [e] at p;obtain ⟨v,hv,rv⟩:=re.2 i x (sO e);exact ⟨v,hv,p.val rh rv⟩
theorem aH {i j pos}:SE C k X (.Constant (.int i) j pos) (mC (.int i)):=fun _=>Na.imp fun σ H Q ⟨φ,δ,h,rh,re,p⟩=>p.val rh rfl
theorem CP {i j pos}:SE C k X (.Constant (.bool i) j pos) (mC (.bl i)):=fun _=>PL.imp fun σ H Q ⟨φ,δ,h,rh,re,p⟩=>p.val rh rfl
theorem MR {j pos}:SE C k X (.Constant .none j pos) (mC .non):=fun _=>Nb.imp fun σ H Q ⟨φ,δ,h,rh,re,p⟩=>p.val rh rfl
theorem sP {i j pos}:SE C k X (.Constant (.str i) j pos) (mC (.str i)):=fun _=>Nc.imp fun σ H Q ⟨φ,δ,h,rh,re,p⟩=>p.val rh rfl
def aD (g:PV->PV->PH->Rs PV) (ma mb:Me):Me:=fun δ h=>(ma δ h).bind fun x h1=>(mb δ h1).bind fun y h2=>g x y h2
theorem Eb {g:PV->PV->PH->Rs PV} {ma mb:Me} {σ:St} {H:Hp} {Q:VK} (h:rd C (aD g ma mb) σ H Q):tOp (r2 C g) (rd C ma) (rd C mb) σ H Q:=by
 obtain ⟨φ,δ,h,rh,re,p⟩:=h;refine ⟨φ,δ,h,rh,re,(post.bind p).imp ?_⟩;rintro v H1 ⟨φ1,x,h1,p1,t1,rh1,rv1,q1⟩;refine ⟨φ1,δ,h1,rh1,re.mono p1 t1,(post.bind q1).imp ?_⟩;rintro u H2 ⟨φ2,y,h2,p2,t2,rh2,rv2,q2⟩;exact ⟨φ2,h2,x,y,rh2,rv1.mono p2 t2,rv2,q2⟩
section
variable {a b e:Expr} {ma mb:Me} {g:PV->PV->PH->Rs PV} {pos:Pos}
theorem aK {op:Operator} (ho:OpS C k X (gm op) g) (ha:SE C k X a ma) (hb:SE C k X b mb):SE C k X (.BinOp a op b pos) (aD g ma mb):=fun c=>
 (PU (ho c) (ha c) (hb c)).imp fun σ H Q h=>Eb h
theorem Qv {op:CmpOp} (ho:OpS C k X (dt op) g) (ha:SE C k X a ma) (hb:SE C k X b mb) (hm:behindInMarks op b=false:=by first | exact Gr _ | rfl):SE C k X (.Compare a [op] [b] pos) (aD g ma mb):=fun c=>
 (Ka (ho c) (ha c) (hb c) hm).imp fun σ H Q h=>Eb h
def mUn (g:PV->PH->Rs PV) (ma:Me):Me:=fun δ h=>(ma δ h).bind g
theorem SJ {op:UnaryOp} {g:PV->PH->Rs PV} (ho:UnS C k X (unaryOp op) g) (ha:SE C k X a ma):SE C k X (.UnaryOp op a pos) (mUn g ma):=fun c=>
 (PY (ho c) (ha c)).imp fun σ H Q h=>by
  obtain ⟨φ,δ,h,rh,re,p⟩:=h;refine ⟨φ,δ,h,rh,re,(post.bind p).imp ?_⟩;rintro v H1 ⟨φ1,x,h1,p1,t1,rh1,rv1,q1⟩;exact ⟨φ1,h1,x,rh1,rv1,q1⟩
end
def aX (h:PH) (n:Nat):Option (List PV):=match h[n]? with
 | some (.lst xs)=>some xs
 | _=>none
theorem cA {φ:List Addr} {H:Hp} {h:PH} {n:Nat} {xs:List PV} (rh:RH C φ H h) (e:aX h n=some xs):∃ a vs,φ[n]?=some a/\SqL C.K H a vs/\RVs C φ H xs vs:=by
 unfold aX at e;cases q:h[n]? with
 | none=>rw [q] at e; cases e
 | some o=>
  rw [q] at e;obtain ⟨a,ha,ro⟩:=rh.get q;cases o with
  | lst ys=>cases e; obtain ⟨vs,q',r⟩:=ro; exact ⟨a,vs,ha,SqL.of q',r⟩
  | _=>cases e
def dY (h:PH) (n:Nat):Option (List PV):=match h[n]? with
 | some (.lst xs)=>some xs
 | _=>none
theorem gQ {h:PH} {n:Nat} {xs:List PV} (e:dY h n=some xs):h[n]?=some (.lst xs):=by
 unfold dY at e;cases q:h[n]? with
 | none=>rw [q] at e; cases e
 | some o=>
  rw [q] at e;cases o with
  | lst ys=>cases e; rfl
  | _=>cases e
def sQ (x:PV) (h:PH):Option (List PV):=match x with
 | .ref n=>aX h n
 | .fl xs=>some xs
 | _=>none
theorem AW {φ:List Addr} {H:Hp} {h:PH} {x:PV} {v:V} {xs:List PV} (rh:RH C φ H h) (rv:RV C φ H x v) (e:sQ x h=some xs):∃ a vs,v=.ref a/\SqL C.K H a vs/\RVs C φ H xs vs:=by
 cases x with
 | ref n=>
  obtain ⟨a,rfl,ha⟩:=rv;obtain ⟨a2,vs,ha2,sa,ra⟩:=cA rh e;rw [ha] at ha2; cases ha2;exact ⟨a,vs,rfl,sa,ra⟩
 | fl ys=>
  cases e
  obtain ⟨a,vs,rfl,sa,ra⟩:=rv;exact ⟨a,vs,rfl,sa.sq,ra⟩
 | _=>cases e
def MS:List PV->Bool
 | []=>true
 | _ :: _=>false
def Hb:PV->PV->PH->Rs PV:=fun x y h=>match x,y with
 | .int i,.int j=>.ok (.int (i+j)) h
 | .str i,.str j=>if i.length+j.length<=az then .ok (.str (i++j)) h else .bad
 | .tup xs,.tup ys=>if MS xs=false/\xs.length+ys.length<=az then .ok (.tup (xs++ys)) h else .bad
 | .ref a,.ref b=>match dY h a,dY h b with
  | some xs,some ys=>if xs.length+ys.length<=az then .ok (.ref h.length) (h++[.lst (xs++ys)]) else .bad
  | _,_=>.bad
 | _,_=>.bad
theorem post.ite {φ:List Addr} {H:Hp} {c:Prop} [Decidable c] {r:Rs PV} {Q:VK} (h:post C φ H (if c then r else .bad) Q):c/\post C φ H r Q:=by
 by_cases hc:c
 ·rw [if_pos hc] at h; exact ⟨hc,h⟩
 ·rw [if_neg hc] at h; exact h.elim
theorem post.lnew {φ:List Addr} {H:Hp} {h:PH} {xs:List PV} {vs:List V} {Q:VK} (q:post C φ H (.ok (.ref h.length) (h++[.lst xs])) Q) (rh:RH C φ H h) (r:RVs C φ H xs vs) {p:Addr} (hp:H p=none):Q (.ref p) (upd H p (.lst vs)):=
 q (φ++[p]) (.ref p) _ (dn _ _) (Kp.new hp) (rh.new hp ⟨vs,aW,r.mono (dn _ _) (Kp.new hp)⟩) ⟨p,rfl,by rw [<- rh.len]; simp⟩
theorem post.tnew {φ:List Addr} {H:Hp} {h:PH} {xs:List PV} {vs:List V} {Q:VK} (q:post C φ H (.ok (.tup xs) h) Q) (rh:RH C φ H h) (r:RVs C φ H xs vs) {p:Addr} (hp:H p=none):Q (.ref p) (upd H p (.tup vs)):=
 q φ (.ref p) _ av (Kp.new hp) (rh.aside hp) ⟨p,vs,rfl,SqT.of aW,r.mono av (Kp.new hp)⟩
theorem post.lset {φ:List Addr} {H:Hp} {h:PH} {n:Nat} {a:Addr} {p:PV} {v:V} {xs:List PV} {ws vs:List V} {Q:VK} (q:post C φ H (.ok p (h.set n (.lst xs))) Q) (rh:RH C φ H h) (e:φ[n]?=some a) (hl:H a=some (.lst ws)) (r:RVs C φ H xs vs) (rv:RV C φ H p v):Q v (upd H a (.lst vs)):=
 q φ v _ av (Kp.lst hl) (rh.write e (by rw [hl]; trivial) ⟨vs,aW,r.mono av (Kp.lst hl)⟩) (rv.mono av (Kp.lst hl))
theorem Hc {xs:List PV} {vs:List V} {φ:List Addr} {H:Hp} (r:RVs C φ H xs vs) (h:MS xs=false):vs≠[]:=by
 cases xs with
 | nil=>cases h
 | cons x xs=>
  cases vs with
  | nil=>exact r.elim
  | cons=>intro z; cases z
theorem Qw:OpS C k X (gm .Add) Hb:=fun c=>(Kw C.K c.K).imp fun x y H Q h=>by
 obtain ⟨φ,h,p,q,rh,rx,ry,po⟩:=h;unfold Hb at po;cases p with
 | int i=>
  cases q with
  | int j=>cases rx; cases ry; exact po.val rh rfl
  | _=>exact po.elim
 | str i=>
  cases q with
  | str j=>cases rx; cases ry; exact ⟨po.ite.1,po.ite.2.val rh rfl⟩
  | _=>exact po.elim
 | tup xs=>
  cases q with
  | tup ys=>
   obtain ⟨a,vs,rfl,sa,ra⟩:=rx;obtain ⟨b,us,rfl,sb,rb⟩:=ry;obtain ⟨⟨h1,h2⟩,po⟩:=po.ite;refine .inr ⟨a,b,vs,us,rfl,rfl,sa,sb,Hc ra h1,by rw [<- ra.length,<- rb.length]; exact h2,fun z=>?_,fun z p hp=>po.tnew rh (ra.append rb) hp⟩;subst z;have e:ys=[]:=List.eq_nil_of_length_eq_zero rb.length;subst e;exact po.val rh ⟨a,vs,rfl,sa,by rw [dk]; exact ra⟩
  | _=>exact po.elim
 | ref n=>
  cases q with
  | ref m=>
   obtain ⟨a,rfl,ha⟩:=rx;obtain ⟨b,rfl,hb⟩:=ry;dsimp only at po;cases e1:dY h n with
   | none=>rw [e1] at po; exact po.elim
   | some xs=>
    cases e2:dY h m with
    | none=>rw [e1,e2] at po; exact po.elim
    | some ys=>
     rw [e1,e2] at po;obtain ⟨vs,h1,r1⟩:=rh.at' n a _ ha (gQ e1);obtain ⟨us,h2,r2⟩:=rh.at' m b _ hb (gQ e2);obtain ⟨hz,po⟩:=po.ite;exact .inl ⟨a,b,vs,us,rfl,rfl,h1,h2,by rw [<- r1.length,<- r2.length]; exact hz,fun p hp=>po.lnew rh (r1.append r2) hp⟩
  | _=>exact po.elim
 | _=>exact po.elim
def vInt (P:Int->Int->Prop) [∀ i j,Decidable (P i j)] (f:Int->Int->Int):PV->PV->PH->Rs PV:=fun x y h=>match x,y with
 | .int i,.int j=>if P i j then .ok (.int (f i j)) h else .bad
 | _,_=>.bad
theorem Ec {f:Value->Value->Sem Value} {P:Int->Int->Prop} [∀ i j,Decidable (P i j)] {g:Int->Int->Int} (ho:OpR X f (wJ P g)):OpS C k X f (vInt P g):=fun c=>ho.imp fun x y H Q h=>by
 obtain ⟨φ,h,p,q,rh,rx,ry,po⟩:=h;unfold vInt at po;cases p with
 | int i=>
  cases q with
  | int j=>cases rx; cases ry; exact ⟨po.ite.1,po.ite.2.val rh rfl⟩
  | _=>exact po.elim
 | _=>exact po.elim
noncomputable instance (i j:Int):Decidable (Ap i j):=iq _
noncomputable instance (i j:Int):Decidable (Gq i j):=iq _
noncomputable instance (i j:Int):Decidable (F1 i j):=iq _
def sR:PV->PV->PH->Rs PV:=fun x y h=>match x,y with
 | .int i,.int j=>.ok (.int (i - j)) h
 | _,_=>.bad
theorem wQ:OpS C k X (gm .Sub) sR:=fun c=>Kx.imp fun x y H Q h=>by
 obtain ⟨φ,h,p,q,rh,rx,ry,po⟩:=h;unfold sR at po;cases p with
 | int i=>
  cases q with
  | int j=>cases rx; cases ry; exact po.val rh rfl
  | _=>exact po.elim
 | _=>exact po.elim
noncomputable abbrev CQ:=vInt Ap fun i j=>i*j
noncomputable abbrev jI:=vInt Gq fun i j=>i / j
abbrev fA:=vInt (fun _ j=>0 < j) fun i j=>i % j
noncomputable abbrev Fv:=vInt F1 fun i j=>i ^ j.toNat
theorem AX:OpS C k X (gm .Mult) CQ:=Ec Ky
theorem kY:OpS C k X (gm .FloorDiv) jI:=Ec Kz
theorem fP:OpS C k X (gm .Mod) fA:=Ec KA
theorem Hd:OpS C k X (gm .Pow) Fv:=Ec KB
def KG:PV->PH->Rs PV:=fun x h=>match x with
 | .int i=>.ok (.int (-i)) h
 | _=>.bad
end L2
namespace L2
open PySem PySem.Spec PyProof.Rows
variable {C:MC} {k:Nat} {X:Cx}
def AY (f:Int->Int->Bool) (g:List Nat->List Nat->Bool):PV->PV->PH->Rs PV:=fun x y h=>match x,y with
 | .int i,.int j=>.ok (.bl (f i j)) h
 | .str i,.str j=>.ok (.bl (g i.cps.toList j.cps.toList)) h
 | _,_=>.bad
theorem He {f:Value->Value->Sem Value} {p:Int->Int->Bool} {g:List Nat->List Nat->Bool} (ho:OpR X f (AM p g)):OpS C k X f (AY p g):=fun c=>ho.imp fun x y H Q h=>by
 obtain ⟨φ,h,p,q,rh,rx,ry,po⟩:=h;unfold AY at po;cases p with
 | int i=>
  cases q with
  | int j=>cases rx; cases ry; exact po.val rh rfl
  | _=>exact po.elim
 | str i=>
  cases q with
  | str j=>cases rx; cases ry; exact po.val rh rfl
  | _=>exact po.elim
 | _=>exact po.elim
abbrev vLt:=AY (fun i j=>decide (i < j)) fun i j=>decide (i < j)
abbrev vGt:=AY (fun i j=>decide (j < i)) fun i j=>decide (j < i)
abbrev vLe:=AY (fun i j=>decide (i<=j)) fun i j=>!decide (j < i)
abbrev vGe:=AY (fun i j=>decide (j<=i)) fun i j=>!decide (i < j)
theorem SK:OpS C k X (dt .Lt) vLt:=He NR
theorem KH:OpS C k X (dt .Gt) vGt:=He NS
theorem SL:OpS C k X (dt .GtE) vGe:=He NT
mutual
def PV.d:PV->Option D
 | .non=>some .non
 | .bl b=>some (.bl b)
 | .int i=>some (.int i)
 | .str x=>some (.str x)
 | .tup xs=>match PV.ds xs with
  | some ds=>some (.tup ds)
  | none=>none
 | .ref _=>none
 | .ty _=>none
 | .fl _=>none
def PV.ds:List PV->Option (List D)
 | []=>some []
 | x :: xs=>match PV.d x,PV.ds xs with
  | some d,some ds=>some (d :: ds)
  | _,_=>none
end
section
variable {φ:List Addr} {H:Hp}
mutual
theorem RV.rep:∀ {x:PV} {d:D} {v:V},RV C φ H x v->x.d=some d->Rep C.K H d v
 | .non,_,_,h,e=>by cases e; exact h
 | .bl _,_,_,h,e=>by cases e; exact h
 | .int _,_,_,h,e=>by cases e; exact h
 | .str _,_,_,h,e=>by cases e; exact h
 | .tup xs,d,v,⟨a,vs,e1,q,r⟩,e=>by
  unfold PV.d at e;cases e2:PV.ds xs with
  | none=>rw [e2] at e; cases e
  | some ds=>
   rw [e2] at e;cases e
   exact ⟨a,vs,e1,q,RVs.reps r e2⟩
 | .ref _,_,_,_,e=>by cases e
 | .ty _,_,_,_,e=>by cases e
 | .fl _,_,_,_,e=>by cases e
theorem RVs.reps:∀ {xs:List PV} {ds:List D} {vs:List V},RVs C φ H xs vs->PV.ds xs=some ds->eY C.K H ds vs
 | [],_,[],_,e=>by cases e; trivial
 | x :: xs,_,v :: vs,⟨h,r⟩,e=>by
  unfold PV.ds at e;cases e1:PV.d x with
  | none=>rw [e1] at e; cases e
  | some d=>
   cases e2:PV.ds xs with
   | none=>rw [e1,e2] at e; cases e
   | some ds=>
    rw [e1,e2] at e;cases e
    exact ⟨RV.rep h e1,RVs.reps r e2⟩
 | [],_,_ :: _,h,_=>h.elim
 | _ :: _,_,[],h,_=>h.elim
end
end
def yT (x y:PV) (h:PH):Option Bool:=match x.d,y.d with
 | some d,some e=>if d.depth<=40 then some (eqD d e) else none
 | _,_=>match sQ x h,sQ y h with
   | some xs,some ys=>match PV.ds xs,PV.ds ys with
    | some ds,some es=>if D.depths ds<=40 then some (fF ds es) else none
    | _,_=>none
   | _,_=>none
def ofB (o:Option Bool) (h:PH):Rs PV:=match o with
 | some b=>.ok (.bl b) h
 | none=>.bad
def vEq:PV->PV->PH->Rs PV:=fun x y h=>ofB (yT x y h) h
def vNe:PV->PV->PH->Rs PV:=fun x y h=>ofB ((yT x y h).map not) h
theorem sS {φ:List Addr} {H:Hp} {h:PH} {p q:PV} {x y:V} {b:Bool} (rh:RH C φ H h) (rx:RV C φ H p x) (ry:RV C φ H q y) (e:yT p q h=some b):
  (∃ d e,Rep C.K H d x/\Rep C.K H e y/\d.depth<=40/\b=eqD d e)\/(∃ ds es,Fp C.K H ds x/\Fp C.K H es y/\D.depths ds<=40/\b=fF ds es):=by
 unfold yT at e;split at e
 ·rename_i d e' h1 h2;split at e
  ·rename_i hd;cases e
   exact .inl ⟨d,e',rx.rep h1,ry.rep h2,hd,rfl⟩
  ·cases e
 ·split at e
  ·rename_i xs ys h1 h2;split at e
   ·rename_i ds es h3 h4;split at e
    ·rename_i hd;cases e
     obtain ⟨a',vs,rfl,sa,ra⟩:=AW rh rx h1;obtain ⟨b'',us,rfl,sb,rb⟩:=AW rh ry h2;exact .inr ⟨ds,es,⟨a',vs,rfl,sa,ra.reps h3⟩,⟨b'',us,rfl,sb,rb.reps h4⟩,hd,rfl⟩
    ·cases e
   ·cases e
  ·cases e
theorem post.ofB {φ:List Addr} {H:Hp} {h:PH} {o:Option Bool} {Q:VK} (q:post C φ H (ofB o h) Q):∃ b,o=some b/\post C φ H (.ok (.bl b) h) Q:=by
 cases o with
 | none=>exact q.elim
 | some b=>exact ⟨b,rfl,q⟩
theorem KI:OpS C k X (dt .Eq) vEq:=fun c=>((NW c.hu64 C.K c.K).or (NY c.hu64 C.K c.K)).imp fun x y H Q h=>by
 obtain ⟨φ,h,p,q,rh,rx,ry,po⟩:=h;obtain ⟨b,e,po⟩:=po.ofB;rcases sS rh rx ry e with ⟨d,e',h1,h2,h3,rfl⟩ | ⟨d,e',h1,h2,h3,rfl⟩
 ·exact .inl ⟨d,e',h1,h2,h3,po.val rh rfl⟩
 ·exact .inr ⟨d,e',h1,h2,h3,po.val rh rfl⟩
theorem O2:OpS C k X (dt .NotEq) vNe:=fun c=>((NX c.hu64 C.K c.K).or (NZ c.hu64 C.K c.K)).imp fun x y H Q h=>by
 obtain ⟨φ,h,p,q,rh,rx,ry,po⟩:=h;obtain ⟨b,e,po⟩:=po.ofB;cases e0:yT p q h with
 | none=>rw [e0] at e; cases e
 | some b'=>
  rw [e0] at e;cases e
  rcases sS rh rx ry e0 with ⟨d,e',h1,h2,h3,rfl⟩ | ⟨d,e',h1,h2,h3,rfl⟩
  ·exact .inl ⟨d,e',h1,h2,h3,po.val rh rfl⟩
  ·exact .inr ⟨d,e',h1,h2,h3,po.val rh rfl⟩
def CS:PV->Option Key
 | .int i=>some (.inl i)
 | .str x=>some (.inr x)
 | _=>none
def bR {κ:Type} [DecidableEq κ]:List (κ×PV)->κ->Option PV
 | [],_=>none
 | (a,p) :: r,b=>if a=b then some p else bR r b
def Fw (h:PH) (n:Nat) (x:PV):Option (Option PV):=match h[n]? with
 | some (.dK kvs)=>match CS x with
  | some key=>some (bR kvs key)
  | none=>none
 | _=>none
def AZ (x:PV) (ys:List PV):Option Bool:=match x.d,PV.ds ys with
 | some d,some ds=>if D.depths ds<=40 then some (ds.any fun e=>eqD e d) else none
 | _,_=>none
def O3 (x y:PV) (h:PH):Option Bool:=match y with
 | .tup ys=>AZ x ys
 | .ref n=>match aX h n with
  | some ys=>AZ x ys
  | none=>(Fw h n x).map Option.isSome
 | .fl ys=>AZ x ys
 | _=>none
def vIn:PV->PV->PH->Rs PV:=fun x y h=>ofB (O3 x y h) h
theorem CT {φ:List Addr} {H:Hp} {x:PV} {v:V} {key:Key} (r:RV C φ H x v) (e:CS x=some key):v=kV key:=by
 cases x <;> first | (cases e; exact r) | cases e
theorem wR {φ:List Addr} {H:Hp} {κ:Type} [DecidableEq κ] {kvs:List (κ×PV)} {ks:List (κ×V)} (r:RKv C φ H kvs ks) (a:κ):match bR kvs a,jB ks a with
  | some p,some v=>RV C φ H p v
  | none,none=>True
  | _,_=>False:=by
 unfold RKv at r
 induction r with
 | nil=>trivial
 | @cons p q ps qs h t ih=>
  obtain ⟨h1,h2⟩:=h;obtain ⟨pk,pv⟩:=p
  by_cases e:pk=a
  ·have e':q.1=a:=h1.symm.trans e;rw [mS e'];unfold bR;rw [if_pos e];exact h2
  ·have e':¬ q.1=a:=fun z=>e (h1.trans z);rw [mT e'];unfold bR;rw [if_neg e];exact ih
theorem sT {φ:List Addr} {H:Hp} {h:PH} {n:Nat} {a:Addr} {x:PV} {v:V} {o:Option PV} (rh:RH C φ H h) (ha:φ[n]?=some a) (rv:RV C φ H x v) (e:Fw h n x=some o):
  ∃ o',sE H a v o'/\o.isSome=o'.isSome/\∀ p,o=some p->∃ w,o'=some w/\RV C φ H p w:=by
 unfold Fw at e;split at e
 ·rename_i kvs hk;split at e
  ·rename_i key hkey;cases e
   obtain ⟨ks,hH,rk⟩:=rh.at' n a _ ha hk;have q:=wR rk key;rw [CT rv hkey];refine ⟨jB ks key,sE.k hH,?_,fun p hp=>?_⟩
   ·cases e1:bR kvs key <;> cases e2:jB ks key <;> rw [e1,e2] at q <;> first | rfl | exact q.elim
   ·rw [hp] at q;cases e2:jB ks key with
    | none=>rw [e2] at q; exact q.elim
    | some w=>rw [e2] at q; exact ⟨w,rfl,q⟩
  ·cases e
 ·cases e
theorem CU {φ:List Addr} {H:Hp} {h:PH} {p q:PV} {x y:V} {b:Bool} (rh:RH C φ H h) (rx:RV C φ H p x) (ry:RV C φ H q y) (e:O3 p q h=some b):
  (∃ d a ds vs,y=.ref a/\(SqL C.K H a vs\/SqT C.K H a vs)/\Rep C.K H d x/\eY C.K H ds vs/\D.depths ds<=40/\b=ds.any fun e=>eqD e d)\/∃ a o,y=.ref a/\sE H a x o/\b=o.isSome:=by
 have go:∀ {a:Addr} {vs:List V} {ys:List PV},(SqL C.K H a vs\/SqT C.K H a vs)->RVs C φ H ys vs->AZ p ys=some b->∃ d a' ds vs,V.ref a=.ref a'/\(SqL C.K H a' vs\/SqT C.K H a' vs)/\Rep C.K H d x/\eY C.K H ds vs/\D.depths ds<=40/\b=ds.any fun e=>eqD e d:=by
  intro a vs ys hs hr he;unfold AZ at he;split at he
  ·rename_i d ds h1 h2;split at he
   ·rename_i hd;cases he
    exact ⟨d,a,ds,vs,rfl,hs,rx.rep h1,hr.reps h2,hd,rfl⟩
   ·cases he
  ·cases he
 unfold O3 at e;split at e
 ·obtain ⟨a,vs,rfl,sa,ra⟩:=ry;exact .inl (go (.inr sa) ra e)
 ·rename_i n;obtain ⟨a,rfl,ha⟩:=ry;split at e
  ·rename_i ys hl;obtain ⟨a2,vs,ha2,sa,ra⟩:=cA rh hl;rw [ha] at ha2; cases ha2;exact .inl (go (.inl sa) ra e)
  ·cases e':Fw h n p with
   | none=>rw [e'] at e; cases e
   | some o=>
    rw [e'] at e;cases e
    obtain ⟨o',g,i,_⟩:=sT rh ha rx e';exact .inr ⟨a,o',rfl,g,i⟩
 ·obtain ⟨a,vs,rfl,sa,ra⟩:=ry;exact .inl (go (.inl sa.sq) ra e)
 ·cases e
theorem SM:OpS C k X (dt .In) vIn:=fun c=>((O0 c.hu64 C.K c.K).or (NU c.hu C.K c.K)).imp fun x y H Q h=>by
 obtain ⟨φ,h,p,q,rh,rx,ry,po⟩:=h;obtain ⟨b,e,po⟩:=po.ofB;rcases CU rh rx ry e with ⟨d,a,ds,vs,rfl,h1,h2,h3,h4,rfl⟩ | ⟨a,o,rfl,g,rfl⟩
 ·exact .inl ⟨d,a,ds,vs,rfl,h1,h2,h3,h4,po.val rh rfl⟩
 ·exact .inr (.inr ⟨a,o,rfl,g,po.val rh rfl⟩)
def iG:PV->Bool
 | .non=>true
 | _=>false
def vIs:PV->PV->PH->Rs PV:=fun x y h=>match y with
 | .non=>.ok (.bl (iG x)) h
 | .bl b=>match x with
  | .bl a=>.ok (.bl (a == b)) h
  | _=>.bad
 | _=>.bad
def Hf:PV->PV->PH->Rs PV:=fun x y h=>match y with
 | .non=>.ok (.bl (!iG x)) h
 | .bl b=>match x with
  | .bl a=>.ok (.bl (!(a == b))) h
  | _=>.bad
 | _=>.bad
theorem RV.isNon {φ:List Addr} {H:Hp} {p:PV} {v:V} (r:RV C φ H p v):decide (v=.non)=iG p:=by
 cases p with
 | non=>cases r; rfl
 | tup xs=>obtain ⟨a,vs,rfl,_⟩:=r; rfl
 | ref n=>obtain ⟨a,rfl,_⟩:=r; rfl
 | fl xs=>obtain ⟨a,vs,rfl,_⟩:=r; rfl
 | _=>cases r; rfl
theorem SN:OpS C k X (dt .Is) vIs:=fun c=>(Nz.or (fun pins s σ H x y v u Q I rx ry (h:∃ a b,x=.bl a/\y=.bl b/\Q (.bl (a == b)) H)=>by
  obtain ⟨a,b,rfl,rfl,q⟩:=h;cases rx; cases ry;exact PyProof.Rows.is_bool ⟨.bl _,H,I,rfl,q⟩)).imp fun x y H Q h=>by
 obtain ⟨φ,h,p,q,rh,rx,ry,po⟩:=h;unfold vIs at po;cases q with
 | non=>
  cases ry
  refine .inl ⟨rfl,?_⟩;rw [rx.isNon];exact po.val rh rfl
 | bl b=>
  cases p with
  | bl a=>cases rx; cases ry; exact .inr ⟨a,b,rfl,rfl,po.val rh rfl⟩
  | _=>exact po.elim
 | _=>exact po.elim
def tru (x:PV) (h:PH):Rs Bool:=match x with
 | .non=>.ok false h
 | .bl b=>.ok b h
 | .int i=>.ok (i != 0) h
 | .str y=>if y.length<=az then .ok ((y.length:Int) != 0) h else .bad
 | .tup xs=>.ok (!xs.isEmpty) h
 | .ref n=>match aX h n with
  | some xs=>.ok (!xs.isEmpty) h
  | none=>match h[n]? with
   | some (.dK kvs)=>.ok (!kvs.isEmpty) h
   | _=>.bad
 | .fl xs=>.ok (!xs.isEmpty) h
 | .ty _=>.bad
theorem RVs.isEmpty {φ:List Addr} {H:Hp} {xs:List PV} {vs:List V} (r:RVs C φ H xs vs):(!vs.isEmpty)=!xs.isEmpty:=by
 cases xs <;> cases vs <;> first | rfl | exact r.elim
theorem bN.ite {φ:List Addr} {H:Hp} {c:Prop} [Decidable c] {r:Rs Bool} {Q:Bool->Hp->Prop} (h:bN C φ H (if c then r else .bad) Q):c/\bN C φ H r Q:=by
 by_cases hc:c
 ·rw [if_pos hc] at h; exact ⟨hc,h⟩
 ·rw [if_neg hc] at h; exact h.elim
theorem bN.val {φ:List Addr} {H:Hp} {b:Bool} {h:PH} {Q:Bool->Hp->Prop} (q:bN C φ H (.ok b h) Q) (rh:RH C φ H h):Q b H:=q φ H av (Kp.refl H) rh
theorem Fx {φ:List Addr} {H:Hp} {h:PH} {p:PV} {v:V} {Q:Bool->Hp->Prop} (rh:RH C φ H h) (rv:RV C φ H p v) (po:bN C φ H (tru p h) Q):∃ b,Kb C.K v H b/\Q b H:=by
 unfold tru at po;cases p with
 | non=>cases rv; exact ⟨_,rfl,po.val rh⟩
 | bl b=>cases rv; exact ⟨_,rfl,po.val rh⟩
 | int i=>cases rv; exact ⟨_,rfl,po.val rh⟩
 | str y=>cases rv; exact ⟨_,⟨po.ite.1,rfl⟩,po.ite.2.val rh⟩
 | tup xs=>
  obtain ⟨a,vs,rfl,sa,ra⟩:=rv;exact ⟨_,.inr (.inl ⟨vs,sa,rfl⟩),by rw [ra.isEmpty]; exact po.val rh⟩
 | ref n=>
  obtain ⟨a,rfl,ha⟩:=rv;dsimp only at po;cases e:aX h n with
  | some xs=>
   rw [e] at po;obtain ⟨a2,vs,ha2,sa,ra⟩:=cA rh e;rw [ha] at ha2; cases ha2;exact ⟨_,.inl ⟨vs,sa,rfl⟩,by rw [ra.isEmpty]; exact po.val rh⟩
  | none=>
   rw [e] at po;dsimp only at po;split at po
   ·rename_i kvs hk;obtain ⟨ks,hH,rk⟩:=rh.at' n a _ ha hk;refine ⟨_,.inr (.inr ⟨ks,hH,rfl⟩),?_⟩;have:(!ks.isEmpty)=!kvs.isEmpty:=by cases rk <;> rfl
    rw [this];exact po.val rh
   ·exact po.elim
 | fl xs=>
  obtain ⟨a,vs,rfl,sa,ra⟩:=rv;exact ⟨_,.inl ⟨vs,sa.sq,rfl⟩,by rw [ra.isEmpty]; exact po.val rh⟩
 | ty n=>exact po.elim
end L2
namespace L2
open PySem PySem.Spec PyProof.Rows
variable {C:MC} {k:Nat} {X:Cx}
def bT (m:Me):Ev->PH->Rs Bool:=fun δ h=>(m δ h).bind tru
theorem Hg {m:Me} {σ:St} {H:Hp} {Q:Bool->Hp->Prop} (h:rdB C (bT m) σ H Q):rd C m σ H fun v H1=>∃ b,Kb C.K v H1 b/\Q b H1:=by
 obtain ⟨φ,δ,h,rh,re,p⟩:=h;refine ⟨φ,δ,h,rh,re,(post.bindB p).imp ?_⟩;rintro v H1 ⟨φ1,x,h1,p1,t1,rh1,rv1,q1⟩;exact Fx rh1 rv1 q1
section
variable {a b e c':Expr} {ma mb mc m:Me} {g g':PV->PV->PH->Rs PV} {pos:Pos} {ta tb:Ev->PH->Rs Bool}
theorem Ed (h:SE C k X e m) (he:∀ whole,isTrue e X.env whole=(do let v <- whole; standAt e.pos; holding [v] (truthy v)):=by intro _; rfl):ST C k X e (bT m):=fun c=>
 (Gu (h c) he).imp fun σ H Q q=>by rw [c.K]; exact Hg q
theorem fD {op:CmpOp} (ho:OpS C k X (dt op) g) (ha:SE C k X a ma) (hb:SE C k X b mb) (hm:behindInMarks op b=false:=by first | exact Gr _ | rfl):ST C k X (.Compare a [op] [b] pos) (bT (aD g ma mb)):=fun c=>by
 intro pins s σ H Q I h;have h:=Eb (Hg h);refine wpAny_isTrue_Compare1 (thn (ha c pins s σ H _ I h) fun v s1 ⟨x,H1,I1,r1,q1⟩=>thn (hb c pins s1 σ H1 _ I1 q1) fun u s2 ⟨y,H2,I2,r2,q2⟩=>
  thn (ho c pins s2 σ H2 x y v u _ I2 r1 r2 q2) fun w s3 ⟨z,H3,I3,r3,q3⟩=>?_) hm
 rw [<- c.K] at q3;exact Gs pins s3 σ H3 z w Q I3 r3 q3
def Qx (z:PV) (h:PH):Rs PV:=match z with
 | .bl b=>.ok (.bl b) h
 | _=>.bad
def sX (t:Ev->PH->Rs Bool):Ev->PH->Rs Bool:=fun δ h=>(t δ h).bind fun b h1=>.ok (!b) h1
def sY (ta tb:Ev->PH->Rs Bool):Ev->PH->Rs Bool:=fun δ h=>(ta δ h).bind fun b h1=>match b with
 | true=>tb δ h1
 | false=>.ok false h1
def CV (ta tb:Ev->PH->Rs Bool):Ev->PH->Rs Bool:=fun δ h=>(ta δ h).bind fun b h1=>match b with
 | true=>.ok true h1
 | false=>tb δ h1
theorem bN.imp {φ:List Addr} {H:Hp} {r:Rs Bool} {Q Q':Bool->Hp->Prop} (h:bN C φ H r Q) (i:∀ v H',Q v H'->Q' v H'):bN C φ H r Q':=by
 cases r with
 | ok a h'=>exact fun φ' H' p t rh=>i a H' (h φ' H' p t rh)
 | exc a h'=>exact h
 | bad=>exact h
theorem Hh (h:ST C k X e ta):ST C k X (.UnaryOp .Not e pos) (sX ta):=fun c=>(Ng (h c)).imp fun σ H Q q=>by
 obtain ⟨φ,δ,h,rh,re,p⟩:=q;refine ⟨φ,δ,h,rh,re,(bN.bindB p).imp ?_⟩;rintro b H1 ⟨φ1,h1,p1,t1,rh1,q1⟩;exact q1.val rh1
def SW (C:MC) (k:Nat) (X:Cx) (e:Expr) (m:Ev->PH->Rs Bool):Prop:=Cxt C k X->PW X e (rdB C m)
theorem SW.t (h:SW C k X e ta):ST C k X e ta:=fun c=>(h c).pt
theorem PW.imp {t t':TT} (h:PW X e t) (i:∀ σ H Q,t' σ H Q->t σ H Q):PW X e t':=fun w pins s σ H Q I q=>h w pins s σ H Q I (i σ H Q q)
theorem Hi (ha:ST C k X a ta):SW C k X (.BoolOp .And [a] pos) ta:=fun c=>K3 (ha c)
theorem MT (ha:ST C k X a ta):SW C k X (.BoolOp .Or [a] pos) ta:=fun c=>Nd (ha c)
theorem w_and {rest:List Expr} (ha:ST C k X a ta) (hb:SW C k X (.BoolOp .And (b :: rest) pos) tb):SW C k X (.BoolOp .And (a :: b :: rest) pos) (sY ta tb):=fun c=>PW.imp (Nf (ha c) (hb c)) fun σ H Q q=>by
 obtain ⟨φ,δ,h,rh,re,p⟩:=q;refine ⟨φ,δ,h,rh,re,(bN.bindB p).imp ?_⟩;rintro b H1 ⟨φ1,h1,p1,t1,rh1,q1⟩;cases b with
 | true=>exact GI ⟨φ1,δ,h1,rh1,re.mono p1 t1,q1⟩
 | false=>exact GH (q1.val rh1)
theorem w_or {rest:List Expr} (ha:ST C k X a ta) (hb:SW C k X (.BoolOp .Or (b :: rest) pos) tb):SW C k X (.BoolOp .Or (a :: b :: rest) pos) (CV ta tb):=fun c=>PW.imp (PM (ha c) (hb c)) fun σ H Q q=>by
 obtain ⟨φ,δ,h,rh,re,p⟩:=q;refine ⟨φ,δ,h,rh,re,(bN.bindB p).imp ?_⟩;rintro b H1 ⟨φ1,h1,p1,t1,rh1,q1⟩;cases b with
 | true=>exact GI (q1.val rh1)
 | false=>exact GH ⟨φ1,δ,h1,rh1,re.mono p1 t1,q1⟩
end
theorem RVs.atI {φ:List Addr} {H:Hp} {xs:List PV} {vs:List V} {i:Int} {x:PV} (r:RVs C φ H xs vs) (e:L2.atI xs i=some x):∃ v,L2.atI vs i=some v/\RV C φ H x v:=by
 unfold L2.atI at e ⊢;rw [<- r.length];cases q:ixN xs.length i with
 | none=>rw [q] at e; cases e
 | some j=>
  rw [q] at e;exact r.at e
def ofO (o:Option PV) (h:PH):Rs PV:=match o with
 | some p=>.ok p h
 | none=>.bad
def vIx:PV->PV->PH->Rs PV:=fun x y h=>match x with
 | .str z=>(match y with
  | .int i=>if z.length<=az then ofO ((atI z.cps.toList i).map fun c=>.str ⟨#[c]⟩) h else .bad
  | _=>.bad)
 | .tup xs=>(match y with
  | .int i=>ofO (atI xs i) h
  | _=>.bad)
 | .fl xs=>(match y with
  | .int i=>ofO (atI xs i) h
  | _=>.bad)
 | .ref n=>(match aX h n with
  | some xs=>(match y with
   | .int i=>ofO (atI xs i) h
   | _=>.bad)
  | none=>(match Fw h n y with
   | some o=>ofO o h
   | none=>.bad))
 | _=>.bad
theorem post.ofO {φ:List Addr} {H:Hp} {h:PH} {o:Option PV} {Q:VK} (q:post C φ H (ofO o h) Q):∃ p,o=some p/\post C φ H (.ok p h) Q:=by
 cases o with
 | none=>exact q.elim
 | some b=>exact ⟨b,rfl,q⟩
theorem Qy {x y:V} {H:Hp} {Q:VK} (h:r2 C vIx x y H Q):Qm C.K x y H Q:=by
 obtain ⟨φ,h,p,q,rh,rx,ry,po⟩:=h;unfold vIx at po;cases p with
 | str z=>
  cases rx
  cases q with
  | int i=>
   cases ry
   obtain ⟨hz,po⟩:=po.ite;obtain ⟨p,e,po⟩:=po.ofO;cases e':atI z.cps.toList i with
   | none=>rw [e'] at e; cases e
   | some c=>rw [e'] at e; cases e; exact ⟨hz,c,e',po.val rh rfl⟩
  | _=>exact po.elim
 | tup xs=>
  obtain ⟨a,vs,rfl,sa,ra⟩:=rx;cases q with
  | int i=>
   cases ry
   obtain ⟨p,e,po⟩:=po.ofO;obtain ⟨v,hv,rv⟩:=ra.atI e;exact .inl ⟨vs,i,v,rfl,.inr sa,hv,po.val rh rv⟩
  | _=>exact po.elim
 | fl xs=>
  obtain ⟨a,vs,rfl,sa,ra⟩:=rx;cases q with
  | int i=>
   cases ry
   obtain ⟨p,e,po⟩:=po.ofO;obtain ⟨v,hv,rv⟩:=ra.atI e;exact .inl ⟨vs,i,v,rfl,.inl sa.sq,hv,po.val rh rv⟩
  | _=>exact po.elim
 | ref n=>
  obtain ⟨a,rfl,ha⟩:=rx;dsimp only at po;cases e:aX h n with
  | some xs=>
   rw [e] at po;obtain ⟨a2,vs,ha2,sa,ra⟩:=cA rh e;rw [ha] at ha2; cases ha2;cases q with
   | int i=>
    cases ry
    obtain ⟨p,e,po⟩:=po.ofO;obtain ⟨v,hv,rv⟩:=ra.atI e;exact .inl ⟨vs,i,v,rfl,.inl sa,hv,po.val rh rv⟩
   | _=>exact po.elim
  | none=>
   rw [e] at po;dsimp only at po;cases e':Fw h n q with
   | none=>rw [e'] at po; exact po.elim
   | some o=>
    rw [e'] at po;obtain ⟨p,eo,po⟩:=po.ofO;obtain ⟨o',g,_,hp⟩:=sT rh ha ry e';obtain ⟨w,rfl,rw'⟩:=hp p eo;exact .inr ⟨w,g,po.val rh rw'⟩
 | _=>exact po.elim
theorem kU {prog:Program} {w:World} {A:Around} {E:Value->Shared->Prop} {s:Shared} {t sl:Addr} {items:Array Value} {vl vu:Value} {lo hi:Option Int} {Q:Value->Shared->Prop} (ht:IsTup s.heap t items) (hs:s.heap.IsSliceOf sl vl vu .none) (pl:IsPart vl lo) (pu:IsPart vu hi)
  (hw:HT.sIx items.size 0 lo=0/\HT.sIx items.size items.size hi=items.size) (h:Q (.ref t) s):wpAny (model prog w) A (getItem (.ref t) (.ref sl)) Q E s:=by
 obtain ⟨os,hos,hcs,hds⟩:=id hs;have hTs:s.TypeIs (.ref sl) "slice" := ⟨os,hos,hcs⟩;unfold getItem
 try with_reducible refine il ?_
 first | refine aa (af ?_) | skip
 refine aa (wpAny_sequenceKey ht.typeIs (by decide) ?_);refine aa (ip (name:=jw "__getitem__") ht.typeIs fg
  (jd fg ht.typeIs entry_tuple_getitem ?_ (args_tuple_getitem _ _)))
 show wpAny _ _ (m7 (.ref t) >>= _) _ _ s
 refine aa (tupleItemsOf_ ht ?_);refine aa (mn hTs ?_);rw [if_pos (by decide)];refine aa (HT.sliceApplied_gen hs pl pu ?_);have hno:((((HT.sIx items.size 0 lo:Nat):Int) == 0 && (1:Int) == 1 && (HT.sIx items.size items.size hi - HT.sIx items.size 0 lo) == items.size)=true):=by
  rw [hw.1,hw.2]; simp
 show wpAny _ _ (if (((HT.sIx items.size 0 lo:Nat):Int) == 0 && (1:Int) == 1 && (HT.sIx items.size items.size hi - HT.sIx items.size 0 lo) == items.size)=true then _ else _) _ _ s
 rw [if_pos hno];refine aa ?_;unfold Builtin.Tuple.tupleIsExact;refine aa (mn ht.typeIs (af ?_));rw [if_pos (by decide)];refine aa (lq ?_);exact af ⟨_,rfl,af h⟩
end L2
namespace L2
open PySem PySem.Spec PyProof.Rows
variable {C:MC} {k:Nat} {X:Cx}
def kW {α:Type} (xs:List α) (lo hi:Option Int):List α:=(xs.drop (HT.sIx xs.length 0 lo)).take (HT.sIx xs.length xs.length hi - HT.sIx xs.length 0 lo)
theorem RVs.cut {φ:List Addr} {H:Hp} {xs:List PV} {vs:List V} (r:RVs C φ H xs vs) (lo hi:Option Int):RVs C φ H (kW xs lo hi) (Ar vs lo hi):=by
 unfold kW Ar;rw [<- r.length];exact (r.drop _).take _
def vSl:PV->Option Int->Option Int->PH->Rs PV:=fun x lo hi h=>match x with
 | .str z=>if z.length<=az then .ok (.str (Txt.slice z lo hi)) h else .bad
 | .tup xs=>.ok (.tup (kW xs lo hi)) h
 | .ref n=>match aX h n with
  | some xs=>.ok (.ref h.length) (h++[.lst (kW xs lo hi)])
  | none=>.bad
 | .fl xs=>.ok (.ref h.length) (h++[.lst (kW xs lo hi)])
 | _=>.bad
def Qz (K:ag):V->Option Int->Option Int->Hp->VK->Prop:=fun x lo hi H Q=>∃ a xs,x=.ref a/\SqT K H a xs/\(HT.sIx xs.length 0 lo=0/\HT.sIx xs.length xs.length hi=xs.length)/\Q (.ref a) H
theorem Hj:SlR X (Qz X.K):=by
 intro pins s σ H x v vl vu lo hi sl Q I rx hs pl pu h;obtain ⟨a,xs,rfl,hx,hw,q⟩:=h;cases rx
 obtain ⟨its,r,ht,hz⟩:=I.tuple hx;have hlen:its.toArray.size=xs.length:=by rw [ba]; exact r.length.symm
 refine ⟨"tuple",_,fg.lookup,ht.typeIs,?_⟩;exact kU ht hs pl pu (by rw [hlen]; exact hw) ⟨.ref a,H,I,rfl,q⟩
theorem SlR.imp {r r':V->Option Int->Option Int->Hp->VK->Prop} (h:SlR X r) (i:∀ x lo hi H Q,r' x lo hi H Q->r x lo hi H Q):SlR X r':=fun pins s σ H x v vl vu lo hi sl Q I rx hs pl pu q=>h pins s σ H x v vl vu lo hi sl Q I rx hs pl pu (i x lo hi H Q q)
def r3 (C:MC) (g:PV->Option Int->Option Int->PH->Rs PV):V->Option Int->Option Int->Hp->VK->Prop:=fun x lo hi H Q=>∃ φ h p,RH C φ H h/\RV C φ H p x/\post C φ H (g p lo hi h) Q
theorem O4 (hK:X.K=C.K):SlR X (r3 C vSl):=by
 have e:SlR X (fun x lo hi H Q=>Qk x lo hi H Q\/Q6 C.K x lo hi H Q\/Q9 C.K x lo hi H Q\/Qz C.K x lo hi H Q):=by rw [<- hK]; exact NQ.or (NH.or (Kj.or Hj))
 refine e.imp fun x lo hi H Q h=>?_;obtain ⟨φ,h,p,rh,rv,po⟩:=h;unfold vSl at po;cases p with
 | str z=>cases rv; exact .inl ⟨z,rfl,po.ite.1,po.ite.2.val rh rfl⟩
 | tup xs=>
  obtain ⟨a,vs,rfl,sa,ra⟩:=rv
  by_cases hw:HT.sIx vs.length 0 lo=0/\HT.sIx vs.length vs.length hi=vs.length
  ·refine .inr (.inr (.inr ⟨a,vs,rfl,sa,hw,po.val rh ⟨a,vs,rfl,sa,?_⟩⟩));have e:kW xs lo hi=xs:=by
    unfold kW;rw [ra.length,hw.1,hw.2,d0,i6,<- ra.length,List.take_length]
   rw [e];exact ra
  ·exact .inr (.inl ⟨a,vs,rfl,sa,hw,fun p hp=>po.tnew rh (ra.cut lo hi) hp⟩)
 | ref n=>
  obtain ⟨a,rfl,ha⟩:=rv;dsimp only at po;cases e:aX h n with
  | none=>rw [e] at po; exact po.elim
  | some xs=>
   rw [e] at po;obtain ⟨a2,vs,ha2,sa,ra⟩:=cA rh e;rw [ha] at ha2; cases ha2;exact .inr (.inr (.inl ⟨a,vs,rfl,sa,fun p hp=>po.lnew rh (ra.cut lo hi) hp⟩))
 | fl xs=>
  obtain ⟨a,vs,rfl,sa,ra⟩:=rv;exact .inr (.inr (.inl ⟨a,vs,rfl,sa.sq,fun p hp=>po.lnew rh (ra.cut lo hi) hp⟩))
 | _=>exact po.elim
abbrev Mo:=Ev->PH->Rs (Option Int)
def qD (C:MC) (φ:List Addr) (H:Hp) (r:Rs (Option Int)) (Q:Option Int->Hp->Prop):Prop:=match r with
 | .ok b h=>∀ φ' H',φ<+:φ'->Kp H H'->RH C φ' H' h->Q b H'
 | .exc x h=>∀ φ' H',φ<+:φ'->Kp H H'->RH C φ' H' h->C.ex φ' H' x
 | .bad=>False
def rdO (C:MC) (m:Mo):TO:=fun σ H Q=>∃ φ δ h,RH C φ H h/\RE C φ H δ σ/\qD C φ H (m δ h) Q
def SO (C:MC) (k:Nat) (X:Cx) (e:Option Expr) (m:Mo):Prop:=Cxt C k X->PO X e (rdO C m)
def gE:Mo:=fun _ h=>.ok none h
def mP (m:Me):Mo:=fun δ h=>(m δ h).bind fun x h1=>match x with
 | .int i=>.ok (some i) h1
 | _=>.bad
theorem lZ:SO C k X none gE:=fun c pins s σ H Q I h=>by
 obtain ⟨φ,δ,h,rh,re,p⟩:=h;exact Kg pins s σ H Q I (p φ H av (Kp.refl H) rh)
theorem iH {e:Expr} {m:Me} (h:SE C k X e m):SO C k X (some e) (mP m):=fun c pins s σ H Q I q=>by
 refine GW (h c) pins s σ H Q I ?_;obtain ⟨φ,δ,h,rh,re,p⟩:=q;refine ⟨φ,δ,h,rh,re,?_⟩;unfold mP at p;cases e':m δ h with
 | ok x h1=>
  rw [e'] at p;intro φ' v H' p' t' rh' rv';cases x with
  | int i=>cases rv'; exact p φ' H' p' t' rh'
  | _=>exact p.elim
 | exc x h1=>rw [e'] at p; exact p
 | bad=>rw [e'] at p; exact p
def mSl (me:Me) (ml mh:Mo):Me:=fun δ h=>(me δ h).bind fun x h1=>(ml δ h1).bind fun l h2=>(mh δ h2).bind fun u h3=>vSl x l u h3
theorem qD.bind {φ:List Addr} {H:Hp} {r:Rs (Option Int)} {f:Option Int->PH->Rs PV} {Q:VK} (h:post C φ H (r.bind f) Q):qD C φ H r fun b H1=>∃ φ1 h1,φ<+:φ1/\Kp H H1/\RH C φ1 H1 h1/\post C φ1 H1 (f b h1) Q:=by
 cases r with
 | ok a h'=>exact fun φ' H' p t rh=>⟨φ',h',p,t,rh,post.weak p t h⟩
 | exc a h'=>exact h
 | bad=>exact h
theorem qD.imp {φ:List Addr} {H:Hp} {r:Rs (Option Int)} {Q Q':Option Int->Hp->Prop} (h:qD C φ H r Q) (i:∀ v H',Q v H'->Q' v H'):qD C φ H r Q':=by
 cases r with
 | ok a h'=>exact fun φ' H' p t rh=>i a H' (h φ' H' p t rh)
 | exc a h'=>exact h
 | bad=>exact h
theorem B0 {e:Expr} {lo hi:Option Expr} {me:Me} {ml mh:Mo} {p2 pos:Pos} (he:SE C k X e me) (hl:SO C k X lo ml) (hh:SO C k X hi mh):SE C k X (.Subscript e (.Slice lo hi none p2) pos) (mSl me ml mh):=fun c=>
 (GD (O4 c.K) (he c) (hl c) (hh c)).imp fun σ H Q h=>by
  obtain ⟨φ,δ,h,rh,re,p⟩:=h;refine ⟨φ,δ,h,rh,re,(post.bind p).imp ?_⟩;rintro v H1 ⟨φ1,x,h1,p1,t1,rh1,rv1,q1⟩;refine ⟨φ1,δ,h1,rh1,re.mono p1 t1,(qD.bind q1).imp ?_⟩;rintro l H2 ⟨φ2,h2,p2,t2,rh2,q2⟩;refine ⟨φ2,δ,h2,rh2,re.mono (p1.trans p2) (t1.trans t2),(qD.bind q2).imp ?_⟩;rintro u H3 ⟨φ3,h3,p3,t3,rh3,q3⟩;exact ⟨φ3,h3,x,rh3,rv1.mono (p2.trans p3) (t2.trans t3),q3⟩
abbrev Ma:=Ev->PH->Rs (List PV)
def aG:Ma:=fun _ h=>.ok [] h
def aA (m:Me) (ms:Ma):Ma:=fun δ h=>(m δ h).bind fun x h1=>(ms δ h1).bind fun xs h2=>.ok (x :: xs) h2
theorem PA.imp {es:List Expr} {t t':TA} (h:PA X es t) (i:∀ σ H Q,t' σ H Q->t σ H Q):PA X es t':=fun pos pins s σ H Q I q=>h pos pins s σ H Q I (i σ H Q q)
theorem aI:SA C k X [] aG:=fun c=>Gy.imp fun σ H Q h=>by
 obtain ⟨φ,δ,h,rh,re,p⟩:=h;exact p φ [] H av (Kp.refl H) rh trivial
theorem postA.imp {φ:List Addr} {H:Hp} {r:Rs (List PV)} {Q Q':List V->Hp->Prop} (h:postA C φ H r Q) (i:∀ v H',Q v H'->Q' v H'):postA C φ H r Q':=by
 cases r with
 | ok a h'=>exact fun φ' v H' p t rh rv=>i v H' (h φ' v H' p t rh rv)
 | exc a h'=>exact h
 | bad=>exact h
theorem aC {e:Expr} {es:List Expr} {m:Me} {ms:Ma} (he:SE C k X e m) (hs:SA C k X es ms) (hh:b9 (e :: es) X.env=(false,eval e X.env) :: b9 es X.env:=by rfl):SA C k X (e :: es) (aA m ms):=fun c=>(DW (he c) (hs c) hh).imp fun σ H Q h=>by
 obtain ⟨φ,δ,h,rh,re,p⟩:=h;refine ⟨φ,δ,h,rh,re,(post.bindA p).imp ?_⟩;rintro v H1 ⟨φ1,x,h1,p1,t1,rh1,rv1,q1⟩;refine ⟨φ1,δ,h1,rh1,re.mono p1 t1,(postA.bindA q1).imp ?_⟩;rintro vs H2 ⟨φ2,xs,h2,p2,t2,rh2,rv2,q2⟩;exact q2 φ2 (v :: vs) H2 av (Kp.refl H2) rh2 ⟨rv1.mono p2 t2,rv2⟩
def cT (ms:Ma):Me:=fun δ h=>(ms δ h).bind fun xs h1=>if xs.length<=az then .ok (.tup xs) h1 else .bad
def qX (ms:Ma):Me:=fun δ h=>(ms δ h).bind fun xs h1=>if xs.length<=az then .ok (.ref h1.length) (h1++[.lst xs]) else .bad
theorem cR {es:List Expr} {ms:Ma} {x1} {pos:Pos} (hs:SA C k X es ms):SE C k X (.Tuple es x1 pos) (cT ms):=fun c=>(ND (hs c)).imp fun σ H Q h=>by
 obtain ⟨φ,δ,h,rh,re,p⟩:=h;refine ⟨φ,δ,h,rh,re,(postA.bind p).imp ?_⟩;rintro vs H1 ⟨φ1,xs,h1,p1,t1,rh1,rv1,q1⟩;exact ⟨by rw [<- rv1.length]; exact q1.ite.1,fun p hp=>q1.ite.2.tnew rh1 rv1 hp⟩
theorem sZ {es:List Expr} {ms:Ma} {pos:Pos} (hs:SA C k X es ms):SE C k X (.List es pos) (qX ms):=fun c=>(NF (hs c)).imp fun σ H Q h=>by
 obtain ⟨φ,δ,h,rh,re,p⟩:=h;refine ⟨φ,δ,h,rh,re,(postA.bind p).imp ?_⟩;rintro vs H1 ⟨φ1,xs,h1,p1,t1,rh1,rv1,q1⟩;exact ⟨by rw [<- rv1.length]; exact q1.ite.1,fun p hp=>q1.ite.2.lnew rh1 rv1 hp⟩
def CW:Me:=fun _ h=>.ok (.ref h.length) (h++[.dK []])
theorem KJ {pos:Pos}:SE C k X (.Dict [] [] pos) CW:=fun c=>GK.imp fun σ H Q h=>by
 obtain ⟨φ,δ,h,rh,re,p⟩:=h;intro a ha;exact p (φ++[a]) (.ref a) _ (dn _ _) (Kp.new ha) (rh.new ha ⟨[],aW,.nil⟩) ⟨a,rfl,by rw [<- rh.len]; simp⟩
def mCB (g:List PV->PH->Rs PV) (ms:Ma):Me:=fun δ h=>(ms δ h).bind g
theorem MU {g:List PV->PH->Rs PV} {ms:Ma} {σ:St} {H:Hp} {Q:VK} (h:rd C (mCB g ms) σ H Q):tCB (rL C g) (rdA C ms) σ H Q:=by
 obtain ⟨φ,δ,h,rh,re,p⟩:=h;refine ⟨φ,δ,h,rh,re,(postA.bind p).imp ?_⟩;rintro vs H1 ⟨φ1,xs,h1,p1,t1,rh1,rv1,q1⟩;exact ⟨φ1,h1,xs,rh1,rv1,q1⟩
section
variable {x:Str} {p pos:Pos} {e:Expr} {es:List Expr} {ms:Ma} {id T:String} {g:List PV->PH->Rs PV}
theorem dM (hc:sN C k X (.builtin id) g) (hv:md x=some (.builtin id)) (ha:SA C k X (e :: es) ms) (hb:x∈C.bs:=by decide) (hg:Gl X x:=by rfl) (hn:x≠"__name__" := by decide) (hdb:(x == ("__debug__" : Str))=false:=by decide)
  (he:b9 (e :: es) X.env=(false,eval e X.env) :: b9 es X.env:=by rfl) (hpl:(backTo pos (b9 es X.env)).any (·.1)=false:=by rfl):SE C k X (.Call (.Name x p) (e :: es) [] pos) (mCB g ms):=fun c=>
 (GB (hc c) hg (c.bn x hb) hv (ha c) hn hdb he hpl).imp fun σ H Q h=>MU h
theorem Hk (hc:sN C k X (.type T) g) (hv:md x=some (.type T)) (ha:SA C k X (e :: es) ms) (hb:x∈C.bs:=by decide) (hg:Gl X x:=by rfl) (hn:x≠"__name__" := by decide) (hdb:(x == ("__debug__" : Str))=false:=by decide)
  (he:b9 (e :: es) X.env=(false,eval e X.env) :: b9 es X.env:=by rfl) (hpl:(backTo pos (b9 es X.env)).any (·.1)=false:=by rfl):SE C k X (.Call (.Name x p) (e :: es) [] pos) (mCB g ms):=fun c=>
 (F7 (hc c) hg (c.bn x hb) hv (ha c) hn hdb he hpl).imp fun σ H Q h=>MU h
def spM (C:MC) (n:Nat) (f:Fn):Sp:=fun vs H Q _=>∃ φ h ps,RH C φ H h/\RVs C φ H ps vs/\ps.length=n/\post C φ H (f ps h) Q
def bP (n:Nat) (f:Fn) (ms:Ma):Me:=fun δ h=>(ms δ h).bind fun ps h1=>if ps.length=n then f ps h1 else .bad
theorem s_call {st:Stmt} {a:Addr} {fd:dq} {ps:List Str} {j n:Nat} {f:Fn} (D:Def C.K X.mg x st a fd ps) (G:aT X.prog X.w C.K X.mg X.base CX0 j a fd ps (spM C n f)) (ha:SA C k X (e :: es) ms) (hj:j<=k:=by decide)
  (hg:Gl X x:=by rfl) (hdb:(x == ("__debug__" : Str))=false:=by decide) (he:b9 (e :: es) X.env=(false,eval e X.env) :: b9 es X.env:=by rfl) (hpl:(backTo pos (b9 es X.env)).any (·.1)=false:=by rfl):
  SE C k X (.Call (.Name x p) (e :: es) [] pos) (bP n f ms):=fun c=>by
 have e1:=c.K;have D':Def X.K X.mg x st a fd ps:=by rw [e1]; exact D
 have G':aT X.prog X.w X.K X.mg X.base CX0 j a fd ps (spM C n f):=by rw [e1]; exact G
 refine (Qr D' G' (c.room.mono hj) (ha c) hg hdb he hpl).imp fun σ H Q h=>?_;obtain ⟨φ,δ,h,rh,re,p⟩:=h;refine ⟨φ,δ,h,rh,re,(postA.bind p).imp ?_⟩;rintro vs H1 ⟨φ1,xs,h1,p1,t1,rh1,rv1,q1⟩;refine ⟨φ1,h1,xs,rh1,by rw [dk]; exact rv1,q1.ite.1,q1.ite.2⟩
end
def dU:List PV->PH->Rs PV:=fun xs h=>match xs with
 | [.str y]=>if y.length<=az then .ok (.int y.length) h else .bad
 | [.tup ys]=>.ok (.int ys.length) h
 | [.fl ys]=>.ok (.int ys.length) h
 | [.ref n]=>match aX h n with
  | some ys=>.ok (.int ys.length) h
  | none=>match h[n]? with
   | some (.dK kvs)=>.ok (.int kvs.length) h
   | _=>.bad
 | _=>.bad
theorem RVs.one {φ:List Addr} {H:Hp} {x:PV} {vs:List V} (r:RVs C φ H [x] vs):∃ v,vs=[v]/\RV C φ H x v:=by
 match vs,r with
 | [v],⟨h,_⟩=>exact ⟨v,rfl,h⟩
 | [],h=>exact h.elim
 | _ :: _ :: _,⟨_,h⟩=>exact h.elim
theorem RVs.two {φ:List Addr} {H:Hp} {x y:PV} {vs:List V} (r:RVs C φ H [x,y] vs):∃ v w,vs=[v,w]/\RV C φ H x v/\RV C φ H y w:=by
 match vs,r with
 | [v,w],⟨h,h',_⟩=>exact ⟨v,w,rfl,h,h'⟩
 | [],h=>exact h.elim
 | [_],⟨_,h⟩=>exact h.elim
 | _ :: _ :: _ :: _,⟨_,_,h⟩=>exact h.elim
theorem kZ:sN C k X (.builtin "len") dU:=fun c=>(Fo C.K c.K).imp fun vs H Q h=>by
 obtain ⟨φ,h,ps,rh,rv,po⟩:=h;unfold dU at po;split at po
 ·obtain ⟨v,rfl,rx⟩:=rv.one;cases rx
  exact ⟨po.ite.1,po.ite.2.val rh rfl⟩
 ·obtain ⟨v,rfl,rx⟩:=rv.one;obtain ⟨a,vs,rfl,sa,ra⟩:=rx;exact .inl ⟨vs,.inr sa,by rw [<- ra.length]; exact po.val rh rfl⟩
 ·obtain ⟨v,rfl,rx⟩:=rv.one;obtain ⟨a,vs,rfl,sa,ra⟩:=rx;exact .inl ⟨vs,.inl sa.sq,by rw [<- ra.length]; exact po.val rh rfl⟩
 ·rename_i n;obtain ⟨v,rfl,rx⟩:=rv.one;obtain ⟨a,rfl,ha⟩:=rx;split at po
  ·rename_i ys e;obtain ⟨a2,vs,ha2,sa,ra⟩:=cA rh e;rw [ha] at ha2; cases ha2;exact .inl ⟨vs,.inl sa,by rw [<- ra.length]; exact po.val rh rfl⟩
  ·split at po
   ·rename_i kvs hk;obtain ⟨ks,hH,rk⟩:=rh.at' n a _ ha hk;refine .inr ⟨ks,hH,?_⟩;have:ks.length=kvs.length:=(fc rk).symm;rw [this];exact po.val rh rfl
   ·exact po.elim
 ·exact po.elim
def QA:List PV->PH->Rs PV:=fun xs h=>match xs with
 | [.int i,.int j]=>.ok (.int (if j > i then j else i)) h
 | _=>.bad
end L2
namespace L2
open PySem PySem.Spec PyProof.Rows
variable {C:MC} {k:Nat} {X:Cx}
def Rs.fl {α:Type} (r:Rs α) (f:α->PH->Fl):Fl:=match r with
 | .ok a h=>f a h
 | .exc x h=>.exc x h
 | .bad=>.bad
@[simp] theorem Rs.fl_ok {α:Type} (a:α) (h:PH) (f:α->PH->Fl):(Rs.ok a h).fl f=f a h:=(rfl)
@[simp] theorem Rs.fl_exc {α:Type} (x:PX) (h:PH) (f:α->PH->Fl):(Rs.exc x h:Rs α).fl f=.exc x h:=(rfl)
@[simp] theorem Rs.fl_bad {α:Type} (f:α->PH->Fl):(Rs.bad:Rs α).fl f=.bad:=(rfl)
section
variable {φ:List Addr} {H:Hp}
theorem post.fl {r:Rs PV} {f:PV->PH->Fl} {D:Ends} (h:bO C φ H (r.fl f) D):post C φ H r fun v H1=>∃ φ1 p h1,φ<+:φ1/\Kp H H1/\RH C φ1 H1 h1/\RV C φ1 H1 p v/\bO C φ1 H1 (f p h1) D:=by
 cases r with
 | ok a h'=>exact fun φ' v H' p t rh rv=>⟨φ',a,h',p,t,rh,rv,bO.weak p t h⟩
 | exc a h'=>exact h
 | bad=>exact h
theorem bN.fl {r:Rs Bool} {f:Bool->PH->Fl} {D:Ends} (h:bO C φ H (r.fl f) D):bN C φ H r fun b H1=>∃ φ1 h1,φ<+:φ1/\Kp H H1/\RH C φ1 H1 h1/\bO C φ1 H1 (f b h1) D:=by
 cases r with
 | ok a h'=>exact fun φ' H' p t rh=>⟨φ',h',p,t,rh,bO.weak p t h⟩
 | exc a h'=>exact h
 | bad=>exact h
theorem bO.nx {δ:Ev} {h:PH} {D:Ends} {σ:St} (q:bO C φ H (.nx δ h) D) (rh:RH C φ H h) (re:RE C φ H δ σ):D.nx σ H:=q φ σ H av (Kp.refl H) rh re
theorem bO.rt {p:PV} {h:PH} {D:Ends} {v:V} (q:bO C φ H (.rt p h) D) (rh:RH C φ H h) (rv:RV C φ H p v):D.rt v H:=q φ v H av (Kp.refl H) rh rv
end
abbrev Mg:=PV->Ev->Option Ev
abbrev Mgs:=List PV->Ev->Option Ev
def rdG (C:MC) (t:Mg):TG:=fun v σ H Q=>∃ φ δ h p δ',RH C φ H h/\RE C φ H δ σ/\RV C φ H p v/\t p δ=some δ'/\∀ σ',RE C φ H δ' σ'->Q σ' H
def SQ (C:MC) (t:Mgs):TGs:=fun vs σ H Q=>∃ φ δ h ps δ',RH C φ H h/\RE C φ H δ σ/\RVs C φ H ps vs/\t ps δ=some δ'/\∀ σ',RE C φ H δ' σ'->Q σ' H
def SG (C:MC) (k:Nat) (X:Cx) (e:Expr) (t:Mg):Prop:=Cxt C k X->PG X e (rdG C t)
def SGs (C:MC) (k:Nat) (X:Cx) (es:List Expr) (t:Mgs):Prop:=Cxt C k X->PGs X es (SQ C t)
def gN (i:Nat):Mg:=fun p δ=>some (δ.set i (some p))
def gNl:Mgs:=fun ps δ=>match ps with
 | []=>some δ
 | _ :: _=>none
def gCn (t:Mg) (u:Mgs):Mgs:=fun ps δ=>match ps with
 | p :: r=>(t p δ).bind (u r)
 | []=>none
def gTp (n:Nat) (u:Mgs):Mg:=fun p δ=>match p with
 | .tup ps=>if ps.length=n then u ps δ else none
 | _=>none
theorem PG.imp {e:Expr} {t t':TG} (h:PG X e t) (i:∀ v σ H Q,t' v σ H Q->t v σ H Q):PG X e t':=fun pins s σ H v u Q I r q=>h pins s σ H v u Q I r (i v σ H Q q)
theorem PGs.imp {es:List Expr} {t t':TGs} (h:PGs X es t) (i:∀ v σ H Q,t' v σ H Q->t v σ H Q):PGs X es t':=fun pins s σ H v u Q I r q=>h pins s σ H v u Q I r (i v σ H Q q)
theorem bC {i:Nat} {x:Str} {pos:Pos} (hN:X.N.Nodup) (hi:X.N[i]?=some x:=by rfl) (hx:Loc X.env.scope x:=by first | exact Or.inl rfl | exact Or.inr rfl) (hf:X.fn x=true\/X.env.scope.names.lookup x=some .local:=by first | exact .inl rfl | exact .inr rfl):SG C k X (.Name x pos) (gN i):=fun c=>
 (K8 hN hi hx hf).imp fun v σ H Q h=>by
  obtain ⟨φ,δ,h,p,δ',rh,re,rv,e,q⟩:=h;cases e
  exact q _ (re.set rv i)
theorem qE:SGs C k X [] gNl:=fun c=>K9.imp fun v σ H Q h=>by
 obtain ⟨φ,δ,h,ps,δ',rh,re,rv,e,q⟩:=h;cases ps with
 | nil=>
  cases e
  cases v with
  | nil=>exact ⟨rfl,q σ re⟩
  | cons=>exact rv.elim
 | cons=>cases e
theorem bV {e:Expr} {es:List Expr} {t:Mg} {u:Mgs} (h1:SG C k X e t) (h2:SGs C k X es u) (hs:(jr (e :: es) X.env).map (·.2)=assign e X.env :: (jr es X.env).map (·.2):=by rfl):SGs C k X (e :: es) (gCn t u):=fun c=>
 (Gn (h1 c) (h2 c) hs).imp fun vs σ H Q h=>by
  obtain ⟨φ,δ,h,ps,δ',rh,re,rv,e,q⟩:=h;cases ps with
  | nil=>cases e
  | cons p r=>
   cases vs with
   | nil=>exact rv.elim
   | cons v vs=>
    obtain ⟨δ1,e1,e2⟩:=Option.bind_eq_some_iff.mp (show (t p δ).bind (u r)=some δ' from e)
    exact ⟨v,vs,rfl,φ,δ,h,p,δ1,rh,re,rv.1,e1,fun σ' re'=>⟨φ,δ1,h,r,δ',rh,re',rv.2,e2,q⟩⟩
theorem qF {es:List Expr} {j:Nat} {u:Mgs} {n:Nat} {pos:Pos} (h:SGs C k X es u) (hn:(jr es X.env).length=n:=by rfl) (hst:(jr es X.env).findIdx? (·.1)=none:=by rfl):SG C k X (.Tuple es j pos) (gTp n u):=fun c=>
 (gT C.K c.K c.calm (h c) hn hst).imp fun v σ H Q h=>by
  obtain ⟨φ,δ,h,p,δ',rh,re,rv,e,q⟩:=h;cases p with
  | tup ps=>
   obtain ⟨a,vs,rfl,sa,ra⟩:=rv
   by_cases hl:ps.length=n
   ·have e':u ps δ=some δ':=by
     have:(if ps.length=n then u ps δ else none)=some δ':=e;rw [if_pos hl] at this;exact this
    exact ⟨a,vs,rfl,sa,by rw [<- ra.length]; exact hl,φ,δ,h,ps,δ',rh,re,ra,e',q⟩
   ·have:(if ps.length=n then u ps δ else none)=some δ':=e;rw [if_neg hl] at this;cases this
  | _=>cases e
theorem PS.imp {st:Stmt} {t t':TS} (h:PS X st t) (i:∀ D σ H,t' D σ H->t D σ H):PS X st t':=fun pins s σ H D I q=>h pins s σ H D I (i D σ H q)
theorem PSs.imp {st:List Stmt} {t t':TS} (h:PSs X st t) (i:∀ D σ H,t' D σ H->t D σ H):PSs X st t':=fun pins s σ H D I q=>h pins s σ H D I (i D σ H q)
def aQ (a b:Ms):Ms:=fun δ h=>match a δ h with
 | .nx δ1 h1=>b δ1 h1
 | r=>r
def fW:Ms:=fun δ h=>.nx δ h
def SR:Ms:=fun δ h=>.bk δ h
def SS:Ms:=fun δ h=>.ct δ h
def aZ (i:Nat) (m:Me):Ms:=fun δ h=>(m δ h).fl fun p h1=>.nx (δ.set i (some p)) h1
def B1 (m:Me) (t:Mg):Ms:=fun δ h=>(m δ h).fl fun p h1=>match t p δ with
 | some δ'=>.nx δ' h1
 | none=>.bad
def yU (m:Me):Ms:=fun δ h=>(m δ h).fl fun _ h1=>.nx δ h1
def cZ (m:Me):Ms:=fun δ h=>(m δ h).fl fun p h1=>.rt p h1
def QB:Ms:=fun _ h=>.rt .non h
def fX (t:Ev->PH->Rs Bool) (a b:Ms):Ms:=fun δ h=>(t δ h).fl fun c h1=>match c with
 | true=>a δ h1
 | false=>b δ h1
section
variable {st:Stmt} {rest:List Stmt} {a b:Ms} {e:Expr} {m:Me} {pos:Pos}
theorem eC:SSs C k X [] fW:=fun c=>K4.imp fun D σ H h=>by
 obtain ⟨φ,δ,h,rh,re,p⟩:=h;exact p.nx rh re
theorem O5 {φ:List Addr} {H:Hp} {r:Fl} {b:Ms} {D:Ends} (h:bO C φ H (match r with | .nx δ1 h1=>b δ1 h1 | r=>r) D):bO C φ H r { D with nx:=rdS C b D }:=by
 cases r with
 | nx δ h'=>exact fun φ' σ H' p t rh re=>⟨φ',δ,h',rh,re,bO.weak p t h⟩
 | rt p h'=>exact h
 | bk δ h'=>exact h
 | ct δ h'=>exact h
 | exc x h'=>exact h
 | bad=>exact h
theorem aF (h1:SSt C k X st a) (h2:SSs C k X rest b):SSs C k X (st :: rest) (aQ a b):=fun c=>(Gk (h1 c) (h2 c)).imp fun D σ H h=>by
 obtain ⟨φ,δ,h,rh,re,p⟩:=h;exact ⟨φ,δ,h,rh,re,O5 p⟩
theorem aM (h1:SSt C k X st a):SSs C k X [st] a:=fun c=>K5 (h1 c)
theorem O6:SSt C k X (.Pass pos) fW:=fun c=>K6.imp fun D σ H h=>by
 obtain ⟨φ,δ,h,rh,re,p⟩:=h;exact p.nx rh re
theorem bD {i:Nat} {x:Str} {pos':Pos} (hN:X.N.Nodup) (he:SE C k X e m) (hi:X.N[i]?=some x:=by rfl) (hx:Loc X.env.scope x:=by first | exact Or.inl rfl | exact Or.inr rfl) (hs:swapsWith e (some (.Name x pos')) pos.line X.env=pure false:=by rfl)
  (hf:X.fn x=true\/X.env.scope.names.lookup x=some .local:=by first | exact .inl rfl | exact .inr rfl):SSt C k X (.Assign [.Name x pos'] e pos) (aZ i m):=fun c=>(Nl hN hi hx (he c) hs hf).imp fun D σ H h=>by
 obtain ⟨φ,δ,h,rh,re,p⟩:=h;refine ⟨φ,δ,h,rh,re,(post.fl p).imp ?_⟩;rintro v H1 ⟨φ1,x,h1,p1,t1,rh1,rv1,q1⟩;exact q1.nx rh1 ((re.mono p1 t1).set rv1 i)
theorem B2 {tg:Expr} {t:Mg} (he:SE C k X e m) (hg:SG C k X tg t) (hs:swapsWithSole [tg] e pos.line X.env=pure false:=by rfl) (hw:swappedStores [tg] e X.env=pure none:=by rfl)
  (h1:(jr [tg] X.env).map (·.2)=[assign tg X.env]:=by rfl):SSt C k X (.Assign [tg] e pos) (B1 m t):=fun c=>(Nk (he c) (hg c) hs hw h1).imp fun D σ H h=>by
 obtain ⟨φ,δ,h,rh,re,p⟩:=h;refine ⟨φ,δ,h,rh,re,(post.fl p).imp ?_⟩;rintro v H1 ⟨φ1,x,h1,p1,t1,rh1,rv1,q1⟩;cases et:t x δ with
 | none=>rw [et] at q1; exact q1.elim
 | some δ'=>
  rw [et] at q1;exact ⟨φ1,δ,h1,x,δ',rh1,re.mono p1 t1,rv1,et,fun σ' re'=>q1.nx rh1 re'⟩
theorem Ee (he:SE C k X e m) (hs:swapsWith e none pos.line X.env=pure false:=by rfl):SSt C k X (.Expr e pos) (yU m):=fun c=>(K7 (he c) hs).imp fun D σ H h=>by
 obtain ⟨φ,δ,h,rh,re,p⟩:=h;refine ⟨φ,δ,h,rh,re,(post.fl p).imp ?_⟩;rintro v H1 ⟨φ1,x,h1,p1,t1,rh1,rv1,q1⟩;exact q1.nx rh1 (re.mono p1 t1)
theorem cS (he:SE C k X e m):SSt C k X (.Return (some e) pos) (cZ m):=fun c=>(Nh (he c)).imp fun D σ H h=>by
 obtain ⟨φ,δ,h,rh,re,p⟩:=h;refine ⟨φ,δ,h,rh,re,(post.fl p).imp ?_⟩;rintro v H1 ⟨φ1,x,h1,p1,t1,rh1,rv1,q1⟩;exact q1.rt rh1 rv1
theorem nE {cnd:Expr} {as bs:List Stmt} {t:Ev->PH->Rs Bool} (hc:ST C k X cnd t) (ha:SSs C k X as a) (hb:SSs C k X bs b):SSt C k X (.If cnd as bs pos) (fX t a b):=fun c=>(PP (hc c) (ha c) (hb c)).imp fun D σ H h=>by
 obtain ⟨φ,δ,h,rh,re,p⟩:=h;refine ⟨φ,δ,h,rh,re,(bN.fl p).imp ?_⟩;rintro d H1 ⟨φ1,h1,p1,t1,rh1,q1⟩;cases d with
 | true=>exact GI ⟨φ1,δ,h1,rh1,re.mono p1 t1,q1⟩
 | false=>exact GH ⟨φ1,δ,h1,rh1,re.mono p1 t1,q1⟩
end
structure Wk where
 xs:List PV
 g:PH->Bool
def Fy (C:MC) (J:It) (w:Wk) (φ0:List Addr) (H0:Hp):Prop:=∀ φ H h,φ0<+:φ->Kp H0 H->RH C φ H h->w.g h=true->∀ i:Nat,
 (i < w.xs.length->J.go i H/\∀ x H',J.yld i H x H'->(∃ p,w.xs[i]?=some p/\RV C φ H' p x)/\Kp H H'/\RH C φ H' h)/\(w.xs.length<=i->J.stop i H)
abbrev Mi:=Ev->PH->Rs Wk
def dN (C:MC) (φ:List Addr) (H:Hp) (r:Rs Wk) (R:It->Hp->Prop):Prop:=match r with
 | .ok w h=>∀ φ' H' J,φ<+:φ'->Kp H H'->RH C φ' H' h->Fy C J w φ' H'->R J H'
 | .exc x h=>∀ φ' H',φ<+:φ'->Kp H H'->RH C φ' H' h->C.ex φ' H' x
 | .bad=>False
def rdI (C:MC) (m:Mi):TI:=fun σ H R=>∃ φ δ h,RH C φ H h/\RE C φ H δ σ/\dN C φ H (m δ h) R
def SI (C:MC) (k:Nat) (X:Cx) (tg iter:Expr) (m:Mi):Prop:=Cxt C k X->PI X tg iter (rdI C m)
def tB (n:Nat) (xs:List PV) (h':PH):Bool:=match aX h' n with
 | some ys=>PV.beqs ys xs
 | none=>false
def ofSeq (x:PV) (h:PH):Rs Wk:=match x with
 | .tup xs=>.ok ⟨xs,fun _=>true⟩ h
 | .ref n=>match aX h n with
  | some xs=>.ok ⟨xs,tB n xs⟩ h
  | none=>.bad
 | .fl xs=>.ok ⟨xs,fun _=>true⟩ h
 | _=>.bad
def dB (m:Me):Mi:=fun δ h=>(m δ h).bind ofSeq
theorem B3 {tg iter:Expr} {m:Me} (h:SE C k X iter m):SI C k X tg iter (dB m):=fun c=>by
 intro pins s σ H R I q;obtain ⟨φ,δ,hh,rh,re,p⟩:=q;have key:rd C m σ H fun v H1=>∃ φ1 x h1,φ<+:φ1/\Kp H H1/\RH C φ1 H1 h1/\RV C φ1 H1 x v/\dN C φ1 H1 (ofSeq x h1) R:=by
  refine ⟨φ,δ,hh,rh,re,?_⟩;unfold dB at p;cases e:m δ hh with
  | ok x h1=>
   rw [e] at p;intro φ' v H' p' t' rh' rv';refine ⟨φ',x,h1,p',t',rh',rv',?_⟩
   show dN C φ' H' (ofSeq x h1) R
   have p0:dN C φ H (ofSeq x h1) R:=p;cases e2:ofSeq x h1 with
   | ok w h2=>rw [e2] at p0; exact fun φ2 H2 J p2 t2=>p0 φ2 H2 J (p'.trans p2) (t'.trans t2)
   | exc z h2=>rw [e2] at p0; exact fun φ2 H2 p2 t2=>p0 φ2 H2 (p'.trans p2) (t'.trans t2)
   | bad=>rw [e2] at p0; exact p0
  | exc x h1=>rw [e] at p; exact p
  | bad=>rw [e] at p; exact p
 refine thn (h c pins s σ H _ I key) fun v s1 hz=>?_;obtain ⟨x,H1,I1,r1,φ1,x',h1,p1,t1,rh1,rv1,q1⟩:=hz;unfold ofSeq at q1;cases x' with
 | tup xs=>
  obtain ⟨a,vs,rfl,sa,ra⟩:=rv1;cases r1
  rw [<- c.K] at sa;obtain ⟨its,rv,p,hz⟩:=I1.tuple sa;refine wpAny_pyIter_tuple (show s1.heap.IsTuple a its.toArray from p) ?_
  refine ⟨s1.heap.objs.size,[s1.heap.objs.size],_,_,H1,rfl,I1.kept (t':=s1.toks) fun b o e=>ab _ e,Cg a _,⟨_,ax _ rfl,rfl,rfl⟩,fun b hb=>?_,?_⟩
  ·have e:b=s1.heap.objs.size:=by simpa using hb
   subst e;exact I1.fpOk (bj _) (I1.hok.fresh (bj _))
  ·refine q1 φ1 H1 (Itt X.K a) av (Kp.refl H1) rh1 fun φ2 H2 h2 p2 t2 rh2 _ i=>⟨fun hi=>?_,fun hi=>⟨vs,t2.sq sa,by rw [<- ra.length]; exact hi⟩⟩;have hi':i < vs.length:=by rw [<- ra.length]; exact hi
   refine ⟨⟨vs,vs[i],t2.sq sa,by simp [hi']⟩,fun x H' y=>?_⟩;obtain ⟨e,y⟩:=y;subst e;obtain ⟨x2,e2,r2⟩:=ra.get (y vs (t2.sq sa));exact ⟨⟨x2,e2,r2.mono p2 t2⟩,Kp.refl _,rh2⟩
 | ref n=>
  obtain ⟨a,rfl,ha⟩:=rv1;cases r1
  dsimp only at q1;cases e:aX h1 n with
  | none=>rw [e] at q1; exact q1.elim
  | some xs=>
   rw [e] at q1;obtain ⟨a2,vs,ha2,sa,ra⟩:=cA rh1 e;rw [ha] at ha2; cases ha2;have sa':SqL X.K H1 a vs:=by rw [c.K]; exact sa
   obtain ⟨its,rv,p,hz⟩:=I1.list sa';refine wpAny_pyIter_list p.isList ?_;refine ⟨s1.heap.objs.size,[s1.heap.objs.size],_,_,H1,rfl,I1.kept (t':=s1.toks) fun b o e=>ab _ e,vW a _,⟨_,ax _ rfl,rfl,rfl⟩,fun b hb=>?_,?_⟩
   ·have e:b=s1.heap.objs.size:=by simpa using hb
    subst e;exact I1.fpOk (bj _) (I1.hok.fresh (bj _))
   ·refine q1 φ1 H1 (Itl X.K a) av (Kp.refl H1) rh1 fun φ2 H2 h2 p2 t2 rh2 hg i=>?_;have hg:(match aX h2 n with | some ys=>PV.beqs ys xs | none=>false)=true:=hg
    cases e2:aX h2 n with
    | none=>rw [e2] at hg; cases hg
    | some ys=>
     rw [e2] at hg;have hxy:=PV.beqs_eq hg;subst hxy;obtain ⟨a3,us,ha3,su,ru⟩:=cA rh2 e2;rw [fZ p2 ha] at ha3; cases ha3;rw [<- c.K] at su;refine ⟨fun hi=>?_,fun hi=>⟨us,su,by rw [<- ru.length]; exact hi⟩⟩;have hi':i < us.length:=by rw [<- ru.length]; exact hi
     refine ⟨⟨us,us[i],su,by simp [hi']⟩,fun x H' y=>?_⟩;obtain ⟨e,y⟩:=y;subst e;obtain ⟨x2,e2,r2⟩:=ru.get (y us su);exact ⟨⟨x2,e2,r2⟩,Kp.refl _,rh2⟩
 | fl xs=>
  obtain ⟨a,vs,rfl,sa,ra⟩:=rv1;cases r1
  rw [<- c.K] at sa;obtain ⟨its,rv,p,hz⟩:=I1.list sa.sq;refine wpAny_pyIter_list p.isList ?_;refine ⟨s1.heap.objs.size,[s1.heap.objs.size],_,_,H1,rfl,I1.kept (t':=s1.toks) fun b o e=>ab _ e,vW a _,⟨_,ax _ rfl,rfl,rfl⟩,fun b hb=>?_,?_⟩
  ·have e:b=s1.heap.objs.size:=by simpa using hb
   subst e;exact I1.fpOk (bj _) (I1.hok.fresh (bj _))
  ·refine q1 φ1 H1 (Itl X.K a) av (Kp.refl H1) rh1 fun φ2 H2 h2 p2 t2 rh2 _ i=>⟨fun hi=>?_,fun hi=>⟨vs,(t2.sf sa).sq,by rw [<- ra.length]; exact hi⟩⟩;have hi':i < vs.length:=by rw [<- ra.length]; exact hi
   refine ⟨⟨vs,vs[i],(t2.sf sa).sq,by simp [hi']⟩,fun x H' y=>?_⟩;obtain ⟨e,y⟩:=y;subst e;obtain ⟨x2,e2,r2⟩:=ra.get (y vs (t2.sf sa).sq);exact ⟨⟨x2,e2,r2.mono p2 t2⟩,Kp.refl _,rh2⟩
 | _=>exact q1.elim
def upTo (lo:Int):Nat->List PV
 | 0=>[]
 | n+1=>.int lo :: upTo (lo+1) n
theorem cL:∀ (n:Nat) (lo:Int),(upTo lo n).length=n
 | 0,_=>rfl
 | n+1,lo=>by simp [upTo,cL n]
theorem nF:∀ (n:Nat) (lo:Int) (i:Nat),i < n->(upTo lo n)[i]?=some (.int (lo+i))
 | 0,_,_,h=>by omega
 | n+1,lo,0,_=>by simp [upTo]
 | n+1,lo,i+1,h=>by
  simp only [upTo,d4];rw [nF n (lo+1) i (by omega)]
  congr 2
  omega
open Classical in
noncomputable def Hl:List PV->PH->Rs Wk:=fun xs h=>match xs with
 | [.int j]=>if -(2 ^ 62)<=j/\j < 2 ^ 62 then .ok ⟨upTo 0 j.toNat,fun _=>true⟩ h else .bad
 | _=>.bad
open Classical in
noncomputable def Hm:List PV->PH->Rs Wk:=fun xs h=>match xs with
 | [.int i,.int j]=>if -(2 ^ 62)<=i/\i < 2 ^ 62/\-(2 ^ 62)<=j/\j < 2 ^ 62 then .ok ⟨upTo i (j - i).toNat,fun _=>true⟩ h else .bad
 | _=>.bad
noncomputable def wU (ms:Ma):Mi:=fun δ h=>(ms δ h).bind Hl
noncomputable def B4 (ms:Ma):Mi:=fun δ h=>(ms δ h).bind Hm
theorem Hn (lo:Int) (n:Nat) (φ:List Addr) (H:Hp):Fy C (Itr lo n) ⟨upTo lo n,fun _=>true⟩ φ H:=fun φ2 H2 h2 p2 t2 rh2 _ i=>by
 refine ⟨fun hi=>?_,fun hi=>?_⟩
 ·have hi':i < n:=by rw [<- cL n lo]; exact hi
  refine ⟨hi',fun x H' y=>?_⟩;obtain ⟨e,y⟩:=y;subst e y;exact ⟨⟨.int (lo+i),nF n lo i hi',rfl⟩,Kp.refl _,rh2⟩
 ·have:(upTo lo n).length<=i:=hi;rw [cL] at this;exact this
theorem postA.bindI {φ:List Addr} {H:Hp} {r:Rs (List PV)} {f:List PV->PH->Rs Wk} {R:It->Hp->Prop} (h:dN C φ H (r.bind f) R):postA C φ H r fun vs H1=>∃ φ1 ps h1,φ<+:φ1/\Kp H H1/\RH C φ1 H1 h1/\RVs C φ1 H1 ps vs/\dN C φ1 H1 (f ps h1) R:=by
 cases r with
 | ok a h'=>
  intro φ' v H' p' t' rh rv;refine ⟨φ',a,h',p',t',rh,rv,?_⟩;have p0:dN C φ H (f a h') R:=h;cases e2:f a h' with
  | ok w h2=>rw [e2] at p0; exact fun φ2 H2 J p2 t2=>p0 φ2 H2 J (p'.trans p2) (t'.trans t2)
  | exc z h2=>rw [e2] at p0; exact fun φ2 H2 p2 t2=>p0 φ2 H2 (p'.trans p2) (t'.trans t2)
  | bad=>rw [e2] at p0; exact p0
 | exc a h'=>exact h
 | bad=>exact h
theorem PI.imp {tg iter:Expr} {t t':TI} (h:PI X tg iter t) (i:∀ σ H R,t' σ H R->t σ H R):PI X tg iter t':=fun pins s σ H R I q=>h pins s σ H R I (i σ H R q)
theorem CY {x:Expr} {ms:Ma} {tg:Expr} {p pos:Pos} (ha:SA C k X [x] ms) (hb:("range" : Str)∈C.bs:=by decide) (hg:Gl X "range" := by rfl) (hs:b9 [x] X.env=[(false,eval x X.env)]:=by rfl):SI C k X tg (.Call (.Name "range" p) [x] [] pos) (wU ms):=fun c=>
 (pr1 hg (c.bn _ hb) (ha c) hs).imp fun σ H R h=>by
  obtain ⟨φ,δ,h,rh,re,p⟩:=h;refine ⟨φ,δ,h,rh,re,(postA.bindI p).imp ?_⟩;rintro vs H1 ⟨φ1,xs,h1,p1,t1,rh1,rv1,q1⟩;unfold Hl at q1;split at q1
  ·obtain ⟨v,rfl,rx⟩:=rv1.one;cases rx
   rename_i j
   by_cases hj:-(2 ^ 62)<=j/\j < 2 ^ 62
   ·rw [if_pos hj] at q1;exact ⟨hj,q1 φ1 H1 _ av (Kp.refl _) rh1 (Hn 0 j.toNat φ1 H1)⟩
   ·rw [if_neg hj] at q1; exact q1.elim
  ·exact q1.elim
theorem Ho {x y:Expr} {ms:Ma} {tg:Expr} {p pos:Pos} (ha:SA C k X [x,y] ms) (hb:("range" : Str)∈C.bs:=by decide) (hg:Gl X "range" := by rfl) (hs:b9 [x,y] X.env=[(false,eval x X.env),(false,eval y X.env)]:=by rfl) (hs2:b9 [y] X.env=[(false,eval y X.env)]:=by rfl):
  SI C k X tg (.Call (.Name "range" p) [x,y] [] pos) (B4 ms):=fun c=>
 (pr2 hg (c.bn _ hb) (ha c) hs hs2).imp fun σ H R h=>by
  obtain ⟨φ,δ,h,rh,re,p⟩:=h;refine ⟨φ,δ,h,rh,re,(postA.bindI p).imp ?_⟩;rintro vs H1 ⟨φ1,xs,h1,p1,t1,rh1,rv1,q1⟩;unfold Hm at q1;split at q1
  ·obtain ⟨v,w,rfl,rx,ry⟩:=rv1.two;cases rx; cases ry;rename_i i j
   by_cases hj:-(2 ^ 62)<=i/\i < 2 ^ 62/\-(2 ^ 62)<=j/\j < 2 ^ 62
   ·rw [if_pos hj] at q1;exact ⟨hj,q1 φ1 H1 _ av (Kp.refl _) rh1 (Hn i (j - i).toNat φ1 H1)⟩
   ·rw [if_neg hj] at q1; exact q1.elim
  ·exact q1.elim
def fE (g:PH->Bool) (tg:Mg) (body:Ms):List PV->Ev->PH->Fl
 | [],δ,h=>if g h=true then .nx δ h else .bad
 | x :: xs,δ,h=>if g h=true then (match tg x δ with
  | none=>.bad
  | some δ1=>match body δ1 h with
   | .nx δ2 h2=>fE g tg body xs δ2 h2
   | .ct δ2 h2=>fE g tg body xs δ2 h2
   | .bk δ2 h2=>.nx δ2 h2
   | r=>r) else .bad
def jC (mi:Mi) (tg:Mg) (body:Ms):Ms:=fun δ h=>(mi δ h).fl fun w h1=>fE w.g tg body w.xs δ h1
theorem dN.fl {φ:List Addr} {H:Hp} {r:Rs Wk} {f:Wk->PH->Fl} {D:Ends} (h:bO C φ H (r.fl f) D):dN C φ H r fun J H1=>∃ φ1 w h1,φ<+:φ1/\Kp H H1/\RH C φ1 H1 h1/\Fy C J w φ1 H1/\bO C φ1 H1 (f w h1) D:=by
 cases r with
 | ok a h'=>exact fun φ' H' J p t rh wk=>⟨φ',a,h',p,t,rh,wk,bO.weak p t h⟩
 | exc a h'=>exact h
 | bad=>exact h
theorem dN.imp {φ:List Addr} {H:Hp} {r:Rs Wk} {Q Q':It->Hp->Prop} (h:dN C φ H r Q) (i:∀ v H',Q v H'->Q' v H'):dN C φ H r Q':=by
 cases r with
 | ok a h'=>exact fun φ' H' J p t rh wk=>i J H' (h φ' H' J p t rh wk)
 | exc a h'=>exact h
 | bad=>exact h
theorem drop_cons {α:Type} {xs:List α} {i:Nat} {p:α} (h:xs[i]?=some p):xs.drop i=p :: xs.drop (i+1):=by
 obtain ⟨h1,h2⟩:=ae.mp h;rw [dj h1,h2]
theorem KL {J:It} {w:Wk} {φ0:List Addr} {H0:Hp} {tg:Mg} {body:Ms} {D:Ends} {σ:St} {δ:Ev} {h:PH} (wk:Fy C J w φ0 H0) (rh:RH C φ0 H0 h) (re:RE C φ0 H0 δ σ) (p:bO C φ0 H0 (fE w.g tg body w.xs δ h) D):
  ∃ W:Nat->Nat->St->Hp->Prop,(∃ m,W 0 m σ H0)/\∀ i m σ H,W i m σ H->
   (J.stop i H/\D.nx σ H)\/(J.go i H/\∃ N:St->Hp->Prop,(∀ σ' H',N σ' H'->∃ m',m' < m/\W (i+1) m' σ' H')/\∀ x H',J.yld i H x H'->rdG C tg x σ H' fun σ2 H2=>rdS C body { D with nx:=N,ct:=N,bk:=D.nx } σ2 H2):=by
 refine ⟨fun i m σ H=>m=w.xs.length - i/\i<=w.xs.length/\∃ φ δ h,φ0<+:φ/\Kp H0 H/\RH C φ H h/\RE C φ H δ σ/\bO C φ H (fE w.g tg body (w.xs.drop i) δ h) D,
  ⟨w.xs.length,by simp,dv _,φ0,δ,h,av,Kp.refl _,rh,re,by rw [d0]; exact p⟩,?_⟩
 rintro i m σ H ⟨rfl,hi,φ,δ,h,pp,tt,rh,re,p⟩
 by_cases hlt:i < w.xs.length
 ·have hd:w.xs.drop i=w.xs[i] :: w.xs.drop (i+1):=drop_cons (by simp [hlt]);rw [hd] at p;unfold fE at p
  by_cases hg:w.g h=true
  ·rw [if_pos hg] at p;obtain ⟨go,step⟩:=(wk φ H h pp tt rh hg i).1 hlt;refine .inr ⟨go,fun σ' H'=>∃ φ δ h,φ0<+:φ/\Kp H0 H'/\RH C φ H' h/\RE C φ H' δ σ'/\bO C φ H' (fE w.g tg body (w.xs.drop (i+1)) δ h) D,fun σ' H' ⟨φ',δ',h',q⟩=>⟨w.xs.length - (i+1),by omega,rfl,hlt,φ',δ',h',q⟩,fun x H' y=>?_⟩;obtain ⟨⟨q,eq,rv⟩,t1,rh1⟩:=step x H' y;have eq':w.xs[i]=q:=by
    have:w.xs[i]?=some w.xs[i]:=by simp [hlt]
    rw [this] at eq;exact b8 eq
   rw [eq'] at p;cases et:tg q δ with
   | none=>rw [et] at p; exact p.elim
   | some δ1=>
    rw [et] at p;dsimp only at p;refine ⟨φ,δ,h,q,δ1,rh1,re.mono av t1,rv,et,fun σ2 re2=>⟨φ,δ1,h,rh1,re2,?_⟩⟩;have p:=bO.weak av t1 p;cases eb:body δ1 h with
    | nx δ2 h2=>rw [eb] at p; exact fun φ3 σ3 H3 p3 t3 rh3 re3=>⟨φ3,δ2,h2,pp.trans p3,(tt.trans t1).trans t3,rh3,re3,bO.weak p3 t3 p⟩
    | ct δ2 h2=>rw [eb] at p; exact fun φ3 σ3 H3 p3 t3 rh3 re3=>⟨φ3,δ2,h2,pp.trans p3,(tt.trans t1).trans t3,rh3,re3,bO.weak p3 t3 p⟩
    | bk δ2 h2=>rw [eb] at p; exact p
    | rt z h2=>rw [eb] at p; exact p
    | exc z h2=>rw [eb] at p; exact p
    | bad=>rw [eb] at p; exact p
  ·rw [if_neg hg] at p;exact p.elim
 ·have e:i=w.xs.length:=by omega
  subst e;rw [List.drop_length] at p;unfold fE at p
  by_cases hg:w.g h=true
  ·rw [if_pos hg] at p;exact .inl ⟨(wk φ H h pp tt rh hg _).2 (bj _),p.nx rh re⟩
  ·rw [if_neg hg] at p;exact p.elim
theorem tD {tg iter:Expr} {body:List Stmt} {mi:Mi} {t:Mg} {mb:Ms} {pos:Pos} (hi:SI C k X tg iter mi) (hg:SG C k X tg t) (hb:SSs C k X body mb) (hp:PassesOwn (model X.prog X.w) X.A X.env X.xe:=by exact PassesOwn.never)
  (hs:∀ x,jh iter X.env x=pure x:=by intro _; rfl):SSt C k X (.For tg iter body [] pos) (jC mi t mb):=fun c=>(Np hp c.calm (hi c) (hg c) (hb c) hs).imp fun D σ H h=>by
 obtain ⟨φ,δ,h,rh,re,p⟩:=h;refine ⟨φ,δ,h,rh,re,(dN.fl p).imp ?_⟩;rintro J H1 ⟨φ1,w,h1,p1,t1,rh1,wk,q1⟩;exact KL wk rh1 (re.mono p1 t1) q1
def B5 (t:Ev->PH->Rs Bool) (body:Ms):Nat->Ev->PH->Fl
 | 0,_,_=>.bad
 | n+1,δ,h=>(t δ h).fl fun b h1=>match b with
  | false=>.nx δ h1
  | true=>match body δ h1 with
   | .nx δ2 h2=>B5 t body n δ2 h2
   | .ct δ2 h2=>B5 t body n δ2 h2
   | .bk δ2 h2=>.nx δ2 h2
   | r=>r
def Hq (n:Nat) (t:Ev->PH->Rs Bool) (body:Ms):Ms:=B5 t body n
theorem KM {n:Nat} {cnd:Expr} {body:List Stmt} {t:Ev->PH->Rs Bool} {mb:Ms} {pos:Pos} (hc:ST C k X cnd t) (hb:SSs C k X body mb) (hp:PassesOwn (model X.prog X.w) X.A X.env X.xe:=by exact PassesOwn.never):SSt C k X (.While cnd body [] pos) (Hq n t mb):=fun c=>
 (Gp hp (hc c) (hb c)).imp fun D σ H h=>by
  refine ⟨fun m σ H=>∃ φ δ h,RH C φ H h/\RE C φ H δ σ/\bO C φ H (B5 t mb m δ h) D,⟨n,h⟩,?_⟩;rintro m σ H ⟨φ,δ,h,rh,re,p⟩;cases m with
  | zero=>exact p.elim
  | succ m=>
   refine ⟨φ,δ,h,rh,re,(bN.fl p).imp ?_⟩;rintro b H1 ⟨φ1,h1,p1,t1,rh1,q1⟩;cases b with
   | false=>exact GH (q1.nx rh1 (re.mono p1 t1))
   | true=>
    refine GI ⟨fun σ' H'=>∃ φ δ h,RH C φ H' h/\RE C φ H' δ σ'/\bO C φ H' (B5 t mb m δ h) D,fun σ' H' q=>⟨m,k8 m,q⟩,φ1,δ,h1,rh1,re.mono p1 t1,?_⟩;dsimp only at q1;cases eb:mb δ h1 with
    | nx δ2 h2=>rw [eb] at q1; exact fun φ3 σ3 H3 p3 t3 rh3 re3=>⟨φ3,δ2,h2,rh3,re3,bO.weak p3 t3 q1⟩
    | ct δ2 h2=>rw [eb] at q1; exact fun φ3 σ3 H3 p3 t3 rh3 re3=>⟨φ3,δ2,h2,rh3,re3,bO.weak p3 t3 q1⟩
    | bk δ2 h2=>rw [eb] at q1; exact q1
    | rt z h2=>rw [eb] at q1; exact q1
    | exc z h2=>rw [eb] at q1; exact q1
    | bad=>rw [eb] at q1; exact q1
end L2
namespace L2
open PySem PySem.Spec PyProof.Rows
variable {C:MC} {k:Nat} {X:Cx}
def oX (js:List (Option Nat)) (δ:Ev):Ev:=js.map fun o=>match o with
 | none=>none
 | some j=>nD δ j
theorem Ef:∀ {σ:St} {i:Nat} {v:V},σ[i]?=some (some v)->GS σ i=some v
 | [],_,_,h=>by simp at h
 | x :: _,0,v,h=>by
  have:x=some v:=by simpa using h
  exact this
 | _ :: r,n+1,v,h=>Ef (σ:=r) (i:=n) (by simpa using h)
theorem RE.cap {φ:List Addr} {H:Hp} {δ:Ev} {σ:St} (re:RE C φ H δ σ) (js:List (Option Nat)):RE C φ H (oX js δ) (iD js σ):=by
 refine ⟨by simp [oX,iD],fun i p e=>?_⟩;unfold oX at e;unfold iD;rw [bf] at e ⊢;cases q:js[i]? with
 | none=>rw [q] at e; cases e
 | some o=>
  rw [q] at e;cases o with
  | none=>cases e
  | some j=>
   obtain ⟨v,hv,rv⟩:=re.2 j p (sO (b8 e));exact ⟨v,by show some (GS σ j)=_; rw [Ef hv],rv⟩
def iV (g:PH->Bool) (tg:Mg) (tst:Ev->PH->Rs Bool) (elt:Me) (δ0:Ev) (n:Nat):List PV->PH->Rs PV
 | [],h=>if g h=true then .ok (.ref n) h else .bad
 | x :: xs,h=>if g h=true then (match tg x δ0 with
  | none=>.bad
  | some δ1=>(tst δ1 h).bind fun b h1=>match b with
   | false=>iV g tg tst elt δ0 n xs h1
   | true=>(elt δ1 h1).bind fun p h2=>match dY h2 n with
    | some ys=>if ys.length < az then iV g tg tst elt δ0 n xs (h2.set n (.lst (ys++[p]))) else .bad
    | none=>.bad) else .bad
def dC (js:List (Option Nat)) (mi:Mi) (tg:Mg) (tst:Ev->PH->Rs Bool) (elt:Me):Me:=fun δ h=>(mi δ h).bind fun w h1=>iV w.g tg tst elt (oX js δ) h1.length w.xs (h1++[.lst []])
def mB:Ev->PH->Rs Bool:=fun _ h=>.ok true h
def STs (C:MC) (k:Nat) (X:Cx) (es:List Expr) (m:Ev->PH->Rs Bool):Prop:=Cxt C k X->PTs X es (rdB C m)
theorem yV:STs C k X [] mB:=fun c pins s σ H Q I h=>by
 obtain ⟨φ,δ,h,rh,re,p⟩:=h;exact Kt pins s σ H Q I (p.val rh)
theorem O7 {e:Expr} {m:Ev->PH->Rs Bool} (h:ST C k X e m):STs C k X [e] m:=fun c=>Ku (h c)
theorem dN.bind {φ:List Addr} {H:Hp} {r:Rs Wk} {f:Wk->PH->Rs PV} {Q:VK} (h:post C φ H (r.bind f) Q):dN C φ H r fun J H1=>∃ φ1 w h1,φ<+:φ1/\Kp H H1/\RH C φ1 H1 h1/\Fy C J w φ1 H1/\post C φ1 H1 (f w h1) Q:=by
 cases r with
 | ok a h'=>exact fun φ' H' J p t rh wk=>⟨φ',a,h',p,t,rh,wk,post.weak p t h⟩
 | exc a h'=>exact h
 | bad=>exact h
theorem Hr {J:It} {w:Wk} {φ0:List Addr} {H0:Hp} {tg:Mg} {tst:Ev->PH->Rs Bool} {elt:Me} {Q:VK} {σ:St} {δ:Ev} {h:PH} {js:List (Option Nat)} (wk:Fy C J w φ0 H0) (rh:RH C φ0 H0 h) (re:RE C φ0 H0 δ σ)
  (p:post C φ0 H0 (iV w.g tg tst elt (oX js δ) h.length w.xs (h++[.lst []])) Q) (acc:Addr) (hacc:H0 acc=none):
  ∃ W:Nat->Nat->Hp->Prop,(∃ m,W 0 m (upd H0 acc (.lst [])))/\∀ i m H2,W i m H2->
   (J.stop i H2/\Q (.ref acc) H2)\/(J.go i H2/\∃ N:Hp->Prop,(∀ H',N H'->∃ m',m' < m/\W (i+1) m' H')/\∀ x H3,J.yld i H2 x H3->MP js (rdG C tg) (rdB C tst) (rd C elt) σ acc x H3 N):=by
 have hlen:(φ0++[acc])[h.length]?=some acc:=by rw [<- rh.len]; simp
 refine ⟨fun i m H=>m=w.xs.length - i/\i<=w.xs.length/\∃ φ h',(φ0++[acc])<+:φ/\Kp H0 H/\RH C φ H h'/\post C φ H (iV w.g tg tst elt (oX js δ) h.length (w.xs.drop i) h') Q,
  ⟨w.xs.length,by simp,dv _,φ0++[acc],h++[.lst []],av,Kp.new hacc,rh.new (o:=.lst []) hacc ⟨[],aW,trivial⟩,by rw [d0]; exact post.weak (dn _ _) (Kp.new hacc) p⟩,?_⟩
 rintro i m H ⟨rfl,hi,φ,h',pp,tt,rh',p⟩;have pp0:φ0<+:φ:=(dn _ _).trans pp
 by_cases hlt:i < w.xs.length
 ·have hd:w.xs.drop i=w.xs[i] :: w.xs.drop (i+1):=drop_cons (by simp [hlt]);rw [hd] at p;unfold iV at p
  by_cases hg:w.g h'=true
  ·rw [if_pos hg] at p;obtain ⟨go,step⟩:=(wk φ H h' pp0 tt rh' hg i).1 hlt;refine .inr ⟨go,fun H'=>∃ φ h',(φ0++[acc])<+:φ/\Kp H0 H'/\RH C φ H' h'/\post C φ H' (iV w.g tg tst elt (oX js δ) h.length (w.xs.drop (i+1)) h') Q,fun H' ⟨φ',h',q⟩=>⟨w.xs.length - (i+1),by omega,rfl,hlt,φ',h',q⟩,fun x H' y=>?_⟩;obtain ⟨⟨q,eq,rv⟩,t1,rh1⟩:=step x H' y;have eq':w.xs[i]=q:=by
    have:w.xs[i]?=some w.xs[i]:=by simp [hlt]
    rw [this] at eq;exact b8 eq
   rw [eq'] at p;cases et:tg q (oX js δ) with
   | none=>rw [et] at p; exact p.elim
   | some δ1=>
    rw [et] at p;have re1:RE C φ H' (oX js δ) (iD js σ):=(re.mono pp0 (tt.trans t1)).cap js;refine ⟨φ,oX js δ,h',q,δ1,rh1,re1,rv,et,fun σ2 re2=>⟨φ,δ1,h',rh1,re2,(bN.bind (post.weak av t1 p)).imp ?_⟩⟩;rintro b H5 ⟨φ5,h5,p5,t5,rh5,q5⟩;cases b with
    | false=>exact GH ⟨φ5,h5,pp.trans p5,(tt.trans t1).trans t5,rh5,q5⟩
    | true=>
     refine GI ⟨φ5,δ1,h5,rh5,re2.mono p5 t5,(post.bind q5).imp ?_⟩;rintro v H6 ⟨φ6,z,h6,p6,t6,rh6,rv6,q6⟩;cases e6:dY h6 h.length with
     | none=>rw [e6] at q6; exact q6.elim
     | some ys=>
      rw [e6] at q6;obtain ⟨hz,q6⟩:=q6.ite;have hφ:φ6[h.length]?=some acc:=fZ ((pp.trans p5).trans p6) hlen;obtain ⟨vs,hH,rvs⟩:=rh6.at' h.length acc _ hφ (gQ e6);refine ⟨vs,hH,by rw [<- rvs.length]; exact hz,φ6,h6.set h.length (.lst (ys++[z])),(pp.trans p5).trans p6,(((tt.trans t1).trans t5).trans t6).trans (Kp.lst hH),
       rh6.write hφ (by rw [hH]; trivial) ⟨vs++[v],aW,(rvs.snoc rv6).mono av (Kp.lst hH)⟩,post.weak av (Kp.lst hH) q6⟩
  ·rw [if_neg hg] at p;exact p.elim
 ·have e:i=w.xs.length:=by omega
  subst e;rw [List.drop_length] at p;unfold iV at p
  by_cases hg:w.g h'=true
  ·rw [if_pos hg] at p;exact .inl ⟨(wk φ H h' pp0 tt rh' hg _).2 (bj _),p.val rh' ⟨acc,rfl,fZ pp hlen⟩⟩
  ·rw [if_neg hg] at p;exact p.elim
theorem Eg {js:List (Option Nat)} {mi:Mi} {tg:Mg} {tst:Ev->PH->Rs Bool} {elt:Me} {σ:St} {H:Hp} {Q:VK} (h:rd C (dC js mi tg tst elt) σ H Q):Ea js (rdI C mi) (rdG C tg) (rdB C tst) (rd C elt) σ H Q:=by
 obtain ⟨φ,δ,h,rh,re,p⟩:=h;refine ⟨φ,δ,h,rh,re,(dN.bind p).imp ?_⟩;rintro J H1 ⟨φ1,w,h1,p1,t1,rh1,wk,q1⟩;intro acc hacc;exact Hr wk rh1 (re.mono p1 t1) q1 acc hacc
section
variable {elt iter tg:Expr} {ifs:List Expr} {sc:Scope} {pos:Pos} {os:Scope} {oN N:List Str} {js:List (Option Nat)} {mi:Mi} {g:Mg} {tt:Ev->PH->Rs Bool} {me:Me}
theorem yW (hes:X.env.scope=os) (heN:X.N=oN) (ok:lX os oN sc N js=true) (hi:SI C k X tg iter mi)
  (hg:∀ C' fp s₀ H₀,SG C k (X.comp sc N C' fp s₀ H₀) tg g) (ht:∀ C' fp s₀ H₀,STs C k (X.comp sc N C' fp s₀ H₀) ifs tt) (he:∀ C' fp s₀ H₀,SE C k (X.comp sc N C' fp s₀ H₀) elt me)
  (hs:∀ x,jh iter X.env x=pure x:=by intro _; rfl):SE C k X (.ListComp elt [⟨tg,iter,ifs,0⟩] sc pos) (dC js mi g tt me):=fun c=>
 (Kv c.calm hes heN ok (hi c) (fun a b s H=>hg a b s H (c.comp sc N a b s H)) (fun a b s H=>ht a b s H (c.comp sc N a b s H)) (fun a b s H=>he a b s H (c.comp sc N a b s H)) hs).imp fun σ H Q h=>Eg h
theorem Fz {i:Nat} {x:Str} {pos' spos:Pos} (hN:X.N.Nodup) (hx':X.N[i]?=some x) (hloc:X.env.scope.names.lookup x=some .local) (hes:X.env.scope=os) (heN:X.N=oN) (ok:lX os oN sc N js=true) (hi:SI C k X tg iter mi)
  (hg:∀ C' fp s₀ H₀,SG C k (X.comp sc N C' fp s₀ H₀) tg g) (ht:∀ C' fp s₀ H₀,STs C k (X.comp sc N C' fp s₀ H₀) ifs tt) (he:∀ C' fp s₀ H₀,SE C k (X.comp sc N C' fp s₀ H₀) elt me)
  (hsw:swapsWith (.ListComp elt [⟨tg,iter,ifs,0⟩] sc pos) (some (.Name x pos')) spos.line X.env=pure true:=by rfl)
  (hs:∀ x,jh iter X.env x=pure x:=by intro _; rfl):SSt C k X (.Assign [.Name x pos'] (.ListComp elt [⟨tg,iter,ifs,0⟩] sc pos) spos) (aZ i (dC js mi g tt me)):=fun c=>
 (CG hN hx' hloc c.calm hes heN ok (hi c) (fun a b s H=>hg a b s H (c.comp sc N a b s H)) (fun a b s H=>ht a b s H (c.comp sc N a b s H)) (fun a b s H=>he a b s H (c.comp sc N a b s H)) hsw hs).imp fun D σ H h=>by
  obtain ⟨φ,δ,h,rh,re,p⟩:=h;refine Eg ⟨φ,δ,h,rh,re,(post.fl p).imp ?_⟩;rintro v H1 ⟨φ1,x,h1,p1,t1,rh1,rv1,q1⟩;exact q1.nx rh1 ((re.mono p1 t1).set rv1 i)
end
def mFn (N:Nat) (body:Ms):Fn:=fun args h=>match body (args.map some++lj (N - args.length) none) h with
 | .nx _ h'=>.ok .non h'
 | .rt p h'=>.ok p h'
 | .exc x h'=>.exc x h'
 | _=>.bad
theorem RE.start {φ:List Addr} {H:Hp} {ps:List PV} {vs:List V} (r:RVs C φ H ps vs) (N:List Str):RE C φ H (ps.map some++lj (N.length - ps.length) none) (start N vs):=by
 unfold L2.start;refine ⟨by simp [r.length],fun i p e=>?_⟩
 by_cases hi:i < ps.length
 ·rw [bp (by simpa using hi),bf] at e
  rw [bp (by simpa [<- r.length] using hi),bf]
  cases q:ps[i]? with
  | none=>rw [q] at e; cases e
  | some x=>
   rw [q] at e;cases e
   obtain ⟨v,hv,rv⟩:=r.at q;exact ⟨v,by rw [hv]; rfl,rv⟩
 ·rw [aq (by simpa using hi)] at e
  rw [List.getElem?_replicate] at e;split at e
  ·cases e
  ·cases e
theorem dO {P:Program} {mg:Str->Option Value} {base:Heap} {x qual:Str} {st:Stmt} {f:Addr} {fd:dq} {N ps:List Str} {body:Ms} (hex:∀ φ H x,¬ C.ex φ H x) (hbn:∀ x∈C.bs,mg x=none)
  (F:Fun C.K x qual st f fd) (S:bB N ps (aE st))
  (hb:∀ (cdv:Value) (A:Around) (outer:List Env) (s:Shared) (H:Hp) (E:XK),SSs C k (Cs CX0 P C.w C.K mg base N qual (aE st) f cdv A outer s H E).nox (aR st) body):
  aT P C.w C.K mg base CX0 (k+1) f fd ps (spM C ps.length (mFn N.length body)):=by
 refine F.ok S (fun vs H Q E h=>?_) (fun cdv A outer s H vs Q E hr h=>?_)
 ·obtain ⟨φ,h,xs,rh,rv,hl,_⟩:=h;rw [<- rv.length];exact hl
 ·obtain ⟨φ,h,xs,rh,rv,hl,p⟩:=h;refine ⟨_,hb cdv A outer s H E ⟨rfl,rfl,hr,hbn,rfl⟩,φ,xs.map some++lj (N.length - xs.length) none,h,rh,RE.start rv N,?_⟩;unfold mFn at p;cases e:body (xs.map some++lj (N.length - xs.length) none) h with
  | nx δ h'=>rw [e] at p; exact fun φ' σ' H' pp tt rh' re'=>p φ' .non H' pp tt rh' rfl
  | rt z h'=>rw [e] at p; exact p
  | exc z h'=>rw [e] at p; exact fun φ' H' pp tt rh'=>(hex _ _ _ (p φ' H' pp tt rh')).elim
  | bk δ h'=>rw [e] at p; exact p.elim
  | ct δ h'=>rw [e] at p; exact p.elim
  | bad=>rw [e] at p; exact p.elim
theorem O8 {f:Fn} {H:Hp} {Q:VK} {E:XK} {a:Addr} {ns:List Int} (hO:GF H) (ho:SqL C.K H a (ns.map V.int)) (hf:∃ h,f [.fl (ns.map PV.int)] []=.ok (.bl true) h) (hQ:∀ H',Q (.bl true) H'):spM C 1 f [.ref a] H Q E:=by
 have r0:∀ ns:List Int,RVs C [] H (ns.map PV.int) (ns.map V.int):=by
  intro ns
  induction ns with
  | nil=>trivial
  | cons n ns ih=>exact ⟨rfl,ih⟩
 have hs:SqF C.K H a (ns.map V.int):=by
  rcases ho with (h | ⟨o,h⟩) | h
  ·rcases hO a with z | ⟨o,xs,z⟩
   ·rw [z] at h; cases h
   ·rw [z] at h; cases h
  ·exact .inl ⟨o,h⟩
  ·exact .inr h
 refine ⟨[],[],[.fl (ns.map PV.int)],⟨rfl,by simp,fun n b ob h1 h2=>by simp at h1⟩,⟨⟨a,_,rfl,hs,r0 ns⟩,trivial⟩,rfl,?_⟩;obtain ⟨h,e⟩:=hf;rw [e];intro φ' v H' _ _ _ rv;cases rv
 exact hQ H'
end L2
namespace L2
open PySem PySem.Spec PyProof.Rows
variable {C:MC} {k:Nat} {X:Cx}
def tyN (x:PV) (h:PH):Option String:=match x with
 | .non=>some "NoneType"
 | .bl _=>some "bool"
 | .int _=>some "int"
 | .str _=>some "str"
 | .tup _=>some "tuple"
 | .fl _=>some "list"
 | .ref n=>match h[n]? with
  | some (.lst _)=>some "list"
  | some (.dK _)=>some "dict"
  | _=>none
 | .ty _=>none
def B6 (t c:String):Bool:=t == c || (t == "bool" && c == "int")
def known:List String:=["int","str","bool","list","tuple","dict"]
def KN:List PV->PH->Rs PV:=fun xs h=>match xs with
 | [x,.ty c]=>match tyN x h with
  | some t=>if c∈known then .ok (.bl (B6 t c)) h else .bad
  | none=>.bad
 | _=>.bad
def KO:List PV->PH->Rs PV:=fun xs h=>match xs with
 | [.int i,.int j]=>.ok (.int (if j < i then j else i)) h
 | _=>.bad
theorem QC:sN C k X (.builtin "min") KO:=fun c=>(F3 c.calm).imp fun vs H Q h=>by
 obtain ⟨φ,h,ps,rh,rv,po⟩:=h;unfold KO at po;split at po
 ·obtain ⟨v,w,rfl,rx,ry⟩:=rv.two;cases rx; cases ry;exact ⟨_,_,rfl,po.val rh rfl⟩
 ·exact po.elim
def mMt (ty:PV->PH->Bool) (g:PV->List PV->PH->Rs PV) (mo:Me) (ms:Ma):Me:=fun δ h=>(mo δ h).bind fun x h1=>if ty x h1=true then (ms δ h1).bind fun ps h2=>g x ps h2 else .bad
def KQ (ty:PV->PH->Bool) (g:PV->List PV->PH->Rs PV) (mo:Me):Me:=fun δ h=>(mo δ h).bind fun x h1=>if ty x h1=true then g x [] h1 else .bad
def rM (C:MC) (g:PV->List PV->PH->Rs PV):V->List V->Hp->VK->Prop:=fun x xs H Q=>∃ φ h p ps,RH C φ H h/\RV C φ H p x/\RVs C φ H ps xs/\post C φ H (g p ps h) Q
def MtS (C:MC) (k:Nat) (X:Cx) (T:String) (ty:PV->PH->Bool) (id:String) (g:PV->List PV->PH->Rs PV):Prop:=Cxt C k X->MtR X id (rM C g)/\∀ φ H h p x,RH C φ H h->RV C φ H p x->ty p h=true->tyV C.K T x H
section
variable {o e:Expr} {es:List Expr} {mo:Me} {ms:Ma} {name:Str} {apos cpos:Pos} {T id:String} {ty:PV->PH->Bool} {g:PV->List PV->PH->Rs PV}
theorem QD (pa:PlainAttrs T) (slot:Slot T name id) (hty:typeOf (.builtin id)=pure (.type "method_descriptor")) (hm:MtS C k X T ty id g) (ho:SE C k X o mo) (ha:SA C k X (e :: es) ms)
  (hbase:jv o name X.env (eval o X.env)=eval o X.env:=by rfl)
  (hfew:((backTo cpos (b9 (e :: es) X.env)).all (fun x=>!x.1) && (backToKw cpos (keywordEach [] X.env)).all (fun x=>x.1.isSome)
   && decide ((e :: es).length+([]:List Keyword).length+(if ([]:List Keyword).isEmpty then 0 else 1) < 30))=true:=by rfl)
  (hline:(apos.endLine == cpos.line)=true:=by rfl) (hs:b9 (e :: es) X.env=(false,eval e X.env) :: b9 es X.env:=by rfl) (hplain:(backTo cpos (b9 es X.env)).any (·.1)=false:=by rfl):
  SE C k X (.Call (.Attribute o name apos) (e :: es) [] cpos) (mMt ty g mo ms):=fun c=>(Qa pa slot hty (hm c).1 (ho c) (ha c) hbase hfew hline hs hplain).imp fun σ H Q h=>by
 obtain ⟨φ,δ,h,rh,re,p⟩:=h;refine ⟨φ,δ,h,rh,re,(post.bind p).imp ?_⟩;rintro v H1 ⟨φ1,x,h1,p1,t1,rh1,rv1,q1⟩;obtain ⟨ht,q1⟩:=q1.ite;refine ⟨by rw [c.K]; exact (hm c).2 φ1 H1 h1 x v rh1 rv1 ht,φ1,δ,h1,rh1,re.mono p1 t1,(postA.bind q1).imp ?_⟩;rintro vs H2 ⟨φ2,xs,h2,p2,t2,rh2,rv2,q2⟩;exact ⟨φ2,h2,x,xs,rh2,rv1.mono p2 t2,rv2,q2⟩
end
theorem MtR.imp {id:String} {r r':V->List V->Hp->VK->Prop} (h:MtR X id r) (i:∀ x xs H Q,r' x xs H Q->r x xs H Q):MtR X id r':=fun pins s σ H x xs v us Q I rx rs q=>h pins s σ H x xs v us Q I rx rs (i x xs H Q q)
def isL (x:PV) (h:PH):Bool:=match x with
 | .ref n=>(dY h n).isSome
 | _=>false
theorem O9 {φ:List Addr} {H:Hp} {h:PH} {p:PV} {x:V} (rh:RH C φ H h) (rv:RV C φ H p x) (e:isL p h=true):tyV C.K "list" x H:=by
 cases p with
 | ref n=>
  obtain ⟨a,rfl,ha⟩:=rv;obtain ⟨xs,hx⟩:=j9.mp (show (dY h n).isSome=true from e)
  obtain ⟨vs,hH,ra⟩:=rh.at' n a _ ha (gQ hx);exact .inl ⟨rfl,vs,SqL.of hH⟩
 | _=>cases e
def onL (f:List PV->List PV->Option (PV×List PV)):PV->List PV->PH->Rs PV:=fun x ps h=>match x with
 | .ref n=>match dY h n with
  | some xs=>match f xs ps with
   | some (r,ys)=>.ok r (h.set n (.lst ys))
   | none=>.bad
  | none=>.bad
 | _=>.bad
theorem Oa {f:List PV->List PV->Option (PV×List PV)} {x:V} {xs:List V} {H:Hp} {Q:VK} (h:rM C (onL f) x xs H Q):∃ φ l ps ys vs r zs,x=.ref l/\H l=some (.lst vs)/\RVs C φ H ys vs/\RVs C φ H ps xs/\f ys ps=some (r,zs)/\
  ∀ (v:V) (ws:List V),RV C φ H r v->RVs C φ H zs ws->Q v (upd H l (.lst ws)):=by
 obtain ⟨φ,h,p,ps,rh,rx,rs,po⟩:=h;unfold onL at po;cases p with
 | ref n=>
  obtain ⟨a,rfl,ha⟩:=rx;dsimp only at po;cases e:dY h n with
  | none=>rw [e] at po; exact po.elim
  | some ys=>
   rw [e] at po;dsimp only at po;obtain ⟨vs,hH,ra⟩:=rh.at' n a _ ha (gQ e);cases ef:f ys ps with
   | none=>rw [ef] at po; exact po.elim
   | some rz=>
    rw [ef] at po;obtain ⟨r,zs⟩:=rz;exact ⟨φ,a,ps,ys,vs,r,zs,rfl,hH,ra,rs,ef,fun v ws rv rw'=>po.lset rh ha hH rw' rv⟩
 | _=>exact po.elim
def iI:List PV->List PV->Option (PV×List PV):=fun xs ps=>match ps with
 | [p]=>if xs.length < az then some (.non,xs++[p]) else none
 | _=>none
theorem FA:MtR X "list.append" (rM C (onL iI)):=MtR.imp (show MtR X "list.append" E1 from wB) fun x xs H Q h=>by
 obtain ⟨φ,l,ps,ys,vs,r,zs,rfl,hH,ra,rs,ef,q⟩:=Oa h;unfold iI at ef;split at ef
 ·split at ef
  ·rename_i hz;cases ef
   obtain ⟨v,rfl,rx⟩:=rs.one;exact ⟨l,vs,v,rfl,rfl,hH,by rw [<- ra.length]; exact hz,q .non _ rfl (ra.snoc rx)⟩
  ·cases ef
 ·cases ef
theorem B7:MtS C k X "list" isL "list.append" (onL iI):=fun c=>⟨FA,fun φ H h p x rh rv e=>O9 rh rv e⟩
def QE (K:ag):R2:=fun x y H Q=>∃ a b ys,x=.ref a/\y=.ref b/\SqT K H a []/\SqT K H b ys/\Q (.ref b) H
theorem KR:OpR X (gm .Add) (QE X.K):=by
 intro pins s σ H x y v u Q I rx ry h;obtain ⟨a,b,ys,rfl,rfl,ha,hb,q⟩:=h;cases rx
 cases ry
 obtain ⟨its,r1,p1,_⟩:=I.tuple ha;obtain ⟨its2,r2,p2,_⟩:=I.tuple hb;cases r1
 obtain ⟨⟨cls,dd,data,sl⟩,ho,hc,n,hd⟩:=id p1;obtain ⟨⟨cls2,dd2,data2,sl2⟩,ho2,hc2,n2,hd2⟩:=id p2;simp only at hc hd hc2 hd2;subst hc hd hc2 hd2;exact concat_meets ⟨_,ho,rfl⟩ ⟨_,ho2,rfl⟩ noFill_tuple_add seq_tuple_add PySem.F.slot_tuple_add PySem.F.entry_tuple_add (PySem.F.args_tuple_add_2 _ _)
   (tuple_addW0 a b ([]:List Value).toArray its2.toArray n n2 dd dd2 sl sl2 (by simp)) ⟨ho,ho2,⟨.ref b,H,I,rfl,q⟩⟩
def aS:PV->PV->PH->Rs PV:=fun x y h=>match x,y with
 | .tup [],.tup ys=>.ok (.tup ys) h
 | x,y=>Hb x y h
theorem bI:OpS C k X (gm .Add) aS:=fun c=>((Qw c).or (by have:=KR (X:=X); rw [c.K] at this; exact this)).imp fun x y H Q h=>by
 obtain ⟨φ,h,p,q,rh,rx,ry,po⟩:=h;unfold aS at po;split at po
 ·obtain ⟨a,vs,rfl,sa,ra⟩:=rx;obtain ⟨b,us,rfl,sb,rb⟩:=ry;have:vs=[]:=by cases vs <;> first | rfl | exact ra.elim
  subst this;exact .inr ⟨a,b,us,rfl,rfl,sa,sb,po.val rh ⟨b,us,rfl,sb,rb⟩⟩
 ·exact .inl ⟨φ,h,p,q,rh,rx,ry,po⟩
end L2
namespace L2
open PySem PySem.Spec PyProof.Rows
variable {C:MC} {k:Nat} {X:Cx}
theorem QF:UnS C k X (unaryOp .USub) KG:=fun c=>by
 have h:UnR X (unaryOp .USub) (rU fun i=>.int (-i)):=Ny;intro pins s σ H x v Q I rx q;refine h pins s σ H x v Q I rx ?_;obtain ⟨φ,h,p,rh,rv,po⟩:=q;unfold KG at po;cases p with
 | int i=>cases rv; exact ⟨i,rfl,po.val rh rfl⟩
 | _=>exact po.elim
end L2
namespace L2
open PySem
@[irreducible] def Rs.W {α:Type} (r:Rs α) (Q:α->PH->Prop):Prop:=match r with
 | .ok a h=>Q a h
 | _=>False
structure FE where
 nx:Ev->PH->Prop
 rt:PV->PH->Prop
 bk:Ev->PH->Prop:=fun _ _=>False
 ct:Ev->PH->Prop:=fun _ _=>False
@[irreducible] def Fl.W (r:Fl) (E:FE):Prop:=match r with
 | .nx δ h=>E.nx δ h
 | .rt p h=>E.rt p h
 | .bk δ h=>E.bk δ h
 | .ct δ h=>E.ct δ h
 | _=>False
@[irreducible] def Lt (b:Ms) (E:FE) (δ:Ev) (h:PH):Prop:=(b δ h).W E
section
unseal Rs.W Fl.W Lt
variable {α β:Type} {Q:α->PH->Prop} {E:FE} {δ:Ev} {h:PH}
@[simp] theorem jJ {a:α}:(Rs.ok a h).W Q=Q a h:=(rfl)
@[simp] theorem Tv:(Fl.nx δ h).W E=E.nx δ h:=(rfl)
@[simp] theorem Tw {p:PV}:(Fl.rt p h).W E=E.rt p h:=(rfl)
@[simp] theorem Tx:(Fl.bk δ h).W E=E.bk δ h:=(rfl)
@[simp] theorem Tz:(Fl.ct δ h).W E=E.ct δ h:=(rfl)
@[simp] theorem CZ {Q:β->PH->Prop} {r:Rs α} {f:α->PH->Rs β}:(r.bind f).W Q=r.W fun a h=>(f a h).W Q:=by cases r <;> rfl
@[simp] theorem FB {r:Rs α} {f:α->PH->Fl}:(r.fl f).W E=r.W fun a h=>(f a h).W E:=by cases r <;> rfl
theorem Hs {Q':α->PH->Prop} {r:Rs α} (h:r.W Q) (i:∀ a h,Q a h->Q' a h):r.W Q':=by cases r <;> first | exact i _ _ h | exact h
@[simp] theorem Tn {c:Prop} [Decidable c] {x y:Rs α}:(if c then x else y).W Q=if c then x.W Q else y.W Q:=by split <;> rfl
@[simp] theorem To:(Rs.bad:Rs α).W Q=False:=(rfl)
@[simp] theorem SU:Fl.bad.W E=False:=(rfl)
theorem oY {r:Rs α} (w:r.W Q):∃ a h,r=.ok a h/\Q a h:=by
 cases r with
 | ok a h=>exact ⟨a,h,rfl,w⟩
 | exc=>exact w.elim
 | bad=>exact w.elim
variable {a b:Ms} {m ma mb mc:Me} {t ta tb:Ev->PH->Rs Bool} {g g':PV->PV->PH->Rs PV}
theorem oZ:(aQ a b δ h).W E=(a δ h).W { E with nx:=fun δ h=>(b δ h).W E }:=by
 show (match a δ h with | .nx δ1 h1=>b δ1 h1 | r=>r).W E=_
 cases a δ h <;> rfl
theorem bF:(aQ a b δ h).W E=(a δ h).W { E with nx:=Lt b E }:=by
 show (match a δ h with | .nx δ1 h1=>b δ1 h1 | r=>r).W E=_
 cases a δ h <;> rfl
theorem now {b:Ms} (w:(b δ h).W E):Lt b E δ h:=w
@[simp] theorem Eh:(fW δ h).W E=E.nx δ h:=(rfl)
@[simp] theorem Tp:(SR δ h).W E=E.bk δ h:=(rfl)
@[simp] theorem Tq:(SS δ h).W E=E.ct δ h:=(rfl)
@[simp] theorem gR {i:Nat}:(aZ i m δ h).W E=(m δ h).W fun p h=>E.nx (δ.set i (some p)) h:=by simp [aZ]
@[simp] theorem Tr {t:Mg}:(B1 m t δ h).W E=(m δ h).W fun p h=>∃ δ',t p δ=some δ'/\E.nx δ' h:=by
 unfold B1;cases m δ h with
 | ok p h1=>
  show (match t p δ with | some δ'=>Fl.nx δ' h1 | none=>.bad).W E=∃ δ',t p δ=some δ'/\E.nx δ' h1
  cases t p δ <;> simp [Fl.W]
 | exc=>rfl
 | bad=>rfl
@[simp] theorem MV:(yU m δ h).W E=(m δ h).W fun _ h=>E.nx δ h:=by simp [yU]
@[simp] theorem Ht:(cZ m δ h).W E=(m δ h).W E.rt:=by simp [cZ]
@[simp] theorem SV:(QB δ h).W E=E.rt .non h:=(rfl)
@[simp] theorem iW:(fX t a b δ h).W E=(t δ h).W fun c h=>if c=true then (a δ h).W E else (b δ h).W E:=by
 unfold fX;rw [FB]
 congr
 funext c h
 cases c <;> simp
@[simp] theorem MW {i:Nat}:mV i δ h=match nD δ i with | some p=>.ok p h | none=>.bad:=(rfl)
@[simp] theorem Ts {p:PV}:mC p δ h=.ok p h:=(rfl)
@[simp] theorem iJ:aD g ma mb δ h=(ma δ h).bind fun x h1=>(mb δ h1).bind fun y h2=>g x y h2:=(rfl)
@[simp] theorem SX {g:PV->PH->Rs PV}:mUn g ma δ h=(ma δ h).bind g:=(rfl)
@[simp] theorem rN:bT m δ h=(m δ h).bind tru:=(rfl)
@[simp] theorem Hu:sX t δ h=(t δ h).bind fun b h1=>.ok (!b) h1:=(rfl)
@[simp] theorem Hv:sY ta tb δ h=(ta δ h).bind fun b h1=>if b=true then tb δ h1 else .ok false h1:=by
 unfold sY; congr 1; funext b h1; cases b <;> simp
@[simp] theorem KS:CV ta tb δ h=(ta δ h).bind fun b h1=>if b=true then .ok true h1 else tb δ h1:=by
 unfold CV; congr 1; funext b h1; cases b <;> simp
@[simp] theorem QG {b:Bool}:Qx (.bl b) h=.ok (.bl b) h:=(rfl)
@[simp] theorem RF {ms:Ma}:cT ms δ h=(ms δ h).bind fun xs h1=>if xs.length<=az then .ok (.tup xs) h1 else .bad:=(rfl)
@[simp] theorem RG {ms:Ma}:qX ms δ h=(ms δ h).bind fun xs h1=>if xs.length<=az then .ok (.ref h1.length) (h1++[.lst xs]) else .bad:=(rfl)
@[simp] theorem Pr:CW δ h=.ok (.ref h.length) (h++[.dK []]):=(rfl)
@[simp] theorem Ei:aG δ h=.ok [] h:=(rfl)
@[simp] theorem Hw {ms:Ma}:aA m ms δ h=(m δ h).bind fun x h1=>(ms δ h1).bind fun xs h2=>.ok (x :: xs) h2:=(rfl)
@[simp] theorem Ob {g:List PV->PH->Rs PV} {ms:Ma}:mCB g ms δ h=(ms δ h).bind g:=(rfl)
@[simp] theorem tE {n:Nat} {f:Fn} {ms:Ma}:bP n f ms δ h=(ms δ h).bind fun ps h1=>if ps.length=n then f ps h1 else .bad:=(rfl)
@[simp] theorem RI:gE δ h=.ok none h:=(rfl)
def Hx (x:PV) (h:PH):Rs (Option Int):=match x with
 | .int i=>.ok (some i) h
 | _=>.bad
@[simp] theorem D0 {i:Int}:Hx (.int i) h=.ok (some i) h:=(rfl)
@[simp] theorem QH:mP m δ h=(m δ h).bind Hx:=(rfl)
@[simp] theorem Oc {ml mh:Mo}:mSl m ml mh δ h=(m δ h).bind fun x h1=>(ml δ h1).bind fun l h2=>(mh δ h2).bind fun u h3=>vSl x l u h3:=(rfl)
@[simp] theorem SY {ty:PV->PH->Bool} {g:PV->List PV->PH->Rs PV} {ms:Ma}:mMt ty g m ms δ h=(m δ h).bind fun x h1=>if ty x h1=true then (ms δ h1).bind fun ps h2=>g x ps h2 else .bad:=(rfl)
@[simp] theorem RJ {ty:PV->PH->Bool} {g:PV->List PV->PH->Rs PV}:KQ ty g m δ h=(m δ h).bind fun x h1=>if ty x h1=true then g x [] h1 else .bad:=(rfl)
@[simp] theorem nG:az=16777216:=by rw [gh]
theorem KU {i j:Int} {h:PH} (c:(-18446744073709551616 < i/\i < 18446744073709551616)\/(-18446744073709551616 < j/\j < 18446744073709551616)):CQ (.int i) (.int j) h=.ok (.int (i*j)) h:=by
 show (if Ap i j then _ else _)=_
 exact if_pos c
@[simp] theorem QI {i j:Int} (c:(-18446744073709551616 < i/\i < 18446744073709551616)\/(-18446744073709551616 < j/\j < 18446744073709551616)):vInt Ap (fun i j=>i*j) (.int i) (.int j) h=.ok (.int (i*j)) h:=KU c
@[simp] theorem RK {i j:Int} (c:0 < j/\j < 1073741824):vInt Gq (fun i j=>i / j) (.int i) (.int j) h=.ok (.int (i / j)) h:=if_pos c
@[simp] theorem RL {i j:Int} (c:0 < j):vInt (fun _ j=>0 < j) (fun i j=>i % j) (.int i) (.int j) h=.ok (.int (i % j)) h:=if_pos c
@[simp] theorem RM {i j:Int} (c:0<=j/\j<=1000000/\-18446744073709551616 < i/\i < 18446744073709551616):vInt F1 (fun i j=>i ^ j.toNat) (.int i) (.int j) h=.ok (.int (i ^ j.toNat)) h:=by
 show (if F1 i j then _ else _)=_
 refine if_pos ⟨c.1,c.2.1,?_⟩;obtain ⟨_,_,h1,h2⟩:=c;omega
@[simp] theorem RN {i j:Int}:sR (.int i) (.int j) h=.ok (.int (i - j)) h:=(rfl)
@[simp] theorem RP {i:Int}:KG (.int i) h=.ok (.int (-i)) h:=(rfl)
@[simp] theorem Pt {i j:Int}:aS (.int i) (.int j) h=.ok (.int (i+j)) h:=(rfl)
@[simp] theorem Pu {x y:Str} (c:x.length+y.length<=16777216):aS (.str x) (.str y) h=.ok (.str (x++y)) h:=if_pos c
@[simp] theorem FC {xs ys:List PV} (c:xs.length+ys.length<=16777216):aS (.tup xs) (.tup ys) h=.ok (.tup (xs++ys)) h:=by
 cases xs with
 | nil=>rfl
 | cons x xs=>exact if_pos ⟨rfl,c⟩
@[simp] theorem QJ {f:Int->Int->Bool} {g:List Nat->List Nat->Bool} {i j:Int}:AY f g (.int i) (.int j) h=.ok (.bl (f i j)) h:=(rfl)
@[simp] theorem QK {f:Int->Int->Bool} {g:List Nat->List Nat->Bool} {i j:Str}:AY f g (.str i) (.str j) h=.ok (.bl (g i.cps.toList j.cps.toList)) h:=(rfl)
@[simp] theorem Hy {b:Bool}:tru (.bl b) h=.ok b h:=(rfl)
@[simp] theorem RQ:tru .non h=.ok false h:=(rfl)
@[simp] theorem RR {i:Int}:tru (.int i) h=.ok (i != 0) h:=(rfl)
@[simp] theorem RS {xs:List PV}:tru (.tup xs) h=.ok (!xs.isEmpty) h:=(rfl)
@[simp] theorem QL {p:PV}:ofO (some p) h=.ok p h:=(rfl)
@[simp] theorem QM {b:Bool}:ofB (some b) h=.ok (.bl b) h:=(rfl)
@[simp] theorem RT {xs:List PV} {i:Int}:vIx (.tup xs) (.int i) h=ofO (atI xs i) h:=(rfl)
@[simp] theorem SZ {xs:List PV} {i:Int}:vIx (.fl xs) (.int i) h=ofO (atI xs i) h:=(rfl)
theorem kE {n:Nat} {xs:List PV} {i:Int} (e:h[n]?=some (.lst xs)):vIx (.ref n) (.int i) h=ofO (atI xs i) h:=by simp [vIx,aX,e]
@[simp] theorem RU {z:Str} {i:Int} (c:z.length<=16777216):vIx (.str z) (.int i) h=ofO ((atI z.cps.toList i).map fun c=>.str ⟨#[c]⟩) h:=if_pos c
@[simp] theorem QN {xs:List PV}:dU [.tup xs] h=.ok (.int xs.length) h:=(rfl)
@[simp] theorem RW {xs:List PV}:dU [.fl xs] h=.ok (.int xs.length) h:=(rfl)
@[simp] theorem QO {x:Str} (c:x.length<=16777216):dU [.str x] h=.ok (.int x.length) h:=if_pos c
theorem jK {n:Nat} {xs:List PV} (e:h[n]?=some (.lst xs)):dU [.ref n] h=.ok (.int xs.length) h:=by simp [dU,aX,e]
@[simp] theorem RX {i j:Int}:KO [.int i,.int j] h=.ok (.int (if j < i then j else i)) h:=(rfl)
@[simp] theorem RY {i j:Int}:QA [.int i,.int j] h=.ok (.int (if j > i then j else i)) h:=(rfl)
@[simp] theorem QP {i:Int} {c:String}:KN [.int i,.ty c] h=if c∈known then .ok (.bl (B6 "int" c)) h else .bad:=(rfl)
@[simp] theorem QQ {i:Str} {c:String}:KN [.str i,.ty c] h=if c∈known then .ok (.bl (B6 "str" c)) h else .bad:=(rfl)
@[simp] theorem RZ {i:Bool} {c:String}:KN [.bl i,.ty c] h=if c∈known then .ok (.bl (B6 "bool" c)) h else .bad:=(rfl)
@[simp] theorem QR {i:List PV} {c:String}:KN [.tup i,.ty c] h=if c∈known then .ok (.bl (B6 "tuple" c)) h else .bad:=(rfl)
theorem Ej {n:Nat} {xs:List PV} (e:h[n]?=some (.lst xs)):isL (.ref n) h=true:=by simp [isL,dY,e]
theorem tF {n:Nat} {xs:List PV} {p:PV} (e:h[n]?=some (.lst xs)) (c:xs.length < 16777216):onL iI (.ref n) [p] h=.ok .non (h.set n (.lst (xs++[p]))):=by simp [onL,dY,e,iI,c]
theorem Ek {α:Type} {xs:List α} {i:Int} (h0:0<=i) (h1:i < xs.length):atI xs i=xs[i.toNat]?:=by
 unfold atI ixN;rw [if_pos h0,if_pos h1]; rfl
theorem pA {g:PH->Bool} {tg:Mg} {body:Ms} {E:FE} (I:Nat->Ev->PH->Prop):∀ (xs:List PV) (k:Nat) (δ:Ev) (h:PH),I k δ h->
  (∀ i x δ h,k<=i->xs[i - k]?=some x->I i δ h->g h=true/\∃ δ1,tg x δ=some δ1/\(body δ1 h).W { nx:=I (i+1),ct:=I (i+1),rt:=E.rt,bk:=E.nx })->
  (∀ δ h,I (k+xs.length) δ h->g h=true/\E.nx δ h)->(fE g tg body xs δ h).W E
 | [],k,δ,h,i0,_,fin=>by
  obtain ⟨h1,h2⟩:=fin δ h i0;simp [fE,h1,h2]
 | x :: xs,k,δ,h,i0,step,fin=>by
  obtain ⟨h1,δ1,h2,h3⟩:=step k x δ h (bj _) (by simp) i0;have go:∀ δ2 h2,I (k+1) δ2 h2->(fE g tg body xs δ2 h2).W E:=fun δ2 h2 i2=>
   pA I xs (k+1) δ2 h2 i2 (fun i y δ h hk hy=>step i y δ h (by omega) (by
    have:i - k=(i - (k+1))+1:=by omega
    rw [this,d4]; exact hy)) (fun δ h hi=>fin δ h (by
    have e:k+(x :: xs).length=k+1+xs.length:=by simp; omega
    rw [e]; exact hi))
  unfold fE;rw [if_pos h1,h2]
  show Fl.W (match body δ1 h with | .nx δ2 h2=>fE g tg body xs δ2 h2 | .ct δ2 h2=>fE g tg body xs δ2 h2 | .bk δ2 h2=>.nx δ2 h2 | r=>r) E
  cases e:body δ1 h with
  | nx δ2 h2=>rw [e] at h3; exact go δ2 h2 h3
  | ct δ2 h2=>rw [e] at h3; exact go δ2 h2 h3
  | bk δ2 h2=>rw [e] at h3; exact h3
  | rt p h2=>rw [e] at h3; exact h3
  | exc=>rw [e] at h3; exact h3
  | bad=>rw [e] at h3; exact h3
theorem D3 {ms:Ma} {i:Nat} {body:Ms} {j:Int} (I:Nat->Ev->PH->Prop) (e:ms δ h=.ok [.int j] h) (hj:-4611686018427387904<=j/\j < 4611686018427387904) (h0:I 0 δ h)
  (step:∀ (q:Nat) δ h,(q:Int) < j->I q δ h->(body (δ.set i (some (.int q))) h).W { nx:=I (q+1),ct:=I (q+1),rt:=E.rt,bk:=E.nx })
  (fin:∀ δ h,I j.toNat δ h->E.nx δ h):(jC (wU ms) (gN i) body δ h).W E:=by
 unfold jC wU;rw [e];have hj':-(2 ^ 62)<=j/\j < 2 ^ 62:=hj;simp only [Rs.bind_ok,Hl,if_pos hj',Rs.fl_ok];refine pA I _ 0 δ h h0 (fun q x δ h _ hx hi=>?_) (fun δ h hi=>⟨rfl,fin δ h (by rw [cL,jz] at hi; exact hi)⟩);have hq:q < j.toNat:=by
  have:=(ae.mp hx).1;rw [cL] at this;omega
 rw [i6,nF _ _ _ hq] at hx;cases hx
 refine ⟨rfl,_,rfl,?_⟩;rw [Int.zero_add];exact step q δ h (by omega) hi
theorem Hz {ms:Ma} {i:Nat} {body:Ms} {lo j:Int} (I:Nat->Ev->PH->Prop) (e:ms δ h=.ok [.int lo,.int j] h) (hj:-4611686018427387904<=lo/\lo < 4611686018427387904/\-4611686018427387904<=j/\j < 4611686018427387904) (h0:I 0 δ h)
  (step:∀ (q:Nat) δ h,lo+(q:Int) < j->I q δ h->(body (δ.set i (some (.int (lo+q)))) h).W { nx:=I (q+1),ct:=I (q+1),rt:=E.rt,bk:=E.nx })
  (fin:∀ δ h,I (j - lo).toNat δ h->E.nx δ h):(jC (B4 ms) (gN i) body δ h).W E:=by
 unfold jC B4;rw [e];have hj':-(2 ^ 62)<=lo/\lo < 2 ^ 62/\-(2 ^ 62)<=j/\j < 2 ^ 62:=hj;simp only [Rs.bind_ok,Hm,if_pos hj',Rs.fl_ok];refine pA I _ 0 δ h h0 (fun q x δ h _ hx hi=>?_) (fun δ h hi=>⟨rfl,fin δ h (by rw [cL,jz] at hi; exact hi)⟩);have hq:q < (j - lo).toNat:=by
  have:=(ae.mp hx).1;rw [cL] at this;omega
 rw [i6,nF _ _ _ hq] at hx;cases hx
 exact ⟨rfl,_,rfl,step q δ h (by omega) hi⟩
theorem Od {m:Me} {tg:Mg} {body:Ms} {xs:List PV} (I:Nat->Ev->PH->Prop) (e:m δ h=.ok (.tup xs) h\/m δ h=.ok (.fl xs) h) (h0:I 0 δ h)
  (step:∀ (q:Nat) x δ h,xs[q]?=some x->I q δ h->∃ δ1,tg x δ=some δ1/\(body δ1 h).W { nx:=I (q+1),ct:=I (q+1),rt:=E.rt,bk:=E.nx })
  (fin:∀ δ h,I xs.length δ h->E.nx δ h):(jC (dB m) tg body δ h).W E:=by
 have go:(fE (fun _=>true) tg body xs δ h).W E:=pA I _ 0 δ h h0 (fun q x δ h _ hx hi=>⟨rfl,step q x δ h (by simpa using hx) hi⟩) (fun δ h hi=>⟨rfl,fin δ h (by simpa using hi)⟩)
 unfold jC dB;rcases e with e | e <;> rw [e] <;> exact go
theorem Oe {m:Me} {tg:Mg} {body:Ms} {n:Nat} {xs:List PV} {h1:PH} (I:Nat->Ev->PH->Prop) (e:m δ h=.ok (.ref n) h1) (hn:h1[n]?=some (.lst xs)) (h0:I 0 δ h1)
  (keep:∀ q δ h,q<=xs.length->I q δ h->h[n]?=some (.lst xs))
  (step:∀ (q:Nat) x δ h,xs[q]?=some x->I q δ h->∃ δ1,tg x δ=some δ1/\(body δ1 h).W { nx:=I (q+1),ct:=I (q+1),rt:=E.rt,bk:=E.nx })
  (fin:∀ δ h,I xs.length δ h->E.nx δ h):(jC (dB m) tg body δ h).W E:=by
 have hk:∀ {h:PH},h[n]?=some (.lst xs)->tB n xs h=true:=fun {h} e=>by
  have e3:aX h n=some xs:=by unfold aX; rw [e]
  unfold tB; rw [e3]; exact PV.beqs_self xs
 unfold jC dB;rw [e];have e2:ofSeq (.ref n) h1=.ok ⟨xs,tB n xs⟩ h1:=by
  have e3:aX h1 n=some xs:=by unfold aX; rw [hn]
  unfold ofSeq; simp only [e3]
 rw [Rs.bind_ok,e2,Rs.fl_ok];refine pA I _ 0 δ h1 h0 (fun q x δ h _ hx hi=>?_) (fun δ h hi=>?_)
 ·have hx':xs[q]?=some x:=by simpa using hx
  have:=(ae.mp hx').1;exact ⟨hk (keep q δ h (by omega) hi),step q x δ h hx' hi⟩
 ·have hi':I xs.length δ h:=by simpa using hi
  exact ⟨hk (keep _ δ h (bj _) hi'),fin δ h hi'⟩
theorem jD {N:Nat} {body:Ms} {args:List PV} {Q:PV->PH->Prop} (w:(body (args.map some++lj (N - args.length) none) h).W { nx:=fun _ h=>Q .non h,rt:=Q }):(mFn N body args h).W Q:=by
 unfold mFn;cases e:body (args.map some++lj (N - args.length) none) h with
 | nx δ h'=>rw [e] at w; exact w
 | rt p h'=>rw [e] at w; exact w
 | _=>rw [e] at w; exact w.elim
@[simp] theorem Tt {i:Nat} {p:PV}:gN i p δ=some (δ.set i (some p)):=(rfl)
@[simp] theorem T1 {n:Nat} {u:Mgs} {ps:List PV}:gTp n u (.tup ps) δ=if ps.length=n then u ps δ else none:=(rfl)
@[simp] theorem T4 {t:Mg} {u:Mgs} {p:PV} {r:List PV}:gCn t u (p :: r) δ=(t p δ).bind (u r):=(rfl)
@[simp] theorem T5:gNl [] δ=some δ:=(rfl)
end
def Ext (h h':PH):Prop:=∀ (n:Nat) (o:MO),h[n]?=some o->h'[n]?=some o
theorem Ext.refl (h:PH):Ext h h:=fun _ _ e=>e
theorem Ext.trans {h h1 h2:PH} (a:Ext h h1) (b:Ext h1 h2):Ext h h2:=fun n o e=>b n o (a n o e)
theorem Ext.app (h g:PH):Ext h (h++g):=fun n o e=>by
 rw [bp (ae.mp e).1]; exact e
theorem Ext.len {h h':PH} (e:Ext h h'):h.length<=h'.length:=by
 rcases Nat.lt_or_ge h'.length h.length with z | z
 ·have:h[h'.length]?=some h[h'.length]:=by simp [z]
  have:=(ae.mp (e _ _ this)).1;omega
 ·exact z
theorem bE {h:PH} {o:MO}:(h++[o])[h.length]?=some o:=by simp
theorem HC {h:PH} {n:Nat} {o o':MO} (e:h[n]?=some o):(h.set n o')[n]?=some o':=ir (ae.mp e).1
def PV.pl:Nat->PV->Bool
 | _,.non=>true
 | _,.int _=>true
 | _,.str _=>true
 | n+1,.tup xs=>xs.all (PV.pl n)
 | _,_=>false
theorem KW {x:PV} {xs:List PV} {d:D} {ds:List D} (h1:x.d=some d) (h2:PV.ds xs=some ds):PV.ds (x :: xs)=some (d :: ds):=by simp [PV.ds,h1,h2]
theorem QS {xs:List PV} {ds:List D} (h:PV.ds xs=some ds):(PV.tup xs).d=some (.tup ds):=by simp [PV.d,h]
theorem bH {xs:List PV} {d:D} (h:(PV.tup xs).d=some d):∃ ds,PV.ds xs=some ds/\d=.tup ds:=by
 unfold PV.d at h;split at h
 ·rename_i ds e; cases h; exact ⟨ds,e,rfl⟩
 ·cases h
theorem bW {x:PV} {xs:List PV} {ds:List D} (h:PV.ds (x :: xs)=some ds):∃ d r,x.d=some d/\PV.ds xs=some r/\ds=d :: r:=by
 unfold PV.ds at h;split at h
 ·rename_i d r e1 e2; cases h; exact ⟨d,r,e1,e2,rfl⟩
 ·cases h
theorem gF:∀ (n:Nat) (x:PV),x.pl n=true->∃ d,x.d=some d/\d.depth<=n:=by
 intro n
 induction n with
 | zero=>
  intro x h;cases x <;> first | exact ⟨_,rfl,bj _⟩ | (simp [PV.pl] at h)
 | succ n ih=>
  intro x h;cases x with
  | tup xs=>
   have h:xs.all (PV.pl n)=true:=h;have many:∀ (xs:List PV),xs.all (PV.pl n)=true->∃ ds,PV.ds xs=some ds/\D.depths ds<=n:=by
    intro xs
    induction xs with
    | nil=>intro _; exact ⟨[],rfl,dv _⟩
    | cons x xs ihx=>
     intro h;simp only [ku,dw] at h;obtain ⟨d,h1,h2⟩:=ih x h.1;obtain ⟨ds,h3,h4⟩:=ihx h.2;refine ⟨d :: ds,KW h1 h3,?_⟩
     show max d.depth (D.depths ds)<=n
     omega
   obtain ⟨ds,h1,h2⟩:=many xs h;refine ⟨.tup ds,QS h1,?_⟩
   show D.depths ds+1<=n+1
   omega
  | _=>first | exact ⟨_,rfl,dv _⟩ | (simp [PV.pl] at h)
theorem El:∀ (n:Nat) (x y:PV) (d e:D),x.pl n=true->y.pl n=true->x.d=some d->y.d=some e->eqD d e=decide (x=y):=by
 intro n
 induction n with
 | zero=>
  intro x y d e hx hy h1 h2;cases x <;> first | (simp [PV.pl] at hx; done) | skip
  all_goals cases h1
  all_goals cases y <;> first | (simp [PV.pl] at hy; done) | skip
  all_goals cases h2
  all_goals simp only [eqD]
  all_goals rw [d3]
  all_goals simp
 | succ n ih=>
  intro x y d e hx hy h1 h2;have lists:∀ (xs ys:List PV) (ds es:List D),xs.all (PV.pl n)=true->ys.all (PV.pl n)=true->PV.ds xs=some ds->PV.ds ys=some es->fF ds es=decide (xs=ys):=by
   intro xs
   induction xs with
   | nil=>
    intro ys ds es _ _ h1 h2;cases h1
    cases ys with
    | nil=>cases h2; rfl
    | cons y ys=>obtain ⟨d,r,_,_,rfl⟩:=bW h2; simp [fF]
   | cons x xs ihx=>
    intro ys ds es hx hy h1 h2;obtain ⟨d,r,g1,g2,rfl⟩:=bW h1;simp only [ku,dw] at hx;cases ys with
    | nil=>cases h2; simp [fF]
    | cons y ys=>
     obtain ⟨e,q,g3,g4,rfl⟩:=bW h2;simp only [ku,dw] at hy;simp only [fF,ih x y d e hx.1 hy.1 g1 g3,ihx ys r q hx.2 hy.2 g2 g4];rw [d3];simp
  cases x with
  | tup xs=>
   obtain ⟨ds,g1,rfl⟩:=bH h1;cases y with
   | tup ys=>
    obtain ⟨es,g2,rfl⟩:=bH h2;simp only [eqD,lists xs ys ds es hx hy g1 g2];rw [d3];simp
   | non=>cases h2; simp [eqD]
   | int j=>cases h2; simp [eqD]
   | str j=>cases h2; simp [eqD]
   | _=>simp [PV.pl] at hy
  | non=>
   cases h1
   cases y with
   | tup ys=>obtain ⟨es,g2,rfl⟩:=bH h2; simp [eqD]
   | non=>cases h2; simp [eqD]
   | int j=>cases h2; simp [eqD]
   | str j=>cases h2; simp [eqD]
   | _=>simp [PV.pl] at hy
  | int i=>
   cases h1
   cases y with
   | tup ys=>obtain ⟨es,g2,rfl⟩:=bH h2; simp [eqD]
   | non=>cases h2; simp [eqD]
   | int j=>cases h2; simp only [eqD]; rw [d3]; simp
   | str j=>cases h2; simp [eqD]
   | _=>simp [PV.pl] at hy
  | str i=>
   cases h1
   cases y with
   | tup ys=>obtain ⟨es,g2,rfl⟩:=bH h2; simp [eqD]
   | non=>cases h2; simp [eqD]
   | int j=>cases h2; simp [eqD]
   | str j=>cases h2; simp only [eqD]; rw [d3]; simp
   | _=>simp [PV.pl] at hy
  | _=>simp [PV.pl] at hx
section
variable {x y:PV} {h:PH}
theorem KY (hx:x.pl 40=true) (hy:y.pl 40=true):yT x y h=some (decide (x=y)):=by
 obtain ⟨d,h1,h2⟩:=gF 40 x hx;obtain ⟨e,h3,h4⟩:=gF 40 y hy;unfold yT;rw [h1,h3];simp only [h2,if_true,El 40 x y d e hx hy h1 h3]
theorem HE (hx:x.pl 40=true) (hy:y.pl 40=true):vEq x y h=.ok (.bl (decide (x=y))) h:=by unfold vEq; rw [KY hx hy]; rfl
@[simp] theorem S0 {i j:Int}:vEq (.int i) (.int j) h=.ok (.bl (decide (i=j))) h:=by rw [HE rfl rfl]; congr 2; simp
theorem HF {n m:Nat} {xs ys:List PV} (e1:h[n]?=some (.lst xs)) (e2:h[m]?=some (.lst ys)) (hx:xs.all (PV.pl 39)=true) (hy:ys.all (PV.pl 39)=true):yT (.ref n) (.ref m) h=some (decide (xs=ys)):=by
 have e3:sQ (.ref n) h=some xs:=by unfold sQ aX; simp only [e1]
 have e4:sQ (.ref m) h=some ys:=by unfold sQ aX; simp only [e2]
 have hx':(PV.tup xs).pl 40=true:=hx;have hy':(PV.tup ys).pl 40=true:=hy;obtain ⟨d,h1,h2⟩:=gF 40 _ hx';obtain ⟨e,h3,h4⟩:=gF 40 _ hy';obtain ⟨ds,g1,rfl⟩:=bH h1;obtain ⟨es,g2,rfl⟩:=bH h3;have h5:=El 40 _ _ _ _ hx' hy' h1 h3;have h2':D.depths ds+1<=40:=h2;have h5':fF ds es=decide (xs=ys):=by
  have:fF ds es=decide (PV.tup xs=PV.tup ys):=h5;rw [this,d3]; simp
 unfold yT;have n1:(PV.ref n).d=none:=rfl;rw [n1];simp only [e3,e4,g1,g2,show D.depths ds<=40 by omega,if_true,h5']
theorem yX {n m:Nat} {xs ys:List PV} (e1:h[n]?=some (.lst xs)) (e2:h[m]?=some (.lst ys)) (hx:xs.all (PV.pl 39)=true) (hy:ys.all (PV.pl 39)=true):vNe (.ref n) (.ref m) h=.ok (.bl (!decide (xs=ys))) h:=by unfold vNe; rw [HF e1 e2 hx hy]; rfl
end
end L2
namespace L2
section
variable {α:Type} {a b c d e f g:α} {r:List α}
theorem rO {xs:List α} {v:α} (i:Nat) (h:xs[i]?=some v):atI xs (i:Int)=some v:=lY h
@[simp] theorem TB:atI (a :: r) 0=some a:=rO 0 rfl
@[simp] theorem TC:atI (a :: b :: r) 1=some b:=rO 1 rfl
@[simp] theorem TF:atI (a :: b :: c :: r) 2=some c:=rO 2 rfl
@[simp] theorem TH:atI (a :: b :: c :: d :: e :: r) 4=some e:=rO 4 rfl
end
end L2
namespace L2
open PySem PySem.Spec PyProof.Rows PySem.SeqAt
open PySem.AutoSeq1 (wpAny_loadPart')
open PySem.MeetsSeq PySem.MeetsSeq2 PySem.MeetsSeq3
def HG (A:Around) (s:Shared) (v u:Value) (b:Bool):Prop:=∀ (prog:Program) (w:World) (E:Value->Shared->Prop) (Q:Value->Shared->Prop),Q (.bool b) s->wpAny (model prog w) A (richCompare .Lt v u) Q E s
def QT (A:Around) (s:Shared) (v u:Value) (d e:D):Prop:=EqAt A s v u (eqD d e)/\(eqD d e=false->∀ b,ltD d e=some b->HG A s v u b)
abbrev wV (A:Around) (s:Shared):List Value->List Value->List D->List D->Prop:=fun vs us ds es=>vs.length=ds.length/\us.length=es.length/\∀ (j:Nat) v u d e,vs[j]?=some v->us[j]?=some u->ds[j]?=some d->es[j]?=some e->QT A s v u d e
theorem wV.tail {A:Around} {s:Shared} {v u:Value} {vs us:List Value} {d e:D} {ds es:List D} (h:wV A s (v :: vs) (u :: us) (d :: ds) (e :: es)):QT A s v u d e/\wV A s vs us ds es:=
 ⟨h.2.2 0 v u d e rfl rfl rfl rfl,by have:=h.1; simpa using this,by have:=h.2.1; simpa using this,fun j v u d e h1 h2 h3 h4=>h.2.2 (j+1) v u d e (by simpa using h1) (by simpa using h2) (by simpa using h3) (by simpa using h4)⟩
theorem nH (l b:Addr) (items items2:Array Value) (n n2:Nat) (dd dd2:Option Addr) (sl sl2:Array (Option Value)) (ds es:List D) (c:Bool) (hc:fV ds es=some c):
  Meets (Builtin.«tuple.__lt__» ⟨[.ref l,.ref b],[]⟩)
   (fun A R s=>s.heap.get? l=some { cls:=.type "tuple",dict:=dd,data:=.seq items n,slots:=sl }/\s.heap.get? b=some { cls:=.type "tuple",dict:=dd2,data:=.seq items2 n2,slots:=sl2 }/\
    wV A.in1 s items.toList items2.toList ds es/\R (.ok (.ret (.bool c))) s):=
 .of_wp fun prog w A R s h=>by
  obtain ⟨hp,g,d,tk,os⟩:=s; obtain ⟨hl,hb,hit,h⟩:=h;have f2:=AutoSeq1.sub_tuple_tuple;have z1:items.size=ds.length:=by rw [<- hit.1]; simp
  have z2:items2.size=es.length:=by rw [<- hit.2.1]; simp
  wp_walk using kj hl,kj hb,wpAny_forIn_list _ (fun rest b s'=>b.1=none/\s'=⟨hp,g,d,tk,os⟩/\∃ (vs ws:List Value) (ns' ms':List D),rest=vs.zip ws/\
   wV A.in1 ⟨hp,g,d,tk,os⟩ vs ws ns' ms'/\ns'.length+items2.size=ms'.length+items.size/\fV ns' ms'=some c) _
  case turn=>
   rintro ⟨y,x⟩ rest b s' ⟨hb',rfl,vs,ws,ns',ms',hz,hvi,hlen,hR⟩;cases vs with
   | nil=>rw [List.zip_nil_left] at hz; cases hz
   | cons v vs=>
    cases ws with
    | nil=>rw [List.zip_nil_right] at hz; cases hz
    | cons u ws=>
     rw [j1] at hz;injection hz with hyx hrest;injection hyx with hy hx;subst hy hx;cases ns' with
     | nil=>have:=hvi.1; simp at this
     | cons a ns'=>
      cases ms' with
      | nil=>have:=hvi.2.1; simp at this
      | cons e ms'=>
       obtain ⟨⟨h1,h2⟩,ht⟩:=wV.tail hvi;simp only [cx] at hlen;simp only [fV] at hR;refine aa (h1 prog w _ _ ?_);cases q:eqD a e with
       | true=>
        rw [q,if_pos rfl] at hR
        wp_walk
        exact ⟨rfl,rfl,_,_,_,_,hrest,ht,by omega,hR⟩
       | false=>
        rw [q,if_neg bx] at hR;have hri:=h2 q c hR prog w
        wp_walk using hri
        exact ⟨_,rfl,by simpa using h⟩
  case fin=>
   rintro ⟨b1,b2⟩ s' ⟨hb',rfl,vs,ws,ns',ms',hz,hvi,hlen,hR⟩;simp only at hb';subst hb';have hv:c=decide (items.size < items2.size):=by
    cases ns' with
    | nil=>
     cases ms' with
     | nil=>
      simp only [kc] at hlen;simp only [fV] at hR;cases hR
      exact (decide_eq_false (by omega)).symm
     | cons e ms'=>
      simp only [kc,cx] at hlen;simp only [fV] at hR;cases hR
      exact (decide_eq_true (by omega)).symm
    | cons a ns'=>
     cases ms' with
     | nil=>
      simp only [kc,cx] at hlen;simp only [fV] at hR;cases hR
      exact (decide_eq_false (by omega)).symm
     | cons e ms'=>
      exfalso;cases vs with
      | nil=>have:=hvi.1; simp at this
      | cons v vs=>
       cases ws with
       | nil=>have:=hvi.2.1; simp at this
       | cons u ws=>rw [j1] at hz; cases hz
   rw [hv] at h
   wp_walk
   exact ⟨_,rfl,by simpa [Builtin.Tuple.tupleCompareSizes] using h⟩
  case h=>
   exact ⟨rfl,rfl,items.toList,items2.toList,ds,es,rfl,hit,by omega,hc⟩
section
variable {X:Cx} {pins:List (Addr×Obj)} {σ:St} {H:Hp} {s:Shared}
theorem T6 (I:Inv X pins σ H s):∀ (n:Nat) (d e:D) (A:Around) (x y:V) (v u:Value) (b:Bool),d.depth<=n->A.units+n < cLine->Rep X.K H d x->Rep X.K H e y->RelV x v->RelV y u->ltD d e=some b->HG A s v u b:=by
 intro n
 induction n with
 | zero=>
  intro d e A x y v u b hd hu hx hy rx ry hb;cases d with
  | tup ds=>exact absurd hd (by show ¬ D.depths ds+1<=0; omega)
  | int i=>
   cases e with
   | int j=>
    cases hx; cases hy;obtain ⟨t,rfl⟩:=rx;obtain ⟨t',rfl⟩:=ry;simp only [ltD] at hb;cases hb
    exact fun prog w E Q q=>(PyProof.Rows.lt_int q:wpAny (model prog w) A (dt .Lt _ _) Q E s)
   | _=>simp [ltD] at hb
  | str i=>
   cases e with
   | str j=>
    cases hx; cases hy;obtain ⟨t,rfl⟩:=rx;obtain ⟨t',rfl⟩:=ry;simp only [ltD] at hb;cases hb
    exact fun prog w E Q q=>(PyProof.Rows.lt_str q:wpAny (model prog w) A (dt .Lt _ _) Q E s)
   | _=>simp [ltD] at hb
  | _=>cases e <;> simp [ltD] at hb
 | succ n ih=>
  intro d e A x y v u b hd hu hx hy rx ry hb
  by_cases h0:d.depth<=n
  ·exact ih d e A x y v u b h0 (by omega) hx hy rx ry hb
  ·cases d with
   | tup ds=>
    cases e with
    | tup es=>
     have hds:D.depths ds<=n:=by have:D.depths ds+1<=n+1:=hd; omega
     obtain ⟨a,vs,rfl,q,r⟩:=hx;cases rx
     obtain ⟨its,rv,p,_⟩:=I.tuple q;obtain ⟨a',vs',rfl,q',r'⟩:=hy;cases ry
     obtain ⟨its',rv',p',_⟩:=I.tuple q';have hb':fV ds es=some b:=by simpa [ltD] using hb
     obtain ⟨⟨cls,dd,data,sl⟩,ho,hc,m,hdt⟩:=id p;obtain ⟨⟨cls2,dd2,data2,sl2⟩,ho2,hc2,m2,hd2⟩:=id p';simp only at hc hdt hc2 hd2;subst hc hdt hc2 hd2;intro prog w E Q hq;refine richCompare_meets_room (op:=.Lt) ⟨_,ho,rfl⟩ ⟨_,ho2,rfl⟩ PySem.F.slot_tuple_lt PySem.F.entry_tuple_lt (PySem.F.args_tuple_lt_2 _ _) (nH a a' its.toArray its'.toArray m m2 dd dd2 sl sl2 ds es b hb')
      ⟨ho,ho2,⟨?_,?_,?_⟩,show Value.bool b≠Value.notImplemented/\Q (.bool b) s from ⟨(fun x=>nomatch x),hq⟩⟩ (by omega)
     ·have l1:=r.length;have l3:=rv.length
      show its.length=ds.length
      omega
     ·have l1:=r'.length;have l3:=rv'.length
      show its'.length=es.length
      omega
     ·intro j v u d e h1 h2 h3 h4;obtain ⟨xv,hxv,hrx⟩:=r.at h3;obtain ⟨yv,hyv,hry⟩:=r'.at h4;obtain ⟨xu,hxu,hru⟩:=rv.get hxv;obtain ⟨yu,hyu,hru'⟩:=rv'.get hyv;have e1:v=xu:=by
       have:its[j]?=some v:=h1;rw [hxu] at this;exact (b8 this).symm
      have e2:u=yu:=by
       have:its'[j]?=some u:=h2;rw [hyu] at this;exact (b8 this).symm
      subst e1 e2;have hdj:=D.depths_le h3;refine ⟨GX I (n:=n) (by omega) ?_ hrx hry hru hru',fun _ b hb=>ih d e _ xv yv v u b (by omega) ?_ hrx hry hru hru' hb⟩
      all_goals (show A.units+1+n < cLine; omega)
    | _=>simp [ltD] at hb
   | _=>exact absurd (dv n) h0
end
variable {C:MC} {k:Nat} {X:Cx}
def D4 (x y:PV):Option Bool:=match x.d,y.d with
 | some d,some e=>if d.depth<=40 then ltD d e else none
 | _,_=>none
def jL:PV->PV->PH->Rs PV:=fun x y h=>match x,y with
 | .tup xs,.tup ys=>ofB (D4 (.tup xs) (.tup ys)) h
 | x,y=>vLt x y h
theorem Of (hu:X.A.units+64 < cLine) (K:ag) (hK:X.K=K):OpR X (dt .Lt) (fun x y H Q=>∃ d e b,Rep K H d x/\Rep K H e y/\d.depth<=40/\ltD d e=some b/\Q (.bl b) H):=by
 subst hK;intro pins s σ H x y v u Q I rx ry h;obtain ⟨d,e,b,hx,hy,hd,hb,q⟩:=h;exact T6 I 40 d e X.A x y v u b hd (by omega) hx hy rx ry hb X.prog X.w X.xe _ ⟨.bl _,H,I,rfl,q⟩
theorem HH:OpS C k X (dt .Lt) jL:=fun c=>((Of c.hu64 C.K c.K).or (SK c)).imp fun x y H Q h=>by
 obtain ⟨φ,h,p,q,rh,rx,ry,po⟩:=h;unfold jL at po;split at po
 ·obtain ⟨b,e,po⟩:=po.ofB;unfold D4 at e;split at e
  ·rename_i d e' h1 h2;split at e
   ·rename_i hd;exact .inl ⟨d,e',b,rx.rep h1,ry.rep h2,hd,e,po.val rh rfl⟩
   ·cases e
  ·cases e
 ·exact .inr ⟨φ,h,p,q,rh,rx,ry,po⟩
section
variable {h:PH}
@[simp] theorem Pv {i j:Int}:jL (.int i) (.int j) h=.ok (.bl (decide (i < j))) h:=(rfl)
@[simp] theorem Pw {i j:Str}:jL (.str i) (.str j) h=.ok (.bl (decide (i.cps.toList < j.cps.toList))) h:=(rfl)
def ltL (f:PV->PV->Option Bool):List PV->List PV->Option Bool
 | [],[]=>some false
 | [],_ :: _=>some true
 | _ :: _,[]=>some false
 | x :: xs,y :: ys=>if x=y then ltL f xs ys else f x y
def ltP:Nat->PV->PV->Option Bool
 | _,.int a,.int b=>some (decide (a < b))
 | _,.str a,.str b=>some (decide (a.cps.toList < b.cps.toList))
 | n+1,.tup xs,.tup ys=>ltL (ltP n) xs ys
 | _,_,_=>none
theorem Em:∀ (n:Nat) (x y:PV) (d e:D),x.pl n=true->y.pl n=true->x.d=some d->y.d=some e->ltD d e=ltP n x y:=by
 intro n
 induction n with
 | zero=>
  intro x y d e hx hy h1 h2;cases x <;> first | (simp [PV.pl] at hx; done) | skip
  all_goals cases h1
  all_goals cases y <;> first | (simp [PV.pl] at hy; done) | skip
  all_goals cases h2
  all_goals simp [ltD,ltP]
 | succ n ih=>
  intro x y d e hx hy h1 h2;have lists:∀ (xs ys:List PV) (ds es:List D),xs.all (PV.pl n)=true->ys.all (PV.pl n)=true->PV.ds xs=some ds->PV.ds ys=some es->fV ds es=ltL (ltP n) xs ys:=by
   intro xs
   induction xs with
   | nil=>
    intro ys ds es _ _ h1 h2;cases h1
    cases ys with
    | nil=>cases h2; simp [fV,ltL]
    | cons y ys=>obtain ⟨d,r,_,_,rfl⟩:=bW h2; simp [fV,ltL]
   | cons x xs ihx=>
    intro ys ds es hx hy h1 h2;obtain ⟨d,r,g1,g2,rfl⟩:=bW h1;simp only [ku,dw] at hx;cases ys with
    | nil=>cases h2; simp [fV,ltL]
    | cons y ys=>
     obtain ⟨e,q,g3,g4,rfl⟩:=bW h2;simp only [ku,dw] at hy;simp only [fV,ltL,El n x y d e hx.1 hy.1 g1 g3,ihx ys r q hx.2 hy.2 g2 g4,ih x y d e hx.1 hy.1 g1 g3,decide_eq_true_eq]
  cases x with
  | tup xs=>
   obtain ⟨ds,g1,rfl⟩:=bH h1;cases y with
   | tup ys=>
    obtain ⟨es,g2,rfl⟩:=bH h2;simp only [ltD,lists xs ys ds es hx hy g1 g2,ltP]
   | non=>cases h2; simp [ltD,ltP]
   | int j=>cases h2; simp [ltD,ltP]
   | str j=>cases h2; simp [ltD,ltP]
   | _=>simp [PV.pl] at hy
  | non=>cases h1; cases y <;> first | (simp [PV.pl] at hy; done) | (obtain ⟨es,g2,rfl⟩:=bH h2; simp [ltD,ltP]; done) | (cases h2; simp [ltD,ltP])
  | int i=>cases h1; cases y <;> first | (simp [PV.pl] at hy; done) | (obtain ⟨es,g2,rfl⟩:=bH h2; simp [ltD,ltP]; done) | (cases h2; simp [ltD,ltP])
  | str i=>cases h1; cases y <;> first | (simp [PV.pl] at hy; done) | (obtain ⟨es,g2,rfl⟩:=bH h2; simp [ltD,ltP]; done) | (cases h2; simp [ltD,ltP])
  | _=>simp [PV.pl] at hx
theorem HI {xs ys:List PV} {b:Bool} (hx:(PV.tup xs).pl 40=true) (hy:(PV.tup ys).pl 40=true) (e:ltL (ltP 39) xs ys=some b):jL (.tup xs) (.tup ys) h=.ok (.bl b) h:=by
 obtain ⟨d,h1,h2⟩:=gF 40 _ hx;obtain ⟨d',h3,h4⟩:=gF 40 _ hy;have:=Em 40 _ _ d d' hx hy h1 h3;have e':ltP 40 (.tup xs) (.tup ys)=some b:=e;unfold jL D4;simp only [h1,h3,h2,if_true,this,e'];rfl
end
end L2
namespace L2
open PySem PySem.Spec PyProof.Rows
variable {C:MC} {k:Nat} {X:Cx}
def B8:List PV->Option (List Int)
 | []=>some []
 | .int i :: r=>(B8 r).map (i :: ·)
 | _ :: _=>none
theorem En {φ:List Addr} {H:Hp}:∀ {xs:List PV} {vs:List V} {ns:List Int},RVs C φ H xs vs->B8 xs=some ns->vs=ns.map V.int
 | [],[],_,_,e=>by cases e; rfl
 | x :: xs,v :: vs,ns,⟨h,r⟩,e=>by
  cases x with
  | int i=>
   cases h
   simp only [B8,b6] at e;obtain ⟨m,e,rfl⟩:=e;rw [En r e]; rfl
  | _=>cases e
 | [],_ :: _,_,h,_=>h.elim
 | _ :: _,[],_,h,_=>h.elim
end L2
namespace L2
open PySem
section
variable {h:PH} {lo hi:Option Int}
@[simp] theorem KZ {xs:List PV}:vSl (.tup xs) lo hi h=.ok (.tup (kW xs lo hi)) h:=(rfl)
@[simp] theorem T7 {xs:List PV}:vSl (.fl xs) lo hi h=.ok (.ref h.length) (h++[.lst (kW xs lo hi)]):=(rfl)
theorem nI {n:Nat} {xs:List PV} (e:h[n]?=some (.lst xs)):vSl (.ref n) lo hi h=.ok (.ref h.length) (h++[.lst (kW xs lo hi)]):=by
 have e3:aX h n=some xs:=by unfold aX; rw [e]
 unfold vSl; simp only [e3]
@[simp] theorem T8 {a b:Bool}:vIs (.bl a) (.bl b) h=.ok (.bl (a == b)) h:=(rfl)
@[simp] theorem Px {a b:Bool}:Hf (.bl a) (.bl b) h=.ok (.bl (!(a == b))) h:=(rfl)
@[simp] theorem S4 {x:PV}:vIs x .non h=.ok (.bl (iG x)) h:=(rfl)
@[simp] theorem Og {x:PV}:Hf x .non h=.ok (.bl (!iG x)) h:=(rfl)
theorem rP {n d:Nat} {i:Int} (h0:0<=i):HT.sIx n d (some i)=min i.toNat n:=by
 show (if i < 0 then (i+(n:Int)).toNat else min i.toNat n)=_
 rw [if_neg (by omega)]
theorem D5 {α:Type} {xs:List α} {j:Int} (h0:0<=j):kW xs none (some j)=xs.take j.toNat:=by
 unfold kW;rw [rP h0];simp only [HT.sIx,d0,i6];rw [List.take_eq_take_iff];omega
theorem B9 {α:Type} {xs:List α} {j:Int} (h0:0<=j):kW xs (some j) none=xs.drop j.toNat:=by
 unfold kW;rw [rP h0];simp only [HT.sIx]
 by_cases hj:j.toNat<=xs.length
 ·rw [Nat.min_eq_left hj,du (by rw [bz]; omega)]
 ·rw [Nat.min_eq_right (by omega),fw (bj _),fw (by omega)];simp
end
section
variable {δ:Ev} {h h1:PH} {js:List (Option Nat)} {tg:Mg} {tst:Ev->PH->Rs Bool} {elt:Me} {g:PH->Bool} {n:Nat}
theorem Eo {δ0:Ev} {Q:PV->PH->Prop} (I:Nat->PH->Prop):∀ (xs:List PV) (k:Nat) (h:PH),I k h->
  (∀ i x h,k<=i->xs[i - k]?=some x->I i h->g h=true/\∃ δ1,tg x δ0=some δ1/\(tst δ1 h).W fun b h'=>if b=true then (elt δ1 h').W fun p h''=>∃ ys,h''[n]?=some (.lst ys)/\ys.length < 16777216/\I (i+1) (h''.set n (.lst (ys++[p]))) else I (i+1) h')->
  (∀ h,I (k+xs.length) h->g h=true/\Q (.ref n) h)->(iV g tg tst elt δ0 n xs h).W Q
 | [],k,h,i0,_,fin=>by
  obtain ⟨h1,h2⟩:=fin h i0;simp [iV,h1,h2]
 | x :: xs,k,h,i0,step,fin=>by
  obtain ⟨h1,δ1,h2,h3⟩:=step k x h (bj _) (by simp) i0;have go:∀ h2,I (k+1) h2->(iV g tg tst elt δ0 n xs h2).W Q:=fun h2 i2=>
   Eo I xs (k+1) h2 i2 (fun i y h hk hy=>step i y h (by omega) (by
    have:i - k=(i - (k+1))+1:=by omega
    rw [this,d4]; exact hy)) (fun h hi=>fin h (by
    have e:k+(x :: xs).length=k+1+xs.length:=by simp; omega
    rw [e]; exact hi))
  unfold iV;rw [if_pos h1,h2]
  show (Rs.bind (tst δ1 h) _).W Q
  rw [CZ];refine Hs h3 fun b h' hb=>?_;cases b with
  | false=>exact go h' (by simpa using hb)
  | true=>
   show (Rs.bind (elt δ1 h') _).W Q
   rw [CZ];refine Hs (show (elt δ1 h').W _ from by simpa using hb) fun p h'' hp=>?_
   obtain ⟨ys,e,hz,hi⟩:=hp;have e':dY h'' n=some ys:=by unfold dY; rw [e]
   simp [e',hz];exact go _ hi
theorem wW {α:Type} {mi:Mi} {ys:List α} {emb:α->PV} (f:α->Option PV) (e:mi δ h=.ok ⟨ys.map emb,g⟩ h1) (hg:∀ h,Ext h1 h->g h=true) (hz:ys.length<=16777216)
  (step:∀ y∈ys,∃ δ1,tg (emb y) (oX js δ)=some δ1/\∀ h,Ext h1 h->match f y with
   | none=>tst δ1 h=.ok false h
   | some p=>tst δ1 h=.ok true h/\elt δ1 h=.ok p h):dC js mi tg tst elt δ h=.ok (.ref h1.length) (h1++[.lst (ys.filterMap f)]):=by
 have w:(dC js mi tg tst elt δ h).W fun p h'=>p=.ref h1.length/\h'=h1++[.lst (ys.filterMap f)]:=by
  unfold dC;rw [e,Rs.bind_ok];refine Eo (fun i h'=>h'=h1++[.lst ((ys.take i).filterMap f)]) (ys.map emb) 0 _ (by simp) (fun i x h' _ hx hi=>?_) (fun h' hi=>?_)
  ·subst hi;have hx:(ys.map emb)[i]?=some x:=by simpa using hx
   rw [bf] at hx;obtain ⟨y,hy,rfl⟩:=b6.mp hx;have hil:=(ae.mp hy).1;obtain ⟨δ1,ht,hs⟩:=step y (b7 hy);have hs:=hs (h1++[.lst ((ys.take i).filterMap f)]) (Ext.app _ _);have htk:ys.take (i+1)=ys.take i++[y]:=by rw [List.take_add_one,hy]; rfl
   refine ⟨hg _ (Ext.app _ _),δ1,ht,?_⟩;cases ef:f y with
   | none=>
    rw [ef] at hs;rw [hs];simp [htk,ef]
   | some p=>
    rw [ef] at hs;rw [hs.1];simp [hs.2];refine ⟨?_,by simp [htk,ef]⟩;have:=List.length_filterMap_le f (ys.take i);rw [bq] at this;omega
  ·subst hi;simp;exact hg _ (Ext.app _ _)
 obtain ⟨p,h',e,rfl,rfl⟩:=oY w;exact e
theorem HJ {m:Me} {xs:List PV} (e:m δ h=.ok (.ref n) h1) (hn:h1[n]?=some (.lst xs)):dB m δ h=.ok ⟨xs,tB n xs⟩ h1:=by
 unfold dB;have e3:aX h1 n=some xs:=by unfold aX; rw [hn]
 rw [e,Rs.bind_ok];unfold ofSeq; simp only [e3]
theorem HK {xs:List PV} (hn:h1[n]?=some (.lst xs)):∀ h,Ext h1 h->tB n xs h=true:=fun h hx=>by
 have e3:aX h n=some xs:=by unfold aX; rw [hx _ _ hn]
 unfold tB; rw [e3]; exact PV.beqs_self xs
theorem tG {α:Type} {m:Me} {ys:List α} {emb:α->PV} (f:α->Option PV) (e:m δ h=.ok (.ref n) h1) (hn:h1[n]?=some (.lst (ys.map emb))) (hz:ys.length<=16777216)
  (step:∀ y∈ys,∃ δ1,tg (emb y) (oX js δ)=some δ1/\∀ h,Ext h1 h->match f y with
   | none=>tst δ1 h=.ok false h
   | some p=>tst δ1 h=.ok true h/\elt δ1 h=.ok p h):dC js (dB m) tg tst elt δ h=.ok (.ref h1.length) (h1++[.lst (ys.filterMap f)]):=
 wW f (HJ e hn) (HK hn) hz step
end
end L2
namespace L2
open PySem PySem.Spec PyProof.Rows
section
variable {X:Cx} {pins:List (Addr×Obj)} {σ:St} {H:Hp} {s:Shared} {C:MC} {φ:List Addr}
mutual
theorem HL (I:Inv X pins σ H s) (hK:X.K=C.K):∀ (n:Nat) {p:PV} {v:V} {u:Value},p.ky n=true->RV C φ H p v->RelV v u->HR s.heap p u
 | _,.int i,v,u,_,r,ru=>by cases r; exact ru
 | _,.str i,v,u,_,r,ru=>by cases r; exact ru
 | n+1,.tup ps,v,u,hk,r,ru=>by
  obtain ⟨a,vs,rfl,q,rs⟩:=r;cases ru
  rw [<- hK] at q;obtain ⟨its,rv,p,_⟩:=I.tuple q;exact ⟨a,its,rfl,p,yY I hK n (cy.mp hk) rs rv⟩
 | 0,.tup _,_,_,hk,_,_=>by cases hk
 | n,.non,_,_,hk,_,_=>by cases n <;> cases hk
 | n,.bl _,_,_,hk,_,_=>by cases n <;> cases hk
 | n,.ref _,_,_,hk,_,_=>by cases n <;> cases hk
 | n,.ty _,_,_,hk,_,_=>by cases n <;> cases hk
 | n,.fl _,_,_,hk,_,_=>by cases n <;> cases hk
theorem yY (I:Inv X pins σ H s) (hK:X.K=C.K):∀ (n:Nat) {ps:List PV} {vs:List V} {us:List Value},(∀ p∈ps,p.ky n=true)->RVs C φ H ps vs->aL vs us->HRs s.heap ps us
 | _,[],[],us,_,_,ru=>by cases ru; trivial
 | n,p :: ps,v :: vs,us,hk,r,ru=>by
  cases ru with
  | cons h t=>exact ⟨HL I hK n (hk p bg) r.1 h,yY I hK n (fun q hq=>hk q (ao _ hq)) r.2 t⟩
 | _,[],_ :: _,_,_,r,_=>r.elim
 | _,_ :: _,[],_,_,r,_=>r.elim
end
abbrev pB:List (PV×Addr×V)->List (PV×Addr×Value)->Prop:=Paired fun p q=>p.1=q.1/\p.2.1=q.2.1/\RelV p.2.2 q.2.2
def HD (C:MC) (φ:List Addr) (H:Hp) (X:Cx) (s:Shared) (a:Addr) (kvs:List (PV×PV)):Prop:=
 ∃ ks xs,RKd C φ H kvs ks/\pB ks xs/\xs.length<=az/\(a == jg)=false/\s.heap.DictOfH (qC X.prog X.w) a xs
def bU (h:PH) (n:Nat):Option (List (PV×PV)):=match h[n]? with
 | some (.dD kvs)=>some kvs
 | some (.dK [])=>some []
 | _=>none
def PV.isKt:PV->Bool
 | .tup xs=>(PV.tup xs).ky 6
 | _=>false
theorem rQ {p:PV} (h:p.isKt=true):p.ky 6=true:=by cases p <;> first | exact h | cases h
theorem nJ {p:PV} {v:V} (h:p.isKt=true) (r:RV C φ H p v):∃ b,v=.ref b:=by
 cases p <;> first | (obtain ⟨b,_,e,_⟩:=r; exact ⟨b,e⟩) | cases h
theorem B' {h:PH} {n:Nat} {a:Addr} {kvs:List (PV×PV)} (I:Inv X pins σ H s) (hK:X.K=C.K) (hw:X.w=C.w) (rh:RH C φ H h) (ha:φ[n]?=some a) (e:bU h n=some kvs):HD C φ H X s a kvs/\Mut (H a)/\AN (H a):=by
 unfold bU at e;split at e
 ·rename_i kv hk;cases e
  obtain ⟨ks,hH,r⟩:=rh.at' n a _ ha hk;have hO:cI X.prog X.w H s.heap a (dDO C.w a ks):=I.hok a _ hH;obtain ⟨⟨hz,hm,xs,rx,o,es,ep,h1,h2,h3,h4,h5⟩,_⟩:=hO;refine ⟨⟨ks,xs,r,rx,by rw [<- fc rx]; exact hz,hm,o,es,ep,h1,h2,h3,?_,?_,h5⟩,by rw [hH]; exact lh,by rw [hH]; exact lh⟩
  ·rw [h4,<- hw]; rfl
  ·have all:∀ {l:List (PV×PV)} {m:List (PV×Addr×V)} {z:List (PV×Addr×Value)},RKd C φ H l m->pB m z->∀ x∈z,(qC X.prog X.w).is s.heap x.1 x.2.1:=by
    intro l m z q;unfold RKd at q
    induction q generalizing z with
    | nil=>intro rz x hx; cases rz; cases hx
    | cons hq t ih=>
     intro rz x hx;cases rz with
     | cons hz' tz=>
      rcases bw.mp hx with e | hx
      ·subst e;refine ⟨?_,?_⟩
       ·rw [<- hz'.1,<- hq.1]; exact hq.2.1
       ·rw [<- hz'.1,<- hq.1,<- hz'.2.1]; exact HL I hK 6 hq.2.1 hq.2.2.1 rfl
      ·exact ih tz x hx
   exact all r rx
 ·rename_i hk;cases e
  obtain ⟨ks,hH,r⟩:=rh.at' n a _ ha hk;have:ks=[]:=by cases r; rfl
  subst this;obtain ⟨z,hd,vs,rel,o,es,ep,h1,h2,h3,h4,h5,h6⟩:=E3 I.hok hH;have:vs=[]:=by cases rel; rfl
  subst this;refine ⟨⟨[],[],.nil,.nil,dv _,hd,o,es,ep,h1,h2,h3,?_,(fun x hx=>nomatch hx),List.nodup_nil⟩,by rw [hH]; exact lh,by rw [hH]; exact lh⟩;cases he:es.toList with
  | nil=>rfl
  | cons y ys=>rw [he] at h5; cases h5
 ·cases e
theorem HD.val {a:Addr} {kvs:List (PV×PV)} {ks:List (PV×Addr×V)} {xs:List (PV×Addr×Value)} (r:RKd C φ H kvs ks) (rx:pB ks xs) (k:PV):match bR kvs k,(atKey xs k).map (·.2) with
  | some p,some u=>∃ v,RelV v u/\RV C φ H p v
  | none,none=>True
  | _,_=>False:=by
 unfold RKd at r
 induction r generalizing xs with
 | nil=>cases rx; trivial
 | @cons p q ps qs h t ih=>
  cases rx with
  | @cons q' x qs' xs' hx tx=>
   obtain ⟨pk,pv⟩:=p
   by_cases e:pk=k
   ·have e':x.1=k:=hx.1.symm.trans (h.1.symm.trans e);have b:atKey (x :: xs') k=some x.2:=by simp [atKey,jl,e']
    rw [b];unfold bR;rw [if_pos e];exact ⟨_,hx.2.2,h.2.2.2⟩
   ·have e':¬ x.1=k:=fun z=>e (h.1.trans (hx.1.trans z));have b:atKey (x :: xs') k=atKey xs' k:=by simp [atKey,jl,e']
    rw [b];unfold bR;rw [if_neg e];exact ih tx
def iK {κ:Type} [DecidableEq κ] (kvs:List (κ×PV)) (k:κ) (p:PV):List (κ×PV):=if (bR kvs k).isSome then kvs.map (fun kv=>if kv.1=k then (kv.1,p) else kv) else kvs++[(k,p)]
theorem HD.replace {a:Addr} {kvs:List (PV×PV)} {ks:List (PV×Addr×V)} {xs:List (PV×Addr×Value)} (r:RKd C φ H kvs ks) (rx:pB ks xs) (k:PV) {p:PV} {v:V} {u:Value} (rp:RV C φ H p v) (ru:RelV v u):
  ∃ ks',RKd C φ H (kvs.map fun kv=>if kv.1=k then (kv.1,p) else kv) ks'/\pB ks' (xs.map (putAt k u)):=by
 unfold RKd at r
 induction r generalizing xs with
 | nil=>cases rx; exact ⟨[],.nil,.nil⟩
 | @cons pp q ps qs h t ih=>
  cases rx with
  | @cons q' x qs' xs' hx tx=>
   obtain ⟨ks',r1,r2⟩:=ih tx
   by_cases e:pp.1=k
   ·refine ⟨(q.1,q.2.1,v) :: ks',.cons ?_ r1,.cons ?_ r2⟩
    ·simp only [if_pos e]; exact ⟨h.1,h.2.1,h.2.2.1,rp⟩
    ·unfold putAt; rw [if_pos (hx.1.symm.trans (h.1.symm.trans e))]; exact ⟨hx.1,hx.2.1,ru⟩
   ·refine ⟨q :: ks',.cons ?_ r1,.cons ?_ r2⟩
    ·simp only [if_neg e]; exact h
    ·unfold putAt; rw [if_neg fun z=>e (h.1.trans (hx.1.trans z))]; exact hx
theorem HD.put {a b:Addr} {kvs:List (PV×PV)} {ks:List (PV×Addr×V)} {xs:List (PV×Addr×Value)} (r:RKd C φ H kvs ks) (rx:pB ks xs) {k:PV} (hk:k.ky 6=true) (rk:RV C φ H k (.ref b)) {p:PV} {v:V} {u:Value} (rp:RV C φ H p v) (ru:RelV v u):
  ∃ ks',RKd C φ H (iK kvs k p) ks'/\pB ks' (storedH xs k b u):=by
 have hv:=HD.val (a:=b) r rx k;unfold iK storedH;cases e1:bR kvs k with
 | some p0=>
  rw [e1] at hv;cases e2:atKey xs k with
  | none=>rw [e2] at hv; exact hv.elim
  | some z=>exact HD.replace (a:=b) r rx k rp ru
 | none=>
  rw [e1] at hv;cases e2:atKey xs k with
  | some z=>rw [e2] at hv; exact hv.elim
  | none=>exact ⟨ks++[(k,b,v)],Paired.snoc r ⟨rfl,hk,rk,rp⟩,Paired.snoc rx ⟨rfl,rfl,ru⟩⟩
theorem HD.isSome {kvs:List (PV×PV)} {ks:List (PV×Addr×V)} {xs:List (PV×Addr×Value)} (r:RKd C φ H kvs ks) (rx:pB ks xs) (k:PV):(atKey xs k).isSome=(bR kvs k).isSome:=by
 have hv:=HD.val (a:=0) r rx k;cases e1:bR kvs k with
 | some p0=>
  rw [e1] at hv;cases e2:atKey xs k with
  | none=>rw [e2] at hv; exact hv.elim
  | some z=>rfl
 | none=>
  rw [e1] at hv;cases e2:atKey xs k with
  | some z=>rw [e2] at hv; exact hv.elim
  | none=>rfl
theorem Ba (I:Inv X pins σ H s) (hK:X.K=C.K) {p:PV} {b:Addr} (hk:p.isKt=true) (r:RV C φ H p (.ref b)):(qC X.prog X.w).is s.heap p b:=⟨rQ hk,HL I hK 6 (rQ hk) r rfl⟩
end
section
variable {C:MC} {k:Nat} {X:Cx}
theorem Cxt.room6 (c:Cxt C k X):(qC X.prog X.w).room X.A.in1:=by
 have:=c.hu64
 show X.A.units+1+6 < cLine
 omega
def qY (x y:PV) (h:PH):Option (Option PV):=match y with
 | .ref n=>if x.isKt=true then (bU h n).map fun kvs=>bR kvs x else none
 | _=>none
def HM (C:MC):V->V->Hp->(List Addr->Option PV->Prop)->Prop:=fun x y H R=>∃ φ h p n a kvs,RH C φ H h/\RV C φ H p x/\y=.ref a/\φ[n]?=some a/\bU h n=some kvs/\p.isKt=true/\R φ (bR kvs p)
theorem tH {φ:List Addr} {H:Hp} {h:PH} {p q:PV} {x y:V} {o:Option PV} {R:List Addr->Option PV->Prop} (rh:RH C φ H h) (rx:RV C φ H p x) (ry:RV C φ H q y) (e:qY p q h=some o) (r:R φ o):HM C x y H R:=by
 unfold qY at e;cases q with
 | ref n=>
  obtain ⟨a,rfl,ha⟩:=ry;dsimp only at e;split at e
  ·rename_i hk;cases e1:bU h n with
   | none=>rw [e1] at e; cases e
   | some kvs=>rw [e1] at e; cases e; exact ⟨φ,h,p,n,a,kvs,rh,rx,rfl,ha,e1,hk,r⟩
  ·cases e
 | _=>cases e
theorem L0 (c:Cxt C k X):OpR X (dt .In) (fun x y H Q=>HM C x y H fun _ o=>Q (.bl o.isSome) H):=fun pins s σ H x y v u Q I rx ry h=>by
 obtain ⟨φ,h,p,n,a,kvs,rh,rp,rfl,ha,ht,hk,q⟩:=h;cases ry
 obtain ⟨b,rfl⟩:=nJ hk rp;cases rx
 obtain ⟨⟨ks,xs,r,rx',hz,hm,dd⟩,_⟩:=B' I c.K c.w rh ha ht;refine wpAny_in_heap c.room6 (Ba I c.K hk rp) hm dd ?_;rw [HD.isSome r rx' p];exact ⟨.bl _,H,I.tok _,rfl,q⟩
def vE:PV->PV->PH->Rs PV:=fun x y h=>match qY x y h with
 | some o=>.ok (.bl o.isSome) h
 | none=>vIn x y h
theorem MX:OpS C k X (dt .In) vE:=fun c=>((SM c).or (L0 c)).imp fun x y H Q h=>by
 obtain ⟨φ,h,p,q,rh,rx,ry,po⟩:=h;unfold vE at po;cases e:qY p q h with
 | none=>rw [e] at po; exact .inl ⟨φ,h,p,q,rh,rx,ry,po⟩
 | some o=>rw [e] at po; exact .inr (tH rh rx ry e (po.val rh rfl))
theorem T9 (c:Cxt C k X):IxR X (fun x y H Q=>HM C y x H fun φ o=>∃ p,o=some p/\∀ v:V,RV C φ H p v->Q v H):=by
 intro value slice pins s σ H x y v u Q I rx ry h hs;obtain ⟨φ,h,p,n,a,kvs,rh,rp,rfl,ha,ht,hk,p',ep,q⟩:=h;cases rx
 obtain ⟨b,rfl⟩:=nJ hk rp;cases ry
 obtain ⟨⟨ks,xs,r,rx',hz,hm,dd⟩,_⟩:=B' I c.K c.w rh ha ht;have hT:=dd.typeIs;have hv:=HD.val (a:=a) r rx' p;rw [ep] at hv;cases e2:atKey xs p with
 | none=>rw [e2] at hv; exact hv.elim
 | some z=>
  rw [e2] at hv;obtain ⟨v',rv1,rv2⟩:=hv;unfold subscriptTail;refine aa ?_;rw [getitemInPython_of_ne hT.not_modules];refine aa (wpAny_specialOf hT PySem.F.slot_dict_getitem.lookup ?_);have fin:wpAny (model X.prog X.w) X.A (subscripted slice false (.ref a) (.ref b)) (fun r s₃=>wpAny (model X.prog X.w) X.A (letTemporaryGo value (.ref a) r >>= fun _=>pure r) (EP X pins σ Q) X.xe s₃) X.xe s:=by
   rw [hs];exact wpAny_operating (wpAny_getItem_heap c.room6 (Ba I c.K hk rp) dd e2 (aa (wpAny_letTemporaryGo (af ⟨v',H,I.tok _,rv1,q v' rv2⟩))))
  first
   | exact af (aa fin)
   | exact aa (af (aa fin))
   | exact aa fin
def vAt:PV->PV->PH->Rs PV:=fun x y h=>match qY y x h with
 | some (some p)=>.ok p h
 | some none=>.bad
 | none=>vIx x y h
theorem gG {a b:Expr} {ma mb:Me} {pos:Pos} (ha:SE C k X a ma) (hb:SE C k X b mb) (hs:DZ b:=by intro _ _; rfl):SE C k X (.Subscript a b pos) (aD vAt ma mb):=fun c=>
 (Q7 ((ixC c.hu C.K c.K).or (T9 c)) (ha c) (hb c) hs).imp fun σ H Q h=>by
  obtain ⟨φ,δ,h,rh,re,p⟩:=Eb h;refine ⟨φ,δ,h,rh,re,p.imp ?_⟩;rintro v H1 ⟨φ,δ,h,rh,re,p⟩;refine ⟨φ,δ,h,rh,re,p.imp ?_⟩;rintro u H2 ⟨φ,h,p,q,rh,rx,ry,po⟩;unfold vAt at po;cases e:qY q p h with
  | none=>rw [e] at po; exact .inl (Qy ⟨φ,h,p,q,rh,rx,ry,po⟩)
  | some o=>
   rw [e] at po;cases o with
   | none=>exact po.elim
   | some r=>exact .inr (tH rh ry rx e ⟨r,rfl,fun v' rv=>po.val rh rv⟩)
def D6 (x y v:PV) (h:PH):Option PH:=match x with
 | .ref n=>match CS y,h[n]? with
  | some key,some (.dK kvs)=>if kvs.length < az then some (h.set n (.dK (iK kvs key v))) else none
  | some _,_=>none
  | none,_=>if y.isKt=true then (match bU h n with
   | some kvs=>if kvs.length < az then some (h.set n (.dD (iK kvs y v))) else none
   | none=>none) else none
 | _=>none
theorem D7 {φ:List Addr} {H:Hp} {κ:Type} [DecidableEq κ] {kvs:List (κ×PV)} {ks:List (κ×V)} (r:RKv C φ H kvs ks) (a:κ):(bR kvs a).isSome=(jB ks a).isSome:=by
 have:=wR r a;cases e1:bR kvs a with
 | none=>
  cases e2:jB ks a with
  | none=>rfl
  | some v=>rw [e1,e2] at this; exact this.elim
 | some p=>
  cases e2:jB ks a with
  | none=>rw [e1,e2] at this; exact this.elim
  | some v=>rfl
theorem Bb {φ:List Addr} {H:Hp} {κ:Type} [DecidableEq κ] {kvs:List (κ×PV)} {ks:List (κ×V)} (r:RKv C φ H kvs ks) (a:κ) {p:PV} {v:V} (rp:RV C φ H p v):RKv C φ H (iK kvs a p) (putK ks a v):=by
 unfold iK putK;rw [sD,D7 r a];split
 ·rename_i hx;clear hx;unfold RKv at r ⊢
  induction r with
  | nil=>exact .nil
  | @cons p' q' ps qs h t ih=>
   refine .cons ?_ ih
   by_cases e:p'.1=a
   ·have e':q'.1=a:=h.1.symm.trans e;simp only [if_pos e,if_pos e'];exact ⟨h.1,rp⟩
   ·have e':¬ q'.1=a:=fun z=>e (h.1.trans z);simp only [if_neg e,if_neg e'];exact h
 ·exact Paired.snoc r ⟨rfl,rp⟩
theorem wX {φ:List Addr} {H:Hp} {h h':PH} {px py pv:PV} {x y v:V} (c:Cxt C k X) (rh:RH C φ H h) (rx:RV C φ H px x) (ry:RV C φ H py y) (rv:RV C φ H pv v) (e:D6 px py pv h=some h') {pins:List (Addr×Obj)} {σ:St} {s:Shared} {xu yu vu:Value}
  {Q:Unit->Shared->Prop} (I:Inv X pins σ H s) (rxu:RelV x xu) (ryu:RelV y yu) (rvu:RelV v vu) (q:∀ s' H',Inv X pins σ H' s'->Kp H H'->RH C φ H' h'->Q () s'):wpAny (model X.prog X.w) X.A (setItem xu yu vu) Q X.xe s:=by
 unfold D6 at e;cases px with
 | ref n=>
  obtain ⟨a,rfl,ha⟩:=rx;cases rxu
  dsimp only at e;split at e
  ·rename_i key kvs hkey hk;split at e
   ·rename_i hl;cases e
    obtain ⟨ks,hH,rk⟩:=rh.at' n a _ ha hk;have ey:y=kV key:=CT ry hkey;subst ey;have hl':ks.length < az:=by rw [<- fc rk]; exact hl
    refine Fd c.hu I (.k hH hl') ryu rvu fun s' I'=>q s' _ I' (Kp.dK hH) ?_;refine rh.write ha (by rw [hH]; exact lh) ⟨_,aW,?_⟩;exact (Bb rk key rv).mono av (Kp.dK hH)
   ·cases e
  ·cases e
  ·split at e
   ·rename_i hk;split at e
    ·rename_i kvs ht;split at e
     ·rename_i hl;cases e
      obtain ⟨b,rfl⟩:=nJ hk ry;cases ryu
      obtain ⟨⟨ks,xs,r,rx',hz,hm,dd⟩,mu,nt⟩:=B' I c.K c.w rh ha ht;refine wpAny_setItem_heap (hsz:=hz) c.room6 (Ba I c.K hk ry) dd fun h' dd' hs=>?_;obtain ⟨ks',r1,r2⟩:=HD.put (a:=a) r rx' (rQ hk) ry rv rvu;obtain ⟨o,es,ep,hq,h2,h3,h4,_,h5⟩:=dd';have hl2:ks'.length<=az:=by
       have e1:=fc r1;have e2:(iK kvs py pv).length<=kvs.length+1:=by
        unfold iK;split
        ·rw [aj]; omega
        ·simp
       omega
      refine q _ (upd H a (dDO C.w a ks')) (rF I mu hs ⟨o,hq⟩ ⟨⟨hl2,hm,_,r2,o,es,ep,hq,h2,h3,?_,h5⟩,⟨o,hq⟩,?_⟩) (Kp.upd nt) ?_
      ·rw [h4,<- c.w]; rfl
      ·rintro g1 g2 ⟨z1,z2,ws,z3,o',es',ep',z4,z5⟩ keep;exact ⟨z1,z2,ws,z3,o',es',ep',keep _ z4,z5⟩
      ·exact rh.write ha nt ⟨ks',aW,RKd.mono av (Kp.upd nt) r1⟩
     ·cases e
    ·cases e
   ·cases e
 | _=>cases e
end
end L2
namespace L2
open PySem PySem.Spec PyProof.Rows
def MtG (C:MC) (k:Nat) (X:Cx) (T:String) (ty:PV->PH->Bool) (id:String) (g:PV->List PV->PH->Rs PV):Prop:=Cxt C k X->MtR X id (rM C g)/\
 ∀ pins s σ H φ h p x v,Inv X pins σ H s->RH C φ H h->RV C φ H p x->RelV x v->ty p h=true->s.TypeIs v T/\∀ a,v=.ref a->∃ ob,s.heap.get? a=some ob/\ob.dict=none
section
variable {C:MC} {k:Nat} {X:Cx}
section
variable {o e:Expr} {es:List Expr} {mo:Me} {ms:Ma} {name:Str} {apos cpos:Pos} {T id:String} {ty:PV->PH->Bool} {g:PV->List PV->PH->Rs PV}
theorem Ta (pa:PlainAttrs T) (slot:Slot T name id) (hty:typeOf (.builtin id)=pure (.type "method_descriptor")) (hm:MtG C k X T ty id g) (ho:SE C k X o mo) (ha:SA C k X (e :: es) ms)
  (hbase:jv o name X.env (eval o X.env)=eval o X.env:=by rfl)
  (hfew:((backTo cpos (b9 (e :: es) X.env)).all (fun x=>!x.1) && (backToKw cpos (keywordEach [] X.env)).all (fun x=>x.1.isSome)
   && decide ((e :: es).length+([]:List Keyword).length+(if ([]:List Keyword).isEmpty then 0 else 1) < 30))=true:=by rfl)
  (hline:(apos.endLine == cpos.line)=true:=by rfl) (hs:b9 (e :: es) X.env=(false,eval e X.env) :: b9 es X.env:=by rfl) (hplain:(backTo cpos (b9 es X.env)).any (·.1)=false:=by rfl):
  SE C k X (.Call (.Attribute o name apos) (e :: es) [] cpos) (mMt ty g mo ms):=fun c pins s σ H Q I ⟨φ,δ,h,rh,re,p⟩=>by
 refine wpAny_Call_method_late hbase hfew hline rfl (thn (ho c pins s σ H _ I ⟨φ,δ,h,rh,re,post.bind p⟩) ?_);rintro v s1 ⟨x,H1,I1,r1,φ1,px,h1,p1,t1,rh1,rv1,q1⟩;obtain ⟨ht,q1⟩:=q1.ite;obtain ⟨g1,g2⟩:=(hm c).2 pins s1 σ H1 φ1 h1 px x v I1 rh1 rv1 r1 ht;refine ⟨T,id,pa,slot,hty,g1,g2,?_⟩;have hA:=ha c cpos pins s1 σ H1 _ I1 ⟨φ1,δ,h1,rh1,re.mono p1 t1,postA.bind q1⟩;rw [hs] at hA ⊢;refine Calls.callWith_builtin (show (false || (backTo cpos (b9 es X.env)).any (·.1))=false by rw [hplain]; rfl) (Calls.evalArgs_plain (thn hA ?_));rintro us s2 ⟨vs,H2,I2,r2,φ2,ps,h2,p2,t2,rh2,rv2,q2⟩;exact (hm c).1 pins s2 σ H2 x vs v us Q I2 r1 r2 ⟨φ2,h2,px,ps,rh2,rv1.mono p2 t2,rv2,q2⟩
theorem QU (pa:PlainAttrs T) (slot:Slot T name id) (hty:typeOf (.builtin id)=pure (.type "method_descriptor")) (hm:MtG C k X T ty id g) (ho:SE C k X o mo)
  (hbase:jv o name X.env (eval o X.env)=eval o X.env:=by rfl) (hline:(apos.endLine == cpos.line)=true:=by rfl):SE C k X (.Call (.Attribute o name apos) [] [] cpos) (KQ ty g mo):=fun c pins s σ H Q I ⟨φ,δ,h,rh,re,p⟩=>by
 refine wpAny_Call_method0_late hbase hline (thn (ho c pins s σ H _ I ⟨φ,δ,h,rh,re,post.bind p⟩) ?_);rintro v s1 ⟨x,H1,I1,r1,φ1,px,h1,p1,t1,rh1,rv1,q1⟩;obtain ⟨ht,q1⟩:=q1.ite;obtain ⟨g1,g2⟩:=(hm c).2 pins s1 σ H1 φ1 h1 px x v I1 rh1 rv1 r1 ht;exact ⟨T,id,pa,slot,hty,g1,g2,Calls.callWith_builtin rfl (PySem.evalArgs_none ((hm c).1 pins s1 σ H1 x [] v [] Q I1 r1 .nil ⟨φ1,h1,px,[],rh1,rv1,trivial,q1⟩))⟩
end
def lA (x:PV) (h:PH):Bool:=match x with
 | .ref n=>match h[n]? with
  | some (.dK _)=>true
  | some (.dD _)=>true
  | _=>false
 | _=>false
theorem Bc (c:Cxt C k X):∀ pins s σ H φ h p x v,Inv X pins σ H s->RH C φ H h->RV C φ H p x->RelV x v->lA p h=true->s.TypeIs v "dict" /\ ∀ a,v=.ref a->∃ ob,s.heap.get? a=some ob/\ob.dict=none:=by
 intro pins s σ H φ h p x v I rh rv r e;unfold lA at e;cases p with
 | ref n=>
  obtain ⟨a,rfl,ha⟩:=rv;cases r
  dsimp only at e;split at e
  ·rename_i kvs hk;obtain ⟨ks,hH,rk⟩:=rh.at' n a _ ha hk;obtain ⟨z,hd,vs,rel,dd⟩:=E3 I.hok hH;refine ⟨dd.typeIs,fun b eb=>?_⟩;cases eb
   obtain ⟨ob,_,_,h1,h2,_⟩:=dd;exact ⟨ob,h1,h2.2.1⟩
  ·rename_i kvs hk;have ht:bU h n=some kvs:=by unfold bU; rw [hk]
   obtain ⟨⟨ks,xs,r,rx',hz,hm,dd⟩,_⟩:=B' I c.K c.w rh ha ht;refine ⟨dd.typeIs,fun b eb=>?_⟩;cases eb
   obtain ⟨ob,_,_,h1,h2,_⟩:=dd;exact ⟨ob,h1,h2.2.1⟩
  ·cases e
 | _=>cases e
def tI:List PV->Option (List (Key×PV))
 | []=>some []
 | .tup [y,v] :: r=>match CS y,tI r with
  | some key,some rs=>some ((key,v) :: rs)
  | _,_=>none
 | _ :: _=>none
def HN (kvs more:List (Key×PV)):List (Key×PV):=more.foldl (fun acc kv=>iK acc kv.1 kv.2) kvs
theorem D8 {φ:List Addr} {H:Hp}:∀ {more:List (Key×PV)} {ms:List (Key×V)} {kvs:List (Key×PV)} {ks:List (Key×V)},RKv C φ H more ms->RKv C φ H kvs ks->RKv C φ H (HN kvs more) (oR ks ms):=by
 intro more ms kvs ks r;unfold RKv at r
 induction r generalizing kvs ks with
 | nil=>intro q; exact q
 | @cons p q ps qs h t ih=>
  intro r0;have e:=Bb r0 p.1 h.2;rw [show putK ks p.1 q.2=putK ks q.1 q.2 by rw [h.1]] at e;exact ih e
theorem Inv.tupleD {pins:List (Addr×Obj)} {σ:St} {H:Hp} {s:Shared} {a:Addr} {xs:List V} (I:Inv X pins σ H s) (h:SqT X.K H a xs):∃ its:List Value,aL xs its/\qS s.heap a its.toArray/\xs.length<=az:=by
 rcases h with h | ⟨o,its,n,hk,hc,hs,hz,r,hd⟩
 ·obtain ⟨z,its,r,p⟩:=h.ok I.hok;exact ⟨its,r,p,z⟩
 ·refine ⟨its.toList,r,⟨o,I.kIn a o hk,hc,⟨n,by simpa using hs⟩,hd⟩,?_⟩
  have e:=r.length;rw [e];simpa using hz
theorem wY {pins:List (Addr×Obj)} {σ:St} {H:Hp} {s:Shared} {φ:List Addr} (I:Inv X pins σ H s) (hK:X.K=C.K):∀ {ps:List PV} {rs:List (Key×PV)} {vs:List V} {us:List Value},tI ps=some rs->RVs C φ H ps vs->aL vs us->
  ∃ qs:List (Addr×Key×Value×Value),us=qs.map (fun q=>c0 q.1)/\(∀ q∈qs,(bX X.prog X.w).is q.2.1 q.2.2.1=true)/\(∀ q∈qs,IsTup s.heap q.1 #[q.2.2.1,q.2.2.2])/\∃ ws:List (Key×V),RKv C φ H rs ws/\KV ws (qs.map fun q=>(q.2.1,q.2.2.2))
 | [],rs,[],us,e,_,ru=>by
  cases ru
  cases e
  exact ⟨[],rfl,(fun _ h=>nomatch h),(fun _ h=>nomatch h),[],.nil,.nil⟩
 | p :: ps,rs,v :: vs,us,e,r,ru=>by
  cases ru with
  | @cons _ u _ us' h t=>
   cases p with
   | tup xs=>
    match xs,e with
    | [y,z],e=>
     unfold tI at e;cases e1:CS y with
     | none=>rw [e1] at e; cases e
     | some key=>
      cases e2:tI ps with
      | none=>rw [e1,e2] at e; cases e
      | some rs'=>
       rw [e1,e2] at e;cases e
       obtain ⟨qs,rfl,a1,a2,ws,a3,a4⟩:=wY I hK e2 r.2 t;obtain ⟨b,bs,rfl,sq,rb⟩:=r.1;cases h
       obtain ⟨yv,zv,rfl,ry,rz⟩:=rb.two;rw [<- hK] at sq;obtain ⟨its,rits,pt,_⟩:=I.tuple sq;obtain ⟨yu,zu,rfl,ryu,rzu⟩:=vals2 rits;have ey:=CT ry e1;subst ey;refine ⟨(b,key,yu,zu) :: qs,rfl,?_,?_,(key,zv) :: ws,.cons ⟨rfl,rz⟩ a3,.cons ⟨rfl,rzu⟩ a4⟩
       ·intro q hq;rcases bw.mp hq with rfl | hq
        ·exact As ryu
        ·exact a1 q hq
       ·intro q hq;rcases bw.mp hq with rfl | hq
        ·exact pt
        ·exact a2 q hq
    | [],e=>cases e
    | [_],e=>cases e
    | _ :: _ :: _ :: _,e=>cases e
   | _=>cases e
 | [],_,_ :: _,_,_,r,_=>r.elim
 | _ :: _,_,[],_,_,r,_=>r.elim
def Ep:List PV->PH->Rs PV:=fun xs h=>match xs with
 | [.tup ps]=>match tI ps with
  | some rs=>.ok (.ref h.length) (h++[.dK (HN [] rs)])
  | none=>.bad
 | [.ref n]=>match h[n]? with
  | some (.dK kvs)=>.ok (.ref h.length) (h++[.dK kvs])
  | _=>.bad
 | _=>.bad
theorem HP:sN C k X (.type "dict") Ep:=fun c pins s σ H xs us Q I r h=>by
 obtain ⟨φ,h,ps,rh,rv,po⟩:=h;unfold Ep at po;split at po
 ·rename_i ps;split at po
  ·rename_i rs e;obtain ⟨v,rfl,rx⟩:=rv.one;obtain ⟨a,vs,rfl,sa,ra⟩:=rx;obtain ⟨u,rfl,ru⟩:=vals1 r;cases ru
   have hl:=ra.length;have sa':=sa;rw [<- c.K] at sa';obtain ⟨its,rits,⟨o,o1,o2,⟨n,o3⟩,o4⟩,hz⟩:=Inv.tupleD I sa';obtain ⟨qs,rfl,a1,a2,ws,a3,a4⟩:=wY I c.K e ra rits;have hq:qs.length<=az:=by
    have:=rits.length;rw [aj] at this;omega
   refine qV (I.ok.hd c.calm) o1 o2 o3 o4 a1 a2 hq fun h' tk dd kk=>?_;have r1:=D8 a3 (.nil:RKv C φ H [] []);have hz2:(oR [] ws).length<=az:=by
    have h1:=kX ws [];have h2:=KV.length a4;rw [aj] at h2;simp at h1;omega
   have fr:H s.heap.objs.size=none:=I.fresh;refine ⟨.ref s.heap.objs.size,_,I.laid (a:=s.heap.objs.size) (o:=.dK (oR [] ws)) (t':=tk) kk (bj _) (Cw hz2 (beq_eq_false_iff_ne.mpr (ko (bu I.big))) (a4.merge .nil) dd),rfl,?_⟩;exact po (φ++[s.heap.objs.size]) (.ref _) _ (dn _ _) (Kp.new fr) (rh.new fr ⟨_,aW,r1.mono (dn _ _) (Kp.new fr)⟩) ⟨_,rfl,by rw [<- rh.len]; simp⟩
  ·exact po.elim
 ·rename_i n;split at po
  ·rename_i kvs hk;obtain ⟨v,rfl,rx⟩:=rv.one;obtain ⟨a,rfl,ha⟩:=rx;obtain ⟨u,rfl,ru⟩:=vals1 r;cases ru
   obtain ⟨ks,hH,rk⟩:=rh.at' n a _ ha hk;refine GL I (.inl hH) fun p s' hp I'=>⟨.ref p,_,I',rfl,?_⟩;exact po (φ++[p]) (.ref _) _ (dn _ _) (Kp.new hp) (rh.new hp ⟨_,aW,rk.mono (dn _ _) (Kp.new hp)⟩) ⟨_,rfl,by rw [<- rh.len]; simp⟩
  ·exact po.elim
 ·exact po.elim
end
def kP:Key->PV
 | .inl i=>.int i
 | .inr x=>.str x
def MY:List PV->Option (List Key)
 | []=>some []
 | x :: xs=>match CS x,MY xs with
  | some a,some r=>some (a :: r)
  | _,_=>none
def MZ:List PV->Option (List (List Key))
 | []=>some []
 | .tup xs :: r=>match MY xs,MZ r with
  | some a,some b=>some (a :: b)
  | _,_=>none
 | _ :: _=>none
def Tb (kss:List (List Key)):Bool:=match kss with
 | []=>true
 | a :: r=>(!a.isEmpty) && r.all fun x=>shape x == shape a
section
variable {C:MC} {k:Nat} {X:Cx}
theorem RH.same {φ:List Addr} {H H1:Hp} {h:PH} (r:RH C φ H h) (s:uY H H1):RH C φ H1 h:=⟨r.len,r.nd,fun n b ob h1 h2=>by
 have q:=r.at' n b ob h1 h2;obtain ⟨u,hu⟩:=q.some;exact q.stay av (Kp.same s) ((s _ _ hu).trans hu.symm)⟩
end
end L2
namespace L2
open PySem
section
variable {h:PH}
@[simp] theorem QV {x:PV} {xs:List PV}:qY x (.tup xs) h=none:=(rfl)
@[simp] theorem S5 {x:PV} {xs:List PV}:qY x (.fl xs) h=none:=(rfl)
@[simp] theorem Py {x:PV} {z:Str}:qY x (.str z) h=none:=(rfl)
@[simp] theorem QW {i:Int} {y:PV}:qY (.int i) y h=none:=by cases y <;> rfl
@[simp] theorem S6 {z:Str} {y:PV}:vAt (.str z) y h=vIx (.str z) y h:=by unfold vAt; simp
@[simp] theorem S7 {x:PV} {i:Int}:vAt x (.int i) h=vIx x (.int i) h:=by unfold vAt; simp
end
end L2
namespace L2
open PySem PySem.Spec PyProof.Rows
section
variable {C:MC} {k:Nat} {X:Cx}
def qG {κ:Type} [DecidableEq κ] (kvs:List (κ×PV)) (a:κ):List (κ×PV):=kvs.filter fun kv=>decide (kv.1≠a)
end
section
variable {C:MC} {k:Nat} {X:Cx}
def L1 (h:PH) (d:Nat):Option (List PV):=match h[d]? with
 | some (.dK kvs)=>some (kvs.map (·.2))
 | some (.dD kvs)=>some (kvs.map (·.2))
 | _=>none
theorem D9 {prog:Program} {w:World} {K:Type} [DecidableEq K] {knd:KeyKind prog w K} {es:List k9} {kvs:List (K×Value)} (h:Pairs knd es kvs):es.map (·.val)=kvs.map (·.2):=by
 apply kh;intro i;rw [bf,bf];have hl:=h.length
 by_cases hi:i < es.length
 ·have e1:es[i]?=some es[i]:=by simp [hi]
  have hi':i < kvs.length:=by omega
  have e2:kvs[i]?=some (kvs[i].1,kvs[i].2):=by simp [hi']
  rw [e1,e2];exact congrArg some (h.get? e1 e2).2
 ·rw [ik (by omega),ik (by omega)];rfl
def HQ (h:PH) (n:Nat):Option (List PV):=match h[n]? with
 | some (.vw 1 d)=>L1 h d
 | _=>none
end
section
variable {h:PH}
theorem Er {n:Nat} {kvs:List (PV×PV)} (e:h[n]?=some (.dD kvs)):bU h n=some kvs:=by simp [bU,e]
end
end L2
namespace L2
open PySem PySem.Spec PyProof.Rows PySem.SeqAt PySem.W
def tJ (l:List Nat):List Int:=l.map (fun (c:Nat)=>(c:Int)+2)++[1]
mutual
def enc:PV->List Int
 | .int i=>[i]
 | .str x=>tJ x.cps.toList
 | .tup xs=>nK xs
 | _=>[]
def nK:List PV->List Int
 | []=>[0]
 | x :: xs=>1 :: (enc x++nK xs)
end
theorem kF (a:Nat) (l:List Nat):tJ (a :: l)=((a:Int)+2) :: tJ l:=rfl
theorem Es:∀ (a b:List Nat) (s t:List Int),a≠b->((tJ a++s < tJ b++t) ↔ a < b)
 | [],[],_,_,h=>(h rfl).elim
 | [],b :: bs,s,t,_=>by
  rw [kF]
  show (1 :: s < ((b:Int)+2) :: (tJ bs++t)) ↔ _
  rw [e8];constructor
  ·intro _; exact List.nil_lt_cons _ _
  ·intro _; left; omega
 | a :: as,[],s,t,_=>by
  rw [kF]
  show (((a:Int)+2) :: (tJ as++s) < 1 :: t) ↔ _
  rw [e8];constructor
  ·rintro (h | ⟨h,_⟩) <;> omega
  ·intro h; exact (List.not_lt_nil _ h).elim
 | a :: as,b :: bs,s,t,h=>by
  rw [kF,kF]
  show (((a:Int)+2) :: (tJ as++s) < ((b:Int)+2) :: (tJ bs++t)) ↔ _
  rw [e8,e8]
  by_cases e:a=b
  ·subst e;have h':as≠bs:=fun z=>h (by rw [z]);have ih:=Es as bs s t h';constructor
   ·rintro (h1 | ⟨_,h1⟩)
    ·omega
    ·exact .inr ⟨rfl,ih.mp h1⟩
   ·rintro (h1 | ⟨_,h1⟩)
    ·omega
    ·exact .inr ⟨rfl,ih.mpr h1⟩
  ·constructor
   ·rintro (h1 | ⟨h1,_⟩) <;> (left; omega)
   ·rintro (h1 | ⟨h1,_⟩)
    ·left; omega
    ·exact (e h1).elim
theorem Da:∀ (n:Nat) (x y:PV) (c:Bool) (s t:List Int),x≠y->ltP n x y=some c->((enc x++s < enc y++t) ↔ c=true):=by
 intro n;have one:∀ (a b:Int) (c:Bool) (s t:List Int),PV.int a≠.int b->some (decide (a < b))=some c->(([a]++s < [b]++t) ↔ c=true):=fun a b c s t h e=>by
  cases e
  have h':a≠b:=fun z=>h (by rw [z])
  show (a :: s < b :: t) ↔ _
  rw [e8,decide_eq_true_eq];constructor
  ·rintro (h1 | ⟨h1,_⟩)
   ·exact h1
   ·exact (h' h1).elim
  ·intro h1; exact .inl h1
 have two:∀ (a b:Str) (c:Bool) (s t:List Int),PV.str a≠.str b->some (decide (a.cps.toList < b.cps.toList))=some c->((tJ a.cps.toList++s < tJ b.cps.toList++t) ↔ c=true):=fun a b c s t h e=>by
  cases e
  rw [Es _ _ s t (fun z=>h (by rw [KF z])),decide_eq_true_eq]
 induction n with
 | zero=>
  intro x y c s t h e;cases x <;> cases y <;> first | exact one _ _ c s t h e | exact two _ _ c s t h e | (simp [ltP] at e)
 | succ n ih=>
  have lists:∀ (xs ys:List PV) (c:Bool) (s t:List Int),xs≠ys->ltL (ltP n) xs ys=some c->((nK xs++s < nK ys++t) ↔ c=true):=by
   intro xs
   induction xs with
   | nil=>
    intro ys c s t h e;cases ys with
    | nil=>exact (h rfl).elim
    | cons y ys=>
     cases e
     show (0 :: s < 1 :: ((enc y++nK ys)++t)) ↔ _
     rw [e8];constructor
     ·intro _; rfl
     ·intro _; left; omega
   | cons x xs ihx=>
    intro ys c s t h e;cases ys with
    | nil=>
     cases e
     show (1 :: ((enc x++nK xs)++s) < 0 :: t) ↔ _
     rw [e8];constructor
     ·rintro (h1 | ⟨h1,_⟩) <;> omega
     ·intro h1; cases h1
    | cons y ys=>
     show (1 :: ((enc x++nK xs)++s) < 1 :: ((enc y++nK ys)++t)) ↔ _
     have e':(if x=y then ltL (ltP n) xs ys else ltP n x y)=some c:=e;rw [e8,ai,ai];have key:(enc x++(nK xs++s) < enc y++(nK ys++t)) ↔ c=true:=by
      by_cases xy:x=y
      ·rw [if_pos xy] at e';subst xy;have:=ihx ys c s t (fun z=>h (by rw [z])) e';rw [<- this];have cut:∀ l:List Int,(l++(nK xs++s) < l++(nK ys++t)) ↔ (nK xs++s < nK ys++t):=fun l=>by
        induction l with
        | nil=>exact Iff.rfl
        | cons a l ih=>
         show (a :: (l++_) < a :: (l++_)) ↔ _
         rw [e8,ih];constructor
         ·rintro (h1 | ⟨_,h1⟩)
          ·omega
          ·exact h1
         ·intro h1; exact .inr ⟨rfl,h1⟩
       exact cut _
      ·rw [if_neg xy] at e';exact ih x y c _ _ xy e'
     rw [key];constructor
     ·rintro (h1 | ⟨_,h1⟩)
      ·omega
      ·exact h1
     ·intro h1; exact .inr ⟨rfl,h1⟩
  intro x y c s t h e;cases x <;> cases y <;> first | exact one _ _ c s t h e | exact two _ _ c s t h e | (simp [ltP] at e; done) | exact lists _ _ c s t (fun z=>h (by rw [z])) e
def ltN (x y:PV):Bool:=decide (enc x < enc y)
theorem Bd {f:PV->PV->Option Bool}:∀ xs:List PV,ltL f xs xs=some false
 | []=>rfl
 | x :: xs=>by
  show (if x=x then ltL f xs xs else f x x)=some false
  rw [if_pos rfl];exact Bd xs
theorem HS {n:Nat} {x:PV} {c:Bool} (h:ltP n x x=some c):c=false:=by
 have st:∀ {z:Str} {c:Bool},some (decide (z.cps.toList < z.cps.toList))=some c->c=false:=fun {z c} e=>by
  cases e
  exact decide_eq_false (List.lt_irrefl _)
 have it:∀ {z:Int} {c:Bool},some (decide (z < z))=some c->c=false:=fun {z c} e=>by
  cases e
  exact decide_eq_false (Int.lt_irrefl _)
 cases n with
 | zero=>
  cases x with
  | int i=>exact it h
  | str i=>exact st h
  | _=>simp [ltP] at h
 | succ n=>
  cases x with
  | tup xs=>
   have h':ltL (ltP n) xs xs=some c:=h;rw [Bd] at h';cases h'
   rfl
  | int i=>exact it h
  | str i=>exact st h
  | _=>simp [ltP] at h
theorem L3 (x:PV):ltN x x=false:=decide_eq_false (List.lt_irrefl _)
theorem HU {n:Nat} {x y:PV} {c:Bool} (h:ltP n x y=some c):ltN x y=c:=by
 by_cases e:x=y
 ·subst e;rw [HS h];exact L3 x
 ·have:=Da n x y c [] [] e h;rw [dk,dk] at this;unfold ltN;cases c with
  | true=>exact decide_eq_true (this.mpr rfl)
  | false=>exact decide_eq_false fun z=>by cases this.mp z
theorem L4 {n:Nat} {x y:PV} {c:Bool} (h:ltP n x y=some c) (e:enc x=enc y):x=y:=by
 by_cases xy:x=y
 ·exact xy
 ·have h1:=Da n x y c [0] [1] xy h;have h2:=Da n x y c [1] [0] xy h;rw [e] at h1 h2;have cut:∀ (l s t:List Int),(l++s < l++t) ↔ (s < t):=fun l s t=>by
   induction l with
   | nil=>exact Iff.rfl
   | cons a l ih=>
    show (a :: (l++_) < a :: (l++_)) ↔ _
    rw [e8,ih];constructor
    ·rintro (h1 | ⟨_,h1⟩)
     ·omega
     ·exact h1
    ·intro h1; exact .inr ⟨rfl,h1⟩
  rw [cut] at h1 h2;have t1:([0]:List Int) < [1]:=by decide
  have t2:¬ ([1]:List Int) < [0]:=by decide
  exact (t2 (h2.mpr (h1.mp t1))).elim
theorem Dc {a b c:PV} (h1:ltN b a=false) (h2:ltN c b=false):ltN c a=false:=
 decide_eq_false (List.not_lt.mpr (List.le_trans (List.not_lt.mp (of_decide_eq_false h1)) (List.not_lt.mp (of_decide_eq_false h2))))
theorem Dd {a b:PV} (h:ltN a b=true):ltN b a=false:=decide_eq_false (List.lt_asymm (of_decide_eq_true h))
theorem Oh {a b:PV} (h1:ltN a b=false) (h2:ltN b a=false):enc a=enc b:=
 List.le_antisymm (List.not_lt.mp (of_decide_eq_false h2)) (List.not_lt.mp (of_decide_eq_false h1))
section
variable {α:Type} (key:α->PV)
def tK (x:α):List α->List α
 | []=>[x]
 | y :: ys=>if ltN (key y) (key x) then y :: tK x ys else x :: y :: ys
def gS:List α->List α
 | []=>[]
 | x :: xs=>tK key x (gS xs)
theorem pC (x:α):∀ ys,(tK key x ys).Perm (x :: ys)
 | []=>.refl _
 | y :: ys=>by
  unfold tK;split
  ·exact ((pC x ys).cons y).trans (.swap x y ys)
  ·exact .refl _
theorem iL:∀ xs,(gS key xs).Perm xs
 | []=>.refl _
 | x :: xs=>(pC key x _).trans ((iL xs).cons x)
theorem qH (x:α):∀ {ys:List α},ys.Pairwise (fun a b=>ltN (key b) (key a)=false)->(tK key x ys).Pairwise (fun a b=>ltN (key b) (key a)=false)
 | [],_=>je _ _
 | y :: ys,h=>by
  unfold tK;rw [jc] at h;split
  ·rename_i hlt;rw [jc];refine ⟨fun z hz=>?_,qH x h.2⟩;rcases bw.mp ((pC key x ys).mem_iff.mp hz) with rfl | hz
   ·exact Dd hlt
   ·exact h.1 z hz
  ·rename_i hlt;have hlt':ltN (key y) (key x)=false:=by simpa using hlt
   rw [jc];refine ⟨fun z hz=>?_,jc.mpr h⟩;rcases bw.mp hz with rfl | hz
   ·exact hlt'
   ·exact Dc hlt' (h.1 z hz)
theorem iM:∀ xs:List α,(gS key xs).Pairwise (fun a b=>ltN (key b) (key a)=false)
 | []=>.nil
 | x :: xs=>qH key x (iM xs)
theorem wZ {xs ys:List α} (inj:∀ a∈xs,∀ b∈xs,enc (key a)=enc (key b)->a=b) (hp:ys.Perm xs) (h:ys.Pairwise (fun a b=>ltN (key b) (key a)=false)):ys=gS key xs:=by
 refine List.Perm.eq_of_pairwise (le:=fun a b=>ltN (key b) (key a)=false) (fun a b ha hb h1 h2=>?_) h (iM key xs) (hp.trans (iL key xs).symm);exact inj a (hp.mem_iff.mp ha) b ((iL key xs).mem_iff.mp hb) (Oh h2 h1)
end
theorem De:∀ {xs:List PV} {ds:List D},PV.ds xs=some ds->xs.length=ds.length
 | [],ds,h=>by cases h; rfl
 | x :: xs,ds,h=>by
  obtain ⟨d,r,_,h2,rfl⟩:=bW h;simp [De h2]
theorem HV:∀ {xs:List PV} {ds:List D} {j:Nat} {d:D},PV.ds xs=some ds->ds[j]?=some d->∃ x,xs[j]?=some x/\x.d=some d
 | [],ds,j,d,h,e=>by cases h; simp at e
 | x :: xs,ds,j,d,h,e=>by
  obtain ⟨d',r,h1,h2,rfl⟩:=bW h;cases j with
  | zero=>
   have:d'=d:=by simpa using e
   exact ⟨x,rfl,by rw [h1,this]⟩
  | succ j=>
   obtain ⟨y,a,b⟩:=HV (j:=j) h2 (by simpa using e)
   exact ⟨y,by simpa using a,b⟩
theorem jM:∀ (n:Nat) (p:PV),p.ky n=true->p.pl n=true:=by
 intro n
 induction n with
 | zero=>intro p h; cases p <;> first | rfl | cases h
 | succ n ih=>
  intro p h;cases p with
  | tup xs=>
   show xs.all (PV.pl n)=true
   rw [cy];exact fun y hy=>ih y (cy.mp (show xs.all (PV.ky n)=true from h) y hy)
  | _=>first | rfl | cases h
theorem Oi:∀ (n:Nat) {A:Around} {s:Shared} {p q:PV} {v u:Value} {b:Bool},p.ky n=true->q.ky n=true->A.units+n < cLine->HR s.heap p v->HR s.heap q u->ltP n p q=some b->HG A s v u b:=by
 intro n;have one:∀ {A:Around} {s:Shared} {i j:Int} {v u:Value} {b:Bool},HR s.heap (.int i) v->HR s.heap (.int j) u->some (decide (i < j))=some b->HG A s v u b:=fun {A s i j v u b} r r' e=>by
  obtain ⟨t,rfl⟩:=r;obtain ⟨t',rfl⟩:=r';cases e
  exact fun prog w E Q q=>(PyProof.Rows.lt_int q:wpAny (model prog w) A (dt .Lt _ _) Q E s)
 have two:∀ {A:Around} {s:Shared} {i j:Str} {v u:Value} {b:Bool},HR s.heap (.str i) v->HR s.heap (.str j) u->some (decide (i.cps.toList < j.cps.toList))=some b->HG A s v u b:=fun {A s i j v u b} r r' e=>by
  obtain ⟨t,rfl⟩:=r;obtain ⟨t',rfl⟩:=r';cases e
  exact fun prog w E Q q=>(PyProof.Rows.lt_str q:wpAny (model prog w) A (dt .Lt _ _) Q E s)
 induction n with
 | zero=>
  intro A s p q v u b hp hq hu r r' e;cases p with
  | int i=>
   cases q with
   | int j=>exact one r r' e
   | _=>simp [ltP] at e
  | str i=>
   cases q with
   | str j=>exact two r r' e
   | _=>simp [ltP] at e
  | _=>cases hp
 | succ n ih=>
  intro A s p q v u b hp hq hu r r' e;cases p with
  | int i=>
   cases q with
   | int j=>exact one r r' e
   | _=>simp [ltP] at e
  | str i=>
   cases q with
   | str j=>exact two r r' e
   | _=>simp [ltP] at e
  | tup ps=>
   cases q with
   | tup qs=>
    obtain ⟨a,its,rfl,p1,rs⟩:=r;obtain ⟨a',its',rfl,p2,rs'⟩:=r';have kp:∀ z∈ps,z.ky n=true:=cy.mp hp;have kq:∀ z∈qs,z.ky n=true:=cy.mp hq;obtain ⟨d,hd,_⟩:=gF (n+1) _ (jM _ _ hp);obtain ⟨d',hd',_⟩:=gF (n+1) _ (jM _ _ hq);have hlt:=Em (n+1) _ _ d d' (jM _ _ hp) (jM _ _ hq) hd hd';rw [e] at hlt;obtain ⟨ds,g1,rfl⟩:=bH hd;obtain ⟨es,g2,rfl⟩:=bH hd';have hb':fV ds es=some b:=by simpa [ltD] using hlt
    obtain ⟨⟨cls,dd,data,sl⟩,ho,hc,m,hdt⟩:=id p1;obtain ⟨⟨cls2,dd2,data2,sl2⟩,ho2,hc2,m2,hd2⟩:=id p2;simp only at hc hdt hc2 hd2;subst hc hdt hc2 hd2;intro prog w E Q hq';refine richCompare_meets_room (op:=.Lt) ⟨_,ho,rfl⟩ ⟨_,ho2,rfl⟩ PySem.F.slot_tuple_lt PySem.F.entry_tuple_lt (PySem.F.args_tuple_lt_2 _ _) (nH a a' its.toArray its'.toArray m m2 dd dd2 sl sl2 ds es b hb')
     ⟨ho,ho2,⟨?_,?_,?_⟩,show Value.bool b≠Value.notImplemented/\Q (.bool b) s from ⟨(fun x=>nomatch x),hq'⟩⟩ (by omega)
    ·have l1:=rs.length;have l2:=De g1
     show its.length=ds.length
     omega
    ·have l1:=rs'.length;have l2:=De g2
     show its'.length=es.length
     omega
    ·intro j v u d e h1 h2 h3 h4;obtain ⟨x,hx,ex⟩:=HV g1 h3;obtain ⟨y,hy,ey⟩:=HV g2 h4;obtain ⟨v',hv,rv⟩:=rs.at hx;obtain ⟨u',hu',ru⟩:=rs'.at hy;have e1:v=v':=by
      have:its[j]?=some v:=h1;rw [hv] at this;exact (b8 this).symm
     have e2:u=u':=by
      have:its'[j]?=some u:=h2;rw [hu'] at this;exact (b8 this).symm
     subst e1 e2;have kx:=kp x (b7 hx);have ky:=kq y (b7 hy);have hun:A.in1.units+n < cLine:=by show A.units+1+n < cLine; omega
     refine ⟨?_,fun _ b hb=>?_⟩
     ·rw [El n x y d e (jM _ _ kx) (jM _ _ ky) ex ey];exact CO kx ky hun rv ru
     ·rw [Em n x y d e (jM _ _ kx) (jM _ _ ky) ex ey] at hb;exact ih kx ky hun rv ru hb
   | _=>simp [ltP] at e
  | _=>cases hp
section
variable {prog:Program} {w:World} {A:Around} {E:Value->Shared->Prop} {s:Shared}
def HW:List PV->Prop
 | .tup _ :: _=>False
 | _=>True
theorem xB {b fin:Bool} {n:Nat} {Q:Bool->Shared->Prop} (hu:A.units+n < cLine):∀ (ps qs:List PV) (us ws:List Value) (i:Nat) (c:Bool),(∀ p∈ps,p.ky n=true)->(∀ q∈qs,q.ky n=true)->HRs s.heap ps us->HRs s.heap qs ws->ltL (ltP n) ps qs=some c->((b && i == 0)=true->HW ps)->fin=decide (ps.length < qs.length)->Q c s->KatLex prog w A b fin Q (us.zip ws) i s
 | [],[],[],[],i,c,_,_,_,_,hc,_,hf,h=>by
  cases hc
  rw [hf];exact h
 | [],q :: qs,[],u :: ws,i,c,_,_,_,_,hc,_,hf,h=>by
  cases hc
  rw [hf];exact h
 | p :: ps,[],u :: us,[],i,c,_,_,_,_,hc,_,hf,h=>by
  cases hc
  rw [hf];exact h
 | p :: ps,q :: qs,u :: us,v :: ws,i,c,kp,kq,rs,rs',hc,hn,hf,h=>by
  rw [j1];have hc':(if p=q then ltL (ltP n) ps qs else ltP n p q)=some c:=hc;have k1:=kp p bg;have k2:=kq q bg;refine kat_cons (CO k1 k2 hu rs.1 rs'.1 prog w _ _ ?_)
  by_cases pq:p=q
  ·rw [if_pos pq] at hc';rw [decide_eq_true pq];refine kat_yes (xB hu ps qs us ws (i+1) c (fun z hz=>kp z (ao _ hz)) (fun z hz=>kq z (ao _ hz)) rs.2 rs'.2 hc' (fun z=>?_) ?_ h)
   ·cases b <;> simp at z
   ·rw [hf];simp
  ·rw [if_neg pq] at hc';rw [decide_eq_false pq];refine kat_no ?_;have gen:wpAny (model prog w) A (oneLt' false u v) Q (fun _ _=>False) s:=kat_one _ _ (Oi n k1 k2 hu rs.1 rs'.1 hc' prog w _ (PySem.W.BoolBack Q) h);cases hb:(b && i == 0) with
   | false=>exact gen
   | true=>
    have hn':=hn hb;cases p with
    | tup _=>exact hn'.elim
    | int a=>
     cases q with
     | int d=>
      obtain ⟨t,rfl⟩:=rs.1;obtain ⟨t',rfl⟩:=rs'.1;have e:decide (a < d)=c:=by
       cases n <;> exact b8 hc'
      rw [<- e] at h;exact oneLt_int h
     | _=>cases n <;> simp [ltP] at hc'
    | str a=>
     cases q with
     | str d=>
      obtain ⟨t,rfl⟩:=rs.1;obtain ⟨t',rfl⟩:=rs'.1;have e:decide (a.cps.toList < d.cps.toList)=c:=by
       cases n <;> exact b8 hc'
      rw [<- e] at h;exact oneLt_str h
     | _=>cases n <;> simp [ltP] at hc'
    | _=>exact rs.1.elim
 | [],_,_ :: _,_,_,_,_,_,r,_,_,_,_,_=>r.elim
 | _ :: _,_,[],_,_,_,_,_,r,_,_,_,_,_=>r.elim
 | _,[],_,_ :: _,_,_,_,_,_,r,_,_,_,_=>r.elim
 | _,_ :: _,_,[],_,_,_,_,_,r,_,_,_,_=>r.elim
theorem HX {b:Bool} {n:Nat} {p q:PV} {v u:Value} {c:Bool} {Q:Bool->Shared->Prop} (hu:A.units+n < cLine) (kp:p.ky (n+1)=true) (kq:q.ky (n+1)=true) (tp:∃ ps,p=.tup ps/\(b=true->HW ps)) (tq:∃ qs,q=.tup qs) (r:HR s.heap p v) (r':HR s.heap q u) (hc:ltP (n+1) p q=some c) (h:Q c s):
  wpAny (model prog w) A (keyLt' (tuples' b) v u) Q E s:=by
 obtain ⟨ps,rfl,hn⟩:=tp;obtain ⟨qs,rfl⟩:=tq;obtain ⟨a,its,rfl,⟨ox,hox,_,m,dx⟩,rs⟩:=r;obtain ⟨a',its',rfl,⟨oy,hoy,_,m',dy⟩,rs'⟩:=r';refine kat_lt hox dx hoy dy ?_;have l1:=rs.length;have l2:=rs'.length;have e1:decide (its.toArray.size < its'.toArray.size)=decide (ps.length < qs.length):=by simp [l1,l2]
 rw [e1];exact xB hu ps qs its its' 0 c (cy.mp kp) (cy.mp kq) rs rs' hc (fun z=>hn (by cases b <;> simp at z; rfl)) rfl h
def fk:PV->Nat
 | .tup (.int _ :: _)=>0
 | .tup (.str _ :: _)=>1
 | .tup (.tup _ :: _)=>2
 | _=>3
def fkT (m:Nat):Value:=.type (if m=0 then "int" else if m=1 then "str" else "tuple")
theorem tL {m:Nat} (hm:m < 3):∀ {ps:List PV} {vs:List Value},HRs s.heap ps vs->(∀ p∈ps,fk p=m)->∃ fs:List Value,fs.length=vs.length/\KatTups s.heap vs fs/\∀ f∈fs,Looks (model prog w) s.heap (typeOf f) (fkT m)
 | [],[],_,_=>⟨[],rfl,KatTups.nil,fun _ hf=>nomatch hf⟩
 | p :: ps,v :: vs,r,hs=>by
  obtain ⟨fs,hl,ht,hT⟩:=tL hm r.2 fun x hx=>hs x (ao _ hx);have h0:=hs p bg;have r1:=r.1;cases p with
  | tup xs=>
   obtain ⟨a,its,rfl,⟨o,ho,hc,n,hd⟩,rx⟩:=r1;cases xs with
   | nil=>simp [fk] at h0; omega
   | cons x xs=>
    cases its with
    | nil=>exact rx.elim
    | cons f its=>
     refine ⟨f :: fs,by simp [hl],KatTups.cons ho hc hd (by simp) ht,fun g hg=>?_⟩;rcases bw.mp hg with rfl | hg
     ·have rf:=rx.1;cases x with
      | int i=>
       obtain ⟨t,rfl⟩:=rf;have:m=0:=h0.symm;subst this;exact Looks.now
      | str i=>
       obtain ⟨t,rfl⟩:=rf;have:m=1:=h0.symm;subst this;exact Looks.now
      | tup i=>
       obtain ⟨a',its',rfl,⟨o',ho',hc',n',hd'⟩,_⟩:=rf;have:m=2:=h0.symm;subst this;have:Looks (model prog w) s.heap (typeOf (.ref a')) o'.cls:=(Looks.ld ho').andThen .now;rw [hc'] at this;exact this
      | _=>exact rf.elim
     ·exact hT g hg
  | _=>simp [fk] at h0; omega
 | [],_ :: _,r,_=>r.elim
 | _ :: _,[],r,_=>r.elim
theorem L5 {m:Nat} (hm:m < 3) {ps:List PV} {vs:List Value} {Q:j7->Shared->Prop} (r:HRs s.heap ps vs) (hs:∀ p∈ps,fk p=m) (h0:0 < vs.length) (h:Q (tuples' (decide (m≠2))) s):wpAny (model prog w) A (keyKind' vs.toArray) Q E s:=by
 obtain ⟨fs,hl,ht,hT⟩:=tL (prog:=prog) (w:=w) hm r hs;refine kat_kind (T:=fkT m) ht (by omega) hT ?_ ?_
 ·match m,hm with
  | 0,_=>rfl
  | 1,_=>rfl
  | 2,_=>rfl
 ·have:((fkT m) != Value.type "tuple")=decide (m≠2):=by
   match m,hm with
   | 0,_=>rfl
   | 1,_=>rfl
   | 2,_=>rfl
  rw [this];exact h
end
structure OkN (m:Nat) (xs:List PV):Prop where
 m3:m < 3
 ky:∀ x∈xs,x.ky 20=true
 fk:∀ x∈xs,fk x=m
 lt:∀ x∈xs,∀ y∈xs,(ltP 20 x y).isSome=true
theorem OkN.inj {m:Nat} {xs:List PV} (h:OkN m xs):∀ a∈xs,∀ b∈xs,enc a=enc b->a=b:=fun a ha b hb e=>by
 obtain ⟨c,hc⟩:=j9.mp (h.lt a ha b hb);exact L4 hc e
theorem HY {m:Nat} (hm:m < 3) {p:PV} (h:fk p=m):∃ ps,p=.tup ps/\(decide (m≠2)=true->HW ps):=by
 cases p with
 | tup xs=>
  refine ⟨xs,rfl,fun hd=>?_⟩;have hd':m≠2:=of_decide_eq_true hd;cases xs with
  | nil=>trivial
  | cons x xs=>
   cases x <;> first | trivial | (exact (hd' h.symm).elim)
 | _=>simp [fk] at h; omega
theorem HRs.getD {h:Heap} {ps:List PV} {vs:List Value} (r:HRs h ps vs) {i:Nat} (hi:i < ps.length):HR h (ps.getD i .non) (vs.getD i di):=by
 have g:ps[i]?=some (ps.getD i .non):=by simp [hi]
 obtain ⟨v,hv,hr⟩:=r.at g;have e:vs.getD i di=v:=by simp [ak,hv]
 rw [e];exact hr
end L2
namespace L2
open PySem PySem.Spec PyProof.Rows
abbrev KP:=List Key×PV
def N0 (x:KP):List KP->List KP
 | []=>[x]
 | y :: ys=>if Qt y.1 x.1=true then y :: N0 x ys else x :: y :: ys
def HZ:List KP->List KP
 | []=>[]
 | x :: xs=>N0 x (HZ xs)
open Classical in
noncomputable def sortBy (b:Bool) (ks ys:List PV):Option (List PV):=match MZ ks with
 | some kss=>if kss.length < 1000000/\kss.length=ys.length/\Tb kss=true/\kss.Nodup then some ((PySem.W.katRev b (HZ (kss.zip ys))).map (·.2)) else none
 | none=>none
noncomputable def Et (f:Fn) (b:Bool) (ys:List PV):List PV->List PV->PH->Rs PV
 | [],ks,h=>match sortBy b ks ys with
  | some zs=>.ok (.ref h.length) (h++[.lst zs])
  | none=>.bad
 | x :: xs,ks,h=>(f [x] h).bind fun k h1=>Et f b ys xs (ks++[k]) h1
def I0 (x:PV) (h:PH):Option (List PV):=match x with
 | .ref n=>match aX h n with
  | some ys=>some ys
  | none=>HQ h n
 | .fl ys=>some ys
 | _=>none
noncomputable def Ia (f:Fn) (b:Bool) (x:PV) (h:PH):Rs PV:=match I0 x h with
 | some ys=>if ys.length < 1000000 then Et f b ys ys [] h else .bad
 | none=>.bad
noncomputable def Oj (f:Fn) (b:Bool) (me:Me):Me:=fun δ h=>(me δ h).bind fun x h1=>Ia f b x h1
section
variable {C:MC} {k:Nat} {X:Cx}
theorem RVs.pick {φ:List Addr} {H:Hp} {xs:List PV} {vs:List V} (r:RVs C φ H xs vs):∀ {p:List Nat},(∀ i∈p,i < xs.length)->RVs C φ H (p.map fun i=>xs.getD i .non) (p.map fun i=>vs.getD i .non)
 | [],_=>trivial
 | i :: p,h=>by
  have hi:=h i bg;have g:xs[i]?=some (xs.getD i .non):=by simp [hi]
  obtain ⟨v,hv,hr⟩:=r.at g;have e:vs.getD i .non=v:=by simp [ak,hv]
  refine ⟨?_,RVs.pick r fun j hj=>h j (ao _ hj)⟩
  show RV C φ H (xs.getD i .non) (vs.getD i .non)
  rw [e];exact hr
theorem Ib {pins:List (Addr×Obj)} {σ:St} {H:Hp} {s:Shared} (I:Inv X pins σ H s) {a:Addr} (ha:s.heap.objs.size<=a):X.s₀.heap.objs.size<=a/\a≠X.env.locals/\(∀ x c,X.env.cells.lookup x=some c->c≠a)/\(∀ p∈X.pn++pins,p.1≠a)/\a∉X.fs:=by
 refine ⟨ft I.sz ha,gj (b0 I.lt ha),fun x c e z=>?_,fun p hp z=>?_,I.nofs ha⟩
 ·obtain ⟨v,o,ho,_⟩:=I.cell x c e;rw [z] at ho;exact absurd (b0 (ay ho) ha) (gf _)
 ·have ho:=(I.pin p hp).1;rw [z] at ho;exact absurd (b0 (ay ho) ha) (gf _)
theorem jN {its:Array Value} {e:Nat}:∀ v,(seqObj "list" its e).data≠.cell v:=fun v z=>nomatch z
theorem Inv.adopt {pins:List (Addr×Obj)} {σ:St} {H:Hp} {s:Shared} {a d:Addr} {o:HO} {h':Heap} (I:Inv X pins σ H s) (ha:H a=none) (hd:H d=none)
  (fa:X.s₀.heap.objs.size<=a/\a≠X.env.locals/\(∀ x c,X.env.cells.lookup x=some c->c≠a)/\(∀ p∈X.pn++pins,p.1≠a)/\a∉X.fs) (fd:X.s₀.heap.objs.size<=d/\d≠X.env.locals/\(∀ x c,X.env.cells.lookup x=some c->c≠d)/\(∀ p∈X.pn++pins,p.1≠d)/\d∉X.fs)
  (kp:∀ x u,x≠a->x≠d->s.heap.get? x=some u->h'.get? x=some u) (new:cI X.prog X.w (upd H a o) h' a o):Inv X pins σ (upd H a o) { s with heap:=h' }:=by
 have na:∀ x u,H x=some u->x≠a:=fun x u e z=>by rw [z,ha] at e; cases e
 have nd:∀ x u,H x=some u->x≠d:=fun x u e z=>by rw [z,hd] at e; cases e
 refine I.call' (s':={ s with heap:=h' }) (ch:=[a,d]) rfl ⟨fun b u q n _ hx=>?_,fun b u q n _ hx=>⟨u.slots,?_⟩,fun b u q n hx=>?_,fun b u q hx=>⟨u,?_⟩,fun b xs q=>?_,fun b u xs q=>?_,fun b ps q=>⟨#[],?_⟩⟩ (fun b u e=>?_) I.bare fun b hb=>?_
 ·exact kp b u (fun z=>hx (by simp [z])) (fun z=>hx (by simp [z])) q
 ·exact kp b u (fun z=>hx (by simp [z])) (fun z=>hx (by simp [z])) q
 ·rw [aN (fun z=>hx (by simp [z]))]; exact n
 ·exact kp b u (fun z=>hx (by simp [z])) (fun z=>hx (by simp [z])) q
 ·rw [aN (na _ _ q)]; exact q
 ·rw [aN (na _ _ q)]; exact q
 ·rw [aN (na _ _ q),q]; simp
 ·by_cases hb:b=a
  ·subst hb; rw [aW] at e; cases e; exact new
  ·rw [aN hb] at e;refine (I.hok b u e).stay (fun c v hc q=>kp c v ?_ ?_ q) (fun c q=>by rw [aN (na _ _ q)]; exact q) fun c xs q=>by rw [aN (na _ _ q)]; exact q
   ·rcases hc with z | z
    ·rw [z]; exact hb
    ·exact na _ _ z
   ·rcases hc with z | z
    ·rw [z]; exact nd _ _ e
    ·exact nd _ _ z
 ·rcases bw.mp hb with rfl | hb
  ·exact ⟨.inr fa.1,fa.2.1,fa.2.2.1,fa.2.2.2.1⟩
  ·rw [dm.mp hb];exact ⟨.inr fd.1,fd.2.1,fd.2.2.1,fd.2.2.2.1⟩
end
end L2
namespace L2
open PySem
section
variable {δ:Ev} {h:PH} {m:Me}
@[simp] theorem Pz {f:Fn} {b:Bool}:Oj f b m δ h=(m δ h).bind fun x h1=>Ia f b x h1:=(rfl)
theorem jO {n:Nat} {kvs:List (PV×PV)} (e:bU h n=some kvs):∃ o,h[n]?=some o/\lA (.ref n) h=true/\∀ h',h'[n]?=some o->bU h' n=some kvs:=by
 unfold bU at e;split at e
 ·rename_i q; cases e; exact ⟨_,q,by simp [lA,q],fun h' e=>by simp [bU,e]⟩
 ·rename_i q; cases e; exact ⟨_,q,by simp [lA,q],fun h' e=>by simp [bU,e]⟩
 ·cases e
theorem nL {h':PH} {n:Nat} {kvs:List (PV×PV)} (x:Ext h h') (e:bU h n=some kvs):bU h' n=some kvs:=by
 obtain ⟨o,g,_,k⟩:=jO e;exact k h' (x _ _ g)
theorem Ol {n:Nat} {kvs:List (PV×PV)} {xs:List PV} {z:PV} (e:bU h n=some kvs) (hk:(PV.tup xs).ky 6=true) (hl:kvs.length < 16777216):D6 (.ref n) (.tup xs) z h=some (h.set n (.dD (iK kvs (.tup xs) z))):=by
 have k1:(PV.tup xs).isKt=true:=hk;have hl':kvs.length < az:=by rw [nG]; exact hl
 unfold D6;simp only [CS,k1,if_true,e];rw [if_pos hl']
theorem Ic {n:Nat} {kvs:List (PV×PV)} {xs:List PV} (e:bU h n=some kvs) (hk:(PV.tup xs).ky 6=true):vE (.tup xs) (.ref n) h=.ok (.bl (bR kvs (.tup xs)).isSome) h:=by
 have k1:(PV.tup xs).isKt=true:=hk;have:qY (.tup xs) (.ref n) h=some (bR kvs (.tup xs)):=by simp only [qY,k1,if_true,e,Option.map_some]
 unfold vE;rw [this]
@[simp] theorem Om {xs:List PV}:iG (.tup xs)=false:=(rfl)
@[simp] theorem On:iG .non=true:=(rfl)
end
section
variable {δ:Ev} {h h1:PH} {js:List (Option Nat)} {tg:Mg} {elt:Me} {g:PH->Bool}
theorem pD {n m:Nat} {xs ys:List PV} (e1:h[n]?=some (.lst xs)) (e2:h[m]?=some (.lst ys)) (c:xs.length+ys.length<=16777216):aS (.ref n) (.ref m) h=.ok (.ref h.length) (h++[.lst (xs++ys)]):=by
 show Hb (.ref n) (.ref m) h=_
 simp [Hb,dY,e1,e2,c]
end
end L2
namespace L2
open PySem PySem.Spec PyProof.Rows
def FD (f:Str) (p:PV):List (Str×PV)->List (Str×PV)
 | []=>[(f,p)]
 | (g,x) :: r=>if g=f then (g,p) :: r else (g,x) :: FD f p r
def iX (x:PV) (h:PH):Option (Nat×Str×List (Str×PV)):=match x with
 | .ref n=>match h[n]? with
  | some (.ins c fs)=>some (n,c,fs)
  | _=>none
 | _=>none
def qZ (f:Str):PV->PH->Rs PV:=fun x h=>match iX x h with
 | some (_,_,fs)=>match fs.lookup f with
  | some p=>.ok p h
  | none=>.bad
 | none=>.bad
def qI (f:Str) (x y:PV) (h:PH):Option PH:=match iX x h with
 | some (n,c,fs)=>if fs.length < 1000 then some (h.set n (.ins c (FD f y fs))) else none
 | none=>none
section
variable {C:MC} {k:Nat} {X:Cx}
theorem Ie {φ:List Addr} {H:Hp} {fs:List (Str×PV)} {ks:List (Str×V)} (r:RKv C φ H fs ks) (f:Str) {p:PV} {v:V} (rv:RV C φ H p v):RKv C φ H (FD f p fs) (gO f v ks):=by
 unfold RKv at r ⊢
 induction r with
 | nil=>exact .cons ⟨rfl,rv⟩ .nil
 | @cons a b as bs h t ih=>
  obtain ⟨a1,a2⟩:=a;obtain ⟨b1,b2⟩:=b;have e:a1=b1:=h.1;subst e;unfold FD gO
  by_cases z:a1=f
  ·rw [if_pos z,if_pos z]; exact .cons ⟨rfl,rv⟩ t
  ·rw [if_neg z,if_neg z]; exact .cons h ih
theorem mD {φ:List Addr} {H:Hp} {fs:List (Str×PV)} {ks:List (Str×V)} (r:RKv C φ H fs ks) (f:Str):(fs.lookup f=none/\ks.lookup f=none)\/∃ p v,fs.lookup f=some p/\ks.lookup f=some v/\RV C φ H p v:=by
 unfold RKv at r
 induction r with
 | nil=>exact .inl ⟨rfl,rfl⟩
 | @cons a b as bs h t ih=>
  obtain ⟨a1,a2⟩:=a;obtain ⟨b1,b2⟩:=b;have e:a1=b1:=h.1;subst e;simp only [cf];cases z:(f == a1) with
  | true=>exact .inr ⟨a2,b2,rfl,rfl,h.2⟩
  | false=>exact ih
theorem nM {φ:List Addr} {H:Hp} {h:PH} {x:PV} {v:V} {n:Nat} {c:Str} {fs:List (Str×PV)} (rh:RH C φ H h) (rv:RV C φ H x v) (e:iX x h=some (n,c,fs)):
  ∃ a ca dx ks,x=.ref n/\v=.ref a/\φ[n]?=some a/\h[n]?=some (.ins c fs)/\C.cl c=some ca/\H a=some (.ins ca dx ks)/\RKv C φ H fs ks:=by
 unfold iX at e;cases x with
 | ref m=>
  obtain ⟨a,rfl,ha⟩:=rv;dsimp only at e;split at e
  ·rename_i c' fs' q;cases e
   obtain ⟨ca,dx,ks,h1,h2,h3⟩:=rh.at' _ a _ ha q;exact ⟨a,ca,dx,ks,rfl,rfl,ha,q,h1,h2,h3⟩
  ·cases e
 | _=>cases e
def Be (C:MC) (f:Str):Prop:=∀ c a,C.cl c=some a->Cls C.K a/\jE C.K a f
section
variable {e o value:Expr} {f:Str} {m mo mv:Me} {pos pos' tpos:Pos}
theorem Eu (hF:Be C f) (he:SE C k X e m) (hb:jv e f X.env (eval e X.env)=eval e X.env:=by rfl):SE C k X (.Attribute e f pos) (mUn (qZ f) m):=fun c=>
 (NA (he c) hb).imp fun σ H Q h=>by
  obtain ⟨φ,δ,h,rh,re,p⟩:=h;refine ⟨φ,δ,h,rh,re,(post.bind p).imp ?_⟩;rintro v H1 ⟨φ1,x,h1,p1,t1,rh1,rv1,q1⟩;unfold qZ at q1;cases ei:iX x h1 with
  | none=>rw [ei] at q1; exact q1.elim
  | some z=>
   obtain ⟨n,cn,fs⟩:=z;rw [ei] at q1;dsimp only at q1;obtain ⟨a,ca,dx,ks,rfl,rfl,ha,hh,hc,hH,rk⟩:=nM rh1 rv1 ei;obtain ⟨cl,na⟩:=hF cn ca hc;rcases mD rk f with ⟨l1,_⟩ | ⟨y,u,l1,l2,ru⟩
   ·rw [l1] at q1; exact q1.elim
   ·rw [l1] at q1;exact ⟨a,ca,dx,ks,u,rfl,hH,by rw [c.K]; exact cl,by rw [c.K]; exact na,l2,q1.val rh1 ru⟩
def Ew (f:Str) (mo mv:Me):Ms:=fun δ h=>(mv δ h).fl fun y h1=>(mo δ h1).fl fun x h2=>match qI f x y h2 with
 | some h3=>.nx δ h3
 | none=>.bad
theorem L6 {φ:List Addr} {H:Hp} {h h3:PH} {x y:PV} {v u:V} {D:Ends} {δ:Ev} {σ:St} (c:Cxt C k X) (hF:Be C f) (rh:RH C φ H h) (re:RE C φ H δ σ) (rx:RV C φ H x v) (ry:RV C φ H y u) (es:qI f x y h=some h3) (q:bO C φ H (.nx δ h3) D):
  ∃ a ca dx ks,v=.ref a/\H a=some (.ins ca dx ks)/\Cls X.K ca/\jE X.K ca f/\ks.length < 1000/\D.nx σ (upd H a (.ins ca dx (gO f u ks)))/\∃ n cn fs,iX x h=some (n,cn,fs)/\C.cl cn=some ca:=by
 unfold qI at es;cases ei:iX x h with
 | none=>rw [ei] at es; cases es
 | some z=>
  obtain ⟨n,cn,fs⟩:=z;rw [ei] at es;dsimp only at es;split at es
  ·rename_i hl;cases es
   obtain ⟨a,ca,dx,ks,rfl,rfl,ha,hh,hc,hH,rk⟩:=nM rh rx ei;obtain ⟨cl,na⟩:=hF cn ca hc;have kp:Kp H (upd H a (.ins ca dx (gO f u ks))):=Kp.upd (by rw [hH]; trivial);refine ⟨a,ca,dx,ks,rfl,hH,by rw [c.K]; exact cl,by rw [c.K]; exact na,by rw [<- fc rk]; exact hl,?_⟩;refine ⟨q φ σ _ av kp (rh.write ha (by rw [hH]; trivial) ⟨ca,dx,_,hc,aW,?_⟩) (re.mono av kp),n,cn,fs,rfl,hc⟩;exact (Ie rk f ry).mono av kp
  ·cases es
theorem QX (hF:Be C f) (hv:SE C k X value mv) (ho:SE C k X o mo) (hs:swapsWith value (some (.Attribute o f pos')) pos.line X.env=pure false:=by rfl):SSt C k X (.Assign [.Attribute o f pos'] value pos) (Ew f mo mv):=fun c=>
 (NB (ho c) (hv c) hs).imp fun D σ H h=>by
  obtain ⟨φ,δ,h,rh,re,p⟩:=h;refine ⟨φ,δ,h,rh,re,(post.fl p).imp ?_⟩;rintro u H1 ⟨φ1,y,h1,p1,t1,rh1,rv1,q1⟩;refine ⟨φ1,δ,h1,rh1,re.mono p1 t1,(post.fl q1).imp ?_⟩;rintro v H2 ⟨φ2,x,h2,p2,t2,rh2,rv2,q2⟩;cases es:qI f x y h2 with
  | none=>rw [es] at q2; exact q2.elim
  | some h3=>
   rw [es] at q2;obtain ⟨a,ca,dx,ks,g1,g2,g3,g4,g5,g6,_⟩:=L6 c hF rh2 ((re.mono p1 t1).mono p2 t2) rv2 (rv1.mono p2 t2) es q2;exact ⟨a,ca,dx,ks,g1,g2,g3,g4,g5,g6⟩
end
def Ii (C:MC) (X:Cx) (k:Nat) (m:Str) (n:Nat) (tb:Str->Option Fn):Prop:=∀ c a f,C.cl c=some a->tb c=some f->
 ∃ g fd ps j,Cls C.K a/\oQ C.K a m g/\j<=k/\aT X.prog X.w C.K X.mg X.base CX0 j g fd ps (spM C (n+1) f)/\Binds C.K fd ps []
theorem Df {m:Str} {n:Nat}:Ii C X k m n (fun _=>none):=fun _ _ _ _ h=>nomatch h
theorem yZ {m c:Str} {n j:Nat} {a g:Addr} {fd:dq} {ps:List Str} {f:Fn} {tb:Str->Option Fn} (hc:C.cl c=some a) (hC:Cls C.K a) (me:oQ C.K a m g) (hj:j<=k) (G:aT X.prog X.w C.K X.mg X.base CX0 j g fd ps (spM C (n+1) f)) (B:Binds C.K fd ps []) (r:Ii C X k m n tb):
  Ii C X k m n (fun z=>if z=c then some f else tb z):=fun c' a' f' h1 h2=>by
 have h2':(if c'=c then some f else tb c')=some f':=h2
 by_cases e:c'=c
 ·subst e;rw [hc] at h1;cases h1
  rw [if_pos rfl] at h2';cases h2'
  exact ⟨g,fd,ps,j,hC,me,hj,G,B⟩
 ·rw [if_neg e] at h2';exact r c' a' f' h1 h2'
def iY (m:Str) (n:Nat) (tb:Str->Option Fn) (mo:Me) (ms:Ma):Me:=fun δ h=>(mo δ h).bind fun x h1=>match iX x h1 with
 | some (_,c,fs)=>match tb c,fs.lookup m with
  | some f,none=>(ms δ h1).bind fun ps h2=>if ps.length=n then f (x :: ps) h2 else .bad
  | _,_=>.bad
 | none=>.bad
section
variable {o e:Expr} {es:List Expr} {m:Str} {n:Nat} {tb:Str->Option Fn} {mo:Me} {ms:Ma} {pos apos:Pos} {pl:Sem Bool}
theorem Ij (hM:Ii C X k m n tb) (ho:SE C k X o mo) (ha:SA C k X (e :: es) ms) (hst:b9 (e :: es) X.env=(false,eval e X.env) :: b9 es X.env:=by rfl) (hpl:(backTo pos (b9 es X.env)).any (·.1)=false:=by rfl)
  (ht:eval (.Call (.Attribute o m apos) (e :: es) [] pos) X.env=(do
   let ov <- eval o X.env
   standAt apos.atName
   let (f,first) <- holding [ov] (getMethod ov m pl)
   callWith pos f first (backTo pos (b9 (e :: es) X.env)) (backToKw pos (keywordEach [] X.env))):=by rfl):
  SE C k X (.Call (.Attribute o m apos) (e :: es) [] pos) (iY m n tb mo ms):=fun c pins s σ H Q I h=>by
 obtain ⟨φ,δ,h,rh,re,p⟩:=h
 refine PySem.W.methodCall_KW (pl:=pl) (thn (ho c pins s σ H _ I ⟨φ,δ,h,rh,re,post.bind p⟩) fun u s1 hh=>?_) ht
 obtain ⟨v,H1,I1,ru,φ1,x,h1,p1,t1,rh1,rv1,q1⟩:=hh
 cases ei:iX x h1 with
 | none=>rw [ei] at q1; exact q1.elim
 | some z=>
  obtain ⟨n',cn,fs⟩:=z
  rw [ei] at q1
  dsimp only at q1
  obtain ⟨a,ca,dx,ks,rfl,rfl,hφ,hh,hc,hH,rk⟩:=nM rh1 rv1 ei
  cases et:tb cn with
  | none=>rw [et] at q1; exact q1.elim
  | some f=>
   rw [et] at q1
   rcases mD rk m with ⟨l1,l2⟩ | ⟨y,u',l1,_⟩
   ·rw [l1] at q1
    dsimp only at q1
    obtain ⟨g,fd,ps,j,cl,me,hj,F,bd⟩:=hM cn ca f hc et
    have cl':Cls X.K ca:=by rw [c.K]; exact cl
    have me':oQ X.K ca m g:=by rw [c.K]; exact me
    have F':aT X.prog X.w X.K X.mg X.base CX0 j g fd ps (spM C (n+1) f):=by rw [c.K]; exact F
    have bd':Binds X.K fd ps []:=by rw [c.K]; exact bd
    cases ru
    refine rX I1 hH cl' me' l2 ?_
    refine PySem.W.callWith_K (first:=[.ref a]) (h₀:=X.base) I.ok.mod.kin me'.kp (thn (ha c pos pins s1 σ H1 _ I1 ⟨φ1,δ,h1,rh1,re.mono p1 t1,postA.bind q1⟩) fun us s2 h2=>?_) hst hpl
    obtain ⟨vs,H2,I2,r2,φ2,zs,h3,p2,t2,rh2,rv2,q2⟩:=h2
    obtain ⟨hl,q2⟩:=q2.ite
    refine ⟨I2.kIn,?_⟩
    exact Cr (us:=.ref a :: us) (vs:=.ref a :: vs) F' (c.room.mono hj) bd' .nil E2 I2 (.cons rfl r2) ⟨φ2,h3,.ref n' :: zs,rh2,⟨⟨a,rfl,fZ p2 hφ⟩,(by show RVs C φ2 H2 zs (vs++[]); rw [dk]; exact rv2)⟩,by simp [hl],q2⟩
   ·rw [l1] at q1; exact q1.elim
theorem L7 (hM:Ii C X k m 0 tb) (ho:SE C k X o mo)
  (ht:eval (.Call (.Attribute o m apos) [] [] pos) X.env=(do
   let ov <- eval o X.env
   standAt apos.atName
   let (f,first) <- holding [ov] (getMethod ov m pl)
   callWith pos f first (backTo pos (b9 [] X.env)) (backToKw pos (keywordEach [] X.env))):=by rfl):
  SE C k X (.Call (.Attribute o m apos) [] [] pos) (iY m 0 tb mo aG):=fun c pins s σ H Q I h=>by
 obtain ⟨φ,δ,h,rh,re,p⟩:=h
 refine PySem.W.methodCall_KW (pl:=pl) (thn (ho c pins s σ H _ I ⟨φ,δ,h,rh,re,post.bind p⟩) fun u s1 hh=>?_) ht
 obtain ⟨v,H1,I1,ru,φ1,x,h1,p1,t1,rh1,rv1,q1⟩:=hh
 cases ei:iX x h1 with
 | none=>rw [ei] at q1; exact q1.elim
 | some z=>
  obtain ⟨n',cn,fs⟩:=z
  rw [ei] at q1
  dsimp only at q1
  obtain ⟨a,ca,dx,ks,rfl,rfl,hφ,hh,hc,hH,rk⟩:=nM rh1 rv1 ei
  cases et:tb cn with
  | none=>rw [et] at q1; exact q1.elim
  | some f=>
   rw [et] at q1
   rcases mD rk m with ⟨l1,l2⟩ | ⟨y,u',l1,_⟩
   ·rw [l1] at q1
    dsimp only at q1
    obtain ⟨g,fd,ps,j,cl,me,hj,F,bd⟩:=hM cn ca f hc et
    have cl':Cls X.K ca:=by rw [c.K]; exact cl
    have me':oQ X.K ca m g:=by rw [c.K]; exact me
    have F':aT X.prog X.w X.K X.mg X.base CX0 j g fd ps (spM C (0+1) f):=by rw [c.K]; exact F
    have bd':Binds X.K fd ps []:=by rw [c.K]; exact bd
    cases ru
    refine rX I1 hH cl' me' l2 ?_
    have q2:post C φ1 H1 (f [.ref n'] h1) Q:=q1
    exact PySem.W.callWith_K0 (first:=[.ref a]) I1.kIn me'.kp (Cr (us:=[.ref a]) (vs:=[.ref a]) F' (c.room.mono hj) bd' .nil E2 I1 (.cons rfl .nil) ⟨φ1,h1,[.ref n'],rh1,⟨⟨a,rfl,hφ⟩,trivial⟩,rfl,q2⟩)
   ·rw [l1] at q1; exact q1.elim
end
def Ik (cn:Str) (n:Nat) (f:Fn) (ms:Ma):Me:=fun δ h=>(ms δ h).bind fun ps h1=>if ps.length=n then (f (.ref h1.length :: ps) (h1++[.ins cn []])).bind fun v h2=>(match v with
 | .non=>.ok (.ref h1.length) h2
 | _=>.bad) else .bad
section
variable {x cn:Str} {ca f:Addr} {fd:dq} {ps:List Str} {j n:Nat} {fn:Fn} {e:Expr} {es:List Expr} {ms:Ma} {p pos:Pos}
theorem L8 {φ:List Addr} {H:Hp} {h:PH} {zs:List PV} {vs:List V} {Q:VK} (hc:C.cl cn=some ca) (rh:RH C φ H h) (rv:RVs C φ H zs vs)
  (q:post C φ H (if zs.length=n then (fn (.ref h.length :: zs) (h++[.ins cn []])).bind fun v h2=>(match v with | .non=>Rs.ok (.ref h.length) h2 | _=>.bad) else .bad) Q):
  ∀ y dx,H y=none->H dx=none->dx≠y->spM C (n+1) fn (.ref y :: (vs++[])) (upd (upd H dx (.own y)) y (.ins ca dx [])) (fun v H2=>v=.non/\Q (.ref y) H2) E0:=fun y dx hy hd ne=>by
 obtain ⟨hl,q⟩:=q.ite;have hy':(upd H dx (.own y)) y=none:=by rw [aN (ko ne)]; exact hy
 have k1:Kp H (upd H dx (.own y)):=Kp.new hd;have k2:Kp (upd H dx (.own y)) (upd (upd H dx (.own y)) y (.ins ca dx [])):=Kp.new hy';have rh2:RH C (φ++[y]) (upd (upd H dx (.own y)) y (.ins ca dx [])) (h++[.ins cn []]):=(rh.aside hd).new hy' ⟨ca,dx,[],hc,aW,.nil⟩;have rvy:RV C (φ++[y]) (upd (upd H dx (.own y)) y (.ins ca dx [])) (.ref h.length) (.ref y):=⟨y,rfl,by rw [<- rh.len]; simp⟩;refine ⟨φ++[y],h++[.ins cn []],.ref h.length :: zs,rh2,⟨rvy,by rw [dk]; exact rv.mono (dn _ _) (k1.trans k2)⟩,by simp [hl],?_⟩;refine (post.bind (post.weak (dn _ [y]) (k1.trans k2) q)).imp ?_;rintro v H2 ⟨φ2,pv,h2,p2,t2,rh3,rv3,q3⟩;cases pv with
 | non=>cases rv3; exact ⟨rfl,q3.val rh3 (rvy.mono p2 t2)⟩
 | _=>exact q3.elim
theorem L9 (hc:C.cl cn=some ca) (M:Mk C.K ca f) (F:aT X.prog X.w C.K X.mg X.base CX0 j f fd ps (spM C (0+1) fn)) (hm:X.mg x=some (.ref ca)) (bd:Binds C.K fd ps []) (hj:j+1<=k:=by decide) (hg:Gl X x:=by rfl)
  (hdb:(x == ("__debug__" : Str))=false:=by decide):SE C k X (.Call (.Name x p) [] [] pos) (Ik cn 0 fn aG):=fun c=>by
 have M':Mk X.K ca f:=by rw [c.K]; exact M
 have F':aT X.prog X.w X.K X.mg X.base CX0 j f fd ps (spM C (0+1) fn):=by rw [c.K]; exact F
 have bd':Binds X.K fd ps []:=by rw [c.K]; exact bd
 refine (GA M' F' (c.room.mono hj) hg hm bd' .nil E2 hdb).imp fun σ H Q h=>?_;obtain ⟨φ,δ,h,rh,re,po⟩:=h;exact L8 (zs:=[]) hc rh trivial po
end
end
def qJ (x y v:PV) (h:PH):Option PH:=match x,y with
 | .ref n,.int i=>match dY h n with
  | some xs=>match ixN xs.length i with
   | some j=>some (h.set n (.lst (xs.set j v)))
   | none=>none
  | none=>D6 x y v h
 | _,_=>D6 x y v h
def Ex (mv mo mi:Me):Ms:=fun δ h=>(mv δ h).fl fun v h1=>(mo δ h1).fl fun x h2=>(mi δ h2).fl fun y h3=>match qJ x y v h3 with
 | some h4=>.nx δ h4
 | none=>.bad
def QY:List PV->PH->Rs PV:=fun xs h=>match xs with
 | [.bl b]=>.ok (.int (if b then 1 else 0)) h
 | [.int i]=>.ok (.int i) h
 | _=>.bad
section
variable {C:MC} {k:Nat} {X:Cx}
theorem Dg {φ:List Addr} {H:Hp} {h h':PH} {px py pv:PV} {x y v:V} (c:Cxt C k X) (rh:RH C φ H h) (rx:RV C φ H px x) (ry:RV C φ H py y) (rv:RV C φ H pv v) (e:qJ px py pv h=some h') {pins:List (Addr×Obj)} {σ:St} {s:Shared} {xu yu vu:Value}
  {Q:Unit->Shared->Prop} (I:Inv X pins σ H s) (rxu:RelV x xu) (ryu:RelV y yu) (rvu:RelV v vu) (q:∀ s' H',Inv X pins σ H' s'->Kp H H'->RH C φ H' h'->Q () s'):wpAny (model X.prog X.w) X.A (setItem xu yu vu) Q X.xe s:=by
 unfold qJ at e;split at e
 ·rename_i n i;split at e
  ·rename_i xs el;split at e
   ·rename_i j ej;cases e
    obtain ⟨a,rfl,ha⟩:=rx;cases ry
    obtain ⟨ws,hH,rw'⟩:=rh.at' n a _ ha (gQ el);refine thn (set_list pins s σ H (.ref a) (.int i) v xu yu vu (fun H'=>H'=upd H a (.lst (ws.set j v))) I rxu ryu rvu ⟨a,ws,i,j,rfl,rfl,hH,by rw [<- rw'.length]; exact ej,rfl⟩) ?_;rintro _ s' ⟨H',I',rfl⟩;refine q s' _ I' (Kp.lst hH) (rh.write ha (by rw [hH]; trivial) ⟨_,aW,(RVs.set rv j rw').mono av (Kp.lst hH)⟩)
   ·cases e
  ·exact wX c rh rx ry rv e I rxu ryu rvu q
 ·exact wX c rh rx ry rv e I rxu ryu rvu q
theorem Oo {o i value:Expr} {pos pos':Pos} {mv mo mi:Me} (hv:SE C k X value mv) (ho:SE C k X o mo) (hi:SE C k X i mi) (hs:swapsWith value (some (.Subscript o i pos')) pos.line X.env=pure false:=by rfl):
  SSt C k X (.Assign [.Subscript o i pos'] value pos) (Ex mv mo mi):=fun c pins s σ H D I ⟨φ,δ,h,rh,re,p⟩=>by
 refine wpAny_Assign_Subscript (thn (hv c pins s σ H _ I ⟨φ,δ,h,rh,re,post.fl p⟩) ?_) hs;rintro vu s1 ⟨v,H1,I1,rvu,φ1,pv,h1,p1,t1,rh1,rv1,q1⟩;refine thn (ho c pins s1 σ H1 _ I1 ⟨φ1,δ,h1,rh1,re.mono p1 t1,post.fl q1⟩) ?_;rintro xu s2 ⟨x,H2,I2,rxu,φ2,px,h2,p2,t2,rh2,rv2,q2⟩;refine thn (hi c pins s2 σ H2 _ I2 ⟨φ2,δ,h2,rh2,(re.mono p1 t1).mono p2 t2,post.fl q2⟩) ?_;rintro yu s3 ⟨y,H3,I3,ryu,φ3,py,h3,p3,t3,rh3,rv3,q3⟩;cases e:qJ px py pv h3 with
 | none=>rw [e] at q3; exact q3.elim
 | some h4=>
  rw [e] at q3;exact Dg c rh3 (rv2.mono p3 t3) rv3 ((rv1.mono p2 t2).mono p3 t3) e I3 rxu ryu rvu fun s' H' I' kp rh'=>⟨σ,H',I',q3 φ3 σ H' av kp rh' ((((re.mono p1 t1).mono p2 t2).mono p3 t3).mono av kp)⟩
end
section
variable {δ:Ev} {h:PH} {m mo mv:Me} {E:FE}
theorem tM {n:Nat} {c:Str} {fs:List (Str×PV)} (e:h[n]?=some (.ins c fs)):iX (.ref n) h=some (n,c,fs):=by simp [iX,e]
theorem zA {n:Nat} {c f:Str} {fs:List (Str×PV)} {p:PV} (e:h[n]?=some (.ins c fs)) (l:fs.lookup f=some p):qZ f (.ref n) h=.ok p h:=by simp [qZ,tM e,l]
theorem Il {n:Nat} {c f:Str} {fs:List (Str×PV)} {p:PV} (e:h[n]?=some (.ins c fs)) (l:fs.length < 1000):qI f (.ref n) p h=some (h.set n (.ins c (FD f p fs))):=by simp [qI,tM e,l]
@[simp] theorem Tc {f:Str}:(Ew f mo mv δ h).W E=(mv δ h).W fun y h1=>(mo δ h1).W fun x h2=>∃ h3,qI f x y h2=some h3/\E.nx δ h3:=by
 unfold Ew;rw [FB]
 congr 1
 funext y h1
 rw [FB]
 congr 1
 funext x h2
 cases e:qI f x y h2 <;> simp
@[simp] theorem QZ {cn:Str} {n:Nat} {f:Fn} {ms:Ma}:Ik cn n f ms δ h=(ms δ h).bind fun ps h1=>if ps.length=n then (f (.ref h1.length :: ps) (h1++[.ins cn []])).bind fun v h2=>(match v with | .non=>.ok (.ref h1.length) h2 | _=>.bad) else .bad:=(rfl)
theorem Im {mm:Str} {n k:Nat} {tb:Str->Option Fn} {ms:Ma} {h1:PH} {c:Str} {fs:List (Str×PV)} {f:Fn} (e:mo δ h=.ok (.ref k) h1) (g:h1[k]?=some (.ins c fs)) (t:tb c=some f) (l:fs.lookup mm=none):
  iY mm n tb mo ms δ h=(ms δ h1).bind fun ps h2=>if ps.length=n then f (.ref k :: ps) h2 else .bad:=by
 unfold iY;rw [e,Rs.bind_ok,tM g];simp only [t,l]
@[simp] theorem Td {mi:Me}:(Ex mv mo mi δ h).W E=(mv δ h).W fun v h1=>(mo δ h1).W fun x h2=>(mi δ h2).W fun y h3=>∃ h4,qJ x y v h3=some h4/\E.nx δ h4:=by
 unfold Ex;rw [FB]
 congr 1
 funext v h1
 rw [FB]
 congr 1
 funext x h2
 rw [FB]
 congr 1
 funext y h3
 cases e:qJ x y v h3 <;> simp
@[simp] theorem R0 {b:Bool}:QY [.bl b] h=.ok (.int (if b then 1 else 0)) h:=(rfl)
end
def R1:List Int->Int
 | []=>0
 | [x]=>x
 | x :: y :: r=>max x (R1 (y :: r))
def tN:List Int->Int
 | []=>0
 | [x]=>x
 | x :: y :: r=>min x (tN (y :: r))
theorem Bf:∀ {ns:List Int},ns≠[]->tN ns∈ns/\∀ a∈ns,tN ns<=a
 | [],h=>(h rfl).elim
 | [x],_=>⟨by simp [tN],by simp [tN]⟩
 | x :: y :: r,_=>by
  obtain ⟨h1,h2⟩:=Bf (ns:=y :: r) (by simp);unfold tN;refine ⟨?_,fun a ha=>?_⟩
  ·rcases Int.le_total x (tN (y :: r)) with z | z
   ·rw [Int.min_eq_left z]; exact bg
   ·rw [Int.min_eq_right z]; exact ao _ h1
  ·rcases bw.mp ha with rfl | ha
   ·exact Int.min_le_left _ _
   ·exact Int.le_trans (Int.min_le_right _ _) (h2 a ha)
def R3:List PV->PH->Rs PV:=fun xs h=>match xs with
 | [.ref n]=>match aX h n with
  | some ys=>match B8 ys with
   | some (a :: ns)=>.ok (.int (R1 (a :: ns))) h
   | _=>.bad
  | none=>.bad
 | _=>QA xs h
def Ey:List PV->PH->Rs PV:=fun xs h=>match xs with
 | [.ref n]=>match aX h n with
  | some ys=>match B8 ys with
   | some (a :: ns)=>.ok (.int (tN (a :: ns))) h
   | _=>.bad
  | none=>.bad
 | _=>KO xs h
section
variable {C:MC} {k:Nat} {X:Cx}
theorem FF (c:Cxt C k X):dW X (.builtin "min") (fun xs H Q=>∃ (p:Addr) (ns:List Int),xs=[.ref p]/\SqL C.K H p (ns.map V.int)/\ns≠[]/\Q (.int (tN ns)) H):=by
 intro pins s σ H xs us Q I r h;obtain ⟨p,ns,rfl,hq,hne,q⟩:=h;obtain ⟨u,rfl,ru⟩:=vals1 r;cases ru
 rw [<- c.K] at hq;obtain ⟨its,rv,pl,hz⟩:=I.list hq;have hi:IntsAre its ns:=intsAre_of rv;obtain ⟨ys,hy⟩:=hi.allInts.items;have hl:=pl.isList;have hns:ns=ys.toList.map (·.1):=by rw [<- hi.numsOf,<- nums_intItems,<- hy]
 have hsz:0 < ys.size:=by
  have h3:0 < ns.length:=List.length_pos_iff.mpr hne;rw [hns,aj,gv] at h3; exact h3
 rw [hy] at hl;refine min_intList (I.ok.hd c.calm) hl hsz fun v h' tk hv hk=>?_;obtain ⟨t,rfl⟩:=intItems_at hv;obtain ⟨h1,h2⟩:=argBest_lt (numAt ys) (ys.size - 1);have hM:numAt ys (argBest (fun i j=>decide (numAt ys i < numAt ys j)) (ys.size - 1))=tN ns:=by
  obtain ⟨m1,m2⟩:=Bf hne;refine Int.le_antisymm ?_ (m2 _ ?_)
  ·have ha:=m1;rw [hns] at ha;obtain ⟨j,hj,ej⟩:=mem_getD ha;rw [aj,gv] at hj;rw [<- hns] at ej;rw [<- ej,hns,<- numAt_eq];exact h2 j (by omega)
  ·rw [hns,numAt_eq]; exact getD_mem (by rw [aj,gv]; omega)
 rw [hM];exact ⟨.int (tN ns),H,I.kept (t':=tk) hk,⟨_,rfl⟩,q⟩
theorem Oq:sN C k X (.builtin "min") Ey:=fun c=>dW.imp (dW.or (QC c) (FF c)) fun vs H Q h=>by
 obtain ⟨φ,h,ps,rh,rv,po⟩:=h;unfold Ey at po;split at po
 ·rename_i n;split at po
  ·rename_i ys e;split at po
   ·rename_i a ns en;obtain ⟨v,rfl,rx⟩:=rv.one;obtain ⟨p,rfl,hp⟩:=rx;obtain ⟨p2,ws,hp2,sp,rp⟩:=cA rh e;rw [hp] at hp2; cases hp2;have ew:=En rp en;subst ew;exact .inr ⟨p,a :: ns,rfl,sp,by simp,po.val rh rfl⟩
   ·exact po.elim
  ·exact po.elim
 ·exact .inl ⟨φ,h,_,rh,rv,po⟩
end
section
variable {h:PH}
@[simp] theorem PB {i j:Int}:R3 [.int i,.int j] h=.ok (.int (if j > i then j else i)) h:=(rfl)
@[simp] theorem PC {i j:Int}:Ey [.int i,.int j] h=.ok (.int (if j < i then j else i)) h:=(rfl)
end
theorem zB:typeLookup (.type "list") "keys" = pure none:=by rw [typeLookup_type,builtinLookup_eq_fast]; kernel_rfl
theorem zC {prog:Program} {w:World} {A:Around} {E:Value->Shared->Prop} {s:Shared} {a:Addr} {o:Obj} {xs:Array Value} {k:Nat} {Q:Option Value->Shared->Prop}
  (hx:s.heap.get? a=some o) (hc:o.cls=.type "list") (hdat:o.data=.seq xs k) (hd:o.dict=none) (hA:A.handled=none)
  (h:∀ h' tk,(∀ b u,s.heap.get? b=some u->h'.get? b=some u)->Q none { s with heap:=h',toks:=tk }):wpAny (model prog w) A (getAttr? (.ref a) "keys") Q E s:=by
 obtain ⟨c,dct,dat,sl⟩:=o;simp only at hc hdat hd;subst hc hdat hd;obtain ⟨hp,g,d,tk,os⟩:=s;have hT:∀ tk',(⟨hp,g,d,tk',os⟩:Shared).TypeIs (.ref a) "list" := fun _=>⟨_,hx,rfl⟩;have f1:=sub_AttributeError;have f3:=F.slot_list_getattribute.lookup;have f4:=F.slot_list_getattribute.bind (.ref a);have f5:=am_list_getattr_none;unfold getAttr? getAttrBy? getAttrBy
 repeat (any_goals (first | assumption | exact hT _ | ((with_reducible show wpAny _ _ (call (Value.builtin "list.__getattribute__") _ _) _ _ _); refine call_meets F.slot_list_getattribute (hT _) am_entry_list_getattribute (F.args_list_getattribute_2 _ _) (meets_getattribute_miss_list a xs k sl "keys" _ zB (by decide) (by size_fits)) ⟨hx,hA,fun h' tk' e hx'=>?_⟩) | wp_step))
 obtain ⟨t',u',he⟩:=hx'.there
 show wpAny _ _ (getattributeRaised _ _ _ _ _ _ _) _ _ _
 unfold getattributeRaised
 repeat (any_goals (first | assumption | wp_step))
 exact h _ _ hx'.of.keeps
section
variable {prog:Program} {w:World} {K:Type} [DecidableEq K] {knd:HeapKind prog w K} {A:Around} {R:Result->Shared->Prop}
def Bg (xs:List (K×Addr×Value)) (ps:List (Addr×K×Addr×Value)):List (K×Addr×Value):=ps.foldl (fun acc p=>storedH acc p.2.1 p.2.2.1 p.2.2.2) xs
theorem qK (xs:List (K×Addr×Value)) (k:K) (a:Addr) (v:Value):(storedH xs k a v).length<=xs.length+1:=by
 unfold storedH;split
 ·rw [aj]; omega
 ·simp
theorem Bh {xs:List (K×Addr×Value)} {k:K} {a:Addr} {v:Value} {x:K×Addr×Value} (h:x∈storedH xs k a v):(∃ y∈xs,x.1=y.1/\x.2.1=y.2.1)\/(x.1=k/\x.2.1=a):=by
 unfold storedH at h;split at h
 ·obtain ⟨y,hy,rfl⟩:=cz.mp h;refine .inl ⟨y,hy,?_,?_⟩
  ·unfold putAt; split <;> rfl
  ·unfold putAt; split <;> rfl
 ·rcases au.mp h with h | h
  ·exact .inl ⟨x,h,rfl,rfl⟩
  ·rw [dm.mp h]; exact .inr ⟨rfl,rfl⟩
theorem Bi {I d:Addr} {fp wr:List Addr} {n:Nat} {P:Nat->Value->Prop} {St:Nat->Heap->Prop} (W:Walks prog w A.in1 I fp wr n P St) (hd:d∉fp) (hu:knd.room A.in1) (ps:List (Addr×K×Addr×Value)) (hn:ps.length=n)
  (hP:∀ i v,P i v->∃ p,ps[i]?=some p/\v=.ref p.1) (h0:Heap) (hw0:∀ b u,h0.get? b=some u->b∉wr/\b≠d)
  (hk:∀ h',(∀ b u,h0.get? b=some u->h'.get? b=some u)->∀ p∈ps,knd.is h' p.2.1 p.2.2.1/\IsTup h' p.1 #[.ref p.2.2.1,p.2.2.2]) (res:Value):
  ∀ (m i:Nat) (s:Shared) (xs:List (K×Addr×Value)),n - i=m->i<=n->St i s.heap->s.heap.DictOfH knd d xs->(∀ x∈xs,∃ p∈ps,x.1=p.2.1/\x.2.1=p.2.2.1)->xs.length+n<=az+i->(∀ b u,h0.get? b=some u->s.heap.get? b=some u)->
  (∀ h' tk,h'.DictOfH knd d (Bg xs (ps.drop i))->(∀ b u,h0.get? b=some u->h'.get? b=some u)->R (.ok (.ret res)) { s with heap:=h',toks:=tk })->
  codeAny (model prog w) A (.builtin "dict.update.loop" ⟨[.ref d,.ref I,rawInt i,res],[]⟩) R s:=by
 have hdw:d∉wr:=fun h=>hd (W.sub _ h);intro m
 induction m with
 | zero=>
  intro i s xs hm hi hst hdt hxs hz hit hR;have hin:i=n:=by omega
  subst hin;refine jm eQ ?_;rw [gi bK _]
  show wpAny _ A.in1 (pyNext (.ref I) >>= _) _ _ s
  refine aa (W.done s _ _ hst fun h' tk hk'=>?_)
  show wpAny _ A.in1 (Builtin.Dict.addKeywords d [] >>= _) _ _ _
  have h00:∀ b u,h0.get? b=some u->h'.get? b=some u:=fun b u e=>hk' b u (hw0 b u e).1 (hit b u e);have hfin:=hR h' tk (by
   rw [fw (by omega)];obtain ⟨o,es,ep,h1,h2,h3,h4,h5,h6⟩:=hdt;refine ⟨o,es,ep,hk' d _ hdw h1,h2,h3,h4,fun x hx=>?_,h6⟩;obtain ⟨p,hp,e1,e2⟩:=hxs x hx;rw [e1,e2];exact (hk h' h00 p hp).1) h00
  exact aa (af (af hfin))
 | succ m ih=>
  intro i s xs hm hi hst hdt hxs hz hit hR;have hlt:i < n:=by omega
  refine jm eQ ?_;rw [gi bK _]
  show wpAny _ A.in1 (pyNext (.ref I) >>= _) _ _ s
  refine aa (W.item i s _ _ hlt hst fun v h' tk hPv hst' hk'=>?_);obtain ⟨p,hp,rfl⟩:=hP i v hPv;have hpm:=b7 hp;have h00:∀ b u,h0.get? b=some u->h'.get? b=some u:=fun b u e=>hk' b u (hw0 b u e).1 (hit b u e);obtain ⟨hki,ob,hb1',hb2,nn,hb3⟩:=hk h' h00 p hpm;have hTy:({ s with heap:=h',toks:=tk }:Shared).TypeIs (.ref p.1) "tuple" := ⟨ob,hb1',hb2⟩;have hdt':h'.DictOfH knd d xs:=by
   obtain ⟨o,es,ep,h1,h2,h3,h4,h5,h6⟩:=hdt;refine ⟨o,es,ep,hk' d _ hdw h1,h2,h3,h4,fun x hx=>?_,h6⟩;obtain ⟨p,hp,e1,e2⟩:=hxs x hx;rw [e1,e2];exact (hk h' h00 p hp).1
  refine aa (il (aa (wpAny_tryCatch ?_)));unfold Builtin.Dict.pairItems;refine aa (mn hTy ?_);rw [if_pos (by decide)];refine aa (jf hb1' hb3 (af ?_))
  show wpAny _ _ (holding [.ref p.2.2.1,p.2.2.2] (dictSet d (.ref p.2.2.1) p.2.2.2)) _ _ _
  refine il (wpAny_dictSet_heap (hsz:=by omega) hu hki hdt' fun h2 hd2 hs2=>?_);refine af ⟨k6 bK _,?_⟩;have st2:St (i+1) h2:=W.frame (i+1) h' h2 hst' fun b hb o e=>(hs2.2 b (fun z=>hd (z ▸ hb))).trans e;refine ih (i+1) _ (storedH xs p.2.1 p.2.2.1 p.2.2.2) (by omega) hlt st2 hd2 (fun x hx=>?_) ?_ (fun b u e=>(hs2.2 b (hw0 b u e).2).trans (h00 b u e)) fun h3 tk3 hd3 hk3=>?_
  ·rcases Bh hx with ⟨y,hy,e1,e2⟩ | ⟨e1,e2⟩
   ·rw [e1,e2]; exact hxs y hy
   ·exact ⟨p,hpm,e1,e2⟩
  ·have:=qK xs p.2.1 p.2.2.1 p.2.2.2;omega
  ·refine hR h3 tk3 ?_ hk3;have hdr:ps.drop i=p :: ps.drop (i+1):=by
    obtain ⟨hl,e⟩:=ae.mp hp;rw [dj hl,e]
   rw [hdr];exact hd3
theorem rA {E:Value->Shared->Prop} {s:Shared} {a:Addr} {o:Obj} {k:Nat} {ps:List (Addr×K×Addr×Value)} {Q:Value->Shared->Prop} (hA:A.handled=none) (hu:knd.room A.in1.in1) (hx:s.heap.get? a=some o) (hc:o.cls=.type "list") (hdat:o.data=.seq (ps.map fun p=>c0 p.1).toArray k) (hd:o.dict=none)
  (hk:∀ h',(∀ b u,s.heap.get? b=some u->h'.get? b=some u)->∀ p∈ps,knd.is h' p.2.1 p.2.2.1/\IsTup h' p.1 #[.ref p.2.2.1,p.2.2.2]) (hz:ps.length<=az)
  (h:∀ h' tk,h'.DictOfH knd s.heap.objs.size (Bg [] ps)->(∀ b u,s.heap.get? b=some u->h'.get? b=some u)->Q (.ref s.heap.objs.size) { s with heap:=h',toks:=tk }):
  wpAny (model prog w) A (call (.type "dict") [.ref a]) Q E s:=by
 refine callType_codes (Q₁:=fun obj s₁=>obj=.ref s.heap.objs.size/\s₁={ s with heap:=s.heap.push { cls:=.type "dict",data:=.dict #[] } }) F.kt_called_dict (F.kt_typeCall_dict_1 _) F.entry_dict_init (kt_code_dict_new _ ⟨rfl,rfl⟩) ?_;rintro obj s₁ ⟨rfl,rfl⟩;have hnew:(s.heap.push { cls:=.type "dict",data:=.dict #[] }).DictOfH knd s.heap.objs.size []:=Heap.DictOfH.new s.heap;have up:∀ b u,s.heap.get? b=some u->(s.heap.push { cls:=.type "dict",data:=.dict #[] }).get? b=some u:=fun b u e=>ab _ e;have hTa:({ s with heap:=s.heap.push { cls:=.type "dict",data:=.dict #[] } }:Shared).TypeIs (.ref a) "list" := ⟨o,up _ _ hx,hc⟩;refine ⟨hnew.typeIs,F.args_dict_init_2 _ _,?_⟩;unfold Builtin.«dict.__init__»;refine aa ?_; unfold Builtin.Dict.selfAndRest;refine aa (mw hnew.typeIs (show wpAny _ _ (pure (s.heap.objs.size,[c0 a])) _ _ _ from af ?_))
 show wpAny _ _ (k7 "dict.__init__" s.heap.objs.size (.ref a) [] .none) _ _ _
 unfold k7;refine aa (mn hTa ?_);rw [if_pos (by decide)];refine aa (zC (up _ _ hx) hc hdat hd hA fun h1 tk1 kp1=>?_);rw [if_pos (by rfl)];refine aa (lq ?_);have ha1:h1.IsList a (ps.map fun p=>c0 p.1).toArray:=⟨o,kp1 _ _ (up _ _ hx),hc,k,hdat⟩;refine aa (wpAny_pyIter_list (s:={ s with heap:=h1,toks:=tk1 }) ha1 (af ⟨k6 bK _,?_⟩));have lt0:s.heap.objs.size < h1.objs.size:=by
  have:=kp1 s.heap.objs.size _ (ax s.heap rfl);exact ay this
 have hlt:∀ b u,s.heap.get? b=some u->b < s.heap.objs.size:=fun b u e=>ay e;have ha0:=hlt _ _ hx;refine Bi (knd:=knd) (fp:=[h1.objs.size,a]) (wr:=[h1.objs.size]) (n:=(ps.map fun p=>c0 p.1).toArray.size) (Walks.list (A:=A.in1.in1) hA h1.objs.size a (bu (nj ha0 lt0)) (ps.map fun p=>c0 p.1).toArray) ?_ hu ps (by simp) (fun i v e=>?_) s.heap (fun b u e=>?_) hk .none _ 0 _ [] (i6 _) (dv _) ?_ ?_ (fun x hx=>nomatch hx) (by simpa using hz) (fun b u e=>?_) fun h' tk dd kk=>?_
 ·intro z;rcases bw.mp z with z | z
  ·exact bu lt0 z
  ·exact bu ha0 (dm.mp z).symm
 ·have e':(ps.map fun p=>c0 p.1)[i]?=some v:=by simpa using e
  rw [bf] at e';obtain ⟨p,hp,rfl⟩:=b6.mp e';exact ⟨p,hp,rfl⟩
 ·have h0:=hlt _ _ e;exact ⟨fun z=>bu (nj h0 lt0) (dm.mp z),bu h0⟩
 ·refine ⟨⟨_,ax _ rfl,rfl,rfl⟩,?_⟩;obtain ⟨ob,e,r⟩:=ha1;exact ⟨ob,ab _ e,r⟩
 ·obtain ⟨oo,es,ep,e,r1,r2,r3,r4,r5⟩:=hnew;exact ⟨oo,es,ep,ab _ (kp1 _ _ e),r1,r2,r3,(fun x hx=>nomatch hx),r5⟩
 ·exact ab _ (kp1 _ _ (up _ _ e))
 ·exact ⟨rfl,h h' tk (by simpa using dd) kk⟩
end
section
variable {C:MC} {k:Nat} {X:Cx} {φ:List Addr} {H:Hp} {pins:List (Addr×Obj)} {σ:St} {s:Shared}
def jP:List PV->Option (List (PV×PV))
 | []=>some []
 | .tup [y,v] :: r=>if y.isKt=true then (jP r).map ((y,v) :: ·) else none
 | _=>none
def zD (kvs more:List (PV×PV)):List (PV×PV):=more.foldl (fun acc kv=>iK acc kv.1 kv.2) kvs
theorem xC {h h':Heap} (kp:∀ b u,h.get? b=some u->h'.get? b=some u) (a:Addr) (x:Array Value):IsTup h a x->IsTup h' a x:=fun ⟨o,e,r⟩=>⟨o,kp _ _ e,r⟩
theorem tO (I:Inv X pins σ H s) (hK:X.K=C.K):∀ {ps:List PV} {rs:List (PV×PV)} {vs:List V} {us:List Value},jP ps=some rs->RVs C φ H ps vs->aL vs us->
  ∃ qs:List (Addr×PV×Addr×Value),us=qs.map (fun q=>c0 q.1)/\(∀ h',(∀ b u,s.heap.get? b=some u->h'.get? b=some u)->∀ q∈qs,(qC X.prog X.w).is h' q.2.1 q.2.2.1/\IsTup h' q.1 #[.ref q.2.2.1,q.2.2.2])/\
   ∀ {kvs:List (PV×PV)} {ks:List (PV×Addr×V)} {xs:List (PV×Addr×Value)},RKd C φ H kvs ks->pB ks xs->∃ ks',RKd C φ H (zD kvs rs) ks'/\pB ks' (Bg xs qs)
 | [],rs,[],us,e,_,ru=>by
  cases ru
  cases e
  exact ⟨[],rfl,(fun _ _ _ h=>nomatch h),fun r rx=>⟨_,r,rx⟩⟩
 | p :: ps,rs,v :: vs,us,e,r,ru=>by
  cases ru with
  | @cons _ u _ us' h t=>
   cases p with
   | tup xs=>
    match xs,e with
    | [y,z],e=>
     unfold jP at e;split at e
     ·rename_i hk;cases e2:jP ps with
      | none=>rw [e2] at e; cases e
      | some rs'=>
       rw [e2] at e;cases e
       obtain ⟨qs,rfl,a1,a2⟩:=tO I hK e2 r.2 t;obtain ⟨b,bs,rfl,sq,rb⟩:=r.1;cases h
       obtain ⟨yv,zv,rfl,ry,rz⟩:=rb.two;rw [<- hK] at sq;obtain ⟨its,rits,pt,_⟩:=I.tuple sq;obtain ⟨yu,zu,rfl,ryu,rzu⟩:=vals2 rits;obtain ⟨c,rfl⟩:=nJ hk ry;cases ryu
       have hki:=Ba I hK hk ry;refine ⟨(b,y,c,zu) :: qs,rfl,?_,fun {kvs ks xs} r' rx'=>?_⟩
       ·intro h' kp q hq;rcases bw.mp hq with rfl | hq
        ·exact ⟨⟨hki.1,HR.keep (xC kp) hki.2⟩,xC kp _ _ pt⟩
        ·exact a1 h' kp q hq
       ·obtain ⟨ks',r1,r2⟩:=HD.put (a:=b) r' rx' (rQ hk) ry rz rzu;exact a2 r1 r2
     ·cases e
    | [],e=>cases e
    | [_],e=>cases e
    | _ :: _ :: _ :: _,e=>cases e
   | _=>cases e
 | [],_,_ :: _,_,_,r,_=>r.elim
 | _ :: _,_,[],_,_,r,_=>r.elim
def pE:List PV->PH->Rs PV:=fun xs h=>match xs with
 | [.ref n]=>match h[n]? with
  | some (.lst ps)=>match jP ps with
   | some rs=>.ok (.ref h.length) (h++[.dD (zD [] rs)])
   | none=>.bad
  | _=>Ep xs h
 | _=>Ep xs h
theorem xD {K:Type} [DecidableEq K]:∀ (ps:List (Addr×K×Addr×Value)) (xs:List (K×Addr×Value)),(Bg xs ps).length<=xs.length+ps.length
 | [],xs=>bj _
 | p :: ps,xs=>by
  have:=xD ps (storedH xs p.2.1 p.2.2.1 p.2.2.2);have h2:=qK xs p.2.1 p.2.2.1 p.2.2.2
  show (Bg (storedH xs p.2.1 p.2.2.1 p.2.2.2) ps).length<=_
  rw [cx];omega
theorem L':sN C k X (.type "dict") pE:=fun c pins s σ H xs us Q I r h=>by
 obtain ⟨φ,h,ps,rh,rv,po⟩:=h;unfold pE at po;split at po
 ·rename_i n;split at po
  ·rename_i ls hk;split at po
   ·rename_i rs e;obtain ⟨v,rfl,rx⟩:=rv.one;obtain ⟨a,rfl,ha⟩:=rx;obtain ⟨u,rfl,ru⟩:=vals1 r;cases ru
    obtain ⟨vs,hH,rvs⟩:=rh.at' n a _ ha hk;obtain ⟨hz,its,m,rits,hl,hx⟩:=I.lstM hH;obtain ⟨qs,rfl,a1,a2⟩:=tO I c.K e rvs rits;have hq:qs.length<=az:=by
     rw [aj] at hl;omega
    have rm:(qC X.prog X.w).room X.A.in1.in1:=by
     have:=c.hu64
     show X.A.units+1+1+6 < cLine
     omega
    refine rA (knd:=qC X.prog X.w) (I.ok.hd c.calm) rm hx rfl rfl rfl a1 hq fun h' tk dd kk=>?_;obtain ⟨ks',r1,r2⟩:=a2 (.nil:RKd C φ H [] []) (.nil:pB [] []);have fr:H s.heap.objs.size=none:=I.fresh;obtain ⟨o,es,ep,hq1,h2,h3,h4,h5',h5⟩:=dd;have hl2:ks'.length<=az:=by
     have e1:=fc r2;have e2:=xD qs ([]:List (PV×Addr×Value));simp at e2;omega
    refine ⟨.ref s.heap.objs.size,_,I.laid (a:=s.heap.objs.size) (o:=dDO C.w s.heap.objs.size ks') (t':=tk) kk (bj _) ⟨⟨hl2,beq_eq_false_iff_ne.mpr (ko (bu I.big)),_,r2,o,es,ep,hq1,h2,h3,?_,h5⟩,⟨o,hq1⟩,?_⟩,rfl,?_⟩
    ·rw [h4,<- c.w]; rfl
    ·rintro g1 g2 ⟨z1,z2,ws,z3,o',es',ep',z4,z5⟩ keep;exact ⟨z1,z2,ws,z3,o',es',ep',keep _ z4,z5⟩
    ·exact po (φ++[s.heap.objs.size]) (.ref _) _ (dn _ _) (Kp.new fr) (rh.new fr ⟨_,aW,RKd.mono (dn _ _) (Kp.new fr) r1⟩) ⟨_,rfl,by rw [<- rh.len]; simp⟩
   ·exact po.elim
  ·exact HP c pins s σ H xs us Q I r ⟨φ,h,_,rh,rv,po⟩
 ·exact HP c pins s σ H xs us Q I r ⟨φ,h,_,rh,rv,po⟩
end
end L2
namespace L2
open PySem PySem.Spec PyProof.Rows PySem.SeqAt
open PySem.AutoSeq1 (wpAny_loadPart')
open PySem.MeetsSeq PySem.MeetsSeq2 PySem.MeetsSeq3
def R4 (A:Around) (s:Shared) (v u:Value) (b:Bool):Prop:=∀ (prog:Program) (w:World) (E:Value->Shared->Prop) (Q:Value->Shared->Prop),Q (.bool (!b)) s->wpAny (model prog w) A (richCompare .GtE v u) Q E s
def R5 (A:Around) (s:Shared) (v u:Value) (d e:D):Prop:=EqAt A s v u (eqD d e)/\(eqD d e=false->∀ b,ltD d e=some b->R4 A s v u b)
abbrev xE (A:Around) (s:Shared):List Value->List Value->List D->List D->Prop:=fun vs us ds es=>vs.length=ds.length/\us.length=es.length/\∀ (j:Nat) v u d e,vs[j]?=some v->us[j]?=some u->ds[j]?=some d->es[j]?=some e->R5 A s v u d e
theorem xE.tail {A:Around} {s:Shared} {v u:Value} {vs us:List Value} {d e:D} {ds es:List D} (h:xE A s (v :: vs) (u :: us) (d :: ds) (e :: es)):R5 A s v u d e/\xE A s vs us ds es:=
 ⟨h.2.2 0 v u d e rfl rfl rfl rfl,by have:=h.1; simpa using this,by have:=h.2.1; simpa using this,fun j v u d e h1 h2 h3 h4=>h.2.2 (j+1) v u d e (by simpa using h1) (by simpa using h2) (by simpa using h3) (by simpa using h4)⟩
theorem zE (l b:Addr) (items items2:Array Value) (n n2:Nat) (dd dd2:Option Addr) (sl sl2:Array (Option Value)) (ds es:List D) (c:Bool) (hc:fV ds es=some c):
  Meets (Builtin.«tuple.__ge__» ⟨[.ref l,.ref b],[]⟩)
   (fun A R s=>s.heap.get? l=some { cls:=.type "tuple",dict:=dd,data:=.seq items n,slots:=sl }/\s.heap.get? b=some { cls:=.type "tuple",dict:=dd2,data:=.seq items2 n2,slots:=sl2 }/\
    xE A.in1 s items.toList items2.toList ds es/\R (.ok (.ret (.bool (!c)))) s):=
 .of_wp fun prog w A R s h=>by
  obtain ⟨hp,g,d,tk,os⟩:=s; obtain ⟨hl,hb,hit,h⟩:=h;have f2:=AutoSeq1.sub_tuple_tuple;have z1:items.size=ds.length:=by rw [<- hit.1]; simp
  have z2:items2.size=es.length:=by rw [<- hit.2.1]; simp
  wp_walk using kj hl,kj hb,wpAny_forIn_list _ (fun rest b s'=>b.1=none/\s'=⟨hp,g,d,tk,os⟩/\∃ (vs ws:List Value) (ns' ms':List D),rest=vs.zip ws/\
   xE A.in1 ⟨hp,g,d,tk,os⟩ vs ws ns' ms'/\ns'.length+items2.size=ms'.length+items.size/\fV ns' ms'=some c) _
  case turn=>
   rintro ⟨y,x⟩ rest b s' ⟨hb',rfl,vs,ws,ns',ms',hz,hvi,hlen,hR⟩;cases vs with
   | nil=>rw [List.zip_nil_left] at hz; cases hz
   | cons v vs=>
    cases ws with
    | nil=>rw [List.zip_nil_right] at hz; cases hz
    | cons u ws=>
     rw [j1] at hz;injection hz with hyx hrest;injection hyx with hy hx;subst hy hx;cases ns' with
     | nil=>have:=hvi.1; simp at this
     | cons a ns'=>
      cases ms' with
      | nil=>have:=hvi.2.1; simp at this
      | cons e ms'=>
       obtain ⟨⟨h1,h2⟩,ht⟩:=xE.tail hvi;simp only [cx] at hlen;simp only [fV] at hR;refine aa (h1 prog w _ _ ?_);cases q:eqD a e with
       | true=>
        rw [q,if_pos rfl] at hR
        wp_walk
        exact ⟨rfl,rfl,_,_,_,_,hrest,ht,by omega,hR⟩
       | false=>
        rw [q,if_neg bx] at hR;have hri:=h2 q c hR prog w
        wp_walk using hri
        exact ⟨_,rfl,by simpa using h⟩
  case fin=>
   rintro ⟨b1,b2⟩ s' ⟨hb',rfl,vs,ws,ns',ms',hz,hvi,hlen,hR⟩;simp only at hb';subst hb';have hv:c=decide (items.size < items2.size):=by
    cases ns' with
    | nil=>
     cases ms' with
     | nil=>
      simp only [kc] at hlen;simp only [fV] at hR;cases hR
      exact (decide_eq_false (by omega)).symm
     | cons e ms'=>
      simp only [kc,cx] at hlen;simp only [fV] at hR;cases hR
      exact (decide_eq_true (by omega)).symm
    | cons a ns'=>
     cases ms' with
     | nil=>
      simp only [kc,cx] at hlen;simp only [fV] at hR;cases hR
      exact (decide_eq_false (by omega)).symm
     | cons e ms'=>
      exfalso;cases vs with
      | nil=>have:=hvi.1; simp at this
      | cons v vs=>
       cases ws with
       | nil=>have:=hvi.2.1; simp at this
       | cons u ws=>rw [j1] at hz; cases hz
   have e9:(!decide (items.size < items2.size))=decide (items2.size<=items.size):=by rw [d3]; simp
   rw [hv,e9] at h
   wp_walk
   exact ⟨_,rfl,by simpa [Builtin.Tuple.tupleCompareSizes] using h⟩
  case h=>
   exact ⟨rfl,rfl,items.toList,items2.toList,ds,es,rfl,hit,by omega,hc⟩
section
variable {X:Cx} {pins:List (Addr×Obj)} {σ:St} {H:Hp} {s:Shared}
theorem Te (I:Inv X pins σ H s):∀ (n:Nat) (d e:D) (A:Around) (x y:V) (v u:Value) (b:Bool),d.depth<=n->A.units+n < cLine->Rep X.K H d x->Rep X.K H e y->RelV x v->RelV y u->ltD d e=some b->R4 A s v u b:=by
 intro n
 induction n with
 | zero=>
  intro d e A x y v u b hd hu hx hy rx ry hb;cases d with
  | tup ds=>exact absurd hd (by show ¬ D.depths ds+1<=0; omega)
  | int i=>
   cases e with
   | int j=>
    cases hx; cases hy;obtain ⟨t,rfl⟩:=rx;obtain ⟨t',rfl⟩:=ry;simp only [ltD] at hb;cases hb
    exact fun prog w E Q q=>(PyProof.Rows.ge_int (by have e9:(!decide (i < j))=decide (j<=i):=(by rw [d3]; simp); rw [e9] at q; exact q):wpAny (model prog w) A (dt .GtE _ _) Q E s)
   | _=>simp [ltD] at hb
  | str i=>
   cases e with
   | str j=>
    cases hx; cases hy;obtain ⟨t,rfl⟩:=rx;obtain ⟨t',rfl⟩:=ry;simp only [ltD] at hb;cases hb
    exact fun prog w E Q q=>(PySem.P.ge_str q:wpAny (model prog w) A (dt .GtE _ _) Q E s)
   | _=>simp [ltD] at hb
  | _=>cases e <;> simp [ltD] at hb
 | succ n ih=>
  intro d e A x y v u b hd hu hx hy rx ry hb
  by_cases h0:d.depth<=n
  ·exact ih d e A x y v u b h0 (by omega) hx hy rx ry hb
  ·cases d with
   | tup ds=>
    cases e with
    | tup es=>
     have hds:D.depths ds<=n:=by have:D.depths ds+1<=n+1:=hd; omega
     obtain ⟨a,vs,rfl,q,r⟩:=hx;cases rx
     obtain ⟨its,rv,p,_⟩:=I.tuple q;obtain ⟨a',vs',rfl,q',r'⟩:=hy;cases ry
     obtain ⟨its',rv',p',_⟩:=I.tuple q';have hb':fV ds es=some b:=by simpa [ltD] using hb
     obtain ⟨⟨cls,dd,data,sl⟩,ho,hc,m,hdt⟩:=id p;obtain ⟨⟨cls2,dd2,data2,sl2⟩,ho2,hc2,m2,hd2⟩:=id p';simp only at hc hdt hc2 hd2;subst hc hdt hc2 hd2;intro prog w E Q hq;refine richCompare_meets_room (op:=.GtE) ⟨_,ho,rfl⟩ ⟨_,ho2,rfl⟩ PySem.F.slot_tuple_ge PySem.F.entry_tuple_ge (PySem.F.args_tuple_ge_2 _ _) (zE a a' its.toArray its'.toArray m m2 dd dd2 sl sl2 ds es b hb')
      ⟨ho,ho2,⟨?_,?_,?_⟩,show Value.bool (!b)≠Value.notImplemented/\Q (.bool (!b)) s from ⟨(fun x=>nomatch x),hq⟩⟩ (by omega)
     ·have l1:=r.length;have l3:=rv.length
      show its.length=ds.length
      omega
     ·have l1:=r'.length;have l3:=rv'.length
      show its'.length=es.length
      omega
     ·intro j v u d e h1 h2 h3 h4;obtain ⟨xv,hxv,hrx⟩:=r.at h3;obtain ⟨yv,hyv,hry⟩:=r'.at h4;obtain ⟨xu,hxu,hru⟩:=rv.get hxv;obtain ⟨yu,hyu,hru'⟩:=rv'.get hyv;have e1:v=xu:=by
       have:its[j]?=some v:=h1;rw [hxu] at this;exact (b8 this).symm
      have e2:u=yu:=by
       have:its'[j]?=some u:=h2;rw [hyu] at this;exact (b8 this).symm
      subst e1 e2;have hdj:=D.depths_le h3;refine ⟨GX I (n:=n) (by omega) ?_ hrx hry hru hru',fun _ b hb=>ih d e _ xv yv v u b (by omega) ?_ hrx hry hru hru' hb⟩
      all_goals (show A.units+1+n < cLine; omega)
    | _=>simp [ltD] at hb
   | _=>exact absurd (dv n) h0
end
section
variable {C:MC} {k:Nat} {X:Cx}
def Bj:PV->PV->PH->Rs PV:=fun x y h=>match x,y with
 | .tup xs,.tup ys=>ofB ((D4 (.tup xs) (.tup ys)).map (!·)) h
 | x,y=>vGe x y h
theorem Os (hu:X.A.units+64 < cLine) (K:ag) (hK:X.K=K):OpR X (dt .GtE) (fun x y H Q=>∃ d e b,Rep K H d x/\Rep K H e y/\d.depth<=40/\ltD d e=some b/\Q (.bl (!b)) H):=by
 subst hK;intro pins s σ H x y v u Q I rx ry h;obtain ⟨d,e,b,hx,hy,hd,hb,q⟩:=h;exact Te I 40 d e X.A x y v u b hd (by omega) hx hy rx ry hb X.prog X.w X.xe _ ⟨.bl _,H,I,rfl,q⟩
theorem R6:OpS C k X (dt .GtE) Bj:=fun c=>((Os c.hu64 C.K c.K).or (SL c)).imp fun x y H Q h=>by
 obtain ⟨φ,h,p,q,rh,rx,ry,po⟩:=h;unfold Bj at po;split at po
 ·obtain ⟨b,e,po⟩:=po.ofB;obtain ⟨b',e0,rfl⟩:=b6.mp e;clear e;have e:=e0;clear e0;unfold D4 at e;split at e
  ·rename_i d e' h1 h2;split at e
   ·rename_i hd;exact .inl ⟨d,e',b',rx.rep h1,ry.rep h2,hd,e,po.val rh rfl⟩
   ·cases e
  ·cases e
 ·exact .inr ⟨φ,h,p,q,rh,rx,ry,po⟩
variable {h:PH}
@[simp] theorem R7 {i j:Int}:Bj (.int i) (.int j) h=.ok (.bl (decide (j<=i))) h:=(rfl)
@[simp] theorem R8 {i j:Str}:Bj (.str i) (.str j) h=.ok (.bl (!decide (i.cps.toList < j.cps.toList))) h:=(rfl)
theorem La {xs ys:List PV} {b:Bool} (hx:(PV.tup xs).pl 40=true) (hy:(PV.tup ys).pl 40=true) (e:ltL (ltP 39) xs ys=some b):Bj (.tup xs) (.tup ys) h=.ok (.bl (!b)) h:=by
 obtain ⟨d,h1,h2⟩:=gF 40 _ hx;obtain ⟨d',h3,h4⟩:=gF 40 _ hy;have:=Em 40 _ _ d d' hx hy h1 h3;have e':ltP 40 (.tup xs) (.tup ys)=some b:=e;unfold Bj D4;simp only [h1,h3,h2,if_true,this,e'];rfl
end
end L2
namespace L2
open PySem PySem.Spec PyProof.Rows
section
variable {C:MC} {k:Nat} {X:Cx} {ke ve:Expr} {mk mv:Me} {pos:Pos}
def putD (x y:PV) (n:Nat) (h:PH):Rs PV:=if x.isKt=true then (match bU h n with
 | some kvs=>if kvs.length < az then .ok (.ref n) (h.set n (.dD (iK kvs x y))) else .bad
 | none=>.bad) else .bad
def Ot (mk mv:Me):Me:=fun δ h=>(mk δ (h++[.dK []])).bind fun x h2=>(mv δ h2).bind fun y h3=>putD x y h.length h3
end
section
theorem Lb {h:PH} {n:Nat} {kvs:List (PV×PV)} {xs:List PV} {z:PV} (e:bU h n=some kvs) (hk:(PV.tup xs).ky 6=true) (hl:kvs.length < 16777216):qJ (.ref n) (.tup xs) z h=some (h.set n (.dD (iK kvs (.tup xs) z))):=by
 show D6 (.ref n) (.tup xs) z h=_
 exact Ol e hk hl
@[simp] theorem PD {mk mv:Me} {δ:Ev} {h:PH}:Ot mk mv δ h=(mk δ (h++[.dK []])).bind fun x h2=>(mv δ h2).bind fun y h3=>putD x y h.length h3:=(rfl)
end
def R9:HO->Prop
 | .tup _=>False
 | .own _=>False
 | .tbl _=>False
 | _=>True
def pF:MO->Option (List PV)
 | .dK kvs=>some (kvs.map fun kv=>.tup [kP kv.1,kv.2])
 | .dD kvs=>some (kvs.map fun kv=>.tup [kv.1,kv.2])
 | _=>none
def R':MO->Option (List PV)
 | .dK kvs=>some (kvs.map fun kv=>kP kv.1)
 | .dD kvs=>some (kvs.map (·.1))
 | _=>none
def Ip:Option MO->Bool
 | some (.dK _)=>true
 | some (.dD _)=>true
 | _=>false
section
variable {C:MC} {k:Nat} {X:Cx} {pins:List (Addr×Obj)} {σ:St} {H:Hp} {s:Shared} {φ:List Addr}
theorem Ou {k:Key} {v:Value} (h:rT k v=true):RelV (kV k) v:=by
 rcases bJ h with ⟨i,t,rfl,rfl⟩ | ⟨x,t,rfl,rfl⟩
 ·exact ⟨t,rfl⟩
 ·exact ⟨t,rfl⟩
theorem pG {α β:Type} {F:α->β->Prop}:∀ {l:List α} {m:List β},Paired F l m->∀ {i:Nat} {a:α},l[i]?=some a->∃ b,m[i]?=some b/\F a b
 | _,_,.nil,i,a,e=>by simp at e
 | _,_,.cons (a:=x) (b:=y) r t,0,a,e=>by
  have:x=a:=by simpa using e
  subst this;exact ⟨y,rfl,r⟩
 | _,_,.cons r t,i+1,a,e=>by
  obtain ⟨b,h1,h2⟩:=pG t (i:=i) (a:=a) (by simpa using e)
  exact ⟨b,by simpa using h1,h2⟩
theorem mE {α β:Type} {F:α->β->Prop}:∀ {l:List α} {m:List β},Paired F l m->∀ {i:Nat} {b:β},m[i]?=some b->∃ a,l[i]?=some a/\F a b
 | _,_,.nil,i,a,e=>by simp at e
 | _,_,.cons (a:=x) (b:=y) r t,0,b,e=>by
  have:y=b:=by simpa using e
  subst this;exact ⟨x,rfl,r⟩
 | _,_,.cons r t,i+1,b,e=>by
  obtain ⟨a,h1,h2⟩:=mE t (i:=i) (b:=b) (by simpa using e)
  exact ⟨a,by simpa using h1,h2⟩
theorem Ez (a:Key):RV C φ H (kP a) (kV a):=by cases a <;> rfl
theorem Iq {kvs:List (Key×PV)} {ks:List (Key×V)} (rk:RKv C φ H kvs ks):RVs C φ H (kvs.map fun kv=>kP kv.1) ((ks.map fun q=>(kV q.1,q.2)).map (·.1)):=by
 unfold RKv at rk
 induction rk with
 | nil=>trivial
 | @cons p q ps qs e t ih=>exact ⟨by show RV C φ H (kP p.1) (kV q.1); rw [e.1]; exact Ez q.1,ih⟩
theorem Ir {kvs:List (PV×PV)} {ks:List (PV×Addr×V)} (rk:RKd C φ H kvs ks):RVs C φ H (kvs.map (·.1)) ((ks.map fun q=>(V.ref q.2.1,q.2.2)).map (·.1)):=by
 unfold RKd at rk
 induction rk with
 | nil=>trivial
 | @cons p q ps qs e t ih=>exact ⟨e.2.2.1,ih⟩
structure Tf (C:MC) (φ:List Addr) (H:Hp) (s:Shared) (b:Addr) (o:MO) (ks:List (V×V)) (u:HO) (oc:Obj) (es:Array k9) (ep:Nat):Prop where
 at':H b=some u
 nf:R9 u
 nz:∀ o z,u≠.frz o z
 nt:AN (some u)
 get:s.heap.get? b=some oc
 cls:oc.cls=.type "dict"
 data:oc.data=.dict es ep
 nsys:(b == jg)=false
 fz:∀ φ' H',φ<+:φ'->H' b=some (.frz oc u)->Kp H H'->RO C φ' H' b (.fz o)
 len:ks.length=es.size
 ent:∀ (i:Nat) (hi:i < es.size),∃ kv,ks[i]?=some kv/\RelV kv.1 es[i].key/\RelV kv.2 es[i].val
 keys:∀ xs,R' o=some xs->RVs C φ H xs (ks.map (·.1))
 items:∀ xs,pF o=some xs->xs.length=ks.length/\∀ (i:Nat) p,xs[i]?=some p->∃ p1 p2 kv,p=.tup [p1,p2]/\ks[i]?=some kv/\RV C φ H p1 kv.1/\RV C φ H p2 kv.2
theorem N1 {h:PH} {d:Nat} {b:Addr} {o:MO} (c:Cxt C k X) (I:Inv X pins σ H s) (rh:RH C φ H h) (hb:φ[d]?=some b) (ho:h[d]?=some o) (hd:Ip (some o)=true):∃ ks u oc es ep,Tf C φ H s b o ks u oc es ep:=by
 cases o with
 | dK kvs=>
  obtain ⟨ks,hH,rk⟩:=rh.at' d b _ hb ho;obtain ⟨z,hm,vs,rel,dd⟩:=E3 I.hok hH;obtain ⟨oc,es,ep,g1,g2,g3,g4,g5,g6⟩:=dd;have l1:ks.length=vs.length:=fc rel;have l2:es.size=vs.length:=by have:=D9 g5; have:=congrArg List.length this; simpa using this
  refine ⟨ks.map fun q=>(kV q.1,q.2),_,oc,es,ep,hH,trivial,(fun _ _ e=>by cases e),trivial,g1,g2.1,g3,hm,fun φ' H' p e t=>⟨oc,ks,e,rk.mono p t⟩,by rw [aj,l1,l2],fun i hi=>?_,fun xs hx=>?_,fun xs hx=>?_⟩
  ·have hv:vs[i]?=some (vs[i]'(by omega)):=by simp [show i < vs.length by omega]
   have he:es.toList[i]?=some es[i]:=by simp [hi]
   obtain ⟨q1,q2⟩:=g5.get? he hv;obtain ⟨kv,ekv,rkv⟩:=mE rel hv;refine ⟨(kV kv.1,kv.2),by rw [bf,ekv]; rfl,?_,?_⟩
   ·show RelV (kV kv.1) es[i].key
    rw [rkv.1];exact Ou q1
   ·show RelV kv.2 es[i].val
    rw [q2];exact rkv.2
  ·cases hx
   exact Iq rk
  ·cases hx
   have lk:kvs.length=ks.length:=fc rk;refine ⟨by rw [aj,aj,lk],fun i p e=>?_⟩;rw [bf] at e;obtain ⟨kv,e1,rfl⟩:=b6.mp e;obtain ⟨q,e2,r2⟩:=pG rk e1;exact ⟨_,_,(kV q.1,q.2),rfl,by rw [bf,e2]; rfl,by show RV C φ H (kP kv.1) (kV q.1); rw [r2.1]; exact Ez q.1,r2.2⟩
 | dD kvs=>
  obtain ⟨ks,hH,rk⟩:=rh.at' d b _ hb ho;have hO:cI X.prog X.w H s.heap b (dDO C.w b ks):=I.hok b _ hH;obtain ⟨⟨hz,hm,xs,rx,oc,es,ep,g1,g2,g3,g4,g5⟩,_⟩:=hO;have l1:ks.length=xs.length:=fc rx;have l2:es.size=xs.length:=by have:=congrArg List.length g4; simpa using this
  refine ⟨ks.map fun q=>(V.ref q.2.1,q.2.2),_,oc,es,ep,hH,trivial,(fun _ _ e=>by cases e),trivial,g1,g2.1,g3,hm,fun φ' H' p e t=>⟨oc,ks,e,rk.mono p t⟩,by rw [aj,l1,l2],fun i hi=>?_,fun xs hx=>?_,fun xs hx=>?_⟩
  ·have hv:xs[i]?=some (xs[i]'(by omega)):=by simp [show i < xs.length by omega]
   have he:es.toList[i]?=some es[i]:=by simp [hi]
   rw [g4,bf,hv] at he;have he':=b8 he;obtain ⟨kv,ekv,rkv⟩:=mE rx hv;refine ⟨(V.ref kv.2.1,kv.2.2),by rw [bf,ekv]; rfl,?_,?_⟩
   ·show RelV (V.ref kv.2.1) es[i].key
    rw [<- he',rkv.2.1];rfl
   ·show RelV kv.2.2 es[i].val
    rw [<- he'];exact rkv.2.2
  ·cases hx
   exact Ir rk
  ·cases hx
   have lk:kvs.length=ks.length:=fc rk;refine ⟨by rw [aj,aj,lk],fun i p e=>?_⟩;rw [bf] at e;obtain ⟨kv,e1,rfl⟩:=b6.mp e;obtain ⟨q,e2,r2⟩:=pG rk e1;exact ⟨_,_,(V.ref q.2.1,q.2.2),rfl,by rw [bf,e2]; rfl,r2.2.2.1,r2.2.2.2⟩
 | _=>cases hd
theorem FG {o:MO} {xs:List PV} (h:pF o=some xs):Ip (some o)=true:=by cases o <;> first | rfl | cases h
def kG:PV->List PV->PH->Rs PV:=fun x ps h=>match x,ps with
 | .ref n,[]=>if Ip h[n]?=true then .ok (.ref h.length) (h++[.vw 0 n]) else .bad
 | _,_=>.bad
theorem Iu:MtG C k X "dict" lA "dict.items" kG:=fun c=>⟨fun pins s σ H x xs v us Q I rx rs h=>by
 obtain ⟨φ,h,p,ps,rh,rp,rps,po⟩:=h;unfold kG at po;split at po
 ·rename_i n;split at po
  ·rename_i hd;obtain ⟨a,rfl,ha⟩:=rp;have:xs=[]:=by cases xs <;> first | rfl | exact rps.elim
   subst this;cases rx
   cases rs
   cases ho:h[n]? with
   | none=>rw [ho] at hd; cases hd
   | some o=>
    rw [ho] at hd;obtain ⟨ks,u,oc,es,ep,W⟩:=N1 c I rh ha ho hd;have hT:s.TypeIs (.ref a) "dict" := ⟨oc,W.get,W.cls⟩;refine call_meetsIn PySem.F.slot_dict_items hT PySem.F.entry_dict_items (PySem.F.args_dict_items_1 _) (AS a W.nsys) ⟨hT,?_⟩;have fr:H s.heap.objs.size=none:=I.fresh;refine ⟨.ref s.heap.objs.size,_,I.laid (t':=s.toks) (o:=Ha 0 s.heap.objs.size a) (fun b u e=>ab _ e) (bj _) ?_,rfl,?_⟩
    ·exact ⟨⟨_,ax _ rfl,rfl,rfl⟩,⟨_,ax _ rfl⟩,fun h1 h2 ⟨o,e,p⟩ k=>⟨o,k o e,p⟩⟩
    ·exact po (φ++[s.heap.objs.size]) (.ref _) _ (dn _ _) (Kp.new fr) (rh.new fr ⟨a,fZ (dn _ _) ha,aW⟩) ⟨_,rfl,by rw [<- rh.len]; simp⟩
  ·exact po.elim
 ·exact po.elim,Bc c⟩
end
section
variable {h h1:PH} {δ:Ev}
theorem Dh {n:Nat} {o:MO} (e:h[n]?=some o) (hd:Ip (some o)=true):kG (.ref n) [] h=.ok (.ref h.length) (h++[.vw 0 n]):=by
 simp only [kG,e,hd,if_true]
end
end L2
namespace L2
open PySem PySem.Spec PyProof.Rows PySem.SeqAt PySem.W
def hdk:PV->Option Nat
 | .tup (.int _ :: _)=>some 0
 | .tup (.str _ :: _)=>some 1
 | .tup (.tup _ :: _)=>some 2
 | _=>none
def ltV (x y:PV):Bool:=match x.d,y.d with
 | some d,some e=>ltD d e == some true
 | _,_=>false
structure OkV (b:Bool) (ks:List PV):Prop where
 dat:∀ x∈ks,∃ xs ds,x=.tup xs/\PV.ds xs=some ds/\D.depths ds<=40
 hd:∃ t,((t == 2)=!b)/\t<=2/\∀ x∈ks,hdk x=some t
 can:∀ x∈ks,∀ y∈ks,∃ d e c,x.d=some d/\y.d=some e/\ltD d e=some c
 tr:∀ x∈ks,∀ y∈ks,∀ z∈ks,ltV y x=false->ltV z y=false->ltV z x=false
 as:∀ x∈ks,∀ y∈ks,ltV x y=true->ltV y x=false
 tot:∀ x∈ks,∀ y∈ks,ltV x y=false->ltV y x=false->x=y
end L2
namespace L2
open PySem PySem.Spec PyProof.Rows
def Its (x:Str):It:=⟨fun i _=>i < x.cps.size,fun i H v H'=>H'=H/\∃ c,x.cps[i]?=some c/\v=V.str ⟨#[c]⟩,fun i _=>x.cps.size<=i⟩
theorem Iv {P:Program} {w:World} {K:ag} {tg:Expr} (x:Str) (t:Tok) (it:Addr):Turn P w K tg (Its x) [it] it (fun i h=>h.IsStrIter it "str_ascii_iterator" x t i) where
 mem:=by simp
 obj:=fun i h st b hb=>by
  have e:b=it:=by simpa using hb
  subst e;obtain ⟨o,e,c,d⟩:=st;exact ⟨o,e,fun v z=>by rw [d] at z; cases z⟩
 keep:=fun i h h' ⟨o,e,r⟩ k=>⟨o,k it (by simp) o e,r⟩
 item:=by
  intro X hP hw hK hc i pins s σ H E I hf st hg;subst hP hw hK;obtain ⟨f0,f1,f2,f3,f4,f5⟩:=hf it (by simp);have hi:x.cps[i]?=some x.cps[i]:=Array.getElem?_eq_getElem hg;refine wpAny_pyNext_ascii_item st hi fun h' st' sb=>?_;have I1:Inv X pins σ H { s with heap:=h',toks:=s.toks+1 }:=I.turned (t':=s.toks+1) (fun b o hb e=>(sb.2 b hb).trans e) f0 f1 f3 f4 f5;obtain ⟨o,e,c,d⟩:=id st';exact ⟨_,rfl,DV (s:={ s with heap:=h',toks:=s.toks+1 }) e c d (by decide) ⟨.str ⟨#[x.cps[i]]⟩,H,I1,⟨_,rfl⟩,⟨rfl,_,hi,rfl⟩,st',fun b hb=>(hf b hb).1⟩⟩
 done:=by
  intro X hP hw hK hc i pins s σ H E I hf st hg;subst hP hw hK;obtain ⟨f0,f1,f2,f3,f4,f5⟩:=hf it (by simp);exact wpAny_pyNext_ascii_end (I.ok.hd hc) st (Array.getElem?_eq_none hg) fun h' eb=>⟨rfl,I.turned (t':=s.toks) (fun b o hb e=>eb b o hb e) f0 f1 f3 f4 f5⟩
 self:=fun _ _ _ _ _ st h=>wpAny_pyIter_striter_ascii st h
section
variable {C:MC} {k:Nat} {X:Cx}
def ofStr (x:PV) (h:PH):Rs Wk:=match x with
 | .str x=>if (x.cps.all fun c=>decide (c < 128))=true then .ok ⟨x.cps.toList.map fun c=>.str ⟨#[c]⟩,fun _=>true⟩ h else .bad
 | _=>.bad
def tP (m:Me):Mi:=fun δ h=>(m δ h).bind ofStr
theorem Ra {tg iter:Expr} {m:Me} (h:SE C k X iter m):SI C k X tg iter (tP m):=fun c=>by
 intro pins s σ H R I q;obtain ⟨φ,δ,hh,rh,re,p⟩:=q;have key:rd C m σ H fun v H1=>∃ φ1 x h1,φ<+:φ1/\Kp H H1/\RH C φ1 H1 h1/\RV C φ1 H1 x v/\dN C φ1 H1 (ofStr x h1) R:=by
  refine ⟨φ,δ,hh,rh,re,?_⟩;unfold tP at p;cases e:m δ hh with
  | ok x h1=>
   rw [e] at p;intro φ' v H' p' t' rh' rv';refine ⟨φ',x,h1,p',t',rh',rv',?_⟩
   show dN C φ' H' (ofStr x h1) R
   have p0:dN C φ H (ofStr x h1) R:=p;cases e2:ofStr x h1 with
   | ok w h2=>rw [e2] at p0; exact fun φ2 H2 J p2 t2=>p0 φ2 H2 J (p'.trans p2) (t'.trans t2)
   | exc z h2=>rw [e2] at p0; exact fun φ2 H2 p2 t2=>p0 φ2 H2 (p'.trans p2) (t'.trans t2)
   | bad=>rw [e2] at p0; exact p0
  | exc x h1=>rw [e] at p; exact p
  | bad=>rw [e] at p; exact p
 refine thn (h c pins s σ H _ I key) fun v s1 hz=>?_;obtain ⟨x,H1,I1,r1,φ1,x',h1,p1,t1,rh1,rv1,q1⟩:=hz;unfold ofStr at q1;cases x' with
 | str x'=>
  cases rv1
  obtain ⟨t,rfl⟩:=r1;dsimp only at q1;split at q1
  ·rename_i ha;refine wpAny_pyIter_ascii ha ?_;refine ⟨s1.heap.objs.size,[s1.heap.objs.size],_,_,H1,rfl,I1.kept (t':=s1.toks) fun b o e=>ab _ e,Iv x' t _,⟨_,ax _ rfl,rfl,rfl⟩,fun b hb=>?_,?_⟩
   ·have e:b=s1.heap.objs.size:=by simpa using hb
    subst e;exact I1.fpOk (bj _) (I1.hok.fresh (bj _))
   ·refine q1 φ1 H1 (Its x') av (Kp.refl H1) rh1 fun φ2 H2 h2 p2 t2 rh2 _ i=>⟨fun hi=>?_,fun hi=>by simpa [Its] using hi⟩
    have hi':i < x'.cps.size:=by simpa using hi
    refine ⟨hi',fun v H' y=>?_⟩;obtain ⟨e,c',ec,rfl⟩:=y;subst e;have:x'.cps.toList[i]?=some c':=by simpa using ec
    exact ⟨⟨.str ⟨#[c']⟩,by simp [ec],rfl⟩,Kp.refl _,rh2⟩
  ·exact q1.elim
 | _=>exact q1.elim
end
end L2
namespace L2
open PySem PySem.Spec PyProof.Rows PySem.SeqAt
structure Mk0 (K:ag) (C:Addr):Prop where
 makes:PySem.W.makesIn K C=true
 init:d5 K (.ref C) "__init__" = some (some (.builtin "object.__init__"))
 kp:cw K (.ref C)=true
def Ov (cn:Str):Me:=fun δ h=>.ok (.ref h.length) (h++[.ins cn []])
section
@[simp] theorem PF {cn:Str} {δ:Ev} {h:PH}:Ov cn δ h=.ok (.ref h.length) (h++[.ins cn []]):=(rfl)
end
end L2
namespace L2
open PySem PySem.Spec PyProof.Rows PySem.SeqAt PySem.W
open Classical in
noncomputable def xF (b:Bool) (m:Nat) (ks ys:List PV):Option (List PV):=if ks.length < 1000000/\ks.length=ys.length/\OkN m ks/\(∀ a∈ks.zip ys,∀ c∈ks.zip ys,a.1=c.1->a.2=c.2) then some ((PySem.W.katRev b (gS iz (ks.zip ys))).map (·.2)) else none
noncomputable def dP (f:Fn) (b:Bool) (kb:Nat) (ys:List PV):List PV->List PV->PH->Rs PV
 | [],ks,h=>match xF b kb ks ys with
  | some zs=>.ok (.ref h.length) (h++[.lst zs])
  | none=>.bad
 | x :: xs,ks,h=>(f [x] h).bind fun k h1=>dP f b kb ys xs (ks++[k]) h1
noncomputable def EA (f:Fn) (b:Bool) (kb:Nat) (x:PV) (h:PH):Rs PV:=match I0 x h with
 | some ys=>if ys.length < 1000000 then dP f b kb ys ys [] h else .bad
 | none=>.bad
noncomputable def Lc (f:Fn) (b:Bool) (kb:Nat) (me:Me):Me:=fun δ h=>(me δ h).bind fun x h1=>EA f b kb x h1
section
variable {C:MC} {k:Nat} {X:Cx}
def Iw (C:MC) (X:Cx) (pins:List (Addr×Obj)) (σ:St) (φ:List Addr) (H:Hp) (f:Fn) (b:Bool) (kb:Nat) (ys:List PV) (Q:VK) (a z:Addr) (kS:Addr) (e1:Nat) (ks:List Value) (e:Nat) (s':Shared):Prop:=
 z < kS/\∃ H' φ' h' zs ps,Inv X (pins++[(kS,seqObj "list" ks.toArray e),(a,seqObj "list" #[] e1)]) σ H' s'/\φ<+:φ'/\Kp H H'/\RH C φ' H' h'/\aL zs ks/\RVs C φ' H' ps zs/\post C φ' H' (dP f b kb ys (ys.drop ks.length) ps h') Q
section
variable {x:Str} {st:Stmt} {q:Addr} {fd:dq} {pn:List Str} {j:Nat} {f:Fn}
theorem FH {pins:List (Addr×Obj)} {σ:St} {φ:List Addr} {H:Hp} {b:Bool} {kb:Nat} {ys:List PV} {us:List V} {its:List Value} {Q:VK} {a:Addr} (c:Cxt C k X) (D:Def C.K X.mg x st q fd pn) (G:aT X.prog X.w C.K X.mg X.base CX0 j q fd pn (spM C 1 f)) (hj:j+2<=k)
  (ry:RVs C φ H ys us) (rv:aL us its) {A':Around} (eA:A'=X.A.in1.in1) (fr:∀ kS,a<=kS->X.s₀.heap.objs.size<=kS/\kS≠X.env.locals/\(∀ x c,X.env.cells.lookup x=some c->c≠kS)/\(∀ p∈X.pn++pins,p.1≠kS)/\kS∉X.fs)
  (kS:Addr) (e1:Nat) (ks:List Value) (e:Nat) (s':Shared) (y:Value) (hy:its[ks.length]?=some y) (hJ:Iw C X pins σ φ H f b kb ys Q a a kS e1 ks e s'):
  wpAny (model X.prog X.w) A' (call (.ref q) [y]) (fun v s''=>s''.heap.get? kS=some (seqObj "list" ks.toArray e)/\∀ (h':Heap) e',ju kS s''.heap h'->h'.get? kS=some (seqObj "list" (ks++[v]).toArray e')->Iw C X pins σ φ H f b kb ys Q a a kS e1 (ks++[v]) e' { s'' with heap:=h' }) (fun _ _=>False) s':=by
 subst eA;obtain ⟨hz,H',φ',h',zs,ps,I,pp,tt,rh,rz,rp,po⟩:=hJ;have hlt:ks.length < its.length:=(ae.mp hy).1;have hlu:us.length=its.length:=rv.length;have hly:ys.length=us.length:=ry.length;have gy:ys[ks.length]?=some (ys[ks.length]'(by omega)):=by simp
 obtain ⟨u,hu,ru⟩:=ry.at gy;obtain ⟨y',hy',ryv⟩:=rv.get hu;rw [hy] at hy';cases hy'
 have hd:ys.drop ks.length=ys[ks.length]'(by omega) :: ys.drop (ks.length+1):=drop_cons gy;rw [hd] at po;have e1':=c.K;have G':aT X.prog X.w X.K X.mg X.base CX0 j q fd pn (spM C 1 f):=by rw [e1']; exact G
 have D':Def X.K X.mg x st q fd pn:=by rw [e1']; exact D
 have sp1:spM C 1 f [u] H' (fun v H2=>∃ φ2 p h2,φ'<+:φ2/\Kp H' H2/\RH C φ2 H2 h2/\RV C φ2 H2 p v/\post C φ2 H2 (dP f b kb ys (ys.drop (ks.length+1)) (ps++[p]) h2) Q) E0:=
  ⟨φ',h',[ys[ks.length]'(by omega)],rh,⟨ru.mono pp tt,trivial⟩,rfl,post.bind po⟩
 have hl:([y]:List Value).length=pn.length:=G'.len _ _ _ _ sp1;refine wpAny_call (codeAny_mono (G'.run X.A.in1.in1 X.stack s' H' ⟨[y],[]⟩ [y] [u] _ E0 ((c.room.mono hj).in1.in1) I.env0.in1.in1 (by
  have:=D'.bd s' [y] I.kIn (by simpa using hl)
  simpa using this) (.cons ryv .nil) sp1) fun r s2 hq=>?_)
 cases r with
 | error e=>exact hq.elim
 | ok fl=>
  cases fl with
  | next=>exact iw hq
  | brk=>exact iw hq
  | cont=>exact iw hq
  | ret v=>
   obtain ⟨x2,H2,I2,rx2,φ2,p2,h2,pp2,tt2,rh2,rp2,po2⟩:=I.after hq;have gk:=I2.pin (kS,seqObj "list" ks.toArray e) (ah _ (ah _ bg));have ga:=I2.pin (a,seqObj "list" #[] e1) (ah _ (ah _ (ao _ bg)));refine ⟨gk.1,fun g e' sb he'=>?_⟩;have fk:=fr kS (mf hz);have nak:a≠kS:=bu hz;have I3:Inv X (pins++[(a,seqObj "list" #[] e1)]) σ H2 s2:=I2.pins_of fun p hp=>(au.mp hp).elim (fun z=>I2.pin p (ah _ (cq _ z))) fun z=>by
    rw [dm.mp z]; exact ga
   have I4:=I3.turned (t':=s2.toks) (it:=kS) (h':=g) (fun b' o' hb hq=>(sb.2 b' hb).trans hq) gk.2.1 fk.2.1 (.inr fk.1) fk.2.2.1 (fun p hp=>by
    rcases au.mp hp with hp | hp
    ·exact fk.2.2.2.1 p (cq _ hp)
    ·rcases au.mp hp with hp | hp
     ·exact fk.2.2.2.1 p (ah _ hp)
     ·rw [dm.mp hp]; exact nak)
   refine ⟨hz,H2,φ2,h2,zs++[x2],ps++[p2],I4.pins_of fun p hp=>?_,pp.trans pp2,tt.trans tt2,rh2,rz.append (.cons rx2 .nil),(rp.mono pp2 tt2).snoc rp2,?_⟩
   ·rcases au.mp hp with hp | hp
    ·exact I4.pin p (ah _ (cq _ hp))
    ·rcases bw.mp hp with rfl | hp
     ·exact ⟨he',gk.2.1,fk.2.1,fk.2.2.2.2,jN⟩
     ·rw [dm.mp hp];exact I4.pin _ (ah _ (ah _ bg))
   ·rw [bh];exact po2
theorem Bk {b:Bool} {kb:Nat} {kss:List PV} {ys:List PV} (hl:kss.length=ys.length) (ok:OkN kb kss) (cs:∀ a∈kss.zip ys,∀ c∈kss.zip ys,a.1=c.1->a.2=c.2) {p:List Nat} (hp:p.Perm (d6 ys.length))
  (ho:p.Pairwise (fun i j=>(if b then ltN (kss.getD i .non) (kss.getD j .non) else ltN (kss.getD j .non) (kss.getD i .non))=false)):p.map (fun i=>ys.getD i .non)=(PySem.W.katRev b (gS iz (kss.zip ys))).map (·.2):=by
 let zs:=kss.zip ys;have hzl:zs.length=ys.length:=by show (kss.zip ys).length=_; simp [hl]
 have hin:∀ i∈p,i < ys.length:=fun i hi=>by simpa using hp.mem_iff.mp hi
 have eg:∀ i,i < ys.length->zs.getD i (.non,.non)=(kss.getD i .non,ys.getD i .non):=fun i hi=>by
  have h1:i < kss.length:=by omega
  have h2:i < zs.length:=by omega
  have h3:(kss.zip ys)[i]?=some (kss[i],ys[i]):=by
   rw [j4];exact ⟨by simp [h1],by simp [hi]⟩
  show (kss.zip ys).getD i _=_
  simp [h1,hi,h3]
 have hpz:(p.map fun i=>zs.getD i (.non,.non)).Perm zs:=Fq (by rw [hzl]; exact hp);have hm:zs.map (·.1)=kss:=by
  show (kss.zip ys).map iz=kss
  exact List.map_fst_zip (by omega)
 have hsz:∀ y∈zs,y.1∈kss:=fun y hy=>by rw [<- hm]; exact cz.mpr ⟨y,hy,rfl⟩
 have inj:∀ a∈zs,∀ c∈zs,enc (iz a)=enc (iz c)->a=c:=fun a ha c hc e=>by
  have e1:=ok.inj _ (hsz a ha) _ (hsz c hc) e;exact Prod.ext e1 (cs a ha c hc e1)
 have e2:p.map (fun i=>ys.getD i .non)=(p.map fun i=>zs.getD i (.non,.non)).map (·.2):=by
  rw [km];exact List.map_congr_left fun i hi=>by show _=(zs.getD i _).2; rw [eg i (hin i hi)]
 rw [e2];have key:∀ (R:Nat->Nat->Bool),p.Pairwise (fun i j=>R i j=false)->(∀ i j,i < ys.length->j < ys.length->R i j=ltN (zs.getD j (.non,.non)).1 (zs.getD i (.non,.non)).1)->(p.map fun i=>zs.getD i (.non,.non)).Pairwise (fun x y=>ltN y.1 x.1=false):=fun R h1 h2=>by
  rw [ki];exact h1.imp_of_mem fun {i j} hi hj h=>by rw [<- h2 i j (hin i hi) (hin j hj)]; exact h
 cases b with
 | false=>
  congr 1
  refine wZ iz inj hpz (key (fun i j=>ltN (kss.getD j .non) (kss.getD i .non)) ho fun i j hi hj=>by rw [eg i hi,eg j hj])
 | true=>
  congr 1
  have hr:(p.map fun i=>zs.getD i (.non,.non)).reverse=gS iz zs:=by
   refine wZ iz inj ((gg _).trans hpz) ?_;rw [f9,ki];exact ho.imp_of_mem fun {i j} hi hj h=>by
    rw [eg i (hin i hi),eg j (hin j hj)];exact h
  show _=(gS iz zs).reverse
  rw [<- hr,List.reverse_reverse]
end
end
section
variable {α:Type}
theorem Ld {key emb:α->PV} {xs:List α} {m:Nat} (h1:xs.length < 1000000) (ok:OkN m (xs.map key)) (hc:∀ a∈xs,∀ c∈xs,key a=key c->emb a=emb c):∃ os:List α,os.Perm xs/\os.Pairwise (fun a c=>ltN (key c) (key a)=false)/\xF false m (xs.map key) (xs.map emb)=some (os.map emb):=by
 have ez:(xs.map key).zip (xs.map emb)=xs.map fun x=>(key x,emb x):=by
  induction xs with
  | nil=>rfl
  | cons x xs ih=>simp only [da,j1]; rw [ih (by simp at h1; omega) ⟨ok.m3,fun y hy=>ok.ky y (ao _ hy),fun y hy=>ok.fk y (ao _ hy),fun y hy z hz=>ok.lt y (ao _ hy) z (ao _ hz)⟩ (fun a ha c hc'=>hc a (ao _ ha) c (ao _ hc'))]
 have insm:∀ (x:α) (ys:List α),tK iz (key x,emb x) (ys.map fun y=>(key y,emb y))=(tK key x ys).map fun y=>(key y,emb y):=fun x ys=>by
  induction ys with
  | nil=>rfl
  | cons y ys ih=>
   show (if ltN (key y) (key x)=true then (key y,emb y) :: tK iz (key x,emb x) (ys.map fun y=>(key y,emb y)) else (key x,emb x) :: (key y,emb y) :: ys.map fun y=>(key y,emb y))=(if ltN (key y) (key x)=true then y :: tK key x ys else x :: y :: ys).map fun y=>(key y,emb y)
   split
   ·rw [ih]; rfl
   ·rfl
 have srt:∀ ys:List α,gS iz (ys.map fun y=>(key y,emb y))=(gS key ys).map fun y=>(key y,emb y):=fun ys=>by
  induction ys with
  | nil=>rfl
  | cons y ys ih=>
   show tK iz (key y,emb y) (gS iz (ys.map fun y=>(key y,emb y)))=_
   rw [ih,insm];rfl
 refine ⟨gS key xs,iL key xs,iM key xs,?_⟩;unfold xF;rw [if_pos ⟨by simpa using h1,by simp,ok,fun a ha c hc' e=>by
  rw [ez] at ha hc';obtain ⟨x,hx,rfl⟩:=cz.mp ha;obtain ⟨y,hy,rfl⟩:=cz.mp hc';exact hc x hx y hy e⟩,ez,srt]
 show some (((gS key xs).map fun y=>(key y,emb y)).map Prod.snd)=_
 rw [km];rfl
theorem EB {key emb:α->PV} {f:Fn} {m:Nat} {ys zs:List PV} {Q:PV->PH->Prop}:∀ (r done:List α) (h:PH),(∀ d∈r,∀ h (Q:PV->PH->Prop),(∀ h',Ext h h'->Q (key d) h')->(f [emb d] h).W Q)->
  xF false m ((done++r).map key) ys=some zs->(∀ h',Ext h h'->Q (.ref h'.length) (h'++[.lst zs]))->(dP f false m ys (r.map emb) (done.map key) h).W Q
 | [],done,h,_,hs,k=>by
  rw [dk] at hs;simp only [List.map_nil,dP,hs,jJ];exact k h (Ext.refl h)
 | x :: r,done,h,hf,hs,k=>by
  rw [da];unfold dP;rw [CZ];refine hf x bg h _ fun h1 x1=>?_;have e:done.map key++[key x]=(done++[x]).map key:=by simp
  rw [e];exact EB r (done++[x]) h1 (fun d hd=>hf d (ao _ hd)) (by rw [ai]; exact hs) fun h' x2=>k h' (x1.trans x2)
end
section
variable {δ:Ev} {h:PH} {m:Me}
@[simp] theorem Ow {f:Fn} {b:Bool} {n:Nat}:Lc f b n m δ h=(m δ h).bind fun x h1=>EA f b n x h1:=(rfl)
end
end L2
namespace L2
open PySem PySem.Spec PyProof.Rows PySem.SeqAt
open PySem.AutoSeq1 (wpAny_loadPart')
open PySem.MeetsSeq PySem.MeetsSeq2 PySem.MeetsSeq3
section
variable {C:MC} {k:Nat} {X:Cx}
def Tg:PV->PV->PH->Rs PV:=fun x y h=>match x,y with
 | .tup xs,.tup ys=>ofB (if (PV.tup xs).d.all (fun d=>decide (d.depth<=40)) then (D4 (.tup ys) (.tup xs)).map (!·) else none) h
 | x,y=>vLe x y h
variable {h:PH}
@[simp] theorem Rb {i j:Int}:Tg (.int i) (.int j) h=.ok (.bl (decide (i<=j))) h:=(rfl)
end
end L2
namespace L2
open PySem PySem.Spec PyProof.Rows PySem.SeqAt PySem.W
theorem tQ {κ β:Type} [DecidableEq κ] {k:κ} {p:β}:∀ {xs:List (κ×β)} {j:Nat},(xs.map (·.1)).Nodup->xs[j]?=some (k,p)->xs.eraseIdx j=xs.filter fun x=>decide (x.1≠k)
 | [],j,_,h=>by simp at h
 | x :: r,0,hn,h=>by
  simp only [List.getElem?_cons_zero,Option.some.injEq] at h;subst h;rw [da,i4] at hn;rw [List.eraseIdx_cons_zero,List.filter_cons];simp only [ne_eq,not_true_eq_false,decide_false,d9,if_false]
  symm
  rw [gz];intro y hy;exact decide_eq_true fun e=>hn.1 (cz.mpr ⟨y,hy,e⟩)
 | x :: r,j+1,hn,h=>by
  rw [d4] at h;rw [da,i4] at hn;have hx:¬ x.1=k:=fun e=>hn.1 (e ▸ cz.mpr ⟨(k,p),b7 h,rfl⟩);rw [List.eraseIdx_cons_succ,List.filter_cons,tQ hn.2 h];simp [hx]
theorem tR {α β:Type} (f:α->β):∀ (l:List α) (i:Nat),(l.map f).eraseIdx i=(l.eraseIdx i).map f
 | [],i=>by simp
 | x :: r,0=>rfl
 | x :: r,i+1=>by
  rw [da,List.eraseIdx_cons_succ,List.eraseIdx_cons_succ,da,tR f r i]
section
variable {prog:Program} {w:World} {A:Around} {E:Value->Shared->Prop} {s:Shared} {K:Type} [DecidableEq K] {knd:HeapKind prog w K}
theorem zF {d a:Addr} {xs:List (K×Addr×Value)} {k:K} {p:Addr×Value} {Q:Option k9->Shared->Prop} (hu:knd.room A) (hkey:knd.is s.heap k a) (hm:s.heap.DictOfH knd d xs) (hp:atKey xs k=some p) (hz:xs.length<=az)
  (h:∀ h',h'.DictOfH knd d (xs.filter fun x=>decide (x.1≠k))->ju d s.heap h'->Q (some (entryOfKey knd (k,p))) { s with heap:=h',toks:=s.toks+knd.draws k }):
  wpAny (model prog w) A (Builtin.Dict.takeOut d (.ref a)) Q E s:=by
 obtain ⟨o,es,ep,ho,hc,hd,he,his,hn⟩:=hm;unfold Builtin.Dict.takeOut
 try with_reducible refine il ?_
 refine aa (knd.pyHash hu hkey ?_);refine aa (wpAny_dictFind_heap (s:={ s with toks:=s.toks+knd.draws k }) hu hkey ho hd he his hn ?_ ?_)
 ·intro hno;rw [atKey_none_of_get hno] at hp;cases hp
 ·intro j q hj;have e1:=atKey_of_get hn hj;rw [hp] at e1;cases e1
  refine aa (m6 (s:={ s with toks:=s.toks+knd.draws k }) ho hd ?_);rw [entry_at he j,hj];refine aa (wpAny_updateDictKeys (hz:=by have e:=size_of_entries he; omega) (hf:=by
   have:(es.eraseIdxIfInBounds j).size<=es.size:=by
    obtain ⟨l⟩:=es;simp only [List.eraseIdxIfInBounds_toArray,ba];exact List.length_eraseIdx_le _ _
   exact Nat.le_succ_of_le this) (s:={ s with toks:=s.toks+knd.draws k }) ho hd (af (h _ ⟨_,_,ep+1,ig _ ho (Obj.isFreed_of_dict (Obj.data_mapDictKeys hd _)),
   hc.mapDictKeys _,Obj.data_mapDictKeys hd _,?_,?_,?_⟩ (fi ..))))
  ·rw [Array.toList_eraseIdxIfInBounds,he,<- tQ hn hj,tR]
  ·intro x hx;exact knd.keeps (his x (List.mem_filter.mp hx).1) ho hd (fi ..)
  ·exact (List.Sublist.map _ List.filter_sublist).nodup hn
theorem tS (knd:HeapKind prog w K) (d a:Addr):MeetsIn prog w (Builtin.«dict.pop» ⟨[.ref d,.ref a],[]⟩) (fun A R s=>knd.room A.in1/\∃ k xs p,knd.is s.heap k a/\s.heap.DictOfH knd d xs/\xs.length<=az/\atKey xs k=some p/\
   ∀ h',h'.DictOfH knd d (xs.filter fun x=>decide (x.1≠k))->ju d s.heap h'->R (.ok (.ret p.2)) { s with heap:=h',toks:=s.toks+knd.draws k }):=
 .of_wp fun A R s ⟨hu,k,xs,p,hkey,hm,hz,hp,r⟩=>by
  unfold Builtin.«dict.pop»;refine aa ?_;unfold Builtin.Dict.keyAndDefault;refine aa (mw hm.typeIs (show wpAny _ _ (pure (d,c0 a,none)) _ _ s from af ?_))
  have kp:(keyPart (c0 a)).isSome=false:=rfl;simp only [kp,d9,if_false];obtain ⟨o,es,ep,ho,hc,hd,he,his,hn⟩:=id hm;have ne:es.isEmpty=false:=by
   have e1:=size_of_entries he;cases xs with
   | nil=>cases hp
   | cons x t=>
    rw [cx] at e1;have:es≠#[]:=fun e=>by rw [e] at e1; cases e1
    simpa using this
  refine aa (m6 ho hd ?_);rw [ne];refine aa (af ?_);simp only [d9,if_false];refine aa (zF hu hkey hm hp hz fun h' q1 q2=>?_);simp only [Option.isNone_some,d9,if_false];exact aa (wpAny_letGo (af ⟨_,rfl,r h' q1 q2⟩))
end
section
variable {C:MC} {k:Nat} {X:Cx}
def xG:PV->List PV->PH->Rs PV:=fun x ps h=>match x,ps with
 | .ref n,[y]=>if y.isKt=true then match bU h n with
   | some kvs=>match bR kvs y with
    | some p=>.ok p (h.set n (.dD (qG kvs y)))
    | none=>.bad
   | none=>.bad
  else .bad
 | _,_=>.bad
theorem HD.drop {φ:List Addr} {H:Hp} {kvs:List (PV×PV)} {ks:List (PV×Addr×V)} {xs:List (PV×Addr×Value)} (r:RKd C φ H kvs ks) (rx:pB ks xs) (y:PV):∃ ks',RKd C φ H (qG kvs y) ks'/\pB ks' (xs.filter fun x=>decide (x.1≠y)):=by
 unfold RKd at r;unfold RKd
 induction r generalizing xs with
 | nil=>cases rx; exact ⟨[],.nil,.nil⟩
 | @cons p q ps qs h t ih=>
  cases rx with
  | @cons _ z _ zs hz tz=>
   obtain ⟨ks',i1,i2⟩:=ih tz;have eq1:p.1=q.1:=h.1;have eq2:q.1=z.1:=hz.1;unfold qG;rw [List.filter_cons,List.filter_cons]
   by_cases e:p.1=y
   ·have e':z.1=y:=by rw [<- eq2,<- eq1]; exact e
    simp only [e,e',ne_eq,not_true_eq_false,decide_false,d9,if_false];exact ⟨ks',i1,i2⟩
   ·have e':¬ z.1=y:=fun w=>e (by rw [eq1,eq2]; exact w);simp only [e,e',ne_eq,not_false_eq_true,decide_true,if_true];exact ⟨q :: ks',.cons h i1,.cons hz i2⟩
theorem Le (c:Cxt C k X):MtR X "dict.pop" (rM C xG):=fun pins s σ H x xs v us Q I rx rs h=>by
 obtain ⟨φ,h,p,ps,rh,rp,rps,po⟩:=h;unfold xG at po;split at po
 ·rename_i n y;obtain ⟨a,rfl,ha⟩:=rp;cases rx
  obtain ⟨yv,rfl,ry⟩:=rps.one;obtain ⟨yu,rfl,ryu⟩:=vals1 rs;obtain ⟨hk,po⟩:=po.ite;split at po
  ·rename_i kvs ht;obtain ⟨b,rfl⟩:=nJ hk ry;cases ryu
   obtain ⟨⟨ks,xs,r,rx',hz,hm,dd⟩,mu,nt⟩:=B' I c.K c.w rh ha ht;have hv:=HD.val (a:=a) r rx' y;cases e2:bR kvs y with
   | none=>rw [e2] at po; exact po.elim
   | some p2=>
    rw [e2] at hv po;cases e3:atKey xs y with
    | none=>rw [e3] at hv; exact hv.elim
    | some z=>
     rw [e3] at hv;obtain ⟨v',rv1,rv2⟩:=hv;refine call_meetsIn PySem.F.slot_dict_pop dd.typeIs PySem.F.entry_dict_pop (PySem.F.args_dict_pop_2 _ _) (tS (qC X.prog X.w) a b) ⟨c.room6,y,xs,z,Ba I c.K hk ry,dd,hz,e3,fun h' dd' hs=>?_⟩;obtain ⟨ks',r1,r2⟩:=HD.drop r rx' y;obtain ⟨o,es,ep,hq,h2,h3,h4,_,h5⟩:=dd';have hl2:ks'.length<=az:=by
      have e1:=fc r1;have e4:=fc r;have e5:=fc rx';have e6:(qG kvs y).length<=kvs.length:=by unfold qG; exact List.length_filter_le _ _
      omega
     refine ⟨v',upd H a (dDO C.w a ks'),rF I mu hs ⟨o,hq⟩ ⟨⟨hl2,hm,_,r2,o,es,ep,hq,h2,h3,?_,h5⟩,⟨o,hq⟩,?_⟩,rv1,?_⟩
     ·rw [h4,<- c.w]; rfl
     ·rintro g1 g2 ⟨z1,z2,ws,z3,o',es',ep',z4,z5⟩ keep;exact ⟨z1,z2,ws,z3,o',es',ep',keep _ z4,z5⟩
     ·exact po φ v' _ av (Kp.upd nt) (rh.write ha nt ⟨ks',aW,RKd.mono av (Kp.upd nt) r1⟩) (rv2.mono av (Kp.upd nt))
  ·exact po.elim
 ·exact po.elim
theorem Ox:MtG C k X "dict" lA "dict.pop" xG:=fun c=>⟨Le c,Bc c⟩
theorem Iy {h:PH} {n:Nat} {kvs:List (PV×PV)} {y p:PV} (ht:bU h n=some kvs) (hk:y.isKt=true) (e:bR kvs y=some p):xG (.ref n) [y] h=.ok p (h.set n (.dD (qG kvs y))):=by
 unfold xG;simp only [hk,if_true,ht,e]
end
end L2
namespace L2
open PySem PySem.Spec PyProof.Rows
structure ZA (z TI TO i1 i2:Addr) (f1 f2:List Addr):Prop where
 TIz:TI≠z
 TOz:TO≠z
 i1z:i1≠z
 i2z:i2≠z
 TITO:TI≠TO
 TIi1:TI≠i1
 TIi2:TI≠i2
 TOi1:TO≠i1
 TOi2:TO≠i2
 i12:i1≠i2
 a1:∀ b∈f1,b≠z/\b≠TO/\b≠i2
 a2:∀ b∈f2,b≠z/\b≠TO/\b≠i1
section
variable {prog:Program} {w:World} {A:Around} {E:Value->Shared->Prop} {s:Shared} {z TI TO i1 i2:Addr} {f1 f2:List Addr} {n1 n2:Nat} {P1 P2:Nat->Value->Prop} {S1 S2:Nat->Heap->Prop}
theorem Lg (D1:Draws prog w A i1 f1 n1 P1 S1) (D2:Draws prog w A i2 f2 n2 P2 S2) (Z:ZA z TI TO i1 i2 f1 f2) {k:Nat} {a b:Value} {Q:Value->Shared->Prop}
  (hz:IsZip s.heap z TI TO .none) (hTI:IsPair s.heap TI (.ref i1) (.ref i2)) (hTO:IsPair s.heap TO a b) (s1:S1 k s.heap) (s2:S2 k s.heap) (k1:k < n1) (k2:k < n2)
  (hQ:∀ x y h' tk,P1 k x->P2 k y->IsZip h' z TI TO (rawInt s.heap.objs.size)->IsPair h' TO x y->S1 (k+1) h'->S2 (k+1) h'->IsPair h' s.heap.objs.size x y->h'.objs.size=s.heap.objs.size+1->
   (∀ c o,c≠z->c≠TO->c≠i1->c≠i2->s.heap.get? c=some o->h'.get? c=some o)->Q (.ref s.heap.objs.size) { s with heap:=h',toks:=tk }):
  wpAny (model prog w) A (Builtin.«zip.__next__» ⟨[.ref z],[]⟩) (fun fin s'=>∃ v,fin=.done (.ret v)/\Q v s') E s:=by
 show wpAny _ _ (field (.ref z) 2 >>= _) _ _ _
 refine aa (gw hz rfl (x:=.bool false) rfl ?_)
 show wpAny _ _ (field (.ref z) 3 >>= _) _ _ _
 refine aa (gw hz rfl (x:=.ref TI) rfl ?_);refine aa (jf hTI rfl ?_)
 show wpAny _ _ (ic (.ref z) >>= _) _ _ _
 refine aa ?_;unfold ic;refine aa (gw hz rfl (x:=.none) rfl (af ?_));simp only [if_true];refine aa (lq ?_);refine aa (gw hz rfl (x:=.ref TO) rfl ?_);refine aa (j2 hz (by simp) fun h₁ hz₁ hs₁=>?_)
 replace hz₁:IsZip h₁ z TI TO .ellipsis:=hz₁
 have e1:=hs₁.extBut;have s1a:S1 k h₁:=D1.frame _ _ _ s1 fun b hb o e=>e1 b o (Z.a1 b hb).1 e;have s2a:S2 k h₁:=D2.frame _ _ _ s2 fun b hb o e=>e1 b o (Z.a2 b hb).1 e;refine aa ?_;simp only [List.zipIdx_cons,List.zipIdx_nil,List.forIn_cons,List.forIn_nil];refine aa (aa (wpAny_onRaise ?_))
 show wpAny _ _ (j5 (.ref i1) >>= _) _ _ _
 refine aa (D1.item k _ _ _ k1 s1a fun x h₂ t2 px s1b hs₂=>af ?_);have e2:=hs₂.extBut;have s2b:S2 k h₂:=D2.frame _ _ _ s2a fun b hb o e=>e2 b o (Z.a2 b hb).2.2 e;have hTO₂:IsPair h₂ TO a b:=e2 _ _ Z.TOi1 (e1 _ _ Z.TOz hTO);refine aa (jf hTO₂ rfl ?_);refine aa (wpAny_updateSeq_pair hTO₂ fun h₃ hTO₃ hs₃=>?_)
 replace hTO₃:IsPair h₃ TO x b:=hTO₃
 have e3:=hs₃.extBut;have s1c:S1 (k+1) h₃:=D1.frame _ _ _ s1b fun b hb o e=>e3 b o (Z.a1 b hb).2.1 e;have s2c:S2 k h₃:=D2.frame _ _ _ s2b fun b hb o e=>e3 b o (Z.a2 b hb).2.1 e;refine aa (wpAny_letGo (af ?_));refine aa (aa (wpAny_onRaise ?_))
 show wpAny _ _ (j5 (.ref i2) >>= _) _ _ _
 refine aa (D2.item k _ _ _ k2 s2c fun y h₄ t4 py s2d hs₄=>af ?_);have e4:=hs₄.extBut;have s1d:S1 (k+1) h₄:=D1.frame _ _ _ s1c fun b hb o e=>e4 b o (Z.a1 b hb).2.2 e;have hTO₄:IsPair h₄ TO x b:=e4 _ _ Z.TOi2 hTO₃;refine aa (jf hTO₄ rfl ?_);refine aa (wpAny_updateSeq_pair hTO₄ fun h₅ hTO₅ hs₅=>?_)
 replace hTO₅:IsPair h₅ TO x y:=hTO₅
 have e5:=hs₅.extBut;refine aa (wpAny_letGo (af (af ?_)));refine aa (jf hTO₅ rfl ?_);refine aa (wpAny_newTuple ?_);have hsz:h₅.objs.size=s.heap.objs.size:=by
  have q4:=hs₄.1; have q3:=hs₃.1; have q2:=hs₂.1; have q1:=hs₁.1;rw [hs₅.1];exact q4.trans (q3.trans (q2.trans q1))
 have hz₅:IsZip h₅ z TI TO .ellipsis:=e5 _ _ Z.TOz.symm (e4 _ _ Z.i2z.symm (e3 _ _ Z.TOz.symm (e2 _ _ Z.i1z.symm hz₁)));have hk₅:∀ c o,c≠z->c≠TO->c≠i1->c≠i2->s.heap.get? c=some o->h₅.get? c=some o:=fun c o c1 c2 c3 c4 e=>e5 _ _ c2 (e4 _ _ c4 (e3 _ _ c2 (e2 _ _ c3 (e1 _ _ c1 e))));have s1e:S1 (k+1) h₅:=D1.frame _ _ _ s1d fun b hb o e=>e5 b o (Z.a1 b hb).2.1 e;have s2e:S2 (k+1) h₅:=D2.frame _ _ _ s2d fun b hb o e=>e5 b o (Z.a2 b hb).2.1 e;have hzlt:z < h₅.objs.size:=ay hz₅
 show wpAny _ _ (m9 (.ref z) (.ref h₅.objs.size) >>= _) _ _ _
 refine aa ?_;unfold m9;have hz₆:IsZip (h₅.push { cls:=.type "tuple",data:=.seq #[x,y] }) z TI TO .ellipsis:=ab _ hz₅;refine aa (j2 hz₆ (by simp) fun h₇ hz₇ hs₇=>?_)
 replace hz₇:IsZip h₇ z TI TO (rawInt h₅.objs.size):=hz₇
 refine j2 hz₇ (by simp) fun h₈ hz₈ hs₈=>?_
 replace hz₈:IsZip h₈ z TI TO (rawInt h₅.objs.size):=hz₈
 have up:∀ c o,c≠z->h₅.get? c=some o->h₈.get? c=some o:=fun c o c1 e=>hs₈.extBut _ _ c1 (hs₇.extBut _ _ c1 (ab _ e));have hT₈:IsPair h₈ h₅.objs.size x y:=hs₈.extBut _ _ (gj hzlt) (hs₇.extBut _ _ (gj hzlt) (ax _ rfl));have hz8:h₈.objs.size=h₅.objs.size+1:=by rw [hs₈.1,hs₇.1,gb]
 rw [hsz] at hz₈ hT₈ hz8;refine af ⟨_,rfl,?_⟩
 show Q (.ref h₅.objs.size) _
 rw [hsz];exact hQ x y h₈ _ px py hz₈ (up _ _ Z.TOz hTO₅) (D1.frame _ _ _ s1e fun b hb o e=>up b o (Z.a1 b hb).1 e) (D2.frame _ _ _ s2e fun b hb o e=>up b o (Z.a2 b hb).1 e) hT₈ hz8 fun c o c1 c2 c3 c4 e=>up c o c1 (hk₅ c o c1 c2 c3 c4 e)
theorem Oy (D1:Draws prog w A i1 f1 n1 P1 S1) (D2:Draws prog w A i2 f2 n2 P2 S2) (Z:ZA z TI TO i1 i2 f1 f2) {k:Nat} {a b:Value} {Q:PySem.Fin->Shared->Prop}
  (hz:IsZip s.heap z TI TO .none) (hTI:IsPair s.heap TI (.ref i1) (.ref i2)) (hTO:IsPair s.heap TO a b) (s1:S1 k s.heap) (s2:S2 k s.heap) (hk:k=n1\/k < n1/\k=n2)
  (hE:∀ h' e tk,(∀ c o,c≠z->c≠TO->c≠i1->c≠i2->s.heap.get? c=some o->h'.get? c=some o)->(∃ o,h'.get? e=some o/\o.cls=.type "StopIteration")->E (.ref e) { s with heap:=h',toks:=tk }):
  wpAny (model prog w) A (Builtin.«zip.__next__» ⟨[.ref z],[]⟩) Q E s:=by
 show wpAny _ _ (field (.ref z) 2 >>= _) _ _ _
 refine aa (gw hz rfl (x:=.bool false) rfl ?_)
 show wpAny _ _ (field (.ref z) 3 >>= _) _ _ _
 refine aa (gw hz rfl (x:=.ref TI) rfl ?_);refine aa (jf hTI rfl ?_)
 show wpAny _ _ (ic (.ref z) >>= _) _ _ _
 refine aa ?_;unfold ic;refine aa (gw hz rfl (x:=.none) rfl (af ?_));simp only [if_true];refine aa (lq ?_);refine aa (gw hz rfl (x:=.ref TO) rfl ?_);refine aa (j2 hz (by simp) fun h₁ hz₁ hs₁=>?_)
 replace hz₁:IsZip h₁ z TI TO .ellipsis:=hz₁
 have e1:=hs₁.extBut;have s1a:S1 k h₁:=D1.frame _ _ _ s1 fun b hb o e=>e1 b o (Z.a1 b hb).1 e;have s2a:S2 k h₁:=D2.frame _ _ _ s2 fun b hb o e=>e1 b o (Z.a2 b hb).1 e;refine aa ?_;simp only [List.zipIdx_cons,List.zipIdx_nil,List.forIn_cons,List.forIn_nil];refine aa (aa (wpAny_onRaise ?_))
 show wpAny _ _ (j5 (.ref i1) >>= _) _ _ _
 rcases hk with rfl | ⟨k1,rfl⟩
 ·refine aa (D1.done _ _ _ s1a fun h₂ e hs₂ he=>?_);obtain ⟨oe,hoe,hce⟩:=he;have hz₂:IsZip h₂ z TI TO .ellipsis:=hs₂ _ _ Z.i1z.symm hz₁;have hez:e≠z:=fun x=>by subst x; rw [hz₂] at hoe; cases hoe; simp at hce
  exact j2 hz₂ (by simp) fun h₃ _ hs₃=>hE h₃ e _ (fun c o c1 _ c3 _ x=>hs₃.extBut _ _ c1 (hs₂ _ _ c3 (e1 _ _ c1 x))) ⟨oe,hs₃.extBut _ _ hez hoe,hce⟩
 ·refine aa (D1.item k _ _ _ k1 s1a fun x h₂ t2 px s1b hs₂=>af ?_);have e2:=hs₂.extBut;have s2b:S2 k h₂:=D2.frame _ _ _ s2a fun b hb o e=>e2 b o (Z.a2 b hb).2.2 e;have hTO₂:IsPair h₂ TO a b:=e2 _ _ Z.TOi1 (e1 _ _ Z.TOz hTO);refine aa (jf hTO₂ rfl ?_);refine aa (wpAny_updateSeq_pair hTO₂ fun h₃ hTO₃ hs₃=>?_);have e3:=hs₃.extBut;have s2c:S2 k h₃:=D2.frame _ _ _ s2b fun b hb o e=>e3 b o (Z.a2 b hb).2.1 e;refine aa (wpAny_letGo (af ?_));refine aa (aa (wpAny_onRaise ?_))
  show wpAny _ _ (j5 (.ref i2) >>= _) _ _ _
  refine aa (D2.done _ _ _ s2c fun h₄ e hs₄ he=>?_);obtain ⟨oe,hoe,hce⟩:=he;have hz₄:IsZip h₄ z TI TO .ellipsis:=hs₄ _ _ Z.i2z.symm (e3 _ _ Z.TOz.symm (e2 _ _ Z.i1z.symm hz₁));have hez:e≠z:=fun x=>by subst x; rw [hz₄] at hoe; cases hoe; simp at hce
  exact j2 hz₄ (by simp) fun h₅ _ hs₅=>hE h₅ e _ (fun c o c1 c2 c3 c4 x=>hs₅.extBut _ _ c1 (hs₄ _ _ c4 (e3 _ _ c2 (e2 _ _ c3 (e1 _ _ c1 x))))) ⟨oe,hs₅.extBut _ _ hez hoe,hce⟩
end
section
variable {prog:Program} {w:World} {A:Around} {E:Value->Shared->Prop} {s:Shared} {z TI TO i1 i2:Addr} {f1 f2:List Addr} {n1 n2:Nat} {P1 P2:Nat->Value->Prop} {S1 S2:Nat->Heap->Prop}
theorem Iz (hh:A.handled=none) (D1:∀ A:Around,A.handled=none->Draws prog w A i1 f1 n1 P1 S1) (D2:∀ A:Around,A.handled=none->Draws prog w A i2 f2 n2 P2 S2) (Z:ZA z TI TO i1 i2 f1 f2) {k:Nat} {a b:Value} {Q:Option Value->Shared->Prop}
  (hz:IsZip s.heap z TI TO .none) (hTI:IsPair s.heap TI (.ref i1) (.ref i2)) (hTO:IsPair s.heap TO a b) (s1:S1 k s.heap) (s2:S2 k s.heap) (k1:k < n1) (k2:k < n2)
  (hQ:∀ x y h' tk,P1 k x->P2 k y->IsZip h' z TI TO (rawInt s.heap.objs.size)->IsPair h' TO x y->S1 (k+1) h'->S2 (k+1) h'->IsPair h' s.heap.objs.size x y->h'.objs.size=s.heap.objs.size+1->
   (∀ c o,c≠z->c≠TO->c≠i1->c≠i2->s.heap.get? c=some o->h'.get? c=some o)->Q (some (.ref s.heap.objs.size)) { s with heap:=h',toks:=tk }):
  wpAny (model prog w) A (pyNext (.ref z)) Q E s:=by
 have hT:s.TypeIs (.ref z) "zip" := ⟨_,hz,rfl⟩;unfold pyNext;exact aa (wpAny_attempt (ip (name:=jw "__next__") hT my
  (jd my hT PySem.F.entry_zip_next
   (Lg (D1 A.in1 hh) (D2 A.in1 hh) Z hz hTI hTO s1 s2 k1 k2 fun x y h' tk a1 a2 a3 a4 a5 a6 a7 a8 a9=>af (hQ x y h' tk a1 a2 a3 a4 a5 a6 a7 a8 a9)) (PySem.F.args_zip_next_1 _))))
theorem Bl (hh:A.handled=none) (D1:∀ A:Around,A.handled=none->Draws prog w A i1 f1 n1 P1 S1) (D2:∀ A:Around,A.handled=none->Draws prog w A i2 f2 n2 P2 S2) (Z:ZA z TI TO i1 i2 f1 f2) {k:Nat} {a b:Value} {Q:Option Value->Shared->Prop}
  (hz:IsZip s.heap z TI TO .none) (hTI:IsPair s.heap TI (.ref i1) (.ref i2)) (hTO:IsPair s.heap TO a b) (s1:S1 k s.heap) (s2:S2 k s.heap) (hk:k=n1\/k < n1/\k=n2)
  (hQ:∀ h' tk,(∀ c o,c≠z->c≠TO->c≠i1->c≠i2->s.heap.get? c=some o->h'.get? c=some o)->Q none { s with heap:=h',toks:=tk }):wpAny (model prog w) A (pyNext (.ref z)) Q E s:=by
 have hT:s.TypeIs (.ref z) "zip" := ⟨_,hz,rfl⟩;unfold pyNext;refine aa (wpAny_attempt (ip (name:=jw "__next__") hT my
  (jd my hT PySem.F.entry_zip_next (Oy (D1 A.in1 hh) (D2 A.in1 hh) Z hz hTI hTO s1 s2 hk fun h' e tk hk he=>?_) (PySem.F.args_zip_next_1 _))))
 obtain ⟨o,ho,hc⟩:=he;refine aa (wpAny_isInstance (T:="StopIteration") (b:=true) ⟨o,ho,hc⟩ isSubtype_stop ?_);exact af (hQ _ _ hk)
theorem IA (hh:A.handled=none) (it l:Addr) (items:Array Value) (i:Nat) (h:items[i]?=none):Draws prog w A it [it,l] i (fun _ _=>False) (fun j g=>j=i/\g.IsListIter it l i/\g.IsList l items) where
 live:=fun _ _ st=>let ⟨o,ho,_⟩:=st.2.1; ⟨o,ho⟩
 frame:=fun _ _ _ st hk=>⟨st.1,st.2.1.at fun o e=>hk it (by simp) o e,st.2.2.at fun o e=>hk l (by simp) o e⟩
 item:=fun j s Q E hj st hQ=>absurd hj (by rw [st.1]; exact gf _)
 done:=fun s Q E st hE=>wpAny_nextOf_list_end hh st.2.1 st.2.2 h hE
theorem Lh (hh:A.handled=none) (it:Addr) (x:Str) (t:Tok) (i:Nat) (h:x.cps[i]?=none):Draws prog w A it [it] i (fun _ _=>False) (fun j g=>j=i/\g.IsStrIter it "str_ascii_iterator" x t i) where
 live:=fun _ _ st=>let ⟨o,ho,_⟩:=st.2; ⟨o,ho⟩
 frame:=fun _ _ _ st hk=>⟨st.1,let ⟨o,e,r⟩:=st.2; ⟨o,hk it (by simp) o e,r⟩⟩
 item:=fun j s Q E hj st hQ=>absurd hj (by rw [st.1]; exact gf _)
 done:=fun s Q E st hE=>wpAny_nextOf_ascii_end hh st.2 h hE
end
abbrev Li (h:Heap) (l1:Addr):Heap:=h.push { cls:=.type "list_iterator",data:=.fields #[.ref l1,.int 0 0] }
abbrev Lj (h:Heap) (l1:Addr) (x:Str) (t:Tok):Heap:=(Li h l1).push { cls:=.type "str_ascii_iterator",data:=.fields #[.str x t,.int 0 0] }
abbrev Lk (h:Heap) (l1:Addr) (x:Str) (t:Tok):Heap:=(Lj h l1 x t).push { cls:=.type "tuple",data:=.seq #[.ref h.objs.size,.ref (Li h l1).objs.size] }
abbrev Ll (h:Heap) (l1:Addr) (x:Str) (t:Tok):Heap:=(Lk h l1 x t).push { cls:=.type "tuple",data:=.seq #[.none,.none] }
abbrev Di (h:Heap) (l1:Addr) (x:Str) (t:Tok):Heap:=(Ll h l1 x t).push { cls:=.type "zip",data:=.fields #[.none,.bool false,.bool false,.ref (Lj h l1 x t).objs.size,.ref (Lk h l1 x t).objs.size] }
set_option maxHeartbeats 4000000 in
theorem Bm (l1:Addr) (xs:Array Value) (x:Str) (t:Tok) (ha:x.cps.all (· < 128)=true):
  Meets (Builtin.«zip.__new__» ⟨[.type "zip",.ref l1,.str x t],[]⟩) (fun _ R s=>s.heap.IsList l1 xs/\R (.ok (.ret (.ref (Ll s.heap l1 x t).objs.size))) { s with heap:=Di s.heap l1 x t }):=
 .of_wp fun prog w A R s h=>by
  obtain ⟨hp,g,d,tk,os⟩:=s; obtain ⟨hl1,h⟩:=h;have hsub:=sub_zip;have hL1:Heap.IsList (Shared.heap ⟨hp,g,d,tk,os⟩) l1 xs:=hl1
  wp_walk using wpAny_pyIter_list hL1,wpAny_pyIter_ascii ha
  exact ⟨_,rfl,h⟩
section
variable {prog:Program} {w:World} {A:Around} {E:Value->Shared->Prop} {s:Shared}
theorem Lm {l1:Addr} {xs:Array Value} {x:Str} {t:Tok} {Q:Value->Shared->Prop} (hl1:s.heap.IsList l1 xs) (ha:x.cps.all (· < 128)=true)
  (h:∀ h',IsZip h' (s.heap.objs.size+4) (s.heap.objs.size+2) (s.heap.objs.size+3) .none->IsPair h' (s.heap.objs.size+2) (.ref s.heap.objs.size) (.ref (s.heap.objs.size+1))->
   IsPair h' (s.heap.objs.size+3) .none .none->h'.IsListIter s.heap.objs.size l1 0->h'.IsStrIter (s.heap.objs.size+1) "str_ascii_iterator" x t 0->h'.objs.size=s.heap.objs.size+5->
   (∀ c o,s.heap.get? c=some o->h'.get? c=some o)->Q (.ref (s.heap.objs.size+4)) { s with heap:=h' }):
  wpAny (model prog w) A (call (.type "zip") [.ref l1,.str x t]) Q E s:=by
 refine callType_new PySem.F.called_zip (by decide) (PySem.F.typeCall_zip_2 _ _) (PySem.F.newCall_zip_2 _ _) (fun obj=>PySem.F.args_object_init_3 obj _ _) PySem.F.entry_zip_new
  (Bm l1 xs x t ha) ⟨hl1,?_⟩
 have z1:(Li s.heap l1).objs.size=s.heap.objs.size+1:=gb ..;have z2:(Lj s.heap l1 x t).objs.size=s.heap.objs.size+2:=by rw [gb,z1]
 have z3:(Lk s.heap l1 x t).objs.size=s.heap.objs.size+3:=by rw [gb,z2]
 have z4:(Ll s.heap l1 x t).objs.size=s.heap.objs.size+4:=by rw [gb,z3]
 have z5:(Di s.heap l1 x t).objs.size=s.heap.objs.size+5:=by rw [gb,z4]
 have g5:(Di s.heap l1 x t).get? (Ll s.heap l1 x t).objs.size=some _:=ax _ rfl;have g4:(Di s.heap l1 x t).get? (Lk s.heap l1 x t).objs.size=some _:=ab _ (ax _ rfl);have g3:(Di s.heap l1 x t).get? (Lj s.heap l1 x t).objs.size=some _:=ab _ (ab _ (ax _ rfl));have g2:(Di s.heap l1 x t).get? (Li s.heap l1).objs.size=some _:=ab _ (ab _ (ab _ (ax _ rfl)));have g1:(Di s.heap l1 x t).get? s.heap.objs.size=some _:=ab _ (ab _ (ab _ (ab _ (ax _ rfl))))
 show _/\_
 rw [z2,z3,z4] at g5;rw [z1,z2] at g3;rw [z3] at g4;rw [z1] at g2;rw [z4];exact ⟨⟨_,g5,rfl⟩,h _ g5 g3 g4 ⟨_,g1,rfl,rfl⟩ ⟨_,g2,rfl,rfl⟩ z5 fun c o e=>
  ab _ (ab _ (ab _ (ab _ (ab _ e))))⟩
end
def ItZ (K:ag) (l:Addr) (x:Str):It:=
 ⟨fun i H=>(∃ vs v,SqL K H l vs/\vs[i]?=some v)/\i < x.cps.size,
  fun i H y H'=>∃ t v c,H t=none/\(∀ vs,SqL K H l vs->vs[i]?=some v)/\x.cps[i]?=some c/\y=.ref t/\H'=upd H t (.tup [v,.str ⟨#[c]⟩]),
  fun i H=>∃ vs,SqL K H l vs/\(vs.length<=i\/x.cps.size<=i)⟩
theorem cO {h:Heap} {a b:Addr} {o p:Obj} {m n:String} (ha:h.get? a=some o) (hb:h.get? b=some p) (ca:o.cls=.type m) (cb:p.cls=.type n) (hn:m≠n):a≠b:=fun e=>by
 subst e;rw [ha] at hb;cases hb
 rw [ca] at cb;cases cb
 exact hn rfl
theorem xH {h:Heap} {z TI TO i1 i2 l:Addr} {a b:Value} {x:Str} {t:Tok} {i:Nat} {xs:Array Value} (hTT:TI≠TO) (hz:IsZip h z TI TO .none) (hTI:IsPair h TI (.ref i1) (.ref i2)) (hTO:IsPair h TO a b) (h1:h.IsListIter i1 l i) (h2:h.IsStrIter i2 "str_ascii_iterator" x t i) (hl:h.IsList l xs):
  ZA z TI TO i1 i2 [i1,l] [i2]/\l≠i1:=by
 obtain ⟨ol,el,cl,_⟩:=hl;obtain ⟨o1,e1,c1,d1⟩:=h1;obtain ⟨o2,e2,c2,d2⟩:=h2;have n1z:i1≠z:=cO e1 hz c1 rfl (by decide);have n2z:i2≠z:=cO e2 hz c2 rfl (by decide);have nO1:TO≠i1:=cO hTO e1 rfl c1 (by decide);have nO2:TO≠i2:=cO hTO e2 rfl c2 (by decide);have n12:i1≠i2:=cO e1 e2 c1 c2 (by decide);have lz:l≠z:=cO el hz cl rfl (by decide);have lO:l≠TO:=cO el hTO cl rfl (by decide);have l2:l≠i2:=cO el e2 cl c2 (by decide);refine ⟨⟨cO hTI hz rfl rfl (by decide),cO hTO hz rfl rfl (by decide),n1z,n2z,hTT,cO hTI e1 rfl c1 (by decide),cO hTI e2 rfl c2 (by decide),nO1,nO2,n12,fun b hb=>?_,fun b hb=>?_⟩,cO el e1 cl c1 (by decide)⟩
 ·simp only [bw,jt,or_false] at hb;rcases hb with rfl | rfl
  ·exact ⟨n1z,nO1.symm,n12⟩
  ·exact ⟨lz,lO,l2⟩
 ·simp only [bw,jt,or_false] at hb;subst hb;exact ⟨n2z,nO2.symm,n12.symm⟩
theorem IB {P:Program} {w:World} {K:ag} {elts:List Expr} {x1:Nat} {pos:Pos} (l:Addr) (x:Str) (t:Tok) (z TI TO i1 i2:Addr) (hTT:TI≠TO):
  Turn P w K (.Tuple elts x1 pos) (ItZ K l x) [z,TI,TO,i1,i2] z (fun i h=>IsZip h z TI TO .none/\IsPair h TI (.ref i1) (.ref i2)/\(∃ a b,IsPair h TO a b)/\h.IsListIter i1 l i/\h.IsStrIter i2 "str_ascii_iterator" x t i) where
 mem:=by simp
 obj:=fun i h ⟨hz,hTI,⟨a,b,hTO⟩,⟨o1,e1,_,d1⟩,⟨o2,e2,_,d2⟩⟩ b hb=>by
  simp only [bw,jt,or_false] at hb;rcases hb with rfl | rfl | rfl | rfl | rfl
  ·exact ⟨_,hz,fun v q=>by cases q⟩
  ·exact ⟨_,hTI,fun v q=>by cases q⟩
  ·exact ⟨_,hTO,fun v q=>by cases q⟩
  ·exact ⟨_,e1,fun v q=>by rw [d1] at q; cases q⟩
  ·exact ⟨_,e2,fun v q=>by rw [d2] at q; cases q⟩
 keep:=fun i h h' ⟨hz,hTI,⟨a,b,hTO⟩,h1,⟨o2,e2,r2⟩⟩ k=>
  ⟨k z (by simp) _ hz,k TI (by simp) _ hTI,⟨a,b,k TO (by simp) _ hTO⟩,h1.at fun o e=>k i1 (by simp) o e,⟨o2,k i2 (by simp) _ e2,r2⟩⟩
 item:=by
  intro X hP hw hK hc i pins s σ H E I hf ⟨hz,hTI,⟨a,b,hTO⟩,h1,h2⟩ ⟨⟨vs,v,hq,hv⟩,hx⟩;subst hP hw hK;obtain ⟨its,rv,p,hsz⟩:=I.list hq;obtain ⟨u,hu,ru⟩:=rv.get hv;have hl:=p.isList;obtain ⟨ol,el,cl,_⟩:=id hl;obtain ⟨o1,e1,c1,d1⟩:=id h1;obtain ⟨o2,e2,c2,d2⟩:=id h2;have hi:i < its.length:=(ae.mp hu).1;obtain ⟨Z,l1⟩:=xH hTT hz hTI hTO h1 h2 hl;refine Iz (I.ok.hd hc) (fun A hA=>Draws.list hA i1 l l1 its.toArray) (fun A hA=>Draws.strAscii hA i2 x t) Z hz hTI hTO ⟨h1,hl⟩ h2 (by simpa using hi) hx fun xx yy h' tk px py a1 a2 a3 a4 a5 a6 kp=>⟨_,rfl,?_⟩
  obtain ⟨cc,tu,ecc,rfl⟩:=py;have exx:xx=u:=by
   have:its[i]?=some xx:=by simpa using px
   rw [hu] at this; cases this; rfl
  subst exx;refine wpAny_letOwnedTupleGo_zip (s:={ s with heap:=h',toks:=tk }) a1 fun h'' hI same=>?_;have fr:H s.heap.objs.size=none:=I.hok.fresh (bj _);have nt:∀ {b:Addr} {o:Obj},s.heap.get? b=some o->s.heap.objs.size≠b:=fun e=>gj (ay e);have sb:∀ (b:Addr) (o:Obj),b≠z->h'.get? b=some o->h''.get? b=some o:=fun b o hb e=>(same.2 b hb).trans e;have gt':=sb _ _ (nt hz) a5;have kp':∀ (b:Addr) (o:Obj),b∉[z,TO,i1,i2]->s.heap.get? b=some o->h''.get? b=some o:=fun b o hb e=>
   sb b o (fun q=>hb (by simp [q])) (kp b o (fun q=>hb (by simp [q])) (fun q=>hb (by simp [q])) (fun q=>hb (by simp [q])) (fun q=>hb (by simp [q])) e)
  have sub:∀ b,b∈[z,TO,i1,i2]->b∈[z,TI,TO,i1,i2]:=fun b hb=>by
   simp only [bw,jt,or_false] at hb ⊢;rcases hb with q | q | q | q <;> simp [q]
  have nit:∀ b u,H b=some u->b∉[z,TO,i1,i2]:=fun b u e q=>by
   have:=(hf b (sub b q)).1;rw [this] at e; cases e
  have nsz:∀ b u,H b=some u->b≠s.heap.objs.size:=fun b u e q=>by rw [q,fr] at e; cases e
  refine ⟨.ref s.heap.objs.size,upd H s.heap.objs.size (.tup [v,.str ⟨#[cc]⟩]),?_,rfl,⟨_,v,cc,fr,fun ys hy=>by rw [I.list_inj hy hq]; exact hv,ecc,rfl,rfl⟩,⟨hI,sb _ _ Z.TIz (kp _ _ Z.TIz hTT Z.TIi1 Z.TIi2 hTI),⟨_,_,sb _ _ Z.TOz a2⟩,a3.1.at fun o e=>sb _ _ Z.i1z e,?_⟩,fun b hb=>?_⟩
  ·refine Inv.step (s:=s) (h':=h'') (H:=H) (g':=s.gens) (d':=s.drawn) (t':=tk) (ch:=[z,TO,i1,i2]) I (fun b hb=>?_) (fun b o _ _ hc e _=>kp' b o hc e) (fun b o _ _ hc e _=>⟨o.slots,kp' b o hc e⟩) (fun b o hc e n=>?_)
    (fun b o hc e=>⟨o,kp' b o hc e⟩) (fun b xs e=>by rw [aN (nsz _ _ e)]; exact e) (fun b o u e=>by rw [aN (nsz _ _ e)]; exact e) (fun b ps e=>⟨#[],by rw [aN (nsz _ _ e),e]; simp⟩) (fun m hm=>?_) (fun b u e=>?_) I.bare
   ·obtain ⟨f0,f1,f2,f3,f4,f5⟩:=hf b (sub b hb);exact ⟨f3,f1,f4,f5⟩
   ·rw [aN (bu (ay e))]; exact n
   ·obtain ⟨o,es,ep,ho,r⟩:=hm;exact ⟨o,es,ep,kp' _ o (fun q=>(hf _ (sub _ q)).2.1 rfl) ho,r⟩
   ·by_cases hb:b=s.heap.objs.size
    ·subst hb;rw [aW] at e;cases e
     exact ⟨by show 2<=az; rw [nG]; decide,[xx,.str ⟨#[cc]⟩ tu],.cons ru (.cons ⟨_,rfl⟩ .nil),_,gt',rfl,⟨_,rfl⟩,rfl⟩
    ·rw [aN hb] at e;refine (I.hok b u e).stay (fun c v hc q=>kp' c v ?_ q) (fun c q=>by rw [aN (nsz _ _ q)]; exact q) fun c xs q=>by rw [aN (nsz _ _ q)]; exact q
     rcases hc with q | q
     ·rw [q]; exact nit b u e
     ·exact nit c _ q
  ·obtain ⟨o,e,r⟩:=a4;exact ⟨o,sb _ _ Z.i2z e,r⟩
  ·have hb':=(hf b hb).1;have:b≠s.heap.objs.size:=by
    simp only [bw,jt,or_false] at hb;rcases hb with rfl | rfl | rfl | rfl | rfl
    ·exact (nt hz).symm
    ·exact (nt hTI).symm
    ·exact (nt hTO).symm
    ·exact (nt e1).symm
    ·exact (nt e2).symm
   rw [aN this]; exact hb'
 done:=by
  intro X hP hw hK hc i pins s σ H E I hf ⟨hz,hTI,⟨a,b,hTO⟩,h1,h2⟩ ⟨vs,hq,hd⟩;subst hP hw hK;obtain ⟨its,rv,p,hsz⟩:=I.list hq;have hlen:=rv.length;have hl:=p.isList;obtain ⟨ol,el,cl,_⟩:=id hl;obtain ⟨o1,e1,c1,d1⟩:=id h1;obtain ⟨o2,e2,c2,d2⟩:=id h2;obtain ⟨Z,l1⟩:=xH hTT hz hTI hTO h1 h2 hl;have sub:∀ b,b∈[z,TO,i1,i2]->b∈[z,TI,TO,i1,i2]:=fun b hb=>by
   simp only [bw,jt,or_false] at hb ⊢;rcases hb with q | q | q | q <;> simp [q]
  have nit:∀ b u,H b=some u->b∉[z,TO,i1,i2]:=fun b u e q=>by
   have:=(hf b (sub b q)).1;rw [this] at e; cases e
  have fin:∀ (h':Heap) (tk:Nat),(∀ c o,c≠z->c≠TO->c≠i1->c≠i2->s.heap.get? c=some o->h'.get? c=some o)->Inv X pins σ H { s with heap:=h',toks:=tk }:=fun h' tk kp=>by
   have kp':∀ (b:Addr) (o:Obj),b∉[z,TO,i1,i2]->s.heap.get? b=some o->h'.get? b=some o:=fun b o hb e=>
    kp b o (fun q=>hb (by simp [q])) (fun q=>hb (by simp [q])) (fun q=>hb (by simp [q])) (fun q=>hb (by simp [q])) e
   refine Inv.step (s:=s) (h':=h') (H:=H) (g':=s.gens) (d':=s.drawn) (t':=tk) (ch:=[z,TO,i1,i2]) I (fun b hb=>?_) (fun b o _ _ hc e _=>kp' b o hc e) (fun b o _ _ hc e _=>⟨o.slots,kp' b o hc e⟩) (fun b o hc e n=>n)
    (fun b o hc e=>⟨o,kp' b o hc e⟩) (fun b xs e=>e) (fun b o u e=>e) (fun b ps e=>⟨#[],by rw [e]; simp⟩) (fun m hm=>?_) (fun b u e=>?_) I.bare
   ·obtain ⟨f0,f1,f2,f3,f4,f5⟩:=hf b (sub b hb);exact ⟨f3,f1,f4,f5⟩
   ·obtain ⟨o,es,ep,ho,r⟩:=hm;exact ⟨o,es,ep,kp' _ o (fun q=>(hf _ (sub _ q)).2.1 rfl) ho,r⟩
   ·refine (I.hok b u e).stay (fun c v hc q=>kp' c v ?_ q) (fun _ q=>q) fun _ _ q=>q;rcases hc with q | q
    ·rw [q]; exact nit b u e
    ·exact nit c _ q
  by_cases hi:i < its.length
  ·have hx:x.cps.size<=i:=by rcases hd with q | q; omega; exact q
   exact Bl (I.ok.hd hc) (fun A hA=>Draws.list hA i1 l l1 its.toArray) (fun A hA=>Lh hA i2 x t i (Array.getElem?_eq_none hx)) Z hz hTI hTO ⟨h1,hl⟩ ⟨rfl,h2⟩ (.inr ⟨by simpa using hi,rfl⟩) fun h' tk kp=>⟨rfl,fin h' tk kp⟩
  ·exact Bl (I.ok.hd hc) (fun A hA=>IA hA i1 l its.toArray i (by simp; omega)) (fun A hA=>Draws.strAscii hA i2 x t) Z hz hTI hTO ⟨rfl,h1,hl⟩ h2 (.inl rfl) fun h' tk kp=>⟨rfl,fin h' tk kp⟩
 self:=fun _ _ _ _ _ ⟨hz,_⟩ h=>wpAny_pyIter_zip hz h
theorem boot_zip:md "zip" = some (.type "zip"):=by first | rfl | decide +kernel | kernel_rfl
section
variable {C:MC} {k:Nat} {X:Cx}
def Th (X:Cx) (ta:TA):TI:=fun σ H R=>ta σ H fun vs H1=>∃ l xs x,vs=[.ref l,.str x]/\SqL X.K H1 l xs/\(x.cps.all fun c=>decide (c < 128))=true/\R (ItZ X.K l x) H1
theorem Oz {a b:Expr} {ta:TA} {p pos:Pos} {elts:List Expr} {x1:Nat} {tp:Pos} (hg:Gl X "zip") (hm:X.mg "zip" = none) (ha:PA X [a,b] ta) (hs:b9 [a,b] X.env=[(false,eval a X.env),(false,eval b X.env)]:=by rfl) (hs2:b9 [b] X.env=[(false,eval b X.env)]:=by rfl):
  PI X (.Tuple elts x1 tp) (.Call (.Name "zip" p) [a,b] [] pos) (Th X ta):=by
 intro pins s σ H R I h;refine Call_ (oO I hg hm boot_zip (jk (thn (ha pos pins s σ H _ I h) fun us s1 hz=>?_) (by rw [hs,hs2]) (by rw [hs2]; rfl)));obtain ⟨vs,H1,I1,r1,q1⟩:=hz;obtain ⟨l,xs,x,e,hq,asc,q⟩:=q1;subst e;cases r1 with
 | cons r rr=>
  cases rr with
  | cons r' rr=>
   cases rr
   cases r
   obtain ⟨t,rfl⟩:=r';obtain ⟨its,rv,pl,hz⟩:=I1.list hq;refine Lm pl.isList asc fun h' a1 a2 a3 a4 a5 a6 kp=>?_;refine wpAny_pyIter_zip a1 ?_;refine ⟨s1.heap.objs.size+4,[s1.heap.objs.size+4,s1.heap.objs.size+2,s1.heap.objs.size+3,s1.heap.objs.size,s1.heap.objs.size+1],_,_,H1,rfl,I1.kept (t':=s1.toks) kp,IB l x t _ _ _ _ _ (bu (k8 (s1.heap.objs.size+2))),⟨a1,a2,⟨_,_,a3⟩,a4,a5⟩,fun b hb=>?_,q⟩;have hle:s1.heap.objs.size<=b:=by
    simp only [bw,jt,or_false] at hb;rcases hb with e | e | e | e | e
    all_goals rw [e]
    all_goals first | exact bj _ | exact Nat.le_add_right _ _
   exact I1.fpOk hle (I1.hok.fresh hle)
def rB (xs:List PV) (x:Str):List PV:=List.zipWith (fun p c=>PV.tup [p,.str ⟨#[c]⟩]) xs x.cps.toList
def OA:List PV->PH->Rs Wk:=fun ps h=>match ps with
 | [.ref n,.str x]=>if (x.cps.all fun c=>decide (c < 128))=true then (match aX h n with
   | some xs=>.ok ⟨rB xs x,tB n xs⟩ h
   | none=>.bad) else .bad
 | _=>.bad
def Ln (ms:Ma):Mi:=fun δ h=>(ms δ h).bind OA
theorem IC (xs:List PV) (x:Str):(rB xs x).length=min xs.length x.cps.size:=by simp [rB]
theorem Rc {x y:Expr} {ms:Ma} {elts:List Expr} {x1:Nat} {tp p pos:Pos} (ha:SA C k X [x,y] ms) (hb:("zip" : Str)∈C.bs:=by decide) (hg:Gl X "zip" := by rfl) (hs:b9 [x,y] X.env=[(false,eval x X.env),(false,eval y X.env)]:=by rfl) (hs2:b9 [y] X.env=[(false,eval y X.env)]:=by rfl):
  SI C k X (.Tuple elts x1 tp) (.Call (.Name "zip" p) [x,y] [] pos) (Ln ms):=fun c=>
 (Oz hg (c.bn _ hb) (ha c) hs hs2).imp fun σ H R h=>by
  obtain ⟨φ,δ,h,rh,re,p⟩:=h;refine ⟨φ,δ,h,rh,re,(postA.bindI p).imp ?_⟩;rintro vs H1 ⟨φ1,xs,h1,p1,t1,rh1,rv1,q1⟩;unfold OA at q1;split at q1
  ·rename_i n x;obtain ⟨v,w,rfl,rx,ry⟩:=rv1.two;obtain ⟨a,rfl,ha'⟩:=rx;cases ry
   split at q1
   ·rename_i asc;cases e:aX h1 n with
    | none=>rw [e] at q1; exact q1.elim
    | some xs=>
     rw [e] at q1;obtain ⟨a2,us,ha2,sa,ra⟩:=cA rh1 e;rw [ha'] at ha2; cases ha2;rw [<- c.K] at sa;refine ⟨a,us,x,rfl,sa,asc,q1 φ1 H1 (ItZ X.K a x) av (Kp.refl H1) rh1 fun φ2 H2 h2 p2 t2 rh2 hg i=>?_⟩;have hg:(match aX h2 n with | some ys=>PV.beqs ys xs | none=>false)=true:=hg
     cases e2:aX h2 n with
     | none=>rw [e2] at hg; cases hg
     | some ys=>
      rw [e2] at hg;have hxy:=PV.beqs_eq hg;subst hxy;obtain ⟨a3,us2,ha3,su,ru⟩:=cA rh2 e2;rw [fZ p2 ha'] at ha3; cases ha3;rw [<- c.K] at su;have hl:=ru.length
      show (i < (rB ys x).length->_)/\((rB ys x).length<=i->_)
      rw [IC];refine ⟨fun hi=>?_,fun hi=>⟨us2,su,by omega⟩⟩;have hi1:i < us2.length:=by omega
      have hi2:i < x.cps.size:=by omega
      refine ⟨⟨⟨us2,us2[i],su,by simp [hi1]⟩,hi2⟩,fun y H' yl=>?_⟩;obtain ⟨t,v,cc,ht,hv,ec,rfl,rfl⟩:=yl;obtain ⟨pp,ep,rp⟩:=ru.get (hv us2 su);refine ⟨⟨.tup [pp,.str ⟨#[cc]⟩],?_,?_⟩,Kp.new ht,rh2.aside ht⟩
      ·have ec':x.cps.toList[i]?=some cc:=by simpa using ec
       show (rB ys x)[i]?=_
       unfold rB;rw [List.getElem?_zipWith,ep,ec']
      ·exact ⟨t,[v,.str ⟨#[cc]⟩],rfl,.inl (.inl aW),rp.mono av (Kp.new ht),rfl,trivial⟩
   ·exact q1.elim
  ·exact q1.elim
end
def ID (f:Value):Prop:=f=.none\/∃ T:Nat,f=rawInt T
abbrev qL (h:Heap) (it d:Addr) (i n ep:Nat) (f0:Value) (f1:Bool) (ok ov:Value):Prop:=h.get? it=some { cls:=.type "dict_itemiterator",data:=.fields #[f0,.bool f1,.ref d,.int i 0,.int n 0,.int ep 0,ok,ov] }
section
variable {prog:Program} {w:World} {A:Around} {E:Value->Shared->Prop} {s:Shared} {v dc it:Addr} {oc:Obj} {es:Array k9} {ep:Nat} {ok ov f0:Value} {f1:Bool}
theorem IE {a:Addr} {Q:Option Obj->Shared->Prop} (h:Q (s.heap.get? a) s):wpAny (model prog w) A (loadIfAlive a) Q E s:=fun Γ p _=>by
 unfold loadIfAlive;rw [Sem.wp_loadIfAlive];exact h
theorem tT {i n:Nat} (hI:qL s.heap it dc i n ep f0 f1 ok ov):s.TypeIs (.ref it) "dict_itemiterator" := ⟨_,hI,rfl⟩
theorem Dj {i:Nat} {Q:Option Value->Shared->Prop} (hI:qL s.heap it dc i es.size ep f0 f1 ok ov) (h1:s.heap.get? dc=some oc) (h2:oc.data=.dict es ep) (hlt:i < es.size)
  (hf:ID f0)
  (q:∀ h' f0' f1' ok' ov',ID f0'->qL h' it dc (i+1) es.size ep f0' f1' ok' ov'->h'.get? s.heap.objs.size=some { cls:=.type "tuple",data:=.seq #[es[i].key,es[i].val] }->
   (∀ (b:Addr) (o:Obj),b≠it->s.heap.get? b=some o->h'.get? b=some o)->Q (some (.ref s.heap.objs.size)) { s with heap:=h' }):wpAny (model prog w) A (pyNext (.ref it)) Q E s:=by
 have hT:=tT hI;unfold pyNext;refine aa (wpAny_attempt (ip (name:=jw "__next__") hT gq (jd gq hT F.entry_dict_itemiterator_next ?_ (F.args_dict_itemiterator_next_1 _))));refine aa (af (aa (aa ?_)))
 first | refine aa (i9 hT (af ?_)) | refine aa (j6 hT (af ?_))
 refine aa (wpAny_fieldsOf hI rfl ?_);rw [show l9 "dict_itemiterator" = true by decide]; simp only [if_true]
 show wpAny _ _ (if (c0 dc == di)=true then _ else _) _ _ s
 rw [if_neg (show ¬ ((c0 dc == di)=true) from bx)]
 refine aa (af (aa (m6 h1 h2 ?_)));rw [if_neg (show ¬ _ by simp)];refine aa (af (aa (wpAny_dictEpoch h1 h2 ?_)));rw [if_neg (show ¬ _ by simp)];refine af ?_;simp only [show ¬ ((i:Int) < 0) by omega,if_false,Int.toNat_natCast,Array.getElem?_eq_getElem hlt];refine aa ?_
 first | refine aa (i9 hT (af ?_)) | refine aa (j6 hT (af ?_))
 refine aa (wpAny_isOneOf_itemiter hT (show wpAny _ _ (setField (.ref it) 3 (rawInt ((i:Int)+1)) >>= _) _ _ s from aa (wpAny_setField hI rfl (by simp) ?_)))
 have hI':qL (s.heap.update it (nu (·.setIfInBounds 3 (rawInt ((i:Int)+1))))) it dc (i+1) es.size ep f0 f1 ok ov:=by
  show (s.heap.update it _).get? it=_
  rw [ig _ hI (Obj.isFreed_of_fields (Obj.data_mapFields rfl _))];simp [nu,rawInt]
 have kp:∀ (b:Addr) (o:Obj),b≠it->s.heap.get? b=some o->(s.heap.update it (nu (·.setIfInBounds 3 (rawInt ((i:Int)+1))))).get? b=some o:=fun b o hb e=>by
  rw [(fi ..).2 b hb]; exact e
 have sz:(s.heap.update it (nu (·.setIfInBounds 3 (rawInt ((i:Int)+1))))).objs.size=s.heap.objs.size:=(fi ..).1;generalize s.heap.update it (nu (·.setIfInBounds 3 (rawInt ((i:Int)+1))))=hA at hI' kp sz;have ty':({ s with heap:=hA }:Shared).TypeIs (.ref it) "dict_itemiterator" := tT hI';refine aa (il (aa (wpAny_isOneOf_itemiter ty' (aa (wpAny_isOneOf_itemiter ty' ?_)))))
 show wpAny _ _ (Builtin.Dict_items.pairFromOwner (.ref it) 6 es[i].key es[i].val) _ _ _
 unfold Builtin.Dict_items.pairFromOwner;simp only [newTuple];refine aa (fm ?_ (by size_fits));have hI2:qL (hA.push { cls:=.type "tuple",data:=.seq #[es[i].key,es[i].val] }) it dc (i+1) es.size ep f0 f1 ok ov:=ab _ hI';have gt:(hA.push { cls:=.type "tuple",data:=.seq #[es[i].key,es[i].val] }).get? hA.objs.size=some { cls:=.type "tuple",data:=.seq #[es[i].key,es[i].val] }:=ax _ rfl;have kp2:∀ (b:Addr) (o:Obj),b≠it->s.heap.get? b=some o->(hA.push { cls:=.type "tuple",data:=.seq #[es[i].key,es[i].val] }).get? b=some o:=fun b o hb e=>ab _ (kp b o hb e);rw [sz] at gt;have ne:s.heap.objs.size≠it:=gj (ay hI)
 show wpAny _ _ _ _ _ { s with heap:=hA.push { cls:=.type "tuple",data:=.seq #[es[i].key,es[i].val] } }
 generalize hA.push { cls:=.type "tuple",data:=.seq #[es[i].key,es[i].val] }=hB at hI2 gt kp2;have eA:(c0 ({ s with heap:=hA }:Shared).heap.objs.size)=.ref s.heap.objs.size:=by rw [<- sz]
 simp only [eA];have stp:∀ {h1:Heap} {fs:Array Value} {j:Nat} {x:Value} {α:Type} {f:Unit->Sem α} {R:α->Shared->Prop} {E':Value->Shared->Prop},h1.get? it=some { cls:=.type "dict_itemiterator",data:=.fields fs }->j < fs.size->
   (∀ h2:Heap,h2.get? it=some { cls:=.type "dict_itemiterator",data:=.fields (fs.setIfInBounds j x) }->(∀ (b:Addr),b≠it->h2.get? b=h1.get? b)->wpAny (model prog w) A.in1 (f ()) R E' { s with heap:=h2 })->
   wpAny (model prog w) A.in1 (setField (.ref it) j x >>= f) R E' { s with heap:=h1 }:=fun {h1 fs j x α f R E'} g hj k=>by
  refine aa (wpAny_setField (s:={ s with heap:=h1 }) g rfl hj ?_);refine k _ ?_ fun b hb=>(fi ..).2 b hb;rw [ig _ g (Obj.isFreed_of_fields (Obj.data_mapFields rfl _))];simp [nu]
 have free:∀ E':Value->Shared->Prop,wpAny (model prog w) A.in1 (ng (.ref it)) (fun _ s'=>∃ h9 g1,s'={ s with heap:=h9 }/\qL h9 it dc (i+1) es.size ep f0 g1 ok ov/\∀ b,b≠it->h9.get? b=hB.get? b) E' { s with heap:=hB }:=fun E'=>by
  unfold ng;refine aa (gw (s:={ s with heap:=hB }) hI2 rfl (x:=f0) rfl ?_);rcases hf with rfl | ⟨T,rfl⟩
  ·exact af ⟨hB,f1,rfl,hI2,fun _ _=>rfl⟩
  ·show wpAny _ _ (loadIfAlive ((T:Int).toNat) >>= _) _ _ _
   refine aa (IE ?_);cases hB.get? ((T:Int).toNat) with
   | none=>exact af ⟨hB,f1,rfl,hI2,fun _ _=>rfl⟩
   | some o=>
    simp only [Option.isNone_some,d9,if_false];refine aa (gw (s:={ s with heap:=hB }) hI2 rfl (x:=.bool f1) rfl ?_);cases f1 with
    | false=>
     rw [if_pos (by decide)];refine stp hI2 (by simp) fun h3 g3 s3=>?_;exact af ⟨h3,true,rfl,by show h3.get? it=_; rw [g3]; simp,s3⟩
    | true=>
     rw [if_neg (by decide)];exact af ⟨hB,true,rfl,hI2,fun _ _=>rfl⟩
 refine aa (ja (free _) (fun b s' hb=>?_) fun _ _ e=>e);obtain ⟨h9,g1,rfl,hI9,s9⟩:=hb;cases b with
 | true=>
  simp only [if_true];refine aa (gw (s:={ s with heap:=h9 }) hI9 rfl (x:=ok) rfl (aa (gw (s:={ s with heap:=h9 }) hI9 rfl (x:=ov) rfl ?_)));refine stp hI9 (by simp) fun h3 g3 s3=>?_;refine stp g3 (by simp) fun h4 g4 s4=>?_;refine stp g4 (by simp) fun h5 g5 s5=>?_;refine stp g5 (by simp) fun h6 g6 s6=>?_;refine aa (wpAny_letGo (af (af ⟨_,rfl,af (q h6 (rawInt s.heap.objs.size) false es[i].key es[i].val (.inr ⟨_,rfl⟩) (by rw [<- sz]; show h6.get? it=_; rw [g6]; simp) ?_ fun b o hb e=>?_)⟩)))
  ·rw [s6 _ ne,s5 _ ne,s4 _ ne,s3 _ ne,s9 _ ne]; exact gt
  ·rw [s6 _ hb,s5 _ hb,s4 _ hb,s3 _ hb,s9 _ hb]; exact kp2 b o hb e
 | false=>
  simp only [d9,if_false];refine af (af ⟨_,rfl,af (q h9 f0 g1 ok ov hf hI9 ?_ fun b o hb e=>?_)⟩)
  ·rw [s9 _ ne]; exact gt
  ·rw [s9 _ hb]; exact kp2 b o hb e
theorem Dk {i:Nat} {Q:Option Value->Shared->Prop} (hh:A.handled=none) (hI:qL s.heap it dc i es.size ep f0 f1 ok ov) (h1:s.heap.get? dc=some oc) (h2:oc.data=.dict es ep) (hge:es.size<=i)
  (q:∀ h',Heap.ExtBut it s.heap h'->Q none { s with heap:=h' }):wpAny (model prog w) A (pyNext (.ref it)) Q E s:=by
 have hT:=tT hI;unfold pyNext;refine aa (wpAny_attempt (ip (name:=jw "__next__") hT gq (jd gq hT F.entry_dict_itemiterator_next ?_ (F.args_dict_itemiterator_next_1 _))));refine aa (af (aa (aa ?_)))
 first | refine aa (i9 hT (af ?_)) | refine aa (j6 hT (af ?_))
 refine aa (wpAny_fieldsOf hI rfl ?_);rw [show l9 "dict_itemiterator" = true by decide]; simp only [if_true]
 show wpAny _ _ (if (c0 dc == di)=true then _ else _) _ _ s
 rw [if_neg (show ¬ ((c0 dc == di)=true) from bx)]
 refine aa (af (aa (m6 h1 h2 ?_)));rw [if_neg (show ¬ _ by simp)];refine aa (af (aa (wpAny_dictEpoch h1 h2 ?_)));rw [if_neg (show ¬ _ by simp)];refine af ?_;simp only [show ¬ ((i:Int) < 0) by omega,if_false,Int.toNat_natCast,Array.getElem?_eq_none hge];refine aa ?_
 first | refine aa (i9 hT (af ?_)) | refine aa (j6 hT (af ?_))
 refine (show wpAny _ _ (setField (.ref it) 2 .none >>= _) _ _ s from aa (wpAny_setField hI rfl (by simp) ?_))
 refine (show wpAny _ _ (newExc (.type "StopIteration") [] >>= _) _ _ _ from aa ?_); simp only [newExc,newTuple]
 refine aa (fm (aa (m:=firstArgMember _ _) (wpAny_of_eq (a:=di) (by first | rfl | (simp only [firstArgMember]; rfl)) (fm ?_ (by size_fits)))) (by size_fits))
 simp only [raiseNew];refine aa (wpAny_handled ?_); rw [show A.in1.handled=none from hh]
 refine aa (af (wpAny_throw ?_)); refine aa (wpAny_isInstance (T:="StopIteration") (b:=true) ⟨_,ax _ rfl,rfl⟩ isSubtype_stop ?_);exact af (q _ (((fi ..).extBut.push _).push _))
end
structure Prs (es:Array k9) (lo:Addr) (h:Heap) (as:List Addr):Prop where
 above:∀ a∈as,lo < a
 rise:as.Pairwise (· < ·)
 pairs:∀ (j:Nat) a,as[j]?=some a->∃ e,es[j]?=some e/\h.get? a=some { cls:=.type "tuple",data:=.seq #[e.key,e.val] }
section
variable {prog:Program} {w:World} {A:Around} {s:Shared} {es:Array k9} {ep:Nat} {oc:Obj} {R:Result->Shared->Prop}
theorem IF {S I d:Addr} (hh:A.handled=none) (hSI:S < I) (hSd:d≠S) (hId:d≠I) (h2:oc.data=.dict es ep) (hn:es.size<=az) (res:Value) {h₁:Heap}
  (hR:∀ h' tk acc c as,(∀ b o,b≠S->b≠I->h₁.get? b=some o->h'.get? b=some o)->h'.get? S=some { cls:=.type "list",dict:=none,data:=.seq acc c,slots:=#[] }->as.length=es.size->Prs es I h' as->
   acc.toList=as.map c0->R (.ok (.ret res)) { s with heap:=h',toks:=tk }):
  ∀ (k i:Nat) (h:Heap) (tk c:Nat) (acc:Array Value) (as:List Addr) (f0:Value) (f1:Bool) (ok ov:Value),es.size - i=k->i<=es.size->ID f0->qL h I d i es.size ep f0 f1 ok ov->h.get? d=some oc->(∀ b o,b≠S->b≠I->h₁.get? b=some o->h.get? b=some o)->
   h.get? S=some { cls:=.type "list",dict:=none,data:=.seq acc c,slots:=#[] }->acc.toList=as.map c0->as.length=i->Prs es I h as->
   codeAny (model prog w) A (.builtin "list.extend.loop" ⟨[.ref S,.ref I,res],[]⟩) R { s with heap:=h,toks:=tk }:=by
 have hne:S≠I:=bu hSI;intro k
 induction k with
 | zero=>
  intro i h tk c acc as f0 f1 ok ov hk hi ff hst hD hkeep hS hacc hal hG;refine jm PySem.F.entry_extend_loop ?_;rw [gi i3 _]
  show wpAny _ A.in1 (pyNext (.ref I) >>= _) _ _ _
  refine aa (Dk (s:={ s with heap:=h,toks:=tk }) (A:=A.in1) hh hst hD h2 (by omega) fun h' he=>?_);refine af (hR h' tk acc c as (fun b o h1 h2 e=>he b o h2 (hkeep b o h1 h2 e)) (he S _ hne hS) (by omega) ⟨hG.above,hG.rise,fun j a hj=>?_⟩ hacc);obtain ⟨e,e1,e2⟩:=hG.pairs j a hj;exact ⟨e,e1,he a _ (gj (hG.above a (b7 hj))) e2⟩
 | succ k ih=>
  intro i h tk c acc as f0 f1 ok ov hk hi ff hst hD hkeep hS hacc hal hG;have hlt:i < es.size:=by omega
  have hsz:acc.size=i:=by rw [<- gv,hacc,aj,hal]
  have hIs:I < h.objs.size:=ay hst;have hSl:S < h.objs.size:=ay hS;refine jm PySem.F.entry_extend_loop ?_;rw [gi i3 _]
  show wpAny _ A.in1 (pyNext (.ref I) >>= _) _ _ _
  refine aa (Dj (s:={ s with heap:=h,toks:=tk }) (A:=A.in1) hst hD h2 hlt ff fun h' g0 g1 ok' ov' ff' hst' ht hkp=>?_);dsimp only at ht hkp ⊢;have hS':=hkp S _ hne hS;have up:∀ b o,b≠S->h'.get? b=some o->(h'.update S (fb (·.push (c0 h.objs.size)))).get? b=some o:=fun b o hb e=>(jo _ _ (ko hb)).trans e
  show wpAny _ A.in1 (updateSeq S (·.push (c0 h.objs.size)) >>= _) _ _ _
  refine aa ?_;refine wpAny_updateSeq hS' rfl (af ⟨k6 i3 _,ih (i+1) _ tk _ (acc.push (c0 h.objs.size)) (as++[h.objs.size]) g0 g1 ok' ov' (by omega) hlt ff' (up I _ (ko hne) hst') (up d _ hSd (hkp d _ hId hD))
   (fun b o h1 h2 e=>up b o h1 (hkp b o h2 (hkeep b o h1 h2 e))) (ig _ hS' rfl) (by rw [Array.toList_push,hacc,dz]; rfl) (by rw [bh,hal]; rfl) ⟨?_,?_,?_⟩⟩) (by rw [hsz]; omega) (by show (acc.push (c0 h.objs.size)).size<=az+1; rw [Array.size_push]; omega)
  ·intro a ha;rcases au.mp ha with ha | ha
   ·exact hG.above a ha
   ·rw [dm.mp ha]; exact hIs
  ·refine ar.mpr ⟨hG.rise,je _ _,fun a ha b hb=>?_⟩;rw [dm.mp hb];obtain ⟨j,hj⟩:=j0.mp ha;obtain ⟨e,_,e2⟩:=hG.pairs j a hj;exact ay e2
  ·intro j b hj;rcases Nat.lt_trichotomy j as.length with h1 | h1 | h1
   ·rw [bp h1] at hj;obtain ⟨e,e1,e2⟩:=hG.pairs j b hj;have hb:=hG.above b (b7 hj);exact ⟨e,e1,up b _ (gj (nj hSI hb)) (hkp b _ (gj hb) e2)⟩
   ·subst h1;have hb:h.objs.size=b:=by simpa using hj
    subst hb;exact ⟨es[i],by rw [hal]; simp [hlt],up _ _ (gj hSl) ht⟩
   ·have hnone:(as++[h.objs.size])[j]?=none:=ik (by rw [bh,List.length_singleton]; omega);rw [hnone] at hj; cases hj
end
end L2
namespace L2
open PySem PySem.Spec PyProof.Rows PySem.W
theorem Prs.low {es:Array k9} {lo lo':Addr} {h:Heap} {as:List Addr} (g:Prs es lo h as) (hl:lo'<=lo):Prs es lo' h as:=⟨fun a ha=>Nat.lt_of_le_of_lt hl (g.above a ha),g.rise,g.pairs⟩
section
variable {prog:Program} {w:World} {A:Around} {E:Value->Shared->Prop} {s:Shared} {es:Array k9} {ep:Nat} {oc:Obj} {r d:Addr}
theorem Dl {R:Result->Shared->Prop} (hh:A.handled=none) (hv:s.heap.IsItemsView r d) (hD:s.heap.get? d=some oc) (h2:oc.data=.dict es ep) (S:Addr) (hSr:S≠r) (hSd:d≠S) (res:Value) (c₀:Nat) (hS:s.heap.get? S=some { cls:=.type "list",data:=.seq #[] c₀ })
  (hR:∀ h' tk acc c as,(∀ b o,b≠S->s.heap.get? b=some o->h'.get? b=some o)->h'.get? S=some { cls:=.type "list",dict:=none,data:=.seq acc c,slots:=#[] }->as.length=es.size->Prs es s.heap.objs.size h' as->
   acc.toList=as.map c0->R (.ok (.ret res)) { s with heap:=h',toks:=tk }) (hn:es.size<=az):
  wpAny (model prog w) A.in1 (mz (.ref S) (.ref r) res)
   (fun fin s'=>match fin with | .done f=>R (.ok f) s' | .again c'=>c'.quiet=true/\codeAny (model prog w) A c' R s') (fun e s'=>R (.error e) s') s:=by
 have hSI:S < s.heap.objs.size:=ay hS;have hdI:d < s.heap.objs.size:=ay hD;have key:∀ (h:Heap) (c₁ tk:Nat),(∀ b o,b≠S->(s.heap.push { cls:=.type "dict_itemiterator",data:=.fields #[.none,.bool false,.ref d,.int 0 0,.int es.size 0,.int ep 0,.none,.none] }).get? b=some o->h.get? b=some o)->
   h.get? S=some { cls:=.type "list",data:=.seq #[] c₁ }->codeAny (model prog w) A (.builtin "list.extend.loop" ⟨[.ref S,.ref s.heap.objs.size,res],[]⟩) R { s with heap:=h,toks:=tk }:=by
  intro h c₁ tk hk hS₁;have hI:=hk s.heap.objs.size _ (gj hSI) (ax _ rfl);exact IF (es:=es) (ep:=ep) (oc:=oc) (s:=s) (h₁:=s.heap) hh hSI hSd (bu hdI) h2 hn res (fun h' tk' acc c as hk' hS' hl hG hacc=>hR h' tk' acc c as (fun b o hb e=>hk' b o hb (bu (ay e)) e) hS' hl hG hacc)
   es.size 0 h tk c₁ #[] [] .none false .none .none (i6 _) (dv _) (.inl rfl) hI (hk d _ hSd (ab _ hD)) (fun b o hb _ e=>hk b o hb (ab _ e)) hS₁ rfl rfl
   ⟨(fun _ ha=>nomatch ha),ix,(fun j a hj=>by simp at hj)⟩
 unfold mz;refine aa (mn (T:="dict_items") hv.typeIs ?_);have h1:Builtin.List.listSameRef (.ref S) (.ref r)=false:=by simp [Builtin.List.listSameRef,hSr]
 have h3:(Value.type "dict_items" == Value.type "list")=false:=by decide
 have h4:(Value.type "dict_items" == Value.type "tuple")=false:=by decide
 simp only [h1,h3,h4,Bool.or_false,d9,if_false];refine aa (CI hv hD h2 ?_);have hS₁:=ab { cls:=.type "dict_itemiterator",data:=.fields #[.none,.bool false,.ref d,.int 0 0,.int es.size 0,.int ep 0,.none,.none] } hS;refine aa (il (kdx_hint (let ⟨o,ho,hc,_⟩:=hv; ⟨o,ab _ ho,hc⟩) ?_));refine wpAny_ite_split (fun _=>?_) (fun _=>af ⟨k6 i3 _,key _ c₀ _ (fun b o _ e=>e) hS₁⟩);refine aa (lq ?_);refine aa ?_
 show wpAny _ _ (updateSeq S (·.push .none) >>= fun _=>updateSeq S (·.pop)) _ _ _
 refine aa (wpAny_updateSeq hS₁ rfl ?_);have hS₂:=ig (fb (·.push di)) hS₁ rfl;refine wpAny_updateSeq (hz:=by seq_fits) hS₂ rfl ?_;have hS₃:=ig (fb (·.pop)) hS₂ rfl;refine af ⟨k6 i3 _,key _ _ _ (fun b o hb e=>?_) hS₃⟩;exact (jo _ _ (ko hb)).trans ((jo _ _ (ko hb)).trans e)
end
section
variable {prog:Program} {w:World} {A:Around} {E:Value->Shared->Prop} {s:Shared} {es:Array k9} {ep:Nat} {oc:Obj} {r d:Addr}
theorem Bn {R:List Value->Shared->Prop} (hh:A.handled=none) (hv:s.heap.IsItemsView r d) (hD:s.heap.get? d=some oc) (h2:oc.data=.dict es ep) (hn:es.size<=az)
  (h:∀ (h':Heap) (tk:Nat) (as:List Addr),(∀ b o,s.heap.get? b=some o->h'.get? b=some o)->as.length=es.size->Prs es s.heap.objs.size h' as->R (as.map c0) { s with heap:=h',toks:=tk }):
  wpAny (model prog w) A (collect (.ref r)) R E s:=by
 have hr:r < s.heap.objs.size:=let ⟨_,ho,_⟩:=hv; ay ho;have hd:d < s.heap.objs.size:=ay hD;unfold collect;refine aa (wpAny_runValue (jm entry_proto_collect' ?_));rw [gi PySem.F.plain_proto_collect _]
 show wpAny _ A.in1 (newList [] >>= fun l=>again (.builtin "list.__iadd__" ⟨[l,.ref r],[]⟩)) _ _ s
 refine aa (fm ?_);refine af ⟨k6 PySem.F.plain_list_iadd _,jm entry_list_iadd' ?_⟩;rw [gi PySem.F.plain_list_iadd _];have hS₁:(s.heap.push { cls:=.type "list",data:=.seq ([]:List Value).toArray }).get? s.heap.objs.size=some { cls:=.type "list",data:=.seq #[] }:=ax _ rfl
 show wpAny _ A.in1 (mz (.ref s.heap.objs.size) (.ref r) (.ref s.heap.objs.size)) _ _ _
 have key:=Dl (A:=A) (s:={ s with heap:=s.heap.push { cls:=.type "list",data:=.seq ([]:List Value).toArray } }) (prog:=prog) (w:=w) (es:=es) (ep:=ep) (oc:=oc) (r:=r) (d:=d)
  (R:=fun (q:Result) (s':Shared)=>∃ (h':Heap) (tk:Nat) (acc':Array Value) (c':Nat) (as:List Addr),q=.ok (.ret (.ref s.heap.objs.size))/\s'={ s with heap:=h',toks:=tk }/\
   (∀ b o,s.heap.get? b=some o->h'.get? b=some o)/\h'.get? s.heap.objs.size=some { cls:=.type "list",dict:=none,data:=.seq acc' c',slots:=#[] }/\as.length=es.size/\Prs es s.heap.objs.size h' as/\acc'.toList=as.map c0)
  hh (let ⟨o,ho,x⟩:=hv; ⟨o,ab _ ho,x⟩) (ab _ hD) h2 s.heap.objs.size (gj hr) (bu hd) (.ref s.heap.objs.size) 0 hS₁
  (fun h' tk acc' c' as hk hS' hl hG hacc=>⟨h',tk,acc',c',as,rfl,rfl,fun b o e=>hk b o (bu (ay e)) (ab _ e),hS',hl,hG.low (by show s.heap.objs.size<=(s.heap.push _).objs.size; rw [gb]; exact Nat.le_succ _),hacc⟩) hn
 have fin:∀ (h':Heap) (tk:Nat) (acc':Array Value) (c':Nat) (as:List Addr),(∀ b o,s.heap.get? b=some o->h'.get? b=some o)->h'.get? s.heap.objs.size=some { cls:=.type "list",dict:=none,data:=.seq acc' c',slots:=#[] }->as.length=es.size->Prs es s.heap.objs.size h' as->acc'.toList=as.map c0->R acc'.toList { s with heap:=h',toks:=tk }:=fun h' tk acc' c' as hk _ hl hG hacc=>by
  rw [hacc];exact h h' tk as hk hl hG
 refine ja key (fun fn s' x=>?_) fun e s' x=>?_
 ·cases fn with
  | done f=>
   obtain ⟨h',tk,acc',c',as,e,rfl,hk,hS',hl,hG,hacc⟩:=x;cases e
   show wpAny _ A (load s.heap.objs.size >>= _) _ _ _
   refine aa (wpAny_load hS' (af ?_));exact fin h' tk acc' c' as hk hS' hl hG hacc
  | again c₁=>
   refine ⟨x.1,codeAny_mono x.2 fun q s₂ y=>?_⟩;obtain ⟨h',tk,acc',c',as,rfl,rfl,hk,hS',hl,hG,hacc⟩:=y
   show wpAny _ A (load s.heap.objs.size >>= _) _ _ _
   refine aa (wpAny_load hS' (af ?_));exact fin h' tk acc' c' as hk hS' hl hG hacc
 ·obtain ⟨_,_,_,_,_,e',_⟩:=x;cases e'
end
section
variable {C:MC} {k:Nat} {X:Cx} {φ:List Addr} {H:Hp}
theorem IG:∀ {ps:List PV} {vs:List V},ps.length=vs.length->(∀ (i:Nat) p v,ps[i]?=some p->vs[i]?=some v->RV C φ H p v)->RVs C φ H ps vs
 | [],[],_,_=>trivial
 | p :: ps,v :: vs,hl,h=>⟨h 0 p v rfl rfl,IG (by simpa using hl) fun i a b ha hb=>h (i+1) a b (by simpa using ha) (by simpa using hb)⟩
 | [],_ :: _,hl,_=>by cases hl
 | _ :: _,[],hl,_=>by cases hl
end
section
variable {C:MC} {k:Nat} {X:Cx}
def zG (h:PH) (n:Nat):Option (List PV):=match h[n]? with
 | some (.vw 0 d)=>match h[d]? with
  | some o=>pF o
  | none=>none
 | _=>none
end
end L2
namespace L2
open PySem PySem.Spec PyProof.Rows PySem.SeqAt PySem.W
def iN (x:PV) (h:PH):Option (List PV):=match x with
 | .ref n=>match aX h n with
  | some ys=>some ys
  | none=>zG h n
 | .fl ys=>some ys
 | _=>none
noncomputable def fG (f:Fn) (b:Bool) (kb:Nat) (x:PV) (h:PH):Rs PV:=match iN x h with
 | some ys=>if ys.length < 1000000 then dP f b kb ys ys [] h else .bad
 | none=>.bad
noncomputable def kH (f:Fn) (b:Bool) (kb:Nat) (me:Me):Me:=fun δ h=>(me δ h).bind fun x h1=>fG f b kb x h1
section
variable {C:MC} {k:Nat} {X:Cx}
theorem FI {pins:List (Addr×Obj)} {s:Shared} {σ:St} {φ:List Addr} {H:Hp} {h:PH} {a b:Addr} {d:Nat} {o:MO} {ys:List PV} (c:Cxt C k X) (I:Inv X pins σ H s) (rh:RH C φ H h) (hb:φ[d]?=some b) (hH:H a=some (Ha 0 a b)) (ho:h[d]?=some o) (ey:pF o=some ys) (hz:ys.length < 1000000):
  wpAny (model X.prog X.w) X.A.in1 (collect (.ref a)) (fun its s1=>∃ H1 us,uY H H1/\Inv X pins σ H1 s1/\aL us its/\RVs C φ H1 ys us) X.xe s:=by
 obtain ⟨ks,u,oc,es,ep,W⟩:=N1 c I rh hb ho (FG ey);have hv:s.heap.IsItemsView a b:=(I.hok a _ hH).1;obtain ⟨ly,ent⟩:=W.items ys ey;have lk:=W.len;have hn:es.size<=az:=by rw [gh]; omega
 refine Bn (I.ok.hd c.calm) hv W.get W.data hn fun h' tk as kp hl hG=>?_;have psl:(as.zip (ks.map fun kv=>[kv.1,kv.2])).map (·.1)=as:=by
  show (as.zip _).map iz=as
  rw [List.map_fst_zip];rw [aj];omega
 have hpl:∀ q∈as.zip (ks.map fun kv=>[kv.1,kv.2]),s.heap.objs.size<=q.1:=fun q hq=>by
  have:q.1∈as:=by rw [<- psl]; exact cz.mpr ⟨q,hq,rfl⟩
  exact mf (hG.above _ this)
 have nd:((as.zip (ks.map fun kv=>[kv.1,kv.2])).map (·.1)).Nodup:=by
  rw [psl];exact hG.rise.imp fun h=>bu h
 have each:∀ (j:Nat) (t:Addr),as[j]?=some t->∃ (kv:V×V) (e:k9),ks[j]?=some kv/\(as.zip (ks.map fun kv=>[kv.1,kv.2]))[j]?=some (t,[kv.1,kv.2])/\RelV kv.1 e.key/\RelV kv.2 e.val/\h'.get? t=some { cls:=.type "tuple",data:=.seq #[e.key,e.val] }:=fun j t ht=>by
  obtain ⟨e,e1,e2⟩:=hG.pairs j t ht;have hj:=(ae.mp ht).1;obtain ⟨kv,ekv,r1,r2⟩:=W.ent j (by omega);have ee:es[j]'(by omega)=e:=by
   have:=Array.getElem?_eq_getElem (xs:=es) (i:=j) (by omega);rw [this] at e1; cases e1; rfl
  refine ⟨kv,e,ekv,?_,by rw [<- ee]; exact r1,by rw [<- ee]; exact r2,e2⟩;rw [j4];exact ⟨ht,by simp [ekv]⟩
 have vr:∀ l:List Addr,aL (l.map V.ref) (l.map c0):=fun l=>by
  induction l with
  | nil=>exact .nil
  | cons a l ih=>exact .cons rfl ih
 refine ⟨_,as.map V.ref,wN I hpl,I.laidT (t':=tk) (ps:=as.zip (ks.map fun kv=>[kv.1,kv.2])) kp hpl (fun p hp=>?_),vr as,?_⟩
 ·obtain ⟨j,hj⟩:=j0.mp hp;have ha:as[j]?=some p.1:=by
   have:=congrArg (fun l=>l[j]?) psl;simp [hj] at this;exact this.symm
  obtain ⟨kv,e,_,e2,r1,r2,e3⟩:=each j p.1 ha;rw [hj] at e2;have eq2:p.2=[kv.1,kv.2]:=by
   have:=b8 e2;rw [this]
  refine ⟨by rw [eq2,gh]; show 2<=16777216; decide,[e.key,e.val],by rw [eq2]; exact .cons r1 (.cons r2 .nil),⟨_,e3,rfl,⟨0,rfl⟩,rfl⟩⟩
 ·refine IG (by rw [aj]; omega) fun i p v hp hvv=>?_;rw [bf] at hvv;obtain ⟨t,ht,rfl⟩:=b6.mp hvv;obtain ⟨kv,e,ekv,e2,_⟩:=each i t ht;obtain ⟨p1,p2,kv',rfl,ekv',q1,q2⟩:=ent i p hp;rw [ekv] at ekv';cases ekv'
  have T:=Kp.same (wN I hpl);exact ⟨t,[kv.1,kv.2],rfl,.inl (.inl (AR nd e2)),q1.mono av T,q2.mono av T,trivial⟩
section
variable {x:Str} {st:Stmt} {q:Addr} {fd:dq} {pn:List Str} {j:Nat} {f:Fn}
theorem Bo {b:Bool} {kb:Nat} {kw:List (Str×Value)} (c:Cxt C k X) (D:Def C.K X.mg x st q fd pn) (G:aT X.prog X.w C.K X.mg X.base CX0 j q fd pn (spM C 1 f)) (hj:j+2<=k)
  (ha1:∀ v,argsOk "sorted" ⟨[v],kw⟩) (ha2:∀ v,argsOk "list.sort" ⟨[.ref v],kw⟩) (ht:∀ v,Builtin.«list.sort» ⟨[.ref v],kw⟩=ksk_tree v (.ref q) b)
  {pins:List (Addr×Obj)} {s:Shared} {σ:St} {H:Hp} {Q:VK} {v:V} {u:Value} (I:Inv X pins σ H s) (ru:RelV v u) (h:r1 C (fG f b kb) v H Q):
  wpAny (model X.prog X.w) X.A (call (.builtin "sorted") [u] kw) (EP X pins σ Q) X.xe s:=by
 obtain ⟨φ,h,p,rh,rp,po⟩:=h;unfold fG at po;cases ei:iN p h with
 | none=>rw [ei] at po; exact po.elim
 | some ys=>
 rw [ei] at po;obtain ⟨h64,po⟩:=po.ite;refine call_function_entry_kw kind_sorted plain_sorted entry_sorted (ha1 u) ?_;unfold Builtin.«sorted»;refine aa (m:=checkCount "sorted" 1 1 _) (af ?_);have col:wpAny (model X.prog X.w) X.A.in1 (collect u) (fun its s1=>∃ H1 us,uY H H1/\Inv X pins σ H1 s1/\aL us its/\RVs C φ H1 ys us) X.xe s:=by
  have lcase:∀ {a:Addr} {vs:List V},v=.ref a->SqL C.K H a vs->RVs C φ H ys vs->wpAny (model X.prog X.w) X.A.in1 (collect u) (fun its s1=>∃ H1 us,uY H H1/\Inv X pins σ H1 s1/\aL us its/\RVs C φ H1 ys us) X.xe s:=fun {a vs} ev sa ra=>by
   subst ev;cases ru
   have sa':SqL X.K H a vs:=by rw [c.K]; exact sa
   obtain ⟨its,rv,pl,hz⟩:=I.list sa';refine collect_list pl.isList ?_ (by have:=rv.length; have:=ra.length; rw [gh]; omega);exact ⟨H,vs,fun _ _ z=>z,I.kept (t':=s.toks) fun b o e=>by
    have hlt:b < s.heap.objs.size:=ay e
    first
     | (rw [Heap.get?_update_ne _ _ _ _ (bu hlt),Heap.get?_push_ne _ _ _ (bu hlt)]; exact e)
     | exact ab _ e,rv,ra⟩
  unfold iN at ei;split at ei
  ·rename_i n;obtain ⟨a,ev,ha⟩:=rp;split at ei
   ·rename_i ys' e;cases ei
    obtain ⟨a2,vs,ha2,sa,ra⟩:=cA rh e;rw [ha] at ha2; cases ha2;exact lcase ev sa ra
   ·unfold zG at ei;split at ei
    ·rename_i d hv;split at ei
     ·rename_i o ho;subst ev;cases ru
      obtain ⟨bb,hb,hH⟩:=rh.at' n a _ ha hv;exact FI c I rh hb hH ho ei h64
     ·cases ei
    ·cases ei
  ·cases ei
   obtain ⟨a,vs,ev,sa,ra⟩:=rp;exact lcase ev sa.sq ra
  ·cases ei
 refine aa (ja col (fun its s1 hh=>?_) fun _ _ z=>z);obtain ⟨H1,us,sm,I1,rv,ry⟩:=hh;have po:=po.weak av (Kp.same sm);have rh:=rh.same sm;clear sm I;have hlu:us.length=its.length:=rv.length;have hly:ys.length=us.length:=ry.length;refine aa (wpAny_newList ?_ (by rw [gh]; omega));have hoL:(s1.heap.push (seqObj "list" its.toArray 0)).get? s1.heap.objs.size=some (seqObj "list" its.toArray 0):=ax _ rfl;have keep:∀ b o,s1.heap.get? b=some o->b≠s1.heap.objs.size/\(s1.heap.push (seqObj "list" its.toArray 0)).get? b=some o:=fun b o q=>⟨bu (ay q),ab _ q⟩;have fr:∀ kS,s1.heap.objs.size<=kS->X.s₀.heap.objs.size<=kS/\kS≠X.env.locals/\(∀ x c,X.env.cells.lookup x=some c->c≠kS)/\(∀ p∈X.pn++pins,p.1≠kS)/\kS∉X.fs:=fun kS hk=>Ib I1 hk
 show wpAny _ _ _ _ _ { s1 with heap:=s1.heap.push (seqObj "list" its.toArray 0) }
 refine aa (il (wpAny_call_entry_kw slot_list_sort ⟨_,hoL,rfl⟩ entry_list_sort ?body (ha2 _)))
 case body=>
  show wpAny (model X.prog X.w) X.A.in1.in1 (Builtin.«list.sort» ⟨[.ref s1.heap.objs.size],kw⟩) _ _ _
  rw [ht s1.heap.objs.size];refine CM (s:={ s1 with heap:=s1.heap.push (seqObj "list" its.toArray 0) }) (a:=s1.heap.objs.size) (κ:=tuples' (decide (kb≠2))) (vs:=its) hoL (by omega) (Iw C X pins σ φ H1 f b kb ys Q s1.heap.objs.size s1.heap.objs.size) ?h0 ?hget ?turn ?fin
  case h0=>
   intro kS e1 h' kp hk g1 g2;have hk':s1.heap.objs.size < kS:=by
    have:(s1.heap.push (seqObj "list" its.toArray 0)).objs.size<=kS:=hk;rw [gb] at this;exact this
   have I2:Inv X pins σ H1 { s1 with heap:=h' }:=I1.kept (t':=s1.toks) fun b o q=>kp b o (keep b o q).1 (keep b o q).2;have fk:=fr kS (mf hk');have fa:=fr s1.heap.objs.size (bj _);refine ⟨hk',H1,φ,h,[],[],I2.pins_of fun p hp=>?_,av,Kp.refl H1,rh,.nil,trivial,po⟩;rcases au.mp hp with hp | hp
   ·exact I2.pin p (ah _ hp)
   ·rcases bw.mp hp with rfl | hp
    ·exact ⟨g2,I1.hok.fresh (mf hk'),fk.2.1,fk.2.2.2.2,jN⟩
    ·rw [dm.mp hp];exact ⟨g1,I1.hok.fresh (bj _),fa.2.1,fa.2.2.2.2,jN⟩
  case hget=>
   rintro kS e1 ks e s' ⟨hz,H',φ',h',zs,ps,I',_⟩;exact ⟨gj hz,(I'.pin (s1.heap.objs.size,seqObj "list" #[] e1) (ah _ (ah _ (ao _ bg)))).1,(I'.pin (kS,seqObj "list" ks.toArray e) (ah _ (ah _ bg))).1⟩
  case turn=>
   intro kS e1 ks e s' y hy hJ;exact FH c D G hj ry rv rfl fr kS e1 ks e s' y hy hJ
  case fin=>
   rintro kS e1 ks e s' hl ⟨hz,H',φ',h',zs,ps,I',pp,tt,rh',rz,rp',po'⟩;have hd:ys.drop ks.length=[]:=List.drop_eq_nil_of_le (by omega);rw [hd] at po';unfold dP at po';cases es:xF b kb ps ys with
   | none=>rw [es] at po'; exact po'.elim
   | some out=>
   rw [es] at po';unfold xF at es;split at es
   ·rename_i hc;obtain ⟨hc1,hc2,ok,hc4⟩:=hc;cases es
    have hpz:ps.length=zs.length:=rp'.length;have hzk:zs.length=ks.length:=rz.length;have hu:=c.hu64;have hr:HRs s'.heap ps ks:=yY I' c.K 20 ok.ky rp' rz;have memD:∀ i,i < its.length->ps.getD i .non∈ps:=fun i hi=>by
     have h1:i < ps.length:=by omega
     have:ps.getD i .non=ps[i]:=by simp [h1]
     rw [this];exact cv h1
    refine ⟨fun i j=>ltN (ps.getD i .non) (ps.getD j .non),fun i j k hi hj hk h1 h2=>Dc h1 h2,fun i j hi hj h=>Dd h,fun h2 Q' E' hq=>?_,fun i j hi hj Q' hq=>?_,fun p g e2 a1 a2 kp he gk=>?_⟩
    ·exact L5 ok.m3 hr ok.fk (by omega) hq
    ·have mi:=memD i hi;have mj:=memD j hj;obtain ⟨bb,hb⟩:=j9.mp (ok.lt _ mi _ mj);have hq:Q' (ltN (ps.getD i .non) (ps.getD j .non)) s':=hq;rw [HU hb] at hq;obtain ⟨qs,eq,_⟩:=HY ok.m3 (ok.fk _ mj);exact HX (n:=19) (by show X.A.units+1+1+19 < cLine; omega) (ok.ky _ mi) (ok.ky _ mj) (HY ok.m3 (ok.fk _ mi)) ⟨qs,eq⟩ (hr.getD (by omega)) (hr.getD (by omega)) hb hq
    ·have hin:∀ i∈p,i < its.length:=fun i hi=>by simpa using a1.mem_iff.mp hi
     have fa:=fr s1.heap.objs.size (bj _);have fk:=fr kS (mf hz);have gka:=I'.pin (kS,seqObj "list" ks.toArray e) (ah _ (ah _ bg));have gaa:=I'.pin (s1.heap.objs.size,seqObj "list" #[] e1) (ah _ (ah _ (ao _ bg)));have I5:Inv X pins σ H' s':=I'.unpinned;have I6:=I5.adopt (a:=s1.heap.objs.size) (d:=kS) (o:=.lst (p.map fun i=>us.getD i .non)) (h':=g) gaa.2.1 gka.2.1 fa fk (fun x o h1 h2 q=>kp x o h1 h2 q) (by
      refine ⟨?_,p.map (fun i=>its.getD i di),e2,wO rv (fun i hi=>by have:=hin i hi; omega),he⟩;rw [aj,a1.length_eq,List.length_range,gh];omega)
     refine ⟨_,rfl,af ⟨_,rfl,.ref s1.heap.objs.size,_,I6,rfl,?_⟩⟩;refine po'.lnew rh' ?_ gaa.2.1;rw [<- Bk (b:=b) hc2 ok hc4 (p:=p) (by rw [hly,hlu]; exact a1) a2];exact (ry.mono pp tt).pick (fun i hi=>by have:=hin i hi; omega)
   ·cases es
end
section
variable {kf:Str} {st:Stmt} {q:Addr} {fd:dq} {pn:List Str} {j jb:Nat} {f:Fn} {e:Expr} {me:Me} {p pos kp kpos rp rpos:Pos}
theorem FJ {Q:VK} {b:Bool} {kb:Nat} {σ:St} {H:Hp} (h:rd C (kH f b kb me) σ H Q):MG (rd C me) NC σ H fun vs H1=>∃ x,vs=[x]/\r1 C (fG f b kb) x H1 Q:=by
 obtain ⟨φ,δ,h,rh,re,po⟩:=h;refine ⟨φ,δ,h,rh,re,(post.bind po).imp ?_⟩;rintro v H1 ⟨φ1,x,h1,p1,t1,rh1,rv1,q1⟩;exact ⟨v,rfl,φ1,h1,x,rh1,rv1,q1⟩
theorem Bp {kb:Nat} (D:Def C.K X.mg kf st q fd pn) (G:aT X.prog X.w C.K X.mg X.base CX0 j q fd pn (spM C 1 f)) (he:SE C k X e me) (hb:("sorted" : Str)∈C.bs) (hj:j+2<=k:=by decide) (hg:Gl X "sorted" := by rfl) (hgk:Gl X kf:=by rfl) (hdk:(kf == ("__debug__" : Str))=false:=by decide)
  (hst:b9 [e] X.env=(false,eval e X.env) :: b9 [] X.env:=by rfl) (hbk:backTo pos (b9 [e] X.env)=(false,eval e X.env) :: backTo pos (b9 [] X.env):=by rfl) (hpl:(backTo pos (b9 [e] X.env)).any (·.1)=false:=by rfl):
  SE C k X (.Call (.Name "sorted" p) [e] [⟨some "key",.Name kf kp,kpos⟩] pos) (kH f false kb me):=fun c pins s σ H Q I h=>by
 refine l0 (oO I hg (c.bn _ hb) PyProof.Rows.Boot.«sorted» ?_ (by decide) (by decide));refine callWith_kw (thn (DW (he c) Gy hst pos pins s σ H _ I (FJ h)) fun us s1 hh=>?_) hbk hpl;obtain ⟨vs,H1,I1,rv,x,rfl,r⟩:=hh;obtain ⟨u,rfl,ru⟩:=vals1 rv;refine kws_cons (xZ I1 hgk D.mg (kws_nil ?_) hdk)
 show wpAny _ _ (call (.builtin "sorted") [u] [(jw "key",.ref q)]) _ _ _
 exact Bo c D G hj (fun v=>ksk_s1 _ _) (fun v=>ksk_l1 _ _) (fun v=>ksk_t1 _ _) I1 ru r
end
end
section
variable {α:Type}
theorem IH {key emb:α->PV} {f:Fn} {m:Nat} {xs:List α} {x:PV} {h:PH} {Q:PV->PH->Prop} (e:iN x h=some (xs.map emb)) (h1:xs.length < 1000000) (ok:OkN m (xs.map key)) (hc:∀ a∈xs,∀ c∈xs,key a=key c->emb a=emb c)
  (hf:∀ d∈xs,∀ h (Q:PV->PH->Prop),(∀ h',Ext h h'->Q (key d) h')->(f [emb d] h).W Q)
  (k:∀ (os:List α) h',Ext h h'->os.Perm xs->os.Pairwise (fun a c=>ltN (key c) (key a)=false)->Q (.ref h'.length) (h'++[.lst (os.map emb)])):(fG f false m x h).W Q:=by
 obtain ⟨os,p,pw,es⟩:=Ld h1 ok hc;unfold fG;rw [e];dsimp only;rw [if_pos (by simpa using h1)]
 exact EB xs [] h hf es fun h' hx=>k os h' hx p pw
end
section
variable {δ:Ev} {h:PH} {m:Me}
@[simp] theorem tU {f:Fn} {b:Bool} {n:Nat}:kH f b n m δ h=(m δ h).bind fun x h1=>fG f b n x h1:=(rfl)
theorem Dm {n:Nat} {xs:List PV} (e:h[n]?=some (.lst xs)):iN (.ref n) h=some xs:=by
 simp [iN,aX,e]
theorem Bq {n d:Nat} {o:MO} (e:h[n]?=some (.vw 0 d)) (e2:h[d]?=some o):iN (.ref n) h=pF o:=by
 simp [iN,aX,zG,e,e2]
end
end L2
namespace L2
open PySem PySem.Spec PyProof.Rows PySem.W
section
variable {C:MC} {k:Nat} {X:Cx}
def N2:Ms:=fun _ _=>.bad
theorem Re {st:Stmt}:SSt C k X st N2:=fun c _ _ σ H _ I h=>by
 obtain ⟨φ,δ,h,rh,re,p⟩:=h;exact p.elim
end
end L2
namespace K38
open PySem L2
noncomputable section
def FK:Ms:=
 fW
def EC:Ms:=
 (Hq 1000000 (bT (mC (.bl true))) FK)
def ED:Fn:=mFn 1 EC
def pH:Ms:=
 (cZ (aD aS (mV 0) (cT (aA (cT (aA (mC (.int 0)) aG)) aG))))
def eE:Fn:=mFn 1 pH
def mF:Ms:=
 (cZ (bP 1 eE (aA (aD vAt (mV 0) (mC (.int 0))) aG)))
def cM:Fn:=mFn 1 mF
def tV:Ms:=
 (cZ (aD jL (bP 1 eE (aA (mV 0) aG)) (bP 1 eE (aA (mV 1) aG))))
def gU:Fn:=mFn 2 tV
def II:Ms:=
 (aQ (fX (bT (aD vIs (mV 1) (mC .non)))
  (cZ (cT (aA (mV 0) (aA (mC (.int 1)) aG))))
  fW)
 (aQ (fX (sX (bT (bP 2 gU (aA (mV 0) (aA (mV 1) aG)))))
  N2
  fW)
 (aQ (fX (bT (aD vEq (mSl (mV 1) gE (mP (mCB dU (aA (mV 0) aG)))) (mV 0)))
  (cZ (cT (aA (mV 1) (aA (mUn KG (mC (.int 1))) aG))))
  fW)
 (cZ (cT (aA (mV 0) (aA (mC (.int 1)) aG)))))))
def tW:Fn:=mFn 2 II
def mG:Ms:=
 (aQ (B1 (mV 0) (gTp 2 (gCn (gN 2) (gCn (gN 3) gNl))))
 (aQ (B1 (mV 1) (gTp 2 (gCn (gN 4) (gCn (gN 5) gNl))))
 (cZ (aD aS (mV 2) (cT (aA (cT (aA (mV 3) (aA (mV 4) (aA (mV 5) (aA (mC (.int 0)) aG))))) aG))))))
def fQ:Fn:=mFn 6 mG
def lE:Ms:=
 (yU (mMt isL (onL iI) (mV 11) (aA (aD aS (aD vAt (mV 11) (aD sR (mV 12) (mC (.int 1)))) (cT (aA (cT (aA (mC (.int 1)) (aA (mV 9) (aA (mV 10) (aA (mV 12) aG))))) aG))) aG)))
def jQ:Ms:=
 (aQ (B1 (mV 0) (gTp 3 (gCn (gN 1) (gCn (gN 2) (gCn (gN 3) gNl)))))
 (aQ (B1 (mV 3) (gTp 5 (gCn (gN 4) (gCn (gN 5) (gCn (gN 6) (gCn (gN 7) (gCn (gN 8) gNl)))))))
 (aQ (B1 (mV 1) (gTp 2 (gCn (gN 9) (gCn (gN 10) gNl))))
 (aQ (aZ 11 (qX (aA (bP 2 fQ (aA (cT (aA (mV 6) (aA (mV 7) aG))) (aA (mV 1) aG))) aG)))
 (aQ (jC (B4 (aA (mC (.int 1)) (aA (mCB dU (aA (mV 8) aG)) aG))) (gN 12) lE)
 (cZ (mV 11)))))))
def eU:Fn:=mFn 13 jQ
def eF:Ms:=
 (Ew "kept" (mV 0) CW)
def bL:Fn:=mFn 1 eF
def iZ:Ms:=
 (Ex (mV 4) (mUn (qZ "kept") (mV 0)) (mV 3))
def gH:Ms:=
 (aQ (aZ 2 (aD vAt (aD vAt (mV 1) (mC (.int 2))) (mC (.int 4))))
 (jC (Ln (aA (bP 1 eU (aA (mV 1) aG)) (aA (mV 2) aG))) (gTp 2 (gCn (gN 3) (gCn (gN 4) gNl))) iZ))
def cB:Fn:=mFn 5 gH
def gI:Ms:=
 (fX (bT (aD vE (mV 3) (mUn (qZ "kept") (mV 0))))
   (yU (mMt isL (onL iI) (mV 2) (aA (cT (aA (mV 3) (aA (mMt lA xG (mUn (qZ "kept") (mV 0)) (aA (mV 3) aG)) aG))) aG)))
   fW)
def jR:Ms:=
 (aQ (aZ 2 (qX aG))
 (aQ (jC (dB (mV 1)) (gN 3) gI)
 (cZ (kH cM false 2 (mV 2)))))
def dE:Fn:=mFn 4 jR
def iO:Ms:=
 (cZ (kH cM false 2 (KQ lA kG (mUn (qZ "kept") (mV 0)))))
def bY:Fn:=mFn 1 iO
def zH:Ms:=
 (aQ (fX (sY (bT (aD vEq (aD fA (aD jI (mV 0) (mC (.int 4))) (mC (.int 2))) (mC (.int 1)))) (bT (aD vGt (mV 0) (aD Fv (mC (.int 10)) (mC (.int 18))))))
  (cZ (aD fA (aD jI (aD jI (mV 0) (mC (.int 8))) (aD vAt (qX (aA (mC (.int 1)) (aA (aD Fv (mC (.int 10)) (mC (.int 9))) aG))) (aD sR (mV 1) (mC (.int 1))))) (aD Fv (mC (.int 10)) (mC (.int 9)))))
  fW)
 (aQ (aZ 2 (aD fA (aD CQ (aD aS (aD aS (mV 0) (aD CQ (mC (.int 7919)) (mV 1))) (mC (.int 1))) (mC (.int 48271))) (mC (.int 2147483647))))
 (cZ (aD fA (aD CQ (mV 2) (aD aS (aD jI (mV 2) (mC (.int 1009))) (mC (.int 69621)))) (mC (.int 2147483647))))))
def eR:Fn:=mFn 3 zH
def Br:Ms:=
 (aQ (aZ 2 (aD aS (mV 2) (aD vAt (mV 1) (aD fA (mV 3) (mC (.int 26))))))
  (aZ 3 (aD aS (aD jI (mV 3) (mC (.int 26))) (aD CQ (mC (.int 7)) (mV 4)))))
def Dn:Ms:=
 (aQ (aZ 1 (mC (.str "abcdefghijklmnopqrstuvwxyz")))
 (aQ (aZ 2 (mC (.str "")))
 (aQ (aZ 3 (aD jI (mV 0) (mC (.int 8))))
 (aQ (jC (wU (aA (aD aS (mC (.int 1)) (aD fA (mV 0) (mC (.int 8)))) aG)) (gN 4) Br)
 (cZ (mV 2))))))
def tX:Fn:=mFn 5 Dn
def xI:Ms:=
 (aQ (aZ 0 (aD fA (aD aS (aD CQ (mV 0) (mC (.int 48271))) (mC (.int 11))) (mC (.int 2147483647))))
  (aZ 3 (aD aS (mV 3) (aD vAt (mV 2) (aD fA (mV 0) (mC (.int 94)))))))
def zI:Ms:=
 (aQ (aZ 2 (mC (.str " !\"#$&'()*+,-./0123456789:;<=>?@ABCDEFGHIJKLMNOPQRSTUVWXYZ[\\]^_`")))
 (aQ (aZ 2 (aD aS (mV 2) (mC (.str "abcdefghijklmnopqrstuvwxyz{|}~"))))
 (aQ (aZ 3 (mC (.str "")))
 (aQ (jC (wU (aA (mV 1) aG)) (gN 4) xI)
 (cZ (mV 3))))))
def nN:Fn:=mFn 5 zI
def IJ:Ms:=
 (cZ (aD aS (mV 0) (cT (aA (cT (aA (mC (.int 0)) aG)) aG))))
def xJ:Fn:=mFn 1 IJ
def Do:Ms:=
 (aQ (aZ 4 (bP 2 eR (aA (mV 0) (aA (mC (.int 2)) aG))))
 (aQ (aZ 5 (aD aS (mC (.int 1)) (aD fA (aD jI (mV 4) (mC (.int 3))) (mC (.int 5)))))
 (aQ (fX (bT (aD vEq (aD fA (aD jI (mV 4) (mC (.int 15))) (mC (.int 8))) (mC (.int 3))))
  (aZ 5 (mC (.int 12)))
  fW)
 (aQ (fX (bT (aD vGt (mV 3) (mC (.int 200))))
  (aZ 5 (mC (.int 1)))
  fW)
 (aQ (aZ 6 (bP 1 tX (aA (aD jI (mV 4) (aD vAt (qX (aA (mC (.int 1)) (aA (mC (.int 1000)) (aA (mC (.int 100000000)) aG)))) (aD fA (mV 4) (mC (.int 3))))) aG)))
 (aQ (aZ 7 (cT aG))
 (aQ (fX (bT (aD vGt (mV 1) (mC (.int 1))))
  (aZ 7 (cT (aA (cT (aA (mV 6) (aA (aD sR (mV 1) (mC (.int 1))) aG))) aG)))
  fW)
 (cZ (cT (aA (cT (aA (mV 6) (aA (mV 1) aG))) (aA (mV 7) (aA (cT (aA (mC (.str "write")) (aA (cT (aA (mC (.str "t")) (aA (mC (.int 1)) aG))) (aA (aD vAt (mV 2) (mC (.int 0))) (aA (aD vAt (mV 2) (mC (.int 1))) (aA (bP 2 nN (aA (mV 4) (aA (mV 5) aG))) aG)))))) aG))))))))))))
def tY:Fn:=mFn 8 Do
def zJ:Ms:=
 (aQ (aZ 2 (cT aG))
 (aQ (aZ 3 (mC .non))
 (aQ (fX (bT (aD vGt (mV 1) (mC (.int 0))))
  (aZ 2 (aD vAt (mV 0) (aD sR (mV 1) (mC (.int 1)))))
  fW)
 (aQ (fX (bT (aD jL (mV 1) (mCB dU (aA (mV 0) aG))))
  (aZ 3 (aD vAt (mV 0) (mV 1)))
  fW)
 (cZ (bP 2 tW (aA (mV 2) (aA (mV 3) aG))))))))
def iP:Fn:=mFn 4 zJ
def tZ:Ms:=
 (fX (CV (sX (bT (bP 2 gU (aA (aD vAt (mV 0) (aD sR (mV 1) (mC (.int 1)))) (aA (aD vAt (mV 0) (mV 1)) aG))))) (bT (aD Bj (bP 1 xJ (aA (aD vAt (mV 0) (aD sR (mV 1) (mC (.int 1)))) aG)) (bP 1 xJ (aA (aD vAt (mV 0) (mV 1)) aG)))))
   (cZ (mC (.bl false)))
   fW)
def Dp:Ms:=
 (aQ (jC (B4 (aA (mC (.int 1)) (aA (mCB dU (aA (mV 0) aG)) aG))) (gN 1) tZ)
 (cZ (mC (.bl true))))
def mH:Fn:=mFn 2 Dp
def uA:Str->Option Fn:=fun (z:Str)=>if z=("Signs" : Str) then some dE else (fun _=>none) z
def uB:Str->Option Fn:=fun (z:Str)=>if z=("Signs" : Str) then some cB else (fun _=>none) z
def nO:Str->Option Fn:=fun (z:Str)=>if z=("Signs" : Str) then some bY else (fun _=>none) z
def rR:Ms:=
 (aQ (aZ 5 (bP 2 eR (aA (aD vAt (mV 0) (mV 4)) (aA (mC (.int 1)) aG))))
  (aQ (fX (sY (bT (aD vEq (aD fA (aD vAt (mV 0) (mV 4)) (mC (.int 4))) (mC (.int 0)))) (bT (aD vNe (mV 2) (qX aG))))
   (aQ (aZ 6 (aD fA (mV 5) (mCB dU (aA (mV 2) aG))))
   (aQ (aZ 7 (mSl (mV 3) (mP (mV 6)) (mP (aD aS (aD aS (mV 6) (mC (.int 1))) (aD fA (aD jI (mV 5) (mC (.int 301))) (mC (.int 5)))))))
   (aQ (yU (iY "cut" 1 uA (mV 1) (aA (mV 7) aG)))
   (aQ (aZ 2 (aD aS (mSl (mV 2) gE (mP (mV 6))) (mSl (mV 2) (mP (aD aS (mV 6) (mCB dU (aA (mV 7) aG)))) gE)))
   (aZ 8 (aD aS (mSl (mV 3) gE (mP (mV 6))) (mSl (mV 3) (mP (aD aS (mV 6) (mCB dU (aA (mV 7) aG)))) gE)))))))
   (aQ (aZ 6 (aD fA (mV 5) (aD aS (mCB dU (aA (mV 2) aG)) (mC (.int 1)))))
   (aQ (aZ 9 (bP 4 tY (aA (aD vAt (mV 0) (mV 4)) (aA (aD aS (mV 4) (mC (.int 1))) (aA (bP 2 iP (aA (mV 3) (aA (mV 6) aG))) (aA (mCB dU (aA (mV 2) aG)) aG))))))
   (aQ (yU (iY "write" 1 uB (mV 1) (aA (mV 9) aG)))
   (aQ (aZ 2 (aD aS (aD aS (mSl (mV 2) gE (mP (mV 6))) (dC [none] (tP (aD vAt (aD vAt (mV 9) (mC (.int 2))) (mC (.int 4)))) (gN 0) mB (mV 0))) (mSl (mV 2) (mP (mV 6)) gE)))
   (aZ 8 (mV 3)))))))
  (aQ (aZ 10 (iY "rows" 0 nO (mV 1) aG))
  (aQ (aZ 3 (dC [none,none] (dB (mV 10)) (gTp 2 (gCn (gN 0) (gCn (gN 1) gNl))) mB (mV 0)))
  (aQ (fX (CV (bT (aD vNe (dC [none,none] (dB (mV 10)) (gTp 2 (gCn (gN 0) (gCn (gN 1) gNl))) mB (mV 1)) (mV 2))) (sX (bT (bP 1 mH (aA (mV 3) aG)))))
   (cZ (mC (.bl false)))
   fW)
  (aQ (aZ 11 (mCB pE (aA (dC [none] (dB (mV 8)) (gN 0) mB (cT (aA (mV 0) (aA (mC (.bl true)) aG)))) aG)))
  (fX (bT (aD vNe (dC [none,some 11] (dB (mV 3)) (gN 0) (bT (aD vE (mV 0) (mV 1))) (mV 0)) (mV 8)))
   (cZ (mC (.bl false)))
   fW)))))))
def IK:Ms:=
 (aQ (aZ 1 (Ik "Signs" 0 bL aG))
 (aQ (aZ 2 (qX aG))
 (aQ (aZ 3 (qX aG))
 (aQ (jC (wU (aA (mCB Ey (aA (mCB dU (aA (mV 0) aG)) (aA (mC (.int 30)) aG))) aG)) (gN 4) rR)
 (cZ (mC (.bl true)))))))
def IL:Fn:=mFn 12 IK
end
end K38
namespace K38
open PySem L2
structure St where
 s:Int
 h:Str
 n:Int
 k:Int
 deriving DecidableEq
def stp (x:St):PV:=.tup [.int x.s,.str x.h,.int x.n,.int x.k]
theorem EE {x y:St} (h:stp x=stp y):x=y:=by
 obtain ⟨a,b,c,d⟩:=x;obtain ⟨a',b',c',d'⟩:=y;simp [stp] at h;simp [h]
def pl (xs:List St):PV:=.tup (xs.map stp)
theorem pI {xs ys:List St} (h:pl xs=pl ys):xs=ys:=by
 have h:xs.map stp=ys.map stp:=by simpa [pl] using h
 induction xs generalizing ys with
 | nil=>cases ys <;> simp at h ⊢
 | cons x xs ih=>
  cases ys with
  | nil=>simp at h
  | cons y ys=>
   simp at h;rw [EE h.1,ih (by simp [pl,h.2]) h.2]
theorem IM (xs:List St):(pl xs).pl 40=true:=by
 show (xs.map stp).all (PV.pl 39)=true
 rw [cy];intro p hp;obtain ⟨x,_,rfl⟩:=cz.mp hp;rfl
abbrev nP:PV:=.tup [.int 0]
def pJ (x y:St):Bool:=if x.s=y.s then (if x.h=y.h then (if x.n=y.n then decide (x.k < y.k) else decide (x.n < y.n)) else decide (x.h.cps.toList < y.h.cps.toList)) else decide (x.s < y.s)
def bef:List St->List St->Bool
 | [],[]=>false
 | [],y :: _=>decide (0<=y.s)
 | x :: _,[]=>decide (x.s < 0)
 | x :: xs,y :: ys=>if x=y then bef xs ys else pJ x y
theorem OB (n:Nat) (x y:St) (hne:x≠y):ltP (n+1) (stp x) (stp y)=some (pJ x y):=by
 obtain ⟨a,b,c,d⟩:=x;obtain ⟨a',b',c',d'⟩:=y
 by_cases h1:a=a'
 ·by_cases h2:b=b'
  ·by_cases h3:c=c'
   ·by_cases h4:d=d'
    ·exact absurd (by simp [h1,h2,h3,h4]) hne
    ·simp [ltP,ltL,stp,pJ,h1,h2,h3,h4]
   ·simp [ltP,ltL,stp,pJ,h1,h2,h3]
  ·simp [ltP,ltL,stp,pJ,h1,h2]
 ·simp [ltP,ltL,stp,pJ,h1]
theorem uC (n:Nat):∀ xs ys:List St,ltL (ltP (n+2)) (xs.map stp++[nP]) (ys.map stp++[nP])=some (bef xs ys)
 | [],[]=>by simp [ltL,bef]
 | [],y :: ys=>by
  have hne:nP≠stp y:=by simp [stp,nP]
  simp only [List.map_nil,i8,da,lg,ltL,if_neg hne,bef];simp only [ltP,stp,ltL]
  by_cases h:(0:Int)=y.s
  ·simp [<- h]
  ·have:decide ((0:Int) < y.s)=decide (0<=y.s):=by
    rw [d3]; simp; omega
   simp [h,this]
 | x :: xs,[]=>by
  have hne:stp x≠nP:=by simp [stp,nP]
  simp only [List.map_nil,i8,da,lg,ltL,if_neg hne,bef];simp only [ltP,stp,ltL]
  by_cases h:x.s=0
  ·simp [h]
  ·simp [h]
 | x :: xs,y :: ys=>by
  simp only [da,lg,ltL,bef]
  by_cases h:x=y
  ·subst h;simp only [if_true];exact uC n xs ys
  ·rw [if_neg fun z=>h (EE z),if_neg h];exact OB (n+1) x y h
theorem rS (xs:List St):(PV.tup (xs.map stp++[nP])).pl 40=true:=by
 show (xs.map stp++[nP]).all (PV.pl 39)=true
 rw [List.all_append,dw];exact ⟨IM xs,rfl⟩
theorem EF (xs:List St) (h:PH) (hx:xs.length<=1000):eE [pl xs] h=.ok (.tup (xs.map stp++[nP])) h:=by
 have w:(eE [pl xs] h).W fun p h'=>p=.tup (xs.map stp++[nP])/\h'=h:=by
  refine jD ?_;simp (disch:=first | omega | (simp; omega)) [pH,pl]
 obtain ⟨p,h',e,rfl,rfl⟩:=oY w;exact e
theorem IP {a b:Str} (h:a.cps.toList=b.cps.toList):a=b:=by
 obtain ⟨x⟩:=a;obtain ⟨y⟩:=b
 congr 1
 exact Array.toList_inj.mp h
theorem FL {a b:List Nat} (h:a < b):¬ b < a:=List.lt_asymm h
theorem Lo {a b:List Nat} (h:¬ a < b) (h':¬ b < a):a=b:=List.le_antisymm h' h
theorem IQ {x y:St} (h:x≠y):pJ y x=!pJ x y:=by
 obtain ⟨a,b,c,d⟩:=x;obtain ⟨a',b',c',d'⟩:=y;unfold pJ
 by_cases h1:a=a'
 ·subst h1
  by_cases h2:b=b'
  ·subst h2
   by_cases h3:c=c'
   ·subst h3;have h4:d≠d':=fun z=>h (by rw [z]);simp;rw [d3]; simp; omega
   ·have h3':¬ c'=c:=fun z=>h3 z.symm;simp [h3,h3'];rw [d3]; simp; omega
  ·have h2':¬ b'=b:=fun z=>h2 z.symm;have n1:b.cps.toList≠b'.cps.toList:=fun z=>h2 (IP z);simp [h2,h2'];rw [d3];simp only [decide_eq_true_eq,ji,decide_eq_false_iff_not];constructor
   ·intro z; exact FL z
   ·intro z;rcases Classical.em (b'.cps.toList < b.cps.toList) with q | q
    ·exact q
    ·exact absurd (Lo z q) n1
 ·have h1':¬ a'=a:=fun z=>h1 z.symm;simp [h1,h1'];rw [d3]; simp; omega
theorem uD:∀ xs:List St,bef xs xs=false
 | []=>rfl
 | x :: xs=>by simp [bef,uD xs]
theorem zK:∀ {xs ys:List St},xs≠ys->bef ys xs=!bef xs ys
 | [],[],h=>absurd rfl h
 | [],y :: ys,_=>by simp only [bef]; rw [d3]; simp
 | x :: xs,[],_=>by simp only [bef]; rw [d3]; simp
 | x :: xs,y :: ys,h=>by
  simp only [bef]
  by_cases e:x=y
  ·subst e;simp only [if_true];exact zK fun z=>h (by rw [z])
  ·rw [if_neg e,if_neg fun z=>e z.symm];exact IQ e
theorem Bs:(jw "").cps.toList=[]:=by decide +kernel
abbrev IR:Str:="abcdefghijklmnopqrstuvwxyz"
theorem IS:IR.cps.toList.length=26:=by decide +kernel
theorem FM:IR.length=26:=by decide +kernel
theorem IT:∀ i:Fin 26,IR.cps.toList[i.val]?=some (97+i.val):=by decide +kernel
theorem Bt {x:Str} {c:Nat}:(x++(⟨#[c]⟩:Str)).length=x.length+1:=by
 rw [Str.length_append]; rfl
theorem Lp {i:Int} (h0:0<=i) (h1:i < 26):atI IR.cps.toList i=some (97+i.toNat):=by
 rw [Ek h0 (by rw [IS]; exact h1)];exact IT ⟨i.toNat,by omega⟩
def Low (w:Str):Prop:=∀ c∈w.cps.toList,97<=c/\c<=122
theorem app_list (x y:Str):(x++y).cps.toList=x.cps.toList++y.cps.toList:=PySem.W.KT.app_list x y
theorem Lq (n:Int) (h:PH) (Q:PV->PH->Prop) (k:∀ w:Str,1<=w.length->w.length<=8->Low w->Q (.str w) h):(tX [.int n] h).W Q:=by
 refine jD ?_;simp (disch:=omega) [Dn,oZ];refine D3 (j:=1+n % 8) (fun q δ h'=>h'=h/\∃ w r x4,δ=[some (.int n),some (.str IR),some (.str w),some (.int r),x4]/\w.length=q/\Low w) ?_ ?_ ?_ ?_ ?_
 ·simp (disch:=omega)
 ·omega
 ·exact ⟨rfl,_,_,_,rfl,rfl,fun c hc=>by rw [Bs] at hc; cases hc⟩
 ·rintro q δ h' hq ⟨rfl,w,r,x4,rfl,hw,hlow⟩;have hc:=Lp (i:=r % 26) (by omega) (by omega);have hl:=FM;have h1:(⟨#[97+(r % 26).toNat]⟩:Str).length=1:=rfl;simp (disch:=omega) [Br,hc,oZ];refine ⟨by rw [Bt]; omega,fun c hc=>?_⟩;rw [app_list] at hc;rcases au.mp hc with hc | hc
  ·exact hlow c hc
  ·simp at hc;omega
 ·rintro δ h' ⟨rfl,w,r,x4,rfl,hw,hlow⟩;simp;exact k w (by omega) (by omega) hlow
theorem IU (u:List St) (s n:Int) (hd:Str) (h:PH) (hu:u.length<=1000):fQ [.tup [pl u,.int s],.tup [.str hd,.int n]] h=.ok (pl (u++[⟨s,hd,n,0⟩])) h:=by
 have w:(fQ [.tup [pl u,.int s],.tup [.str hd,.int n]] h).W fun p h'=>p=pl (u++[⟨s,hd,n,0⟩])/\h'=h:=by
  refine jD ?_;simp (disch:=first | omega | (simp; omega)) [mG,oZ,pl,stp]
 obtain ⟨p,h',e,rfl,rfl⟩:=oY w;exact e
def rC (u:List St) (s:Int) (hd:Str) (n:Int):Nat->List St
 | 0=>u++[⟨s,hd,n,0⟩]
 | k+1=>rC u s hd n k++[⟨1,hd,n,((k+1:Nat):Int)⟩]
def fB (u:List St) (s:Int) (hd:Str) (n:Int) (m:Nat):List (List St):=(d6 m).map (rC u s hd n)
theorem jS {u:List St} {s:Int} {hd:Str} {n:Int} {m:Nat}:(fB u s hd n m).length=m:=by simp [fB]
theorem IV {u:List St} {s:Int} {hd:Str} {n:Int} {m k:Nat} (hk:k < m):(fB u s hd n m)[k]?=some (rC u s hd n k):=by simp [fB,hk]
theorem FN {u:List St} {s:Int} {hd:Str} {n:Int} {m:Nat}:fB u s hd n (m+1)=fB u s hd n m++[rC u s hd n m]:=by simp [fB,List.range_succ]
theorem fR {u:List St} {s:Int} {hd:Str} {n:Int}:∀ k,(rC u s hd n k).length=u.length+1+k
 | 0=>by simp [rC]
 | k+1=>by simp [rC,fR k]; omega
theorem mI {u:List St} {s:Int} {hd:Str} {n:Int} (j:Nat):∀ d,∃ r,rC u s hd n (j+d)=rC u s hd n j++r/\∀ x∈r,x.s=1
 | 0=>⟨[],by simp,by simp⟩
 | d+1=>by
  obtain ⟨r,e,h⟩:=mI j d;refine ⟨r++[⟨1,hd,n,((j+d+1:Nat):Int)⟩],?_,fun x hx=>?_⟩
  ·show rC u s hd n (j+d)++[⟨1,hd,n,((j+d+1:Nat):Int)⟩]=_
   rw [e,ai]
  ·rcases au.mp hx with hx | hx
   ·exact h x hx
   ·rw [dm.mp hx]
theorem FO (u:List St) (s n:Int) (hd w:Str) (sn th:PV) (wd:Str) (h:PH) (Q:PV->PH->Prop) (hu:u.length<=900) (h0:1<=w.length) (h1:w.length<=12) (k:Q (.ref h.length) (h++[.lst ((fB u s hd n w.length).map pl)])):
  (eU [.tup [.tup [.str hd,.int n],sn,.tup [.str wd,th,pl u,.int s,.str w]]] h).W Q:=by
 refine jD ?_;simp (disch:=omega) [jQ,oZ,IU u s n hd _ (by omega)];refine Hz (lo:=1) (j:=w.length) (fun q δ h'=>h'=h++[.lst ((fB u s hd n (q+1)).map pl)]/\∃ x0 x1 x2 x3 x4 x5 x6 x7 x12,δ=[x0,x1,x2,x3,x4,x5,x6,x7,some (.str w),some (.str hd),some (.int n),some (.ref h.length),x12]) ?_ ?_ ?_ ?_ ?_
 ·simp (disch:=omega)
 ·omega
 ·exact ⟨rfl,_,_,_,_,_,_,_,_,_,rfl⟩
 ·rintro q δ h' hq ⟨rfl,x0,x1,x2,x3,x4,x5,x6,x7,x12,rfl⟩;have e1:(h++[MO.lst ((fB u s hd n (q+1)).map pl)])[h.length]?=some (.lst ((fB u s hd n (q+1)).map pl)):=bE;have e2:atI ((fB u s hd n (q+1)).map pl) (1+(q:Int) - 1)=some (pl (rC u s hd n q)):=by
   have:(1+(q:Int) - 1)=(q:Int):=by omega
   rw [this];exact lY (by rw [bf,IV (by omega)]; rfl)
  have e3:=fR (u:=u) (s:=s) (hd:=hd) (n:=n) q;have e4:=jS (u:=u) (s:=s) (hd:=hd) (n:=n) (m:=q+1);simp (disch:=first | omega | (simp; omega)) [lE,Ej e1,kE e1,e2,tF e1,pl]
  rw [FN (m:=q+1)];simp [rC,pl,stp];omega
 ·rintro δ h' ⟨rfl,x0,x1,x2,x3,x4,x5,x6,x7,x12,rfl⟩;simp;have:w.length - 1+1=w.length:=by omega
  rw [this];exact k
abbrev al1:Str:=" !\"#$&'()*+,-./0123456789:;<=>?@ABCDEFGHIJKLMNOPQRSTUVWXYZ[\\]^_`"
abbrev al2:Str:="abcdefghijklmnopqrstuvwxyz{|}~"
def al:Str:=al1++al2
theorem OC:al.cps.toList.length=94:=by decide +kernel
theorem Lr:al.length=94:=by decide +kernel
theorem OD:∀ i:Fin 94,(al.cps.toList[i.val]?).any (fun c=>decide (c < 128))=true:=by decide +kernel
theorem Rf {i:Int} (h0:0<=i) (h1:i < 94):∃ c,atI al.cps.toList i=some c/\c < 128:=by
 rw [Ek h0 (by rw [OC]; exact h1)];have:=OD ⟨i.toNat,by omega⟩;cases e:al.cps.toList[i.toNat]? with
 | none=>rw [e] at this; cases this
 | some c=>rw [e] at this; exact ⟨c,rfl,by simpa using this⟩
def Asc (w:Str):Prop:=∀ c∈w.cps.toList,c < 128
theorem IW (n m:Int) (hm:0<=m/\m<=12) (h:PH) (Q:PV->PH->Prop) (k:∀ w:Str,w.length=m.toNat->Asc w->Q (.str w) h):(nN [.int n,.int m] h).W Q:=by
 refine jD ?_;have l1:(jw " !\"#$&'()*+,-./0123456789:;<=>?@ABCDEFGHIJKLMNOPQRSTUVWXYZ[\\]^_`").length=64:=by decide +kernel
 have l2:(jw "abcdefghijklmnopqrstuvwxyz{|}~").length=30:=by decide +kernel
 simp (disch:=omega) [zI,oZ];refine D3 (j:=m) (fun q δ h'=>h'=h/\∃ n w x4,δ=[some (.int n),some (.int m),some (.str al),some (.str w),x4]/\w.length=q/\Asc w) ?_ ?_ ?_ ?_ ?_
 ·simp (disch:=omega)
 ·omega
 ·exact ⟨rfl,_,_,_,rfl,rfl,fun c hc=>by rw [Bs] at hc; cases hc⟩
 ·rintro q δ h' hq ⟨rfl,n,w,x4,rfl,hw,hlow⟩;obtain ⟨c,hc,hc1⟩:=Rf (i:=(n*48271+11) % 2147483647 % 94) (by omega) (by omega);have hl:=Lr;have h1:(⟨#[c]⟩:Str).length=1:=rfl;simp (disch:=omega) [xI,hc,oZ];refine ⟨_,_,⟨rfl,rfl⟩,by rw [Bt]; omega,fun d hd=>?_⟩;rw [app_list] at hd;rcases au.mp hd with hd | hd
  ·exact hlow d hd
  ·simp at hd;omega
 ·rintro δ h' ⟨rfl,n,w,x4,rfl,hw,hlow⟩;simp;exact k w (by omega) hlow
def wr (hd:Str) (n:Int) (sn:PV) (u:List St) (s:Int) (w:Str):PV:=.tup [.tup [.str hd,.int n],sn,.tup [.str "write",.tup [.str "t",.int 1],pl u,.int s,.str w]]
theorem len_list (z:Str):z.cps.toList.length=z.length:=by simp [Str.length]
def rwP (r:List St×Nat):PV:=.tup [pl r.1,.str ⟨#[r.2]⟩]
def aY (u:List St) (s:Int) (hd:Str) (n:Int) (w:Str):List (List St×Nat):=(fB u s hd n w.length).zip w.cps.toList
def kvR (R:List (List St×Nat)):List (PV×PV):=R.map fun r=>(pl r.1,.str ⟨#[r.2]⟩)
def uE (R:List (List St×Nat)) (r:List St×Nat):List (List St×Nat):=if r.1∈R.map (·.1) then R.map fun q=>if q.1=r.1 then r else q else R++[r]
theorem Bu (R:List (List St×Nat)) (p:List St):bR (kvR R) (pl p)=(R.find? fun r=>decide (r.1=p)).map fun r=>.str ⟨#[r.2]⟩:=by
 induction R with
 | nil=>rfl
 | cons r R ih=>
  unfold kvR at ih ⊢
  by_cases e:r.1=p
  ·simp [bR,e]
  ·have:pl r.1≠pl p:=fun z=>e (pI z);have this':pl p≠pl r.1:=fun z=>this z.symm;simp [bR,e,this,this',ih]
theorem Bv (R:List (List St×Nat)) (p:List St):(bR (kvR R) (pl p)).isSome=decide (p∈R.map (·.1)):=by
 rw [Bu,Option.isSome_map,d3,List.find?_isSome,decide_eq_true_iff,cz];simp
theorem Ls (R:List (List St×Nat)) (r:List St×Nat):iK (kvR R) (pl r.1) (.str ⟨#[r.2]⟩)=kvR (uE R r):=by
 unfold iK uE;rw [Bv]
 by_cases c:r.1∈R.map (·.1)
 ·rw [if_pos (by simpa using c),if_pos c]
  unfold kvR;rw [km,km];refine List.map_congr_left fun q _=>?_
  show (if pl q.1=pl r.1 then (pl q.1,PV.str ⟨#[r.2]⟩) else (pl q.1,PV.str ⟨#[q.2]⟩))=(pl (if q.1=r.1 then r else q).1,PV.str ⟨#[(if q.1=r.1 then r else q).2]⟩)
  by_cases e:q.1=r.1
  ·rw [if_pos (by rw [e]),if_pos e,e]
  ·rw [if_neg (fun z=>e (pI z)),if_neg e]
 ·rw [if_neg (by simpa using c),if_neg c]
  simp [kvR]
theorem IX (R:List (List St×Nat)) (p:List St):qG (kvR R) (pl p)=kvR (R.filter fun r=>decide (r.1≠p)):=by
 unfold qG kvR;rw [List.filter_map]
 congr 1
 refine List.filter_congr fun r _=>?_
 show decide (pl r.1≠pl p)=decide (r.1≠p)
 by_cases e:r.1=p
 ·simp [e]
 ·have:pl r.1≠pl p:=fun z=>e (pI z);simp [e,this]
theorem OE {δ:Ev} {h h1:PH} {E:FE} {ms:Ma} {tg:Mg} {body:Ms} {n:Nat} {xs:List PV} {x:Str} (I:Nat->Ev->PH->Prop) (e:ms δ h=.ok [.ref n,.str x] h1) (ha:(x.cps.all fun c=>decide (c < 128))=true) (el:aX h1 n=some xs) (h0:I 0 δ h1)
  (keep:∀ q δ h,I q δ h->tB n xs h=true)
  (step:∀ (q:Nat) y δ h,(rB xs x)[q]?=some y->I q δ h->∃ δ1,tg y δ=some δ1/\(body δ1 h).W { nx:=I (q+1),ct:=I (q+1),rt:=E.rt,bk:=E.nx })
  (fin:∀ δ h,I (rB xs x).length δ h->E.nx δ h):(jC (Ln ms) tg body δ h).W E:=by
 have go:(fE (tB n xs) tg body (rB xs x) δ h1).W E:=pA I _ 0 δ h1 h0 (fun q y δ h _ hx hi=>⟨keep q δ h hi,by
  rw [i6] at hx;exact step q y δ h hx hi⟩) (fun δ h hi=>⟨keep _ δ h hi,fin δ h (by simpa using hi)⟩)
 unfold jC Ln;rw [e,Rs.bind_ok];unfold OA;dsimp only;rw [if_pos ha,el];exact go
theorem xK (u:List St) (s n:Int) (hd w:Str):rB ((fB u s hd n w.length).map pl) w=(aY u s hd n w).map rwP:=by
 unfold rB aY;rw [List.map_zip_eq_zipWith,List.zipWith_map_left];rfl
def jT (h:PH) (a d:Nat) (R:List (List St×Nat)):Prop:=h[a]?=some (.ins "Signs" [("kept",.ref d)])/\bU h d=some (kvR R)
theorem jT.fld {h:PH} {a d:Nat} {R:List (List St×Nat)} (t:jT h a d R):qZ "kept" (.ref a) h=.ok (.ref d) h:=zA t.1 rfl
theorem EG (p:List St):(PV.tup (p.map stp)).ky 6=true:=by
 show (p.map stp).all (PV.ky 5)=true
 rw [List.all_map];exact cy.mpr fun y _=>rfl
theorem EH {h:PH} {n:Nat} {kvs kvs':List (PV×PV)} (e:bU h n=some kvs):bU (h.set n (.dD kvs')) n=some kvs':=by
 have hn:∃ o,h[n]?=some o:=by
  unfold bU at e;split at e
  ·exact ⟨_,by assumption⟩
  ·exact ⟨_,by assumption⟩
  ·cases e
 obtain ⟨o,ho⟩:=hn;exact Er (HC ho)
theorem EI {w:Str} (h:Asc w):(w.cps.all fun c=>decide (c < 128))=true:=by
 rw [Array.all_eq_true_iff_forall_mem];intro c hc;exact decide_eq_true (h c (by simpa using hc))
theorem IY (R:List (List St×Nat)) (r:List St×Nat):(uE R r).length<=R.length+1:=by
 unfold uE;split
 ·rw [aj]; omega
 ·simp
theorem FP (l:List (List St×Nat)):∀ R,(l.foldl uE R).length<=R.length+l.length:=by
 induction l with
 | nil=>intro R; simp
 | cons r l ih=>
  intro R;have:=ih (uE R r);have:=IY R r;simp only [List.foldl_cons,cx];omega
theorem IZ {h:PH} {a d:Nat} {R:List (List St×Nat)} (t:jT h a d R) (lR:R.length<=100000) (u:List St) (s n:Int) (hd w:Str) (sn:PV) (hu:u.length<=900) (h0:1<=w.length) (h1:w.length<=12) (asc:Asc w) (Q:PV->PH->Prop)
  (k:∀ h',(∀ i o,i≠d->h[i]?=some o->h'[i]?=some o)->bU h' d=some (kvR ((aY u s hd n w).foldl uE R))->Q .non h'):(cB [.ref a,wr hd n sn u s w] h).W Q:=by
 refine jD ?_;have ep:eU [wr hd n sn u s w] h=.ok (.ref h.length) (h++[.lst ((fB u s hd n w.length).map pl)]):=by
  have:=FO u s n hd w sn (.tup [.str "t",.int 1]) "write" h (fun p h'=>p=.ref h.length/\h'=h++[.lst ((fB u s hd n w.length).map pl)]) hu h0 h1 ⟨rfl,rfl⟩;obtain ⟨p,h',e,rfl,rfl⟩:=oY this;exact e
 unfold gH;rw [bF];have e4:vIx (wr hd n sn u s w) (.int 2) h=.ok (.tup [.str "write",.tup [.str "t",.int 1],pl u,.int s,.str w]) h:=by
  simp [wr]
 simp [e4];refine now ?_;have dl:d < h.length:=by
  have g:=t.2;unfold bU at g;split at g
  ·rename_i e; exact (ae.mp e).1
  ·rename_i e; exact (ae.mp e).1
  ·cases g
 have hA:(h++[MO.lst ((fB u s hd n w.length).map pl)])[h.length]?=some (.lst ((fB u s hd n w.length).map pl)):=bE;have xA:Ext h (h++[MO.lst ((fB u s hd n w.length).map pl)]):=Ext.app _ _;generalize h++[MO.lst ((fB u s hd n w.length).map pl)]=hB at ep hA xA;have ad:a≠d:=fun e=>by
  have g:=t.2;rw [<- e] at g;unfold bU at g;rw [t.1] at g;cases g
 have lw:(aY u s hd n w).length<=12:=by
  unfold aY;rw [List.length_zip,jS];omega
 refine OE (n:=h.length) (xs:=(fB u s hd n w.length).map pl) (x:=w) (h1:=hB) (fun r δ h'=>(∀ i o,i≠d->hB[i]?=some o->h'[i]?=some o)/\bU h' d=some (kvR (((aY u s hd n w).take r).foldl uE R))/\∃ x3 x4,δ=[some (.ref a),some (wr hd n sn u s w),some (.str w),x3,x4]) (by simp [ep]) (EI asc) (by unfold aX; rw [hA]) ?_ ?_ ?_ ?_
 ·refine ⟨fun _ _ _ e=>e,?_,_,_,rfl⟩;obtain ⟨o,ho,_,hh⟩:=jO t.2;simpa using hh _ (xA _ _ ho)
 ·rintro r δ h' ⟨k1,_⟩;unfold tB aX;rw [k1 _ _ (by omega) hA];exact PV.beqs_self _
 ·rintro r y δ h' hy ⟨k1,g1,x3,x4,rfl⟩;rw [xK,bf] at hy;obtain ⟨q,hq,rfl⟩:=b6.mp hy;refine ⟨[some (.ref a),some (wr hd n sn u s w),some (.str w),some (pl q.1),some (.str ⟨#[q.2]⟩)],by simp [rwP],?_⟩;have hr:=(ae.mp hq).1;have htk:(aY u s hd n w).take (r+1)=(aY u s hd n w).take r++[q]:=by rw [List.take_add_one,hq]; rfl
  have l1:=FP ((aY u s hd n w).take r) R;rw [bq] at l1;have p1:qJ (.ref d) (pl q.1) (.str ⟨#[q.2]⟩) h'=some (h'.set d (.dD (iK (kvR (((aY u s hd n w).take r).foldl uE R)) (pl q.1) (.str ⟨#[q.2]⟩)))):=Lb g1 (EG _) (by simp [kvR]; omega);rw [Ls] at p1;have ef:qZ "kept" (.ref a) h'=.ok (.ref d) h':=zA (k1 _ _ ad (xA _ _ t.1)) rfl;unfold iZ;simp [ef,p1];refine ⟨fun i o hi ho=>by rw [fe (ko hi)]; exact k1 i o hi ho,?_⟩;rw [htk,List.foldl_append];exact EH g1
 ·rintro δ h' ⟨k1,g1,x3,x4,rfl⟩;rw [xK,aj,List.take_length] at g1;exact k h' (fun i o hi ho=>k1 i o hi (xA _ _ ho)) g1
def rk (xs:List St):PV:=.tup (xs.map stp++[nP])
theorem Ti (Ps:List (List St)):OkN 2 (Ps.map rk):=by
 refine ⟨by omega,fun v hv=>?_,fun v hv=>?_,fun v hv u hu=>?_⟩
 ·obtain ⟨xs,_,rfl⟩:=cz.mp hv
  show (xs.map stp++[nP]).all (PV.ky 19)=true
  rw [List.all_append,dw,List.all_map];exact ⟨cy.mpr fun y _=>rfl,rfl⟩
 ·obtain ⟨xs,_,rfl⟩:=cz.mp hv;cases xs <;> rfl
 ·obtain ⟨xs,_,rfl⟩:=cz.mp hv;obtain ⟨ys,_,rfl⟩:=cz.mp hu
  show (ltL (ltP 19) (xs.map stp++[nP]) (ys.map stp++[nP])).isSome=true
  rw [uC 17 xs ys];rfl
theorem OF {xs ys:List St} (h:rk xs=rk ys):pl xs=pl ys:=by
 unfold rk at h;unfold pl;have:=PV.tup.inj h;rw [(List.append_inj' this rfl).1]
theorem Dq (xs ys:List St):ltN (rk xs) (rk ys)=bef xs ys:=HU (n:=20) (by show ltL (ltP 19) _ _=_; exact uC 17 xs ys)
theorem Dr {α β:Type}:∀ {l:List (α×β)},(l.map (·.1)).Nodup->∀ {a b:α×β},a∈l->b∈l->a.1=b.1->a=b
 | [],_,a,b,ha,_,_=>by cases ha
 | x :: r,nd,a,b,ha,hb,e=>by
  rw [da,i4] at nd;rcases bw.mp ha with q | ha'
  ·rcases bw.mp hb with z | hb'
   ·rw [q,z]
   ·exact (nd.1 (cz.mpr ⟨b,hb',by rw [<- e,q]⟩)).elim
  ·rcases bw.mp hb with z | hb'
   ·exact (nd.1 (cz.mpr ⟨a,ha',by rw [e,z]⟩)).elim
   ·exact Dr nd.2 ha' hb' e
def SRt (os:List (List St×Nat)):Prop:=os.Pairwise fun a c=>bef c.1 a.1=false
theorem SRt.uniq {os os':List (List St×Nat)} (h:SRt os) (h':SRt os') (p:os.Perm os') (nd:(os.map (·.1)).Nodup):os=os':=by
 refine List.Perm.eq_of_pairwise (fun a b ha hb l1 l2=>?_) h h' p;have hb':=p.mem_iff.mpr hb;have e:a.1=b.1:=by
  by_cases c:a.1=b.1
  ·exact c
  ·have:=zK c;rw [l1,l2] at this;cases this
 exact Dr nd ha hb' e
theorem qM (r:List St×Nat) (h:PH) (hr:r.1.length<=1000):cM [rwP r] h=.ok (rk r.1) h:=by
 have w:(cM [rwP r] h).W fun p h'=>p=rk r.1/\h'=h:=by
  refine jD ?_;simp [mF,rwP,EF r.1 h hr,rk]
 obtain ⟨p,h',e,rfl,rfl⟩:=oY w;exact e
theorem Bw {f:Fn} (hf:∀ r h,r.1.length<=1000->f [rwP r] h=.ok (rk r.1) h) {R:List (List St×Nat)} (lR:R.length < 1000000) (hp:∀ r∈R,r.1.length<=1000) (nd:(R.map (·.1)).Nodup) {x:PV} {h:PH} (e:iN x h=some (R.map rwP)) (Q:PV->PH->Prop)
  (k:∀ os h',Ext h h'->os.Perm R->SRt os->Q (.ref h'.length) (h'++[.lst (os.map rwP)])):(fG f false 2 x h).W Q:=by
 refine IH (key:=fun r:List St×Nat=>rk r.1) (emb:=rwP) e lR ?_ (fun a ha c hc z=>?_) (fun r hr h Q q=>?_) fun os h' hx p pw=>k os h' hx p (pw.imp fun {a c} z=>by rw [Dq] at z; exact z)
 ·have:=Ti (R.map (·.1))
  rwa [km] at this
 ·have e1:a.1=c.1:=pI (OF z);rw [Dr nd ha hc e1]
 ·rw [hf r h (hp r hr)];simpa using q h (Ext.refl h)
theorem zL {h:PH} {n:Nat} {kvs:List (PV×PV)} (e:bU h n=some kvs):∃ o,h[n]?=some o/\Ip (some o)=true/\pF o=some (kvs.map fun kv=>.tup [kv.1,kv.2]):=by
 unfold bU at e;split at e
 ·rename_i k hk; cases e; exact ⟨_,hk,rfl,rfl⟩
 ·rename_i hk; cases e; exact ⟨_,hk,rfl,rfl⟩
 ·cases e
theorem FQ (R:List (List St×Nat)):(kvR R).map (fun kv=>PV.tup [kv.1,kv.2])=R.map rwP:=by
 unfold kvR;rw [km];rfl
theorem Lu {h:PH} {a d:Nat} {R:List (List St×Nat)} (t:jT h a d R) (lR:R.length < 1000000) (hp:∀ r∈R,r.1.length<=1000) (nd:(R.map (·.1)).Nodup) (Q:PV->PH->Prop)
  (k:∀ os h' l,Ext h h'->h.length<=l->h'[l]?=some (.lst (os.map rwP))->os.Perm R->SRt os->Q (.ref l) h'):(bY [.ref a] h).W Q:=by
 refine jD ?_;unfold iO;obtain ⟨o,ho,hd,hi⟩:=zL t.2;rw [FQ] at hi;obtain ⟨_,_,hD,_⟩:=jO t.2;have e0:KQ lA kG (mUn (qZ "kept") (mV 0)) [some (.ref a)] h=.ok (.ref h.length) (h++[.vw 0 d]):=by
  simp [t.fld,hD,Dh ho hd]
 have ho1:(h++[MO.vw 0 d])[d]?=some o:=Ext.app _ _ _ _ ho;have hl:h.length<=(h++[MO.vw 0 d]).length:=(Ext.app h [MO.vw 0 d]).len;simp only [Ht,tU];refine (congrArg (fun r=>Rs.W (Rs.bind r _) _) e0).mpr ?_;rw [Rs.bind_ok];exact Bw qM lR hp nd (by rw [Bq bE ho1,hi]) _ fun os h' hx p s=>k os _ _ ((Ext.app _ _).trans (hx.trans (Ext.app _ _))) (ft hl hx.len) bE p s
theorem EJ (p:List St):(pl p).isKt=true:=EG p
theorem uF:∀ {l:List (List St×Nat)} {r:List St×Nat},(l.map (·.1)).Nodup->r∈l->l.filter (fun q=>decide (q.1=r.1))=[r]
 | [],r,_,h=>by cases h
 | x :: l,r,nd,h=>by
  rw [da,i4] at nd;rcases bw.mp h with rfl | h
  ·rw [List.filter_cons_of_pos (by simp)]
   congr 1
   rw [List.filter_eq_nil_iff];intro q hq e;exact nd.1 (cz.mpr ⟨q,hq,by simpa using e⟩)
  ·have:x.1≠r.1:=fun e=>nd.1 (cz.mpr ⟨r,h,e.symm⟩);rw [List.filter_cons_of_neg (by simpa using this)]
   exact uF nd.2 h
theorem xM {l:List (List St×Nat)} {p:List St×Nat->Bool} (nd:(l.map (·.1)).Nodup):((l.filter p).map (·.1)).Nodup:=List.Sublist.nodup (List.Sublist.map _ List.filter_sublist) nd
def cG (R:List (List St×Nat)) (g:List (List St)):List (List St×Nat):=R.filter fun r=>decide (r.1∉g)
def inR (R:List (List St×Nat)) (g:List (List St)):List (List St×Nat):=R.filter fun r=>decide (r.1∈g)
theorem pK (R:List (List St×Nat)) (g:List (List St)) (p:List St):cG R (g++[p])=(cG R g).filter fun r=>decide (r.1≠p):=by
 unfold cG;rw [List.filter_filter];refine List.filter_congr fun r _=>?_
 by_cases h1:r.1∈g <;> by_cases h2:r.1=p <;> simp [h1,h2]
theorem Bx (R:List (List St×Nat)) (p:List St) (h:p∉R.map (·.1)):R.filter (fun r=>decide (r.1≠p))=R:=by
 rw [gz];intro r hr;exact decide_eq_true fun e=>h (cz.mpr ⟨r,hr,e⟩)
theorem Lv {G R:List (List St×Nat)} {g:List (List St)} (h:(G++cG R g).Perm R):G.Perm (inR R g):=by
 have h2:(inR R g++cG R g).Perm R:=by
  have:=List.filter_append_perm (fun r:List St×Nat=>decide (r.1∈g)) R;have e:(fun r:List St×Nat=>!decide (r.1∈g))=fun r=>decide (r.1∉g):=by funext r; simp
  rw [e] at this;exact this
 exact (List.perm_append_right_iff _).mp (h.trans h2.symm)
theorem J1 (g:List (List St)):(g.map pl).all (PV.pl 39)=true:=by
 rw [List.all_map,cy];intro r _
 show (r.map stp).all (PV.pl 38)=true
 rw [List.all_map];exact cy.mpr fun y _=>rfl
def FS (h:PH) (a d:Nat) (P:PV) (R:List (List St×Nat)) (g:List (List St)) (q:Nat) (δ:Ev) (h':PH):Prop:=
 ∃ G x3,δ=[some (.ref a),some P,some (.ref h.length),x3]/\(∀ i o,i≠d->h[i]?=some o->h'[i]?=some o)/\h'[h.length]?=some (.lst (G.map rwP))/\bU h' d=some (kvR (cG R (g.take q)))/\(G++cG R (g.take q)).Perm R
theorem By {h:PH} {a d:Nat} {P:PV} {R:List (List St×Nat)} {g:List (List St)} {q:Nat} {p:List St} {δ:Ev} {h':PH} {E:FE} (t:jT h a d R) (lR:R.length<=100000) (nd:(R.map (·.1)).Nodup) (hq:g[q]?=some p) (I:FS h a d P R g q δ h') (k:∀ δ h',FS h a d P R g (q+1) δ h'->E.nx δ h'):
  (gI (δ.set 3 (some (pl p))) h').W E:=by
 obtain ⟨G,x3,rfl,k1,k2,k3,k4⟩:=I;have htk:g.take (q+1)=g.take q++[p]:=by rw [List.take_add_one,hq]; rfl
 have ad:a≠d:=fun e=>by
  have g:=t.2;rw [<- e] at g;unfold bU at g;rw [t.1] at g;cases g
 have dl:d≠h.length:=fun e=>by
  obtain ⟨o,ho,_⟩:=zL t.2;have:=(ae.mp ho).1;omega
 have ef:∀ h2,(∀ i o,i≠d->h[i]?=some o->h2[i]?=some o)->qZ "kept" (.ref a) h2=.ok (.ref d) h2:=fun h2 kk=>zA (kk _ _ ad t.1) rfl;have e1:vE (pl p) (.ref d) h'=.ok (.bl (decide (p∈(cG R (g.take q)).map (·.1)))) h':=by
  rw [<- Bv];exact Ic k3 (EG p)
 obtain ⟨_,_,hD,_⟩:=jO k3;unfold gI;have nd2:((cG R (g.take q)).map (·.1)).Nodup:=xM nd
 by_cases c:p∈(cG R (g.take q)).map (·.1)
 ·obtain ⟨r,hr,er⟩:=cz.mp c;have lk:bR (kvR (cG R (g.take q))) (pl p)=some (.str ⟨#[r.2]⟩):=by
   rw [Bu];have e2:(cG R (g.take q)).find? (fun x=>decide (x.1=p))=some r:=by
    have:=uF nd2 hr;rw [er] at this;rw [<- List.head?_filter,this];rfl
   rw [e2]; rfl
  have ep:=Iy k3 (EJ p) lk;rw [IX] at ep;have lG:G.length<=100000:=by
   have:=k4.length_eq;rw [bh] at this;omega
  have g2:(h'.set d (.dD (kvR ((cG R (g.take q)).filter fun r=>decide (r.1≠p)))))[h.length]?=some (.lst (G.map rwP)):=by
   rw [fe dl]; exact k2
  have ap:=tF (p:=rwP r) g2 (by rw [aj]; omega);have hRn:cG R (g.take (q+1))=(cG R (g.take q)).filter fun r=>decide (r.1≠p):=by rw [htk,pK]
  rw [<- hRn] at ep g2 ap;have erw:PV.tup [pl p,.str ⟨#[r.2]⟩]=rwP r:=by rw [<- er]; rfl
  simp [ef h' k1,e1,c,Ej k2,hD,ep,erw,ap];refine k _ _ ⟨G++[r],_,rfl,fun i o hi ho=>?_,?_,?_,?_⟩
  ·have:i≠h.length:=by
    have:=(ae.mp ho).1;omega
   rw [fe (ko this),fe (ko hi)];exact k1 i o hi ho
  ·rw [dz];exact HC g2
  ·have e3:=EH (kvs':=kvR (cG R (g.take (q+1)))) k3;obtain ⟨o,ho,_,hh⟩:=jO e3;refine hh _ ?_;rw [fe (ko dl)];exact ho
  ·rw [hRn];have e4:=List.filter_append_perm (fun x:List St×Nat=>decide (x.1=r.1)) (cG R (g.take q));rw [uF nd2 hr] at e4;have e5:(fun x:List St×Nat=>!decide (x.1=r.1))=fun x=>decide (x.1≠p):=by funext x; rw [er]; simp
   rw [e5] at e4;rw [ai];exact (cj G e4).trans k4
 ·simp [ef h' k1,e1,c];refine k _ _ ⟨G,_,rfl,k1,k2,?_,?_⟩
  ·rw [htk,pK,Bx _ _ c]; exact k3
  ·rw [htk,pK,Bx _ _ c]; exact k4
theorem OG {h:PH} {a d:Nat} {R:List (List St×Nat)} (t:jT h a d R) (lR:R.length<=100000) (hp:∀ r∈R,r.1.length<=1000) (nd:(R.map (·.1)).Nodup) (g:List (List St)) (P:PV) (hP:P=.tup (g.map pl)\/∃ n,P=.ref n/\h[n]?=some (.lst (g.map pl))) (Q:PV->PH->Prop)
  (k:∀ os h' l,(∀ i o,i≠d->h[i]?=some o->h'[i]?=some o)->bU h' d=some (kvR (cG R g))->h.length<=l->h'[l]?=some (.lst (os.map rwP))->os.Perm (inR R g)->SRt os->Q (.ref l) h'):(dE [.ref a,P] h).W Q:=by
 refine jD ?_;unfold jR;rw [bF]; simp;refine now ?_;rw [bF];have dl:∃ o,h[d]?=some o:=let ⟨o,ho,_⟩:=zL t.2; ⟨o,ho⟩;have x0:=Ext.app h [MO.lst []];have i0:FS h a d P R g 0 [some (.ref a),some P,some (.ref h.length),none] (h++[MO.lst []]):=by
  have e0:cG R (g.take 0)=R:=by
   unfold cG;rw [gz];intro r _;simp
  exact ⟨[],none,rfl,fun i o _ ho=>x0 _ _ ho,bE,by rw [e0]; exact nL x0 t.2,by rw [e0]; exact iy _⟩
 have fin:∀ δ h',FS h a d P R g g.length δ h'->Lt (cZ (kH cM false 2 (mV 2))) { nx:=fun _ h=>Q .non h,rt:=Q } δ h':=by
  rintro δ h' ⟨G,x3,rfl,k1,k2,k3,k4⟩;rw [List.take_length] at k3 k4;refine now ?_;simp only [Ht,tU]
  show Rs.W (fG cM false 2 (.ref h.length) h') _
  have ndG:(G.map (·.1)).Nodup:=by
   have:=(k4.map iz).nodup_iff.mpr nd;rw [dz] at this;exact (fq.mp this).1
  have lG:G.length < 1000000:=by
   have:=k4.length_eq;rw [bh] at this;omega
  refine Bw qM lG (fun r hr=>hp r (k4.mem_iff.mp (cq _ hr))) ndG (Dm k2) _ fun os h2 hx p s=>?_;have x2:Ext h' (h2++[MO.lst (os.map rwP)]):=hx.trans (Ext.app _ _);have l1:h.length<=h2.length:=by
   have:=(ae.mp k2).1;have:=hx.len;omega
  exact k os _ _ (fun i o hi ho=>x2 _ _ (k1 i o hi ho)) (nL x2 k3) l1 bE (p.trans (Lv k4)) s
 rcases hP with rfl | ⟨n,rfl,hn⟩
 ·refine Od (xs:=g.map pl) (FS h a d _ R g) (.inl (by simp)) i0 ?_ (fun δ h' hh=>fin δ h' (by simpa using hh))
  intro q x δ h' hx hi;rw [bf] at hx;obtain ⟨p,hp',rfl⟩:=b6.mp hx;exact ⟨_,rfl,By t lR nd hp' hi fun _ _ z=>z⟩
 ·have nd':n≠d:=fun e=>by
   have:=t.2;unfold bU at this;rw [<- e,hn] at this;cases this
  refine Oe (n:=n) (xs:=g.map pl) (h1:=h++[MO.lst []]) (FS h a d _ R g) (by simp) (x0 _ _ hn) i0 ?_ ?_ (fun δ h' hh=>fin δ h' (by simpa using hh))
  ·rintro q δ h' _ ⟨G,x3,_,k1,_⟩;exact k1 _ _ nd' hn
  ·intro q x δ h' hx hi;rw [bf] at hx;obtain ⟨p,hp',rfl⟩:=b6.mp hx;exact ⟨_,rfl,By t lR nd hp' hi fun _ _ z=>z⟩
theorem OH {h h1:PH} {a d:Nat} {R:List (List St×Nat)} {tb:Str->Option Fn} {f:Fn} (t:jT h1 a d R) {mm:Str} {n:Nat} {ms:Ma} (htb:tb "Signs" = some f) (hmm:[(("kept" : Str),PV.ref d)].lookup mm=none) {δ:Ev} {mo:Me} (h0:mo δ h=.ok (.ref a) h1):iY mm n tb mo ms δ h=(ms δ h1).bind fun ps h2=>if ps.length=n then f (.ref a :: ps) h2 else .bad:=
 Im h0 t.1 htb hmm
theorem jT.ext {h h':PH} {a d:Nat} {R:List (List St×Nat)} (t:jT h a d R) (x:Ext h h'):jT h' a d R:=⟨x _ _ t.1,nL x t.2⟩
theorem Lw {R:List (List St×Nat)} {r:List St×Nat} (h:r.1∉R.map (·.1)):uE R r=R++[r]:=if_neg h
theorem uG {h:PH} {n d:Nat} {xs:List PV} {kvs:List (PV×PV)} (e:h[n]?=some (.lst xs)) (t:bU h d=some kvs):n≠d:=fun z=>by
 unfold bU at t;rw [<- z,e] at t;cases t
theorem J2 {h:PH} {a d:Nat} {R:List (List St×Nat)} (t:jT h a d R) {k:Nat} {kvs:List (PV×PV)} (e:bU h k=some kvs):a≠k:=fun z=>by
 unfold bU at e;rw [<- z,t.1] at e;cases e
theorem Lx {n:Nat} {h:PH} (g:h[n]?=some (.ins "Signs" [])):bL [.ref n] h=.ok .non ((h++[MO.dK []]).set n (.ins "Signs" [("kept",.ref h.length)])):=by
 have w:(bL [.ref n] h).W fun p h'=>p=.non/\h'=(h++[MO.dK []]).set n (.ins "Signs" [("kept",.ref h.length)]):=by
  refine jD ?_;have g':=Ext.app h [MO.dK []] _ _ g;simp [eF,Il g',FD]
 obtain ⟨p,h',e,rfl,rfl⟩:=oY w;exact e
structure Rk (R:List (List St×Nat)):Prop where
 nd:(R.map (·.1)).Nodup
 hp:∀ r∈R,r.1.length<=1000
 len:R.length<=1000
theorem Rk.perm {R S:List (List St×Nat)} (k:Rk R) (p:S.Perm R):Rk S:=⟨(p.map iz).nodup_iff.mpr k.nd,fun r hr=>k.hp r (p.mem_iff.mp hr),by rw [p.length_eq]; exact k.len⟩
theorem Rk.out {R:List (List St×Nat)} (k:Rk R) (g:List (List St)):Rk (cG R g):=⟨xM k.nd,fun r hr=>k.hp r (List.mem_filter.mp hr).1,ft (List.length_filter_le _ _) k.len⟩
theorem J3 {R S:List (List St×Nat)} (p:S.Perm R) (g:List (List St)):(cG S g).Perm (cG R g):=p.filter _
theorem Ly {δ:Ev} {h h1:PH} {a d:Nat} {R S:List (List St×Nat)} {tb:Str->Option Fn} {mo:Me} (t:jT h1 a d R) (k:Rk R) (p:S.Perm R) (s:SRt S) (htb:tb "Signs" = some bY) (e0:mo δ h=.ok (.ref a) h1):∃ h' l,Ext h1 h'/\h1.length<=l/\h'[l]?=some (.lst (S.map rwP))/\iY "rows" 0 tb mo aG δ h=.ok (.ref l) h':=by
 have w:(bY [.ref a] h1).W fun v h'=>∃ l,v=.ref l/\Ext h1 h'/\h1.length<=l/\h'[l]?=some (.lst (S.map rwP)):=by
  refine Lu t (by have:=k.len; omega) k.hp k.nd _ fun os h' l x hl g p1 s1=>?_;have e:os=S:=SRt.uniq s1 s (p1.trans p.symm) (k.perm p1).nd;rw [e] at g;exact ⟨l,rfl,x,hl,g⟩
 obtain ⟨v,h',e,l,rfl,x,hl,g⟩:=oY w;refine ⟨h',l,x,hl,g,?_⟩;rw [OH t htb rfl e0,Ei,Rs.bind_ok,if_pos (by rfl),e]
theorem Bz:∀ (l R:List (List St×Nat)),((R++l).map (·.1)).Nodup->l.foldl uE R=R++l
 | [],R,_=>by simp
 | x :: l,R,nd=>by
  have hno:x.1∉R.map (·.1):=fun z=>by
   rw [dz,fq] at nd;exact nd.2.2 _ z _ (by simp) rfl
  rw [List.foldl_cons,Lw hno,Bz l (R++[x]) (by rw [ai]; exact nd),ai];rfl
theorem kI (u:List St) (s n:Int) (hd w:Str):(aY u s hd n w).map (·.1)=fB u s hd n w.length:=by
 unfold aY;refine List.map_fst_zip ?_;rw [jS,len_list];exact bj _
theorem FT (u:List St) (s n:Int) (hd w:Str):(aY u s hd n w).map (·.2)=w.cps.toList:=by
 unfold aY;refine List.map_snd_zip ?_;rw [jS,len_list];exact bj _
theorem BA (c k:Int) (hk:k=1\/k=2) (h:PH) (Q:PV->PH->Prop) (q:∀ N h',Ext h h'->0<=N->N < 2147483647->Q (.int N) h'):(eR [.int c,.int k] h).W Q:=by
 refine jD ?_;unfold zH;rw [bF,iW];have e0:sY (bT (aD vEq (aD fA (aD jI (mV 0) (mC (.int 4))) (mC (.int 2))) (mC (.int 1)))) (bT (aD vGt (mV 0) (aD Fv (mC (.int 10)) (mC (.int 18))))) [some (.int c),some (.int k),none] h=.ok (decide (c / 4 % 2=1) && decide (c > 1000000000000000000)) h:=by
  by_cases z:c / 4 % 2=1
  ·simp (disch:=omega) [z]
  ·simp (disch:=omega) [z]
 show Rs.W (sY (bT (aD vEq (aD fA (aD jI (mV 0) (mC (.int 4))) (mC (.int 2))) (mC (.int 1)))) (bT (aD vGt (mV 0) (aD Fv (mC (.int 10)) (mC (.int 18))))) [some (.int c),some (.int k),none] h) _
 rw [e0,jJ];split
 ·obtain ⟨d,ed,hd0,hd1⟩:∃ d:Int,atI [PV.int 1,PV.int 1000000000] (k - 1)=some (.int d)/\0 < d/\d < 1073741824:=by
   rcases hk with rfl | rfl
   ·exact ⟨1,rfl,by decide,by decide⟩
   ·exact ⟨1000000000,rfl,by decide,by decide⟩
  have g:(h++[MO.lst [PV.int 1,PV.int 1000000000]])[h.length]?=some (.lst [PV.int 1,PV.int 1000000000]):=bE;simp (disch:=omega) [kE g,ed];exact q _ _ (Ext.app _ _) (Int.emod_nonneg _ (by decide)) (by have:=Int.emod_lt_of_pos (c / 8 / d) (b:=1000000000) (by decide); omega)
 ·rw [Eh];refine now ?_;rw [bF]; simp (disch:=omega);refine now ?_;simp (disch:=omega);exact q _ _ (Ext.refl _) (Int.emod_nonneg _ (by decide)) (Int.emod_lt_of_pos _ (by decide))
noncomputable def dT4:Ms:=cZ (cT (aA (cT (aA (mV 6) (aA (mV 1) aG))) (aA (mV 7) (aA (cT (aA (mC (.str "write")) (aA (cT (aA (mC (.str "t")) (aA (mC (.int 1)) aG))) (aA (aD vAt (mV 2) (mC (.int 0))) (aA (aD vAt (mV 2) (mC (.int 1))) (aA (bP 2 nN (aA (mV 4) (aA (mV 5) aG))) aG)))))) aG))))
noncomputable def dT3:Ms:=aQ (aZ 6 (bP 1 tX (aA (aD jI (mV 4) (aD vAt (qX (aA (mC (.int 1)) (aA (mC (.int 1000)) (aA (mC (.int 100000000)) aG)))) (aD fA (mV 4) (mC (.int 3))))) aG)))
 (aQ (aZ 7 (cT aG))
 (aQ (fX (bT (aD vGt (mV 1) (mC (.int 1))))
  (aZ 7 (cT (aA (cT (aA (mV 6) (aA (aD sR (mV 1) (mC (.int 1))) aG))) aG)))
  fW) dT4))
noncomputable def dT2:Ms:=aQ (fX (bT (aD vGt (mV 3) (mC (.int 200))))
  (aZ 5 (mC (.int 1)))
  fW) dT3
theorem J4 {c n z N m:Int} {hd:Str} {u:List St} {s:Int} {sn:PV} {h:PH} {E:FE} (hm:1<=m/\m<=12) (k:∀ w:Str,1<=w.length->w.length<=12->Asc w->E.rt (wr hd n sn u s w) h):
  (dT4 [some (.int c),some (.int n),some (.tup [pl u,.int s]),some (.int z),some (.int N),some (.int m),some (.str hd),some sn] h).W E:=by
 unfold dT4;simp;exact IW N m (by omega) h _ fun w e a=>k w (by omega) (by omega) a
theorem J5 {c n z N m:Int} {u:List St} {s:Int} {x6 x7:Option PV} {h:PH} {E:FE} (hN:0<=N/\N < 2147483647) (hm:1<=m/\m<=12) (k:∀ (hd:Str) (sn:PV) (w:Str) (h':PH),Ext h h'->1<=w.length->w.length<=12->Asc w->E.rt (wr hd n sn u s w) h'):
  (dT3 [some (.int c),some (.int n),some (.tup [pl u,.int s]),some (.int z),some (.int N),some (.int m),x6,x7] h).W E:=by
 unfold dT3;rw [bF];obtain ⟨d,ed,hd0,hd1⟩:∃ d:Int,atI [PV.int 1,PV.int 1000,PV.int 100000000] (N % 3)=some (.int d)/\0 < d/\d < 1073741824:=by
  have:N % 3=0\/N % 3=1\/N % 3=2:=by omega
  rcases this with z | z | z <;> rw [z] <;> simp
 simp (disch:=omega) [kE bE,ed];have hx:=Ext.app h [MO.lst [PV.int 1,PV.int 1000,PV.int 100000000]];generalize h++[MO.lst [PV.int 1,PV.int 1000,PV.int 100000000]]=h1 at hx;refine Lq _ h1 _ fun hd l1 l8 low=>?_;refine now ?_;rw [bF]; simp;refine now ?_;rw [bF,iW];simp;split
 ·refine now ?_;exact J4 hm fun w a b c=>k hd _ w h1 hx a b c
 ·refine now ?_;exact J4 hm fun w a b c=>k hd _ w h1 hx a b c
theorem J6 {c n z N m:Int} {u:List St} {s:Int} {x6 x7:Option PV} {h:PH} {E:FE} (hN:0<=N/\N < 2147483647) (hm:1<=m/\m<=12) (k:∀ (hd:Str) (sn:PV) (w:Str) (h':PH),Ext h h'->1<=w.length->w.length<=12->Asc w->E.rt (wr hd n sn u s w) h'):
  (dT2 [some (.int c),some (.int n),some (.tup [pl u,.int s]),some (.int z),some (.int N),some (.int m),x6,x7] h).W E:=by
 unfold dT2;rw [bF,iW];simp;split
 ·refine now ?_;exact J5 hN (by omega) k
 ·refine now ?_;exact J5 hN hm k
theorem Lz (c n z:Int) (u:List St) (s:Int) (h:PH) (Q:PV->PH->Prop) (k:∀ hd sn w h',Ext h h'->1<=w.length->w.length<=12->Asc w->Q (wr hd n sn u s w) h'):(tY [.int c,.int n,.tup [pl u,.int s],.int z] h).W Q:=by
 refine jD ?_;unfold Do
 show Fl.W (aQ (aZ 4 (bP 2 eR (aA (mV 0) (aA (mC (.int 2)) aG)))) _ [some (.int c),some (.int n),some (.tup [pl u,.int s]),some (.int z),none,none,none,none] h) _
 rw [bF,gR];have m1:bP 2 eR (aA (mV 0) (aA (mC (.int 2)) aG)) [some (.int c),some (.int n),some (.tup [pl u,.int s]),some (.int z),none,none,none,none] h=eR [.int c,.int 2] h:=rfl;rw [m1];refine BA c 2 (.inr rfl) h _ fun N h1 x1 n0 n1=>?_;simp only [f6,f7];refine now ?_;rw [bF];simp (disch:=omega);refine now ?_;rw [bF,iW];simp (disch:=omega);split
 ·refine now ?_;exact J6 ⟨n0,n1⟩ (by omega) fun hd sn w h2 x2=>k hd sn w h2 (x1.trans x2)
 ·refine now ?_;exact J6 ⟨n0,n1⟩ (by omega) fun hd sn w h2 x2=>k hd sn w h2 (x1.trans x2)
theorem gW:∀ (p:List St) (x:St) (r:List St),bef p (p++x :: r)=decide (0<=x.s)
 | [],x,r=>rfl
 | y :: p,x,r=>by
  show (if y=y then bef p (p++x :: r) else pJ y y)=_
  rw [if_pos rfl];exact gW p x r
theorem uH:∀ (p:List St) (x:St) (r:List St),bef (p++x :: r) p=decide (x.s < 0)
 | [],x,r=>rfl
 | y :: p,x,r=>by
  show (if y=y then bef (p++x :: r) p else pJ y y)=_
  rw [if_pos rfl];exact uH p x r
theorem EK:∀ {l r:List St},r.take l.length≠l->bef l r=true->∀ e,bef (l++e) r=true
 | [],r,h,_,_=>(h rfl).elim
 | x :: l,[],_,h,e=>h
 | x :: l,y :: r,hp,h,e=>by
  show (if x=y then bef (l++e) r else pJ x y)=true
  have h:(if x=y then bef l r else pJ x y)=true:=h
  by_cases q:x=y
  ·rw [if_pos q] at h ⊢;refine EK (fun z=>hp ?_) h e
   show y :: r.take l.length=x :: l
   rw [z,q]
  ·rw [if_neg q] at h ⊢;exact h
theorem J7 {a b c:List St} (h1:bef b a=false) (h2:bef c b=false):bef c a=false:=by
 rw [<- Dq] at*;exact Dc h1 h2
theorem Ds {a b:List St} (h:bef a b=true):bef b a=false:=by
 rw [<- Dq] at*;exact Dd h
theorem LA (xs ys:List St) (h:PH):jL (rk xs) (rk ys) h=.ok (.bl (bef xs ys)) h:=HI (rS xs) (rS ys) (uC 37 xs ys)
theorem Ri (xs ys:List St) (h:PH):Bj (rk xs) (rk ys) h=.ok (.bl (!bef xs ys)) h:=La (rS xs) (rS ys) (uC 37 xs ys)
theorem xN (xs ys:List St) (h:PH) (hx:xs.length<=1000) (hy:ys.length<=1000):gU [pl xs,pl ys] h=.ok (.bl (bef xs ys)) h:=by
 have w:(gU [pl xs,pl ys] h).W fun p h'=>p=.bl (bef xs ys)/\h'=h:=by
  refine jD ?_;have l1:=LA xs ys h;unfold rk at l1;simp [tV,EF,hx,hy,l1]
 obtain ⟨p,h',e,rfl,rfl⟩:=oY w;exact e
theorem J8 (xs:List St) (h:PH) (hx:xs.length<=1000):xJ [pl xs] h=.ok (rk xs) h:=by
 have w:(xJ [pl xs] h).W fun p h'=>p=rk xs/\h'=h:=by
  refine jD ?_;have l1:aS (pl xs) (.tup [.tup [.int 0]]) h=.ok (rk xs) h:=by
   unfold pl;rw [FC (by rw [aj]; simp; omega)];rfl
  simp [IJ,l1]
 obtain ⟨p,h',e,rfl,rfl⟩:=oY w;exact e
def dQ (l:List St):Option (List St)->List St×Int
 | none=>(l,1)
 | some r=>if r.take l.length=l then (r,-1) else (l,1)
theorem OI {l:List St} {ro:Option (List St)} (hb:∀ r,ro=some r->bef l r=true) (hd:Str) (n:Int) (e:List St):bef l ((dQ l ro).1++⟨(dQ l ro).2,hd,n,0⟩ :: e)=true:=by
 cases ro with
 | none=>exact (gW l _ e).trans rfl
 | some r=>
  have hb:=hb r rfl;unfold dQ;dsimp only;split
  ·rename_i c;have er:r=l++r.drop l.length:=by
    rw [<- c,bq];have:r.take (min l.length r.length)++r.drop (min l.length r.length)=r:=bo _ _;have e2:r.take (min l.length r.length)=r.take l.length:=by rw [List.take_eq_take_iff]; omega
    rw [e2] at this;exact this.symm
   generalize r.drop l.length=t at er;subst er;cases t with
   | nil=>
    rw [dk,uD] at hb;cases hb
   | cons y t=>
    rw [gW] at hb
    show bef l ((l++y :: t)++_)=true
    rw [ai,lg,gW];exact hb
  ·exact (gW l _ e).trans rfl
theorem OJ {l r:List St} (hb:bef l r=true) (hd:Str) (n:Int) (e:List St):bef ((dQ l (some r)).1++⟨(dQ l (some r)).2,hd,n,0⟩ :: e) r=true:=by
 unfold dQ;dsimp only;split
 ·exact (uH r _ e).trans rfl
 ·rename_i c;exact EK c hb _
theorem OK (l:List St) (ro:Option (List St)) (h:PH) (hl:l.length<=1000) (hr:∀ r,ro=some r->r.length<=1000/\bef l r=true):tW [pl l,(ro.map pl).getD .non] h=.ok (.tup [pl (dQ l ro).1,.int (dQ l ro).2]) h:=by
 have w:(tW [pl l,(ro.map pl).getD .non] h).W fun p h'=>p=.tup [pl (dQ l ro).1,.int (dQ l ro).2]/\h'=h:=by
  refine jD ?_;unfold II;rw [bF,iW];cases ro with
  | none=>
   have e0:iG PV.non=true:=rfl;simp [e0,dQ]
  | some r=>
   obtain ⟨lr,hb⟩:=hr r rfl;have e0:iG (pl r)=false:=rfl;simp [e0];refine now ?_;rw [bF,iW];simp [xN l r h hl lr,hb];refine now ?_;rw [bF,iW];have e1:dU [pl l] h=.ok (.int (l.length:Int)) h:=by unfold pl; simp
   have e2:vSl (pl r) none (some (l.length:Int)) h=.ok (pl (r.take l.length)) h:=by
    unfold pl;rw [KZ,D5 (by omega),<- kz];rfl
   have e3:vEq (pl (r.take l.length)) (pl l) h=.ok (.bl (decide (r.take l.length=l))) h:=by
    rw [HE (IM _) (IM _)]
    congr 2
    rw [decide_eq_decide];exact ⟨fun z=>pI z,fun z=>by rw [z]⟩
   simp [e1,e2,e3]
   by_cases c:r.take l.length=l
   ·simp [c,dQ]
   ·simp [c,dQ];refine now ?_;simp
 obtain ⟨p,h',e,rfl,rfl⟩:=oY w;exact e
def lft (Ps:List (List St)):Nat->List St
 | 0=>[]
 | i+1=>Ps.getD i []
def Gd (p:List St):Prop:=∃ x xs,p=x :: xs/\x.s=1
structure SI (S:List (List St×Nat)):Prop where
 srt:SRt S
 nd:(S.map (·.1)).Nodup
 gd:∀ r∈S,Gd r.1
 hl:∀ r∈S,r.1.length<=500
theorem SI.lt {S:List (List St×Nat)} (I:SI S) {i j:Nat} (hij:i < j) {a b:List St×Nat} (ha:S[i]?=some a) (hb:S[j]?=some b):bef a.1 b.1=true:=by
 obtain ⟨hi,ea⟩:=ae.mp ha;obtain ⟨hj,eb⟩:=ae.mp hb;have h1:=(c8.mp I.srt) i j hi hj hij;rw [ea,eb] at h1;have ne:b.1≠a.1:=fun z=>by
  have:=(c8.mp I.nd) i j (by simpa using hi) (by simpa using hj) hij
  rw [List.getElem_map,List.getElem_map,ea,eb] at this;exact this z.symm
 have:=zK ne;rw [h1] at this;exact this
theorem SI.lb {S:List (List St×Nat)} (I:SI S) {i:Nat} {r:List St×Nat} (hr:S[i]?=some r):bef (lft (S.map (·.1)) i) r.1=true:=by
 cases i with
 | zero=>
  obtain ⟨x,xs,e,hx⟩:=I.gd r (b7 hr);rw [e]
  show decide (0<=x.s)=true
  rw [hx];rfl
 | succ i=>
  have hi:=(ae.mp hr).1;have ha:S[i]?=some S[i]:=cm _;have:lft (S.map (·.1)) (i+1)=(S[i]).1:=by
   show (S.map (·.1)).getD i []=_
   rw [ak,bf,ha];rfl
  rw [this];exact I.lt (k8 i) ha hr
theorem J9 {h:PH} {l3:Nat} {Ps:List (List St)} (g:h[l3]?=some (.lst (Ps.map pl))) (i:Nat) (hi:i<=Ps.length) (lS:Ps.length<=1000) (hl:∀ p∈Ps,p.length<=500) (hb:∀ r,Ps[i]?=some r->bef (lft Ps i) r=true) (Q:PV->PH->Prop) (k:Q (.tup [pl (dQ (lft Ps i) (Ps[i]?)).1,.int (dQ (lft Ps i) (Ps[i]?)).2]) h):(iP [.ref l3,.int (i:Int)] h).W Q:=by
 refine jD ?_;unfold zJ;have ll:(lft Ps i).length<=500:=by
  cases i with
  | zero=>exact dv _
  | succ i=>
   have ha:Ps[i]?=some Ps[i]:=cm _
   show (Ps.getD i []).length<=500
   rw [ak,ha];exact hl _ (b7 ha)
 have fin:∀ (l:List St) (ro:Option (List St)),l=lft Ps i->ro=Ps[i]?->(cZ (bP 2 tW (aA (mV 2) (aA (mV 3) aG))) [some (.ref l3),some (.int (i:Int)),some (pl l),some ((ro.map pl).getD .non)] h).W { nx:=fun _ h=>Q .non h,rt:=Q }:=fun l ro hl' hr=>by
  subst hl' hr;have e:=OK (lft Ps i) (Ps[i]?) h (by omega) (fun r hr=>⟨by have:=hl r (b7 hr); omega,hb r hr⟩);rw [Ht,tE];have ha:aA (mV 2) (aA (mV 3) aG) [some (.ref l3),some (.int (i:Int)),some (pl (lft Ps i)),some (((Ps[i]?).map pl).getD .non)] h=.ok [pl (lft Ps i),((Ps[i]?).map pl).getD .non] h:=rfl;rw [ha,Rs.bind_ok,if_pos (by rfl),e,jJ];exact k
 have right:∀ l:List St,l=lft Ps i->Lt (aQ (fX (bT (aD jL (mV 1) (mCB dU (aA (mV 0) aG)))) (aZ 3 (aD vAt (mV 0) (mV 1))) fW) (cZ (bP 2 tW (aA (mV 2) (aA (mV 3) aG))))) { nx:=fun _ h=>Q .non h,rt:=Q } [some (.ref l3),some (.int (i:Int)),some (pl l),some .non] h:=fun l hl'=>by
  refine now ?_;rw [bF,iW];have el:=jK g;rw [aj] at el;have et:bT (aD jL (mV 1) (mCB dU (aA (mV 0) aG))) [some (.ref l3),some (.int (i:Int)),some (pl l),some .non] h=.ok (decide ((i:Int) < (Ps.length:Int))) h:=by
   simp [el]
  rw [et,jJ]
  by_cases c:i < Ps.length
  ·rw [if_pos (by simpa using c)]
   have er:Ps[i]?=some Ps[i]:=cm c;have ea:atI (Ps.map pl) (i:Int)=some (pl Ps[i]):=lY (by rw [bf,er]; rfl);rw [gR];simp [kE g,ea];refine now ?_;exact fin l (some Ps[i]) hl' er.symm
  ·rw [if_neg (by simpa using c),Eh]
   refine now ?_;exact fin l none hl' (ik (by omega)).symm
 rw [bF]; simp;refine now ?_;rw [bF]; simp;refine now ?_;rw [bF,iW];cases i with
 | zero=>
  simp;exact right [] rfl
 | succ i=>
  have ea:atI (Ps.map pl) (((i+1:Nat):Int) - 1)=some (pl (lft Ps (i+1))):=by
   have e1:(((i+1:Nat):Int) - 1)=((i:Nat):Int):=by omega
   rw [e1];refine lY ?_;have ha:Ps[i]?=some Ps[i]:=cm _
   show _=some (pl (Ps.getD i []))
   rw [ak,bf,ha];rfl
  have et:bT (aD vGt (mV 1) (mC (.int 0))) [some (.ref l3),some (.int ((i+1:Nat):Int)),some (.tup []),some .non] h=.ok true h:=by
   simp
  rw [et,jJ,if_pos (by rfl),gR,iJ];have e2:aD sR (mV 1) (mC (.int 1)) [some (.ref l3),some (.int ((i+1:Nat):Int)),some (.tup []),some .non] h=.ok (.int (((i+1:Nat):Int) - 1)) h:=rfl;have e3:mV 0 [some (.ref l3),some (.int ((i+1:Nat):Int)),some (.tup []),some .non] h=.ok (.ref l3) h:=rfl;rw [e3,Rs.bind_ok,e2,Rs.bind_ok];generalize (((i+1:Nat):Int) - 1)=j at ea;simp [kE g,ea];exact right _ rfl
theorem nQ {u:List St} {s n:Int} {hd w:Str} {x:List St×Nat} (hx:x∈aY u s hd n w):∃ e,x.1=u++⟨s,hd,n,0⟩ :: e/\x.1.length<=u.length+w.length:=by
 have h:x.1∈(aY u s hd n w).map (·.1):=cz.mpr ⟨x,hx,rfl⟩;rw [kI] at h;unfold fB at h;obtain ⟨k,hk,e⟩:=cz.mp h;rw [List.mem_range] at hk;obtain ⟨r,er,_⟩:=mI (u:=u) (s:=s) (hd:=hd) (n:=n) 0 k;rw [jz] at er;refine ⟨r,?_,by rw [<- e,fR]; omega⟩;rw [<- e,er]
 show (u++[⟨s,hd,n,0⟩])++r=_
 rw [ai];rfl
theorem LB (u:List St) (s n:Int) (hd w:Str):SRt (aY u s hd n w):=by
 have h:((aY u s hd n w).map (·.1)).Pairwise (fun a c=>bef c a=false):=by
  rw [kI];unfold fB;rw [ki];refine List.pairwise_lt_range.imp fun {i j} hij=>?_;obtain ⟨r,er,hr⟩:=mI (u:=u) (s:=s) (hd:=hd) (n:=n) i (j - i);have e:i+(j - i)=j:=by omega
  rw [e] at er;cases r with
  | nil=>
   have l1:=fR (u:=u) (s:=s) (hd:=hd) (n:=n) i;have l2:=fR (u:=u) (s:=s) (hd:=hd) (n:=n) j;rw [er,dk] at l2;omega
  | cons x r=>
   rw [er,uH,hr x bg];rfl
 exact ki.mp h
theorem OL (u:List St) (s n:Int) (hd w:Str):((aY u s hd n w).map (·.1)).Nodup:=by
 rw [kI];unfold fB
 show List.Pairwise _ _
 rw [ki];refine List.pairwise_lt_range.imp fun {i j} hij e=>?_;have l1:=fR (u:=u) (s:=s) (hd:=hd) (n:=n) i;have l2:=fR (u:=u) (s:=s) (hd:=hd) (n:=n) j;rw [e] at l1;omega
theorem Dt {S:List (List St×Nat)} {j:Nat} {a:List St×Nat} (ha:S[j]?=some a):lft (S.map (·.1)) (j+1)=a.1:=by
 show (S.map (·.1)).getD j []=_
 rw [ak,bf,ha];rfl
theorem SI.le {S:List (List St×Nat)} (I:SI S) {i j:Nat} (hij:i<=j) {a b:List St×Nat} (ha:S[i]?=some a) (hb:S[j]?=some b):bef b.1 a.1=false:=by
 rcases Nat.lt_or_eq_of_le hij with c | c
 ·exact Ds (I.lt c ha hb)
 ·rw [c,hb] at ha;cases ha
  exact uD _
theorem SI.ins {S:List (List St×Nat)} (I:SI S) {i:Nat} (hi:i<=S.length) {hd w:Str} {n:Int} {us:List St×Int} (eu:dQ (lft (S.map (·.1)) i) ((S.map (·.1))[i]?)=us) (hN:∀ x∈aY us.1 us.2 hd n w,x.1.length<=500):SI (S.take i++aY us.1 us.2 hd n w++S.drop i):=by
 have hb:∀ r,(S.map (·.1))[i]?=some r->bef (lft (S.map (·.1)) i) r=true:=fun r hr=>by
  rw [bf] at hr;obtain ⟨z,hz,rfl⟩:=b6.mp hr;exact I.lb hz
 have HA:∀ a∈S.take i,∀ x∈aY us.1 us.2 hd n w,bef x.1 a.1=false/\a.1≠x.1:=fun a ha x hx=>by
  obtain ⟨k,hk⟩:=j0.mp ha;rw [List.getElem?_take] at hk;split at hk
  ·rename_i c;cases i with
   | zero=>omega
   | succ j=>
    have hj:S[j]?=some S[j]:=cm _;have h1:=I.le (by omega) hk hj;obtain ⟨e,ex,_⟩:=nQ hx;have h2:=OI hb hd n e;rw [eu,<- ex,Dt hj] at h2;exact ⟨J7 h1 (Ds h2),fun z=>by rw [z,h2] at h1; cases h1⟩
  ·cases hk
 have HB:∀ b∈S.drop i,∀ x∈aY us.1 us.2 hd n w,bef b.1 x.1=false/\x.1≠b.1:=fun b hb' x hx=>by
  obtain ⟨k,hk⟩:=j0.mp hb';rw [List.getElem?_drop] at hk;have hk':=(ae.mp hk).1;have hr:S[i]?=some (S[i]'(by omega)):=cm _;have h1:=I.le (Nat.le_add_right i k) hr hk;obtain ⟨e,ex,_⟩:=nQ hx;have er:(S.map (·.1))[i]?=some (S[i]'(by omega)).1:=by rw [bf,hr]; rfl
  have h2:=OJ (hb _ er) hd n e;rw [<- er,eu,<- ex] at h2;exact ⟨J7 (Ds h2) h1,fun z=>by rw [<- z,h2] at h1; cases h1⟩
 have sp:=I.srt;rw [<- bo i S] at sp;obtain ⟨s1,s2,s3⟩:=ar.mp sp;have np:=I.nd;rw [<- bo i S,dz] at np;obtain ⟨n1,n2,n3⟩:=fq.mp np;have sub:∀ r∈S.take i++aY us.1 us.2 hd n w++S.drop i,r∈S\/r∈aY us.1 us.2 hd n w:=fun r hr=>by
  rcases au.mp hr with hr | hr
  ·rcases au.mp hr with hr | hr
   ·exact .inl (cu hr)
   ·exact .inr hr
  ·exact .inl (df hr)
 refine ⟨?_,?_,fun r hr=>?_,fun r hr=>(sub r hr).elim (I.hl r) (hN r)⟩
 ·refine ar.mpr ⟨ar.mpr ⟨s1,LB _ _ _ _ _,fun a ha x hx=>(HA a ha x hx).1⟩,s2,fun a ha b hb=>?_⟩;rcases au.mp ha with ha | ha
  ·exact s3 a ha b hb
  ·exact (HB b hb a ha).1
 ·rw [dz,dz];refine fq.mpr ⟨fq.mpr ⟨n1,OL _ _ _ _ _,fun a ha x hx e=>?_⟩,n2,fun a ha b hb e=>?_⟩
  ·obtain ⟨a',ha',rfl⟩:=cz.mp ha;obtain ⟨x',hx',rfl⟩:=cz.mp hx;exact (HA a' ha' x' hx').2 e
  ·rcases au.mp ha with ha | ha
   ·exact n3 a ha b hb e
   ·obtain ⟨a',ha',rfl⟩:=cz.mp ha;obtain ⟨x',hx',rfl⟩:=cz.mp hb;exact (HB x' hx' a' ha').2 e
 ·rcases sub r hr with hr | hr
  ·exact I.gd r hr
  ·obtain ⟨e,ex,_⟩:=nQ hr;rw [ex];have gu:us.1=[]/\us.2=1\/Gd us.1:=by
    have gl:lft (S.map (·.1)) i=[]\/Gd (lft (S.map (·.1)) i):=by
     cases i with
     | zero=>exact .inl rfl
     | succ j=>
      have hj:S[j]?=some S[j]:=cm _;rw [Dt hj];exact .inr (I.gd _ (b7 hj))
    cases er:(S.map (·.1))[i]? with
    | none=>
     rw [er] at eu;rw [<- eu];exact gl.imp (fun z=>⟨z,rfl⟩) id
    | some r'=>
     rw [er] at eu;have gr:Gd r':=by
      rw [bf] at er;obtain ⟨z,hz,rfl⟩:=b6.mp er;exact I.gd z (b7 hz)
     unfold dQ at eu;dsimp only at eu;split at eu
     ·rw [<- eu]; exact .inr gr
     ·rename_i c;rw [<- eu];rcases gl with z | z
      ·rw [z] at c;exact (c rfl).elim
      ·exact .inr z
   rcases gu with ⟨z1,z2⟩ | ⟨x,xs,z1,z2⟩
   ·rw [z1];exact ⟨_,e,rfl,z2⟩
   ·rw [z1];exact ⟨x,_,rfl,z2⟩
theorem SI.sub {S T:List (List St×Nat)} (I:SI S) (s:T.Sublist S):SI T:=⟨List.Pairwise.sublist s I.srt,List.Sublist.nodup (s.map _) I.nd,fun r hr=>I.gd r (s.subset hr),fun r hr=>I.hl r (s.subset hr)⟩
theorem LC {A B C:List (List St×Nat)} (nd:((A++B++C).map (·.1)).Nodup):cG (A++B++C) (B.map (·.1))=A++C:=by
 rw [dz,dz] at nd;obtain ⟨n1,_,n3⟩:=fq.mp nd;obtain ⟨_,_,n5⟩:=fq.mp n1;have e1:cG A (B.map (·.1))=A:=by
  unfold cG;rw [gz];intro r hr;exact decide_eq_true fun z=>n5 _ (cz.mpr ⟨r,hr,rfl⟩) _ z rfl
 have e2:cG B (B.map (·.1))=[]:=by
  unfold cG;rw [List.filter_eq_nil_iff];intro r hr z;exact of_decide_eq_true z (cz.mpr ⟨r,hr,rfl⟩)
 have e3:cG C (B.map (·.1))=C:=by
  unfold cG;rw [gz];intro r hr;exact decide_eq_true fun z=>n3 _ (ah _ z) _ (cz.mpr ⟨r,hr,rfl⟩) rfl
 show (A++B++C).filter _=_
 rw [List.filter_append,List.filter_append]
 show cG A _++cG B _++cG C _=_
 rw [e1,e2,e3,dk]
theorem LD {A N C:List (List St)} (nd:(A++N++C).Nodup):(A++N++C).filter (fun q=>decide (q∈A++C))=A++C:=by
 obtain ⟨n1,_,n3⟩:=fq.mp nd;obtain ⟨_,_,n5⟩:=fq.mp n1;have e1:A.filter (fun q=>decide (q∈A++C))=A:=gz.mpr fun r hr=>decide_eq_true (cq _ hr);have e3:C.filter (fun q=>decide (q∈A++C))=C:=gz.mpr fun r hr=>decide_eq_true (ah _ hr);have e2:N.filter (fun q=>decide (q∈A++C))=[]:=by
  rw [List.filter_eq_nil_iff];intro r hr z;rcases au.mp (of_decide_eq_true z) with z | z
  ·exact n5 _ z _ hr rfl
  ·exact n3 _ (ah _ hr) _ z rfl
 rw [List.filter_append,List.filter_append,e1,e2,e3,dk]
theorem LF {h:PH} {l3:Nat} {Ps:List (List St)} (g:h[l3]?=some (.lst (Ps.map pl))) (lS:Ps.length<=1000) (hl:∀ p∈Ps,p.length<=500) (hb:∀ (k:Nat) a b,Ps[k]?=some a->Ps[k+1]?=some b->bef a b=true):mH [.ref l3] h=.ok (.bl true) h:=by
 have w:(mH [.ref l3] h).W fun p h'=>p=.bl true/\h'=h:=by
  refine jD ?_;unfold Dp;rw [bF];have el:=jK g;rw [aj] at el;refine Hz (lo:=1) (j:=Ps.length) (fun q δ h'=>h'=h/\∃ x1,δ=[some (.ref l3),x1]) ?_ (by omega) ⟨rfl,_,rfl⟩ ?_ ?_
  ·simp [el]
  ·rintro q δ h' hq ⟨rfl,x1,rfl⟩;have hq1:q+1 < Ps.length:=by omega
   have ha:Ps[q]?=some (Ps[q]'(by omega)):=cm _;have hb':Ps[q+1]?=some Ps[q+1]:=cm _;have e1:atI (Ps.map pl) (1+(q:Int) - 1)=some (pl (Ps[q]'(by omega))):=by
    have:1+(q:Int) - 1=(q:Int):=by omega
    rw [this];exact lY (by rw [bf,ha]; rfl)
   have e2:atI (Ps.map pl) (1+(q:Int))=some (pl Ps[q+1]):=by
    have:1+(q:Int)=((q+1:Nat):Int):=by omega
    rw [this];exact lY (by rw [bf,hb']; rfl)
   have l1:=hl _ (b7 ha);have l2:=hl _ (b7 hb');have hbb:=hb q _ _ ha hb'
   show Fl.W (tZ [some (.ref l3),some (.int (1+(q:Int)))] h') _
   unfold tZ;simp [kE g,e1,e2,xN _ _ h' (show (Ps[q]'(by omega)).length<=1000 by omega) (show (Ps[q+1]).length<=1000 by omega),hbb,J8 _ h' (show (Ps[q]'(by omega)).length<=1000 by omega),J8 _ h' (show (Ps[q+1]).length<=1000 by omega),Ri]
  ·rintro δ h' ⟨rfl,x1,rfl⟩;refine now ?_;simp
 obtain ⟨p,h',e,rfl,rfl⟩:=oY w;exact e
def pT (p:List St):PV:=.tup [pl p,.bl true]
def kvT (L:List (List St)):List (PV×PV):=L.map fun p=>(pl p,.bl true)
theorem BB (L:List (List St)) (p:List St):(bR (kvT L) (pl p)).isSome=decide (p∈L):=by
 induction L with
 | nil=>rfl
 | cons q L ih=>
  unfold kvT at ih ⊢
  by_cases e:q=p
  ·simp [bR,e]
  ·have h1:pl q≠pl p:=fun z=>e (pI z);have h2:¬ p=q:=fun z=>e z.symm;simp [bR,h1,h2,ih]
theorem EL:∀ L:List (List St),jP (L.map pT)=some (kvT L)
 | []=>rfl
 | p :: L=>by
  show jP (.tup [pl p,.bl true] :: L.map pT)=_
  unfold jP;rw [if_pos (EJ p),EL L];rfl
theorem EM:∀ (ts us:List (List St)),(us++ts).Nodup->zD (kvT us) (kvT ts)=kvT (us++ts)
 | [],us,_=>by rw [dk]; rfl
 | x :: ts,us,nd=>by
  show zD (iK (kvT us) (pl x) (.bl true)) (kvT ts)=_
  have hno:x∉us:=fun z=>(fq.mp nd).2.2 _ z _ bg rfl;have ep:iK (kvT us) (pl x) (.bl true)=kvT (us++[x]):=by
   unfold iK;rw [BB,if_neg (by simpa using hno)]
   simp [kvT]
  rw [ep,EM ts (us++[x]) (by rw [ai]; exact nd),ai];rfl
theorem J' {h:PH} {n:Nat} {L:List (List St)} (e:h[n]?=some (.lst (L.map pT))) (nd:L.Nodup):pE [.ref n] h=.ok (.ref h.length) (h++[.dD (kvT L)]):=by
 unfold pE;simp only [e,EL];have:=EM L [] nd;rw [i8] at this;have e0:kvT []=[]:=rfl;rw [e0] at this;rw [this]
theorem Rj {α:Type} (c:α->Bool) (f:α->PV) (l:List α):l.filterMap (fun y=>if c y=true then some (f y) else none)=(l.filter c).map f:=by
 induction l with
 | nil=>rfl
 | cons x l ih=>
  by_cases hx:c x=true
  ·rw [kn,if_pos hx,List.filter_cons_of_pos hx,da,ih]
  ·rw [kn,if_neg hx,List.filter_cons_of_neg hx,ih]
def chP (r:List St×Nat):PV:=.str ⟨#[r.2]⟩
theorem Du (S:List (List St×Nat)):(S.map chP).all (PV.pl 39)=true:=by
 rw [List.all_map];exact cy.mpr fun y _=>rfl
theorem Rl {S:List (List St×Nat)}:S.map chP=(S.map (·.2)).map fun c=>PV.str ⟨#[c]⟩:=by rw [km]; rfl
theorem xO {h:PH} {δ:Ev} {i j l:Nat} {S:List (List St×Nat)} {f:List St×Nat->PV} (ei:nD δ i=some (.ref l)) (g:h[l]?=some (.lst (S.map rwP))) (lS:S.length<=1000) (hf:∀ r h,mV j [some (pl r.1),some (.str ⟨#[r.2]⟩)] h=.ok (f r) h):
  dC [none,none] (dB (mV i)) (gTp 2 (gCn (gN 0) (gCn (gN 1) gNl))) mB (mV j) δ h=.ok (.ref h.length) (h++[.lst (S.map f)]):=by
 have hc:=tG (js:=[none,none]) (tg:=gTp 2 (gCn (gN 0) (gCn (gN 1) gNl))) (tst:=mB) (elt:=mV j) (δ:=δ) (h:=h) (h1:=h) (n:=l) (m:=mV i) (ys:=S) (emb:=rwP) (fun r=>some (f r)) (by rw [MW,ei]) g (by omega)
  (fun r hr=>⟨[some (pl r.1),some (.str ⟨#[r.2]⟩)],by simp [rwP,oX],fun h' _=>⟨rfl,hf r h'⟩⟩)
 rw [hc]
 congr 4
 exact List.filterMap_eq_map (f:=f) ▸ rfl
noncomputable def lT2:Ms:=aQ (aZ 11 (mCB pE (aA (dC [none] (dB (mV 8)) (gN 0) mB (cT (aA (mV 0) (aA (mC (.bl true)) aG)))) aG)))
  (fX (bT (aD vNe (dC [none,some 11] (dB (mV 3)) (gN 0) (bT (aD vE (mV 0) (mV 1))) (mV 0)) (mV 8)))
   (cZ (mC (.bl false)))
   fW)
noncomputable def lT:Ms:=aQ (aZ 10 (iY "rows" 0 nO (mV 1) aG))
  (aQ (aZ 3 (dC [none,none] (dB (mV 10)) (gTp 2 (gCn (gN 0) (gCn (gN 1) gNl))) mB (mV 0)))
  (aQ (fX (CV (bT (aD vNe (dC [none,none] (dB (mV 10)) (gTp 2 (gCn (gN 0) (gCn (gN 1) gNl))) mB (mV 1)) (mV 2))) (sX (bT (bP 1 mH (aA (mV 3) aG)))))
   (cZ (mC (.bl false)))
   fW) lT2))
theorem OM {x0 x1 x2 x4 x5 x6 x7 x9 x10 x11:Option PV} {h:PH} {l3 l8:Nat} {Ps Lf:List (List St)} {E:FE} (g3:h[l3]?=some (.lst (Ps.map pl))) (g8:h[l8]?=some (.lst (Lf.map pl))) (lP:Ps.length<=1000) (lL:Lf.length<=1000) (nd:Lf.Nodup) (fl:Ps.filter (fun q=>decide (q∈Lf))=Lf)
  (k:∀ h' x11,Ext h h'->E.nx [x0,x1,x2,some (.ref l3),x4,x5,x6,x7,some (.ref l8),x9,x10,x11] h'):(lT2 [x0,x1,x2,some (.ref l3),x4,x5,x6,x7,some (.ref l8),x9,x10,x11] h).W E:=by
 unfold lT2;have hc:=tG (js:=[none]) (tg:=gN 0) (tst:=mB) (elt:=cT (aA (mV 0) (aA (mC (.bl true)) aG))) (δ:=[x0,x1,x2,some (.ref l3),x4,x5,x6,x7,some (.ref l8),x9,x10,x11]) (h:=h) (h1:=h) (n:=l8) (m:=mV 8) (ys:=Lf) (emb:=pl) (fun p=>some (pT p)) rfl g8 (by omega)
  (fun p hp=>⟨[some (pl p)],rfl,fun h' _=>⟨rfl,by simp [pT]⟩⟩)
 have e1:Lf.filterMap (fun p=>some (pT p))=Lf.map pT:=List.filterMap_eq_map (f:=pT) ▸ rfl;rw [e1] at hc;have g4:(h++[MO.lst (Lf.map pT)])[h.length]?=some (.lst (Lf.map pT)):=bE;have y4:=Ext.app h [MO.lst (Lf.map pT)];generalize h++[MO.lst (Lf.map pT)]=h4 at hc g4 y4;have hd:=J' g4 nd;rw [bF,gR,Ob,Hw,hc,Rs.bind_ok,Ei,Rs.bind_ok,Rs.bind_ok,hd,jJ];simp only [f6,f7];refine now ?_;have y5:=y4.trans (Ext.app h4 [MO.dD (kvT Lf)]);have t5:bU (h4++[MO.dD (kvT Lf)]) h4.length=some (kvT Lf):=Er bE;generalize h4.length=l5 at t5;generalize h4++[MO.dD (kvT Lf)]=h5 at y5 t5;have hc2:=tG (js:=[none,some 11]) (tg:=gN 0) (tst:=bT (aD vE (mV 0) (mV 1))) (elt:=mV 0) (δ:=[x0,x1,x2,some (.ref l3),x4,x5,x6,x7,some (.ref l8),x9,x10,some (.ref l5)]) (h:=h5) (h1:=h5) (n:=l3) (m:=mV 3) (ys:=Ps) (emb:=pl) (fun p=>if decide (p∈Lf)=true then some (pl p) else none) rfl (y5 _ _ g3) (by omega)
  (fun p hp=>⟨[some (pl p),some (.ref l5)],rfl,fun h' hx=>by
   have e2:vE (pl p) (.ref l5) h'=.ok (.bl (decide (p∈Lf))) h':=by
    rw [<- BB];exact Ic (nL hx t5) (EG p)
   by_cases c:p∈Lf
   ·simp [c] at e2;simp [c,e2]
   ·simp [c] at e2;simp [c,e2]⟩)
 rw [Rj (fun p:List St=>decide (p∈Lf)) pl Ps,fl] at hc2;have y6:=y5.trans (Ext.app h5 [MO.lst (Lf.map pl)]);have g6:(h5++[MO.lst (Lf.map pl)])[h5.length]?=some (.lst (Lf.map pl)):=bE;have n6:=yX g6 (y6 _ _ g8) (J1 Lf) (J1 Lf);rw [iW,rN,iJ,hc2,Rs.bind_ok];have mv:mV 8 [x0,x1,x2,some (.ref l3),x4,x5,x6,x7,some (.ref l8),x9,x10,some (.ref l5)] (h5++[MO.lst (Lf.map pl)])=.ok (.ref l8) (h5++[MO.lst (Lf.map pl)]):=rfl;rw [mv,Rs.bind_ok,n6];simp only [Rs.bind_ok,Hy,jJ,decide_true,Bool.not_true];rw [if_neg (by decide),Eh];exact k _ _ y6
theorem Rm {x0 x3 x4 x5 x6 x7 x9 x10 x11:Option PV} {h:PH} {a d l2 l8:Nat} {R S:List (List St×Nat)} {Lf:List (List St)} {E:FE} (t:jT h a d R) (kR:Rk R) (p:S.Perm R) (I:SI S) (g2:h[l2]?=some (.lst (S.map chP))) (g8:h[l8]?=some (.lst (Lf.map pl))) (lL:Lf.length<=1000) (nd:Lf.Nodup) (fl:(S.map (·.1)).filter (fun q=>decide (q∈Lf))=Lf)
  (k:∀ h' l3 x10 x11,Ext h h'->h'[l3]?=some (.lst ((S.map (·.1)).map pl))->E.nx [x0,some (.ref a),some (.ref l2),some (.ref l3),x4,x5,x6,x7,some (.ref l8),x9,x10,x11] h'):(lT [x0,some (.ref a),some (.ref l2),x3,x4,x5,x6,x7,some (.ref l8),x9,x10,x11] h).W E:=by
 unfold lT;have lS:S.length<=1000:=by rw [p.length_eq]; exact kR.len
 obtain ⟨h1,l10,y1,_,g10,e10⟩:=Ly (δ:=[x0,some (.ref a),some (.ref l2),x3,x4,x5,x6,x7,some (.ref l8),x9,x10,x11]) (h:=h) (mo:=mV 1) (tb:=nO) t kR p I.srt rfl rfl;rw [bF,gR,e10,jJ];simp only [f6,f7];refine now ?_;have c1:=xO (δ:=[x0,some (.ref a),some (.ref l2),x3,x4,x5,x6,x7,some (.ref l8),x9,some (.ref l10),x11]) (h:=h1) (i:=10) (j:=0) (f:=fun r=>pl r.1) rfl g10 lS (fun _ _=>rfl);have em:S.map (fun r=>pl r.1)=(S.map (·.1)).map pl:=by rw [km]; rfl
 rw [em] at c1;rw [bF,gR,c1,jJ];simp only [f6,f7];refine now ?_;have y2:=Ext.app h1 [MO.lst ((S.map (·.1)).map pl)];have g3:(h1++[MO.lst ((S.map (·.1)).map pl)])[h1.length]?=some (.lst ((S.map (·.1)).map pl)):=bE;generalize h1.length=l3 at g3;generalize h1++[MO.lst ((S.map (·.1)).map pl)]=h2 at y2 g3;have c2:=xO (δ:=[x0,some (.ref a),some (.ref l2),some (.ref l3),x4,x5,x6,x7,some (.ref l8),x9,some (.ref l10),x11]) (h:=h2) (i:=10) (j:=1) (f:=chP) rfl (y2 _ _ g10) lS (fun _ _=>rfl);have y3:=Ext.app h2 [MO.lst (S.map chP)];have g4:(h2++[MO.lst (S.map chP)])[h2.length]?=some (.lst (S.map chP)):=bE;have y:=(y1.trans y2).trans y3;have n4:=yX g4 (y _ _ g2) (Du S) (Du S);have r5:=LF (y3 _ _ g3) (by rw [aj]; exact lS) (fun q hq=>by
  obtain ⟨r,hr,rfl⟩:=cz.mp hq;exact I.hl r hr) (fun k a b ha hb=>by
  rw [bf] at ha hb;obtain ⟨a',ha',rfl⟩:=b6.mp ha;obtain ⟨b',hb',rfl⟩:=b6.mp hb;exact I.lt (k8 k) ha' hb')
 have et:CV (bT (aD vNe (dC [none,none] (dB (mV 10)) (gTp 2 (gCn (gN 0) (gCn (gN 1) gNl))) mB (mV 1)) (mV 2))) (sX (bT (bP 1 mH (aA (mV 3) aG)))) [x0,some (.ref a),some (.ref l2),some (.ref l3),x4,x5,x6,x7,some (.ref l8),x9,some (.ref l10),x11] h2=.ok false (h2++[MO.lst (S.map chP)]):=by
  have mv:∀ hh:PH,mV 2 [x0,some (.ref a),some (.ref l2),some (.ref l3),x4,x5,x6,x7,some (.ref l8),x9,some (.ref l10),x11] hh=.ok (.ref l2) hh:=fun _=>rfl;have ma:∀ hh:PH,aA (mV 3) aG [x0,some (.ref a),some (.ref l2),some (.ref l3),x4,x5,x6,x7,some (.ref l8),x9,some (.ref l10),x11] hh=.ok [.ref l3] hh:=fun _=>rfl;rw [KS,rN,iJ,c2,Rs.bind_ok,mv,Rs.bind_ok,n4];simp only [Rs.bind_ok,Hy,decide_true,Bool.not_true];rw [if_neg (by decide),Hu,rN,tE,ma,Rs.bind_ok,if_pos (by rfl),r5];rfl
 rw [bF,iW,et,jJ,if_neg (by decide),Eh];refine now ?_;exact OM (y3 _ _ g3) (y _ _ g8) (by rw [aj]; exact lS) lL nd fl fun h' x11 x=>k h' l3 _ x11 (y.trans x) (x _ _ (y3 _ _ g3))
theorem LG {α:Type} {xs:List α} {i j:Nat} (h0:i<=xs.length) (h1:i<=j):kW xs (some (i:Int)) (some (j:Int))=(xs.drop i).take (j - i):=by
 unfold kW;rw [rP (by omega),rP (by omega)];have e:min ((i:Int).toNat) xs.length=i:=by omega
 rw [e,List.take_eq_take_iff,bz];omega
theorem Ja {h:PH} {δ:Ev} {j l l7:Nat} {xs gs:List PV} {i:Nat} (ej:nD δ j=some (.ref l)) (e6:nD δ 6=some (.int (i:Int))) (e7:nD δ 7=some (.ref l7)) (g:h[l]?=some (.lst xs)) (g7:h[l7]?=some (.lst gs)) (lx:xs.length<=1000):
  ∃ h' n,Ext h h'/\h'[n]?=some (.lst (xs.take i++xs.drop (i+gs.length)))/\aD aS (mSl (mV j) gE (mP (mV 6))) (mSl (mV j) (mP (aD aS (mV 6) (mCB dU (aA (mV 7) aG)))) gE) δ h=.ok (.ref n) h':=by
 have e1:mSl (mV j) gE (mP (mV 6)) δ h=.ok (.ref h.length) (h++[.lst (xs.take i)]):=by
  simp [ej,e6,nI g];rw [D5 (by omega)];rfl
 have g1:(h++[MO.lst (xs.take i)])[h.length]?=some (.lst (xs.take i)):=bE;have x1:=Ext.app h [MO.lst (xs.take i)];generalize h++[MO.lst (xs.take i)]=h1 at e1 g1 x1;have e2:mSl (mV j) (mP (aD aS (mV 6) (mCB dU (aA (mV 7) aG)))) gE δ h1=.ok (.ref h1.length) (h1++[.lst (xs.drop (i+gs.length))]):=by
  simp [ej,e6,e7,nI (x1 _ _ g),jK (x1 _ _ g7)];rw [B9 (by omega)]
  congr 1
 have g2:(h1++[MO.lst (xs.drop (i+gs.length))])[h1.length]?=some (.lst (xs.drop (i+gs.length))):=bE;have x2:=Ext.app h1 [MO.lst (xs.drop (i+gs.length))];generalize h1++[MO.lst (xs.drop (i+gs.length))]=h2 at e2 g2 x2;have e3:=pD (x2 _ _ g1) g2 (by rw [bq,bz]; omega);exact ⟨h2++[MO.lst (xs.take i++xs.drop (i+gs.length))],h2.length,(x1.trans x2).trans (Ext.app _ _),bE,by rw [iJ,e1,Rs.bind_ok,e2,Rs.bind_ok,e3]⟩
structure LJ (a d q:Nat) (S R:List (List St×Nat)) (l2 l3:Nat) (h:PH):Prop where
 sg:jT h a d R
 k:Rk R
 pm:S.Perm R
 si:SI S
 g2:h[l2]?=some (.lst (S.map chP))
 g3:h[l3]?=some (.lst ((S.map (·.1)).map pl))
 ln:S.length<=12*q
 hl:∀ r∈S,r.1.length<=12*q
theorem LJ.ext {a d q:Nat} {S R:List (List St×Nat)} {l2 l3:Nat} {h h':PH} (i:LJ a d q S R l2 l3 h) (x:Ext h h'):LJ a d q S R l2 l3 h':=⟨i.sg.ext x,i.k,i.pm,i.si,x _ _ i.g2,x _ _ i.g3,i.ln,i.hl⟩
noncomputable def lC:Ms:=aQ (aZ 6 (aD fA (mV 5) (mCB dU (aA (mV 2) aG))))
   (aQ (aZ 7 (mSl (mV 3) (mP (mV 6)) (mP (aD aS (aD aS (mV 6) (mC (.int 1))) (aD fA (aD jI (mV 5) (mC (.int 301))) (mC (.int 5)))))))
   (aQ (yU (iY "cut" 1 uA (mV 1) (aA (mV 7) aG)))
   (aQ (aZ 2 (aD aS (mSl (mV 2) gE (mP (mV 6))) (mSl (mV 2) (mP (aD aS (mV 6) (mCB dU (aA (mV 7) aG)))) gE)))
   (aZ 8 (aD aS (mSl (mV 3) gE (mP (mV 6))) (mSl (mV 3) (mP (aD aS (mV 6) (mCB dU (aA (mV 7) aG)))) gE))))))
structure LK (a d q:Nat) (S R:List (List St×Nat)) (Lf:List (List St)) (l2 l8:Nat) (h:PH):Prop where
 sg:jT h a d R
 k:Rk R
 pm:S.Perm R
 si:SI S
 g2:h[l2]?=some (.lst (S.map chP))
 g8:h[l8]?=some (.lst (Lf.map pl))
 lL:Lf.length<=1000
 nd:Lf.Nodup
 fl:(S.map (·.1)).filter (fun p=>decide (p∈Lf))=Lf
 ln:S.length<=12*q
 hl:∀ r∈S,r.1.length<=12*q
theorem Ro {a d q:Nat} {S R:List (List St×Nat)} {l2 l3:Nat} {h:PH} (i:LJ a d q S R l2 l3 h) (hq:q < 30) (hS:S≠[]) {x0 x4 x6 x7 x8 x9 x10 x11:Option PV} {N:Int} {E:FE} (hN:0<=N/\N < 2147483647)
  (k:∀ S R Lf l2 l8 x6 x7 h',LK a d (q+1) S R Lf l2 l8 h'->E.nx [x0,some (.ref a),some (.ref l2),some (.ref l3),x4,some (.int N),x6,x7,some (.ref l8),x9,x10,x11] h'):
  (lC [x0,some (.ref a),some (.ref l2),some (.ref l3),x4,some (.int N),x6,x7,x8,x9,x10,x11] h).W E:=by
 unfold lC;have l1:=i.ln;have lS:0 < S.length:=List.length_pos_iff.mpr hS;obtain ⟨at_,ea,ha⟩:∃ at_:Nat,N % (S.length:Int)=at_/\at_ < S.length:=by
  have h0:=Int.emod_nonneg N (b:=(S.length:Int)) (by omega);have h1:=Int.emod_lt_of_pos N (b:=(S.length:Int)) (by omega);exact ⟨(N % (S.length:Int)).toNat,by omega,by omega⟩
 have el:=jK i.g2;rw [aj] at el;rw [bF];simp (disch:=omega) [el,ea];refine now ?_;obtain ⟨m,em⟩:∃ m:Nat,N / 301 % 5=m:=⟨(N / 301 % 5).toNat,by omega⟩;have e7:mSl (mV 3) (mP (mV 6)) (mP (aD aS (aD aS (mV 6) (mC (.int 1))) (aD fA (aD jI (mV 5) (mC (.int 301))) (mC (.int 5))))) [x0,some (.ref a),some (.ref l2),some (.ref l3),x4,some (.int N),some (.int (at_:Int)),x7,x8,x9,x10,x11] h=.ok (.ref h.length) (h++[.lst ((((S.drop at_).take (m+1)).map (·.1)).map pl)]):=by
  have e1:aD aS (aD aS (mV 6) (mC (.int 1))) (aD fA (aD jI (mV 5) (mC (.int 301))) (mC (.int 5))) [x0,some (.ref a),some (.ref l2),some (.ref l3),x4,some (.int N),some (.int (at_:Int)),x7,x8,x9,x10,x11] h=.ok (.int ((at_+1+m:Nat):Int)) h:=by
   simp (disch:=omega) [em]
  have e2:=nI (lo:=some (at_:Int)) (hi:=some ((at_+1+m:Nat):Int)) i.g3;rw [LG (by rw [aj,aj]; omega) (by omega)] at e2;have e3:(((S.map (·.1)).map pl).drop at_).take (at_+1+m - at_)=(((S.drop at_).take (m+1)).map (·.1)).map pl:=by
   rw [kz,m5,kz,m5]
   congr 1
   omega
  rw [e3] at e2;have mv3:mV 3 [x0,some (.ref a),some (.ref l2),some (.ref l3),x4,some (.int N),some (.int (at_:Int)),x7,x8,x9,x10,x11] h=.ok (.ref l3) h:=rfl;have mp6:mP (mV 6) [x0,some (.ref a),some (.ref l2),some (.ref l3),x4,some (.int N),some (.int (at_:Int)),x7,x8,x9,x10,x11] h=.ok (some (at_:Int)) h:=rfl;rw [Oc,mv3,Rs.bind_ok,mp6,Rs.bind_ok,QH,e1,Rs.bind_ok,D0,Rs.bind_ok,e2]
 rw [bF,gR,e7,jJ];simp only [f6,f7];have g7:(h++[MO.lst ((((S.drop at_).take (m+1)).map (·.1)).map pl)])[h.length]?=some (.lst ((((S.drop at_).take (m+1)).map (·.1)).map pl)):=bE;have y7:=Ext.app h [MO.lst ((((S.drop at_).take (m+1)).map (·.1)).map pl)];generalize h.length=l7 at g7;generalize h++[MO.lst ((((S.drop at_).take (m+1)).map (·.1)).map pl)]=h7 at g7 y7;have i7:=i.ext y7;obtain ⟨B,eB,bl⟩:∃ B,(S.drop at_).take (m+1)=B/\S=S.take at_++B++S.drop (at_+B.length):=by
  refine ⟨_,rfl,?_⟩;have e1:S.drop (at_+((S.drop at_).take (m+1)).length)=(S.drop at_).drop (m+1):=by
   rw [List.drop_drop,bq,bz]
   by_cases c:m+1<=S.length - at_
   ·rw [Nat.min_eq_left c]
   ·rw [fw (by omega),fw (by omega)]
  rw [e1,ai,bo,bo]
 rw [eB] at g7;refine now ?_;have mv:mV 1 [x0,some (.ref a),some (.ref l2),some (.ref l3),x4,some (.int N),some (.int (at_:Int)),some (.ref l7),x8,x9,x10,x11] h7=.ok (.ref a) h7:=rfl;have ma:aA (mV 7) aG [x0,some (.ref a),some (.ref l2),some (.ref l3),x4,some (.int N),some (.int (at_:Int)),some (.ref l7),x8,x9,x10,x11] h7=.ok [.ref l7] h7:=rfl;rw [bF,MV,OH i7.sg (f:=dE) rfl rfl mv,ma,Rs.bind_ok,if_pos (by rfl)];refine OG i7.sg (by have:=i.k.len; omega) i.k.hp i.k.nd (B.map (·.1)) _ (.inr ⟨l7,rfl,g7⟩) _ fun _ h8 _ f8 td8 _ _ _ _=>?_;have t8:jT h8 a d (cG R (B.map (·.1))):=⟨f8 _ _ (J2 i7.sg i7.sg.2) i7.sg.1,td8⟩;have g28:=f8 _ _ (uG i7.g2 i7.sg.2) i7.g2;have g38:=f8 _ _ (uG i7.g3 i7.sg.2) i7.g3;have g78:=f8 _ _ (uG g7 i7.sg.2) g7;refine now ?_;obtain ⟨h9,n9,y9,g9,e9⟩:=Ja (δ:=[x0,some (.ref a),some (.ref l2),some (.ref l3),x4,some (.int N),some (.int (at_:Int)),some (.ref l7),x8,x9,x10,x11]) (j:=2) (i:=at_) rfl rfl rfl g28 g78 (by rw [aj]; omega);rw [bF,gR,e9,jJ];simp only [f6,f7];refine now ?_;obtain ⟨hA,nA,yA,gA,eA⟩:=Ja (δ:=[x0,some (.ref a),some (.ref n9),some (.ref l3),x4,some (.int N),some (.int (at_:Int)),some (.ref l7),x8,x9,x10,x11]) (j:=3) (i:=at_) rfl rfl rfl (y9 _ _ g38) (y9 _ _ g78) (by rw [aj,aj]; omega);rw [gR,eA,jJ];simp only [f6,f7];have lb:((B.map (·.1)).map pl).length=B.length:=by rw [aj,aj]
 rw [lb] at g9 gA;have eo:cG S (B.map (·.1))=S.take at_++S.drop (at_+B.length):=by
  have nd:=i.si.nd;rw [bl] at nd;have:=LC nd;rw [<- bl] at this;exact this
 have po:(S.take at_++S.drop (at_+B.length)).Perm (cG R (B.map (·.1))):=by
  rw [<- eo];exact J3 i.pm _
 have sub:(S.take at_++S.drop (at_+B.length)).Sublist S:=by
  rw [<- eo];exact List.filter_sublist
 have si':=i.si.sub sub;have e1:(S.map chP).take at_++(S.map chP).drop (at_+B.length)=(S.take at_++S.drop (at_+B.length)).map chP:=by
  rw [dz,kz,m5]
 have e2:((S.map (·.1)).map pl).take at_++((S.map (·.1)).map pl).drop (at_+B.length)=((S.take at_++S.drop (at_+B.length)).map (·.1)).map pl:=by
  rw [dz,dz,kz,m5,kz,m5]
 rw [e1] at g9;rw [e2] at gA;have ls:=sub.length_le;refine k _ _ ((S.take at_++S.drop (at_+B.length)).map (·.1)) _ _ _ _ hA ⟨(t8.ext y9).ext yA,i.k.out _,po,si',yA _ _ g9,gA,by rw [aj]; omega,si'.nd,gz.mpr fun p hp=>decide_eq_true hp,by omega,fun r hr=>?_⟩;have:=i.hl r (sub.subset hr);omega
noncomputable def lW:Ms:=aQ (aZ 6 (aD fA (mV 5) (aD aS (mCB dU (aA (mV 2) aG)) (mC (.int 1)))))
   (aQ (aZ 9 (bP 4 tY (aA (aD vAt (mV 0) (mV 4)) (aA (aD aS (mV 4) (mC (.int 1))) (aA (bP 2 iP (aA (mV 3) (aA (mV 6) aG))) (aA (mCB dU (aA (mV 2) aG)) aG))))))
   (aQ (yU (iY "write" 1 uB (mV 1) (aA (mV 9) aG)))
   (aQ (aZ 2 (aD aS (aD aS (mSl (mV 2) gE (mP (mV 6))) (dC [none] (tP (aD vAt (aD vAt (mV 9) (mC (.int 2))) (mC (.int 4)))) (gN 0) mB (mV 0))) (mSl (mV 2) (mP (mV 6)) gE)))
   (aZ 8 (mV 3)))))
theorem Jb {h:PH} {δ:Ev} {hd w:Str} {n s:Int} {u:List St} {sn:PV} (e9:nD δ 9=some (wr hd n sn u s w)) (wa:Asc w) (w12:w.length<=12):dC [none] (tP (aD vAt (aD vAt (mV 9) (mC (.int 2))) (mC (.int 4)))) (gN 0) mB (mV 0) δ h=.ok (.ref h.length) (h++[.lst (w.cps.toList.map fun c=>.str ⟨#[c]⟩)]):=by
 have e0:tP (aD vAt (aD vAt (mV 9) (mC (.int 2))) (mC (.int 4))) δ h=.ok ⟨w.cps.toList.map fun c=>.str ⟨#[c]⟩,fun _=>true⟩ h:=by
  have e1:aD vAt (aD vAt (mV 9) (mC (.int 2))) (mC (.int 4)) δ h=.ok (.str w) h:=by
   simp [e9,wr]
  unfold tP;rw [e1,Rs.bind_ok];unfold ofStr;dsimp only;rw [if_pos (EI wa)]
 have hc:=wW (js:=[none]) (tg:=gN 0) (tst:=mB) (elt:=mV 0) (δ:=δ) (h:=h) (h1:=h) (g:=fun _=>true) (ys:=w.cps.toList) (emb:=fun c=>.str ⟨#[c]⟩) (fun c=>some (.str ⟨#[c]⟩)) e0 (fun _ _=>rfl) (by rw [len_list]; omega) (fun c _=>⟨[some (.str ⟨#[c]⟩)],rfl,fun h' _=>⟨rfl,rfl⟩⟩);rw [hc]
 congr 4
 exact List.filterMap_eq_map (f:=fun c=>PV.str ⟨#[c]⟩) ▸ rfl
theorem N3 {ns:List Int} {a d q:Nat} {S R:List (List St×Nat)} {l2 l3:Nat} {h:PH} (i:LJ a d q S R l2 l3 h) (hq:q < 30) {c:Int} (hc:atI (ns.map PV.int) (q:Int)=some (.int c)) {x6 x7 x8 x9 x10 x11:Option PV} {N:Int} {E:FE} (hN:0<=N/\N < 2147483647)
  (k:∀ S R Lf l2 l8 x6 x9 h',LK a d (q+1) S R Lf l2 l8 h'->E.nx [some (.fl (ns.map PV.int)),some (.ref a),some (.ref l2),some (.ref l3),some (.int (q:Int)),some (.int N),x6,x7,some (.ref l8),x9,x10,x11] h'):
  (lW [some (.fl (ns.map PV.int)),some (.ref a),some (.ref l2),some (.ref l3),some (.int (q:Int)),some (.int N),x6,x7,x8,x9,x10,x11] h).W E:=by
 unfold lW;have l1:=i.ln;obtain ⟨at_,ea,ha⟩:∃ at_:Nat,N % ((S.length:Int)+1)=at_/\at_<=S.length:=by
  have h0:=Int.emod_nonneg N (b:=(S.length:Int)+1) (by omega);have h1:=Int.emod_lt_of_pos N (b:=(S.length:Int)+1) (by omega);exact ⟨(N % ((S.length:Int)+1)).toNat,by omega,by omega⟩
 have el:=jK i.g2;rw [aj] at el;rw [bF];simp (disch:=omega) [el,ea];refine now ?_;rw [bF,gR];obtain ⟨us,eu⟩:∃ us,dQ (lft (S.map (·.1)) at_) ((S.map (·.1))[at_]?)=us:=⟨_,rfl⟩;have gp:iP [.ref l3,.int (at_:Int)] h=.ok (.tup [pl us.1,.int us.2]) h:=by
  have w:=J9 i.g3 at_ (by rw [aj]; exact ha) (by rw [aj]; omega) (fun p hp=>by
   obtain ⟨r,hr,rfl⟩:=cz.mp hp;exact i.si.hl r hr) (fun r hr=>by
   rw [bf] at hr;obtain ⟨z,hz,rfl⟩:=b6.mp hr;exact i.si.lb hz) (fun p h'=>p=.tup [pl us.1,.int us.2]/\h'=h) (by rw [eu]; exact ⟨rfl,rfl⟩)
  obtain ⟨p,h',e,rfl,rfl⟩:=oY w;exact e
 have hargs:aA (aD vAt (mV 0) (mV 4)) (aA (aD aS (mV 4) (mC (.int 1))) (aA (bP 2 iP (aA (mV 3) (aA (mV 6) aG))) (aA (mCB dU (aA (mV 2) aG)) aG))) [some (.fl (ns.map PV.int)),some (.ref a),some (.ref l2),some (.ref l3),some (.int (q:Int)),some (.int N),some (.int (at_:Int)),x7,x8,x9,x10,x11] h=.ok [.int c,.int ((q:Int)+1),.tup [pl us.1,.int us.2],.int (S.length:Int)] h:=by
  simp [hc,gp,el]
 rw [tE,hargs,Rs.bind_ok,if_pos (by rfl)];refine Lz c _ _ us.1 us.2 h _ fun hd sn w h1 y1 w1 w12 wa=>?_;simp only [f6,f7];have i1:=i.ext y1;have lu:us.1.length<=12*q:=by
  have hlf:(lft (S.map (·.1)) at_).length<=12*q:=by
   cases at_ with
   | zero=>exact dv _
   | succ j=>
    have hj:S[j]?=some S[j]:=cm _;rw [Dt hj];exact i.hl _ (b7 hj)
  rw [<- eu];cases er:(S.map (·.1))[at_]? with
  | none=>exact hlf
  | some r=>
   rw [bf] at er;obtain ⟨z,hz,rfl⟩:=b6.mp er;have:=i.hl z (b7 hz);unfold dQ;dsimp only;split
   ·exact this
   ·exact hlf
 have hNl:∀ x∈aY us.1 us.2 hd ((q:Int)+1) w,x.1.length<=12*(q+1):=fun x hx=>by
  obtain ⟨_,_,hh⟩:=nQ hx;omega
 have si':=i.si.ins ha eu (hd:=hd) (n:=(q:Int)+1) (w:=w) fun x hx=>by have:=hNl x hx; omega
 have lw:(aY us.1 us.2 hd ((q:Int)+1) w).length=w.length:=by
  have:=congrArg List.length (kI us.1 us.2 ((q:Int)+1) hd w);rw [aj,jS] at this;exact this
 have pS:(S.take at_++aY us.1 us.2 hd ((q:Int)+1) w++S.drop at_).Perm (R++aY us.1 us.2 hd ((q:Int)+1) w):=by
  have e:(S.take at_++aY us.1 us.2 hd ((q:Int)+1) w++S.drop at_).Perm (S.take at_++S.drop at_++aY us.1 us.2 hd ((q:Int)+1) w):=by
   rw [ai,ai];exact cj _ jy
  rw [bo] at e;exact e.trans (i.pm.append_right _)
 have ndR:((R++aY us.1 us.2 hd ((q:Int)+1) w).map (·.1)).Nodup:=(pS.map iz).nodup_iff.mp si'.nd;have lR:R.length=S.length:=i.pm.length_eq.symm;refine now ?_;have mv:mV 1 [some (.fl (ns.map PV.int)),some (.ref a),some (.ref l2),some (.ref l3),some (.int (q:Int)),some (.int N),some (.int (at_:Int)),x7,x8,some (wr hd ((q:Int)+1) sn us.1 us.2 w),x10,x11] h1=.ok (.ref a) h1:=rfl;have ma:aA (mV 9) aG [some (.fl (ns.map PV.int)),some (.ref a),some (.ref l2),some (.ref l3),some (.int (q:Int)),some (.int N),some (.int (at_:Int)),x7,x8,some (wr hd ((q:Int)+1) sn us.1 us.2 w),x10,x11] h1=.ok [wr hd ((q:Int)+1) sn us.1 us.2 w] h1:=rfl;rw [bF,MV,OH i1.sg (f:=cB) rfl rfl mv,ma,Rs.bind_ok,if_pos (by rfl)];refine IZ i1.sg (by omega) us.1 us.2 _ hd w sn (by omega) w1 w12 wa _ fun h2 f2 td2=>?_;rw [Bz _ _ ndR] at td2;have t2:jT h2 a d (R++aY us.1 us.2 hd ((q:Int)+1) w):=⟨f2 _ _ (J2 i1.sg i1.sg.2) i1.sg.1,td2⟩;have g22:=f2 _ _ (uG i1.g2 i1.sg.2) i1.g2;have g32:=f2 _ _ (uG i1.g3 i1.sg.2) i1.g3;refine now ?_;have e1:mSl (mV 2) gE (mP (mV 6)) [some (.fl (ns.map PV.int)),some (.ref a),some (.ref l2),some (.ref l3),some (.int (q:Int)),some (.int N),some (.int (at_:Int)),x7,x8,some (wr hd ((q:Int)+1) sn us.1 us.2 w),x10,x11] h2=.ok (.ref h2.length) (h2++[.lst ((S.take at_).map chP)]):=by
  have:=nI (lo:=none) (hi:=some (at_:Int)) g22;rw [D5 (by omega)] at this;simp only [Int.toNat_natCast,<- kz] at this;simp [this]
 have y3:=Ext.app h2 [MO.lst ((S.take at_).map chP)];have g33:(h2++[MO.lst ((S.take at_).map chP)])[h2.length]?=some (.lst ((S.take at_).map chP)):=bE;generalize h2.length=n3 at e1 g33;generalize h2++[MO.lst ((S.take at_).map chP)]=h3 at e1 y3 g33;have e2:=Jb (h:=h3) (δ:=[some (.fl (ns.map PV.int)),some (.ref a),some (.ref l2),some (.ref l3),some (.int (q:Int)),some (.int N),some (.int (at_:Int)),x7,x8,some (wr hd ((q:Int)+1) sn us.1 us.2 w),x10,x11]) rfl wa w12;rw [<- FT us.1 us.2 ((q:Int)+1) hd w,<- Rl] at e2;have y4:=Ext.app h3 [MO.lst ((aY us.1 us.2 hd ((q:Int)+1) w).map chP)];have g44:(h3++[MO.lst ((aY us.1 us.2 hd ((q:Int)+1) w).map chP)])[h3.length]?=some (.lst ((aY us.1 us.2 hd ((q:Int)+1) w).map chP)):=bE;generalize h3.length=n4 at e2 g44;generalize h3++[MO.lst ((aY us.1 us.2 hd ((q:Int)+1) w).map chP)]=h4 at e2 y4 g44;have e3:=pD (y4 _ _ g33) g44 (by rw [aj,aj,bq,lw]; omega);rw [<- dz] at e3;have y5:=Ext.app h4 [MO.lst ((S.take at_++aY us.1 us.2 hd ((q:Int)+1) w).map chP)];have g55:(h4++[MO.lst ((S.take at_++aY us.1 us.2 hd ((q:Int)+1) w).map chP)])[h4.length]?=some (.lst ((S.take at_++aY us.1 us.2 hd ((q:Int)+1) w).map chP)):=bE;generalize h4.length=n5 at e3 g55;generalize h4++[MO.lst ((S.take at_++aY us.1 us.2 hd ((q:Int)+1) w).map chP)]=h5 at e3 y5 g55;have y25:=(y3.trans y4).trans y5;have e4:mSl (mV 2) (mP (mV 6)) gE [some (.fl (ns.map PV.int)),some (.ref a),some (.ref l2),some (.ref l3),some (.int (q:Int)),some (.int N),some (.int (at_:Int)),x7,x8,some (wr hd ((q:Int)+1) sn us.1 us.2 w),x10,x11] h5=.ok (.ref h5.length) (h5++[.lst ((S.drop at_).map chP)]):=by
  have:=nI (lo:=some (at_:Int)) (hi:=none) (y25 _ _ g22);rw [B9 (by omega)] at this;simp only [Int.toNat_natCast,<- m5] at this;simp [this]
 have y6:=Ext.app h5 [MO.lst ((S.drop at_).map chP)];have g66:(h5++[MO.lst ((S.drop at_).map chP)])[h5.length]?=some (.lst ((S.drop at_).map chP)):=bE;generalize h5.length=n6 at e4 g66;generalize h5++[MO.lst ((S.drop at_).map chP)]=h6 at e4 y6 g66;have e5:=pD (y6 _ _ g55) g66 (by rw [aj,aj,bh,bq,bz,lw]; omega);rw [<- dz] at e5;rw [bF,gR,iJ,iJ,e1,Rs.bind_ok,e2,Rs.bind_ok,e3,Rs.bind_ok,e4,Rs.bind_ok,e5,jJ];simp only [f6,f7];refine now ?_;rw [gR,MW];have y7:=(y25.trans y6).trans (Ext.app h6 [MO.lst ((S.take at_++aY us.1 us.2 hd ((q:Int)+1) w++S.drop at_).map chP)])
 show Rs.W (Rs.ok (PV.ref l3) _) _
 rw [jJ];have es:S.map (·.1)=(S.take at_).map (·.1)++(S.drop at_).map (·.1):=by rw [<- dz,bo]
 refine k (S.take at_++aY us.1 us.2 hd ((q:Int)+1) w++S.drop at_) _ (S.map (·.1)) _ _ _ _ _ ⟨t2.ext y7,⟨ndR,fun r hr=>?_,?_⟩,pS,si',bE,y7 _ _ g32,by rw [aj]; omega,i.si.nd,?_,?_,fun r hr=>?_⟩
 ·have:=si'.hl r (pS.mem_iff.mpr hr);omega
 ·rw [bh,lw]; omega
 ·have nd':=si'.nd;rw [dz,dz] at nd' ⊢;rw [es];exact LD nd'
 ·rw [pS.length_eq,bh,lw]; omega
 ·rcases au.mp (pS.mem_iff.mp hr) with hr | hr
  ·have:=i.hl r (i.pm.mem_iff.mpr hr);omega
  ·exact hNl r hr
theorem LH {ns:List Int} {a d q:Nat} {S R:List (List St×Nat)} {l2 l3:Nat} {h:PH} (i:LJ a d q S R l2 l3 h) (hq:q < 30) {c:Int} (hc:atI (ns.map PV.int) (q:Int)=some (.int c)) {x5 x6 x7 x8 x9 x10 x11:Option PV} {E:FE}
  (k:∀ S R l2 l3 x5 x6 x7 x8 x9 x10 x11 h',LJ a d (q+1) S R l2 l3 h'->E.nx [some (.fl (ns.map PV.int)),some (.ref a),some (.ref l2),some (.ref l3),some (.int (q:Int)),x5,x6,x7,x8,x9,x10,x11] h'):
  (rR [some (.fl (ns.map PV.int)),some (.ref a),some (.ref l2),some (.ref l3),some (.int (q:Int)),x5,x6,x7,x8,x9,x10,x11] h).W E:=by
 unfold rR;rw [bF,gR];have m1:bP 2 eR (aA (aD vAt (mV 0) (mV 4)) (aA (mC (.int 1)) aG)) [some (.fl (ns.map PV.int)),some (.ref a),some (.ref l2),some (.ref l3),some (.int (q:Int)),x5,x6,x7,x8,x9,x10,x11] h=eR [.int c,.int 1] h:=by
  simp [hc]
 rw [m1];refine BA c 1 (.inl rfl) h _ fun N h1 y1 n0 n1=>?_;simp only [f6,f7];have i1:=i.ext y1;refine now ?_;have tail:∀ {S R:List (List St×Nat)} {Lf:List (List St)} {l2 l8:Nat} {l3' x6 x7 x9 x10 x11:Option PV} {h':PH},LK a d (q+1) S R Lf l2 l8 h'->Lt lT E [some (.fl (ns.map PV.int)),some (.ref a),some (.ref l2),l3',some (.int (q:Int)),some (.int N),x6,x7,some (.ref l8),x9,x10,x11] h':=fun {S R Lf l2 l8 l3' x6 x7 x9 x10 x11 h'} j=>by
  refine now ?_;refine Rm j.sg j.k j.pm j.si j.g2 j.g8 j.lL j.nd j.fl fun h2 l3 x10 x11 y g3=>?_;exact k _ _ _ _ _ _ _ _ _ _ _ h2 ⟨j.sg.ext y,j.k,j.pm,j.si,y _ _ j.g2,g3,j.ln,j.hl⟩
 rw [bF,iW,Hv];have e0:bT (aD vEq (aD fA (aD vAt (mV 0) (mV 4)) (mC (.int 4))) (mC (.int 0))) [some (.fl (ns.map PV.int)),some (.ref a),some (.ref l2),some (.ref l3),some (.int (q:Int)),some (.int N),x6,x7,x8,x9,x10,x11] h1=.ok (decide (c % 4=0)) h1:=by
  simp (disch:=omega) [hc]
 rw [e0,Rs.bind_ok]
 by_cases z:c % 4=0
 ·rw [if_pos (decide_eq_true z)];have x2:=Ext.app h1 [MO.lst []];have e1:bT (aD vNe (mV 2) (qX aG)) [some (.fl (ns.map PV.int)),some (.ref a),some (.ref l2),some (.ref l3),some (.int (q:Int)),some (.int N),x6,x7,x8,x9,x10,x11] h1=.ok (!decide (S.map chP=[])) (h1++[.lst []]):=by
   have e2:=yX (x2 _ _ i1.g2) bE (Du S) rfl;have e3:qX aG [some (.fl (ns.map PV.int)),some (.ref a),some (.ref l2),some (.ref l3),some (.int (q:Int)),some (.int N),x6,x7,x8,x9,x10,x11] h1=.ok (.ref h1.length) (h1++[.lst []]):=by simp
   have e4:mV 2 [some (.fl (ns.map PV.int)),some (.ref a),some (.ref l2),some (.ref l3),some (.int (q:Int)),some (.int N),x6,x7,x8,x9,x10,x11] h1=.ok (.ref l2) h1:=rfl;rw [rN,iJ,e4,Rs.bind_ok,e3,Rs.bind_ok,e2];rfl
  rw [e1,jJ];have i2:=i1.ext x2
  by_cases s:S=[]
  ·rw [if_neg (by simp [s])];exact N3 i2 hq hc ⟨n0,n1⟩ fun S R Lf l2 l8 x6 x9 h' j=>tail j
  ·rw [if_pos (by simp [s])];exact Ro i2 hq s ⟨n0,n1⟩ fun S R Lf l2 l8 x6 x7 h' j=>tail j
 ·rw [if_neg (by simpa using z),jJ,if_neg (by decide)]
  exact N3 i1 hq hc ⟨n0,n1⟩ fun S R Lf l2 l8 x6 x9 h' j=>tail j
theorem main (ns:List Int) (hl:ns.length<=63):∃ h,IL [.fl (ns.map PV.int)] []=.ok (.bl true) h:=by
 have w:(IL [.fl (ns.map PV.int)] []).W fun p _=>p=.bl true:=by
  refine jD ?_;unfold IK;rw [bF];have ei:=Lx (n:=0) (h:=[MO.ins "Signs" []]) rfl;simp [ei];refine now ?_;rw [bF];simp;refine now ?_;rw [bF];simp;refine now ?_;rw [bF];generalize ej:(if (30:Int) < ns.length then 30 else (ns.length:Int))=j;have hj:j<=30/\j<=ns.length/\0<=j:=by rw [<- ej]; split <;> omega
  refine D3 (j:=j) (fun q δ h'=>∃ S R l2 l3 x4 x5 x6 x7 x8 x9 x10 x11,LJ 0 1 q S R l2 l3 h'/\δ=[some (.fl (ns.map PV.int)),some (.ref 0),some (.ref l2),some (.ref l3),x4,x5,x6,x7,x8,x9,x10,x11]) ?_ (by omega) ⟨[],[],2,3,_,_,_,_,_,_,_,_,⟨⟨rfl,rfl⟩,⟨by simp,fun r hr=>(by cases hr),by simp⟩,iy _,⟨ix,by simp,fun r hr=>(by cases hr),fun r hr=>(by cases hr)⟩,rfl,rfl,by simp,fun r hr=>by cases hr⟩,rfl⟩ ?_ ?_
  ·simp [ej]
  ·rintro q δ h' hq ⟨S,R,l2,l3,x4,x5,x6,x7,x8,x9,x10,x11,i,rfl⟩;have hql:q < ns.length:=by omega
   obtain ⟨c,hc⟩:∃ c,atI (ns.map PV.int) (q:Int)=some (.int c):=⟨ns[q],lY (by rw [bf,cm hql]; rfl)⟩
   show Fl.W (rR [some (.fl (ns.map PV.int)),some (.ref 0),some (.ref l2),some (.ref l3),some (.int (q:Int)),x5,x6,x7,x8,x9,x10,x11] h') _
   exact LH i (by omega) hc fun S R l2 l3 x5 x6 x7 x8 x9 x10 x11 h' j=>⟨S,R,l2,l3,_,x5,x6,x7,x8,x9,x10,x11,j,rfl⟩
  ·rintro δ h' ⟨S,R,l2,l3,x4,x5,x6,x7,x8,x9,x10,x11,i,rfl⟩;refine now ?_;simp
 obtain ⟨p,h,e,rfl⟩:=oY w;exact ⟨h,e⟩
end K38
namespace K38
open PySem L2
def top (i:Nat):Stmt:=PySem.Challenge.pw_copymeet_k38_whole_written_by_gaps.main.body.getD i (.Pass ⟨0,0,0,0⟩)
abbrev bsL:List Str:=["len","range","zip","sorted","min","dict"]
abbrev cC (w:World) (K:ag) (cl:Str->Option Addr):MC:=⟨K,cl,bsL,fun _ _ _=>False,w⟩
abbrev kJ:Stmt:=top 0
theorem Jc:bB ["k"] ["k"] (aE kJ):=⟨rfl,rfl,rfl,by decide +kernel,rfl,by decide +kernel,by decide +kernel⟩
abbrev fJ:Stmt:=top 5
theorem Dv:bB ["place"] ["place"] (aE fJ):=⟨rfl,rfl,rfl,by decide +kernel,rfl,by decide +kernel,by decide +kernel⟩
abbrev eG:Stmt:=top 6
theorem BC:bB ["row"] ["row"] (aE eG):=⟨rfl,rfl,rfl,by decide +kernel,rfl,by decide +kernel,by decide +kernel⟩
abbrev gX:Stmt:=top 7
theorem FU:bB ["one","other"] ["one","other"] (aE gX):=⟨rfl,rfl,rfl,by decide +kernel,rfl,by decide +kernel,by decide +kernel⟩
abbrev xP:Stmt:=top 8
theorem ON:bB ["left","right"] ["left","right"] (aE xP):=⟨rfl,rfl,rfl,by decide +kernel,rfl,by decide +kernel,by decide +kernel⟩
abbrev eI:Stmt:=top 9
theorem eX:bB ["spot","name","under","side","hand","n"] ["spot","name"] (aE eI):=⟨rfl,rfl,rfl,by decide +kernel,rfl,by decide +kernel,by decide +kernel⟩
abbrev dF:Stmt:=top 10
theorem aV:bB ["deed","name","seen","act","word","thing","under","side","signs","hand","n","places","k"] ["deed"] (aE dF):=⟨rfl,rfl,rfl,by decide +kernel,rfl,by decide +kernel,by decide +kernel⟩
abbrev bM:Stmt:=inClass (top 12) 0
theorem nR:bB ["self"] ["self"] (aE bM):=⟨rfl,rfl,rfl,by decide +kernel,rfl,by decide +kernel,by decide +kernel⟩
abbrev cD:Stmt:=inClass (top 12) 1
theorem dR:bB ["self","deed","signs","place","sign"] ["self","deed"] (aE cD):=⟨rfl,rfl,rfl,by decide +kernel,rfl,by decide +kernel,by decide +kernel⟩
abbrev dG:Stmt:=inClass (top 12) 2
theorem iQ:bB ["self","places","gone","place"] ["self","places"] (aE dG):=⟨rfl,rfl,rfl,by decide +kernel,rfl,by decide +kernel,by decide +kernel⟩
abbrev cP:Stmt:=inClass (top 12) 4
theorem vF:bB ["self"] ["self"] (aE cP):=⟨rfl,rfl,rfl,by decide +kernel,rfl,by decide +kernel,by decide +kernel⟩
abbrev kK:Stmt:=top 14
theorem BD:bB ["_law_cell","_law_k","_law_number"] ["_law_cell","_law_k"] (aE kK):=⟨rfl,rfl,rfl,by decide +kernel,rfl,by decide +kernel,by decide +kernel⟩
abbrev pL:Stmt:=top 15
theorem iR:bB ["_law_number","_law_some","_law_word","_law_rest","_law_k"] ["_law_number"] (aE pL):=⟨rfl,rfl,rfl,by decide +kernel,rfl,by decide +kernel,by decide +kernel⟩
abbrev kL:Stmt:=top 16
theorem fS:bB ["_law_number","_law_many","_law_some","_law_word","_law_k"] ["_law_number","_law_many"] (aE kL):=⟨rfl,rfl,rfl,by decide +kernel,rfl,by decide +kernel,by decide +kernel⟩
abbrev xQ:Stmt:=top 17
theorem OO:bB ["_law_place"] ["_law_place"] (aE xQ):=⟨rfl,rfl,rfl,by decide +kernel,rfl,by decide +kernel,by decide +kernel⟩
abbrev pM:Stmt:=top 18
theorem gB:bB ["_law_cell","_law_n","_law_spot","_law_size","_law_number","_law_many","_law_hand_here","_law_seen"] ["_law_cell","_law_n","_law_spot","_law_size"] (aE pM):=⟨rfl,rfl,rfl,by decide +kernel,rfl,by decide +kernel,by decide +kernel⟩
abbrev kM:Stmt:=top 19
theorem jU:bB ["_law_places","_law_at","_law_left","_law_right"] ["_law_places","_law_at"] (aE kM):=⟨rfl,rfl,rfl,by decide +kernel,rfl,by decide +kernel,by decide +kernel⟩
abbrev pN:Stmt:=top 20
theorem EN:bB ["_law_places","_law_k"] ["_law_places"] (aE pN):=⟨rfl,rfl,rfl,by decide +kernel,rfl,by decide +kernel,by decide +kernel⟩
abbrev nS:Stmt:=top 21
theorem cN:bB ["_law_script","_law_signs_here","_law_text","_law_places","_law_k","_law_number","_law_at","_law_gone","_law_left","_law_deed_here","_law_rows","_law_stood"] ["_law_script"] (aE nS):=⟨rfl,rfl,rfl,by decide +kernel,rfl,by decide +kernel,by decide +kernel⟩
abbrev BE:List Str:=["_law_sign"]
theorem FV:(BE).Nodup:=by decide +kernel
abbrev BF:List Str:=["_law_place","_law_sign"]
theorem xR:(BF).Nodup:=by decide +kernel
abbrev BG:List Str:=["_law_place","_law_sign"]
theorem xS:(BG).Nodup:=by decide +kernel
abbrev BH:List Str:=["_law_place"]
theorem FW:(BH).Nodup:=by decide +kernel
abbrev BI:List Str:=["_law_place","_law_stood"]
theorem FX:(BI).Nodup:=by decide +kernel
theorem gJ:("len" : Str)∈bsL:=(.head _)
theorem jV:("range" : Str)∈bsL:=(.tail _ (.head _))
theorem xT:("sorted" : Str)∈bsL:=(.tail _ (.tail _ (.tail _ (.head _))))
section
variable {P:Program} {w:World} {K:ag} {mg:Str->Option Value} {base:Heap} {cl:Str->Option Addr}
variable (P w K mg base cl)
abbrev Jd:Prop:=∃ a fd,Def K mg "_wall" kJ a fd ["k"]/\aT P w K mg base CX0 1 a fd ["k"] (spM (cC w K cl) 1 ED)
abbrev mJ:Prop:=∃ a fd,Def K mg "rank_of" fJ a fd ["place"]/\aT P w K mg base CX0 1 a fd ["place"] (spM (cC w K cl) 1 eE)
abbrev jW:Prop:=∃ a fd,Def K mg "row_rank" eG a fd ["row"]/\aT P w K mg base CX0 2 a fd ["row"] (spM (cC w K cl) 1 cM)
abbrev pO:Prop:=∃ a fd,Def K mg "before" gX a fd ["one","other"]/\aT P w K mg base CX0 2 a fd ["one","other"] (spM (cC w K cl) 2 gU)
abbrev Je:Prop:=∃ a fd,Def K mg "gap" xP a fd ["left","right"]/\aT P w K mg base CX0 3 a fd ["left","right"] (spM (cC w K cl) 2 tW)
abbrev qN:Prop:=∃ a fd,Def K mg "place_of" eI a fd ["spot","name"]/\aT P w K mg base CX0 1 a fd ["spot","name"] (spM (cC w K cl) 2 fQ)
abbrev nT:Prop:=∃ a fd,Def K mg "places_of" dF a fd ["deed"]/\aT P w K mg base CX0 2 a fd ["deed"] (spM (cC w K cl) 1 eU)
abbrev uI:Prop:=∃ a fd,Def K mg "_law_mixed" kK a fd ["_law_cell","_law_k"]/\aT P w K mg base CX0 1 a fd ["_law_cell","_law_k"] (spM (cC w K cl) 2 eR)
abbrev EO:Prop:=∃ a fd,Def K mg "_law_hand" pL a fd ["_law_number"]/\aT P w K mg base CX0 1 a fd ["_law_number"] (spM (cC w K cl) 1 tX)
abbrev BJ:Prop:=∃ a fd,Def K mg "_law_signs" kL a fd ["_law_number","_law_many"]/\aT P w K mg base CX0 1 a fd ["_law_number","_law_many"] (spM (cC w K cl) 2 nN)
abbrev Jf:Prop:=∃ a fd,Def K mg "_law_key" xQ a fd ["_law_place"]/\aT P w K mg base CX0 1 a fd ["_law_place"] (spM (cC w K cl) 1 xJ)
abbrev ES:Prop:=∃ a fd,Def K mg "_law_deed" pM a fd ["_law_cell","_law_n","_law_spot","_law_size"]/\aT P w K mg base CX0 2 a fd ["_law_cell","_law_n","_law_spot","_law_size"] (spM (cC w K cl) 4 tY)
abbrev BK:Prop:=∃ a fd,Def K mg "_law_gap" kM a fd ["_law_places","_law_at"]/\aT P w K mg base CX0 4 a fd ["_law_places","_law_at"] (spM (cC w K cl) 2 iP)
abbrev ET:Prop:=∃ a fd,Def K mg "_law_rise" pN a fd ["_law_places"]/\aT P w K mg base CX0 3 a fd ["_law_places"] (spM (cC w K cl) 1 mH)
variable {P w K mg base cl}
theorem nW {j:Nat} {nm:Str} {st:Stmt} {f:Addr} {fd:dq} {ps:List Str} {sp:Sp} (D:Def K mg nm st f fd ps) (h:Fun K nm nm st f fd->aT P w K mg base CX0 j f fd ps sp):∃ a fd,Def K mg nm st a fd ps/\aT P w K mg base CX0 j a fd ps sp:=⟨_,_,D,h D.fn⟩
theorem Jg {f:Addr} {fd:dq} (hbn:∀ x∈bsL,mg x=none) (F:Fun K "_wall" "_wall" kJ f fd):aT P w K mg base CX0 1 f fd ["k"] (spM (cC w K cl) 1 ED):=
 dO (C:=cC w K cl) (k:=0) (N:=["k"]) (body:=EC) (fun _ _ _ h=>h) hbn F Jc fun cdv A outer s H E=>
 (aM (KM (Ed CP)
  (aM O6)))
theorem Dw {f:Addr} {fd:dq} (hbn:∀ x∈bsL,mg x=none) (F:Fun K "rank_of" "rank_of" fJ f fd):aT P w K mg base CX0 1 f fd ["place"] (spM (cC w K cl) 1 eE):=
 dO (C:=cC w K cl) (k:=0) (N:=["place"]) (body:=pH) (fun _ _ _ h=>h) hbn F Dv fun cdv A outer s H E=>
 (aM (cS (aK bI (aB 0) (cR (aC (cR (aC aH aI)) aI)))))
theorem BL {f:Addr} {fd:dq} (hbn:∀ x∈bsL,mg x=none) (F:Fun K "row_rank" "row_rank" eG f fd) (fK:mJ P w K mg base cl):aT P w K mg base CX0 2 f fd ["row"] (spM (cC w K cl) 1 cM):=
 let ⟨_,_,kN,kO⟩:=fK; dO (C:=cC w K cl) (k:=1) (N:=["row"]) (body:=mF) (fun _ _ _ h=>h) hbn F BC fun cdv A outer s H E=>
 (aM (cS (s_call kN kO (aC (gG (aB 0) aH) aI))))
theorem FY {f:Addr} {fd:dq} (hbn:∀ x∈bsL,mg x=none) (F:Fun K "before" "before" gX f fd) (fK:mJ P w K mg base cl):aT P w K mg base CX0 2 f fd ["one","other"] (spM (cC w K cl) 2 gU):=
 let ⟨_,_,kN,kO⟩:=fK; dO (C:=cC w K cl) (k:=1) (N:=["one","other"]) (body:=tV) (fun _ _ _ h=>h) hbn F FU fun cdv A outer s H E=>
 (aM (cS (Qv HH (s_call kN kO (aC (aB 0) aI)) (s_call kN kO (aC (aB 1) aI)))))
theorem OP {f:Addr} {fd:dq} (hbn:∀ x∈bsL,mg x=none) (F:Fun K "gap" "gap" xP f fd) (gY:pO P w K mg base cl):aT P w K mg base CX0 3 f fd ["left","right"] (spM (cC w K cl) 2 tW):=
 let ⟨_,_,uJ,uK⟩:=gY; dO (C:=cC w K cl) (k:=2) (N:=["left","right"]) (body:=II) (fun _ _ _ h=>h) hbn F ON fun cdv A outer s H E=>
 (aF (nE (fD SN (aB 1) MR)
  (aM (cS (cR (aC (aB 0) (aC aH aI)))))
  eC)
 (aF (nE (Hh (Ed (s_call uJ uK (aC (aB 0) (aC (aB 1) aI)))))
  (aM Re)
  eC)
 (aF (nE (fD KI (B0 (aB 1) lZ (iH (dM kZ PyProof.Rows.Boot.«len» (aC (aB 0) aI) (hb:=gJ)))) (aB 0))
  (aM (cS (cR (aC (aB 1) (aC (SJ QF aH) aI)))))
  eC)
 (aM (cS (cR (aC (aB 0) (aC aH aI))))))))
theorem BM {f:Addr} {fd:dq} (hbn:∀ x∈bsL,mg x=none) (F:Fun K "place_of" "place_of" eI f fd):aT P w K mg base CX0 1 f fd ["spot","name"] (spM (cC w K cl) 2 fQ):=
 dO (C:=cC w K cl) (k:=0) (N:=["spot","name","under","side","hand","n"]) (body:=mG) (fun _ _ _ h=>h) hbn F eX fun cdv A outer s H E=>
 (aF (B2 (aB 0) (qF (bV (bC eX.nd) (bV (bC eX.nd) qE))))
 (aF (B2 (aB 1) (qF (bV (bC eX.nd) (bV (bC eX.nd) qE))))
 (aM (cS (aK bI (aB 2) (cR (aC (cR (aC (aB 3) (aC (aB 4) (aC (aB 5) (aC aH aI))))) aI)))))))
theorem zM {f:Addr} {fd:dq} (hbn:∀ x∈bsL,mg x=none) (F:Fun K "places_of" "places_of" dF f fd) (mK:qN P w K mg base cl):aT P w K mg base CX0 2 f fd ["deed"] (spM (cC w K cl) 1 eU):=
 let ⟨_,_,Dx,Dy⟩:=mK; dO (C:=cC w K cl) (k:=1) (N:=["deed","name","seen","act","word","thing","under","side","signs","hand","n","places","k"]) (body:=jQ) (fun _ _ _ h=>h) hbn F aV fun cdv A outer s H E=>
 (aF (B2 (aB 0) (qF (bV (bC aV.nd) (bV (bC aV.nd) (bV (bC aV.nd) qE)))))
 (aF (B2 (aB 3) (qF (bV (bC aV.nd) (bV (bC aV.nd) (bV (bC aV.nd) (bV (bC aV.nd) (bV (bC aV.nd) qE)))))))
 (aF (B2 (aB 1) (qF (bV (bC aV.nd) (bV (bC aV.nd) qE))))
 (aF (bD (i:=11) aV.nd (sZ (aC (s_call Dx Dy (aC (cR (aC (aB 6) (aC (aB 7) aI))) (aC (aB 1) aI))) aI)))
 (aF (tD (Ho (aC aH (aC (dM kZ PyProof.Rows.Boot.«len» (aC (aB 8) aI) (hb:=gJ)) aI)) (hb:=jV)) (bC aV.nd)
  (aM (Ee (QD PySem.F.plainAttrs_list PySem.F.slot_list_append PySem.F.type_list_append B7 (aB 11) (aC (aK bI (gG (aB 11) (aK wQ (aB 12) aH)) (cR (aC (cR (aC aH (aC (aB 9) (aC (aB 10) (aC (aB 12) aI))))) aI))) aI)))))
 (aM (cS (aB 11))))))))
theorem nX {f:Addr} {fd:dq} (hbn:∀ x∈bsL,mg x=none) (F:Fun K "__init__" "Signs.__init__" bM f fd) (FF_kept:Be (cC w K cl) "kept"):aT P w K mg base CX0 1 f fd ["self"] (spM (cC w K cl) 1 bL):=
 dO (C:=cC w K cl) (k:=0) (N:=["self"]) (body:=eF) (fun _ _ _ h=>h) hbn F nR fun cdv A outer s H E=>
 (aM (QX FF_kept KJ (aB 0)))
theorem uL {f:Addr} {fd:dq} (hbn:∀ x∈bsL,mg x=none) (F:Fun K "write" "Signs.write" cD f fd) (jX:nT P w K mg base cl) (FF_kept:Be (cC w K cl) "kept"):aT P w K mg base CX0 3 f fd ["self","deed"] (spM (cC w K cl) 2 cB):=
 let ⟨_,_,BN,BO⟩:=jX; dO (C:=cC w K cl) (k:=2) (N:=["self","deed","signs","place","sign"]) (body:=gH) (fun _ _ _ h=>h) hbn F dR fun cdv A outer s H E=>
 (aF (bD (i:=2) dR.nd (gG (gG (aB 1) aH) aH))
 (aM (tD (Rc (aC (s_call BN BO (aC (aB 1) aI)) (aC (aB 2) aI)) (hb:=(.tail _ (.tail _ (.head _))))) (qF (bV (bC dR.nd) (bV (bC dR.nd) qE)))
  (aM (Oo (aB 4) (Eu FF_kept (aB 0)) (aB 3))))))
theorem zN {f:Addr} {fd:dq} (hbn:∀ x∈bsL,mg x=none) (F:Fun K "cut" "Signs.cut" dG f fd) (eJ:jW P w K mg base cl) (FF_kept:Be (cC w K cl) "kept"):aT P w K mg base CX0 5 f fd ["self","places"] (spM (cC w K cl) 2 dE):=
 let ⟨_,_,mL,mM⟩:=eJ; dO (C:=cC w K cl) (k:=4) (N:=["self","places","gone","place"]) (body:=jR) (fun _ _ _ h=>h) hbn F iQ fun cdv A outer s H E=>
 (aF (bD (i:=2) iQ.nd (sZ aI))
 (aF (tD (B3 (aB 1)) (bC iQ.nd)
  (aM (nE (fD MX (aB 3) (Eu FF_kept (aB 0)))
   (aM (Ee (QD PySem.F.plainAttrs_list PySem.F.slot_list_append PySem.F.type_list_append B7 (aB 2) (aC (cR (aC (aB 3) (aC (Ta PySem.F.plainAttrs_dict PySem.F.slot_dict_pop PySem.F.type_dict_pop Ox (Eu FF_kept (aB 0)) (aC (aB 3) aI)) aI))) aI))))
   eC)))
 (aM (cS (Bp mL mM (aB 2) (hb:=xT))))))
theorem vG {f:Addr} {fd:dq} (hbn:∀ x∈bsL,mg x=none) (F:Fun K "rows" "Signs.rows" cP f fd) (eJ:jW P w K mg base cl) (FF_kept:Be (cC w K cl) "kept"):aT P w K mg base CX0 5 f fd ["self"] (spM (cC w K cl) 1 bY):=
 let ⟨_,_,mL,mM⟩:=eJ; dO (C:=cC w K cl) (k:=4) (N:=["self"]) (body:=iO) (fun _ _ _ h=>h) hbn F vF fun cdv A outer s H E=>
 (aM (cS (Bp mL mM (QU PySem.F.plainAttrs_dict PySem.F.slot_dict_items PySem.F.type_dict_items Iu (Eu FF_kept (aB 0))) (hb:=xT))))
theorem Jh {f:Addr} {fd:dq} (hbn:∀ x∈bsL,mg x=none) (F:Fun K "_law_mixed" "_law_mixed" kK f fd):aT P w K mg base CX0 1 f fd ["_law_cell","_law_k"] (spM (cC w K cl) 2 eR):=
 dO (C:=cC w K cl) (k:=0) (N:=["_law_cell","_law_k","_law_number"]) (body:=zH) (fun _ _ _ h=>h) hbn F BD fun cdv A outer s H E=>
 (aF (nE (SW.t (w_and (fD KI (aK fP (aK kY (aB 0) aH) aH) aH) (Hi (fD KH (aB 0) (aK Hd aH aH)))))
  (aM (cS (aK fP (aK kY (aK kY (aB 0) aH) (gG (sZ (aC aH (aC (aK Hd aH aH) aI))) (aK wQ (aB 1) aH))) (aK Hd aH aH))))
  eC)
 (aF (bD (i:=2) BD.nd (aK fP (aK AX (aK bI (aK bI (aB 0) (aK AX aH (aB 1))) aH) aH) aH))
 (aM (cS (aK fP (aK AX (aB 2) (aK bI (aK kY (aB 2) aH) aH)) aH)))))
theorem LI {f:Addr} {fd:dq} (hbn:∀ x∈bsL,mg x=none) (F:Fun K "_law_hand" "_law_hand" pL f fd):aT P w K mg base CX0 1 f fd ["_law_number"] (spM (cC w K cl) 1 tX):=
 dO (C:=cC w K cl) (k:=0) (N:=["_law_number","_law_some","_law_word","_law_rest","_law_k"]) (body:=Dn) (fun _ _ _ h=>h) hbn F iR fun cdv A outer s H E=>
 (aF (bD (i:=1) iR.nd sP)
 (aF (bD (i:=2) iR.nd sP)
 (aF (bD (i:=3) iR.nd (aK kY (aB 0) aH))
 (aF (tD (CY (aC (aK bI aH (aK fP (aB 0) aH)) aI) (hb:=jV)) (bC iR.nd)
  (aF (bD (i:=2) iR.nd (aK bI (aB 2) (gG (aB 1) (aK fP (aB 3) aH))))
  (aM (bD (i:=3) iR.nd (aK bI (aK kY (aB 3) aH) (aK AX aH (aB 4)))))))
 (aM (cS (aB 2)))))))
theorem Ji {f:Addr} {fd:dq} (hbn:∀ x∈bsL,mg x=none) (F:Fun K "_law_signs" "_law_signs" kL f fd):aT P w K mg base CX0 1 f fd ["_law_number","_law_many"] (spM (cC w K cl) 2 nN):=
 dO (C:=cC w K cl) (k:=0) (N:=["_law_number","_law_many","_law_some","_law_word","_law_k"]) (body:=zI) (fun _ _ _ h=>h) hbn F fS fun cdv A outer s H E=>
 (aF (bD (i:=2) fS.nd sP)
 (aF (bD (i:=2) fS.nd (aK bI (aB 2) sP))
 (aF (bD (i:=3) fS.nd sP)
 (aF (tD (CY (aC (aB 1) aI) (hb:=jV)) (bC fS.nd)
  (aF (bD (i:=0) fS.nd (aK fP (aK bI (aK AX (aB 0) aH) aH) aH))
  (aM (bD (i:=3) fS.nd (aK bI (aB 3) (gG (aB 2) (aK fP (aB 0) aH)))))))
 (aM (cS (aB 3)))))))
theorem OQ {f:Addr} {fd:dq} (hbn:∀ x∈bsL,mg x=none) (F:Fun K "_law_key" "_law_key" xQ f fd):aT P w K mg base CX0 1 f fd ["_law_place"] (spM (cC w K cl) 1 xJ):=
 dO (C:=cC w K cl) (k:=0) (N:=["_law_place"]) (body:=IJ) (fun _ _ _ h=>h) hbn F OO fun cdv A outer s H E=>
 (aM (cS (aK bI (aB 0) (cR (aC (cR (aC aH aI)) aI)))))
theorem LL {f:Addr} {fd:dq} (hbn:∀ x∈bsL,mg x=none) (F:Fun K "_law_deed" "_law_deed" pM f fd) (kQ:uI P w K mg base cl) (Dz:EO P w K mg base cl) (zO:BJ P w K mg base cl):aT P w K mg base CX0 2 f fd ["_law_cell","_law_n","_law_spot","_law_size"] (spM (cC w K cl) 4 tY):=
 let ⟨_,_,zP,zQ⟩:=kQ; let ⟨_,_,OR,OS⟩:=Dz; let ⟨_,_,LM,LN⟩:=zO; dO (C:=cC w K cl) (k:=1) (N:=["_law_cell","_law_n","_law_spot","_law_size","_law_number","_law_many","_law_hand_here","_law_seen"]) (body:=Do) (fun _ _ _ h=>h) hbn F gB fun cdv A outer s H E=>
 (aF (bD (i:=4) gB.nd (s_call zP zQ (aC (aB 0) (aC aH aI))))
 (aF (bD (i:=5) gB.nd (aK bI aH (aK fP (aK kY (aB 4) aH) aH)))
 (aF (nE (fD KI (aK fP (aK kY (aB 4) aH) aH) aH)
  (aM (bD (i:=5) gB.nd aH))
  eC)
 (aF (nE (fD KH (aB 3) aH)
  (aM (bD (i:=5) gB.nd aH))
  eC)
 (aF (bD (i:=6) gB.nd (s_call OR OS (aC (aK kY (aB 4) (gG (sZ (aC aH (aC aH (aC aH aI)))) (aK fP (aB 4) aH))) aI)))
 (aF (bD (i:=7) gB.nd (cR aI))
 (aF (nE (fD KH (aB 1) aH)
  (aM (bD (i:=7) gB.nd (cR (aC (cR (aC (aB 6) (aC (aK wQ (aB 1) aH) aI))) aI))))
  eC)
 (aM (cS (cR (aC (cR (aC (aB 6) (aC (aB 1) aI))) (aC (aB 7) (aC (cR (aC sP (aC (cR (aC sP (aC aH aI))) (aC (gG (aB 2) aH) (aC (gG (aB 2) aH) (aC (s_call LM LN (aC (aB 4) (aC (aB 5) aI))) aI)))))) aI)))))))))))))
theorem Jj {f:Addr} {fd:dq} (hbn:∀ x∈bsL,mg x=none) (F:Fun K "_law_gap" "_law_gap" kM f fd) (Jk:Je P w K mg base cl):aT P w K mg base CX0 4 f fd ["_law_places","_law_at"] (spM (cC w K cl) 2 iP):=
 let ⟨_,_,Rp,Rq⟩:=Jk; dO (C:=cC w K cl) (k:=3) (N:=["_law_places","_law_at","_law_left","_law_right"]) (body:=zJ) (fun _ _ _ h=>h) hbn F jU fun cdv A outer s H E=>
 (aF (bD (i:=2) jU.nd (cR aI))
 (aF (bD (i:=3) jU.nd MR)
 (aF (nE (fD KH (aB 1) aH)
  (aM (bD (i:=2) jU.nd (gG (aB 0) (aK wQ (aB 1) aH))))
  eC)
 (aF (nE (fD HH (aB 1) (dM kZ PyProof.Rows.Boot.«len» (aC (aB 0) aI) (hb:=gJ)))
  (aM (bD (i:=3) jU.nd (gG (aB 0) (aB 1))))
  eC)
 (aM (cS (s_call Rp Rq (aC (aB 2) (aC (aB 3) aI)))))))))
theorem LO {f:Addr} {fd:dq} (hbn:∀ x∈bsL,mg x=none) (F:Fun K "_law_rise" "_law_rise" pN f fd) (gY:pO P w K mg base cl) (Jl:Jf P w K mg base cl):aT P w K mg base CX0 3 f fd ["_law_places"] (spM (cC w K cl) 1 mH):=
 let ⟨_,_,uJ,uK⟩:=gY; let ⟨_,_,N4,N5⟩:=Jl; dO (C:=cC w K cl) (k:=2) (N:=["_law_places","_law_k"]) (body:=Dp) (fun _ _ _ h=>h) hbn F EN fun cdv A outer s H E=>
 (aF (tD (Ho (aC aH (aC (dM kZ PyProof.Rows.Boot.«len» (aC (aB 0) aI) (hb:=gJ)) aI)) (hb:=jV)) (bC EN.nd)
  (aM (nE (SW.t (w_or (Hh (Ed (s_call uJ uK (aC (gG (aB 0) (aK wQ (aB 1) aH)) (aC (gG (aB 0) (aB 1)) aI))))) (MT (fD R6 (s_call N4 N5 (aC (gG (aB 0) (aK wQ (aB 1) aH)) aI)) (s_call N4 N5 (aC (gG (aB 0) (aB 1)) aI))))))
   (aM (cS CP))
   eC)))
 (aM (cS CP)))
theorem OT {f:Addr} {fd:dq} (hbn:∀ x∈bsL,mg x=none) (F:Fun K "law" "law" nS f fd) (kQ:uI P w K mg base cl) (DA:ES P w K mg base cl) (zR:BK P w K mg base cl) (DB:ET P w K mg base cl) {a_Signs:Addr} (CL_Signs:cl "Signs" = some a_Signs) (HC_Signs:Cls K a_Signs) {eK:Addr} {gC:dq} (gD:oQ K a_Signs "__init__" eK) (eM:aT P w K mg base CX0 1 eK gC ["self"] (spM (cC w K cl) 1 bL)) (eN:Binds K gC ["self"] []) {qO:Addr} {nY:dq} (iS:oQ K a_Signs "cut" qO) (jY:aT P w K mg base CX0 5 qO nY ["self","places"] (spM (cC w K cl) 2 dE)) (jZ:Binds K nY ["self","places"] []) {oA:Addr} {lF:dq} (gK:oQ K a_Signs "rows" oA) (iT:aT P w K mg base CX0 5 oA lF ["self"] (spM (cC w K cl) 1 bY)) (iU:Binds K lF ["self"] []) {lH:Addr} {kA:dq} (fT:oQ K a_Signs "write" lH) (gL:aT P w K mg base CX0 3 lH kA ["self","deed"] (spM (cC w K cl) 2 cB)) (gM:Binds K kA ["self","deed"] []) (MK_Signs:Mk K a_Signs eK) (MG_Signs:mg "Signs" = some (.ref a_Signs)):aT P w K mg base CX0 6 f fd ["_law_script"] (spM (cC w K cl) 1 IL):=
 let ⟨_,_,zP,zQ⟩:=kQ; let ⟨_,_,OU,OV⟩:=DA; let ⟨_,_,LP,LQ⟩:=zR; let ⟨_,_,OW,OX⟩:=DB; dO (C:=cC w K cl) (k:=5) (N:=["_law_script","_law_signs_here","_law_text","_law_places","_law_k","_law_number","_law_at","_law_gone","_law_left","_law_deed_here","_law_rows","_law_stood"]) (body:=IK) (fun _ _ _ h=>h) hbn F cN fun cdv A outer s H E=>
 (aF (bD (i:=1) cN.nd (L9 CL_Signs MK_Signs eM MG_Signs eN))
 (aF (bD (i:=2) cN.nd (sZ aI))
 (aF (bD (i:=3) cN.nd (sZ aI))
 (aF (tD (CY (aC (dM Oq PyProof.Rows.Boot.«min» (aC (dM kZ PyProof.Rows.Boot.«len» (aC (aB 0) aI) (hb:=gJ)) (aC aH aI)) (hb:=(.tail _ (.tail _ (.tail _ (.tail _ (.head _))))))) aI) (hb:=jV)) (bC cN.nd)
  (aF (bD (i:=5) cN.nd (s_call zP zQ (aC (gG (aB 0) (aB 4)) (aC aH aI))))
  (aF (nE (SW.t (w_and (fD KI (aK fP (gG (aB 0) (aB 4)) aH) aH) (Hi (fD O2 (aB 2) (sZ aI)))))
   (aF (bD (i:=6) cN.nd (aK fP (aB 5) (dM kZ PyProof.Rows.Boot.«len» (aC (aB 2) aI) (hb:=gJ))))
   (aF (bD (i:=7) cN.nd (B0 (aB 3) (iH (aB 6)) (iH (aK bI (aK bI (aB 6) aH) (aK fP (aK kY (aB 5) aH) aH)))))
   (aF (Ee (Ij (tb:=uA) (yZ CL_Signs HC_Signs iS (by decide) jY jZ Df) (aB 1) (aC (aB 7) aI)))
   (aF (bD (i:=2) cN.nd (aK bI (B0 (aB 2) lZ (iH (aB 6))) (B0 (aB 2) (iH (aK bI (aB 6) (dM kZ PyProof.Rows.Boot.«len» (aC (aB 7) aI) (hb:=gJ)))) lZ)))
   (aM (bD (i:=8) cN.nd (aK bI (B0 (aB 3) lZ (iH (aB 6))) (B0 (aB 3) (iH (aK bI (aB 6) (dM kZ PyProof.Rows.Boot.«len» (aC (aB 7) aI) (hb:=gJ)))) lZ))))))))
   (aF (bD (i:=6) cN.nd (aK fP (aB 5) (aK bI (dM kZ PyProof.Rows.Boot.«len» (aC (aB 2) aI) (hb:=gJ)) aH)))
   (aF (bD (i:=9) cN.nd (s_call OU OV (aC (gG (aB 0) (aB 4)) (aC (aK bI (aB 4) aH) (aC (s_call LP LQ (aC (aB 3) (aC (aB 6) aI))) (aC (dM kZ PyProof.Rows.Boot.«len» (aC (aB 2) aI) (hb:=gJ)) aI))))))
   (aF (Ee (Ij (tb:=uB) (yZ CL_Signs HC_Signs fT (by decide) gL gM Df) (aB 1) (aC (aB 9) aI)))
   (aF (bD (i:=2) cN.nd (aK bI (aK bI (B0 (aB 2) lZ (iH (aB 6))) (yW (js:=[none]) (N:=BE) rfl rfl (by rfl) (Ra (gG (gG (aB 9) aH) aH)) (fun _ _ _ _=>(bC FV)) (fun _ _ _ _=>yV) (fun _ _ _ _=>(aB 0)))) (B0 (aB 2) (iH (aB 6)) lZ)))
   (aM (bD (i:=8) cN.nd (aB 3))))))))
  (aF (bD (i:=10) cN.nd (L7 (tb:=nO) (yZ CL_Signs HC_Signs gK (by decide) iT iU Df) (aB 1)))
  (aF (Fz (i:=3) cN.nd rfl rfl (js:=[none,none]) (N:=BF) rfl rfl (by rfl) (B3 (aB 10)) (fun _ _ _ _=>(qF (bV (bC xR) (bV (bC xR) qE)))) (fun _ _ _ _=>yV) (fun _ _ _ _=>(aB 0)))
  (aF (nE (SW.t (w_or (fD O2 (yW (js:=[none,none]) (N:=BG) rfl rfl (by rfl) (B3 (aB 10)) (fun _ _ _ _=>(qF (bV (bC xS) (bV (bC xS) qE)))) (fun _ _ _ _=>yV) (fun _ _ _ _=>(aB 1))) (aB 2)) (MT (Hh (Ed (s_call OW OX (aC (aB 3) aI)))))))
   (aM (cS CP))
   eC)
  (aF (bD (i:=11) cN.nd (Hk L' PyProof.Rows.Boot.«dict» (aC (yW (js:=[none]) (N:=BH) rfl rfl (by rfl) (B3 (aB 8)) (fun _ _ _ _=>(bC FW)) (fun _ _ _ _=>yV) (fun _ _ _ _=>(cR (aC (aB 0) (aC CP aI))))) aI) (hb:=(.tail _ (.tail _ (.tail _ (.tail _ (.tail _ (.head _)))))))))
  (aM (nE (fD O2 (yW (js:=[none,some 11]) (N:=BI) rfl rfl (by rfl) (B3 (aB 3)) (fun _ _ _ _=>(bC FX)) (fun _ _ _ _=>(O7 (fD MX (aB 0) (aB 1)))) (fun _ _ _ _=>(aB 0))) (aB 8))
   (aM (cS CP))
   eC)))))))))
 (aM (cS CP))))))
end
def spL (K:ag):Sp:=fun vs H Q _=>∃ (a:Addr) (ns:List Int),vs=[.ref a]/\GF H/\SqL K H a (ns.map V.int)/\ns.length<=63/\∀ H',Q (.bl true) H'
@[elab_as_elim] theorem zS {P:List Value->Prop} (us:List Value) (hl:us.length=1) (h:∀ a0,P [a0]):P us:=by
 cases us with
 | nil=>cases hl
 | cons a0 us=>
  cases us with
  | nil=>exact h a0
  | cons b us=>
   simp only [cx] at hl;omega
@[elab_as_elim] theorem BP {P:List Value->Prop} (us:List Value) (hl:us.length=2) (h:∀ a0 a1,P [a0,a1]):P us:=by
 cases us with
 | nil=>cases hl
 | cons a0 us=>
  cases us with
  | nil=>cases hl
  | cons a1 us=>
   cases us with
   | nil=>exact h a0 a1
   | cons b us=>
    simp only [cx] at hl;omega
@[elab_as_elim] theorem Tj {P:List Value->Prop} (us:List Value) (hl:us.length=4) (h:∀ a0 a1 a2 a3,P [a0,a1,a2,a3]):P us:=by
 cases us with
 | nil=>cases hl
 | cons a0 us=>
  cases us with
  | nil=>cases hl
  | cons a1 us=>
   cases us with
   | nil=>cases hl
   | cons a2 us=>
    cases us with
    | nil=>cases hl
    | cons a3 us=>
     cases us with
     | nil=>exact h a0 a1 a2 a3
     | cons b us=>
      simp only [cx] at hl;omega
theorem all_mk {l:PySem.W.OpenLaw} {w:World} {K:ag} {h:Heap} {mg:Str->Option Value} {fa A_Signs bG dH cQ cE zT pP mN uM Jm mO kB zV DC zW Jn DD zX DE Jo:Addr} (X:K.In h) (G:h.Ns dr mg) (hfa:mg "law" = some (.ref fa)) (hbn:∀ x∈bsL,mg x=none)
  (n_Signs:fv K dr "Signs" = some (some (.ref A_Signs)))
  (pg_Signs:nc K A_Signs Str.empty=true)
  (hd_Signs:PySem.W.hasDictIn K A_Signs=true)
  (po_Signs:PySem.W.plainOver K A_Signs=true)
  (sa_Signs:d5 K (.ref A_Signs) "__setattr__" = some (some (.builtin "object.__setattr__")))
  (mk_Signs:PySem.W.makesIn K A_Signs=true)
  (kc_Signs:cw K (.ref A_Signs)=true)
  (nf_Signs_kept:d5 K (.ref A_Signs) "kept" = some none)
  (gZ:d5 K (.ref A_Signs) "__init__" = some (some (.ref bG)))
  (hU:nh K (.ref bG)=true)
  {oB oC mQ oE fU oF:Value} {oG oH:Option Addr} {mR:Array (Option Value)}
  (pQ:K.lookup bG=some ⟨oB,oG,.func (c9 "__init__" "Signs.__init__" (aU bM) (aR bM) (aE bM) .none oC mQ oE oH fU oF),mR⟩)
  (pR:dg K fU "Signs.__init__" = true)
  (hV:cw K (.ref bG)=true)
  (BQ:d5 K (.ref A_Signs) "cut" = some (some (.ref dH)))
  (BR:nh K (.ref dH)=true)
  {zY zZ vH A0 lI A1:Value} {A2 A3:Option Addr} {vI:Array (Option Value)}
  (BS:K.lookup dH=some ⟨zY,A2,.func (c9 "cut" "Signs.cut" (aU dG) (aR dG) (aE dG) .none zZ vH A0 A3 lI A1),vI⟩)
  (BU:dg K lI "Signs.cut" = true)
  (qP:cw K (.ref dH)=true)
  (A4:d5 K (.ref A_Signs) "rows" = some (some (.ref cQ)))
  (A5:nh K (.ref cQ)=true)
  {vJ vK uN vL kC vM:Value} {vN vO:Option Addr} {uO:Array (Option Value)}
  (A6:K.lookup cQ=some ⟨vJ,vN,.func (c9 "rows" "Signs.rows" (aU cP) (aR cP) (aE cP) .none vK uN vL vO kC vM),uO⟩)
  (A7:dg K kC "Signs.rows" = true)
  (oI:cw K (.ref cQ)=true)
  (vP:d5 K (.ref A_Signs) "write" = some (some (.ref cE)))
  (vQ:nh K (.ref cE)=true)
  {uP uQ rD uR jA uS:Value} {uT uU:Option Addr} {rE:Array (Option Value)}
  (vR:K.lookup cE=some ⟨uP,uT,.func (c9 "write" "Signs.write" (aU cD) (aR cD) (aE cD) .none uQ rD uR uU jA uS),rE⟩)
  (vS:dg K jA "Signs.write" = true)
  (lJ:cw K (.ref cE)=true)
  (LR:fv K dr "_wall" = some (some (.ref zT)))
  {Jp Jq FZ Jr xU Js:Value} {Jt Ju:Option Addr} {G0:Array (Option Value)}
  (LS:K.lookup zT=some ⟨Jp,Jt,.func (c9 "_wall" "_wall" (aU kJ) (aR kJ) (aE kJ) .none Jq FZ Jr Ju xU Js),G0⟩)
  (LU:dg K xU "_wall" = true)
  (LV:cw K (.ref zT)=true)
  (G1:fv K dr "rank_of" = some (some (.ref pP)))
  {DF DG BV DH qQ DI:Value} {DJ DK:Option Addr} {BW:Array (Option Value)}
  (G2:K.lookup pP=some ⟨DF,DJ,.func (c9 "rank_of" "rank_of" (aU fJ) (aR fJ) (aE fJ) .none DG BV DH DK qQ DI),BW⟩)
  (G3:dg K qQ "rank_of" = true)
  (G4:cw K (.ref pP)=true)
  (DL:fv K dr "row_rank" = some (some (.ref mN)))
  {BX BY A8 BZ oJ C0:Value} {C1 C2:Option Addr} {A9:Array (Option Value)}
  (DM:K.lookup mN=some ⟨BX,C1,.func (c9 "row_rank" "row_rank" (aU eG) (aR eG) (aE eG) .none BY A8 BZ C2 oJ C0),A9⟩)
  (DN:dg K oJ "row_rank" = true)
  (DO:cw K (.ref mN)=true)
  (Jv:fv K dr "before" = some (some (.ref uM)))
  {G5 G6 DP G7 uV G8:Value} {G9 Ga:Option Addr} {DQ:Array (Option Value)}
  (Jw:K.lookup uM=some ⟨G5,G9,.func (c9 "before" "before" (aU gX) (aR gX) (aE gX) .none G6 DP G7 Ga uV G8),DQ⟩)
  (Jx:dg K uV "before" = true)
  (Jy:cw K (.ref uM)=true)
  (Rr:fv K dr "gap" = some (some (.ref Jm)))
  {OY OZ LW P0 EU P3:Value} {P4 P5:Option Addr} {LX:Array (Option Value)}
  (Rt:K.lookup Jm=some ⟨OY,P4,.func (c9 "gap" "gap" (aU xP) (aR xP) (aE xP) .none OZ LW P0 P5 EU P3),LX⟩)
  (Ru:dg K EU "gap" = true)
  (Rv:cw K (.ref Jm)=true)
  (DR:fv K dr "place_of" = some (some (.ref mO)))
  {C3 C4 Aa C5 oK C6:Value} {C7 C8:Option Addr} {Ab:Array (Option Value)}
  (DS:K.lookup mO=some ⟨C3,C7,.func (c9 "place_of" "place_of" (aU eI) (aR eI) (aE eI) .none C4 Aa C5 C8 oK C6),Ab⟩)
  (DT:dg K oK "place_of" = true)
  (DU:cw K (.ref mO)=true)
  (C9:fv K dr "places_of" = some (some (.ref kB)))
  {Ac Ad vT Ae lK Af:Value} {Ag Ah:Option Addr} {vU:Array (Option Value)}
  (Ca:K.lookup kB=some ⟨Ac,Ag,.func (c9 "places_of" "places_of" (aU dF) (aR dF) (aE dF) .none Ad vT Ae Ah lK Af),vU⟩)
  (Cb:dg K lK "places_of" = true)
  (Cc:cw K (.ref kB)=true)
  (LY:fv K dr "_law_mixed" = some (some (.ref zV)))
  {Jz JA Gb JB xV JC:Value} {JD JE:Option Addr} {Gc:Array (Option Value)}
  (LZ:K.lookup zV=some ⟨Jz,JD,.func (c9 "_law_mixed" "_law_mixed" (aU kK) (aR kK) (aE kK) .none JA Gb JB JE xV JC),Gc⟩)
  (M0:dg K xV "_law_mixed" = true)
  (M3:cw K (.ref zV)=true)
  (P6:fv K dr "_law_hand" = some (some (.ref DC)))
  {M4 M5 JF M6 Cd M7:Value} {M8 M9:Option Addr} {JG:Array (Option Value)}
  (P7:K.lookup DC=some ⟨M4,M8,.func (c9 "_law_hand" "_law_hand" (aU pL) (aR pL) (aE pL) .none M5 JF M6 M9 Cd M7),JG⟩)
  (P8:dg K Cd "_law_hand" = true)
  (P9:cw K (.ref DC)=true)
  (Mb:fv K dr "_law_signs" = some (some (.ref zW)))
  {JH JI Ge JJ xW JK:Value} {JL JM:Option Addr} {Gf:Array (Option Value)}
  (Mc:K.lookup zW=some ⟨JH,JL,.func (c9 "_law_signs" "_law_signs" (aU kL) (aR kL) (aE kL) .none JI Ge JJ JM xW JK),Gf⟩)
  (Md:dg K xW "_law_signs" = true)
  (Mf:cw K (.ref zW)=true)
  (Rw:fv K dr "_law_key" = some (some (.ref Jn)))
  {P' Pa Mh Pb EV Pc:Value} {Pd Pe:Option Addr} {Mj:Array (Option Value)}
  (Rx:K.lookup Jn=some ⟨P',Pd,.func (c9 "_law_key" "_law_key" (aU xQ) (aR xQ) (aE xQ) .none Pa Mh Pb Pe EV Pc),Mj⟩)
  (Ry:dg K EV "_law_key" = true)
  (Rz:cw K (.ref Jn)=true)
  (Pf:fv K dr "_law_deed" = some (some (.ref DD)))
  {Ml Mm JN Mn Ce Mp:Value} {Mq Mr:Option Addr} {JO:Array (Option Value)}
  (Pg:K.lookup DD=some ⟨Ml,Mq,.func (c9 "_law_deed" "_law_deed" (aU pM) (aR pM) (aE pM) .none Mm JN Mn Mr Ce Mp),JO⟩)
  (Ph:dg K Ce "_law_deed" = true)
  (Pi:cw K (.ref DD)=true)
  (Mt:fv K dr "_law_gap" = some (some (.ref zX)))
  {JP JQ Gg JR xX JS:Value} {JT JU:Option Addr} {Gh:Array (Option Value)}
  (Mu:K.lookup zX=some ⟨JP,JT,.func (c9 "_law_gap" "_law_gap" (aU kM) (aR kM) (aE kM) .none JQ Gg JR JU xX JS),Gh⟩)
  (Mv:dg K xX "_law_gap" = true)
  (Mw:cw K (.ref zX)=true)
  (Pj:fv K dr "_law_rise" = some (some (.ref DE)))
  {Mx My JV Mz Cf MA:Value} {MB MD:Option Addr} {JW:Array (Option Value)}
  (Pk:K.lookup DE=some ⟨Mx,MB,.func (c9 "_law_rise" "_law_rise" (aU pN) (aR pN) (aE pN) .none My JV Mz MD Cf MA),JW⟩)
  (Pl:dg K Cf "_law_rise" = true)
  (Pm:cw K (.ref DE)=true)
  (RA:fv K dr "law" = some (some (.ref Jo)))
  {Pn JX EW JY Ai JZ:Value} {Po K0:Option Addr} {ME:Array (Option Value)}
  (RB:K.lookup Jo=some ⟨Pn,Po,.func (c9 "law" "law" (aU nS) (aR nS) (aE nS) .none JX EW JY K0 Ai JZ),ME⟩)
  (RC:dg K Ai "law" = true)
  (RD:cw K (.ref Jo)=true)
  : ∃ fd:dq,(∀ (s:Shared) (v:Value),BindsTo s fd ⟨[v],[]⟩ [("_law_script",v)])/\∀ base:Heap,K.In base->base.Ns dr mg->aT l.prog w K mg base CX0 6 fa fd ["_law_script"] (spL K):=by
 have e:=hfa.symm.trans (PySem.W.mg_of X G RA);cases e
 have CL_Signs:(fun z=>if z=("Signs" : Str) then some A_Signs else none) "Signs" = some A_Signs:=(if_pos rfl);have HC_Signs:Cls K A_Signs:=⟨pg_Signs,hd_Signs,po_Signs,sa_Signs⟩;have MG_Signs:mg "Signs" = some (.ref A_Signs):=PySem.W.mg_of X G n_Signs;have FF_kept:Be (cC w K (fun z=>if z=("Signs" : Str) then some A_Signs else none)) "kept" := fun c a hc=>by
  have hc':(fun z=>if z=("Signs" : Str) then some A_Signs else none) c=some a:=hc;dsimp only at hc'
  by_cases e_Signs:c="Signs"
  ·rw [if_pos e_Signs] at hc';cases hc'
   exact ⟨HC_Signs,nf_Signs_kept⟩
  rw [if_neg e_Signs] at hc';cases hc'
 have gD:oQ K A_Signs "__init__" bG:=⟨gZ,hU,hV⟩;have hW:=lQ (st:=bM) pQ pR hV;have eN:=hW.binds (ps:=["self"]) fun _ _ _ _ _ _ us hl=>zS us hl fun _=>rfl;have MK_Signs:Mk K A_Signs bG:=⟨mk_Signs,gZ,hU,kc_Signs⟩;have iS:oQ K A_Signs "cut" dH:=⟨BQ,BR,qP⟩;have qR:=lQ (st:=dG) BS BU qP;have jZ:=qR.binds (ps:=["self","places"]) fun _ _ _ _ _ _ us hl=>BP us hl fun _ _=>rfl;have gK:oQ K A_Signs "rows" cQ:=⟨A4,A5,oI⟩;have oM:=lQ (st:=cP) A6 A7 oI;have iU:=oM.binds (ps:=["self"]) fun _ _ _ _ _ _ us hl=>zS us hl fun _=>rfl;have fT:oQ K A_Signs "write" cE:=⟨vP,vQ,lJ⟩;have lM:=lQ (st:=cD) vR vS lJ;have gM:=lM.binds (ps:=["self","deed"]) fun _ _ _ _ _ _ us hl=>BP us hl fun _ _=>rfl;refine ⟨c9 "law" "law" (aU nS) (aR nS) (aE nS) .none JX EW JY K0 Ai JZ,fun s v=>.of_eq rfl,fun base _ _=>?_⟩;have S8:Jd l.prog w K mg base (fun z=>if z=("Signs" : Str) then some A_Signs else none):=nW (Def.mk' X G LR LS LU LV (fun _ _ _ _ _ _ us hl=>zS us hl fun _=>rfl)) fun F=>Jg (cl:=fun z=>if z=("Signs" : Str) then some A_Signs else none) hbn F;have fK:mJ l.prog w K mg base (fun z=>if z=("Signs" : Str) then some A_Signs else none):=nW (Def.mk' X G G1 G2 G3 G4 (fun _ _ _ _ _ _ us hl=>zS us hl fun _=>rfl)) fun F=>Dw (cl:=fun z=>if z=("Signs" : Str) then some A_Signs else none) hbn F;have eJ:jW l.prog w K mg base (fun z=>if z=("Signs" : Str) then some A_Signs else none):=nW (Def.mk' X G DL DM DN DO (fun _ _ _ _ _ _ us hl=>zS us hl fun _=>rfl)) fun F=>BL (cl:=fun z=>if z=("Signs" : Str) then some A_Signs else none) hbn F fK;have gY:pO l.prog w K mg base (fun z=>if z=("Signs" : Str) then some A_Signs else none):=nW (Def.mk' X G Jv Jw Jx Jy (fun _ _ _ _ _ _ us hl=>BP us hl fun _ _=>rfl)) fun F=>FY (cl:=fun z=>if z=("Signs" : Str) then some A_Signs else none) hbn F fK;have Jk:Je l.prog w K mg base (fun z=>if z=("Signs" : Str) then some A_Signs else none):=nW (Def.mk' X G Rr Rt Ru Rv (fun _ _ _ _ _ _ us hl=>BP us hl fun _ _=>rfl)) fun F=>OP (cl:=fun z=>if z=("Signs" : Str) then some A_Signs else none) hbn F gY;have mK:qN l.prog w K mg base (fun z=>if z=("Signs" : Str) then some A_Signs else none):=nW (Def.mk' X G DR DS DT DU (fun _ _ _ _ _ _ us hl=>BP us hl fun _ _=>rfl)) fun F=>BM (cl:=fun z=>if z=("Signs" : Str) then some A_Signs else none) hbn F;have jX:nT l.prog w K mg base (fun z=>if z=("Signs" : Str) then some A_Signs else none):=nW (Def.mk' X G C9 Ca Cb Cc (fun _ _ _ _ _ _ us hl=>zS us hl fun _=>rfl)) fun F=>zM (cl:=fun z=>if z=("Signs" : Str) then some A_Signs else none) hbn F mK;have eM:aT l.prog w K mg base CX0 1 bG _ ["self"] (spM (cC w K (fun z=>if z=("Signs" : Str) then some A_Signs else none)) 1 bL):=nX (cl:=fun z=>if z=("Signs" : Str) then some A_Signs else none) hbn hW FF_kept;have gL:aT l.prog w K mg base CX0 3 cE _ ["self","deed"] (spM (cC w K (fun z=>if z=("Signs" : Str) then some A_Signs else none)) 2 cB):=uL (cl:=fun z=>if z=("Signs" : Str) then some A_Signs else none) hbn lM jX FF_kept;have jY:aT l.prog w K mg base CX0 5 dH _ ["self","places"] (spM (cC w K (fun z=>if z=("Signs" : Str) then some A_Signs else none)) 2 dE):=zN (cl:=fun z=>if z=("Signs" : Str) then some A_Signs else none) hbn qR eJ FF_kept;have iT:aT l.prog w K mg base CX0 5 cQ _ ["self"] (spM (cC w K (fun z=>if z=("Signs" : Str) then some A_Signs else none)) 1 bY):=vG (cl:=fun z=>if z=("Signs" : Str) then some A_Signs else none) hbn oM eJ FF_kept;have kQ:uI l.prog w K mg base (fun z=>if z=("Signs" : Str) then some A_Signs else none):=nW (Def.mk' X G LY LZ M0 M3 (fun _ _ _ _ _ _ us hl=>BP us hl fun _ _=>rfl)) fun F=>Jh (cl:=fun z=>if z=("Signs" : Str) then some A_Signs else none) hbn F;have Dz:EO l.prog w K mg base (fun z=>if z=("Signs" : Str) then some A_Signs else none):=nW (Def.mk' X G P6 P7 P8 P9 (fun _ _ _ _ _ _ us hl=>zS us hl fun _=>rfl)) fun F=>LI (cl:=fun z=>if z=("Signs" : Str) then some A_Signs else none) hbn F;have zO:BJ l.prog w K mg base (fun z=>if z=("Signs" : Str) then some A_Signs else none):=nW (Def.mk' X G Mb Mc Md Mf (fun _ _ _ _ _ _ us hl=>BP us hl fun _ _=>rfl)) fun F=>Ji (cl:=fun z=>if z=("Signs" : Str) then some A_Signs else none) hbn F;have Jl:Jf l.prog w K mg base (fun z=>if z=("Signs" : Str) then some A_Signs else none):=nW (Def.mk' X G Rw Rx Ry Rz (fun _ _ _ _ _ _ us hl=>zS us hl fun _=>rfl)) fun F=>OQ (cl:=fun z=>if z=("Signs" : Str) then some A_Signs else none) hbn F;have DA:ES l.prog w K mg base (fun z=>if z=("Signs" : Str) then some A_Signs else none):=nW (Def.mk' X G Pf Pg Ph Pi (fun _ _ _ _ _ _ us hl=>Tj us hl fun _ _ _ _=>rfl)) fun F=>LL (cl:=fun z=>if z=("Signs" : Str) then some A_Signs else none) hbn F kQ Dz zO;have zR:BK l.prog w K mg base (fun z=>if z=("Signs" : Str) then some A_Signs else none):=nW (Def.mk' X G Mt Mu Mv Mw (fun _ _ _ _ _ _ us hl=>BP us hl fun _ _=>rfl)) fun F=>Jj (cl:=fun z=>if z=("Signs" : Str) then some A_Signs else none) hbn F Jk;have DB:ET l.prog w K mg base (fun z=>if z=("Signs" : Str) then some A_Signs else none):=nW (Def.mk' X G Pj Pk Pl Pm (fun _ _ _ _ _ _ us hl=>zS us hl fun _=>rfl)) fun F=>LO (cl:=fun z=>if z=("Signs" : Str) then some A_Signs else none) hbn F gY Jl;refine (OT (cl:=fun z=>if z=("Signs" : Str) then some A_Signs else none) hbn (lQ (st:=nS) RB RC RD) kQ DA zR DB CL_Signs HC_Signs gD eM eN iS jY jZ gK iT iU fT gL gM MK_Signs MG_Signs).imp fun vs H Q E hh=>?_;obtain ⟨a,ns,rfl,hO,hS,hl,hq⟩:=hh;exact O8 (C:=cC w K (fun z=>if z=("Signs" : Str) then some A_Signs else none)) hO hS (main ns hl) hq
theorem walk {l:PySem.W.OpenLaw} {q:Program} {loose:List Str} {XP:(Str->Option Value)->Heap->Prop} {YP:World->Heap->Prop} {d:DefRec} {K:Params->ag} (hn:l.most=some 63) (hdf:d.params.defaults=[])
  (hY:∀ (w:World) (h:Heap),YP w h->(K w.params).In h)
  (F:∀ (w:World) (mg:Str->Option Value) (fa:Addr) (h:Heap),(K w.params).In h->h.Ns dr mg->mg d.name=some (.ref fa)->
   ∃ fd:dq,(∀ (s:Shared) (u:Value),BindsTo s fd ⟨[u],[]⟩ [("_law_script",u)])/\∀ base:Heap,(K w.params).In base->base.Ns dr mg->aT l.prog w (K w.params) mg base CX0 6 fa fd ["_law_script"] (spL (K w.params))):
  PySem.W.WalkO q loose XP YP l.row.toRowW d [] (fun f vs=>PySem.call f vs):=
 L2.walk_of (n:=63) (k:=6) (x:="_law_script") (CX:=fun _=>CX0) (sp:=fun w=>spL (K w.params)) hn (by decide) hdf ⟨rfl,by decide,by decide⟩ hY F (fun w H a ns hl hO hS=>⟨a,ns,rfl,hO,hS,hl,fun _=>rfl⟩) fun _ _ _ _ _ z=>z
end K38
open PySem PySem.W PyProof.Rows
set_option maxRecDepth 100000 in
set_option maxHeartbeats 0 in
inductive PySem.W.Fast|tw2910406426163205437|tw9379311333609546405|tw17902994948829079430|tw8598880211926074720|tw4461156078447592498|tw7286667415261180279|tw2848589505354858653|tw14627369697632163948|tw3453235457774791893|tw959715813590802203|tw3447333169606580752|tw4351738868974604126|tw12763219051339887556|tw1972250366680387594|tw944417486627160120|tw3255537420852846211|tw6724813744966442352|tw3751835757903931925|tw17620058693855269564|tw15449857875682122400|tw1010292719986311907|tw13664713177917281712|tw8964719374706818201|tw2233161885777789516|tw5911770894033649942|tw1166824920788099600|tw1538437551214612552
theorem PySem.Challenge.cw_copymeet_k38_whole_written_by_gaps_holds : PySem.Challenge.rw_copymeet_k38_whole_written_by_gaps.Holds := by
 w_on; o_law; k_head; (case hw=>w_witness2)
 k_fill
 refine K38.walk (l:=PySem.Challenge.rw_copymeet_k38_whole_written_by_gaps) rfl rfl (fun w h Y=>PySem.W.kIn_of Y) ?F
 case F=>
  intro w mg fa h KX G hmg
  have hbn:∀ x∈K38.bsL,mg x=none:=fun x hx=>by
   rcases List.mem_cons.mp hx with rfl | hx
   ·exact PySem.W.mg_none_of KX G (by k_is)
   rcases List.mem_cons.mp hx with rfl | hx
   ·exact PySem.W.mg_none_of KX G (by k_is)
   rcases List.mem_cons.mp hx with rfl | hx
   ·exact PySem.W.mg_none_of KX G (by k_is)
   rcases List.mem_cons.mp hx with rfl | hx
   ·exact PySem.W.mg_none_of KX G (by k_is)
   rcases List.mem_cons.mp hx with rfl | hx
   ·exact PySem.W.mg_none_of KX G (by k_is)
   rcases List.mem_cons.mp hx with rfl | hx
   ·exact PySem.W.mg_none_of KX G (by k_is)
   cases hx
  refine' K38.all_mk KX G hmg hbn ?h0 ?h1 ?h2 ?h3 ?h4 ?h5 ?h6 ?h7 ?h8 ?h9 ?h10 ?h11 ?h12 ?h13 ?h14 ?h15 ?h16 ?h17 ?h18 ?h19 ?h20 ?h21 ?h22 ?h23 ?h24 ?h25 ?h26 ?h27 ?h28 ?h29 ?h30 ?h31 ?h32 ?h33 ?h34 ?h35 ?h36 ?h37 ?h38 ?h39 ?h40 ?h41 ?h42 ?h43 ?h44 ?h45 ?h46 ?h47 ?h48 ?h49 ?h50 ?h51 ?h52 ?h53 ?h54 ?h55 ?h56 ?h57 ?h58 ?h59 ?h60 ?h61 ?h62 ?h63 ?h64 ?h65 ?h66 ?h67 ?h68 ?h69 ?h70 ?h71 ?h72 ?h73 ?h74 ?h75 ?h76 ?h77 ?h78 ?h79 ?h80 ?h81 ?h82 ?h83 ?h84 ?h85 ?h86 ?h87
  (case h0=>k_is)
  (case h1=>k_is)
  (case h2=>k_is)
  (case h3=>k_is)
  (case h4=>k_is)
  (case h5=>k_is)
  (case h6=>k_is)
  (case h7=>k_is)
  (case h8=>k_is)
  (case h9=>k_is)
  (case h10=>k_is)
  (case h11=>k_is)
  (case h12=>k_is)
  (case h13=>k_is)
  (case h14=>k_is)
  (case h15=>k_is)
  (case h16=>k_is)
  (case h17=>k_is)
  (case h18=>k_is)
  (case h19=>k_is)
  (case h20=>k_is)
  (case h21=>k_is)
  (case h22=>k_is)
  (case h23=>k_is)
  (case h24=>k_is)
  (case h25=>k_is)
  (case h26=>k_is)
  (case h27=>k_is)
  (case h28=>k_is)
  (case h29=>k_is)
  (case h30=>k_is)
  (case h31=>k_is)
  (case h32=>k_is)
  (case h33=>k_is)
  (case h34=>k_is)
  (case h35=>k_is)
  (case h36=>k_is)
  (case h37=>k_is)
  (case h38=>k_is)
  (case h39=>k_is)
  (case h40=>k_is)
  (case h41=>k_is)
  (case h42=>k_is)
  (case h43=>k_is)
  (case h44=>k_is)
  (case h45=>k_is)
  (case h46=>k_is)
  (case h47=>k_is)
  (case h48=>k_is)
  (case h49=>k_is)
  (case h50=>k_is)
  (case h51=>k_is)
  (case h52=>k_is)
  (case h53=>k_is)
  (case h54=>k_is)
  (case h55=>k_is)
  (case h56=>k_is)
  (case h57=>k_is)
  (case h58=>k_is)
  (case h59=>k_is)
  (case h60=>k_is)
  (case h61=>k_is)
  (case h62=>k_is)
  (case h63=>k_is)
  (case h64=>k_is)
  (case h65=>k_is)
  (case h66=>k_is)
  (case h67=>k_is)
  (case h68=>k_is)
  (case h69=>k_is)
  (case h70=>k_is)
  (case h71=>k_is)
  (case h72=>k_is)
  (case h73=>k_is)
  (case h74=>k_is)
  (case h75=>k_is)
  (case h76=>k_is)
  (case h77=>k_is)
  (case h78=>k_is)
  (case h79=>k_is)
  (case h80=>k_is)
  (case h81=>k_is)
  (case h82=>k_is)
  (case h83=>k_is)
  (case h84=>k_is)
  (case h85=>k_is)
  (case h86=>k_is)
  (case h87=>k_is)
