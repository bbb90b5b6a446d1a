import PyProof.Rows.All
import Wide.All
import OpenK.AllK
import Wide.FinOn
import Lean
import PyProof.EqAt
import PyProof.EqKinds
import PyProof.TupleCall
import PyProof.NeKinds
import KE.KDictOf
import PyProof.AttrMissHeap
import PyProof.WalksMore
import PyProof.MeetsDict
import KE.KDictList
import KE.KRevIter
import PyProof.DictItemsLoops
import PyProof.DictWalks
import KE.KSortTup
import KE.KDictSum
import PyProof.SumAny
import PyProof.Conv_int_bool
import PyProof.Conv_int
import KE.KRevSl
import PyProof.MeetsStr
import PyProof.StrCalls3
import PyProof.Rows.TupDisplay
import PySem.Challenge.RW_copymeet_k77_sunk_and_settled
open PySem renaming wpAny_bind->aa,wpAny_pure->ai,sizeLine->av,starEach->b8,mainGlobals->cb,compareOp->cm,FuncData->cy,sizeLine_eq->cz,Spec->c6,wpAny_holding->dg,cellsFrom->d9,binaryOp->fi,sysModules->fq,wpAny_newObj_type->f7,wpAny_mono->ia,wpAny_truthy_bool->ij,wpAny_Call_Name_kw->iw,wpAny_typeNameOfWhole_valiter->i4,foldedSetIterable->i8,assignEach->jk,wpAny_call_entry->jl,tupleKind_room_in1->jq,call_meetsIn->jr,wpAny_notOrdered_dict->ju,wpAny_rule->j8,wpAny_typeNameOf_valiter->ka,bootBuiltins->kc,mem_of_lookup->kh,wpAny_callSpecial?_slot->ki,attributeBase->km,plainId_quiet->ku,NameKind->k7,codeAny_builtin->l0,wpAny_newList->mq,wpAny_dictEntries->mr,wpAny_pyIter_list->my,wpAny_tryCatch->m9,dictSetDefault->nc,wpAny_typeOf->nq
open List renaming getElem?_eq_some_iff->ab,length_map->ae,mem_append_right->af,mem_cons_of_mem->aj,mem_cons_self->ak,getElem?_map->aq,size_toArray->ar,mem_map->au,prefix_rfl->aw,mem_cons->a7,getElem?_set_ne->a8,map_cons->a9,range->ba,mem_singleton->bc,mem_append->bj,map_map->bp,all_eq_true->bu,mem_of_getElem?->cf,lookup_cons->cj,map_append->cw,replicate->cx,prefix_append->c5,pairwise_map->c8,pairwise_cons->da,mem_filter->de,mem_append_left->dh,cons_lt_cons_iff->dk,getElem?_append_left->dm,map_congr_left->dn,length_cons->dq,getElem?_eq_getElem->dt,mem_iff_getElem?->dz,filterMap_cons->d4,length_set->eu,getElem_mem->e9,pairwise_iff_getElem->fb,getElem?_append_right->fg,getD_eq_getElem?_getD->fh,length_append->fj,getElem?_set_self->ft,filter_sublist->fw,ext_getElem?->gd,take_add_one->gg,idxOf_lt_length_iff->gj,getElem?_cons_succ->gq,length_take->ic,take_length->ie,mem_range->ip,all_cons->iq,nodup_cons->ir,length_range->jc,nodup_append->jd,append_nil->je,find?_cons->jf,length_pos_iff->ji,length_filter_le->jw,getElem?_zip_eq_some->jz,getElem?_eq_none_iff->j3,drop_eq_getElem_cons->j4,append_assoc->j7,toArray->kg,any_cons->kj,not_lt->ko,pairwise_singleton->k0,zip_cons_cons->k8,pairwise_reverse->l5,getElem?_eq_none->mf,reverse_perm->mw,perm_ext_iff_of_nodup->m5,drop_length->nj
open PySem.W renaming Frag->ag,keepIn->bh,codeIn->bq,fnOf->bz,nsIn->c3,kia_one->d8,findIn->m7,katRev->ng
open PySem.Heap renaming get?_push_of_some->ah,lt_size->ax,get?_push_size->ay,SameBut->ib,get?_push_ne->ja,get?_update_ne->jh,size_push->j0,get?_update_self->lj,size_update->nh
open Nat renaming le_refl->ao,ne_of_lt->az,lt_of_lt_of_le->bw,zero_le->cg,le_trans->df,lt_irrefl->fv,le_of_lt->f6,lt_or_eq_of_le->gv,le_succ_of_le->j9,lt_trans->nu
open Option renaming map_eq_some_iff->bf,isSome_some->jo,isSome_iff_exists->j5
open Option.some renaming inj->bg
open Bool renaming false_ne_true->b9,and_eq_true->cq,false_eq_true->dw,eq_iff_iff->gx,beq_eq_decide_eq->md
open PySem.Value renaming none->cu,ref->c9
open PySem.Obj renaming mapSeq->c4,data_mapDictKeys->m6
open PySem.NameKind renaming free->dj,cell->nv
open PyProof.Rows renaming slot_tuple_getitem->dr,get?_update_seq->jg,listUpdate_at->jt,mirror_perm->lx
open Array renaming length_toList->d5
open PySem.Heap.SameBut renaming update->d6
open PySem.F renaming plainAttrs_list->d7,slot_dict_get->fe,slot_dict_valueiterator_next->fm,entry_dict_get->ig,slot_list_append->iz,type_list_append->i3,plainAttrs_dict->i7,plain_max_loop->k4,slot_dict_setdefault->lg
open PySem.Builtin.Tuple renaming tupleHashOf->fc,tupleExact->j6,tupleItemsOf->m4
open PySem.Paired renaming length->ff
open False renaming elim->fu
open List.Pairwise renaming nil->f9,of_map->i6
open Classical renaming propDecidable->gu
open True renaming intro->ik
open List.Nodup renaming length_le_of_subset->iu
open Prod renaming fst->ix
open List.Perm renaming eq_of_pairwise->iy
open PySem.Around renaming under_plainId->i5
open Int renaming toNat_natCast->i9,emod_nonneg->jj,emod_lt_of_pos->jv,le_refl->mm
open PySem.Str renaming ofString->jm
open Ne renaming symm->jx
open PySem.Builtin.Slice renaming slicePlaces->jy,sliceAdjust->m8
open PySem.Builtin.Dict renaming updateFrom->kz
open PySem.Calls renaming callWith_builtin->k6
open PySem.Builtin.Dict_items renaming ownsTuple->k9
open PySem.Builtin.Str renaming strSliceIndices->ll
open Array.Perm renaming refl->lu
open Sum renaming inr->nk
open Iff renaming rfl->n0
set_option Elab.async false
set_option linter.all false
set_option maxRecDepth 1000000
set_option maxHeartbeats 4000000
namespace L2
open PySem PySem.Spec PyProof.Rows
abbrev Key:=Sum Int Str
def wD:Key->Value->Bool
 | .inl k,v=>Value.isInt k v
 | .inr x,v=>Value.isStrOf x v
def Tr (w:World):Key->Int
 | .inl k=>hashInt k
 | .inr x=>hashStr w x
theorem bU:∀ {k:Key} {v:Value},wD k v=true->(∃ i t,k=Sum.inl i/\v=Value.int i t)\/(∃ x t,k=nk x/\v=Value.str x t)
 | .inl i,v,h=>by
  obtain ⟨t,e⟩:=Value.isInt_shape (k:=i) (v:=v) h;exact .inl ⟨i,t,rfl,e⟩
 | .inr x,v,h=>by
  obtain ⟨t,e⟩:=Value.isStrOf_shape (x:=x) (v:=v) h;exact .inr ⟨x,t,rfl,e⟩
theorem Jc (i:Int) (t:Tok):wD (.inl i) (.int i t)=true:=by simp [wD,Value.isInt]
theorem Jd (x:Str) (t:Tok):wD (.inr x) (.str x t)=true:=by simp [wD,Value.isStrOf]
theorem Ts (a b:Int):decide ((Sum.inl a:Key)=Sum.inl b)=(a == b):=by
 by_cases e:a=b
 ·subst e; simp
 ·have h:¬ (Sum.inl a:Key)=Sum.inl b:=fun q=>e (Sum.inl.inj q);rw [decide_eq_false h];exact (beq_eq_false_iff_ne.mpr e).symm
theorem Tt (a b:Str):decide ((nk a:Key)=nk b)=decide (a=b):=by
 by_cases e:a=b
 ·subst e; simp
 ·have h:¬ (nk a:Key)=nk b:=fun q=>e (Sum.inr.inj q);rw [decide_eq_false h,decide_eq_false e]
theorem Tu (a:Int) (b:Str):decide ((Sum.inl a:Key)=nk b)=false:=decide_eq_false (fun q=>nomatch q)
theorem Tv (a:Str) (b:Int):decide ((nk a:Key)=Sum.inl b)=false:=decide_eq_false (fun q=>nomatch q)
def bO (prog:Program) (w:World):PySem.KeyKind prog w Key where
 is:=wD
 hash:=Tr w
 inj:=fun v a b ha hb=>by
  rcases bU ha with ⟨i,t,rfl,rfl⟩ | ⟨x,t,rfl,rfl⟩
  ·rcases bU hb with ⟨j,u,rfl,e⟩ | ⟨y,u,rfl,e⟩
   ·injection e with e1 _; rw [e1]
   ·exact nomatch e
  ·rcases bU hb with ⟨j,u,rfl,e⟩ | ⟨y,u,rfl,e⟩
   ·exact nomatch e
   ·injection e with e1 _; rw [e1]
 byValue:=fun k v h=>by
  rcases bU h with ⟨i,t,rfl,rfl⟩ | ⟨x,t,rfl,rfl⟩ <;> rfl
 pyHash:=fun hv h=>by
  rcases bU hv with ⟨i,t,rfl,rfl⟩ | ⟨x,t,rfl,rfl⟩
  ·exact wpAny_pyHash_int h
  ·exact wpAny_pyHash_str h
 eqBool:=fun hu hv h=>by
  rcases bU hu with ⟨i,t,rfl,rfl⟩ | ⟨x,t,rfl,rfl⟩
  ·rcases bU hv with ⟨j,u,rfl,rfl⟩ | ⟨y,u,rfl,rfl⟩
   ·rw [Ts] at h; exact wpAny_eqBool_int h
   ·rw [Tu] at h; exact SeqAt.EqAt.int_str i t y u _ _ _ _ h
  ·rcases bU hv with ⟨j,u,rfl,rfl⟩ | ⟨y,u,rfl,rfl⟩
   ·rw [Tv] at h; exact SeqAt.EqAt.str_int x t j u _ _ _ _ h
   ·rw [Tt] at h; exact wpAny_eqBool_str h
 «strs»:=fun k x t v h=>by
  rcases bU h with ⟨i,u,rfl,e⟩ | ⟨y,u,rfl,e⟩
  ·exact nomatch e
  ·injection e with e1 _;subst e1;cases v <;> rfl
theorem Du (prog:Program) (w:World) (i:Int) (t:Tok):(bO prog w).is (.inl i) (.int i t)=true:=Jc i t
theorem Dv (prog:Program) (w:World) (x:Str) (t:Tok):(bO prog w).is (.inr x) (.str x t)=true:=Jd x t
inductive V where
 | non | bl (b:Bool) | int (i:Int) | str (x:Str) | byt (b:Array UInt8) | flt (b:UInt64) | ref (a:Addr) | ty (n:String)
 deriving DecidableEq
def RelV:V->Value->Prop
 | .non,u=>u=cu
 | .bl b,u=>u=Value.bool b
 | .int i,u=>∃ t,u=Value.int i t
 | .str x,u=>∃ t,u=Value.str x t
 | .byt b,u=>∃ t,u=Value.bytes b t
 | .flt b,u=>∃ t,u=Value.float b t
 | .ref a,u=>u=c9 a
 | .ty n,u=>u=Value.type n
abbrev aM:List V->List Value->Prop:=Paired RelV
theorem aM.length {xs:List V} {us:List Value} (r:aM xs us):xs.length=us.length:=ff r
theorem aM.get:∀ {xs:List V} {us:List Value} {i:Nat} {x:V},aM xs us->xs[i]?=some x->∃ u,us[i]?=some u/\RelV x u
 | _,_,_,_,.nil,e=>by simp at e
 | _,_,0,_,.cons r _,e=>by simp at e; subst e; exact ⟨_,rfl,r⟩
 | _,_,i+1,x,.cons _ t,e=>by
  obtain ⟨u,h1,h2⟩:=aM.get (i:=i) (x:=x) t (by simpa using e)
  exact ⟨u,by simpa using h1,h2⟩
theorem aM.set {x:V} {u:Value} (r:RelV x u):∀ {xs:List V} {us:List Value} (i:Nat),aM xs us->aM (xs.set i x) (us.set i u)
 | _,_,_,.nil=>.nil
 | _,_,0,.cons _ t=>.cons r t
 | _,_,i+1,.cons q t=>.cons q (aM.set r i t)
theorem aM.append:∀ {xs ys:List V} {us ws:List Value},aM xs us->aM ys ws->aM (xs++ys) (us++ws)
 | _,_,_,_,.nil,s=>s
 | _,_,_,_,.cons r t,s=>.cons r (aM.append t s)
theorem aM.take:∀ {xs:List V} {us:List Value} (n:Nat),aM xs us->aM (xs.take n) (us.take n)
 | _,_,0,_=>.nil
 | _,_,_+1,.nil=>.nil
 | _,_,n+1,.cons r t=>.cons r (aM.take n t)
theorem aM.drop:∀ {xs:List V} {us:List Value} (n:Nat),aM xs us->aM (xs.drop n) (us.drop n)
 | _,_,0,r=>r
 | _,_,_+1,.nil=>.nil
 | _,_,n+1,.cons _ t=>aM.drop n t
def sG:Option V->Option Value->Prop
 | some v,some u=>RelV v u
 | none,none=>True
 | _,_=>False
def KV {κ:Type}:List (κ×V)->List (κ×Value)->Prop:=Paired fun (p:κ×V) (q:κ×Value)=>p.1=q.1/\RelV p.2 q.2
def kV:Key->V
 | .inl i=>.int i
 | .inr x=>.str x
inductive HO where
 /-- a list -/
 | lst (xs:List V)
 /-- a tuple (never changes) -/
 | tup (xs:List V)
 /-- a dict whose keys are ints and texts; one whose keys are tuples of ints and texts (the empty one is both) -/
 | dK (kvs:List (Key×V)) | dT (kvs:List (List Key×V))
 /-- a set of ints: its members,its size -/
 | set (S:Int->Bool) (n:Nat)
 /-- an instance of the class at C,its dict at dx,its attributes -/
 | ins (C dx:Addr) (fs:List (Str×V))
 /-- the dict of the instance at x -/
 | own (x:Addr)
 /-- the dict of an exception -/
 | xd (fs:List (Str×V))
 /-- a bound method,f of x -/
 | met (f x:Addr)
 /-- a range object lo,lo+1,.. below hi -/
 | rng (lo hi:Int)
 /-- a thing that is known to the object (the script; a dict while a loop walks it): read,never written while it is so -/
 | frz (o:Obj) (u:HO)
 /-- a code object's table -/
 | tbl (ps:Array Value)
 /-- any other thing,by what is true of its one object (a def of one's own: SetO a S n:=HO.ext fun h=>..) -/
 | ext (φ:Heap->Prop)
abbrev Hp:=Addr->Option HO
def upd (H:Hp) (a:Addr) (o:HO):Hp:=fun b=>if b=a then some o else H b
theorem bK {H:Hp} {a:Addr} {o:HO}:upd H a o a=some o:=by unfold upd; rw [if_pos rfl]
theorem bI {H:Hp} {a b:Addr} {o:HO} (h:b≠a):upd H a o b=H b:=by unfold upd; rw [if_neg h]
theorem VQ {H:Hp} {a b:Addr} {o u:HO} (h:H a=some o) (h':H b=some u) (d:o≠u):a≠b:=by
 intro e; subst e; rw [h] at h'; exact d (bg h')
theorem cR {H:Hp} {a b:Addr} {o:HO} (h:H a=some o) (h':H b=none):a≠b:=by
 intro e; subst e; rw [h] at h'; cases h'
def pF (h:Heap) (a:Addr) (items:Array Value):Prop:=∃ o,h.get? a=some o/\o.cls=.type "tuple" /\ (∃ n,o.data=.seq items n)/\o.dict=none
theorem pF.is {h:Heap} {a:Addr} {items:Array Value} (x:pF h a items):PyProof.Rows.IsTup h a items:=let ⟨o,h1,h2,h3,_⟩:=x; ⟨o,h1,h2,h3⟩
theorem pF.lt {h:Heap} {a:Addr} {items:Array Value} (x:pF h a items):a < h.objs.size:=let ⟨_,h1,_⟩:=x; ax h1
theorem pF.new (h:Heap) (items:Array Value):pF (h.push { cls:=.type "tuple",data:=.seq items 0 }) h.objs.size items:=⟨_,ay _ rfl,rfl,⟨_,rfl⟩,rfl⟩
section
variable (P:Program) (w:World)
def cB (H:Hp) (h:Heap) (a:Addr):HO->Prop
 | .lst xs=>xs.length<=av/\∃ (its:List Value) (n:Nat),aM xs its/\h.get? a=some { cls:=.type "list",data:=.seq its.toArray n }
 | .tup xs=>xs.length<=av/\∃ its:List Value,aM xs its/\pF h a its.toArray
 | .dK kvs=>kvs.length<=av/\(a == fq)=false/\∃ vs,KV kvs vs/\h.DictOf (bO P w) a vs
 | .dT kvs=>kvs.length<=av/\(a == fq)=false/\∃ xs:List (List Key×Addr×Value),
   Paired (fun (p:List Key×V) (q:List Key×Addr×Value)=>p.1=q.1/\H q.2.1=some (.tup (p.1.map kV))/\RelV p.2 q.2.2) kvs xs/\
   ∃ o es ep,h.get? a=some o/\o.ExactDict/\o.data=.dict es ep/\es.toList=xs.map (entryOfKey (tupleKind (bO P w)))/\(xs.map (·.1)).Nodup
 | .set S n=>h.SetOf (intKind P w) a S n
 | .ins C dx fs=>H dx=some (.own a)/\fs.length<=1000/\dx≠a/\h.get? a=some (PySem.W.instObj C dx)/\
   ∃ mA,h.Ns1 dx mA/\(∀ f,sG (fs.lookup f) (mA f))/\PySem.Within mA (fs.map (·.1))
 | .own _=>∃ o,h.get? a=some o
 | .xd fs=>∃ mA,h.Ns1 a mA/\∀ f,sG (fs.lookup f) (mA f)
 | .rng lo hi=>∃ t u v,h.get? a=some { cls:=.type "range",data:=.fields #[.int lo t,.int hi u,.int 1 v] }
 | .frz o u=>h.get? a=some o/\cB H h a u
 | .tbl ps=>h.get? a=some { cls:=.none,data:=.fields ps }
 | .met f x=>h.get? a=some (PySem.W.methodObj (.ref f) (.ref x))
 | .ext φ=>φ h/\(∃ o,h.get? a=some o)/\∀ h1 h2:Heap,φ h1->(∀ o,h1.get? a=some o->h2.get? a=some o)->φ h2
def HOk (H:Hp) (h:Heap):Prop:=∀ a o,H a=some o->cB P w H h a o
end
section
variable {P:Program} {w:World} {H H':Hp} {h h':Heap} {a:Addr} {o:HO}
theorem cB.lt (x:cB P w H h a o):a < h.objs.size:=by
 cases o with
 | lst xs=>obtain ⟨_,_,_,_,e⟩:=x; exact ax e
 | tup xs=>obtain ⟨_,_,_,p⟩:=x; exact pF.lt p
 | dK kvs=>obtain ⟨_,_,_,_,o,_,_,e,_⟩:=x; exact ax e
 | dT kvs=>obtain ⟨_,_,_,_,o,_,_,e,_⟩:=x; exact ax e
 | set S n=>obtain ⟨o,_,_,_,e,_⟩:=x; exact ax e
 | ins C dx fs=>obtain ⟨_,_,_,e,_⟩:=x; exact ax e
 | own y=>obtain ⟨_,e⟩:=x; exact ax e
 | xd fs=>obtain ⟨_,⟨_,_,_,e,_⟩,_⟩:=x; exact ax e
 | rng lo hi=>obtain ⟨_,_,_,e⟩:=x; exact ax e
 | frz ob u=>obtain ⟨e,_⟩:=x; exact ax e
 | tbl ps=>exact ax (show h.get? a=some _ from x)
 | met f y=>exact ax (show h.get? a=some _ from x)
 | ext φ=>obtain ⟨_,⟨_,e⟩,_⟩:=x; exact ax e
theorem Paired.mapP {α β:Type} {F G:α->β->Prop}:∀ {l₁:List α} {l₂:List β},Paired F l₁ l₂->(∀ a b,F a b->G a b)->Paired G l₁ l₂
 | _,_,.nil,_=>.nil
 | _,_,.cons r t,f=>.cons (f _ _ r) (Paired.mapP t f)
theorem cB.stay (x:cB P w H h a o) (k:∀ b u,(b=a\/H b=some (.own a))->h.get? b=some u->h'.get? b=some u)
  (ho:∀ b,H b=some (.own a)->H' b=some (.own a)) (ht:∀ b xs,H b=some (.tup xs)->H' b=some (.tup xs)):cB P w H' h' a o:=by
 induction o with
 | lst xs=>obtain ⟨z,its,n,r,e⟩:=x; exact ⟨z,its,n,r,k _ _ (.inl rfl) e⟩
 | tup xs=>obtain ⟨z,its,r,ob,e,c⟩:=x; exact ⟨z,its,r,ob,k _ _ (.inl rfl) e,c⟩
 | dK kvs=>obtain ⟨z,y,vs,r,ob,es,ep,e,c⟩:=x; exact ⟨z,y,vs,r,ob,es,ep,k _ _ (.inl rfl) e,c⟩
 | dT kvs=>
  obtain ⟨z,y,xs,r,ob,es,ep,e,c⟩:=x;exact ⟨z,y,xs,Paired.mapP r fun p q z=>⟨z.1,ht _ _ z.2.1,z.2.2⟩,ob,es,ep,k _ _ (.inl rfl) e,c⟩
 | set S n=>obtain ⟨ob,es,ep,t,e,c⟩:=x; exact ⟨ob,es,ep,t,k _ _ (.inl rfl) e,c⟩
 | ins C dx fs=>
  obtain ⟨d,z,ne,e,mA,⟨od,es,ep,e2,c⟩,r⟩:=x;exact ⟨ho _ d,z,ne,k _ _ (.inl rfl) e,mA,⟨od,es,ep,k _ _ (.inr d) e2,c⟩,r⟩
 | own y=>obtain ⟨ob,e⟩:=x; exact ⟨ob,k _ _ (.inl rfl) e⟩
 | xd fs=>obtain ⟨mA,⟨od,es,ep,e,c⟩,r⟩:=x; exact ⟨mA,⟨od,es,ep,k _ _ (.inl rfl) e,c⟩,r⟩
 | rng lo hi=>obtain ⟨t,u,v,e⟩:=x; exact ⟨t,u,v,k _ _ (.inl rfl) e⟩
 | frz ob u ih=>obtain ⟨e,q⟩:=x; exact ⟨k _ _ (.inl rfl) e,ih q⟩
 | tbl ps=>
  have e:h.get? a=some { cls:=.none,data:=.fields ps }:=x
  show h'.get? a=some { cls:=.none,data:=.fields ps }
  exact k a _ (.inl rfl) e
 | met f y=>
  have e:h.get? a=some (PySem.W.methodObj (.ref f) (.ref y)):=x
  show h'.get? a=some (PySem.W.methodObj (.ref f) (.ref y))
  exact k a _ (.inl rfl) e
 | ext φ=>obtain ⟨p,⟨o,e⟩,st⟩:=x; exact ⟨st _ _ p fun o q=>k _ _ (.inl rfl) q,⟨o,k _ _ (.inl rfl) e⟩,st⟩
theorem HOk.lt (x:HOk P w H h) (e:H a=some o):a < h.objs.size:=(x a o e).lt
theorem HOk.fresh (x:HOk P w H h) (e:h.objs.size<=a):H a=none:=by
 cases q:H a with
 | none=>rfl
 | some u=>exact absurd (bw (x.lt q) e) (fv _)
theorem HOk.kept (x:HOk P w H h) (k:∀ b u,h.get? b=some u->h'.get? b=some u):HOk P w H h':=fun a o e=>
 (x a o e).stay (fun b u _ q=>k b u q) (fun _ q=>q) fun _ _ q=>q
theorem HOk.laid (x:HOk P w H h) (k:∀ b u,h.get? b=some u->h'.get? b=some u) (hp:h.objs.size<=a) (new:cB P w (upd H a o) h' a o):HOk P w (upd H a o) h':=fun b u e=>by
 have hn:=x.fresh hp
 by_cases hb:b=a
 ·subst hb; rw [bK] at e; cases e; exact new
 ·rw [bI hb] at e;exact (x b u e).stay (fun c v _ q=>k c v q) (fun c q=>by rw [bI (cR q hn)]; exact q) fun c xs q=>by rw [bI (cR q hn)]; exact q
end
def Rd (H:Hp) (a:Addr) (u:HO):Prop:=H a=some u\/∃ o,H a=some (.frz o u)
theorem Rd.ok {P:Program} {w:World} {H:Hp} {h:Heap} {a:Addr} {u:HO} (r:Rd H a u) (x:HOk P w H h):cB P w H h a u:=by
 rcases r with r | ⟨o,r⟩
 ·exact x a u r
 ·obtain ⟨_,q⟩:=x a _ r;exact q
def Mut:Option HO->Prop
 | some (.lst _)=>True
 | some (.dK _)=>True
 | some (.dT _)=>True
 | some (.set _ _)=>True
 | some (.ins _ _ _)=>True
 | some (.ext _)=>True
 | _=>False
section
variable {P:Program} {w:World} {H:Hp} {h h':Heap} {x e:Addr} {o':HO}
theorem HOk.write (ok:HOk P w H h) (mu:Mut (H x)) (he:e=x\/H e=some (.own x)) (k:∀ b u,b≠e->h.get? b=some u->h'.get? b=some u) (heo:∃ u,h'.get? e=some u)
  (new:cB P w (upd H x o') h' x o'):HOk P w (upd H x o') h':=fun b u q=>by
 have nown:∀ c y,H c=some (.own y)->c≠x:=fun c y r z=>by subst z; rw [r] at mu; exact mu
 have ntup:∀ c xs,H c=some (.tup xs)->c≠x:=fun c xs r z=>by subst z; rw [r] at mu; exact mu
 by_cases hb:b=x
 ·subst hb; rw [bK] at q; cases q; exact new
 ·rw [bI hb] at q
  by_cases hbe:b=e
  ·have q':H b=some (.own x):=by
    rcases he with z | z
    ·exact absurd (hbe.trans z) hb
    ·rw [hbe]; exact z
   rw [q] at q'; cases q';obtain ⟨v,hv⟩:=heo;exact ⟨v,by rw [hbe]; exact hv⟩
  ·refine (ok b u q).stay (fun c v hc r=>k c v ?_ r) (fun c r=>by rw [bI (nown c b r)]; exact r) fun c xs r=>by rw [bI (ntup c xs r)]; exact r
   rcases hc with rfl | hc
   ·exact hbe
   ·rintro rfl;rcases he with z | z
    ·exact nown c b hc z
    ·rw [hc] at z; cases z; exact hb rfl
end
structure Un (fs ex:List Addr) (H H':Hp) (h h':Heap):Prop where
 keep:∀ b o,h.get? b=some o->H b=none->b∉fs->b∉ex->h'.get? b=some o
 slot:∀ b o,h.get? b=some o->H b=none->b∈fs->b∉ex->∃ sl,h'.get? b=some { o with slots:=sl }
 free:∀ b o,h.get? b=some o->H b=none->b∉ex->H' b=none
 there:∀ b o,h.get? b=some o->b∉ex->∃ o',h'.get? b=some o'
 tups:∀ b xs,H b=some (.tup xs)->H' b=some (.tup xs)
 frzs:∀ b o u,H b=some (.frz o u)->H' b=some (.frz o u)
 tbls:∀ b ps,H b=some (.tbl ps)->∃ more,H' b=some (.tbl (ps++more))
section
variable {fs fs' ex ex':List Addr} {H H1 H2:Hp} {h h1 h2 h':Heap} {a x e:Addr} {o:HO}
theorem Un.any (u:Un fs ex H H1 h h1) {b:Addr} {ob:Obj} (q:h.get? b=some ob) (n:H b=none) (hx:b∉ex):∃ sl,h1.get? b=some { ob with slots:=sl }:=by
 by_cases hb:b∈fs
 ·exact u.slot b ob q n hb hx
 ·exact ⟨ob.slots,u.keep b ob q n hb hx⟩
theorem Un.kept (k:∀ b u,h.get? b=some u->h'.get? b=some u):Un fs ex H H h h':=
 ⟨fun b ob q _ _ _=>k b ob q,fun b ob q _ _ _=>⟨ob.slots,k b ob q⟩,fun _ _ _ n _=>n,fun b ob q _=>⟨ob,k b ob q⟩,fun _ _ q=>q,fun _ _ _ q=>q,fun _ ps q=>⟨#[],by rw [q]; simp⟩⟩
theorem Un.refl:Un fs ex H H h h:=Un.kept fun _ _ q=>q
theorem Un.laid (k:∀ b u,h.get? b=some u->h'.get? b=some u) (hp:h.objs.size<=a) (hn:H a=none):Un fs ex H (upd H a o) h h' where
 keep:=fun b u q _ _ _=>k b u q
 slot:=fun b u q _ _ _=>⟨u.slots,k b u q⟩
 free:=fun b u q n _=>by rw [bI (az (bw (ax q) hp))]; exact n
 there:=fun b u q _=>⟨u,k b u q⟩
 tups:=fun b xs q=>by rw [bI (cR q hn)]; exact q
 frzs:=fun b u xs q=>by rw [bI (cR q hn)]; exact q
 tbls:=fun b ps q=>⟨#[],by rw [bI (cR q hn),q]; simp⟩
theorem Un.write (mu:Mut (H x)) (he:e=x\/H e=some (.own x)) (k:∀ b u,b≠e->h.get? b=some u->h'.get? b=some u) (heo:∃ u,h'.get? e=some u):Un fs ex H (upd H x o) h h':=by
 have hx:∀ b,H b=none->b≠x:=fun b n z=>by subst z; rw [n] at mu; exact mu
 have hb:∀ b,H b=none->b≠e:=fun b n z=>by
  subst z;rcases he with r | r
  ·exact hx b n r
  ·rw [n] at r; cases r
 have hm:∀ b u,H b=some u->¬ Mut (some u)->b≠x:=fun b u q nm z=>by subst z; rw [q] at mu; exact nm mu
 refine ⟨fun b u q n _ _=>k b u (hb b n) q,fun b u q n _ _=>⟨u.slots,k b u (hb b n) q⟩,fun b u q n _=>by rw [bI (hx b n)]; exact n,fun b u q _=>?_,
  fun b xs q=>by rw [bI (hm b _ q fun z=>z)]; exact q,fun b u xs q=>by rw [bI (hm b _ q fun z=>z)]; exact q,fun b ps q=>⟨#[],by rw [bI (hm b _ q fun z=>z),q]; simp⟩⟩
 by_cases hbe:b=e
 ·subst hbe; exact heo
 ·exact ⟨u,k b u hbe q⟩
end
def trk (h:Heap) (H:Hp):List Addr:=(ba h.objs.size).filter fun a=>(H a).isSome
def BR (h:Heap) (H:Hp):Heap:=PySem.W.hideAll h (trk h H)
theorem Je (h:Heap) (H:Hp):(BR h H).objs.size=h.objs.size:=PySem.W.hideAll_size _ _
theorem LM {h:Heap} {H:Hp} {b:Addr} {o:Obj} (e:h.get? b=some o) (n:H b=none):(BR h H).get? b=some o:=
 PySem.W.hideAll_get _ e fun hm=>by
  have q:(H b).isSome=true:=(de.mp hm).2;rw [n] at q; simp at q
theorem Q7 {h:Heap} {H:Hp} {b:Addr} {o:Obj} (e:(BR h H).get? b=some o):h.get? b=some o/\H b=none:=by
 have e':h.get? b=some o:=PySem.W.of_hideAll (trk h H) e;refine ⟨e',?_⟩;cases q:H b with
 | none=>rfl
 | some x=>
  have hm:b∈trk h H:=de.mpr ⟨ip.mpr (ax e'),by simp [q]⟩;have z:(BR h H).get? b=none:=PySem.W.hideAll_none (trk h H) hm;rw [z] at e; cases e
def Q8 (g h:Heap) (L:Addr):List (Addr×Obj):=(ba h.objs.size).filterMap fun a=>if a=L\/(g.get? a).isSome=true then none else (h.get? a).map fun o=>(a,o)
def rest (g h:Heap) (L d:Addr):List (Addr×Obj):=(Q8 g h L).filter fun p=>decide (p.1≠d)
structure Mod (K:ag) (mg:Str->Option Value) (base:Heap):Prop where
 kin:K.In base
 glob:base.Ns cb mg
 blt:∃ mb,base.Ns builtinsNs mb/\∀ x:Str,x≠"__name__" -> mb x=kc x
 nolimit:base.NoLimit
structure Cx where
 prog:Program
 w:World
 K:ag
 mg:Str->Option Value
 base:Heap
 A:Around
 N:List Str
 s₀:Shared
 H₀:Hp
 env:Env
 outer:List Env
 stack:List Env
 ex:List Addr
 fn:Str->Bool
 calm:Bool
 pn:List (Addr×Obj)
 xe:Value->Shared->Prop
def frs (l:List Env):List Addr:=l.filterMap (·.frame)
abbrev Cx.fs (X:Cx):List Addr:=frs X.outer
def Vis (sc:Scope) (x:Str):Prop:=sc.names.lookup x=some .local\/sc.names.lookup x=some .cell\/sc.names.lookup x=some .free
def Loc (sc:Scope) (x:Str):Prop:=sc.names.lookup x=some .local\/sc.names.lookup x=some .cell
def Look (env:Env) (h:Heap) (m:Str->Option Value) (x:Str) (u:Value):Prop:=
 (env.kindOf x=some .local/\m x=some u)\/((env.kindOf x=some .cell\/env.kindOf x=some .free)/\∃ c,env.cells.lookup x=some c/\h.IsCell c (some u))
structure Cx.Ok (X:Cx):Prop where
 mod:Mod X.K X.mg X.base
 kind:X.env.scope.kind=.function
 glob:X.env.globals=cb
 blt:X.env.builtins=builtinsNs
 above:X.s₀.heap.objs.size<=X.env.locals
 inj:∀ x y c,X.env.cells.lookup x=some c->X.env.cells.lookup y=some c->x=y
 has:∀ x,(X.env.kindOf x=some .cell\/X.env.kindOf x=some .free)->∃ c,X.env.cells.lookup x=some c
 cab:∀ x c,X.fn x=true->X.env.cells.lookup x=some c->X.s₀.heap.objs.size<=c
 hd:X.calm=true->X.A.handled=none
 frames:X.A.frames=some X.stack
 stk:X.stack=X.outer\/(X.stack=X.env :: X.outer/\X.env.frame=some X.env.locals)
 exf:∀ b∈X.ex,b≠X.env.locals/\∀ x c,X.env.cells.lookup x=some c->c≠b
 bs:∀ b o,X.base.get? b=some o->X.s₀.heap.get? b=some o/\X.H₀ b=none
 bsz:X.base.objs.size<=X.s₀.heap.objs.size
 noex:∀ b o,X.base.get? b=some o->b∉X.ex
 exfs:∀ b∈X.ex,b∉X.fs
 funs:X.s₀.heap.FunFrames X.base X.outer
 frf:∀ b∈X.fs,X.H₀ b=none
structure Inv (X:Cx) (pins:List (Addr×Obj)) (σ:List (Option V)) (H:Hp) (s:Shared):Prop where
 ok:X.Ok
 os:s.os=X.s₀.os
 bare:AllBare s.gens
 base:Un X.fs X.ex X.H₀ H X.s₀.heap s.heap
 loc:∃ m,s.heap.Ns X.env.locals m/\∀ (i:Nat) (x:Str) (v:V),X.N[i]?=some x->σ[i]?=some (some v)->Vis X.env.scope x->∃ u,RelV v u/\Look X.env s.heap m x u
 cell:∀ x c,X.env.cells.lookup x=some c->∃ v,s.heap.IsCell c v
 free:H X.env.locals=none
 freeC:∀ x c,X.env.cells.lookup x=some c->H c=none
 pin:∀ p∈X.pn++pins,s.heap.get? p.1=some p.2/\H p.1=none/\p.1≠X.env.locals/\p.1∉X.fs/\∀ v,p.2.data≠.cell v
 hok:HOk X.prog X.w H s.heap
 len:σ.length=X.N.length
section
variable {X:Cx} {pins:List (Addr×Obj)} {σ:List (Option V)} {H H':Hp} {s:Shared} {h':Heap}
theorem Cx.Ok.nofr (ok:X.Ok) {b:Addr} {o:Obj} (e:X.base.get? b=some o):b∉X.fs:=fun hb=>by
 have:=(ok.funs.mem hb).1;rw [e] at this; cases this
theorem Inv.bs (I:Inv X pins σ H s):∀ b o,X.base.get? b=some o->s.heap.get? b=some o/\H b=none:=fun b o e=>
 ⟨I.base.keep b o (I.ok.bs b o e).1 (I.ok.bs b o e).2 (I.ok.nofr e) (I.ok.noex b o e),I.base.free b o (I.ok.bs b o e).1 (I.ok.bs b o e).2 (I.ok.noex b o e)⟩
theorem Inv.bk (I:Inv X pins σ H s):∀ b o,X.base.get? b=some o->s.heap.get? b=some o:=fun b o e=>(I.bs b o e).1
theorem Inv.mod (I:Inv X pins σ H s):Mod X.K X.mg X.base:=I.ok.mod
theorem Inv.kIn (I:Inv X pins σ H s):X.K.In s.heap:=I.ok.mod.kin.keeps I.bk
theorem Inv.lt (I:Inv X pins σ H s):X.env.locals < s.heap.objs.size:=let ⟨_,hn,_⟩:=I.loc; hn.lt
theorem Inv.sz (I:Inv X pins σ H s):X.s₀.heap.objs.size<=s.heap.objs.size:=df I.ok.above (f6 I.lt)
theorem Inv.nofs (I:Inv X pins σ H s) {a:Addr} (h:s.heap.objs.size<=a):a∉X.fs:=fun hb=>by
 obtain ⟨_,o,ho,_⟩:=I.ok.funs.mem hb;exact absurd (bw (ax ho) (df I.sz h)) (fv _)
theorem Inv.cne (I:Inv X pins σ H s):∀ x c,X.env.cells.lookup x=some c->c≠X.env.locals:=fun x c e z=>by
 obtain ⟨v,o,ho,hd⟩:=I.cell x c e;obtain ⟨m,⟨o',es,ep,ho',hd',_⟩,_⟩:=I.loc;rw [z,ho'] at ho; cases ho; rw [hd'] at hd; cases hd
theorem Inv.funs (I:Inv X pins σ H s):s.heap.FunFrames X.base X.outer:=by
 have all:∀ (l:List Env),(∀ b∈frs l,b∈X.fs)->X.s₀.heap.FunFrames X.base l->s.heap.FunFrames X.base l:=by
  intro l
  induction l with
  | nil=>intro _ _; trivial
  | cons env r ih=>
   intro hs hl;obtain ⟨hk,⟨L,o,hf,hn,ho,hd⟩,hr⟩:=hl;have hL:L∈X.fs:=hs L (by unfold frs; rw [d4,hf]; exact ak);obtain ⟨sl,e⟩:=I.base.slot L o ho (I.ok.frf L hL) hL fun z=>I.ok.exfs L z hL;exact ⟨hk,⟨L,_,hf,hn,e,hd⟩,ih (fun b hb=>hs b (by unfold frs; rw [d4,hf]; exact aj _ hb)) hr⟩
 exact all X.outer (fun _ hb=>hb) I.ok.funs
theorem Inv.stack (I:Inv X pins σ H s):s.heap.FunFrames X.base X.stack:=by
 rcases I.ok.stk with e | ⟨e,hf⟩
 ·rw [e]; exact I.funs
 ·rw [e];obtain ⟨m,hn,_⟩:=I.loc;refine .cons (by rw [I.ok.kind]; decide) hf hn ?_ I.funs;exact Heap.get?_none_of_le (df I.ok.bsz I.ok.above)
theorem Inv.stkSub (I:Inv X pins σ H s):∀ b∈frs X.stack,b∈X.env.locals :: X.fs:=fun b hb=>by
 rcases I.ok.stk with e | ⟨e,hf⟩
 ·rw [e] at hb; exact aj _ hb
 ·rw [e] at hb;unfold frs at hb;rw [d4,hf] at hb;exact hb
theorem Inv.stkFree (I:Inv X pins σ H s):∀ b∈frs X.stack,H b=none:=fun b hb=>by
 rcases a7.mp (I.stkSub b hb) with e | hb
 ·rw [e]; exact I.free
 ·obtain ⟨_,o,ho,_⟩:=I.ok.funs.mem hb;exact I.base.free b o ho (I.ok.frf b hb) fun z=>I.ok.exfs b z hb
theorem Inv.step {g':Array GenState} {t':Nat} {d':Drawn} {ch:List Addr} (I:Inv X pins σ H s)
  (hch:∀ b∈ch,(b∈X.ex\/X.s₀.heap.objs.size<=b)/\b≠X.env.locals/\(∀ x c,X.env.cells.lookup x=some c->c≠b)/\∀ p∈X.pn++pins,p.1≠b)
  (keep:∀ b o,b≠X.env.locals->b∉X.fs->b∉ch->s.heap.get? b=some o->H b=none->h'.get? b=some o)
  (slot:∀ b o,b≠X.env.locals->b∈X.fs->b∉ch->s.heap.get? b=some o->H b=none->∃ sl,h'.get? b=some { o with slots:=sl }) (free:∀ b o,b∉ch->s.heap.get? b=some o->H b=none->H' b=none)
  (there:∀ b o,b∉ch->s.heap.get? b=some o->∃ o',h'.get? b=some o')
  (tups:∀ b xs,H b=some (.tup xs)->H' b=some (.tup xs)) (frzs:∀ b o u,H b=some (.frz o u)->H' b=some (.frz o u)) (tbls:∀ b ps,H b=some (.tbl ps)->∃ more,H' b=some (.tbl (ps++more)))
  (ns:∀ m,s.heap.Ns X.env.locals m->h'.Ns X.env.locals m) (hok:HOk X.prog X.w H' h') (hg:AllBare g'):
  Inv X pins σ H' { s with heap:=h',gens:=g',drawn:=d',toks:=t' }:=by
 have neL:∀ b o,X.s₀.heap.get? b=some o->b≠X.env.locals:=fun b o e=>az (bw (ax e) I.ok.above);have neC:∀ b o,X.s₀.heap.get? b=some o->b∉X.ex->b∉ch:=fun b o e hx hb=>by
  rcases (hch b hb).1 with z | z
  ·exact hx z
  ·exact absurd (bw (ax e) z) (fv _)
 have cellK:∀ x c,X.env.cells.lookup x=some c->∀ v,s.heap.IsCell c v->h'.IsCell c v:=fun x c e v ⟨o,ho,hd⟩=>by
  have nch:c∉ch:=fun z=>(hch c z).2.2.1 x c e rfl
  by_cases hc:c∈X.fs
  ·obtain ⟨sl,q⟩:=slot c o (I.cne x c e) hc nch ho (I.freeC x c e);exact ⟨_,q,hd⟩
  ·exact ⟨o,keep c o (I.cne x c e) hc nch ho (I.freeC x c e),hd⟩
 refine ⟨I.ok,I.os,hg,⟨fun b o e n hb hx=>?_,fun b o e n hb hx=>?_,fun b o e n hx=>?_,fun b o e hx=>?_,fun b xs e=>tups b xs (I.base.tups b xs e),fun b o xs e=>frzs b o xs (I.base.frzs b o xs e),fun b ps e=>?_⟩,?_,fun x c e=>?_,?_,fun x c e=>?_,fun p hp=>?_,hok,I.len⟩
 ·exact keep b o (neL b o e) hb (neC b o e hx) (I.base.keep b o e n hb hx) (I.base.free b o e n hx)
 ·obtain ⟨sl,e1⟩:=I.base.slot b o e n hb hx;obtain ⟨sl',e2⟩:=slot b _ (neL b o e) hb (neC b o e hx) e1 (I.base.free b o e n hx);exact ⟨sl',e2⟩
 ·obtain ⟨o',e1⟩:=I.base.there b o e hx;exact free b o' (neC b o e hx) e1 (I.base.free b o e n hx)
 ·obtain ⟨o',e1⟩:=I.base.there b o e hx;exact there b o' (neC b o e hx) e1
 ·obtain ⟨m1,e1⟩:=I.base.tbls b ps e;obtain ⟨m2,e2⟩:=tbls b _ e1;exact ⟨m1++m2,by rw [e2,Array.append_assoc]⟩
 ·obtain ⟨m,hn,hl⟩:=I.loc;refine ⟨m,ns m hn,fun i x v e1 e2 e3=>?_⟩;obtain ⟨u,r,l⟩:=hl i x v e1 e2 e3;refine ⟨u,r,?_⟩;rcases l with l | ⟨k,c,e,z⟩
  ·exact .inl l
  ·exact .inr ⟨k,c,e,cellK x c e _ z⟩
 ·obtain ⟨v,z⟩:=I.cell x c e;exact ⟨v,cellK x c e v z⟩
 ·obtain ⟨m,⟨o,_,_,ho,_⟩,_⟩:=I.loc;exact free _ o (fun z=>(hch _ z).2.1 rfl) ho I.free
 ·obtain ⟨v,o,ho,hd⟩:=I.cell x c e;exact free c o (fun z=>(hch c z).2.2.1 x c e rfl) ho (I.freeC x c e)
 ·obtain ⟨e,n,ne,nf,d⟩:=I.pin p hp;have nch:p.1∉ch:=fun z=>(hch p.1 z).2.2.2 p hp rfl;exact ⟨keep p.1 p.2 ne nf nch e n,free p.1 p.2 nch e n,ne,nf,d⟩
theorem Inv.un {t':Nat} (I:Inv X pins σ H s) (u:Un X.fs [] H H' s.heap h') (hok:HOk X.prog X.w H' h'):Inv X pins σ H' { s with heap:=h',toks:=t' }:=by
 obtain ⟨m,⟨o,es,ep,ho,r⟩,_⟩:=id I.loc;obtain ⟨sl,hL⟩:=u.any ho I.free (by simp);exact I.step (g':=s.gens) (d':=s.drawn) (ch:=[]) (fun _ z=>nomatch z) (fun b o _ hb _ e n=>u.keep b o e n hb (by simp)) (fun b o _ hb _ e n=>u.slot b o e n hb (by simp)) (fun b o _ e n=>u.free b o e n (by simp)) (fun b o _ e=>u.there b o e (by simp)) u.tups u.frzs u.tbls (fun m' hm=>by
  obtain ⟨o',es',ep',ho',r'⟩:=hm;rw [ho] at ho'; cases ho';exact ⟨_,es',ep',hL,r'⟩) hok I.bare
theorem Inv.call {g':Array GenState} {t':Nat} {d':Drawn} {ch:List Addr} (I:Inv X pins σ H s) (u:Un (frs X.stack) ch H H' s.heap h') (hok:HOk X.prog X.w H' h') (hg:AllBare g')
  (hch:∀ b∈ch,(b∈X.ex\/X.s₀.heap.objs.size<=b)/\b≠X.env.locals/\(∀ x c,X.env.cells.lookup x=some c->c≠b)/\∀ p∈X.pn++pins,p.1≠b):
  Inv X pins σ H' { s with heap:=h',gens:=g',drawn:=d',toks:=t' }:=by
 obtain ⟨m,⟨o,es,ep,ho,r⟩,_⟩:=id I.loc;obtain ⟨sl,hL⟩:=u.any ho I.free fun z=>(hch _ z).2.1 rfl;exact I.step (ch:=ch) hch (fun b o hL hb hc e n=>u.keep b o e n (fun z=>(a7.mp (I.stkSub b z)).elim hL hb) hc) (fun b o _ _ hc e n=>u.any e n hc) (fun b o hc e n=>u.free b o e n hc) (fun b o hc e=>u.there b o e hc) u.tups u.frzs u.tbls (fun m' hm=>by
  obtain ⟨o',es',ep',ho',r'⟩:=hm;rw [ho] at ho'; cases ho';exact ⟨_,es',ep',hL,r'⟩) hok hg
theorem Inv.turned {t':Nat} {it:Addr} (I:Inv X pins σ H s) (k:∀ b o,b≠it->s.heap.get? b=some o->h'.get? b=some o) (hn:H it=none) (hL:it≠X.env.locals)
  (h1:it∈X.ex\/X.s₀.heap.objs.size<=it) (h2:∀ x c,X.env.cells.lookup x=some c->c≠it) (h3:∀ p∈X.pn++pins,p.1≠it):Inv X pins σ H { s with heap:=h',toks:=t' }:=by
 have nit:∀ b u,H b=some u->b≠it:=fun b u e z=>by rw [z,hn] at e; cases e
 refine I.step (g':=s.gens) (d':=s.drawn) (ch:=[it]) (fun b hb=>?_) (fun b o _ _ hc e _=>k b o (fun z=>hc (by simp [z])) e) (fun b o _ _ hc e _=>⟨o.slots,k b o (fun z=>hc (by simp [z])) e⟩) (fun _ _ _ _ n=>n)
  (fun b o hc e=>⟨o,k b o (fun z=>hc (by simp [z])) e⟩) (fun _ _ e=>e) (fun _ _ _ e=>e) (fun b ps e=>⟨#[],by rw [e]; simp⟩) (fun m hm=>?_) (fun b u e=>?_) I.bare
 ·have e:b=it:=by simpa using hb
  subst e;exact ⟨h1,hL,h2,h3⟩
 ·obtain ⟨o,es,ep,ho,r⟩:=hm;exact ⟨o,es,ep,k _ o (jx hL) ho,r⟩
 ·refine (I.hok b u e).stay (fun c v hc q=>k c v ?_ q) (fun _ q=>q) fun _ _ q=>q;rcases hc with z | z
  ·rw [z]; exact nit b u e
  ·exact nit c _ z
theorem Inv.tok (I:Inv X pins σ H s) (t:Nat):Inv X pins σ H { s with toks:=t }:=I.un (h':=s.heap) (t':=t) Un.refl I.hok
theorem Inv.kept {t':Nat} (I:Inv X pins σ H s) (k:∀ b u,s.heap.get? b=some u->h'.get? b=some u):Inv X pins σ H { s with heap:=h',toks:=t' }:=I.un (Un.kept k) (I.hok.kept k)
theorem Inv.laid {a:Addr} {o:HO} {t':Nat} (I:Inv X pins σ H s) (k:∀ b u,s.heap.get? b=some u->h'.get? b=some u) (hp:s.heap.objs.size<=a) (new:cB X.prog X.w (upd H a o) h' a o):
  Inv X pins σ (upd H a o) { s with heap:=h',toks:=t' }:=I.un (Un.laid k hp (I.hok.fresh hp)) (I.hok.laid k hp new)
theorem Inv.write {x e:Addr} {o:HO} {t':Nat} (I:Inv X pins σ H s) (mu:Mut (H x)) (he:e=x\/H e=some (.own x)) (k:∀ b u,b≠e->s.heap.get? b=some u->h'.get? b=some u) (heo:∃ u,h'.get? e=some u)
  (new:cB X.prog X.w (upd H x o) h' x o):Inv X pins σ (upd H x o) { s with heap:=h',toks:=t' }:=I.un (Un.write mu he k heo) (I.hok.write mu he k heo new)
theorem Inv.pins_of {pins':List (Addr×Obj)} (I:Inv X pins σ H s) (h:∀ p∈pins',s.heap.get? p.1=some p.2/\H p.1=none/\p.1≠X.env.locals/\p.1∉X.fs/\∀ v,p.2.data≠.cell v):Inv X pins' σ H s:=
 ⟨I.ok,I.os,I.bare,I.base,I.loc,I.cell,I.free,I.freeC,fun p hp=>(bj.mp hp).elim (fun z=>I.pin p (dh _ z)) (h p),I.hok,I.len⟩
theorem Dw {N:List Str} (hN:N.Nodup) {i j:Nat} {x:Str} (a:N[i]?=some x) (b:N[j]?=some x):i=j:=by
 obtain ⟨h1,e1⟩:=ab.mp a;obtain ⟨h2,e2⟩:=ab.mp b;exact (List.getElem_inj hN).mp (e1.trans e2.symm)
theorem AC {M:Model} {A:Around} {E:Value->Shared->Prop} {i:Nat} {x:Str} {v:V} {u:Value} {Q:Unit->Shared->Prop} (I:Inv X pins σ H s) (hN:X.N.Nodup) (hi:X.N[i]?=some x) (hx:Loc X.env.scope x) (r:RelV v u)
  (h:∀ s',Inv X pins (σ.set i (some v)) H s'->(∃ a,ib a s.heap s'.heap/\(a=X.env.locals\/X.env.cells.lookup x=some a))->Q () s') (hf:X.fn x=true\/X.env.scope.names.lookup x=some .local:=by first | exact .inl rfl | exact .inr rfl | assumption):wpAny M A (storeName X.env x u) Q E s:=by
 obtain ⟨m,hn,hl⟩:=id I.loc;have hcls:(X.env.scope.kind == .class || (X.env.scope.kind == .module && X.env.locals != X.env.globals))=false:=by rw [I.ok.kind]; rfl
 have hiσ:i < σ.length:=by rw [I.len]; exact (ab.mp hi).1
 have cne:=I.cne;have tracked:∀ {a:Addr} {h':Heap},(∃ o,s.heap.get? a=some o/\H a=none)->ib a s.heap h'->HOk X.prog X.w H h':=fun {a h'} ha hs b ob e=>by
  obtain ⟨_,_,hfree⟩:=ha;refine (I.hok b ob e).stay (fun c w' hc q=>(hs.2 c ?_).trans q) (fun _ q=>q) fun _ _ q=>q;rintro rfl;rcases hc with rfl | hc
  ·rw [hfree] at e; cases e
  ·rw [hfree] at hc; cases hc
 rcases hx with hk | hk
 ·refine wpAny_storeName_local hk hn (fun h' hn' hs=>?_) hcls;obtain ⟨oL,_,_,hoL,_⟩:=id hn;refine h _ ⟨I.ok,I.os,I.bare,⟨fun b o e n hb hx=>?_,fun b o e n hb hx=>?_,I.base.free,fun b o e hx=>?_,I.base.tups,I.base.frzs,I.base.tbls⟩,⟨_,hn',fun j y v' e1 e2 e3=>?_⟩,fun y c e=>?_,I.free,I.freeC,fun p hp=>?_,tracked ⟨oL,hoL,I.free⟩ hs,by simpa using I.len⟩ ⟨_,hs,.inl rfl⟩
  ·exact (hs.2 b (az (bw (ax e) I.ok.above))).trans (I.base.keep b o e n hb hx)
  ·obtain ⟨sl,e1⟩:=I.base.slot b o e n hb hx;exact ⟨sl,(hs.2 b (az (bw (ax e) I.ok.above))).trans e1⟩
  ·obtain ⟨o',e1⟩:=I.base.there b o e hx;exact ⟨o',(hs.2 b (az (bw (ax e) I.ok.above))).trans e1⟩
  ·by_cases hj:j=i
   ·subst hj;rw [hi] at e1; cases e1;rw [ft hiσ] at e2;cases e2
    exact ⟨u,r,.inl ⟨hk,by simp⟩⟩
   ·rw [a8 (jx hj)] at e2;obtain ⟨u',r',q⟩:=hl j y v' e1 e2 e3;refine ⟨u',r',?_⟩;rcases q with ⟨k,e⟩ | ⟨k,c,e,z⟩
    ·refine .inl ⟨k,?_⟩;have:y≠x:=fun e=>hj (Dw hN e1 (e ▸ hi));simp [this,e]
    ·exact .inr ⟨k,c,e,z.sameBut hs (cne y c e)⟩
  ·obtain ⟨w',z⟩:=I.cell y c e;exact ⟨w',z.sameBut hs (cne y c e)⟩
  ·obtain ⟨e,n,ne,nf,d⟩:=I.pin p hp;exact ⟨(hs.2 p.1 ne).trans e,n,ne,nf,d⟩
 ·have hfn:X.fn x=true:=by
   rcases hf with z | z
   ·exact z
   ·rw [z] at hk; cases hk
  obtain ⟨c,hc⟩:=I.ok.has x (.inl hk);obtain ⟨w',z⟩:=I.cell x c hc;refine wpAny_storeName_cell I.ok.kind hk hc z (fun h' hc' hs=>?_);obtain ⟨oc,hoc,hocd⟩:=id z;refine h { s with heap:=h' } ⟨I.ok,I.os,I.bare,⟨fun b o e n hb hx=>?_,fun b o e n hb hx=>?_,I.base.free,fun b o e hx=>?_,I.base.tups,I.base.frzs,I.base.tbls⟩,⟨m,hn.sameBut hs (jx (cne x c hc)),fun j y v' e1 e2 e3=>?_⟩,fun y c' e=>?_,I.free,I.freeC,fun p hp=>?_,tracked ⟨oc,hoc,I.freeC x c hc⟩ hs,by simpa using I.len⟩ ⟨c,hs,.inr hc⟩
  ·exact (hs.2 b (az (bw (ax e) (I.ok.cab x c hfn hc)))).trans (I.base.keep b o e n hb hx)
  ·obtain ⟨sl,e1⟩:=I.base.slot b o e n hb hx;exact ⟨sl,(hs.2 b (az (bw (ax e) (I.ok.cab x c hfn hc)))).trans e1⟩
  ·obtain ⟨o',e1⟩:=I.base.there b o e hx;exact ⟨o',(hs.2 b (az (bw (ax e) (I.ok.cab x c hfn hc)))).trans e1⟩
  ·by_cases hj:j=i
   ·subst hj;rw [hi] at e1; cases e1;rw [ft hiσ] at e2;cases e2
    exact ⟨u,r,.inr ⟨.inl hk,c,hc,hc'⟩⟩
   ·rw [a8 (jx hj)] at e2;obtain ⟨u',r',q⟩:=hl j y v' e1 e2 e3;refine ⟨u',r',?_⟩;rcases q with q | ⟨k,c',e,z'⟩
    ·exact .inl q
    ·refine .inr ⟨k,c',e,z'.sameBut hs ?_⟩;rintro rfl;exact hj (Dw hN e1 (I.ok.inj _ _ _ e hc ▸ hi))
  ·by_cases hcc:c'=c
   ·subst hcc; exact ⟨_,hc'⟩
   ·obtain ⟨w2,z2⟩:=I.cell y c' e;exact ⟨w2,z2.sameBut hs hcc⟩
  ·obtain ⟨e,n,ne,nf,d⟩:=I.pin p hp;refine ⟨(hs.2 p.1 ?_).trans e,n,ne,nf,d⟩;intro q;rw [q,hoc] at e;have q':oc=p.2:=bg e;exact d w' (by rw [<- q']; exact hocd)
theorem Dx {M:Model} {A:Around} {E:Value->Shared->Prop} {i:Nat} {x:Str} {v:V} {u:Value} {Q:Unit->Shared->Prop} (I:Inv X pins σ H s) (hN:X.N.Nodup) (hi:X.N[i]?=some x) (hx:Loc X.env.scope x) (r:RelV v u)
  (h:∀ s',Inv X pins (σ.set i (some v)) H s'->Q () s') (hf:X.fn x=true\/X.env.scope.names.lookup x=some .local:=by first | exact .inl rfl | exact .inr rfl | assumption):wpAny M A (storeName X.env x u) Q E s:=
 AC I hN hi hx r (fun s' I' _=>h s' I') hf
theorem Inv.call' {s':Shared} {ch:List Addr} (I:Inv X pins σ H s) (ho:s'.os=s.os) (u:Un (frs X.stack) ch H H' s.heap s'.heap) (hok:HOk X.prog X.w H' s'.heap) (hg:AllBare s'.gens)
  (hch:∀ b∈ch,(b∈X.ex\/X.s₀.heap.objs.size<=b)/\b≠X.env.locals/\(∀ x c,X.env.cells.lookup x=some c->c≠b)/\∀ p∈X.pn++pins,p.1≠b):Inv X pins σ H' s':=by
 obtain ⟨h',g',d',t',o'⟩:=s';have e:o'=s.os:=ho;subst e;exact I.call (g':=g') (t':=t') (d':=d') u hok hg hch
end
abbrev XK:=Value->Option Addr->Hp->Prop
abbrev St:=List (Option V)
abbrev VK:=V->Hp->Prop
abbrev TE:=St->Hp->VK->Prop
abbrev TT:=St->Hp->(Bool->Hp->Prop)->Prop
abbrev TA:=St->Hp->(List V->Hp->Prop)->Prop
structure Ends where
 nx:St->Hp->Prop
 rt:VK
 bk:St->Hp->Prop:=fun _ _=>False
 ct:St->Hp->Prop:=fun _ _=>False
abbrev TS:=Ends->St->Hp->Prop
def EP (X:Cx) (pins:List (Addr×Obj)) (σ:St) (Q:VK) (u:Value) (s':Shared):Prop:=∃ v H',Inv X pins σ H' s'/\RelV v u/\Q v H'
def TP (X:Cx) (pins:List (Addr×Obj)) (σ:St) (Q:Bool->Hp->Prop) (b:Bool) (s':Shared):Prop:=∃ H',Inv X pins σ H' s'/\Q b H'
def AP (X:Cx) (pins:List (Addr×Obj)) (σ:St) (Q:List V->Hp->Prop) (us:List Value) (s':Shared):Prop:=∃ vs H',Inv X pins σ H' s'/\aM vs us/\Q vs H'
def SP (X:Cx) (pins:List (Addr×Obj)) (D:Ends) (f:Flow) (s':Shared):Prop:=
 match f with
 | .next=>∃ σ' H',Inv X pins σ' H' s'/\D.nx σ' H'
 | .brk=>∃ σ' H',Inv X pins σ' H' s'/\D.bk σ' H'
 | .cont=>∃ σ' H',Inv X pins σ' H' s'/\D.ct σ' H'
 | .ret u=>∃ v σ' H',Inv X pins σ' H' s'/\RelV v u/\D.rt v H'
def PE (X:Cx) (e:Expr) (t:TE):Prop:=
 ∀ (pins:List (Addr×Obj)) (s:Shared) (σ:St) (H:Hp) (Q:VK),Inv X pins σ H s->t σ H Q->wpAny (model X.prog X.w) X.A (eval e X.env) (EP X pins σ Q) X.xe s
def PT (X:Cx) (e:Expr) (t:TT):Prop:=
 ∀ (pins:List (Addr×Obj)) (s:Shared) (σ:St) (H:Hp) (Q:Bool->Hp->Prop),Inv X pins σ H s->t σ H Q->wpAny (model X.prog X.w) X.A (isTrue e X.env (eval e X.env)) (TP X pins σ Q) X.xe s
def PW (X:Cx) (e:Expr) (t:TT):Prop:=
 ∀ (whole:Sem Value) (pins:List (Addr×Obj)) (s:Shared) (σ:St) (H:Hp) (Q:Bool->Hp->Prop),Inv X pins σ H s->t σ H Q->wpAny (model X.prog X.w) X.A (isTrue e X.env whole) (TP X pins σ Q) X.xe s
theorem PW.pt {X:Cx} {e:Expr} {t:TT} (h:PW X e t):PT X e t:=h _
def PA (X:Cx) (es:List Expr) (t:TA):Prop:=
 ∀ (pos:Pos) (pins:List (Addr×Obj)) (s:Shared) (σ:St) (H:Hp) (Q:List V->Hp->Prop),Inv X pins σ H s->t σ H Q->wpAny (model X.prog X.w) X.A (spliced (backTo pos (b8 es X.env))) (AP X pins σ Q) X.xe s
def PS (X:Cx) (st:Stmt) (t:TS):Prop:=
 ∀ (pins:List (Addr×Obj)) (s:Shared) (σ:St) (H:Hp) (D:Ends),Inv X pins σ H s->t D σ H->wpAny (model X.prog X.w) X.A (exec st X.env) (SP X pins D) X.xe s
def PSs (X:Cx) (st:List Stmt) (t:TS):Prop:=
 ∀ (pins:List (Addr×Obj)) (s:Shared) (σ:St) (H:Hp) (D:Ends),Inv X pins σ H s->t D σ H->wpAny (model X.prog X.w) X.A (execs st X.env) (SP X pins D) X.xe s
theorem thn {α:Type} {t:Sem α} {Q Q':α->Shared->Prop} {M:Model} {A:Around} {E:Value->Shared->Prop} {s:Shared} (h:wpAny M A t Q E s) (hQ:∀ a s,Q a s->Q' a s):wpAny M A t Q' E s:=ia h hQ fun _ _ x=>x
section
variable {X:Cx}
def VR (i:Nat):TE:=fun σ H Q=>∃ v,σ[i]?=some (some v)/\Q v H
def tC (v:V):TE:=fun _ H Q=>Q v H
theorem FI {i:Nat} {x:Str} {pos:Pos} (hN:X.N[i]?=some x) (hv:Vis X.env.scope x) (hd:(x == ("__debug__" : Str))=false:=by decide) (hcd:(x == ("__classdict__" : Str))=false:=by decide):PE X (.Name x pos) (VR i):=by
 intro pins s σ H Q I h;obtain ⟨v,e,h⟩:=h;obtain ⟨m,hn,hl⟩:=I.loc;obtain ⟨u,r,l⟩:=hl i x v hN e hv;have fin:EP X pins σ Q u s:=⟨v,H,I,r,h⟩;rcases l with ⟨hk,hm⟩ | ⟨hk,c,hc,hcell⟩
 ·exact wpAny_Name (wpAny_loadName_local I.ok.kind hk hn hm fin) hd
 ·rcases hk with hk | hk
  ·exact wpAny_Name (wpAny_loadName_cell I.ok.kind hk hc hcell fin) hd
  ·exact wpAny_Name (wpAny_loadName_free I.ok.kind hk hc hcell fin hcd) hd
theorem Tw {i j pos}:PE X (.Constant (.int i) j pos) (tC (.int i)):=fun _ _ _ H _ I h=>wpAny_Constant_int ⟨.int i,H,I.tok _,⟨_,rfl⟩,h⟩
theorem VS {b j pos}:PE X (.Constant (.bool b) j pos) (tC (.bl b)):=fun _ _ _ H _ I h=>Constant_bool ⟨.bl b,H,I,rfl,h⟩
theorem Tx {j pos}:PE X (.Constant .none j pos) (tC .non):=fun _ _ _ H _ I h=>Constant_none ⟨.non,H,I,rfl,h⟩
theorem Tz {x j pos}:PE X (.Constant (.str x) j pos) (tC (.str x)):=fun _ _ _ H _ I h=>Calls.Constant_str ⟨.str x,H,I.tok _,⟨_,rfl⟩,h⟩
def Gl (X:Cx) (x:Str):Prop:=X.env.kindOf x=some .globalImplicit
theorem pG {E:Value->Shared->Prop} {pins:List (Addr×Obj)} {s:Shared} {σ:St} {H:Hp} {x:Str} {u:Value} {pos:Pos} {Q:Value->Shared->Prop} (I:Inv X pins σ H s) (hg:Gl X x) (hm:X.mg x=some u) (h:Q u s)
  (hd:(x == ("__debug__" : Str))=false:=by decide):wpAny (model X.prog X.w) X.A (eval (.Name x pos) X.env) Q E s:=
 Calls.Name_function_global I.ok.kind hg (Calls.loadGlobal_global (by rw [I.ok.glob]; exact I.mod.glob.keeps I.bk) hm h) hd
theorem kR {E:Value->Shared->Prop} {pins:List (Addr×Obj)} {s:Shared} {σ:St} {H:Hp} {x:Str} {u:Value} {pos:Pos} {Q:Value->Shared->Prop} (I:Inv X pins σ H s) (hg:Gl X x) (hm:X.mg x=none) (hv:kc x=some u) (h:Q u s)
  (hn:x≠"__name__" := by decide) (hd:(x == ("__debug__" : Str))=false:=by decide):wpAny (model X.prog X.w) X.A (eval (.Name x pos) X.env) Q E s:=by
 obtain ⟨mb,h1,h2⟩:=I.mod.blt;exact Calls.Name_function_global I.ok.kind hg (Calls.loadGlobal_builtin (by rw [I.ok.glob]; exact I.mod.glob.keeps I.bk) hm (by rw [I.ok.blt]; exact h1.keeps I.bk) ((h2 x hn).trans hv) h) hd
theorem Q9 {x:Str} {v:V} {u:Value} {pos:Pos} (hg:Gl X x) (hm:X.mg x=none) (hv:kc x=some u) (r:RelV v u) (hn:x≠"__name__" := by decide) (hd:(x == ("__debug__" : Str))=false:=by decide):PE X (.Name x pos) (tC v):=
 fun _ _ _ H _ I h=>kR I hg hm hv ⟨v,H,I,r,h⟩ hn hd
variable {a b:Expr} {ta tb:TE} {pos:Pos}
variable {tA tB':TT} {rest:List Expr}
def Y1 (t u:TT):TT:=fun σ H Q=>t σ H fun c H1=>if c=true then u σ H1 Q else Q false H1
def tOr (t u:TT):TT:=fun σ H Q=>t σ H fun c H1=>if c=true then Q true H1 else u σ H1 Q
def Y2 (t:TT):TT:=fun σ H Q=>t σ H fun c H1=>Q (!c) H1
theorem Qa (ha:PT X a tA):PW X (.BoolOp .And [a] pos) tA:=by
 intro wh pins s σ H Q I h;refine isTrue_and (thn (ha pins s σ H Q I h) fun c s1 e=>?_);cases c with
 | true=>exact isTrue_and_nil e
 | false=>exact e
theorem TB (ha:PT X a tA):PW X (.BoolOp .Or [a] pos) tA:=by
 intro wh pins s σ H Q I h;refine isTrue_or (thn (ha pins s σ H Q I h) fun c s1 e=>?_);cases c with
 | false=>exact isTrue_or_nil e
 | true=>exact e
theorem TC (ha:PT X a tA) (hb:PW X (.BoolOp .And (b :: rest) pos) tB'):PW X (.BoolOp .And (a :: b :: rest) pos) (Y1 tA tB'):=by
 intro wh pins s σ H Q I h;refine isTrue_and (thn (ha pins s σ H _ I h) fun c s1 ⟨H1,I1,q1⟩=>?_);cases c with
 | true=>exact hb wh pins s1 σ H1 Q I1 q1
 | false=>exact ⟨H1,I1,q1⟩
theorem VT (ha:PT X a tA) (hb:PW X (.BoolOp .Or (b :: rest) pos) tB'):PW X (.BoolOp .Or (a :: b :: rest) pos) (tOr tA tB'):=by
 intro wh pins s σ H Q I h;refine isTrue_or (thn (ha pins s σ H _ I h) fun c s1 ⟨H1,I1,q1⟩=>?_);cases c with
 | true=>exact ⟨H1,I1,q1⟩
 | false=>exact hb wh pins s1 σ H1 Q I1 q1
theorem TF (ha:PT X a tA):PT X (.UnaryOp .Not a pos) (Y2 tA):=by
 intro pins s σ H Q I h;exact isTrue_not (ha pins s σ H (fun c H1=>Q (!c) H1) I h)
theorem TH {op} {t:TE} (h:PE X a t):PE X (.BoolOp op [a] pos) t:=fun pins s σ H Q I hw=>BoolOp_one (h pins s σ H Q I hw)
def tIf (t:TT) (ta tb:TE):TE:=fun σ H Q=>t σ H fun c H1=>if c=true then ta σ H1 Q else tb σ H1 Q
theorem LN {c:Expr} (hc:PT X c tA) (ha:PE X a ta) (hb:PE X b tb):PE X (.IfExp c a b pos) (tIf tA ta tb):=by
 intro pins s σ H Q I h;refine wpAny_IfExp (thn (hc pins s σ H _ I h) fun d s1 ⟨H1,I1,q1⟩=>?_);cases d with
 | true=>exact ha pins s1 σ H1 Q I1 q1
 | false=>exact hb pins s1 σ H1 Q I1 q1
end
def SqL (K:ag) (H:Hp) (a:Addr) (xs:List V):Prop:=
 Rd H a (.lst xs)\/
  ∃ (o:Obj) (its:Array Value) (n:Nat),K.lookup a=some o/\o.cls=.type "list" /\ o.dict=none/\o.data=.seq its n/\its.size<=av/\aM xs its.toList
def SqT (K:ag) (H:Hp) (a:Addr) (xs:List V):Prop:=
 Rd H a (.tup xs)\/
  ∃ (o:Obj) (its:Array Value) (n:Nat),K.lookup a=some o/\o.cls=.type "tuple" /\ o.data=.seq its n/\its.size<=av/\aM xs its.toList/\o.dict=none
def Y3:Value->Option V
 | .none=>some .non
 | .bool b=>some (.bl b)
 | .int i _=>some (.int i)
 | .str x _=>some (.str x)
 | .bytes b _=>some (.byt b)
 | .float b _=>some (.flt b)
 | .ref a=>some (.ref a)
 | .type n=>some (.ty n)
 | _=>none
theorem RelV.abs {x:V} {u:Value} (r:RelV x u):Y3 u=some x:=by
 cases x with
 | non=>cases r; rfl
 | bl _=>cases r; rfl
 | int _=>obtain ⟨t,rfl⟩:=r; rfl
 | str _=>obtain ⟨t,rfl⟩:=r; rfl
 | byt _=>obtain ⟨t,rfl⟩:=r; rfl
 | flt _=>obtain ⟨t,rfl⟩:=r; rfl
 | ref _=>cases r; rfl
 | ty _=>cases r; rfl
theorem RelV.inj {x y:V} {u:Value} (r:RelV x u) (q:RelV y u):x=y:=bg (r.abs.symm.trans q.abs)
theorem aM.inj:∀ {xs ys:List V} {us:List Value},aM xs us->aM ys us->xs=ys
 | _,_,_,.nil,.nil=>rfl
 | _,_,_,.cons r t,.cons r' t'=>by rw [r.inj r',aM.inj t t']
section
variable {X:Cx} {pins:List (Addr×Obj)} {σ:St} {H:Hp} {s:Shared} {a:Addr} {xs ys:List V}
theorem SqL.of {K:ag} (h:H a=some (.lst xs)):SqL K H a xs:=.inl (.inl h)
theorem SqT.of {K:ag} (h:H a=some (.tup xs)):SqT K H a xs:=.inl (.inl h)
theorem Inv.list (I:Inv X pins σ H s) (h:SqL X.K H a xs):∃ its:List Value,aM xs its/\PlainL s.heap a its.toArray/\xs.length<=av:=by
 rcases h with h | ⟨o,its,n,hk,hc,hd,hs,hz,r⟩
 ·obtain ⟨z,its,n,r,e⟩:=h.ok I.hok;exact ⟨its,r,⟨_,n,e,rfl,rfl,rfl⟩,z⟩
 ·refine ⟨its.toList,r,⟨o,n,I.kIn a o hk,hc,hd,by simpa using hs⟩,?_⟩
  have e:=r.length;simp only [d5] at e;omega
theorem Inv.tuple (I:Inv X pins σ H s) (h:SqT X.K H a xs):∃ its:List Value,aM xs its/\IsTup s.heap a its.toArray/\xs.length<=av:=by
 rcases h with h | ⟨o,its,n,hk,hc,hs,hz,r,_⟩
 ·obtain ⟨z,its,r,p⟩:=h.ok I.hok;exact ⟨its,r,p.is,z⟩
 ·refine ⟨its.toList,r,⟨o,I.kIn a o hk,hc,n,by simpa using hs⟩,?_⟩
  have e:=r.length;simp only [d5] at e;omega
theorem Inv.list_inj (I:Inv X pins σ H s) (h:SqL X.K H a xs) (h':SqL X.K H a ys):xs=ys:=by
 obtain ⟨its,r,⟨o,n,e,_,_,d⟩,_⟩:=I.list h;obtain ⟨its',r',⟨o',n',e',_,_,d'⟩,_⟩:=I.list h';rw [e] at e'; cases e';rw [d] at d';injection d' with d1 _;have:its=its':=by simpa using congrArg Array.toList d1
 subst this;exact r.inj r'
theorem Inv.tuple_inj (I:Inv X pins σ H s) (h:SqT X.K H a xs) (h':SqT X.K H a ys):xs=ys:=by
 obtain ⟨its,r,⟨o,e,_,n,d⟩,_⟩:=I.tuple h;obtain ⟨its',r',⟨o',e',_,n',d'⟩,_⟩:=I.tuple h';rw [e] at e'; cases e';rw [d] at d';injection d' with d1 _;have:its=its':=by simpa using congrArg Array.toList d1
 subst this;exact r.inj r'
end
abbrev Cx.wish (X:Cx) (E:Value->Shared->Prop):Cx:={ X with xe:=E }
abbrev Cx.nox (X:Cx):Cx:=X.wish fun _ _=>False
theorem Cx.Ok.wish {X:Cx} (ok:X.Ok) (E:Value->Shared->Prop):(X.wish E).Ok:=
 ⟨ok.mod,ok.kind,ok.glob,ok.blt,ok.above,ok.inj,ok.has,ok.cab,ok.hd,ok.frames,ok.stk,ok.exf,ok.bs,ok.bsz,ok.noex,ok.exfs,ok.funs,ok.frf⟩
theorem Cx.Ok.unwish {X:Cx} {E:Value->Shared->Prop} (ok:(X.wish E).Ok):X.Ok:=
 ⟨ok.mod,ok.kind,ok.glob,ok.blt,ok.above,ok.inj,ok.has,ok.cab,ok.hd,ok.frames,ok.stk,ok.exf,ok.bs,ok.bsz,ok.noex,ok.exfs,ok.funs,ok.frf⟩
section
variable {X:Cx} {pins:List (Addr×Obj)} {σ:St} {H:Hp} {s:Shared} {E:Value->Shared->Prop}
theorem Inv.wish (I:Inv X pins σ H s) (E:Value->Shared->Prop):Inv (X.wish E) pins σ H s:=⟨I.ok.wish E,I.os,I.bare,I.base,I.loc,I.cell,I.free,I.freeC,I.pin,I.hok,I.len⟩
theorem Inv.unwish (I:Inv (X.wish E) pins σ H s):Inv X pins σ H s:=⟨I.ok.unwish,I.os,I.bare,I.base,I.loc,I.cell,I.free,I.freeC,I.pin,I.hok,I.len⟩
theorem SP.unwish {D:Ends} {f:Flow} {s':Shared} (h:SP (X.wish E) pins D f s'):SP X pins D f s':=by
 cases f with
 | next=>obtain ⟨σ',H',I,q⟩:=h; exact ⟨σ',H',I.unwish,q⟩
 | brk=>obtain ⟨σ',H',I,q⟩:=h; exact ⟨σ',H',I.unwish,q⟩
 | cont=>obtain ⟨σ',H',I,q⟩:=h; exact ⟨σ',H',I.unwish,q⟩
 | ret u=>obtain ⟨v,σ',H',I,r,q⟩:=h; exact ⟨v,σ',H',I.unwish,r,q⟩
theorem PSs.nox {st:List Stmt} {t:TS} (h:PSs X.nox st t):PSs X st t:=fun pins s σ H D I hw=>
 ia (h pins s σ H D (I.wish _) hw) (fun _ _ q=>q.unwish) fun _ _ z=>fu z
end
section
variable {X:Cx} {st:Stmt} {rest:List Stmt} {t u:TS} {e:Expr} {te:TE} {pos:Pos}
def VU:TS:=fun D σ H=>D.nx σ H
def Y4 (t u:TS):TS:=fun D σ H=>t { D with nx:=u D } σ H
theorem Qb:PSs X [] VU:=fun _ _ σ H _ I h=>wpAny_execs_nil ⟨σ,H,I,h⟩
theorem LO (h1:PS X st t) (h2:PSs X rest u):PSs X (st :: rest) (Y4 t u):=by
 intro pins s σ H D I h;refine wpAny_execs_cons (thn (h1 pins s σ H { D with nx:=u D } I h) fun f s1 q=>?_);cases f with
 | next=>
  obtain ⟨σ',H',I',q⟩:=q;exact h2 pins s1 σ' H' D I' q
 | ret v=>exact q
 | brk=>exact q
 | cont=>exact q
theorem Qc (h1:PS X st t):PSs X [st] t:=by
 intro pins s σ H D I h;refine wpAny_execs_cons (thn (h1 pins s σ H D I h) fun f s1 q=>?_);cases f with
 | next=>exact wpAny_execs_nil q
 | ret v=>exact q
 | brk=>exact q
 | cont=>exact q
def VV:TS:=fun D σ H=>D.ct σ H
theorem Dy:PS X (.Continue pos) VV:=fun _ _ σ H _ I h=>wpAny_Continue ⟨σ,H,I,h⟩
theorem Inv.quiet {pins:List (Addr×Obj)} {σ:St} {H:Hp} {s:Shared} (I:Inv X pins σ H s):interactive X.env=false:=by simp [interactive,I.ok.kind]
def VW (te:TE):TS:=fun D σ H=>te σ H fun _ H1=>D.nx σ H1
theorem Qd (he:PE X e te) (hs:swapsWith e none pos.line X.env=pure false:=by rfl):PS X (.Expr e pos) (VW te):=by
 intro pins s σ H D I h;exact wpAny_Expr_any (thn (he pins s σ H _ I h) fun v s1 ⟨x,H1,I1,r1,q1⟩=>⟨σ,H1,I1,q1⟩) I.quiet hs
def Y5 (te:TE):TS:=fun D σ H=>te σ H D.rt
theorem TJ (he:PE X e te):PS X (.Return (some e) pos) (Y5 te):=by
 intro pins s σ H D I h;exact wpAny_Return_some (thn (he pins s σ H _ I h) fun v s1 ⟨x,H1,I1,r1,q1⟩=>⟨x,σ,H1,I1,r1,q1⟩)
def Y6 (c:TT) (t u:TS):TS:=fun D σ H=>c σ H fun b H1=>if b=true then t D σ H1 else u D σ H1
theorem VX {c:Expr} {a b:List Stmt} {tc:TT} (hc:PT X c tc) (ha:PSs X a t) (hb:PSs X b u):PS X (.If c a b pos) (Y6 tc t u):=by
 intro pins s σ H D I h;refine wpAny_If (thn (hc pins s σ H _ I h) fun d s1 ⟨H1,I1,q1⟩=>?_);cases d with
 | true=>exact ha pins s1 σ H1 D I1 q1
 | false=>exact hb pins s1 σ H1 D I1 q1
end
abbrev TG:=V->St->Hp->(St->Hp->Prop)->Prop
abbrev TGs:=List V->St->Hp->(St->Hp->Prop)->Prop
def PG (X:Cx) (target:Expr) (t:TG):Prop:=
 ∀ (pins:List (Addr×Obj)) (s:Shared) (σ:St) (H:Hp) (v:V) (u:Value) (Q:St->Hp->Prop),Inv X pins σ H s->RelV v u->t v σ H Q->
  wpAny (model X.prog X.w) X.A (assign target X.env u) (fun _ s'=>∃ σ' H',Inv X pins σ' H' s'/\Q σ' H') X.xe s
def PGs (X:Cx) (ts:List Expr) (t:TGs):Prop:=
 ∀ (pins:List (Addr×Obj)) (s:Shared) (σ:St) (H:Hp) (vs:List V) (us:List Value) (Q:St->Hp->Prop),Inv X pins σ H s->aM vs us->t vs σ H Q->
  wpAny (model X.prog X.w) X.A (assignInOrder ((jk ts X.env).map (·.2)) us) (fun _ s'=>∃ σ' H',Inv X pins σ' H' s'/\Q σ' H') X.xe s
abbrev Y7:=V->V->V->Hp->(Hp->Prop)->Prop
def Y8 (X:Cx) (t:Y7):Prop:=
 ∀ (pins:List (Addr×Obj)) (s:Shared) (σ:St) (H:Hp) (o i v:V) (ov iv u:Value) (Q:Hp->Prop),Inv X pins σ H s->RelV o ov->RelV i iv->RelV v u->t o i v H Q->
  wpAny (model X.prog X.w) X.A (setItem ov iv u) (fun _ s'=>∃ H',Inv X pins σ H' s'/\Q H') X.xe s
section
variable {X:Cx} {pos:Pos}
def LP (i:Nat):TG:=fun v σ H Q=>Q (σ.set i (some v)) H
theorem Qe {i:Nat} {x:Str} (hN:X.N.Nodup) (hi:X.N[i]?=some x) (hx:Loc X.env.scope x) (hf:X.fn x=true\/X.env.scope.names.lookup x=some .local:=by first | exact .inl rfl | exact .inr rfl | assumption):PG X (.Name x pos) (LP i):=by
 intro pins s σ H v u Q I r h;exact wpAny_assign_Name (Dx I hN hi hx r (fun s' I'=>⟨_,H,I',h⟩) hf)
def Y9:TGs:=fun vs σ H Q=>vs=[]/\Q σ H
def VY (t:TG) (u:TGs):TGs:=fun vs σ H Q=>∃ v r,vs=v :: r/\t v σ H fun σ' H'=>u r σ' H' Q
theorem Qf:PGs X [] Y9:=by
 intro pins s σ H vs us Q I r h;obtain ⟨e,h⟩:=h;subst e;cases r
 exact assignInOrder_nil ⟨σ,H,I,h⟩
theorem LQ {e:Expr} {es:List Expr} {t:TG} {u:TGs} (h1:PG X e t) (h2:PGs X es u)
  (hs:(jk (e :: es) X.env).map (·.2)=assign e X.env :: (jk es X.env).map (·.2):=by rfl):PGs X (e :: es) (VY t u):=by
 intro pins s σ H vs us Q I r h;obtain ⟨v,vr,e1,h⟩:=h;subst e1;cases r with
 | cons r rr=>
  rw [hs];refine assignInOrder_cons (thn (h1 pins s σ H _ _ _ I r h) fun _ s1 ⟨σ1,H1,I1,q1⟩=>?_);exact h2 pins s1 σ1 H1 _ _ Q I1 rr q1
def VZ (K:ag) (n:Nat) (t:TGs):TG:=fun v σ H Q=>∃ a xs,v=.ref a/\SqT K H a xs/\xs.length=n/\t xs σ H Q
theorem TK {es:List Expr} {k:Nat} {t:TGs} {n:Nat} (hc:X.calm=true) (h:PGs X es t)
  (hn:(jk es X.env).length=n:=by rfl) (hst:(jk es X.env).findIdx? (·.1)=none:=by rfl):PG X (.Tuple es k pos) (VZ X.K n t):=by
 intro pins s σ H v u Q I r hw;obtain ⟨a,xs,e1,hq,hl,hw⟩:=hw;subst e1;cases r
 obtain ⟨its,rv,ht,hz⟩:=I.tuple hq;refine assign_Tuple_tuple (I.ok.hd hc) ht (by simp [hn,<- hl,rv.length]) hst fun h' hx=>?_;have I1:Inv X pins σ H { s with heap:=h' }:=I.kept (t':=s.toks) fun b o e=>hx b o (az (ax e)) e;exact h pins _ σ H xs _ Q I1 (by simpa using rv) hw
def TL (te:TE) (g:TG):TS:=fun D σ H=>te σ H fun x H1=>g x σ H1 D.nx
theorem TM {tg e:Expr} {te:TE} {g:TG} (he:PE X e te) (hg:PG X tg g) (hs:swapsWithSole [tg] e pos.line X.env=pure false:=by rfl) (hw:swappedStores [tg] e X.env=pure none:=by rfl)
  (h1:(jk [tg] X.env).map (·.2)=[assign tg X.env]:=by rfl):PS X (.Assign [tg] e pos) (TL te g):=by
 intro pins s σ H D I h;refine wpAny_Assign_stores (thn (he pins s σ H _ I h) fun v s1 hz=>?_) hs hw;obtain ⟨x,H1,I1,r1,q1⟩:=hz;rw [h1];exact thn (hg pins s1 σ H1 x v _ I1 r1 q1) fun _ s2 q=>q
theorem TN {i:Nat} {x:Str} {e:Expr} {te:TE} {pos':Pos} (hN:X.N.Nodup) (hi:X.N[i]?=some x) (hx:Loc X.env.scope x) (he:PE X e te) (hs:swapsWith e (some (.Name x pos')) pos.line X.env=pure false:=by rfl) (hf:X.fn x=true\/X.env.scope.names.lookup x=some .local:=by first | exact .inl rfl | exact .inr rfl | assumption):
  PS X (.Assign [.Name x pos'] e pos) (TL te (LP i)):=by
 intro pins s σ H D I h;refine wpAny_Assign_Name (thn (he pins s σ H _ I h) fun v s1 hz=>?_) hs;obtain ⟨y,H1,I1,r1,q1⟩:=hz;exact Dx I1 hN hi hx r1 (fun s2 I2=>⟨_,H1,I2,q1⟩) hf
end
structure It where
 go:Nat->Hp->Prop
 yld:Nat->Hp->V->Hp->Prop
 stop:Nat->Hp->Prop
def Dz (X:Cx) (pins:List (Addr×Obj)) (H:Hp) (b:Addr):Prop:=
 H b=none/\b≠X.env.locals/\b∉X.fs/\(b∈X.ex\/X.s₀.heap.objs.size<=b)/\(∀ x c,X.env.cells.lookup x=some c->c≠b)/\∀ p∈X.pn++pins,p.1≠b
theorem Inv.fpOk {X:Cx} {pins:List (Addr×Obj)} {σ:St} {H H':Hp} {s:Shared} {b:Addr} (I:Inv X pins σ H s) (hb:s.heap.objs.size<=b) (hn:H' b=none):Dz X pins H' b:=by
 refine ⟨hn,Nat.ne_of_gt (bw I.lt hb),I.nofs hb,.inr (df I.sz hb),fun x c e z=>?_,fun p hp z=>?_⟩
 ·obtain ⟨v,q⟩:=I.cell x c e;exact absurd (bw q.lt (by rw [z]; exact hb)) (fv _)
 ·exact absurd (bw (ax (I.pin p hp).1) (by rw [z]; exact hb)) (fv _)
structure Turn (P:Program) (w:World) (K:ag) (tg:Expr) (J:It) (fp:List Addr) (it:Addr) (tn:Nat->Heap->Prop):Prop where
 mem:it∈fp
 obj:∀ i h,tn i h->∀ b∈fp,∃ o,h.get? b=some o/\∀ v,o.data≠.cell v
 keep:∀ i h h',tn i h->(∀ b∈fp,∀ o,h.get? b=some o->h'.get? b=some o)->tn i h'
 item:∀ (X:Cx),X.prog=P->X.w=w->X.K=K->X.calm=true->∀ (i:Nat) (pins:List (Addr×Obj)) (s:Shared) (σ:St) (H:Hp) (E:Value->Shared->Prop),Inv X pins σ H s->(∀ b∈fp,Dz X pins H b)->tn i s.heap->J.go i H->
  wpAny (model P w) X.A (pyNext (.ref it)) (fun r s1=>∃ u,r=some u/\
   wpAny (model P w) X.A (letOwnedTupleGo tg (.ref it) u) (fun _ s2=>∃ x H',Inv X pins σ H' s2/\RelV x u/\J.yld i H x H'/\tn (i+1) s2.heap/\∀ b∈fp,H' b=none) E s1) E s
 done:∀ (X:Cx),X.prog=P->X.w=w->X.K=K->X.calm=true->∀ (i:Nat) (pins:List (Addr×Obj)) (s:Shared) (σ:St) (H:Hp) (E:Value->Shared->Prop),Inv X pins σ H s->(∀ b∈fp,Dz X pins H b)->tn i s.heap->J.stop i H->
  wpAny (model P w) X.A (pyNext (.ref it)) (fun r s1=>r=none/\Inv X pins σ H s1) E s
 self:∀ (A:Around) (i:Nat) (s:Shared) (Q:Value->Shared->Prop) (E:Value->Shared->Prop),tn i s.heap->Q (.ref it) s->wpAny (model P w) A (pyIter (.ref it)) Q E s
abbrev TI:=St->Hp->(It->Hp->Prop)->Prop
def PIE (X:Cx) (pins:List (Addr×Obj)) (σ:St) (tg:Expr) (R:It->Hp->Prop) (itv:Value) (s2:Shared):Prop:=
 ∃ (it:Addr) (fp:List Addr) (tn:Nat->Heap->Prop) (J:It) (H':Hp),itv=.ref it/\Inv X pins σ H' s2/\Turn X.prog X.w X.K tg J fp it tn/\tn 0 s2.heap/\(∀ b∈fp,Dz X pins H' b)/\R J H'
def PI (X:Cx) (tg iter:Expr) (wi:TI):Prop:=
 ∀ (pins:List (Addr×Obj)) (s:Shared) (σ:St) (H:Hp) (R:It->Hp->Prop),Inv X pins σ H s->wi σ H R->
  wpAny (model X.prog X.w) X.A (eval iter X.env) (fun v s1=>wpAny (model X.prog X.w) X.A (pyIter v) (PIE X pins σ tg R) X.xe s1) X.xe s
theorem LR {M:Model} {A:Around} {E:Value->Shared->Prop} {s:Shared} {tg:Expr} {it:Addr} {u:Value} {o:Obj} {n:String} {vs:Array Value} {Q:Unit->Shared->Prop} (ho:s.heap.get? it=some o) (hc:o.cls=.type n) (hd:o.data=.fields vs)
  (hn:["enumerate","zip","dict_itemiterator","dict_reverseitemiterator","odict_iterator","itertools.zip_longest","itertools.pairwise"].contains n=false) (hQ:Q () s):wpAny M A (letOwnedTupleGo tg (.ref it) u) Q E s:=by
 unfold letOwnedTupleGo;cases tg <;> first
  | exact ai hQ
  | (cases u <;> first
    | exact ai hQ
    | (refine aa (wpAny_load ho ?_)
       rw [hc,hd]
       show wpAny M A (if (["enumerate","zip","dict_itemiterator","dict_reverseitemiterator","odict_iterator","itertools.zip_longest","itertools.pairwise"].contains n && vs[0]? == some (rawInt _))=true then _ else _) Q E s
       rw [if_neg (by intro h; rw [hn,Bool.false_and] at h; cases h)];exact ai hQ))
def Itl (K:ag) (a:Addr):It:=
 ⟨fun i H=>∃ xs x,SqL K H a xs/\xs[i]?=some x,fun i H x H'=>H'=H/\∀ xs,SqL K H a xs->xs[i]?=some x,fun i H=>∃ xs,SqL K H a xs/\xs.length<=i⟩
def Itt (K:ag) (a:Addr):It:=
 ⟨fun i H=>∃ xs x,SqT K H a xs/\xs[i]?=some x,fun i H x H'=>H'=H/\∀ xs,SqT K H a xs->xs[i]?=some x,fun i H=>∃ xs,SqT K H a xs/\xs.length<=i⟩
def Itr (lo:Int) (n:Nat):It:=⟨fun i _=>i < n,fun i H x H'=>H'=H/\x=.int (lo+i),fun i _=>n<=i⟩
theorem AD {P:Program} {w:World} {K:ag} {tg:Expr} (a it:Addr):Turn P w K tg (Itl K a) [it] it (fun i h=>h.IsListIter it a i) where
 mem:=by simp
 obj:=fun i h st b hb=>by
  have e:b=it:=by simpa using hb
  subst e;obtain ⟨o,e,c,d⟩:=st;exact ⟨o,e,fun v z=>by rw [d] at z; cases z⟩
 keep:=fun i h h' st k=>st.at fun o e=>k it (by simp) o e
 item:=by
  intro X hP hw hK hc i pins s σ H E I hf st hg;subst hP hw hK;obtain ⟨xs,x,hq,hx⟩:=hg;obtain ⟨its,rv,p,hz⟩:=I.list hq;obtain ⟨u,hu,ru⟩:=rv.get hx;obtain ⟨f0,f1,f2,f3,f4,f5⟩:=hf it (by simp);refine wpAny_pyNext_list_item st p.isList (x:=u) (by simpa using hu) fun h' st' sb=>?_
  have I1:Inv X pins σ H { s with heap:=h' }:=I.turned (t':=s.toks) (fun b o hb e=>(sb.2 b hb).trans e) f0 f1 f3 f4 f5;obtain ⟨o,e,c,d⟩:=id st';exact ⟨u,rfl,LR (s:={ s with heap:=h' }) e c d (by decide) ⟨x,H,I1,ru,⟨rfl,fun ys hy=>by rw [I.list_inj hy hq]; exact hx⟩,st',fun b hb=>(hf b hb).1⟩⟩
 done:=by
  intro X hP hw hK hc i pins s σ H E I hf st hg;subst hP hw hK;obtain ⟨xs,hq,hx⟩:=hg;obtain ⟨its,rv,p,hz⟩:=I.list hq;obtain ⟨f0,f1,f2,f3,f4,f5⟩:=hf it (by simp);have hl:=rv.length;exact wpAny_pyNext_list_end (I.ok.hd hc) st p.isList (by simp; omega) fun h' eb=>⟨rfl,I.turned (t':=s.toks) (fun b o hb e=>eb b o hb e) f0 f1 f3 f4 f5⟩
 self:=fun _ _ _ _ _ st h=>wpAny_pyIter_listiter st h
theorem FJ {P:Program} {w:World} {K:ag} {tg:Expr} (a it:Addr):Turn P w K tg (Itt K a) [it] it (fun i h=>h.IsTupleIter it a i) where
 mem:=by simp
 obj:=fun i h st b hb=>by
  have e:b=it:=by simpa using hb
  subst e;obtain ⟨o,e,c,d⟩:=st;exact ⟨o,e,fun v z=>by rw [d] at z; cases z⟩
 keep:=fun i h h' st k=>st.at fun o e=>k it (by simp) o e
 item:=by
  intro X hP hw hK hc i pins s σ H E I hf st hg;subst hP hw hK;obtain ⟨xs,x,hq,hx⟩:=hg;obtain ⟨its,rv,p,hz⟩:=I.tuple hq;obtain ⟨u,hu,ru⟩:=rv.get hx;obtain ⟨f0,f1,f2,f3,f4,f5⟩:=hf it (by simp);refine wpAny_pyNext_tuple_item st (show s.heap.IsTuple a its.toArray from p) (x:=u) (by simpa using hu) fun h' st' sb=>?_
  have I1:Inv X pins σ H { s with heap:=h' }:=I.turned (t':=s.toks) (fun b o hb e=>(sb.2 b hb).trans e) f0 f1 f3 f4 f5;obtain ⟨o,e,c,d⟩:=id st';exact ⟨u,rfl,LR (s:={ s with heap:=h' }) e c d (by decide) ⟨x,H,I1,ru,⟨rfl,fun ys hy=>by rw [I.tuple_inj hy hq]; exact hx⟩,st',fun b hb=>(hf b hb).1⟩⟩
 done:=by
  intro X hP hw hK hc i pins s σ H E I hf st hg;subst hP hw hK;obtain ⟨xs,hq,hx⟩:=hg;obtain ⟨its,rv,p,hz⟩:=I.tuple hq;obtain ⟨f0,f1,f2,f3,f4,f5⟩:=hf it (by simp);have hl:=rv.length;exact wpAny_pyNext_tuple_end (I.ok.hd hc) st (show s.heap.IsTuple a its.toArray from p) (by simp; omega) fun h' eb=>⟨rfl,I.turned (t':=s.toks) (fun b o hb e=>eb b o hb e) f0 f1 f3 f4 f5⟩
 self:=fun _ _ _ _ _ st h=>wpAny_pyIter_tupleiter st h
theorem FK {P:Program} {w:World} {K:ag} {tg:Expr} (it:Addr) (lo:Int) (n:Nat):Turn P w K tg (Itr lo n) [it] it (fun i h=>IsRangeIter h it (lo+(i:Nat)*1) ((n:Int) - (i:Nat)) 1) where
 mem:=by simp
 obj:=fun i h st b hb=>by
  have e:b=it:=by simpa using hb
  subst e;exact ⟨_,st,fun v z=>by
   have z':Data.fields _=Data.cell v:=z;cases z'⟩
 keep:=fun i h h' st k=>k it (by simp) _ st
 item:=by
  intro X hP hw hK hc i pins s σ H E I hf st hg;subst hP hw hK;obtain ⟨f0,f1,f2,f3,f4,f5⟩:=hf it (by simp);have W:=Walks.range (prog:=X.prog) (w:=X.w) (I.ok.hd hc) it lo 1 n;refine W.item i s _ _ hg st fun v h' tk hv st' kk=>?_;obtain ⟨t,rfl⟩:=hv;have I1:Inv X pins σ H { s with heap:=h',toks:=tk }:=I.turned (fun b o hb e=>kk b o (by simpa using hb) e) f0 f1 f3 f4 f5
  refine ⟨_,rfl,LR (s:={ s with heap:=h',toks:=tk }) (n:="range_iterator") st' rfl rfl (by decide) ⟨.int (lo+i),H,I1,⟨t,?_⟩,⟨rfl,rfl⟩,st',fun b hb=>(hf b hb).1⟩⟩;rw [Int.mul_one]
 done:=by
  intro X hP hw hK hc i pins s σ H E I hf st hg;subst hP hw hK;obtain ⟨f0,f1,f2,f3,f4,f5⟩:=hf it (by simp);exact wpAny_pyNext_range_end (I.ok.hd hc) st (by have:n<=i:=hg; omega) fun h' eb=>⟨rfl,I.turned (t':=s.toks) (fun b o hb e=>eb b o hb e) f0 f1 f3 f4 f5⟩
 self:=fun _ _ _ _ _ st h=>wpAny_pyIter_rangeiter st h
section
variable {X:Cx} {tg:Expr}
theorem LS {pins:List (Addr×Obj)} {σ:St} {H:Hp} {s:Shared} {R:It->Hp->Prop} {E:Value->Shared->Prop} {lo hi:Int} {t u v:Tok} {tk:Nat} (I:Inv X pins σ H s) (h1:-(2 ^ 62)<=lo) (h2:lo < 2 ^ 62) (h3:-(2 ^ 62)<=hi) (h4:hi < 2 ^ 62)
  (q:R (Itr lo (hi - lo).toNat) H):wpAny (model X.prog X.w) X.A (pyIter (.ref s.heap.objs.size)) (PIE X pins σ tg R) E { s with heap:=s.heap.push { cls:=.type "range",data:=.fields #[.int lo t,.int hi u,.int 1 v] },toks:=tk }:=by
 refine wpAny_pyIter_range (IsRange.new ..) (small_one h1 h2 h3 h4) ?_;have I1:Inv X pins σ H { s with heap:=s.heap.push { cls:=.type "range",data:=.fields #[.int lo t,.int hi u,.int 1 v] },toks:=tk }:=I.kept fun b o e=>ah _ e;refine ⟨(s.heap.push { cls:=.type "range",data:=.fields #[.int lo t,.int hi u,.int 1 v] }).objs.size,[(s.heap.push { cls:=.type "range",data:=.fields #[.int lo t,.int hi u,.int 1 v] }).objs.size],_,_,H,rfl,
  I1.kept (t':=tk) fun b o e=>ah _ e,FK _ lo (hi - lo).toNat,?_,fun b hb=>?_,q⟩
 ·have e1:lo+((0:Nat):Int)*1=lo:=by simp
  have e2:(((hi - lo).toNat:Nat):Int) - ((0:Nat):Int)=Builtin.Range.rangeSize lo hi 1:=by rw [rangeSize_one]; split <;> omega
  show IsRangeIter _ _ (lo+((0:Nat):Int)*1) ((((hi - lo).toNat:Nat):Int) - ((0:Nat):Int)) 1
  rw [e1,e2];exact ay _ rfl
 ·have e:b=(s.heap.push { cls:=.type "range",data:=.fields #[.int lo t,.int hi u,.int 1 v] }).objs.size:=by simpa using hb
  subst e;exact I1.fpOk (ao _) (I1.hok.fresh (ao _))
def Y' (wi:TI) (g:TG) (tb:TS):TS:=fun D σ H=>wi σ H fun J H1=>∃ W:Nat->Nat->St->Hp->Prop,(∃ m,W 0 m σ H1)/\∀ i m σ H,W i m σ H->
 (J.stop i H/\D.nx σ H)\/(J.go i H/\∃ N:St->Hp->Prop,(∀ σ' H',N σ' H'->∃ m',m' < m/\W (i+1) m' σ' H')/\∀ x H',J.yld i H x H'->g x σ H' fun σ2 H2=>tb { D with nx:=N,ct:=N,bk:=D.nx } σ2 H2)
def wF (fp:List Addr) (h:Heap):List (Addr×Obj):=fp.filterMap fun b=>(h.get? b).map fun o=>(b,o)
theorem jJ {fp:List Addr} {h:Heap} {b:Addr} {o:Obj} (hb:b∈fp) (e:h.get? b=some o):(b,o)∈wF fp h:=List.mem_filterMap.mpr ⟨b,hb,by rw [e]; rfl⟩
theorem Jf {fp:List Addr} {h:Heap} {p:Addr×Obj} (hp:p∈wF fp h):p.1∈fp/\h.get? p.1=some p.2:=by
 obtain ⟨b,hb,e⟩:=List.mem_filterMap.mp hp;cases q:h.get? b with
 | none=>rw [q] at e; cases e
 | some o=>
  rw [q] at e;have e':(b,o)=p:=bg e;subst e';exact ⟨hb,q⟩
theorem Inv.pinned {pins:List (Addr×Obj)} {σ:St} {H:Hp} {s:Shared} {fp:List Addr} (I:Inv X pins σ H s) (hf:∀ b∈fp,Dz X pins H b) (ho:∀ b∈fp,∃ o,s.heap.get? b=some o/\∀ v,o.data≠.cell v):Inv X (pins++wF fp s.heap) σ H s:=
 I.pins_of fun p hp=>(bj.mp hp).elim (fun z=>I.pin p (af _ z)) fun z=>by
  obtain ⟨hb,e⟩:=Jf z;obtain ⟨f0,f1,f2,_⟩:=hf p.1 hb;obtain ⟨o,e',d⟩:=ho p.1 hb;rw [e] at e'; cases e';exact ⟨e,f0,f1,f2,d⟩
theorem Inv.unpinned {pins pl:List (Addr×Obj)} {σ:St} {H:Hp} {s:Shared} (I:Inv X (pins++pl) σ H s):Inv X pins σ H s:=I.pins_of fun p hp=>I.pin p (af _ (dh _ hp))
theorem TQ {iter:Expr} {body:List Stmt} {wi:TI} {g:TG} {tb:TS} {pos:Pos} (hp:PassesOwn (model X.prog X.w) X.A X.env X.xe) (hc:X.calm=true) (hi:PI X tg iter wi) (hg:PG X tg g) (hb:PSs X body tb)
  (hs:∀ x,i8 iter X.env x=pure x:=by intro _; rfl):PS X (.For tg iter body [] pos) (Y' wi g tb):=by
 intro pins s σ H D I h;refine wpAny_For (thn (hi pins s σ H _ I h) fun v s1 h1=>thn h1 fun itv s2 h2=>?_) hs;obtain ⟨it,fp,tn,J,H2,e,I2,T,st2,f2,W,⟨m0,w0⟩,turn⟩:=h2;subst e
 -- what stays true of the iterator's objects through the loop
 have stat:∀ {H':Hp},(∀ b∈fp,H' b=none)->∀ b∈fp,Dz X pins H' b:=fun hn b hb=>⟨hn b hb,(f2 b hb).2⟩;refine codeAny_forLoop_any (fun n s'=>∃ i σ' H',Inv X pins σ' H' s'/\tn i s'.heap/\(∀ b∈fp,H' b=none)/\W i n σ' H') ?_ m0 ⟨0,σ,H2,I2,st2,fun b hb=>(f2 b hb).1,w0⟩;rintro n s3 ⟨i,σ3,H3,I3,st3,fr3,w3⟩;rcases turn i n σ3 H3 w3 with ⟨stop,qn⟩ | ⟨go,N,hN,step⟩
 ·refine wpAny_passesOwn hp (thn (T.done X rfl rfl rfl hc i pins s3 σ3 H3 X.xe I3 (stat fr3) st3 stop) fun r s4 ⟨hr,I4⟩=>?_);subst hr;exact wpAny_execs_nil ⟨σ3,H3,I4,qn⟩
 ·refine wpAny_passesOwn hp (thn (T.item X rfl rfl rfl hc i pins s3 σ3 H3 X.xe I3 (stat fr3) st3 go) fun r s4 ⟨u,hr,h4⟩=>?_);subst hr;refine wpAny_passesOwn hp (thn h4 fun _ s5 hz=>?_);obtain ⟨x,H5,I5,r5,y5,st5,fr5⟩:=hz;have I5':=I5.pinned (stat fr5) (T.obj _ _ st5);refine wpAny_passesOwn hp (thn (hg _ s5 σ3 H5 x u _ I5' r5 (step x H5 y5)) fun _ s6 ⟨σ6,H6,I6,q6⟩=>?_);refine wpAny_passesOwn hp (thn (hb _ s6 σ6 H6 _ I6 q6) fun f s7 q7=>?_);have again:∀ {σ7:St} {H7:Hp},Inv X (pins++wF fp s5.heap) σ7 H7 s7->N σ7 H7->∃ m,m < n/\∃ i σ' H',Inv X pins σ' H' s7/\tn i s7.heap/\(∀ b∈fp,H' b=none)/\W i m σ' H':=fun {σ7 H7} I7 n7=>by
   obtain ⟨m',hm,w7⟩:=hN σ7 H7 n7;refine ⟨m',hm,i+1,σ7,H7,I7.unpinned,T.keep _ _ _ st5 fun b hb o e=>(I7.pin (b,o) (af _ (af _ (jJ hb e)))).1,fun b hb=>?_,w7⟩;obtain ⟨o,e,d⟩:=T.obj _ _ st5 b hb;exact (I7.pin (b,o) (af _ (af _ (jJ hb e)))).2.1
  cases f with
  | next=>obtain ⟨σ7,H7,I7,n7⟩:=q7; exact again I7 n7
  | cont=>obtain ⟨σ7,H7,I7,n7⟩:=q7; exact again I7 n7
  | brk=>obtain ⟨σ7,H7,I7,q7⟩:=q7; exact ⟨σ7,H7,I7.unpinned,q7⟩
  | ret v=>obtain ⟨x7,σ7,H7,I7,r7,q7⟩:=q7; exact ⟨x7,σ7,H7,I7.unpinned,r7,q7⟩
end
abbrev R2:=V->V->Hp->VK->Prop
def OpR (X:Cx) (f:Value->Value->Sem Value) (r:R2):Prop:=
 ∀ (pins:List (Addr×Obj)) (s:Shared) (σ:St) (H:Hp) (x y:V) (v u:Value) (Q:VK),Inv X pins σ H s->RelV x v->RelV y u->r x y H Q->
  wpAny (model X.prog X.w) X.A (f v u) (EP X pins σ Q) X.xe s
def UnR (X:Cx) (f:Value->Sem Value) (r:V->Hp->VK->Prop):Prop:=
 ∀ (pins:List (Addr×Obj)) (s:Shared) (σ:St) (H:Hp) (x:V) (v:Value) (Q:VK),Inv X pins σ H s->RelV x v->r x H Q->
  wpAny (model X.prog X.w) X.A (f v) (EP X pins σ Q) X.xe s
def bR (X:Cx) (f:Value) (r:List V->Hp->VK->Prop):Prop:=
 ∀ (pins:List (Addr×Obj)) (s:Shared) (σ:St) (H:Hp) (xs:List V) (us:List Value) (Q:VK),Inv X pins σ H s->aM xs us->r xs H Q->
  wpAny (model X.prog X.w) X.A (call f us) (EP X pins σ Q) X.xe s
def Ya (X:Cx) (r:V->Hp->(Bool->Hp->Prop)->Prop):Prop:=
 ∀ (pins:List (Addr×Obj)) (s:Shared) (σ:St) (H:Hp) (x:V) (v:Value) (Q:Bool->Hp->Prop),Inv X pins σ H s->RelV x v->r x H Q->
  wpAny (model X.prog X.w) X.A (truthy v) (TP X pins σ Q) X.xe s
def tOp (r:R2) (ta tb:TE):TE:=fun σ H Q=>ta σ H fun x H1=>tb σ H1 fun y H2=>r x y H2 Q
def tUn (r:V->Hp->VK->Prop) (ta:TE):TE:=fun σ H Q=>ta σ H fun x H1=>r x H1 Q
def rI (C:Int->Int->Prop) (g:Int->Int->V):R2:=fun x y H Q=>∃ i j,x=.int i/\y=.int j/\C i j/\Q (g i j) H
def rI0 (g:Int->Int->V):R2:=fun x y H Q=>∃ i j,x=.int i/\y=.int j/\Q (g i j) H
def rU (g:Int->V):V->Hp->VK->Prop:=fun x H Q=>∃ i,x=.int i/\Q (g i) H
section
variable {X:Cx} {a b c:Expr} {ta tb tc:TE} {pos:Pos}
theorem TR (ha:PE X a ta) (hb:PE X b tb) {pins:List (Addr×Obj)} {s:Shared} {σ:St} {H:Hp} {R:V->V->Hp->Prop} (I:Inv X pins σ H s)
  (h:ta σ H fun x H1=>tb σ H1 fun y H2=>R x y H2) {Q:Value->Shared->Prop} {f:Value->Value->Sem Value}
  (hf:∀ v u s2 x y H2,Inv X pins σ H2 s2->RelV x v->RelV y u->R x y H2->wpAny (model X.prog X.w) X.A (f v u) Q X.xe s2):
  wpAny (model X.prog X.w) X.A (eval a X.env) (fun v s₁=>wpAny (model X.prog X.w) X.A (eval b X.env) (fun u s₂=>wpAny (model X.prog X.w) X.A (f v u) Q X.xe s₂) X.xe s₁) X.xe s:=by
 refine thn (ha pins s σ H _ I h) fun v s1 hz=>?_;obtain ⟨x,H1,I1,r1,q1⟩:=hz;refine thn (hb pins s1 σ H1 _ I1 q1) fun u s2 hz=>?_;obtain ⟨y,H2,I2,r2,q2⟩:=hz;exact hf v u s2 x y H2 I2 r1 r2 q2
theorem W0 {op:Operator} {r:R2} (ho:OpR X (fi op) r) (ha:PE X a ta) (hb:PE X b tb):PE X (.BinOp a op b pos) (tOp r ta tb):=by
 intro pins s σ H Q I h;exact wpAny_BinOp (TR ha hb I h fun v u s2 x y H2 I2 rx ry q=>ho pins s2 σ H2 x y v u Q I2 rx ry q)
theorem W1 {op:UnaryOp} {r:V->Hp->VK->Prop} (ho:UnR X (unaryOp op) r) (ha:PE X a ta):PE X (.UnaryOp op a pos) (tUn r ta):=by
 intro pins s σ H Q I h;exact UnaryOp_ (thn (ha pins s σ H _ I h) fun v s1 ⟨x,H1,I1,r1,q1⟩=>ho pins s1 σ H1 x v Q I1 r1 q1)
theorem opI {f:Value->Value->Sem Value} {C:Int->Int->Prop} {g:Int->Int->Int}
  (rule:∀ (i j:Int) (t u:Tok) (s:Shared) (Q:Value->Shared->Prop) (E:Value->Shared->Prop),C i j->Q (.int (g i j) s.toks) { s with toks:=s.toks+1 }->wpAny (model X.prog X.w) X.A (f (.int i t) (.int j u)) Q E s):
  OpR X f (rI C fun i j=>.int (g i j)):=by
 intro pins s σ H x y v u Q I rx ry h;obtain ⟨i,j,rfl,rfl,hc,q⟩:=h;obtain ⟨t,rfl⟩:=rx;obtain ⟨t',rfl⟩:=ry;exact rule i j t t' s _ _ hc ⟨.int (g i j),H,I.tok _,⟨_,rfl⟩,q⟩
theorem W2 {f:Value->Value->Sem Value} {g:Int->Int->Int}
  (rule:∀ (i j:Int) (t u:Tok) (s:Shared) (Q:Value->Shared->Prop) (E:Value->Shared->Prop),Q (.int (g i j) s.toks) { s with toks:=s.toks+1 }->wpAny (model X.prog X.w) X.A (f (.int i t) (.int j u)) Q E s):
  OpR X f (rI0 fun i j=>.int (g i j)):=by
 intro pins s σ H x y v u Q I rx ry h;obtain ⟨i,j,rfl,rfl,q⟩:=h;obtain ⟨t,rfl⟩:=rx;obtain ⟨t',rfl⟩:=ry;exact rule i j t t' s _ _ ⟨.int (g i j),H,I.tok _,⟨_,rfl⟩,q⟩
theorem TU {f:Value->Value->Sem Value} {g:Int->Int->Bool}
  (rule:∀ (i j:Int) (t u:Tok) (s:Shared) (Q:Value->Shared->Prop) (E:Value->Shared->Prop),Q (.bool (g i j)) s->wpAny (model X.prog X.w) X.A (f (.int i t) (.int j u)) Q E s):
  OpR X f (rI0 fun i j=>.bl (g i j)):=by
 intro pins s σ H x y v u Q I rx ry h;obtain ⟨i,j,rfl,rfl,q⟩:=h;obtain ⟨t,rfl⟩:=rx;obtain ⟨t',rfl⟩:=ry;exact rule i j t t' s _ _ ⟨.bl (g i j),H,I,rfl,q⟩
def LU (i j:Int):Prop:=0 < j/\j < 1073741824
def Jg (i j:Int):Prop:=0<=j/\j<=1000000/\i.natAbs < 2 ^ 64
def DA (i j:Int):Prop:=(-(2 ^ 64) < i/\i < 2 ^ 64)\/(-(2 ^ 64) < j/\j < 2 ^ 64)
theorem DA.ok {i j:Int} (h:DA i j):IntMulOk i j:=by
 rcases h with ⟨h1,h2⟩ | ⟨h1,h2⟩
 ·exact .of_left (intBits_le_64 h1 h2)
 ·exact .of_right (intBits_le_64 h1 h2)
theorem TV:OpR X (fi .Add) (rI0 fun i j=>.int (i+j)):=W2 fun _ _ _ _ _ _ _ q=>add_int q
theorem TX:OpR X (fi .Sub) (rI0 fun i j=>.int (i - j)):=W2 fun _ _ _ _ _ _ _ q=>sub_int q
theorem TY:OpR X (fi .Mult) (rI DA fun i j=>.int (i*j)):=opI fun _ _ _ _ _ _ _ hc q=>mul_int q hc.ok
theorem Qg:OpR X (fi .FloorDiv) (rI LU fun i j=>.int (i / j)):=opI fun i j _ _ _ _ _ hc q=>by
 have h1:(0:Int) < j:=hc.1;have h2:j < 1073741824:=hc.2;exact floordiv_int (by omega) (by rw [Int.fdiv_eq_ediv_of_nonneg i (by omega)]; exact q) (.inl (PyProof.noPylong_small (by omega)))
theorem TZ:OpR X (fi .Mod) (rI (fun _ j=>0 < j) fun i j=>.int (i % j)):=opI fun i j _ _ _ _ _ hc q=>by
 have h1:(0:Int) < j:=hc;exact mod_int' (by omega) (by rw [Int.fmod_eq_emod_of_nonneg i (by omega)]; exact q)
theorem U0:OpR X (fi .Pow) (rI Jg fun i j=>.int (i ^ j.toNat)):=opI fun _ _ _ _ _ _ _ hc q=>pow_int_small hc.1 hc.2.1 hc.2.2 q
theorem unI {f:Value->Sem Value} {g:Int->Int}
  (rule:∀ (i:Int) (t:Tok) (s:Shared) (Q:Value->Shared->Prop) (E:Value->Shared->Prop),Q (.int (g i) s.toks) { s with toks:=s.toks+1 }->wpAny (model X.prog X.w) X.A (f (.int i t)) Q E s):
  UnR X f (rU fun i=>.int (g i)):=by
 intro pins s σ H x v Q I rx h;obtain ⟨i,rfl,q⟩:=h;obtain ⟨t,rfl⟩:=rx;exact rule i t s _ _ ⟨.int (g i),H,I.tok _,⟨_,rfl⟩,q⟩
theorem U1:UnR X (unaryOp .USub) (rU fun i=>.int (-i)):=unI fun _ _ _ _ _ q=>neg_int q
end
section
variable {X:Cx} {a b c:Expr} {ta tb tc:TE} {pos:Pos}
theorem wG {pins:List (Addr×Obj)} {σ:St} {H:Hp} {s:Shared} {Q:VK} {k k':Bool} (I:Inv X pins σ H s) (q:Q (.bl k) H) (e:k=k'):EP X pins σ Q (.bool k') s:=by
 subst e;exact ⟨.bl k,H,I,rfl,q⟩
theorem W3:OpR X (cm .Lt) (rI0 fun i j=>.bl (decide (i < j))):=TU fun _ _ _ _ _ _ _ q=>lt_int q
theorem W4:OpR X (cm .LtE) (rI0 fun i j=>.bl (decide (i<=j))):=TU fun _ _ _ _ _ _ _ q=>le_int q
theorem W5:OpR X (cm .Gt) (rI0 fun i j=>.bl (decide (j < i))):=TU fun _ _ _ _ _ _ _ q=>gt_int q
theorem Jh:OpR X (cm .Lt) (fun x y H Q=>∃ i j,x=.str i/\y=.str j/\Q (.bl (decide (i.cps.toList < j.cps.toList))) H):=by
 intro pins s σ H x y v u Q I rx ry h;obtain ⟨i,j,rfl,rfl,q⟩:=h;obtain ⟨t,rfl⟩:=rx;obtain ⟨t',rfl⟩:=ry;exact lt_str (wG I q rfl)
theorem U2:OpR X (cm .Is) (fun x y H Q=>y=.non/\Q (.bl (decide (x=.non))) H):=by
 intro pins s σ H x y v u Q I rx ry h;obtain ⟨rfl,q⟩:=h;cases ry
 refine is_none_gen (wG I q ?_);cases x <;> first
  | (cases rx; rfl)
  | (obtain ⟨t,rfl⟩:=rx; rfl)
theorem Qh:OpR X (cm .IsNot) (fun x y H Q=>y=.non/\Q (.bl (!decide (x=.non))) H):=by
 intro pins s σ H x y v u Q I rx ry h;obtain ⟨rfl,q⟩:=h;cases ry
 refine isnot_none_gen (wG I q ?_);cases x <;> first
  | (cases rx; rfl)
  | (obtain ⟨t,rfl⟩:=rx; rfl)
theorem OpR.or {f:Value->Value->Sem Value} {r r':R2} (h:OpR X f r) (h':OpR X f r'):OpR X f (fun x y H Q=>r x y H Q\/r' x y H Q):=by
 intro pins s σ H x y v u Q I rx ry q;rcases q with q | q
 ·exact h pins s σ H x y v u Q I rx ry q
 ·exact h' pins s σ H x y v u Q I rx ry q
theorem LV (b:Expr) {op:CmpOp} (h:op≠.In:=by decide) (h2:op≠.NotIn:=by decide):behindInMarks op b=false:=by
 have e1:(op == CmpOp.In)=false:=by cases op <;> first | rfl | exact absurd rfl h
 have e2:(op == CmpOp.NotIn)=false:=by cases op <;> first | rfl | exact absurd rfl h2
 cases b <;> simp [behindInMarks,e1,e2]
theorem Qi {op:CmpOp} {r:R2} (ho:OpR X (cm op) r) (ha:PE X a ta) (hb:PE X b tb) (hm:behindInMarks op b=false):PE X (.Compare a [op] [b] pos) (tOp r ta tb):=by
 intro pins s σ H Q I h;exact wpAny_Compare1 (TR ha hb I h fun v u s2 x y H2 I2 rx ry q=>ho pins s2 σ H2 x y v u Q I2 rx ry q) hm
def W6 (t:TE):TT:=fun σ H Q=>t σ H fun x H'=>∃ k,x=.bl k/\Q k H'
def LW (r r':R2) (ta tb tc:TE):TE:=fun σ H Q=>ta σ H fun x H1=>tb σ H1 fun y H2=>r x y H2 fun z H3=>∃ k,z=.bl k/\
 (if k=true then tc σ H3 fun w' H4=>r' y w' H4 Q else Q (.bl false) H3)
theorem LX {op op':CmpOp} {r r':R2} (ho:OpR X (cm op) r) (ho':OpR X (cm op') r') (ha:PE X a ta) (hb:PE X b tb) (hc:PE X c tc)
  (hm:lastMarks [op,op'] [b,c]=false:=by with_unfolding_all rfl):PT X (.Compare a [op,op'] [b,c] pos) (W6 (LW r r' ta tb tc)):=by
 intro pins s σ H Q I h;refine isTrue_chain (thn (ha pins s σ H _ I h) fun v s1 ⟨x,H1,I1,r1,q1⟩=>test_link (thn (hb pins s1 σ H1 _ I1 q1) fun u s2 ⟨y,H2,I2,r2,q2⟩=>
  thn (ho pins s2 σ H2 x y v u _ I2 r1 r2 q2) fun d s3 ⟨z,H3,I3,r3,k,e,q3⟩=>?_)) hm
 subst e;cases r3
 refine ij ?_;cases k with
 | false=>
  obtain ⟨k',e',q'⟩:=q3;cases e'
  exact ite_ff ⟨H3,I3,q'⟩
 | true=>
  refine ite_tt (test_last (thn (hc pins s3 σ H3 _ I3 q3) fun w' s4 ⟨z',H4,I4,r4,q4⟩=>thn (ho' pins s4 σ H4 y z' u w' _ I4 r2 r4 q4) fun d' s5 hz=>?_));obtain ⟨z2,H5,I5,r5,k2,e2,q5⟩:=hz;subst e2;cases r5
  exact ij ⟨H5,I5,q5⟩
def FL (K:ag) (x:V) (H:Hp) (k:Bool):Prop:=
 match x with
 | .non=>k=false
 | .bl b=>k=b
 | .int i=>k=(i != 0)
 | .str y=>y.length<=av/\k=((y.length:Int) != 0)
 | .byt y=>y.size<=av/\k=((y.size:Int) != 0)
 | .ref p=>(∃ xs,SqL K H p xs/\k=!xs.isEmpty)\/(∃ xs,SqT K H p xs/\k=!xs.isEmpty)\/∃ kvs,H p=some (.dK kvs)/\k=!kvs.isEmpty
 | _=>False
theorem FM {κ:Type} {kvs:List (κ×V)} {vs:List (κ×Value)} (r:KV kvs vs):(!vs.isEmpty)=!kvs.isEmpty:=by
 cases r <;> rfl
theorem wH {xs:List V} {its:List Value} (r:aM xs its):(!its.toArray.isEmpty)=!xs.isEmpty:=by
 cases r <;> simp
theorem nU:(av:Nat) < 2 ^ 63:=by rw [cz]; decide
theorem LY:Ya X (fun x H Q=>∃ k,FL X.K x H k/\Q k H):=by
 intro pins s σ H x v Q I rx h;obtain ⟨k,e,q⟩:=h;have hl:=nU;have hs:av=16777216:=cz;cases x with
 | non=>
  cases rx
  have e':k=false:=e;subst e';exact truthy_none ⟨H,I,q⟩
 | bl b=>
  cases rx
  have e':k=b:=e;subst e';exact ij ⟨H,I,q⟩
 | int i=>
  obtain ⟨t,rfl⟩:=rx;have e':k=(i != 0):=e;subst e';exact PySem.P.truthy_int ⟨H,I,q⟩
 | str y=>
  obtain ⟨t,rfl⟩:=rx;obtain ⟨hy,e'⟩:y.length<=av/\k=((y.length:Int) != 0):=e;subst e';exact PySem.P.truthy_str (by omega) ⟨H,I.tok _,q⟩
 | byt y=>
  obtain ⟨t,rfl⟩:=rx;obtain ⟨hy,e'⟩:y.size<=av/\k=((y.size:Int) != 0):=e;subst e';exact PySem.W.truthy_bytes (by omega) ⟨H,I.tok _,q⟩
 | ref p=>
  cases rx
  have e':(∃ xs,SqL X.K H p xs/\k=!xs.isEmpty)\/(∃ xs,SqT X.K H p xs/\k=!xs.isEmpty)\/∃ kvs,H p=some (.dK kvs)/\k=!kvs.isEmpty:=e;rcases e' with ⟨xs,hx,e'⟩ | ⟨xs,hx,e'⟩ | ⟨kvs,hx,e'⟩
  ·subst e';obtain ⟨its,r,pl,hz⟩:=I.list hx;have hlen:=r.length;exact wpAny_truthy_list pl.isList (by simp only [ar]; omega) ⟨H,I.tok _,by rw [wH r]; exact q⟩
  ·subst e';obtain ⟨its,r,pl,hz⟩:=I.tuple hx;have hlen:=r.length;exact truthy_tuple pl (by simp only [ar]; omega) ⟨H,I.tok _,by rw [wH r]; exact q⟩
  ·subst e';obtain ⟨hz,hS,vs,r,m⟩:kvs.length<=av/\(p == fq)=false/\∃ vs,KV kvs vs/\s.heap.DictOf (bO X.prog X.w) p vs:=I.hok p _ hx;have hlen:kvs.length=vs.length:=ff r;exact wpAny_truthy_dict hS m (by omega) ⟨H,I.tok _,by rw [FM r]; exact q⟩
 | _=>exact (show False from e).elim
theorem LZ (ha:PE X a ta) (he:∀ whole,isTrue a X.env whole=(do let v <- whole; standAt a.pos; holding [v] (truthy v))):
  PT X a (fun σ H Q=>ta σ H fun x H'=>∃ k,FL X.K x H' k/\Q k H'):=by
 intro pins s σ H Q I h;exact isTrue_plain (thn (ha pins s σ H _ I h) fun v s1 ⟨x,H1,I1,r1,q1⟩=>LY pins s1 σ H1 x v Q I1 r1 q1) (he _)
theorem FN:OpR X (fi .Add) (fun x y H Q=>∃ i j,x=.str i/\y=.str j/\i.length+j.length<=av/\Q (.str (i++j)) H):=by
 intro pins s σ H x y v u Q I rx ry h;obtain ⟨i,j,rfl,rfl,hz,q⟩:=h;obtain ⟨t,rfl⟩:=rx;obtain ⟨t',rfl⟩:=ry;exact add_str (fun t' tk=>⟨.str (i++j),H,I.tok _,⟨_,rfl⟩,q⟩) hz
theorem vals1 {x:V} {us:List Value} (r:aM [x] us):∃ u,us=[u]/\RelV x u:=by
 cases r with
 | cons r1 r2=>cases r2; exact ⟨_,rfl,r1⟩
theorem vals2 {x y:V} {us:List Value} (r:aM [x,y] us):∃ u w',us=[u,w']/\RelV x u/\RelV y w':=by
 cases r with
 | cons r1 r2=>
  cases r2 with
  | cons r3 r4=>cases r4; exact ⟨_,_,rfl,r1,r3⟩
theorem Ji (hc:X.calm=true):bR X (.builtin "max") (fun xs H Q=>∃ i j,xs=[.int i,.int j]/\Q (.int (if j > i then j else i)) H):=by
 intro pins s σ H xs us Q I r h;obtain ⟨i,j,rfl,q⟩:=h;obtain ⟨u,w',rfl,⟨t,rfl⟩,⟨t',rfl⟩⟩:=vals2 r;refine max_two_ints (I.ok.hd hc) fun h' tk k=>⟨_,H,I.kept k,?_,q⟩
 by_cases hj:j > i
 ·rw [if_pos hj,if_pos hj]; exact ⟨_,rfl⟩
 ·rw [if_neg hj,if_neg hj]; exact ⟨_,rfl⟩
theorem Jj (hc:X.calm=true):bR X (.builtin "min") (fun xs H Q=>∃ i j,xs=[.int i,.int j]/\Q (.int (if j < i then j else i)) H):=by
 intro pins s σ H xs us Q I r h;obtain ⟨i,j,rfl,q⟩:=h;obtain ⟨u,w',rfl,⟨t,rfl⟩,⟨t',rfl⟩⟩:=vals2 r;refine min_two_ints (I.ok.hd hc) fun h' tk k=>⟨_,H,I.kept k,?_,q⟩
 by_cases hj:j < i
 ·rw [if_pos hj,if_pos hj]; exact ⟨_,rfl⟩
 ·rw [if_neg hj,if_neg hj]; exact ⟨_,rfl⟩
def Yb (K:ag) (x:V) (H:Hp) (n:Nat):Prop:=
 match x with
 | .str y=>y.length<=av/\n=y.length
 | .byt y=>y.size<=av/\n=y.size
 | .ref p=>(∃ xs,SqL K H p xs/\n=xs.length)\/∃ xs,SqT K H p xs/\n=xs.length
 | _=>False
theorem M0:bR X (.builtin "len") (fun xs H Q=>∃ x n,xs=[x]/\Yb X.K x H n/\Q (.int n) H):=by
 intro pins s σ H xs us Q I r h;obtain ⟨x,n,rfl,e,q⟩:=h;obtain ⟨u,rfl,rx⟩:=vals1 r;have hl:=nU;have hs:av=16777216:=cz;cases x with
 | str y=>
  obtain ⟨t,rfl⟩:=rx;obtain ⟨hy,e'⟩:y.length<=av/\n=y.length:=e;subst e';exact len_str (by omega) ⟨.int _,H,I.tok _,⟨_,rfl⟩,q⟩
 | byt y=>
  obtain ⟨t,rfl⟩:=rx;obtain ⟨hy,e'⟩:y.size<=av/\n=y.size:=e;subst e';exact PySem.W.len_bytes (by omega) ⟨.int _,H,I.tok _,⟨_,rfl⟩,q⟩
 | ref p=>
  cases rx
  have e':(∃ xs,SqL X.K H p xs/\n=xs.length)\/∃ xs,SqT X.K H p xs/\n=xs.length:=e;rcases e' with ⟨xs,hx,e'⟩ | ⟨xs,hx,e'⟩
  ·subst e';obtain ⟨its,r',pl,hz⟩:=I.list hx;have hlen:=r'.length;exact Calls.call_len_list pl.isList (by simp only [ar]; omega) ⟨.int xs.length,H,I.tok _,⟨_,by simp only [ar]; rw [hlen]⟩,q⟩
  ·subst e';obtain ⟨its,r',pl,hz⟩:=I.tuple hx;have hlen:=r'.length;exact len_tuple pl (by simp only [ar]; omega) ⟨.int xs.length,H,I.tok _,⟨_,by simp only [ar]; rw [hlen]⟩,q⟩
 | _=>exact (show False from e).elim
end
structure U3 (h:Heap) (x dx C:Addr) (mA:Str->Option Value):Prop where
 obj:h.get? x=some (PySem.W.instObj C dx)
 ns:h.Ns1 dx mA
 ne:dx≠x
theorem Jk {h:Heap} {dx:Addr} {mA:Str->Option Value} (n:h.Ns1 dx mA):∃ od,h.get? dx=some od/\∀ name,PySem.W.lookIn name od=some (mA name):=by
 obtain ⟨o,es,ep,ho,hd,hk,_,hm⟩:=n;refine ⟨o,ho,fun name=>?_⟩;have e:=hm name;unfold nsFind findBy at e;rw [<- Array.find?_toList] at e;unfold PySem.W.lookIn;rw [hd];dsimp only;split
 ·rename_i y q;rw [q] at e;exact congrArg some e
 ·rename_i q;rw [q] at e;have a:es.toList.any (·.refKey)=false:=by
   rw [List.any_eq_false];intro y hy;obtain ⟨z,t,hkey⟩:=hk y (Array.mem_toList_iff.mp hy);simp [DictEntry.refKey,hkey]
  have a':¬ es.toList.any (·.refKey)=true:=by rw [a]; exact b9
  rw [if_neg a'];exact congrArg some e
theorem U3.look {h:Heap} {x dx C:Addr} {mA:Str->Option Value} (I:U3 h x dx C mA):∃ od,PySem.W.InstAt h x (PySem.W.instObj C dx) C (some od)/\∀ name,PySem.W.lookIn name od=some (mA name):=
 let ⟨od,ho,hl⟩:=Jk I.ns
 ⟨od,⟨I.obj,rfl,rfl,ho⟩,hl⟩
theorem sG.some_of {v:V} {o:Option Value} (r:sG (some v) o):∃ u,o=some u/\RelV v u:=by
 cases o with
 | none=>exact (show False from r).elim
 | some u=>exact ⟨u,rfl,r⟩
section
variable {P:Program} {w:World} {H H':Hp} {h h':Heap} {a C dx:Addr} {fs fs':List (Str×V)}
theorem Qj (hok:HOk P w H h) (e:H a=some (.ins C dx fs)):∃ mA,U3 h a dx C mA/\(∀ f,sG (fs.lookup f) (mA f))/\PySem.Within mA (fs.map (·.1))/\fs.length<=1000/\H dx=some (.own a):=by
 obtain ⟨d,z,ne,ob,mA,n,r,q⟩:=(show cB P w H h a (.ins C dx fs) from hok a _ e)
 exact ⟨mA,⟨ob,n,ne⟩,r,q,z,d⟩
end
structure Cls (K:ag) (C:Addr):Prop where
 pg:PySem.W.plainGet K C Str.empty=true
 hd:PySem.W.hasDictIn K C=true
 po:PySem.W.plainOver K C=true
 sa:m7 K (.ref C) "__setattr__" = some (some (.builtin "object.__setattr__"))
theorem Cls.get {K:ag} {C:Addr} (c:Cls K C) (f:Str):PySem.W.plainGet K C f=true:=c.pg
structure Con (K:ag) (C:Addr) (f:Str) (v:V) (u:Value):Prop where
 at_:m7 K (.ref C) f=some (some u)
 rel:RelV v u
 get:PySem.W.specialIn K u "__get__" = some none
 cp:PySem.W.copiedNames.contains f=false
structure YY (K:ag) (C:Addr) (m:Str) (f:Addr):Prop where
 at_:m7 K (.ref C) m=some (some (.ref f))
 fn:PySem.W.isFn K (.ref f)=true
 kp:bh K (.ref f)=true
section
variable {X:Cx} {pins:List (Addr×Obj)} {σ:St} {H:Hp} {s:Shared} {A:Around} {E:Value->Shared->Prop} {Q:Value->Shared->Prop} {c:Value} {b:Bool}
inductive sH (K:ag) (H:Hp):V->Value->Prop where
 | non:sH K H .non (.type "NoneType")
 | bl (x:Bool):sH K H (.bl x) (.type "bool")
 | int (i:Int):sH K H (.int i) (.type "int")
 | str (x:Str):sH K H (.str x) (.type "str")
 | flt (x:UInt64):sH K H (.flt x) (.type "float")
 | lst {a:Addr} {xs:List V} (e:H a=some (.lst xs)):sH K H (.ref a) (.type "list")
 | frz {a:Addr} {o:Obj} {xs:List V} (e:H a=some (.frz o (.lst xs))):sH K H (.ref a) (.type "list")
 | tup {a:Addr} {xs:List V} (e:H a=some (.tup xs)):sH K H (.ref a) (.type "tuple")
 | dK {a:Addr} {kvs:List (Key×V)} (e:H a=some (.dK kvs)):sH K H (.ref a) (.type "dict")
 | dT {a:Addr} {kvs:List (List Key×V)} (e:H a=some (.dT kvs)):sH K H (.ref a) (.type "dict")
 | ins {a C dx:Addr} {fs:List (Str×V)} (e:H a=some (.ins C dx fs)) (cl:Cls K C) (ha:m7 K (.ref C) "__class__" = some (some (.builtin "object.__class__")))
   (hn:PySem.W.specialIn K (.builtin "object.__class__") "__get__" = some (some (.builtin "getset_descriptor.__get__"))) (htk:PySem.W.takesIn K (.builtin "object.__class__")=some true)
   (hm:PySem.W.mroIn K C (.type "object")=some true):sH K H (.ref a) (.ref C)
theorem Jl {x:V} {u t:Value} (I:Inv X pins σ H s) (rx:RelV x u) (ty:sH X.K H x t) (e:PySem.W.kitOne X.K t c=some b) (h:∀ tk,Q (.bool b) { s with toks:=tk }):
  wpAny (model X.prog X.w) A (call (.builtin "isinstance") [u,c]) Q E s:=by
 cases ty with
 | non=>cases (show u=cu from rx); exact d8 PySem.W.kitx_none I.kIn ik e (fun z=>nomatch z) h
 | bl y=>cases (show u=Value.bool y from rx); exact d8 PySem.W.kitx_bool I.kIn ik e (fun z=>nomatch z) h
 | int i=>obtain ⟨t,q⟩:=(show ∃ t,u=Value.int i t from rx); cases q; exact d8 PySem.W.kitx_int I.kIn ik e (fun z=>nomatch z) h
 | str y=>obtain ⟨t,q⟩:=(show ∃ t,u=Value.str y t from rx); cases q; exact d8 PySem.W.kitx_str I.kIn ik e (fun z=>nomatch z) h
 | flt y=>obtain ⟨t,q⟩:=(show ∃ t,u=Value.float y t from rx); cases q; exact d8 PySem.W.kitx_float I.kIn ik e (fun z=>nomatch z) h
 | @lst a xs ea=>
  cases (show u=c9 a from rx)
  obtain ⟨_,_,n,_,h1⟩:=(show cB X.prog X.w H s.heap a (.lst xs) from I.hok a _ ea)
  exact d8 PySem.W.kitx_list I.kIn ⟨_,h1,rfl⟩ e (fun z=>nomatch z) h
 | @frz a ob xs ea=>
  cases (show u=c9 a from rx)
  obtain ⟨_,_,_,n,_,h1⟩:=(show cB X.prog X.w H s.heap a (.frz ob (.lst xs)) from I.hok a _ ea)
  exact d8 PySem.W.kitx_list I.kIn ⟨_,h1,rfl⟩ e (fun z=>nomatch z) h
 | @tup a xs ea=>
  cases (show u=c9 a from rx)
  obtain ⟨_,_,_,p⟩:=(show cB X.prog X.w H s.heap a (.tup xs) from I.hok a _ ea)
  obtain ⟨o,h1,h2,_⟩:=p;exact d8 PySem.W.kitx_tuple I.kIn ⟨o,h1,h2⟩ e (fun z=>nomatch z) h
 | @dK a kvs ea=>
  cases (show u=c9 a from rx)
  obtain ⟨_,_,vs,_,p⟩:=(show cB X.prog X.w H s.heap a (.dK kvs) from I.hok a _ ea)
  obtain ⟨o,es,ep,h1,h2,_⟩:=p;exact d8 PySem.W.kitx_dict I.kIn ⟨o,h1,h2.1⟩ e (fun z=>nomatch z) h
 | @dT a kvs ea=>
  cases (show u=c9 a from rx)
  obtain ⟨_,_,xs,_,o,es,ep,h1,h2,_⟩:=(show cB X.prog X.w H s.heap a (.dT kvs) from I.hok a _ ea)
  exact d8 PySem.W.kitx_dict I.kIn ⟨o,h1,h2.1⟩ e (fun z=>nomatch z) h
 | @ins a C dx fs ea cl ha hn htk hm=>
  cases (show u=c9 a from rx)
  obtain ⟨mA,O,_⟩:=Qj I.hok ea;obtain ⟨od,J,_⟩:=O.look;exact d8 (PySem.W.kitx_own (cl.get _) cl.hd ha hn htk hm) I.kIn J e (fun z=>nomatch z) h
end
structure fZ (k:Nat) (A:Around):Prop where
 hd:A.handled=none
 dp:A.depth+3*k+5 < recursionLimit
 un:A.units+16*k+200 < cLine
theorem fZ.mono {j k:Nat} {A:Around} (r:fZ k A) (h:j<=k):fZ j A:=⟨r.hd,by have:=r.dp; omega,by have:=r.un; omega⟩
theorem fZ.deeper {k:Nat} {A:Around} (r:fZ (k+1) A) (env:Env):fZ k (A.deeper env):=
 ⟨r.hd,by have:=r.dp; show A.depth+1+3*k+5 < _; omega,by have:=r.un; show A.units+3+16*k+200 < _; omega⟩
theorem fZ.in1 {k:Nat} {A:Around} (r:fZ (k+1) A):fZ k A.in1:=
 ⟨r.hd,by have:=r.dp; show A.depth+3*k+5 < _; omega,by have:=r.un; show A.units+1+16*k+200 < _; omega⟩
theorem fZ.depth {k:Nat} {A:Around} (r:fZ k A):A.depth < recursionLimit:=by have:=r.dp; omega
theorem fZ.units {k:Nat} {A:Around} (r:fZ k A):A.units+64 < cLine:=by have:=r.un; omega
def Qk:TA:=fun _ H Q=>Q [] H
def Ic (ta:TE) (tr:TA):TA:=fun σ H Q=>ta σ H fun x H1=>tr σ H1 fun xs H2=>Q (x :: xs) H2
section
variable {X:Cx} {e:Expr} {es:List Expr} {te:TE} {t:TA} {pos:Pos}
theorem wI:PA X [] Qk:=fun _ _ _ _ H Q I h=>Calls.spliced_nil ⟨[],H,I,.nil,h⟩
theorem pH (ha:PE X e te) (hr:PA X es t) (hs:b8 (e :: es) X.env=(false,eval e X.env) :: b8 es X.env:=by rfl):PA X (e :: es) (Ic te t):=by
 intro pos pins s σ H Q I h;rw [hs]
 show wpAny _ _ (spliced ((false,eval e X.env) :: backTo pos (b8 es X.env))) _ _ s
 refine Calls.spliced_cons (thn (ha pins s σ H _ I h) fun u s1 hz=>?_);obtain ⟨x,H1,I1,r1,q1⟩:=hz;exact thn (hr pos pins s1 σ H1 _ I1 q1) fun us s2 ⟨xs,H2,I2,r2,q2⟩=>⟨x :: xs,H2,I2,.cons r1 r2,q2⟩
def Yc (t:TA):TE:=fun σ H Q=>t σ H fun xs H1=>xs.length<=av/\∀ p,H1 p=none->Q (.ref p) (upd H1 p (.tup xs))
def Yd (t:TA):TE:=fun σ H Q=>t σ H fun xs H1=>xs.length<=av/\∀ p,H1 p=none->Q (.ref p) (upd H1 p (.lst xs))
theorem U4 {x1} (h:PA X es t):PE X (.Tuple es x1 pos) (Yc t):=by
 intro pins s σ H Q I hq;refine wpAny_Tuple_spliced (thn (h pos pins s σ H _ I hq) fun us s1 ⟨xs,H1,I1,r,z,q⟩=>⟨by rw [<- r.length]; exact z,?_⟩);have hf:H1 s1.heap.objs.size=none:=I1.hok.fresh (ao _);refine ⟨.ref s1.heap.objs.size,upd H1 s1.heap.objs.size (.tup xs),I1.laid (t':=s1.toks) (fun b u e=>ah _ e) (ao _) ?_,rfl,q _ hf⟩;exact ⟨z,us,r,⟨_,ay _ rfl,rfl,⟨_,rfl⟩,rfl⟩⟩
theorem U5 (h:PA X es t):PE X (.List es pos) (Yd t):=by
 intro pins s σ H Q I hq;refine wpAny_List_spliced (thn (h pos pins s σ H _ I hq) fun us s1 ⟨xs,H1,I1,r,z,q⟩=>⟨by rw [<- r.length]; exact z,?_⟩);have hf:H1 s1.heap.objs.size=none:=I1.hok.fresh (ao _);refine ⟨.ref s1.heap.objs.size,upd H1 s1.heap.objs.size (.lst xs),I1.laid (t':=s1.toks) (fun b u e=>ah _ e) (ao _) ?_,rfl,q _ hf⟩;exact ⟨z,us,0,r,ay _ rfl⟩
end
abbrev Sp:=List V->Hp->VK->XK->Prop
abbrev CXT:=List Env->Hp->Shared->XK->Value->Shared->Prop
structure FO (P:Program) (w:World) (K:ag) (mg:Str->Option Value) (base:Heap) (A:Around) (outer:List Env) (s:Shared) (H:Hp):Prop where
 frames:A.frames=some outer
 mod:Mod K mg base
 bs:∀ b o,base.get? b=some o->s.heap.get? b=some o/\H b=none
 bsz:base.objs.size<=s.heap.objs.size
 funs:s.heap.FunFrames base outer
 frf:∀ b∈frs outer,H b=none
 hok:HOk P w H s.heap
 bare:AllBare s.gens
def CE (outer:List Env) (P:Program) (w:World) (H:Hp) (s:Shared) (Q:VK) (u:Value) (s':Shared):Prop:=
 ∃ v H',s'.os=s.os/\AllBare s'.gens/\Un (frs outer) [] H H' s.heap s'.heap/\HOk P w H' s'.heap/\RelV v u/\Q v H'
def CR (CX:CXT) (outer:List Env) (P:Program) (w:World) (H:Hp) (s:Shared) (Q:VK) (E:XK) (r:Result) (s':Shared):Prop:=
 match r with
 | .ok (.ret u)=>CE outer P w H s Q u s'
 | .ok _=>False
 | .error e=>CX outer H s E e s'
structure aU (P:Program) (w:World) (K:ag) (mg:Str->Option Value) (base:Heap) (CX:CXT) (k:Nat) (f:Addr) (fd:cy) (ps:List Str) (sp:Sp):Prop where
 len:∀ vs H Q E,sp vs H Q E->vs.length=ps.length
 run:∀ (A:Around) (outer:List Env) (s:Shared) (H:Hp) (args:Args) (us:List Value) (vs:List V) (Q:VK) (E:XK),fZ k A->FO P w K mg base A outer s H->BindsTo s fd args (ps.zip us)->aM vs us->sp vs H Q E->
  codeAny (model P w) A (.call (.ref f) args) (CR CX outer P w H s Q E) s
theorem aU.imp {P:Program} {w:World} {K:ag} {mg:Str->Option Value} {base:Heap} {CX:CXT} {k:Nat} {f:Addr} {fd:cy} {ps:List Str} {sp sp':Sp} (F:aU P w K mg base CX k f fd ps sp)
  (h:∀ vs H Q E,sp' vs H Q E->sp vs H Q E):aU P w K mg base CX k f fd ps sp':=
 ⟨fun vs H Q E q=>F.len vs H Q E (h _ _ _ _ q),fun A outer s H args us vs Q E hr he hb hv hs=>F.run A outer s H args us vs Q E hr he hb hv (h _ _ _ _ hs)⟩
theorem FO.in1 {P:Program} {w:World} {K:ag} {mg:Str->Option Value} {base:Heap} {A:Around} {outer:List Env} {s:Shared} {H:Hp} (e:FO P w K mg base A outer s H):
  FO P w K mg base A.in1 outer s H:=⟨e.frames,e.mod,e.bs,e.bsz,e.funs,e.frf,e.hok,e.bare⟩
section
variable {X:Cx} {pins:List (Addr×Obj)} {σ:St} {H:Hp} {s s':Shared}
theorem Inv.env0 (I:Inv X pins σ H s):FO X.prog X.w X.K X.mg X.base X.A X.stack s H:=
 ⟨I.ok.frames,I.ok.mod,I.bs,df I.ok.bsz I.sz,I.stack,I.stkFree,I.hok,I.bare⟩
theorem Inv.after {Q:VK} {u:Value} (I:Inv X pins σ H s) (h:CE X.stack X.prog X.w H s Q u s'):EP X pins σ Q u s':=by
 obtain ⟨v,H',os,bare,un,hok,r,q⟩:=h;obtain ⟨hh,g,d,t,os'⟩:=s';obtain rfl:os'=s.os:=os;exact ⟨v,H',I.call (h':=hh) (g':=g) (d':=d) (t':=t) (ch:=[]) un hok bare (fun b z=>absurd z (by simp)),r,q⟩
end
def T7 (sp:Sp) (dvs:List V) (E:XK) (t:TA):TE:=fun σ H Q=>t σ H fun vs H1=>sp (vs++dvs) H1 Q E
def Binds (K:ag) (fd:cy) (ps:List Str) (ds:List Value):Prop:=
 ∀ (s:Shared) (us:List Value),K.In s.heap->(us++ds).length=ps.length->BindsTo s fd ⟨us,[]⟩ (ps.zip (us++ds))
theorem Binds.all {K:ag} {fd:cy} {ps:List Str} (h:∀ us:List Value,us.length=ps.length->bindArgs fd ⟨us,[]⟩=pure (ps.zip us)):Binds K fd ps []:=fun s us _ hl=>by
 rw [je] at hl ⊢;exact .of_eq (h us hl)
def FP (CX:CXT) (X:Cx) (E:XK):Prop:=∀ (pins:List (Addr×Obj)) (σ:St) (H:Hp) (s:Shared) (e:Value) (s':Shared),Inv X pins σ H s->CX X.stack H s E e s'->X.xe e s'
section
variable {X:Cx} {CX:CXT} {k:Nat} {f C:Addr} {fd:cy} {ps:List Str} {sp:Sp} {dvs:List V} {ds:List Value} {E:XK} {x m:Str} {p pos apos:Pos} {e o:Expr} {es:List Expr} {ta:TE} {t:TA}
theorem U6 {pins:List (Addr×Obj)} {σ:St} {H:Hp} {s:Shared} {Q:VK} {us:List Value} {vs:List V} (F:aU X.prog X.w X.K X.mg X.base CX k f fd ps sp) (hr:fZ k X.A) (hb:Binds X.K fd ps ds) (hd:aM dvs ds) (hx:FP CX X E)
  (I:Inv X pins σ H s) (r:aM vs us) (h:sp (vs++dvs) H Q E):wpAny (model X.prog X.w) X.A (call (.ref f) us) (EP X pins σ Q) X.xe s:=by
 have r2:aM (vs++dvs) (us++ds):=r.append hd;have hl:(us++ds).length=ps.length:=by rw [<- r2.length]; exact F.len _ _ _ _ h
 refine wpAny_call (codeAny_mono (F.run X.A X.stack s H ⟨us,[]⟩ (us++ds) (vs++dvs) Q E hr I.env0 (hb s us I.kIn hl) r2 h) fun r s' hq=>?_);cases r with
 | error e=>exact hx pins σ H s e s' I hq
 | ok fl=>
  cases fl with
  | ret u=>exact I.after hq
  | next=>exact fu hq
  | brk=>exact fu hq
  | cont=>exact fu hq
theorem Ql (F:aU X.prog X.w X.K X.mg X.base CX k f fd ps sp) (hr:fZ k X.A) (hg:Gl X x) (hm:X.mg x=some (.ref f)) (hk:bh X.K (.ref f)=true) (hb:Binds X.K fd ps ds) (hd:aM dvs ds) (hx:FP CX X E)
  (ha:PA X (e :: es) t) (hdb:(x == ("__debug__" : Str))=false:=by decide) (he:b8 (e :: es) X.env=(false,eval e X.env) :: b8 es X.env:=by rfl) (hpl:(backTo pos (b8 es X.env)).any (·.1)=false:=by rfl):
  PE X (.Call (.Name x p) (e :: es) [] pos) (T7 sp dvs E t):=by
 intro pins s σ H Q I h;refine iw (pG I hg hm ?_ hdb);refine PySem.W.callWith_K (h₀:=X.base) I.ok.mod.kin hk (thn (ha pos pins s σ H _ I h) fun us s1 ⟨vs,H1,I1,r,q⟩=>⟨I1.kIn,?_⟩) he hpl;exact U6 F hr hb hd hx I1 r q
structure Mk (K:ag) (C f:Addr):Prop where
 makes:PySem.W.makesIn K C=true
 init:m7 K (.ref C) "__init__" = some (some (.ref f))
 fn:PySem.W.isFn K (.ref f)=true
 kp:bh K (.ref C)=true
end
section
variable {X:Cx} {CX:CXT} {k:Nat} {f C:Addr} {fd:cy} {ps ks:List Str} {sp:Sp} {E:XK} {x m:Str} {p pos apos kpos:Pos} {e o:Expr} {es:List Expr} {kws:List Keyword} {te ta:TE} {t tk:TA} {nm:Option Str}
structure Ye (K:ag) (fd:cy) (ps ks:List Str) (g:List Value->List Value->List Value) (gV:List V->List V->List V):Prop where
 to:∀ (s:Shared) (us ws:List Value),K.In s.heap->(g us ws).length=ps.length->BindsTo s fd ⟨us,ks.zip ws⟩ (ps.zip (g us ws))
 rel:∀ {vs:List V} {us:List Value} {zs:List V} {ws:List Value},aM vs us->aM zs ws->aM (gV vs zs) (g us ws)
variable {g:List Value->List Value->List Value} {gV:List V->List V->List V}
end
structure aW (N P:List Str) (sc:Scope):Prop where
 kind:sc.kind=.function
 co:sc.isCoroutine=false
 gen:sc.isGenerator=false
 nd:N.Nodup
 pre:N.take P.length=P
 par:∀ x∈P,sc.names.lookup x=some .local\/sc.names.lookup x=some .cell
 nofree:∀ y∈sc.names,y.2≠.free
theorem AE {kindOf:Str->Option k7} {x:Str}:∀ {binds:List (Str×Value)} {m:Str->Option Value},(∀ v,(x,v)∉binds)->bindL kindOf binds m x=m x
 | [],_,_=>rfl
 | (n,v) :: r,m,h=>by
  unfold bindL;rw [AE fun w hw=>h w (aj _ hw)];split
  ·have:x≠n:=by rintro rfl; exact h v ak
   simp [this]
  ·rfl
theorem AF {kindOf:Str->Option k7} {x:Str}:∀ {binds:List (Str×Value)} {m:Str->Option Value},(∀ v,(x,v)∉binds)->bindC kindOf binds m x=m x
 | [],_,_=>rfl
 | (n,v) :: r,m,h=>by
  unfold bindC;rw [AF fun w hw=>h w (aj _ hw)];split
  ·rfl
  ·have:x≠n:=by rintro rfl; exact h v ak
   simp [this]
theorem AG {kindOf:Str->Option k7} {x:Str} {v:Value}:∀ {P:List Str} {vs:List Value} {i:Nat} {m:Str->Option Value},P.Nodup->P[i]?=some x->vs[i]?=some v->kindOf x=some .local->
  bindL kindOf (P.zip vs) m x=some v
 | [],_,_,_,_,h,_,_=>by simp at h
 | _ :: _,[],_,_,_,_,h,_=>by simp at h
 | p :: P,w :: vs,0,m,nd,h1,h2,hk=>by
  simp at h1 h2; subst h1; subst h2
  show bindL kindOf ((p,w) :: P.zip vs) m p=_
  unfold bindL;rw [AE fun v hv=>(ir.mp nd).1 (List.of_mem_zip hv).1,if_pos hk];simp
 | p :: P,w :: vs,i+1,m,nd,h1,h2,hk=>by
  show bindL kindOf ((p,w) :: P.zip vs) m x=_
  unfold bindL;exact AG (i:=i) (ir.mp nd).2 (by simpa using h1) (by simpa using h2) hk
theorem AH {kindOf:Str->Option k7} {x:Str} {v:Value}:∀ {P:List Str} {vs:List Value} {i:Nat} {m:Str->Option Value},P.Nodup->P[i]?=some x->vs[i]?=some v->kindOf x≠some .local->
  bindC kindOf (P.zip vs) m x=some v
 | [],_,_,_,_,h,_,_=>by simp at h
 | _ :: _,[],_,_,_,_,h,_=>by simp at h
 | p :: P,w :: vs,0,m,nd,h1,h2,hk=>by
  simp at h1 h2; subst h1; subst h2
  show bindC kindOf ((p,w) :: P.zip vs) m p=_
  unfold bindC;rw [AF fun v hv=>(ir.mp nd).1 (List.of_mem_zip hv).1,if_neg hk];simp
 | p :: P,w :: vs,i+1,m,nd,h1,h2,hk=>by
  show bindC kindOf ((p,w) :: P.zip vs) m x=_
  unfold bindC;exact AH (i:=i) (ir.mp nd).2 (by simpa using h1) (by simpa using h2) hk
def start (N:List Str) (vs:List V):St:=vs.map some++cx (N.length - vs.length) none
def FQ (CX:CXT) (P:Program) (w:World) (K:ag) (mg:Str->Option Value) (base:Heap) (N:List Str) (qual:Str) (scope:Scope) (f:Addr) (cd:Value) (A:Around) (outer:List Env) (s:Shared) (H:Hp) (E:XK):Cx where
 prog:=P
 w:=w
 K:=K
 mg:=mg
 base:=base
 A:=A.deeper (envOfC qual scope s.heap.objs.size f cd)
 N:=N
 s₀:=s
 H₀:=H
 env:=envOfC qual scope s.heap.objs.size f cd
 outer:=outer
 stack:=envOfC qual scope s.heap.objs.size f cd :: outer
 ex:=[]
 calm:=true
 fn:=fun _=>true
 pn:=[]
 xe:=fun e s'=>wpAny (model P w) (A.deeper (envOfC qual scope s.heap.objs.size f cd)) (leaving (envOfC qual scope s.heap.objs.size f cd) e) (fun _ s''=>CX outer H s E e s'') (fun e' s''=>CX outer H s E e' s'') s'
theorem DB {sc:Scope} {n:Nat} {x:Str} (h:sc.names.lookup x=some .cell):∃ c,(d9 n sc.names []).lookup x=some c:=by
 have q:=PySem.W.cellsFrom_some sc.names n [] (.inl h);exact j5.mp q
theorem Jm {CX:CXT} {P:Program} {w:World} {K:ag} {mg:Str->Option Value} {base:Heap} {N ps:List Str} {qual:Str} {scope:Scope} {f:Addr} {cd:Value} {A:Around} {outer:List Env} {s s1:Shared} {H:Hp} {E:XK} {us:List Value} {vs:List V}
  (S:aW N ps scope) (hd:A.handled=none) (e0:FO P w K mg base A outer s H) (hl:vs.length=ps.length) (r:aM vs us)
  (x:InCallC s s.heap.objs.size (bindL (envOfC qual scope s.heap.objs.size f cd).kindOf (ps.zip us) fun _=>none) (d9 (s.heap.objs.size+1) scope.names []) (bindC (envOfC qual scope s.heap.objs.size f cd).kindOf (ps.zip us) fun _=>none) s1):
  Inv (FQ CX P w K mg base N qual scope f cd A outer s H E) [] (start N vs) H s1:=by
 have hpl:ps.length<=N.length:=by have:=congrArg List.length S.pre; rw [ic] at this; omega
 obtain ⟨h1,tk,rfl,hk⟩:=x.done;have noA:∀ b:Addr,b∉(FQ CX P w K mg base N qual scope f cd A outer s H E).ex:=fun b z=>absurd (show b∈([]:List Addr) from z) (by simp)
 refine ⟨⟨e0.mod,S.kind,rfl,rfl,ao _,fun y z c h1 h2=>?_,fun y hy=>?_,fun y c _ h=>?_,fun _=>hd,Around.frames_deeper e0.frames,.inr ⟨rfl,rfl⟩,fun b z=>absurd z (noA b),e0.bs,e0.bsz,fun b _ _=>noA b,fun b z=>absurd z (noA b),e0.funs,e0.frf⟩,
  rfl,e0.bare,Un.kept hk,⟨_,x.toInCall.ns,fun i y v h1 h2 h3=>?_⟩,fun y c h=>⟨_,x.cell y c h⟩,e0.hok.fresh (ao _),fun y c h=>?_,fun p hp=>absurd (show p∈([]:List (Addr×Obj)) from hp) (by simp),e0.hok.kept hk,?_⟩
 ·exact name_of_addr x.apart (kh h1) (kh h2)
 ·have hy:scope.names.lookup y=some .cell\/scope.names.lookup y=some .free:=hy;rcases hy with hy | hy
  ·exact DB hy
  ·exact absurd rfl (S.nofree _ (kh hy))
 ·exact f6 (x.above y c (kh h))
 ·have hi:i < vs.length:=by
   unfold start at h2
   by_cases hi:i < vs.length
   ·exact hi
   ·rw [fg (by simpa using hi)] at h2
    rw [List.getElem?_replicate] at h2;split at h2 <;> cases h2
  have ha:vs[i]?=some v:=by
   unfold start at h2;rw [dm (by simpa using hi),aq] at h2
   cases e:vs[i]? with
   | none=>rw [e] at h2; cases h2
   | some a=>rw [e] at h2; cases h2; rfl
  obtain ⟨u,hu,rv⟩:=r.get ha;have hp:ps[i]?=some y:=by
   rw [<- S.pre,List.getElem?_take_of_lt (by omega)]; exact h1
  have ndP:ps.Nodup:=by rw [<- S.pre]; exact S.nd.sublist (List.take_sublist _ _)
  refine ⟨u,rv,?_⟩;rcases S.par y (cf hp) with k | k
  ·exact .inl ⟨k,AG ndP hp hu k⟩
  ·obtain ⟨c,e⟩:=DB (n:=s.heap.objs.size+1) k;refine .inr ⟨.inl k,c,e,?_⟩;have q:=x.cell y c e;rw [AH ndP hp hu (by show scope.names.lookup y≠_; rw [k]; decide)] at q;exact q
 ·exact e0.hok.fresh (f6 (x.above y c (kh h)))
 ·unfold start
  show _=N.length
  rw [fj,ae,List.length_replicate];omega
theorem W7 {CX:CXT} {P:Program} {w:World} {K:ag} {mg:Str->Option Value} {base:Heap} {k:Nat} {f:Addr} {name qual:Str} {params:Arguments} {body:List Stmt} {scope:Scope} {dV kV doc pm cdv ct oc:Value} {an od:Option Addr}
  {osl:Array (Option Value)} {N ps:List Str} {sp:Sp} (lk:K.lookup f=some ⟨oc,od,.func (bz name qual params body scope dV kV doc pm an cdv ct),osl⟩) (hcd:bq K cdv qual=true) (S:aW N ps scope)
  (len:∀ vs H Q E,sp vs H Q E->vs.length=ps.length)
  (hbody:∀ (A:Around) (outer:List Env) (s:Shared) (H:Hp) (vs:List V) (Q:VK) (E:XK),fZ k (A.deeper (envOfC qual scope s.heap.objs.size f cdv))->sp vs H Q E->
   ∃ t,PSs (FQ CX P w K mg base N qual scope f cdv A outer s H E) body t/\t { nx:=fun _ H'=>Q .non H',rt:=Q } (start N vs) H):
  aU P w K mg base CX (k+1) f (bz name qual params body scope dV kV doc pm an cdv ct) ps sp:=by
 refine ⟨len,fun A outer s H args us vs Q E hr e0 hb r hsp=>?_⟩;have hl:=len _ _ _ _ hsp;have KX:K.In s.heap:=e0.mod.kin.keeps fun b o e=>(e0.bs b o e).1;have lim:s.heap.NoLimit:=e0.mod.nolimit.keeps fun b o e=>(e0.bs b o e).1;have hkind:∀ y∈ps.zip us,scope.names.lookup y.1=some .local\/(scope.names.lookup y.1=some .cell/\((d9 (s.heap.objs.size+1) scope.names []).lookup y.1).isSome=true):=fun ⟨n,v⟩ hy=>by
  rcases S.par n (List.of_mem_zip hy).1 with q | q
  ·exact .inl q
  ·exact .inr ⟨q,PySem.W.cellsFrom_some _ _ _ (.inl q)⟩
 refine codeAny_call_function hr.depth (KX _ _ lk) rfl S.co S.gen rfl (PySem.W.codeRec_of KX hcd) (hb _ _ _ _ ?_);refine wpAny_newFunctionEnv_cells S.kind hkind fun env he s1 x=>?_;subst he;refine ⟨lim.keeps x.toInCall.keep,codeAny_func ?_⟩;obtain ⟨t,ht,hq⟩:=hbody A outer s H vs Q E (hr.deeper _) hsp;have I:Inv (FQ CX P w K mg base N qual scope f cdv A outer s H E) [] (start N vs) H s1:=Jm S hr.hd e0 hl r x;refine ia (ht [] s1 (start N vs) H _ I hq) (fun fl s' hs=>?_) fun e s' hs=>hs;have fin:∀ {σ':St} {H':Hp} {v:V} {u:Value},Inv (FQ CX P w K mg base N qual scope f cdv A outer s H E) [] σ' H' s'->RelV v u->Q v H'->CE outer P w H s Q u s':=
  fun {σ' H' v u} J rv q=>⟨v,H',J.os,J.bare,J.base,J.hok,rv,q⟩
 cases fl with
 | ret u=>
  obtain ⟨v,σ',H',J,rv,q⟩:=hs;exact fin J rv q
 | next=>
  obtain ⟨σ',H',J,q⟩:=hs;exact fin (v:=V.non) (u:=cu) J rfl q
 | brk=>
  obtain ⟨_,_,_,q⟩:=hs;exact fu q
 | cont=>
  obtain ⟨_,_,_,q⟩:=hs;exact fu q
section
variable {X:Cx} {x:Str} {p pos:Pos} {e:Expr} {es:List Expr} {t:TA} {id T:String} {r:List V->Hp->VK->Prop}
def tCB (r:List V->Hp->VK->Prop) (t:TA):TE:=fun σ H Q=>t σ H fun vs H1=>r vs H1 Q
theorem M3 (hc:bR X (.builtin id) r) (hg:Gl X x) (hm:X.mg x=none) (hv:kc x=some (.builtin id)) (ha:PA X (e :: es) t) (hn:x≠"__name__" := by decide) (hdb:(x == ("__debug__" : Str))=false:=by decide)
  (he:b8 (e :: es) X.env=(false,eval e X.env) :: b8 es X.env:=by rfl) (hpl:(backTo pos (b8 es X.env)).any (·.1)=false:=by rfl):PE X (.Call (.Name x p) (e :: es) [] pos) (tCB r t):=by
 intro pins s σ H Q I h;refine iw (kR I hg hm hv ?_ hn hdb);exact PyProof.Rows.callWith_builtin1 (thn (ha pos pins s σ H _ I h) fun us s1 ⟨vs,H1,I1,r1,q1⟩=>hc pins s1 σ H1 vs us Q I1 r1 q1) he hpl
theorem Jn (hc:bR X (.type T) r) (hg:Gl X x) (hm:X.mg x=none) (hv:kc x=some (.type T)) (ha:PA X (e :: es) t) (hn:x≠"__name__" := by decide) (hdb:(x == ("__debug__" : Str))=false:=by decide)
  (he:b8 (e :: es) X.env=(false,eval e X.env) :: b8 es X.env:=by rfl) (hpl:(backTo pos (b8 es X.env)).any (·.1)=false:=by rfl):PE X (.Call (.Name x p) (e :: es) [] pos) (tCB r t):=by
 intro pins s σ H Q I h;refine iw (kR I hg hm hv ?_ hn hdb);exact PyProof.Rows.callWith_type1 (thn (ha pos pins s σ H _ I h) fun us s1 ⟨vs,H1,I1,r1,q1⟩=>hc pins s1 σ H1 vs us Q I1 r1 q1) he hpl
end
end L2
namespace HT
open PySem PyProof.Rows
section
variable {prog:Program} {w:World} {A:Around} {E:Value->Shared->Prop} {s:Shared}
theorem cat_tup {t b:Addr} {vs ws:List Value} {Q:Value->Shared->Prop} (ht:IsTup s.heap t vs.toArray) (hb:IsTup s.heap b ws.toArray) (hv:vs≠[])
  (h1:ws=[]->Q (.ref t) s) (h2:ws≠[]->Q (.ref s.heap.objs.size) { s with heap:=s.heap.push { cls:=.type "tuple",data:=.seq (vs++ws).toArray } })
  (hsz:vs.length+ws.length<=av):wpAny (model prog w) A (fi .Add (.ref t) (.ref b)) Q E s:=by
 obtain ⟨⟨cls,dd,data,sl⟩,ho,hc,n,hd⟩:=id ht;obtain ⟨⟨cls2,dd2,data2,sl2⟩,ho2,hc2,n2,hd2⟩:=id hb;simp only at hc hd hc2 hd2;subst hc hd hc2 hd2;have e:vs.toArray++ws.toArray=(vs++ws).toArray:=by simp
 by_cases hw:ws=[]
 ·exact concat_meets ⟨_,ho,rfl⟩ ⟨_,ho2,rfl⟩ noFill_tuple_add seq_tuple_add PySem.F.slot_tuple_add PySem.F.entry_tuple_add (PySem.F.args_tuple_add_2 _ _)
   (tuple_addW1 t b vs.toArray ws.toArray n n2 dd dd2 sl sl2 (by simpa using hv) (by simp [hw])) ⟨ho,ho2,h1 hw⟩
 ·refine concat_meets ⟨_,ho,rfl⟩ ⟨_,ho2,rfl⟩ noFill_tuple_add seq_tuple_add PySem.F.slot_tuple_add PySem.F.entry_tuple_add (PySem.F.args_tuple_add_2 _ _)
   (tuple_addW2 t b vs.toArray ws.toArray n n2 dd dd2 sl sl2 (by simpa using hv) (by simpa using hw) (by rw [ar,ar]; exact hsz)) ⟨ho,ho2,?_⟩
  rw [e];exact h2 hw
def sIx (n d:Nat):Option Int->Nat
 | none=>d
 | some v=>if v < 0 then (v+(n:Int)).toNat else min v.toNat n
theorem BS (n d k:Nat):sIx n d (some (k:Int))=min k n:=by
 show (if (k:Int) < 0 then ((k:Int)+(n:Int)).toNat else min (k:Int).toNat n)=min k n
 rw [if_neg (by omega),i9]
theorem U7 (n d:Nat) (hd:d<=n) (o:Option Int):sIx n d o<=n:=by
 cases o with
 | none=>exact hd
 | some v=>
  show (if v < 0 then (v+(n:Int)).toNat else min v.toNat n)<=n
  by_cases hv:v < 0
  ·rw [if_pos hv]; omega
  ·rw [if_neg hv]; exact Nat.min_le_right _ _
theorem Ie (v:Int) (n d:Nat):(if v < 0 then max (v+(n:Int)) 0 else min v (n:Int))=((sIx n d (some v):Nat):Int):=by
 show (if v < 0 then max (v+(n:Int)) 0 else min v (n:Int))=(((if v < 0 then (v+(n:Int)).toNat else min v.toNat n):Nat):Int)
 by_cases hv:v < 0
 ·simp only [if_pos hv]; omega
 ·simp only [if_neg hv]; omega
theorem FS (lo hi:Option Int) (n:Nat):m8 lo hi 1 (n:Int)=(((sIx n 0 lo:Nat):Int),((sIx n n hi:Nat):Int)):=by
 have h1:¬ ((1:Int) < 0):=by omega
 unfold m8;simp only [h1,if_false];refine Prod.ext ?_ ?_
 ·cases lo with
  | none=>rfl
  | some v=>exact Ie v n 0
 ·cases hi with
  | none=>rfl
  | some v=>exact Ie v n n
theorem FT (i j:Nat):jy (i:Int) (j:Int) 1=j - i:=by
 unfold jy;have h1:(1:Int) > 0:=by omega
 simp only [h1,if_true,Int.ediv_one];split <;> omega
theorem wJ {v:Value} {o:Option Int} {Q:Option Int->Shared->Prop} (p:IsPart v o) (h:Q o s):wpAny (model prog w) A (Builtin.Slice.slicePartIndex v) Q E s:=by
 cases p with
 | none=>exact slicePart_none h
 | int i t=>exact slicePart_int h
theorem sliceApplied_gen {sl:Addr} {vl vu:Value} {lo hi:Option Int} {n:Nat} {Q:Int×Int×Nat->Shared->Prop} (hs:s.heap.IsSliceOf sl vl vu .none) (pl:IsPart vl lo) (pu:IsPart vu hi)
  (h:Q (((sIx n 0 lo:Nat):Int),1,sIx n n hi - sIx n 0 lo) s):wpAny (model prog w) A (Builtin.Slice.sliceApplied (.ref sl) (pure (n:Int))) Q E s:=by
 obtain ⟨os,hos,hcs,hds⟩:=id hs;unfold Builtin.Slice.sliceApplied Builtin.Slice.sliceFields;refine aa (aa (wpAny_field hos hds (x:=vl) rfl (aa (wpAny_field hos hds (x:=vu) rfl (aa (wpAny_field hos hds (x:=.none) rfl (ai ?_)))))));refine aa (slicePart_none ?_)
 show wpAny _ _ (if ((1:Int) == 0)=true then _ else _) _ _ s
 rw [if_neg (by decide)];refine aa (wJ pl (aa (wJ pu (aa (ai ?_)))))
 show wpAny _ _ (match m8 lo hi 1 (n:Int) with | (lo,hi)=>pure (lo,(1:Int),jy lo hi 1)) _ _ s
 rw [FS lo hi n]
 show wpAny _ _ (pure (((sIx n 0 lo:Nat):Int),(1:Int),jy ((sIx n 0 lo:Nat):Int) ((sIx n n hi:Nat):Int) 1)) _ _ s
 rw [FT];exact ai h
theorem M4 (xs:Array Value) (i k:Nat):((ba k).filterMap fun (m:Nat)=>xs[((i:Int)+(m:Int)*1).toNat]?).toArray=((xs.toList.drop i).take k).toArray:=by
 have e:(fun (m:Nat)=>xs[((i:Int)+(m:Int)*1).toNat]?)=fun m=>xs[i+m]?:=by
  funext m
  have:((i:Int)+(m:Int)*1).toNat=i+m:=by omega
  rw [this]
 rw [e];have:=pick_run xs i k;rw [List.filterMap_map] at this;have e2:((fun x=>xs[x]?) ∘ fun x=>i+x)=fun m=>xs[i+m]?:=rfl;rw [e2] at this;rw [this]
theorem getItem_tuple_cut {t sl:Addr} {items:Array Value} {vl vu:Value} {lo hi:Option Int} {Q:Value->Shared->Prop} (ht:IsTup s.heap t items) (hs:s.heap.IsSliceOf sl vl vu .none) (pl:IsPart vl lo) (pu:IsPart vu hi)
  (hw:¬ (sIx items.size 0 lo=0/\sIx items.size items.size hi=items.size))
  (h:Q (.ref s.heap.objs.size) { s with heap:=s.heap.push { cls:=.type "tuple",data:=.seq ((items.toList.drop (sIx items.size 0 lo)).take (sIx items.size items.size hi - sIx items.size 0 lo)).toArray } })
  (hsz:items.size<=av):wpAny (model prog w) A (getItem (.ref t) (.ref sl)) Q E s:=by
 have htake:sizeOk (.seq ((items.toList.drop (sIx items.size 0 lo)).take (sIx items.size items.size hi - sIx items.size 0 lo)).toArray):=by
  show ((items.toList.drop (sIx items.size 0 lo)).take (sIx items.size items.size hi - sIx items.size 0 lo)).toArray.size<=av
  rw [ar,ic,List.length_drop,d5];omega
 have hj:sIx items.size items.size hi<=items.size:=U7 _ _ (ao _) hi;obtain ⟨os,hos,hcs,hds⟩:=id hs;have hTs:s.TypeIs (.ref sl) "slice" := ⟨os,hos,hcs⟩;unfold getItem
 try with_reducible refine dg ?_
 first | refine aa (ai ?_) | skip
 refine aa (wpAny_sequenceKey ht.typeIs (by decide) ?_);refine aa (ki (name:=jm "__getitem__") ht.typeIs dr
  (jl dr ht.typeIs entry_tuple_getitem ?_ (args_tuple_getitem _ _)))
 show wpAny _ _ (m4 (.ref t) >>= _) _ _ s
 refine aa (tupleItemsOf_ ht ?_);refine aa (nq hTs ?_);rw [if_pos (by decide)];refine aa (sliceApplied_gen hs pl pu ?_);have hno:¬ ((((sIx items.size 0 lo:Nat):Int) == 0 && (1:Int) == 1 && (sIx items.size items.size hi - sIx items.size 0 lo) == items.size)=true):=by
  intro q;rw [cq,cq] at q;have q1:((sIx items.size 0 lo:Nat):Int)=0:=eq_of_beq q.1.1;have q2:sIx items.size items.size hi - sIx items.size 0 lo=items.size:=eq_of_beq q.2;exact hw ⟨by omega,by omega⟩
 show wpAny _ _ (if (((sIx items.size 0 lo:Nat):Int) == 0 && (1:Int) == 1 && (sIx items.size items.size hi - sIx items.size 0 lo) == items.size)=true then _ else _) _ _ s
 rw [if_neg hno,M4]
 first
  | exact aa (m:=j6 _) (f7 (ai ⟨_,rfl,ai h⟩) htake)
  | exact aa (m:=j6 _) (f7 (aa (ai (ai ⟨_,rfl,ai h⟩))) htake)
  | exact aa (aa (m:=j6 _) (f7 (ai (ai ⟨_,rfl,ai h⟩)) htake))
  | exact aa (aa (m:=j6 _) (f7 (ai ⟨_,rfl,ai h⟩) htake))
end
end HT
namespace L2
open PySem PySem.Spec PyProof.Rows
abbrev TO:=St->Hp->(Option Int->Hp->Prop)->Prop
def PO (X:Cx) (e:Option Expr) (t:TO):Prop:=
 ∀ (pins:List (Addr×Obj)) (s:Shared) (σ:St) (H:Hp) (Q:Option Int->Hp->Prop),Inv X pins σ H s->t σ H Q->
  wpAny (model X.prog X.w) X.A (evalPart e X.env) (fun u s'=>∃ o H',Inv X pins σ H' s'/\IsPart u o/\Q o H') X.xe s
def Qm:TO:=fun _ H Q=>Q none H
theorem intsAre_of {ns:List Int}:∀ {us:List Value},aM (ns.map V.int) us->IntsAre us ns:=by
 induction ns with
 | nil=>intro us r; rw [List.map_nil] at r; cases r; exact .nil
 | cons n ns ih=>
  intro us r;rw [a9] at r;cases r with
  | cons r1 r2=>
   obtain ⟨t,e⟩:=r1;subst e;exact .cons n t (ih r2)
section
variable {X:Cx} {e:Expr} {te:TE} {lo hi:Option Expr} {tl th:TO} {pos p2:Pos}
theorem Qn:PO X none Qm:=by
 intro pins s σ H Q I h;rw [evalPart_none];exact ai ⟨none,H,I,.none,h⟩
def SlR (X:Cx) (r:V->Option Int->Option Int->Hp->VK->Prop):Prop:=
 ∀ (pins:List (Addr×Obj)) (s:Shared) (σ:St) (H:Hp) (x:V) (v vl vu:Value) (lo hi:Option Int) (sl:Addr) (Q:VK),Inv X pins σ H s->RelV x v->s.heap.IsSliceOf sl vl vu .none->IsPart vl lo->IsPart vu hi->r x lo hi H Q->
  ∃ T id,typeLookup (.type T) "__getitem__" = pure (some (.builtin id))/\s.TypeIs v T/\wpAny (model X.prog X.w) X.A (getItem v (.ref sl)) (EP X pins σ Q) X.xe s
theorem SlR.or {r r':V->Option Int->Option Int->Hp->VK->Prop} (h:SlR X r) (h':SlR X r'):SlR X (fun x lo hi H Q=>r x lo hi H Q\/r' x lo hi H Q):=by
 intro pins s σ H x v vl vu lo hi sl Q I rx hs pl pu q;rcases q with q | q
 ·exact h pins s σ H x v vl vu lo hi sl Q I rx hs pl pu q
 ·exact h' pins s σ H x v vl vu lo hi sl Q I rx hs pl pu q
def tSl (r:V->Option Int->Option Int->Hp->VK->Prop) (te:TE) (tl th:TO):TE:=fun σ H Q=>te σ H fun x H1=>tl σ H1 fun l H2=>th σ H2 fun u H3=>r x l u H3 Q
theorem M5 {r:V->Option Int->Option Int->Hp->VK->Prop} (hr:SlR X r) (he:PE X e te) (hl:PO X lo tl) (hu:PO X hi th):PE X (.Subscript e (.Slice lo hi none p2) pos) (tSl r te tl th):=by
 intro pins s σ H Q I h;refine Subscript_ (thn (he pins s σ H _ I h) fun v s1 hz=>?_);obtain ⟨x,H1,I1,r1,q1⟩:=hz;refine wpAny_Slice (thn (hl pins s1 σ H1 _ I1 q1) fun vl s2 ⟨l,H2,I2,pl,q2⟩=>thn (hu pins s2 σ H2 _ I2 q2) fun vu s3 hz=>?_);obtain ⟨u,H3,I3,pu,q3⟩:=hz;rw [evalPart_none];refine ai ?_;have I4:Inv X pins σ H3 { s3 with heap:=s3.heap.push { cls:=.type "slice",data:=.fields #[vl,vu,.none] } }:=I3.kept (t':=s3.toks) fun b ob q=>ah _ q;obtain ⟨T,id,hT,ht,hg⟩:=hr pins { s3 with heap:=s3.heap.push { cls:=.type "slice",data:=.fields #[vl,vu,.none] } } σ H3 x v vl vu l u s3.heap.objs.size Q I4 r1 (Heap.IsSliceOf.new ..) pl pu q3
 show wpAny (model X.prog X.w) X.A (subscriptTail e (.Slice lo hi none p2) v (.ref s3.heap.objs.size)) (EP X pins σ Q) X.xe { s3 with heap:=s3.heap.push { cls:=.type "slice",data:=.fields #[vl,vu,.none] } }
 exact tail_any (ops:=[.ref s3.heap.objs.size,v]) ht hT hg (by with_unfolding_all rfl)
def DC (xs:List V) (lo hi:Option Int):List V:=(xs.drop (HT.sIx xs.length 0 lo)).take (HT.sIx xs.length xs.length hi - HT.sIx xs.length 0 lo)
theorem uM (xs:List V) (lo hi:Option Int):(DC xs lo hi).length<=xs.length:=by
 unfold DC;rw [ic,List.length_drop];omega
def W8 (K:ag):V->Option Int->Option Int->Hp->VK->Prop:=fun x lo hi H Q=>∃ a xs,x=.ref a/\SqT K H a xs/\
 ¬ (HT.sIx xs.length 0 lo=0/\HT.sIx xs.length xs.length hi=xs.length)/\∀ p,H p=none->Q (.ref p) (upd H p (.tup (DC xs lo hi)))
theorem U8:SlR X (W8 X.K):=by
 intro pins s σ H x v vl vu lo hi sl Q I rx hs pl pu h;obtain ⟨a,xs,rfl,hx,hw,q⟩:=h;cases rx
 obtain ⟨its,r,ht,hz⟩:=I.tuple hx;have hlen:its.toArray.size=xs.length:=by rw [ar]; exact r.length.symm
 refine ⟨"tuple",_,dr.lookup,ht.typeIs,?_⟩;refine HT.getItem_tuple_cut ht hs pl pu (by rw [hlen]; exact hw) ?_ (by rw [hlen]; exact hz);rw [hlen];refine ⟨.ref s.heap.objs.size,_,I.laid (t':=s.toks) (o:=.tup (DC xs lo hi)) (fun b ob q=>ah _ q) (ao _) ?_,rfl,q _ (I.hok.fresh (ao _))⟩;exact ⟨df (uM xs lo hi) hz,_,(r.drop (HT.sIx xs.length 0 lo)).take (HT.sIx xs.length xs.length hi - HT.sIx xs.length 0 lo),pF.new _ _⟩
def T8 (K:ag):R2:=fun x y H Q=>∃ a b xs ys,x=.ref a/\y=.ref b/\SqT K H a xs/\SqT K H b ys/\xs≠[]/\xs.length+ys.length<=av/\
 (ys=[]->Q (.ref a) H)/\(ys≠[]->∀ p,H p=none->Q (.ref p) (upd H p (.tup (xs++ys))))
theorem aM.nil_iff {xs:List V} {us:List Value} (r:aM xs us):us=[] ↔ xs=[]:=by
 cases r with
 | nil=>simp
 | cons _ _=>simp
theorem Qo:OpR X (fi .Add) (T8 X.K):=by
 intro pins s σ H x y v u Q I rx ry h;obtain ⟨a,b,xs,ys,rfl,rfl,ha,hb,hx,hz,q1,q2⟩:=h;cases rx
 cases ry
 obtain ⟨its,r1,p1,_⟩:=I.tuple ha;obtain ⟨its2,r2,p2,_⟩:=I.tuple hb;refine HT.cat_tup p1 p2 (fun z=>hx (r1.nil_iff.mp z)) (fun z=>⟨.ref a,H,I,rfl,q1 (r2.nil_iff.mp z)⟩) (fun z=>?_) (by rw [<- r1.length,<- r2.length]; exact hz);refine ⟨.ref s.heap.objs.size,_,I.laid (t':=s.toks) (o:=.tup (xs++ys)) (fun b ob q=>ah _ q) (ao _) ?_,rfl,q2 (fun w=>z (r2.nil_iff.mpr w)) _ (I.hok.fresh (ao _))⟩;exact ⟨by rw [fj]; exact hz,_,r1.append r2,pF.new _ _⟩
end
def ixN (n:Nat) (i:Int):Option Nat:=if 0<=i then (if i < n then some i.toNat else none) else if -(n:Int)<=i then some (i+n).toNat else none
def atI {α:Type} (xs:List α) (i:Int):Option α:=(ixN xs.length i).bind fun j=>xs[j]?
theorem Ig {n:Nat} {i:Int} {j:Nat} (h:ixN n i=some j):seqIndex? i n=some j/\j < n/\-(n:Int)<=i/\i < n:=by
 unfold ixN at h
 by_cases h0:0<=i
 ·rw [if_pos h0] at h
  by_cases h1:i < n
  ·rw [if_pos h1] at h;have e:i.toNat=j:=bg h;exact ⟨by rw [seqIndex_of h0 h1,e],by omega,by omega,h1⟩
  ·rw [if_neg h1] at h; cases h
 ·rw [if_neg h0] at h
  by_cases h1:-(n:Int)<=i
  ·rw [if_pos h1] at h;have e:(i+n).toNat=j:=bg h;exact ⟨by rw [seqIndex_neg (by omega) h1,e],by omega,h1,by omega⟩
  ·rw [if_neg h1] at h; cases h
theorem BU {α:Type} {xs:List α} {i:Int} {v:α} (h:atI xs i=some v):∃ j,seqIndex? i xs.length=some j/\xs[j]?=some v/\j < xs.length/\-(xs.length:Int)<=i/\i < xs.length:=by
 unfold atI at h;cases e:ixN xs.length i with
 | none=>rw [e] at h; cases h
 | some j=>
  rw [e] at h;obtain ⟨h1,h2,h3,h4⟩:=Ig e;exact ⟨j,h1,h,h2,h3,h4⟩
def Ih (b:Expr):Prop:=∀ o i,subscripted b false o i=operate [o,i] (getItem o i)
def IxR (X:Cx) (r:R2):Prop:=
 ∀ (value slice:Expr) (pins:List (Addr×Obj)) (s:Shared) (σ:St) (H:Hp) (x y:V) (v u:Value) (Q:VK),Inv X pins σ H s->RelV x v->RelV y u->r x y H Q->
  subscripted slice false v u=operate [v,u] (getItem v u)->wpAny (model X.prog X.w) X.A (subscriptTail value slice v u) (EP X pins σ Q) X.xe s
def MtR (X:Cx) (id:String) (r:V->List V->Hp->VK->Prop):Prop:=
 ∀ (pins:List (Addr×Obj)) (s:Shared) (σ:St) (H:Hp) (x:V) (xs:List V) (v:Value) (us:List Value) (Q:VK),Inv X pins σ H s->RelV x v->aM xs us->r x xs H Q->
  wpAny (model X.prog X.w) X.A (call (.builtin id) (v :: us)) (EP X pins σ Q) X.xe s
section
variable {X:Cx} {a b:Expr} {ta tb:TE} {pos:Pos}
theorem IxR.or {r r':R2} (h:IxR X r) (h':IxR X r'):IxR X (fun x y H Q=>r x y H Q\/r' x y H Q):=by
 intro value slice pins s σ H x y v u Q I rx ry q hs;rcases q with q | q
 ·exact h value slice pins s σ H x y v u Q I rx ry q hs
 ·exact h' value slice pins s σ H x y v u Q I rx ry q hs
theorem W9 {r:R2} (hr:IxR X r) (ha:PE X a ta) (hb:PE X b tb) (hs:Ih b):PE X (.Subscript a b pos) (tOp r ta tb):=by
 intro pins s σ H Q I h;exact Subscript_ (TR ha hb I h fun v u s2 x y H2 I2 rx ry q=>hr a b pins s2 σ H2 x y v u Q I2 rx ry q (hs _ _))
def Yf (K:ag):R2:=fun x y H Q=>∃ p xs i v,x=.ref p/\y=.int i/\SqL K H p xs/\atI xs i=some v/\Q v H
def Yg (K:ag):R2:=fun x y H Q=>∃ p xs i v,x=.ref p/\y=.int i/\SqT K H p xs/\atI xs i=some v/\Q v H
def Yh:R2:=fun x y H Q=>∃ z i c,x=.str z/\y=.int i/\z.length<=av/\atI z.cps.toList i=some c/\Q (.str ⟨#[c]⟩) H
theorem Qp:IxR X (Yf X.K):=by
 intro value slice pins s σ H x y v u Q I rx ry h hs;obtain ⟨p,xs,i,z,rfl,rfl,hq,he,q⟩:=h;cases rx
 obtain ⟨t,rfl⟩:=ry;obtain ⟨its,r,pl,hz⟩:=I.list hq;obtain ⟨j,h1,h2,h3,h4,h5⟩:=BU he;obtain ⟨w,ew,rw'⟩:=r.get h2;have hl:=r.length;have hn:=nU;have fin:EP X pins σ Q w s:=⟨z,H,I,rw',q⟩
 by_cases h0:0<=i
 ·have hj:i.toNat=j:=by
   rw [seqIndex_of h0 h5] at h1;exact bg h1
  exact item_listR pl.isList h0 (by omega) (by rw [hj]; simpa using ew) fin hs
 ·have hj:(i+(its.toArray.size:Int)).toNat=j:=by
   rw [seqIndex_neg (by omega) h4] at h1;rw [ar,<- hl];exact bg h1
  exact subscriptTail_builtinR (x:=w) pl.isList.typeIs slot_list_getitem.lookup
   (wpAny_getItem_list_neg (Q:=fun r s'=>r=w/\EP X pins σ Q r s') pl.isList (by omega) (by rw [ar] <;> omega) (by omega) (by rw [hj]; simpa using ew) ⟨rfl,fin⟩) hs
theorem U9:IxR X (Yg X.K):=by
 intro value slice pins s σ H x y v u Q I rx ry h hs;obtain ⟨p,xs,i,z,rfl,rfl,hq,he,q⟩:=h;cases rx
 obtain ⟨t,rfl⟩:=ry;obtain ⟨its,r,pl,hz⟩:=I.tuple hq;obtain ⟨j,h1,h2,h3,h4,h5⟩:=BU he;obtain ⟨w,ew,rw'⟩:=r.get h2;have hl:=r.length;have hn:=nU;have fin:EP X pins σ Q w s:=⟨z,H,I,rw',q⟩;exact subscriptTail_builtinR (x:=w) pl.typeIs slot_tuple_getitem.lookup
  (getItem_tuple (j:=j) (Q:=fun r s'=>r=w/\EP X pins σ Q r s') pl (by omega) (by omega) (by rw [ar,<- hl]; exact h1) (by simpa using ew) ⟨rfl,fin⟩) hs
theorem U':IxR X Yh:=by
 intro value slice pins s σ H x y v u Q I rx ry h hs;obtain ⟨z,i,c,rfl,rfl,hz,he,q⟩:=h;obtain ⟨t,rfl⟩:=rx;obtain ⟨t',rfl⟩:=ry;obtain ⟨j,h1,h2,h3,h4,h5⟩:=BU he;have hl:z.cps.toList.length=z.length:=by simp [Str.length]
 rw [hl] at h1 h4 h5;have hn:=nU;exact tail_any (typeIs_str s z t) slot_str_getitem.lookup (getItem_str (c:=c) (by
  have e1:decide (i < -(2 ^ 63:Int))=false:=decide_eq_false (by omega);have e2:decide (i >= 2 ^ 63)=false:=decide_eq_false (by omega);rw [e1,e2,Bool.or_false]) (by rw [h1]; simpa using h2) ⟨.str ⟨#[c]⟩,H,I.tok _,⟨_,rfl⟩,q⟩) hs
theorem FU (its:List Value) (n j:Nat) (u:Value):c4 (·.setIfInBounds j u) { cls:=.type "list",data:=.seq its.toArray n }={ cls:=.type "list",data:=.seq (its.set j u).toArray n }:=by
 simp [c4]
theorem Inv.lst {pins:List (Addr×Obj)} {σ:St} {H:Hp} {s:Shared} {p:Addr} {xs:List V} (I:Inv X pins σ H s) (h:H p=some (.lst xs)):
  ∃ (its:List Value) (n:Nat),aM xs its/\s.heap.get? p=some { cls:=.type "list",data:=.seq its.toArray n }/\xs.length<=av:=by
 obtain ⟨z,its,n,r,e⟩:=I.hok p _ h;exact ⟨its,n,r,e,z⟩
theorem Inv.lstUpd {pins:List (Addr×Obj)} {σ:St} {H:Hp} {s:Shared} {p:Addr} {xs ys:List V} {its its':List Value} {n n':Nat} {f:Obj->Obj} (I:Inv X pins σ H s) (h:H p=some (.lst xs))
  (ho:s.heap.get? p=some { cls:=.type "list",data:=.seq its.toArray n }) (hf:f { cls:=.type "list",data:=.seq its.toArray n }={ cls:=.type "list",data:=.seq its'.toArray n' }) (r:aM ys its') (hz:ys.length<=av) (t:Nat):
  Inv X pins σ (upd H p (.lst ys)) { s with heap:=s.heap.update p f,toks:=t }:=by
 have e:(s.heap.update p f).get? p=some { cls:=.type "list",data:=.seq its'.toArray n' }:=by
  rw [lj f ho (by rw [hf] <;> rfl),hf]
 refine I.write (x:=p) (e:=p) (by rw [h]; trivial) (.inl rfl) (fun b u hb q=>(Heap.get?_update_other _ _ (jx hb)).trans q) ⟨_,e⟩ ?_;exact ⟨hz,its',n',r,e⟩
def W':V->V->V->Hp->(Hp->Prop)->Prop:=fun o i v H Q=>∃ p xs k j,o=.ref p/\i=.int k/\H p=some (.lst xs)/\ixN xs.length k=some j/\Q (upd H p (.lst (xs.set j v)))
theorem set_list:Y8 X W':=by
 intro pins s σ H o i v ov iv u Q I ro ri rv h;obtain ⟨p,xs,k,j,rfl,rfl,hp,hj,q⟩:=h;cases ro
 obtain ⟨t,rfl⟩:=ri;obtain ⟨its,n,r,ho,hz⟩:=I.lst hp;obtain ⟨h1,h2,h3,h4⟩:=Ig hj;have hl:=r.length;have hn:=nU;have I':Inv X pins σ (upd H p (.lst (xs.set j v))) { s with heap:=s.heap.update p (c4 (·.setIfInBounds j u)) }:=
  I.lstUpd hp ho (FU its n j u) (r.set rv j) (by rw [eu]; exact hz) s.toks
 by_cases h0:0<=k
 ·have hk:k.toNat=j:=by
   rw [seqIndex_of h0 h4] at h1;exact bg h1
  exact PySem.W.ki_setAt ho h0 (by omega) (by rw [ar,<- hl]; exact h4) (by rw [hk]; exact ⟨_,I',q⟩)
 ·have hk:(k+(its.toArray.size:Int)).toNat=j:=by
   rw [seqIndex_neg (by omega) h3] at h1;rw [ar,<- hl];exact bg h1
  exact PySem.W.ki_setBack ho (by omega) (by rw [ar,<- hl]; exact h3) (by omega) (by rw [hk]; exact ⟨_,I',q⟩)
theorem BV (lo hi:Option Int) (n:Nat):(sliceBounds lo hi none n).1=((HT.sIx n 0 lo:Nat):Int)/\(sliceBounds lo hi none n).2.1=((HT.sIx n n hi:Nat):Int)/\(sliceBounds lo hi none n).2.2=1:=by
 refine ⟨?_,?_,rfl⟩
 ·cases lo with
  | none=>simp [sliceBounds,HT.sIx]
  | some i=>
   simp only [sliceBounds,HT.sIx,Option.getD_none,show (1:Int) > 0 by decide,if_true]
   by_cases h:i < 0
   ·simp only [h,if_true] <;> omega
   ·simp only [h,if_false] <;> omega
 ·cases hi with
  | none=>simp [sliceBounds,HT.sIx]
  | some i=>
   simp only [sliceBounds,HT.sIx,Option.getD_none,show (1:Int) > 0 by decide,if_true]
   by_cases h:i < 0
   ·simp only [h,if_true] <;> omega
   ·simp only [h,if_false] <;> omega
theorem A9 (its:List Value) (lo hi:Option Int):slicePick its.toArray lo hi none=((its.drop (HT.sIx its.length 0 lo)).take (HT.sIx its.length its.length hi - HT.sIx its.length 0 lo)).toArray:=by
 obtain ⟨h1,h2,h3⟩:=BV lo hi its.toArray.size;unfold slicePick;rw [h1,h2,h3];simp only [sliceRange_one,pick_run,ar] <;> rfl
def Wa (K:ag):V->Option Int->Option Int->Hp->VK->Prop:=fun x lo hi H Q=>∃ a xs,x=.ref a/\SqL K H a xs/\∀ p,H p=none->Q (.ref p) (upd H p (.lst (DC xs lo hi)))
theorem Qq:SlR X (Wa X.K):=by
 intro pins s σ H x v vl vu lo hi sl Q I rx hs pl pu h;obtain ⟨a,xs,rfl,hx,q⟩:=h;cases rx
 obtain ⟨its,r,ht,hz⟩:=I.list hx;have hlen:=r.length;refine ⟨"list",_,slot_list_getitem.lookup,ht.isList.typeIs,?_⟩;refine wpAny_getItem_list_slice ht.isList hs pl pu .none (by simp) ?_ (by rw [ar] <;> omega);rw [A9,<- hlen];refine ⟨.ref s.heap.objs.size,_,I.laid (t':=s.toks) (o:=.lst (DC xs lo hi)) (fun b ob q=>ah _ q) (ao _) ?_,rfl,q _ (I.hok.fresh (ao _))⟩;exact ⟨df (uM xs lo hi) hz,_,0,(r.drop (HT.sIx xs.length 0 lo)).take (HT.sIx xs.length xs.length hi - HT.sIx xs.length 0 lo),ay _ rfl⟩
def uN:V->Bool
 | .non=>true
 | .bl _=>true
 | .int _=>true
 | .str _=>true
 | _=>false
def eqV:V->V->Bool
 | .non,.non=>true
 | .bl a,.bl b=>a == b
 | .bl a,.int b=>(if a then 1 else 0) == b
 | .int a,.bl b=>a == (if b then 1 else 0)
 | .int a,.int b=>a == b
 | .str a,.str b=>a == b
 | _,_=>false
theorem Ua {A:Around} {s:Shared} {y x:V} {u v:Value} (ry:RelV y u) (rx:RelV x v) (fy:uN y=true) (fx:uN x=true):SeqAt.EqAt A s u v (eqV y x):=by
 cases y with
 | non=>
  cases ry
  cases x with
  | non=>cases rx; exact SeqAt.EqAt.same _
  | bl b=>cases rx; exact SeqAt.EqAt.none_bool b
  | int b=>obtain ⟨t,rfl⟩:=rx; exact SeqAt.EqAt.none_int b t
  | str b=>obtain ⟨t,rfl⟩:=rx; exact SeqAt.EqAt.none_str b t
  | _=>exact absurd (show false=true from fx) b9
 | bl a=>
  cases ry
  cases x with
  | non=>cases rx; exact SeqAt.EqAt.bool_none a
  | bl b=>cases rx; exact SeqAt.EqAt.bool_bool a b
  | int b=>obtain ⟨t,rfl⟩:=rx; exact SeqAt.EqAt.bool_int a b t
  | str b=>obtain ⟨t,rfl⟩:=rx; exact SeqAt.EqAt.bool_str a b t
  | _=>exact absurd (show false=true from fx) b9
 | int a=>
  obtain ⟨t',rfl⟩:=ry;cases x with
  | non=>cases rx; exact SeqAt.EqAt.int_none a t'
  | bl b=>cases rx; exact SeqAt.EqAt.int_bool a t' b
  | int b=>obtain ⟨t,rfl⟩:=rx; exact SeqAt.EqAt.int_int a t' b t
  | str b=>obtain ⟨t,rfl⟩:=rx; exact SeqAt.EqAt.int_str a t' b t
  | _=>exact absurd (show false=true from fx) b9
 | str a=>
  obtain ⟨t',rfl⟩:=ry;cases x with
  | non=>cases rx; exact SeqAt.EqAt.str_none a t'
  | bl b=>cases rx; exact SeqAt.EqAt.str_bool a t' b
  | int b=>obtain ⟨t,rfl⟩:=rx; exact SeqAt.EqAt.str_int a t' b t
  | str b=>obtain ⟨t,rfl⟩:=rx; exact SeqAt.EqAt.str_str a t' b t
  | _=>exact absurd (show false=true from fx) b9
 | _=>exact absurd (show false=true from fy) b9
def eqU (x:V) (u:Value):Bool:=match u with
 | .none=>eqV .non x
 | .bool b=>eqV (.bl b) x
 | .int i _=>eqV (.int i) x
 | .str z _=>eqV (.str z) x
 | _=>false
theorem M6 {x y:V} {u:Value} (r:RelV y u) (f:uN y=true):eqU x u=eqV y x:=by
 cases y with
 | non=>cases r; rfl
 | bl b=>cases r; rfl
 | int i=>obtain ⟨t,rfl⟩:=r; rfl
 | str z=>obtain ⟨t,rfl⟩:=r; rfl
 | _=>exact absurd (show false=true from f) b9
theorem pI {x:V}:∀ {xs:List V} {us:List Value},aM xs us->xs.all uN=true->us.any (eqU x)=xs.any fun y=>eqV y x
 | _,_,.nil,_=>rfl
 | y :: xs,u :: us,.cons r t,f=>by
  rw [iq,cq] at f;rw [kj,kj,M6 r f.1,pI t f.2]
theorem kT {A:Around} {s:Shared} {x:V} {v:Value} (rx:RelV x v) (fx:uN x=true):∀ {xs:List V} {us:List Value},aM xs us->xs.all uN=true->∀ u∈us,SeqAt.EqAt A s u v (eqU x u)
 | _,_,.nil,_=>fun u hu=>by cases hu
 | y :: xs,u :: us,.cons r t,f=>fun u' hu=>by
  rw [iq,cq] at f;rcases a7.mp hu with rfl | hu
  ·rw [M6 r f.1]; exact Ua r rx f.1 fx
  ·exact kT rx fx t f.2 u' hu
def inV (x:V) (xs:List V):Bool:=xs.any fun y=>eqV y x
def rIn (K:ag) (neg:Bool):R2:=fun x y H Q=>∃ p xs,y=.ref p/\(SqL K H p xs\/SqT K H p xs)/\uN x=true/\xs.all uN=true/\Q (.bl (if neg then !inV x xs else inV x xs)) H
theorem Jo:OpR X (cm .In) (rIn X.K false):=by
 intro pins s σ H x y v u Q I rx ry h;obtain ⟨p,xs,rfl,hq,fx,fs,q⟩:=h;cases ry
 rcases hq with hq | hq
 ·obtain ⟨its,r,pl,hz⟩:=I.list hq;refine SeqAt.in_listAt (eqU x) pl.isList (fun w hw=>kT rx fx r fs w (by simpa using hw)) ⟨.bl _,H,I,rfl,?_⟩
  rw [show its.toArray.any (eqU x)=its.any (eqU x) by simp,pI r fs];exact q
 ·obtain ⟨its,r,pl,hz⟩:=I.tuple hq;refine SeqAt.in_tupleAt (eqU x) pl (fun w hw=>kT rx fx r fs w (by simpa using hw)) ⟨.bl _,H,I,rfl,?_⟩
  rw [show its.toArray.any (eqU x)=its.any (eqU x) by simp,pI r fs];exact q
theorem BW:OpR X (cm .NotIn) (rIn X.K true):=by
 intro pins s σ H x y v u Q I rx ry h;obtain ⟨p,xs,rfl,hq,fx,fs,q⟩:=h;cases ry
 rcases hq with hq | hq
 ·obtain ⟨its,r,pl,hz⟩:=I.list hq;refine SeqAt.notIn_listAt (eqU x) pl.isList (fun w hw=>kT rx fx r fs w (by simpa using hw)) ⟨.bl _,H,I,rfl,?_⟩
  rw [show its.toArray.any (eqU x)=its.any (eqU x) by simp,pI r fs];exact q
 ·obtain ⟨its,r,pl,hz⟩:=I.tuple hq;refine SeqAt.notIn_tupleAt (eqU x) pl (fun w hw=>kT rx fx r fs w (by simpa using hw)) ⟨.bl _,H,I,rfl,?_⟩
  rw [show its.toArray.any (eqU x)=its.any (eqU x) by simp,pI r fs];exact q
theorem BX:bR X (.builtin "len") (fun xs H Q=>∃ p ys,xs=[.ref p]/\(SqL X.K H p ys\/SqT X.K H p ys)/\Q (.int ys.length) H):=by
 intro pins s σ H xs us Q I r h;obtain ⟨p,ys,rfl,hq,q⟩:=h;obtain ⟨u,rfl,rx⟩:=vals1 r;cases rx
 have hn:=nU;rcases hq with hq | hq
 ·obtain ⟨its,r',pl,hz⟩:=I.list hq;have hlen:=r'.length;exact Calls.call_len_list pl.isList (by simp only [ar] <;> omega) ⟨.int ys.length,H,I.tok _,⟨s.toks+1,by rw [ar,hlen]⟩,q⟩
 ·obtain ⟨its,r',pl,hz⟩:=I.tuple hq;have hlen:=r'.length;exact len_tuple pl (by simp only [ar] <;> omega) ⟨.int ys.length,H,I.tok _,⟨s.toks+1,by rw [ar,hlen]⟩,q⟩
theorem bR.or {f:Value} {r r':List V->Hp->VK->Prop} (h:bR X f r) (h':bR X f r'):bR X f (fun xs H Q=>r xs H Q\/r' xs H Q):=by
 intro pins s σ H xs us Q I rs q;rcases q with q | q
 ·exact h pins s σ H xs us Q I rs q
 ·exact h' pins s σ H xs us Q I rs q
theorem BY:bR X (.type "list") (fun xs H Q=>∃ p ys,xs=[.ref p]/\(SqL X.K H p ys\/SqT X.K H p ys)/\∀ l,H l=none->Q (.ref l) (upd H l (.lst ys))):=by
 intro pins s σ H xs us Q I r h;obtain ⟨p,ys,rfl,hq,q⟩:=h;obtain ⟨u,rfl,rx⟩:=vals1 r;cases rx
 have fin:∀ (its:List Value),aM ys its->ys.length<=av->∀ (h':Heap) (c':Nat),(∀ b o',s.heap.get? b=some o'->h'.get? b=some o')->
   h'.get? s.heap.objs.size=some { cls:=.type "list",dict:=none,data:=.seq its.toArray c',slots:=#[] }->EP X pins σ Q (.ref s.heap.objs.size) { s with heap:=h' }:=fun its r' hz h' c' kp e=>
  ⟨.ref s.heap.objs.size,_,I.laid (t':=s.toks) kp (ao _) (show cB X.prog X.w _ h' _ (.lst ys) from ⟨hz,its,c',r',e⟩),rfl,q _ (I.hok.fresh (ao _))⟩
 rcases hq with hq | hq
 ·obtain ⟨its,r',pl,hz⟩:=I.list hq;have hlen:=r'.length;obtain ⟨o,ho,hc,n,hd⟩:=pl.isList;exact call_list_seq p (.inl rfl) ho hc hd (fun h' c' kp e=>fin its r' hz h' c' kp e) (by simp only [ar] <;> omega)
 ·obtain ⟨its,r',pl,hz⟩:=I.tuple hq;have hlen:=r'.length;obtain ⟨o,ho,hc,n,hd⟩:=pl;exact call_list_seq p (.inr rfl) ho hc hd (fun h' c' kp e=>fin its r' hz h' c' kp e) (by simp only [ar] <;> omega)
theorem Aa:bR X (.type "tuple") (fun xs H Q=>∃ p ys,xs=[.ref p]/\((SqL X.K H p ys/\∀ l,H l=none->Q (.ref l) (upd H l (.tup ys)))\/(SqT X.K H p ys/\Q (.ref p) H))):=by
 intro pins s σ H xs us Q I r h;obtain ⟨p,ys,rfl,h⟩:=h;obtain ⟨u,rfl,rx⟩:=vals1 r;cases rx
 rcases h with ⟨hq,q⟩ | ⟨hq,q⟩
 ·obtain ⟨its,r',pl,hz⟩:=I.list hq;have hlen:=r'.length;refine call_tuple_list pl.isList (fun h' kp=>?_) (by simp only [ar] <;> omega);have I1:Inv X pins σ H { s with heap:=h' }:=I.kept (t':=s.toks) kp;have I2:Inv X pins σ (upd H h'.objs.size (.tup ys)) { s with heap:=h'.push { cls:=.type "tuple",data:=.seq its.toArray } }:=
   I1.laid (t':=s.toks) (fun b o e=>ah _ e) (ao _) (show cB X.prog X.w _ _ _ (.tup ys) from ⟨hz,its,r',pF.new _ _⟩)
  exact ⟨.ref h'.objs.size,_,I2,rfl,q _ (I1.hok.fresh (ao _))⟩
 ·obtain ⟨its,r',pl,hz⟩:=I.tuple hq;exact call_tuple_same pl ⟨.ref p,H,I,rfl,q⟩
def tyV (K:ag) (T:String) (x:V) (H:Hp):Prop:=match x with
 | .str _=>T="str"
 | .int _=>T="int"
 | .ref p=>(T="list" /\ ∃ xs,SqL K H p xs)\/(T="tuple" /\ ∃ o,K.lookup p=some o/\o.cls=.type "tuple" /\ o.dict=none)\/
   (T="dict" /\ ((∃ kvs,H p=some (.dK kvs))\/∃ kvs,H p=some (.dT kvs)))\/(T="set" /\ ∃ S n,H p=some (.set S n))
 | _=>False
theorem M7 {pins:List (Addr×Obj)} {σ:St} {H:Hp} {s:Shared} {T:String} {x:V} {v:Value} (I:Inv X pins σ H s) (r:RelV x v) (ty:tyV X.K T x H):
  s.TypeIs v T/\∀ a,v=.ref a->∃ ob,s.heap.get? a=some ob/\ob.dict=none:=by
 cases x with
 | str z=>
  obtain ⟨t,rfl⟩:=r;cases (show T="str" from ty)
  exact ⟨typeIs_str s z t,fun _ e=>nomatch e⟩
 | int i=>
  obtain ⟨t,rfl⟩:=r;cases (show T="int" from ty)
  exact ⟨typeIs_int s i t,fun _ e=>nomatch e⟩
 | ref p=>
  cases r
  rcases ty with ⟨rfl,xs,hq⟩ | ⟨rfl,o,hk,hc,hd⟩ | ⟨rfl,hk⟩ | ⟨rfl,S,n,hk⟩
  ·obtain ⟨its,_,pl,_⟩:=I.list hq;refine ⟨pl.isList.typeIs,fun a e=>?_⟩;cases e
   obtain ⟨o,n,e,c,hd,_⟩:=pl;exact ⟨o,e,hd⟩
  ·refine ⟨⟨o,I.kIn p o hk,hc⟩,fun a e=>?_⟩;cases e
   exact ⟨o,I.kIn _ o hk,hd⟩
  ·have z:∃ o,s.heap.get? p=some o/\o.ExactDict:=by
    rcases hk with ⟨kvs,hk⟩ | ⟨kvs,hk⟩
    ·obtain ⟨_,_,_,_,o,_,_,e,ex,_⟩:=I.hok p _ hk;exact ⟨o,e,ex⟩
    ·obtain ⟨_,_,_,_,o,_,_,e,ex,_⟩:=I.hok p _ hk;exact ⟨o,e,ex⟩
   obtain ⟨o,e,ex⟩:=z;refine ⟨⟨o,e,ex.1⟩,fun a e2=>?_⟩;cases e2
   exact ⟨o,e,ex.2.1⟩
  ·obtain ⟨o,_,_,_,e,ex,_⟩:=I.hok p _ hk;refine ⟨⟨o,e,ex.1⟩,fun a e2=>?_⟩;cases e2
   exact ⟨o,e,ex.2.1⟩
 | _=>exact fu ty
def Yi (K:ag) (T:String) (r:V->List V->Hp->VK->Prop) (to:TE):TE:=fun σ H Q=>to σ H fun x H1=>tyV K T x H1/\r x [] H1 Q
def tBM (K:ag) (T:String) (r:V->List V->Hp->VK->Prop) (to:TE) (t:TA):TE:=fun σ H Q=>to σ H fun x H1=>tyV K T x H1/\t σ H1 fun xs H2=>r x xs H2 Q
variable {o e:Expr} {es:List Expr} {to:TE} {t:TA} {name:Str} {apos cpos:Pos} {T id:String} {r:V->List V->Hp->VK->Prop}
theorem Ub (pa:PlainAttrs T) (slot:Slot T name id) (hty:typeOf (.builtin id)=pure (.type "method_descriptor")) (hm:MtR X id r) (ho:PE X o to)
  (hbase:km o name X.env (eval o X.env)=eval o X.env:=by rfl) (hline:(apos.endLine == cpos.line)=true:=by rfl):PE X (.Call (.Attribute o name apos) [] [] cpos) (Yi X.K T r to):=by
 intro pins s σ H Q I h;refine wpAny_Call_method0_late hbase hline (thn (ho pins s σ H _ I h) fun v s1 hz=>?_);obtain ⟨x,H1,I1,r1,ty,q1⟩:=hz;obtain ⟨h1,h2⟩:=M7 I1 r1 ty;exact ⟨T,id,pa,slot,hty,h1,h2,k6 rfl (PySem.evalArgs_none (hm pins s1 σ H1 x [] v [] Q I1 r1 .nil q1))⟩
theorem Wb (pa:PlainAttrs T) (slot:Slot T name id) (hty:typeOf (.builtin id)=pure (.type "method_descriptor")) (hm:MtR X id r) (ho:PE X o to) (ha:PA X (e :: es) t)
  (hbase:km o name X.env (eval o X.env)=eval o X.env:=by rfl)
  (hfew:((backTo cpos (b8 (e :: es) X.env)).all (fun x=>!x.1) && (backToKw cpos (keywordEach [] X.env)).all (fun x=>x.1.isSome)
   && decide ((e :: es).length+([]:List Keyword).length+(if ([]:List Keyword).isEmpty then 0 else 1) < 30))=true:=by rfl)
  (hline:(apos.endLine == cpos.line)=true:=by rfl) (hs:b8 (e :: es) X.env=(false,eval e X.env) :: b8 es X.env:=by rfl) (hplain:(backTo cpos (b8 es X.env)).any (·.1)=false:=by rfl):
  PE X (.Call (.Attribute o name apos) (e :: es) [] cpos) (tBM X.K T r to t):=by
 intro pins s σ H Q I h;refine wpAny_Call_method_late hbase hfew hline rfl (thn (ho pins s σ H _ I h) fun v s1 hz=>?_);obtain ⟨x,H1,I1,r1,ty,q1⟩:=hz;obtain ⟨h1,h2⟩:=M7 I1 r1 ty;refine ⟨T,id,pa,slot,hty,h1,h2,?_⟩;have hA:=ha cpos pins s1 σ H1 _ I1 q1;rw [hs] at hA ⊢;refine k6 (by show (false || (backTo cpos (b8 es X.env)).any (·.1))=false; rw [hplain] <;> rfl) (Calls.evalArgs_plain ?_);exact thn hA fun us s2 ⟨vs,H2,I2,r2,q2⟩=>hm pins s2 σ H2 x vs v us Q I2 r1 r2 q2
end
def MtM (X:Cx) (id:String) (r:V->List V->Hp->VK->Prop):Prop:=
 ∀ (pins:List (Addr×Obj)) (s:Shared) (σ:St) (H:Hp) (x:V) (xs:List V) (v:Value) (us:List Value) (Q:VK),Inv X pins σ H s->RelV x v->aM xs us->r x xs H Q->
  wpAny (model X.prog X.w) X.A (call (.builtin id) (v :: us)) (EP X pins σ Q) X.xe s
theorem aM.one:∀ {x:V} {us:List Value},aM [x] us->∃ u,us=[u]/\RelV x u
 | _,_,.cons r .nil=>⟨_,rfl,r⟩
theorem aM.zero:∀ {us:List Value},aM [] us->us=[]
 | _,.nil=>rfl
section
variable {X:Cx} {pins:List (Addr×Obj)} {σ:St} {H:Hp} {s:Shared} {l b:Addr} {xs ys zs:List V}
theorem Inv.lset {its its':List Value} {n:Nat} {f:Array Value->Array Value} {t':Nat} (I:Inv X pins σ H s) (hH:H l=some (.lst xs))
  (e:s.heap.get? l=some { cls:=.type "list",data:=.seq its.toArray n }) (hf:f its.toArray=its'.toArray) (hv:aM ys its') (hz:ys.length<=av):
  Inv X pins σ (upd H l (.lst ys)) { s with heap:=s.heap.update l (c4 f),toks:=t' }:=by
 have q:=PySem.IsL.update e f;rw [hf] at q;refine I.write (x:=l) (e:=l) (by rw [hH]; exact trivial) (.inl rfl) (fun b' u hb hu=>(Heap.get?_update_other s.heap (c4 f) (jx hb)).trans hu) ⟨_,q⟩ ?_;exact ⟨hz,its',_,hv,q⟩
theorem Inv.lnew {its:List Value} {t':Nat} (I:Inv X pins σ H s) (hv:aM ys its) (hz:ys.length<=av):
  Inv X pins σ (upd H s.heap.objs.size (.lst ys)) { s with heap:=s.heap.push { cls:=.type "list",data:=.seq its.toArray },toks:=t' }:=
 I.laid (fun _ _ q=>ah _ q) (ao _) ⟨hz,its,0,hv,ay _ rfl⟩
theorem Inv.fresh (I:Inv X pins σ H s):H s.heap.objs.size=none:=I.hok.fresh (ao _)
theorem Inv.lstM (I:Inv X pins σ H s) (hH:H l=some (.lst xs)):xs.length<=av/\∃ (its:List Value) (n:Nat),aM xs its/\xs.length=its.length/\s.heap.get? l=some { cls:=.type "list",data:=.seq its.toArray n }:=by
 obtain ⟨z,its,n,r,e⟩:=I.hok l _ hH;exact ⟨z,its,n,r,r.length,e⟩
end
section
variable {X:Cx}
def Ii:V->List V->Hp->VK->Prop:=fun x vs H Q=>∃ l xs y,x=.ref l/\vs=[y]/\H l=some (.lst xs)/\xs.length < av/\Q .non (upd H l (.lst (xs++[y])))
theorem AI:MtM X "list.append" Ii:=by
 intro pins s σ H x vs v us Q I rx rv h;obtain ⟨l,xs,y,rfl,rfl,hH,hz,q⟩:=h;cases rx
 obtain ⟨u,rfl,ru⟩:=rv.one;obtain ⟨z,its,n,r,hl,e⟩:=I.lstM hH;refine call_meets F.slot_list_append ⟨_,e,rfl⟩ F.entry_list_append (F.args_list_append_2 _ _) (PySem.list_append l its.toArray n u (by rw [ar]; omega)) ⟨e,?_⟩;refine ⟨.non,_,I.lset (its':=its++[u]) hH e (by simp) (r.append (.cons ru .nil)) ?_,rfl,q⟩;rw [fj,List.length_singleton];omega
def M8:V->List V->Hp->VK->Prop:=fun x vs H Q=>∃ l xs,x=.ref l/\vs=[]/\H l=some (.lst xs)/\Q .non (upd H l (.lst []))
theorem M9:MtM X "list.clear" M8:=by
 intro pins s σ H x vs v us Q I rx rv h;obtain ⟨l,xs,rfl,rfl,hH,q⟩:=h;cases rx
 have hus:=rv.zero;subst hus;obtain ⟨z,its,n,r,hl,e⟩:=I.lstM hH;refine call_meets F.slot_list_clear ⟨_,e,rfl⟩ F.entry_list_clear (F.args_list_clear_1 _) (AutoSeq1.list_clear_list_0 l its.toArray n (by rw [ar]; omega)) ⟨e,?_⟩;exact ⟨.non,_,I.lset (its':=[]) (ys:=[]) hH e rfl .nil (cg _),rfl,q⟩
def Wc:R2:=fun x y H Q=>∃ l b xs zs,x=.ref l/\y=.ref b/\H l=some (.lst xs)/\H b=some (.lst zs)/\xs.length+zs.length<=av/\∀ p,H p=none->Q (.ref p) (upd H p (.lst (xs++zs)))
theorem Uc:OpR X (fi .Add) Wc:=by
 intro pins s σ H x y v u Q I rx ry h;obtain ⟨l,b,xs,zs,rfl,rfl,hH,hB,hz,q⟩:=h;cases rx
 cases ry
 obtain ⟨z,its,n,r,hl,e⟩:=I.lstM hH;obtain ⟨z2,its2,n2,r2,hl2,e2⟩:=I.lstM hB;refine PySem.P.add_list e e2 ?_ (by rw [ar,ar]; omega);have ea:its.toArray++its2.toArray=(its++its2).toArray:=by simp
 rw [ea];exact ⟨.ref _,_,I.lnew (t':=s.toks) (r.append r2) (by rw [fj]; omega),rfl,q _ I.fresh⟩
end
end L2
namespace Att
open PySem PySem.W PySem.Calls PyProof.Rows
theorem vN {P:Params} {h:Heap}:∀ (ns:List Int) (vs:List Value),WellAll P h vs (ns.map WData.int)->IntsAre vs ns:=by
 intro ns
 induction ns with
 | nil=>
  intro vs w;rw [List.map_nil] at w;cases w
  exact .nil
 | cons n ns ih=>
  intro vs w;rw [a9] at w;cases w with
  | cons a b=>
   cases a
   exact .cons _ _ (ih _ b)
theorem Jp {l:OpenLaw} {n:Nat} (hn:l.most=some n) {P:Params} {h:Heap} {args:List WData} {vals:List Value}
  (hpre:l.row.toRowW.claim.pre args=true) (hwl:WellAll P h vals args):
  ∃ a vs ns,vals=[c9 a]/\args=[WData.list (ns.map WData.int)]/\h.get? a=some { cls:=.type "list",data:=.seq vs.toArray }/\IntsAre vs ns/\ns.length<=n:=by
 have hsh:WShape.hasAll [] args [.list .int]=true:=(pre_splitW hpre).1;have hc:l.pre.holds [] { args:=args }=true:=(pre_splitW hpre).2;obtain ⟨d,r,rfl,h1,h2⟩:=hasAllW_cons hsh;obtain rfl:=hasAllW_nil h2;obtain ⟨xs,rfl,h3⟩:=hasW_list h1;obtain ⟨ns,rfl⟩:=items_int h3;have hlen:ns.length<=n:=by
  unfold OpenLaw.pre at hc;have h4:(WTm.not (.lt (.lit (.int (n:Int))) (.len (.arg 0)))).holds [] { args:=[.list (ns.map .int)] }=true:=by
   have h4:=(holds_andW hc).1;rw [hn] at h4;exact h4
  have h5:=condW_of h4 (w_not (w_lt w_lit (w_len_list (w_arg rfl))));rw [ae] at h5;refine Nat.le_of_not_lt fun q=>?_;have q':(n:Int) < ((ns.length:Nat):Int):=by omega
  first
   | (rw [decide_eq_true q'] at h5; exact absurd h5 (by decide))
   | (simp at h5; omega)
 cases hwl with
 | cons w1 w2=>
  cases w2
  cases w1 with
  | list ho hall=>exact ⟨_,_,ns,rfl,rfl,ho,vN ns _ hall,hlen⟩
theorem Jq (l:OpenLaw) (args:List WData):l.row.toRowW.claim.post args (.bool true) args=true:=
 postW_of (r:=l.row.toRowW) (X:=(true == true))
  (show WShape.has [] (.bool true) .bool=true by first | rfl | decide | simp [WShape.has,WShape.arms,WShape.armsAll])
  (show (WTm.eq .res (.lit (.bool true))).value [] { args:=args,res:=some (.bool true),after:=args }=some (.bool (true == true)) from w_eq_bool (w_res rfl) w_lit) rfl
theorem attach_call {l:OpenLaw} {n:Nat} {q:Program} {loose:List Str} {XP:(Str->Option Value)->Heap->Prop} {YP:World->Heap->Prop} {d:DefRec}
  (hn:l.most=some n) (hdf:d.params.defaults=[])
  (call:∀ (w:World) (s₀ s₁:Shared) (mg mb:Str->Option Value) (fa:Addr) (o:Obj) (pm cd doc:Value) (a:Addr) (vs:List Value) (ns:List Int),
   Ground q loose [] XP w s₀ mg mb s₁.heap->YP w s₁.heap->
   s₁.heap.get? fa=some o->o.data=.func (docDef d.name d.params d.body d.scope pm cd doc)->s₁.heap.CodeRec cd d.name->mg d.name=some (.ref fa)->
   s₁.heap.get? a=some { cls:=.type "list",data:=.seq vs.toArray }->IntsAre vs ns->ns.length<=n->s₁.gens=#[]->
   codeAny (model l.prog w) callerA (.call (.ref fa) ⟨[.ref a],[]⟩) (fun r s'=>r=.ok (.ret (.bool true))/\OldK s₁.heap s'.heap/\s'.os=s₁.os/\AllBare s'.gens) s₁):
  WalkO q loose XP YP l.row.toRowW d [] (fun f vs=>PySem.call f vs):=by
 intro w s₀ s₁ mg mb G Y fa o pm cd doc dV kV ho hd hcd hD hmg hg args vals as hpre hlay hrd hwl hlo;obtain rfl:dV=.none:=Dflts.none hD hdf;obtain rfl:kV=.none:=Dflts.noKw hD;obtain ⟨a,vs,ns,rfl,rfl,hobj,hints,hlen⟩:=Jp hn hpre hwl;refine enter_call (codeAny_mono (call w s₀ s₁ mg mb fa o pm cd doc a vs ns G Y ho (fd_plain hd) hcd hmg hobj hints hlen hg) fun r s' hq=>?_);obtain ⟨rfl,h2,h3,h4⟩:=hq;exact ⟨.inl ⟨.bool true,.bool true,[],rfl,fun _=>rfl,.bool true,Jq l _,fun _=>⟨f9,fun _ hm=>(nomatch hm)⟩⟩,h2,h3,h4⟩
end Att
namespace L2
open PySem PySem.Spec PyProof.Rows
theorem AJ:∀ {vs:List Value} {ns:List Int},IntsAre vs ns->aM (ns.map V.int) vs
 | _,_,.nil=>.nil
 | _,_,.cons n t h=>.cons ⟨t,rfl⟩ (AJ h)
def M' (H:Hp):Prop:=∀ b,H b=none\/∃ o xs,H b=some (.frz o (.lst xs))
theorem Mb {P:Program} {w:World} {K:ag} {mg mb:Str->Option Value} {CX:CXT} {k:Nat} {fa a:Addr} {fd:cy} {x:Str} {sp:Sp} {s₁:Shared} {vs:List Value} {ns:List Int}
  (KX:K.In s₁.heap) (hns:s₁.heap.Ns cb mg) (hb:s₁.heap.Ns builtinsNs mb) (hbb:∀ x:Str,x≠"__name__" -> mb x=kc x) (hlim:s₁.heap.NoLimit) (hg:s₁.gens=#[])
  (ha:s₁.heap.get? a=some { cls:=.type "list",data:=.seq vs.toArray }) (hi:IntsAre vs ns) (hl:ns.length<=av) (hr:fZ k callerA)
  (F:∀ base:Heap,K.In base->base.Ns cb mg->aU P w K mg base CX k fa fd [x] sp) (hbind:∀ (s:Shared) (u:Value),BindsTo s fd ⟨[u],[]⟩ [(x,u)])
  (hsp:∀ H:Hp,M' H->SqL K H a (ns.map V.int)->sp [.ref a] H (fun v _=>v=.bl true) fun _ _ _=>False)
  (hCX:∀ H e s',CX [] H s₁ (fun _ _ _=>False) e s'->False):
  codeAny (model P w) callerA (.call (.ref fa) ⟨[.ref a],[]⟩) (fun r s'=>r=.ok (.ret (.bool true))/\OldK s₁.heap s'.heap/\s'.os=s₁.os/\AllBare s'.gens) s₁:=by
 have rv:=AJ hi;have lenV:=hi.length
 -- from an abstract heap in which nothing but the script may be tracked
 have core:∀ H:Hp,M' H->SqL K H a (ns.map V.int)->HOk P w H s₁.heap->(∀ b,H b≠none->b=a)->(H a≠none->K.lookup a=none)->
   codeAny (model P w) callerA (.call (.ref fa) ⟨[.ref a],[]⟩) (fun r s'=>r=.ok (.ret (.bool true))/\OldK s₁.heap s'.heap/\s'.os=s₁.os/\AllBare s'.gens) s₁:=by
  intro H hO hS hok hA hK;have base_of:∀ {b:Addr} {o:Obj},s₁.heap.get? b=some o->H b=none->(BR s₁.heap H).get? b=some o:=fun e n=>LM e n;have noA:∀ {b:Addr} {o:Obj} {es:Array DictEntry} {ep:Nat},s₁.heap.get? b=some o->o.data=.dict es ep->H b=none:=fun {b o es ep} e d=>by
   cases q:H b with
   | none=>rfl
   | some u=>
    have e':b=a:=hA b (by rw [q]; simp);subst e';rw [ha] at e; cases e;have d':Data.seq vs.toArray _=Data.dict es ep:=d;cases d'
  have nsK:∀ {b:Addr} {m:Str->Option Value},s₁.heap.Ns b m->(BR s₁.heap H).Ns b m:=fun {b m} ⟨o,es,ep,e,d,r⟩=>⟨o,es,ep,base_of e (noA e d),d,r⟩;have hKb:K.In (BR s₁.heap H):=fun b o e=>base_of (KX b o e) (by
   cases q:H b with
   | none=>rfl
   | some u=>
    have e':b=a:=hA b (by rw [q]; simp);subst e';rw [hK (by rw [q]; simp)] at e; cases e)
  have hM:Mod K mg (BR s₁.heap H):=⟨hKb,nsK hns,⟨mb,nsK hb,hbb⟩,let ⟨mc,h1,h2⟩:=hlim; ⟨mc,nsK h1,h2⟩⟩;have e0:FO P w K mg (BR s₁.heap H) callerA [] s₁ H:=⟨rfl,hM,fun b o e=>Q7 e,Nat.le_of_eq (Je _ _),trivial,fun b hb=>absurd (show b∈([]:List Addr) from hb) (by simp),hok,.of_eq hg⟩
  refine codeAny_mono ((F _ hKb (nsK hns)).run callerA [] s₁ H ⟨[.ref a],[]⟩ [.ref a] [.ref a] _ _ hr e0 (hbind s₁ (.ref a)) (.cons rfl .nil) (hsp H hO hS)) fun r s' h=>?_;cases r with
  | error e=>exact (hCX H e s' h).elim
  | ok fl=>
   cases fl with
   | next=>exact fu h
   | brk=>exact fu h
   | cont=>exact fu h
   | ret u=>
    obtain ⟨v,H',os,bare,un,hok',r',q⟩:=h;have q':v=.bl true:=q;subst q';obtain rfl:u=Value.bool true:=r';refine ⟨rfl,OldK.of_keep fun b o e=>?_,os,bare⟩;cases q:H b with
    | none=>exact un.keep b o e q (by intro z; exact absurd (show b∈([]:List Addr) from z) (by simp)) (by simp)
    | some u=>
     rcases hO b with z | ⟨ob,xs,z⟩
     ·rw [q] at z; cases z
     ·have z2:=un.frzs b ob _ z;obtain ⟨e1,_⟩:=hok b _ z;obtain ⟨e2,_⟩:=hok' b _ z2;rw [e] at e1; cases e1;exact e2
 cases hk:K.lookup a with
 | some o=>
  -- the script is one of the module's own objects
  have e:=KX a o hk;rw [ha] at e;cases e
  refine core (fun _=>none) (fun _=>.inl rfl) (.inr ⟨_,vs.toArray,_,hk,rfl,rfl,rfl,by rw [ar,lenV]; exact hl,by simpa using rv⟩) (fun b u z=>by have z':(none:Option HO)=some u:=z; cases z') (fun b z=>absurd rfl z) fun z=>absurd rfl z
 | none=>
  refine core (fun b=>if b=a then some (.frz { cls:=.type "list",data:=.seq vs.toArray } (.lst (ns.map V.int))) else none) (fun b=>?_) (.inl (.inr ⟨{ cls:=.type "list",data:=.seq vs.toArray },if_pos rfl⟩)) (fun b u z=>?_) (fun b z=>?_) fun _=>hk
  ·by_cases hb:b=a
   ·exact .inr ⟨_,_,if_pos hb⟩
   ·exact .inl (if_neg hb)
  ·by_cases hb:b=a
   ·have z':=(if_pos hb).symm.trans z;cases z'
    subst hb;exact ⟨ha,by rw [ae]; exact hl,vs,_,rv,ha⟩
   ·have z':=(if_neg hb).symm.trans z;cases z'
  ·by_cases hb:b=a
   ·exact hb
   ·exact absurd (if_neg hb) z
theorem walk_of {l:PySem.W.OpenLaw} {n k:Nat} {q:Program} {loose:List Str} {XP:(Str->Option Value)->Heap->Prop} {YP:World->Heap->Prop} {d:DefRec} {K:Params->ag} {CX:World->CXT} {sp:World->Sp} {x:Str}
  (hn:l.most=some n) (hn2:n<=av) (hdf:d.params.defaults=[]) (hr:fZ k callerA)
  (hY:∀ (w:World) (h:Heap),YP w h->(K w.params).In h)
  (F:∀ (w:World) (mg:Str->Option Value) (fa:Addr) (h:Heap),(K w.params).In h->h.Ns cb mg->mg d.name=some (.ref fa)->
   ∃ fd:cy,(∀ (s:Shared) (u:Value),BindsTo s fd ⟨[u],[]⟩ [(x,u)])/\
    ∀ base:Heap,(K w.params).In base->base.Ns cb mg->aU l.prog w (K w.params) mg base (CX w) k fa fd [x] (sp w))
  (hsp:∀ (w:World) (H:Hp) (a:Addr) (ns:List Int),ns.length<=n->M' H->SqL (K w.params) H a (ns.map V.int)->sp w [.ref a] H (fun v _=>v=.bl true) fun _ _ _=>False)
  (hCX:∀ (w:World) (H:Hp) (s:Shared) (e:Value) (s':Shared),CX w [] H s (fun _ _ _=>False) e s'->False):
  PySem.W.WalkO q loose XP YP l.row.toRowW d [] (fun f vs=>PySem.call f vs):=by
 refine Att.attach_call hn hdf fun w s₀ s₁ mg mb fa o pm cd doc a vs ns G Y ho hd hcd hmg hobj hints hlen hg=>?_;have KX:=hY w _ Y;obtain ⟨fd,hb,hF⟩:=F w mg fa _ KX G.T.g hmg;exact Mb KX G.T.g G.T.b G.T.builtins G.T.nolimit hg hobj hints (df hlen hn2) hr hF hb (fun H hO hS=>hsp w H a ns hlen hO hS) fun H e s'=>hCX w H s₁ e s'
def aQ (s:Stmt):Arguments:=match s with
 | .FunctionDef _ a _ _ _ _ _ _ _ _=>a
 | _=>{ posonlyargs:=[],args:=[],vararg:=none,kwonlyargs:=[],kw_defaults:=[],kwarg:=none,defaults:=[] }
def aP (s:Stmt):List Stmt:=match s with
 | .FunctionDef _ _ b _ _ _ _ _ _ _=>b
 | _=>[]
def aE (s:Stmt):Scope:=match s with
 | .FunctionDef _ _ _ _ _ _ sc _ _ _=>sc
 | _=>{ kind:=.function,names:=[],isGenerator:=false,isCoroutine:=false }
abbrev CX0:CXT:=fun _ _ _ _ _ _=>False
abbrev E0:XK:=fun _ _ _=>False
theorem Wd {X:Cx}:FP CX0 X E0:=fun _ _ _ _ _ _ _ h=>h.elim
structure Fun (K:ag) (x qual:Str) (st:Stmt) (f:Addr) (fd:cy):Prop where
 ex:∃ (oc:Value) (od:Option Addr) (kV doc pm:Value) (an:Option Addr) (cdv ct:Value) (osl:Array (Option Value)),
  fd=bz x qual (aQ st) (aP st) (aE st) .none kV doc pm an cdv ct/\K.lookup f=some ⟨oc,od,.func fd,osl⟩/\bq K cdv qual=true
 kp:bh K (.ref f)=true
section
variable {P:Program} {w:World} {K:ag} {mg:Str->Option Value} {base:Heap}
theorem Fun.ok {x qual:Str} {st:Stmt} {f:Addr} {fd:cy} {N ps:List Str} {k:Nat} {sp:Sp} (F:Fun K x qual st f fd) (S:aW N ps (aE st)) (len:∀ vs H Q E,sp vs H Q E->vs.length=ps.length)
  (hbody:∀ (cdv:Value) (A:Around) (outer:List Env) (s:Shared) (H:Hp) (vs:List V) (Q:VK) (E:XK),fZ k (A.deeper (envOfC qual (aE st) s.heap.objs.size f cdv))->sp vs H Q E->
   ∃ t,PSs (FQ CX0 P w K mg base N qual (aE st) f cdv A outer s H E).nox (aP st) t/\t { nx:=fun _ H'=>Q .non H',rt:=Q } (start N vs) H):aU P w K mg base CX0 (k+1) f fd ps sp:=by
 obtain ⟨oc,od,kV,doc,pm,an,cdv,ct,osl,rfl,lk,hcd⟩:=F.ex;refine W7 lk hcd S len fun A outer s H vs Q E hr hsp=>?_;obtain ⟨t,h,q⟩:=hbody cdv A outer s H vs Q E hr hsp;exact ⟨t,h.nox,q⟩
theorem Fun.binds {x qual:Str} {st:Stmt} {f:Addr} {fd:cy} {ps:List Str} (F:Fun K x qual st f fd)
  (h:∀ (kV doc pm:Value) (an:Option Addr) (cdv ct:Value) (us:List Value),us.length=ps.length->bindArgs (bz x qual (aQ st) (aP st) (aE st) .none kV doc pm an cdv ct) ⟨us,[]⟩=pure (ps.zip us)):Binds K fd ps []:=by
 obtain ⟨oc,od,kV,doc,pm,an,cdv,ct,osl,rfl,lk,hcd⟩:=F.ex;exact .all (h kV doc pm an cdv ct)
theorem FV {x qual:Str} {st:Stmt} {f:Addr} {oc:Value} {od an:Option Addr} {osl:Array (Option Value)} {kV doc pm cdv ct:Value} (l:K.lookup f=some ⟨oc,od,.func (bz x qual (aQ st) (aP st) (aE st) .none kV doc pm an cdv ct),osl⟩)
  (c:bq K cdv qual=true) (k:bh K (.ref f)=true):Fun K x qual st f (bz x qual (aQ st) (aP st) (aE st) .none kV doc pm an cdv ct):=⟨⟨oc,od,kV,doc,pm,an,cdv,ct,osl,rfl,l,c⟩,k⟩
end
theorem We {A:Around} {k:Nat} (hr:fZ k A):A.units+1 < cLine:=Nat.lt_of_le_of_lt (Nat.add_le_add_left (by decide:1<=64) _) hr.units
section
variable {X:Cx}
theorem pv (i:Nat) {x:Str} {pos:Pos} (hN:X.N[i]?=some x:=by rfl) (hv:Vis X.env.scope x:=by first | exact Or.inl rfl | exact Or.inr (Or.inl rfl) | exact Or.inr (Or.inr rfl)) (hd:(x == ("__debug__" : Str))=false:=by decide)
  (hcd:(x == ("__classdict__" : Str))=false:=by decide):PE X (.Name x pos) (VR i):=FI hN hv hd hcd
end
theorem DD {A B:Prop} (h:B):if false=true then A else B:=by
 rw [if_neg b9];exact h
theorem DE {A B:Prop} (h:A):if true=true then A else B:=by
 rw [if_pos rfl];exact h
def DF (H H':Hp):Prop:=∀ b o,H b=some o->H' b=some o
section
variable {κ:Type} [DecidableEq κ]
def iQ (kvs:List (κ×V)) (k:κ):Option V:=(kvs.find? fun kv=>decide (kv.1=k)).map (·.2)
def putK (kvs:List (κ×V)) (k:κ) (v:V):List (κ×V):=
 if (kvs.any fun kv=>decide (kv.1=k))=true then kvs.map (fun kv=>if kv.1=k then (kv.1,v) else kv) else kvs++[(k,v)]
theorem pJ {p:κ×V} {r:List (κ×V)} {k:κ} (e:p.1=k):iQ (p :: r) k=some p.2:=by simp [iQ,jf,e]
theorem pK {p:κ×V} {r:List (κ×V)} {k:κ} (e:¬ p.1=k):iQ (p :: r) k=iQ r k:=by simp [iQ,jf,e]
theorem wK (k:κ):∀ kvs:List (κ×V),(kvs.any fun kv=>decide (kv.1=k))=(iQ kvs k).isSome
 | []=>rfl
 | p :: r=>by
  rw [kj]
  by_cases e:p.1=k
  ·simp only [pJ e,decide_eq_true e,Bool.true_or,jo]
  ·rw [pK e,decide_eq_false e,Bool.false_or]; exact wK k r
theorem iA (kvs:List (κ×V)) (k:κ) (v:V):(putK kvs k v).length<=kvs.length+1:=by
 unfold putK;split
 ·rw [ae]; omega
 ·rw [fj,dq,List.length_nil]; omega
theorem sG.isSome_eq {o:Option V} {u:Option Value} (r:sG o u):o.isSome=u.isSome:=by
 cases o with
 | none=>cases u with
  | none=>rfl
  | some _=>exact (show False from r).elim
 | some _=>cases u with
  | none=>exact (show False from r).elim
  | some _=>rfl
theorem sG.getD {o:Option V} {u:Option Value} {d:V} {d':Value} (r:sG o u) (rd:RelV d d'):RelV (o.getD d) (u.getD d'):=by
 cases o with
 | none=>cases u with
  | none=>exact rd
  | some _=>exact (show False from r).elim
 | some _=>cases u with
  | none=>exact (show False from r).elim
  | some _=>exact r
theorem KV.val {kvs:List (κ×V)} {vs:List (κ×Value)} (r:KV kvs vs) (k:κ):sG (iQ kvs k) (valueAt vs k):=by
 unfold KV at r
 induction r with
 | nil=>exact ik
 | @cons p q ps qs h t ih=>
  obtain ⟨h1,h2⟩:=h
  by_cases e:p.1=k
  ·have e':q.1=k:=h1.symm.trans e;have b:valueAt (q :: qs) k=some q.2:=by simp [valueAt,jf,e']
   rw [pJ e,b]; exact h2
  ·have e':¬ q.1=k:=fun z=>e (h1.trans z);have b:valueAt (q :: qs) k=valueAt qs k:=by simp [valueAt,jf,e']
   rw [pK e,b]; exact ih
theorem KV.any {kvs:List (κ×V)} {vs:List (κ×Value)} (r:KV kvs vs) (k:κ):(kvs.any fun kv=>decide (kv.1=k))=vs.any fun kv=>decide (kv.1=k):=by
 unfold KV at r
 induction r with
 | nil=>rfl
 | cons h t ih=>rw [kj,kj,ih,h.1]
theorem KV.repl {kvs:List (κ×V)} {vs:List (κ×Value)} (r:KV kvs vs) (k:κ) {y:V} {u:Value} (ry:RelV y u):
  KV (kvs.map fun kv=>if kv.1=k then (kv.1,y) else kv) (vs.map fun kv=>if kv.1=k then (kv.1,u) else kv):=by
 unfold KV at r ⊢
 induction r with
 | nil=>exact .nil
 | @cons p q ps qs h t ih=>
  rw [a9,a9];refine .cons ?_ ih;obtain ⟨h1,h2⟩:=h
  by_cases e:p.1=k
  ·rw [if_pos e,if_pos (h1.symm.trans e)]; exact ⟨h1,ry⟩
  ·rw [if_neg e,if_neg (fun z=>e (h1.trans z))]; exact ⟨h1,h2⟩
theorem KV.put {kvs:List (κ×V)} {vs:List (κ×Value)} (r:KV kvs vs) (k:κ) {y:V} {u:Value} (ry:RelV y u):KV (putK kvs k y) (stored vs k u):=by
 unfold putK stored;rw [r.any k]
 by_cases e:(vs.any fun kv=>decide (kv.1=k))=true
 ·rw [if_pos e,if_pos e]; exact r.repl k ry
 ·rw [if_neg e,if_neg e]; exact Paired.snoc r ⟨rfl,ry⟩
theorem KV.length {kvs:List (κ×V)} {vs:List (κ×Value)} (r:KV kvs vs):kvs.length=vs.length:=ff r
end
theorem pL {P:Program} {w:World} {k:Key} {u:Value} (r:RelV (kV k) u):(bO P w).is k u=true:=by
 cases k with
 | inl i=>obtain ⟨t,e⟩:=(show ∃ t,u=Value.int i t from r); subst e; exact Du P w i t
 | inr x=>obtain ⟨t,e⟩:=(show ∃ t,u=Value.str x t from r); subst e; exact Dv P w x t
theorem AK {P:Program} {w:World}:∀ {ks:List Key} {us:List Value},aM (ks.map kV) us->ItemsAre (bO P w) ks us
 | [],_,r=>by rw [List.map_nil] at r; cases r; exact .nil
 | k :: ks,_,r=>by
  rw [a9] at r;cases r with
  | cons h t=>exact .cons (pL h) (AK t)
abbrev KT (H:Hp):List (List Key×V)->List (List Key×Addr×Value)->Prop:=Paired fun p q=>p.1=q.1/\H q.2.1=some (.tup (p.1.map kV))/\RelV p.2 q.2.2
theorem KT.val {H:Hp} {kvs:List (List Key×V)} {xs:List (List Key×Addr×Value)} (r:KT H kvs xs) (k:List Key):sG (iQ kvs k) ((atKey xs k).map (·.2)):=by
 induction r with
 | nil=>exact ik
 | @cons p q ps qs h t ih=>
  obtain ⟨h1,_,h2⟩:=h
  by_cases e:p.1=k
  ·have e':q.1=k:=h1.symm.trans e;have b:atKey (q :: qs) k=some q.2:=by simp [atKey,jf,e']
   rw [pJ e,b]; exact h2
  ·have e':¬ q.1=k:=fun z=>e (h1.trans z);have b:atKey (q :: qs) k=atKey qs k:=by simp [atKey,jf,e']
   rw [pK e,b]; exact ih
theorem KT.repl {H:Hp} {kvs:List (List Key×V)} {xs:List (List Key×Addr×Value)} (r:KT H kvs xs) (k:List Key) {y:V} {u:Value} (ry:RelV y u):
  KT H (kvs.map fun kv=>if kv.1=k then (kv.1,y) else kv) (xs.map (putAt k u)):=by
 induction r with
 | nil=>exact .nil
 | @cons p q ps qs h t ih=>
  rw [a9,a9];refine .cons ?_ ih;obtain ⟨h1,h2,h3⟩:=h;unfold putAt
  by_cases e:p.1=k
  ·rw [if_pos e,if_pos (h1.symm.trans e)]; exact ⟨h1,h2,ry⟩
  ·rw [if_neg e,if_neg (fun z=>e (h1.trans z))]; exact ⟨h1,h2,h3⟩
theorem KT.put {H:Hp} {kvs:List (List Key×V)} {xs:List (List Key×Addr×Value)} (r:KT H kvs xs) (k:List Key) {b:Addr} {y:V} {u:Value} (hb:H b=some (.tup (k.map kV))) (ry:RelV y u):
  KT H (putK kvs k y) (storedH xs k b u):=by
 have e:(kvs.any fun kv=>decide (kv.1=k))=(atKey xs k).isSome:=by
  rw [wK,(r.val k).isSome_eq,Option.isSome_map]
 unfold putK storedH;rw [e]
 by_cases q:(atKey xs k).isSome=true
 ·rw [if_pos q,if_pos q]; exact r.repl k ry
 ·rw [if_neg q,if_neg q]; exact Paired.snoc r ⟨rfl,hb,ry⟩
theorem KT.keeps {H H':Hp} {kvs:List (List Key×V)} {xs:List (List Key×Addr×Value)} (r:KT H kvs xs) (ht:∀ b ys,H b=some (.tup ys)->H' b=some (.tup ys)):KT H' kvs xs:=
 Paired.mapP r fun _ _ z=>⟨z.1,ht _ _ z.2.1,z.2.2⟩
section
variable {P:Program} {w:World} {H:Hp} {h:Heap} {a:Addr}
theorem T9 {u:HO} (ok:HOk P w H h) (e:Rd H a u):cB P w H h a u:=e.ok ok
theorem pM {kvs:List (Key×V)} (ok:HOk P w H h) (e:Rd H a (.dK kvs)):kvs.length<=av/\(a == fq)=false/\∃ vs,KV kvs vs/\h.DictOf (bO P w) a vs:=
 show cB P w H h a (.dK kvs) from T9 ok e
theorem DG {kvs:List (Key×V)} (ok:HOk P w H h) (e:H a=some (.dK kvs)):kvs.length<=av/\(a == fq)=false/\∃ vs,KV kvs vs/\h.DictOf (bO P w) a vs:=pM ok (.inl e)
theorem nV {ks:List Key} (ok:HOk P w H h) (e:H a=some (.tup (ks.map kV))):(tupleKind (bO P w)).is h ks a:=by
 obtain ⟨_,its,r,o,h1,h2,⟨n,h3⟩,_⟩:=(show cB P w H h a (.tup (ks.map kV)) from ok a _ e)
 exact ⟨o,its.toArray,n,h1,h2,h3,by simpa using AK r⟩
theorem wL {kvs:List (List Key×V)} (ok:HOk P w H h) (e:Rd H a (.dT kvs)):kvs.length<=av/\(a == fq)=false/\
  ∃ xs,KT H kvs xs/\h.DictOfH (tupleKind (bO P w)) a xs:=by
 obtain ⟨z,y,xs,r,o,es,ep,h1,h2,h3,h4,h5⟩:=(show cB P w H h a (.dT kvs) from T9 ok e)
 refine ⟨z,y,xs,r,o,es,ep,h1,h2,h3,h4,fun x hx=>?_,h5⟩;have all:∀ {l:List (List Key×V)} {m:List (List Key×Addr×Value)},KT H l m->∀ x∈m,(tupleKind (bO P w)).is h x.1 x.2.1:=by
  intro l m q
  induction q with
  | nil=>intro x hx; exact nomatch hx
  | @cons p q ps qs hq t ih=>
   intro x hx;rcases a7.mp hx with e | hx
   ·subst e;exact nV ok (by rw [<- hq.1]; exact hq.2.1)
   ·exact ih x hx
 exact all r x hx
theorem Wg {kvs:List (List Key×V)} (ok:HOk P w H h) (e:H a=some (.dT kvs)):kvs.length<=av/\(a == fq)=false/\
  ∃ xs,KT H kvs xs/\h.DictOfH (tupleKind (bO P w)) a xs:=wL ok (.inl e)
end
def nW (H:Hp) (a:Addr) (y:V) (r:Option V):Prop:=
 (∃ kvs k,Rd H a (.dK kvs)/\y=kV k/\r=iQ kvs k)\/∃ kvs k b,Rd H a (.dT kvs)/\y=.ref b/\H b=some (.tup (k.map kV))/\r=iQ kvs k
def Ud (H:Hp) (a:Addr) (y v:V) (H':Hp):Prop:=
 (∃ kvs k,H a=some (.dK kvs)/\y=kV k/\kvs.length < av/\H'=upd H a (.dK (putK kvs k v)))\/
 ∃ kvs k b,H a=some (.dT kvs)/\y=.ref b/\H b=some (.tup (k.map kV))/\kvs.length < av/\H'=upd H a (.dT (putK kvs k v))
theorem nW.k {H:Hp} {a:Addr} {kvs:List (Key×V)} {k:Key} (e:H a=some (.dK kvs)):nW H a (kV k) (iQ kvs k):=.inl ⟨kvs,k,.inl e,rfl,rfl⟩
theorem Ud.k {H:Hp} {a:Addr} {kvs:List (Key×V)} {k:Key} {v:V} (e:H a=some (.dK kvs)) (hl:kvs.length < av):Ud H a (kV k) v (upd H a (.dK (putK kvs k v))):=.inl ⟨kvs,k,e,rfl,hl,rfl⟩
section
variable {X:Cx} {pins:List (Addr×Obj)} {σ:St} {H:Hp} {s:Shared} {a:Addr} {y v:V} {u r:Value} {o:Option V} {A:Around} {E:Value->Shared->Prop}
theorem Inv.big (I:Inv X pins σ H s):fq < s.heap.objs.size:=by
 have h:cb < s.heap.objs.size:=(I.mod.glob.keeps I.bk).lt;exact nu (by decide) h
theorem Jr {Q:Value->Shared->Prop} (hu:A.units+1 < cLine) (I:Inv X pins σ H s) (g:nW H a y (some v)) (ry:RelV y u) (h:∀ w' s',Inv X pins σ H s'->RelV v w'->Q w' s'):
  wpAny (model X.prog X.w) A (getItem (.ref a) u) Q E s:=by
 rcases g with ⟨kvs,k,e,ey,l⟩ | ⟨kvs,k,b,e,ey,eb,l⟩
 ·subst ey;obtain ⟨z,hd,vs,rel,dd⟩:=pM I.hok e;obtain ⟨w',hw,rw'⟩:=sG.some_of (v:=v) (o:=valueAt vs k) (by rw [l]; exact rel.val k);exact wpAny_getItem_of (pL ry) dd.mapOf hw (h w' _ (I.tok _) rw')
 ·subst ey;cases (show u=c9 b from ry)
  obtain ⟨z,hd,xs,rel,dd⟩:=wL I.hok e;obtain ⟨w',hw,rw'⟩:=sG.some_of (v:=v) (o:=(atKey xs k).map (·.2)) (by rw [l]; exact rel.val k);obtain ⟨p,hp,hp2⟩:=bf.mp hw;refine wpAny_getItem_heap (jq hu) (nV I.hok eb) dd hp ?_;rw [hp2];exact h w' _ (I.tok _) rw'
theorem Yj {Q:Value->Shared->Prop} (hu:A.units+1 < cLine) (I:Inv X pins σ H s) (g:nW H a y o) (ry:RelV y u) (h:∀ s',Inv X pins σ H s'->Q (.bool o.isSome) s'):
  wpAny (model X.prog X.w) A (cm .In u (.ref a)) Q E s:=by
 rcases g with ⟨kvs,k,e,ey,l⟩ | ⟨kvs,k,b,e,ey,eb,l⟩
 ·subst ey;obtain ⟨z,hd,vs,rel,dd⟩:=pM I.hok e;refine wpAny_in_of (pL ry) hd dd.mapOf ?_;rw [<- (rel.val k).isSome_eq,<- l];exact h _ (I.tok _)
 ·subst ey;cases (show u=c9 b from ry)
  obtain ⟨z,hd,xs,rel,dd⟩:=wL I.hok e;refine wpAny_in_heap (jq hu) (nV I.hok eb) hd dd ?_;have q:=(rel.val k).isSome_eq;rw [Option.isSome_map] at q;rw [<- q,<- l];exact h _ (I.tok _)
theorem Qr {Q:Value->Shared->Prop} (hu:A.units+1 < cLine) (I:Inv X pins σ H s) (g:nW H a y o) (ry:RelV y u) (h:∀ s',Inv X pins σ H s'->Q (.bool (!o.isSome)) s'):
  wpAny (model X.prog X.w) A (cm .NotIn u (.ref a)) Q E s:=by
 rcases g with ⟨kvs,k,e,ey,l⟩ | ⟨kvs,k,b,e,ey,eb,l⟩
 ·subst ey;obtain ⟨z,hd,vs,rel,dd⟩:=pM I.hok e;refine wpAny_notIn_of (pL ry) hd dd.mapOf ?_;rw [<- (rel.val k).isSome_eq,<- l];exact h _ (I.tok _)
 ·subst ey;cases (show u=c9 b from ry)
  obtain ⟨z,hd,xs,rel,dd⟩:=wL I.hok e;refine wpAny_notIn_heap (jq hu) (nV I.hok eb) hd dd ?_;have q:=(rel.val k).isSome_eq;rw [Option.isSome_map] at q;rw [<- q,<- l];exact h _ (I.tok _)
theorem pN {h':Heap} {t':Nat} {ob:HO} (I:Inv X pins σ H s) (mu:Mut (H a)) (hs:ib a s.heap h') (he:∃ q,h'.get? a=some q) (new:cB X.prog X.w (upd H a ob) h' a ob):
  Inv X pins σ (upd H a ob) { s with heap:=h',toks:=t' }:=
 I.write (x:=a) (e:=a) mu (.inl rfl) (fun b q hb z=>(hs.2 b hb).trans z) he new
theorem BZ {P:Program} {w:World} {H':Hp} {h':Heap} {kvs:List (Key×V)} {vs:List (Key×Value)} (z:kvs.length<=av) (hd:(a == fq)=false) (rel:KV kvs vs) (dd:h'.DictOf (bO P w) a vs):
  cB P w H' h' a (.dK kvs):=⟨z,hd,vs,rel,dd⟩
theorem Js {H':Hp} {Q:Unit->Shared->Prop} (hu:A.units+1 < cLine) (I:Inv X pins σ H s) (g:Ud H a y v H') (ry:RelV y u) (rv:RelV v r) (h:∀ s',Inv X pins σ H' s'->Q () s'):
  wpAny (model X.prog X.w) A (setItem (.ref a) u r) Q E s:=by
 rcases g with ⟨kvs,k,e,ey,l,eH⟩ | ⟨kvs,k,b,e,ey,eb,l,eH⟩
 ·subst ey eH;obtain ⟨z,hd,vs,rel,dd⟩:=DG I.hok e;have hz:vs.length<=av:=by rw [<- rel.length]; exact z
  have hl:(putK kvs k v).length<=av:=by have:=iA kvs k v; omega
  refine wpAny_setItem_pairs (hsz:=hz) (pL ry) dd fun h' dd' hs=>h _ ?_;have he:∃ q,h'.get? a=some q:=let ⟨q,_,_,hq,_⟩:=dd'; ⟨q,hq⟩;exact pN I (by rw [e]; exact ik) hs he (BZ hl hd (rel.put k rv) dd')
 ·subst ey eH;cases (show u=c9 b from ry)
  obtain ⟨z,hd,xs,rel,dd⟩:=Wg I.hok e;have hz:xs.length<=av:=by rw [<- ff rel]; exact z
  have hl:(putK kvs k v).length<=av:=by have:=iA kvs k v; omega
  refine wpAny_setItem_heap (hsz:=hz) (jq hu) (nV I.hok eb) dd fun h' dd' hs=>h _ ?_;obtain ⟨q,es,ep,hq,h2,h3,h4,_,h5⟩:=dd';refine pN I (by rw [e]; exact ik) hs ⟨q,hq⟩ ⟨hl,hd,_,(rel.put k eb rv).keeps fun c ys ec=>?_,q,es,ep,hq,h2,h3,h4,h5⟩;rw [bI (VQ ec e (fun z=>nomatch z))];exact ec
end
section
variable {X:Cx} {pins:List (Addr×Obj)} {σ:St} {H:Hp} {s:Shared} {a:Addr} {kvs:List (Key×V)} {k:Key} {u:Value} {A:Around} {E:Value->Shared->Prop}
theorem Wh {Q:Value->Shared->Prop} (I:Inv X pins σ H s) (e:Rd H a (.dK kvs)) (h:∀ t s',Inv X pins σ H s'->Q (.int kvs.length t) s'):wpAny (model X.prog X.w) A (call (.builtin "len") [.ref a]) Q E s:=by
 obtain ⟨z,hd,vs,rel,dd⟩:=pM I.hok e;refine call_len_dict hd dd (by rw [<- rel.length]; rw [cz] at z; omega) ?_;rw [<- rel.length];exact h _ _ (I.tok _)
end
theorem DH {X:Cx} {pins:List (Addr×Obj)} {σ:St} {H:Hp} {s:Shared} {a:Addr} {y:V} {o:Option V} (I:Inv X pins σ H s) (g:nW H a y o):s.TypeIs (.ref a) "dict" := by
 rcases g with ⟨kvs,k,e,_,_⟩ | ⟨kvs,k,b,e,_,_,_⟩
 ·obtain ⟨_,_,vs,_,dd⟩:=pM I.hok e;exact dd.typeIs
 ·obtain ⟨_,_,xs,_,dd⟩:=wL I.hok e;exact dd.typeIs
theorem Mc {P:Program} {w:World} {H:Hp} (h:Heap) (hb:fq < h.objs.size):cB P w H (h.push { cls:=.type "dict",data:=.dict #[] }) h.objs.size (.dK []):=
 ⟨cg _,beq_eq_false_iff_ne.mpr (jx (az hb)),[],.nil,Heap.DictOf.new h⟩
def Ue:TE:=fun _ H Q=>∀ p,H p=none->Q (.ref p) (upd H p (.dK []))
section
variable {X:Cx} {pos:Pos}
theorem Md:PE X (.Dict [] [] pos) Ue:=fun pins s σ H Q I h=>
 wpAny_Dict_empty ⟨.ref s.heap.objs.size,_,I.laid (a:=s.heap.objs.size) (o:=.dK []) (t':=s.toks) (fun _ _ q=>ah _ q) (ao _) (Mc s.heap I.big),rfl,h _ (I.hok.fresh (ao _))⟩
end
def sI (kvs more:List (Key×V)):List (Key×V):=more.foldl (fun acc kv=>putK acc kv.1 kv.2) kvs
theorem KV.merge:∀ {more:List (Key×V)} {rs:List (Key×Value)} {kvs:List (Key×V)} {vs:List (Key×Value)},KV more rs->KV kvs vs->KV (sI kvs more) (merged vs rs):=by
 intro more rs kvs vs r;unfold KV at r
 induction r generalizing kvs vs with
 | nil=>intro q; exact q
 | @cons p q ps qs h t ih=>
  intro r0;have e:KV (putK kvs p.1 p.2) (stored vs q.1 q.2):=by
   have:=r0.put p.1 h.2;rw [<- h.1]; exact this
  exact ih e
theorem nJ:∀ (more kvs:List (Key×V)),(sI kvs more).length<=kvs.length+more.length
 | [],kvs=>by show kvs.length<=kvs.length+0; omega
 | p :: r,kvs=>by
  have h1:=nJ r (putK kvs p.1 p.2);have h2:=iA kvs p.1 p.2
  show (sI (putK kvs p.1 p.2) r).length<=_
  rw [dq]; omega
structure M1 (X:Cx) (o:Expr) (m:Str) (apos:Pos) (e:Expr) (cpos:Pos):Prop where
 base:km o m X.env (eval o X.env)=eval o X.env
 few:((backTo cpos (b8 [e] X.env)).all (fun x=>!x.1) && (backToKw cpos (keywordEach [] X.env)).all (fun x=>x.1.isSome)
  && decide (([e]:List Expr).length+([]:List Keyword).length+(if ([]:List Keyword).isEmpty then 0 else 1) < 30))=true
 line:(apos.endLine == cpos.line)=true
 trees:backTo cpos (b8 [e] X.env)=[(false,eval e X.env)]
structure M2 (X:Cx) (o:Expr) (m:Str) (apos:Pos) (e f:Expr) (cpos:Pos):Prop where
 base:km o m X.env (eval o X.env)=eval o X.env
 few:((backTo cpos (b8 [e,f] X.env)).all (fun x=>!x.1) && (backToKw cpos (keywordEach [] X.env)).all (fun x=>x.1.isSome)
  && decide (([e,f]:List Expr).length+([]:List Keyword).length+(if ([]:List Keyword).isEmpty then 0 else 1) < 30))=true
 line:(apos.endLine == cpos.line)=true
 trees:backTo cpos (b8 [e,f] X.env)=[(false,eval e X.env),(false,eval f X.env)]
section
variable {X:Cx} {pins:List (Addr×Obj)} {σ:St} {H:Hp} {s:Shared} {a:Addr} {y d:V} {u r:Value} {o:Option V} {A:Around} {E:Value->Shared->Prop}
theorem Ug {Q:Value->Shared->Prop} (hu:A.units+1 < cLine) (I:Inv X pins σ H s) (g:nW H a y o) (ry:RelV y u) (h:∀ w' s',Inv X pins σ H s'->RelV (o.getD .non) w'->Q w' s'):
  wpAny (model X.prog X.w) A (call (.builtin "dict.get") [.ref a,u]) Q E s:=by
 rcases g with ⟨kvs,k,e,ey,l⟩ | ⟨kvs,k,b,e,ey,eb,l⟩
 ·subst ey;obtain ⟨z,hd,vs,rel,dd⟩:=pM I.hok e;refine jr fe dd.typeIs ig (PySem.F.args_dict_get_2 _ _) (meets_dict_get (bO X.prog X.w) a (pL ry) hd) ⟨_,dd.mapOf,h _ _ (I.tok _) ?_⟩;rw [l];exact (rel.val k).getD rfl
 ·subst ey;cases (show u=c9 b from ry)
  obtain ⟨z,hd,xs,rel,dd⟩:=wL I.hok e;refine jr fe dd.typeIs ig (PySem.F.args_dict_get_2 _ _) (meetsH_dict_get (tupleKind (bO X.prog X.w)) a b hd) ⟨jq hu,k,xs,nV I.hok eb,dd,h _ _ (I.tok _) ?_⟩;rw [l];exact (rel.val k).getD rfl
theorem Uh {Q:Value->Shared->Prop} (hu:A.units+1 < cLine) (I:Inv X pins σ H s) (g:nW H a y o) (ry:RelV y u) (rd:RelV d r) (h:∀ w' s',Inv X pins σ H s'->RelV (o.getD d) w'->Q w' s'):
  wpAny (model X.prog X.w) A (call (.builtin "dict.get") [.ref a,u,r]) Q E s:=by
 rcases g with ⟨kvs,k,e,ey,l⟩ | ⟨kvs,k,b,e,ey,eb,l⟩
 ·subst ey;obtain ⟨z,hd,vs,rel,dd⟩:=pM I.hok e;refine jr fe dd.typeIs ig (PySem.F.args_dict_get_3 _ _ _) (meets_dict_get_default (bO X.prog X.w) a (pL ry) hd r) ⟨_,dd.mapOf,h _ _ (I.tok _) ?_⟩;rw [l];exact (rel.val k).getD rd
 ·subst ey;cases (show u=c9 b from ry)
  obtain ⟨z,hd,xs,rel,dd⟩:=wL I.hok e;refine jr fe dd.typeIs ig (PySem.F.args_dict_get_3 _ _ _) (meetsH_dict_get_default (tupleKind (bO X.prog X.w)) a b hd r) ⟨jq hu,k,xs,nV I.hok eb,dd,h _ _ (I.tok _) ?_⟩;rw [l];exact (rel.val k).getD rd
end
section
variable {X:Cx} {pins:List (Addr×Obj)} {σ:St} {H:Hp} {s:Shared} {a:Addr} {kvs:List (Key×V)} {A:Around} {E:Value->Shared->Prop}
theorem Mf {Q:Value->Shared->Prop} (I:Inv X pins σ H s) (e:Rd H a (.dK kvs)) (h:∀ p s',H p=none->Inv X pins σ (upd H p (.dK kvs)) s'->Q (.ref p) s'):wpAny (model X.prog X.w) A (call (.type "dict") [.ref a]) Q E s:=by
 obtain ⟨z,hd,vs,rel,dd⟩:=pM I.hok e;refine kt_call_dict hd dd (by rw [<- rel.length]; exact z) fun h' dd' hs=>?_;refine h _ _ (I.hok.fresh (ao _)) (I.laid (a:=s.heap.objs.size) (o:=.dK kvs) (t':=s.toks) (fun b q hq=>?_) (ao _) (BZ z (beq_eq_false_iff_ne.mpr (jx (az I.big))) rel dd'));exact (hs.2 b (az (ax hq))).trans (ah _ hq)
end
section
variable {X:Cx}
theorem Jt:bR X (.builtin "len") (fun xs H Q=>∃ a kvs,xs=[V.ref a]/\H a=some (.dK kvs)/\Q (.int kvs.length) H):=by
 intro pins s σ H xs us Q I r h;obtain ⟨a,kvs,rfl,ha,q⟩:=h;obtain ⟨u,rfl,ru⟩:=vals1 r;cases ru
 exact Wh I (.inl ha) fun t s' I'=>⟨.int kvs.length,H,I',⟨t,rfl⟩,q⟩
end
section
variable {prog:Program} {w:World} {A:Around} {R:Result->Shared->Prop} {s:Shared}
def Ij (ifs:List Expr) (env:Env):Sem Bool:=forIn ifs true fun c r=>if r=true then do let ok <- isTrue c env (eval c env); pure (ForInStep.yield ok) else pure (ForInStep.yield r)
theorem C1 {elt target iter:Expr} {ifs:List Expr} {scope:Scope} {pos:Pos} {it acc:Value} {env:Env} (I:Nat->Shared->Prop)
  (turn:∀ n s,I n s->wpAny (model prog w) A (pyNext it) (fun r s₁=>match r with
   | none=>R (.ok .next) s₁
   | some v=>wpAny (model prog w) A (letOwnedTupleGo target it v) (fun _ s₁'=>wpAny (model prog w) A (assign target env v) (fun _ s₂=>
     wpAny (model prog w) A (Ij ifs env) (fun ok s₃=>
      if ok=true then wpAny (model prog w) A (eval elt env) (fun x s₄=>
       wpAny (model prog w) A (call (.builtin "list.append") [acc,x]) (fun _ s₅=>∃ m,m < n/\I m s₅) (fun _ _=>False) s₄) (fun _ _=>False) s₃
      else ∃ m,m < n/\I m s₃) (fun _ _=>False) s₂) (fun _ _=>False) s₁') (fun _ _=>False) s₁) (fun _ _=>False) s)
  (n:Nat) (h:I n s):
  codeAny (model prog w) A (.compLoop (.ListComp elt [⟨target,iter,ifs,0⟩] scope pos) 0 it acc env) R s:=by
 refine codeAny_loop rfl I (fun n s hI=>?_) n h
 show wpAny _ A ((compTurn (.ListComp elt [⟨target,iter,ifs,0⟩] scope pos) 0 it acc env).onRaise (fun x=>do noteFrame x env; theTreesLotGoes x)) _ _ s
 refine wpAny_noted ?_;rw [compTurn_list];refine aa (wpAny_standAt (aa (ia (turn n s hI) (fun r s₁ h₁=>?_) fun _ _ h'=>h'.elim)));cases r with
 | none=>exact ai h₁
 | some v=>
  refine aa (ia h₁ (fun _ s₁' h₁'=>?_) fun _ _ h'=>h'.elim);refine aa (ia h₁' (fun _ s₂ h₂=>aa (ia h₂ (fun ok s₃ h₃=>?_) fun _ _ h'=>h'.elim)) fun _ _ h'=>h'.elim);cases ok with
  | false=>exact ai ⟨rfl,h₃⟩
  | true=>
   exact aa (aa (ia h₃ (fun x s₄ h₄=>aa (ia h₄ (fun _ s₅ h₅=>ai (ai ⟨rfl,h₅⟩)) fun _ _ h'=>h'.elim)) fun _ _ h'=>h'.elim))
end
def gG (cells:List (Str×Addr)):List (Str×k7)->List (Str×Addr)->List (Str×Addr)
 | [],cs=>cs
 | (n,k) :: r,cs=>gG cells r (if (k == dj)=true then (n,(cells.lookup n).getD 0) :: cs else cs)
theorem Ab {scope:Scope} {env:Env} (h:∀ y∈scope.names,y.2=dj->∃ c,env.cells.lookup y.1=some c):closureFor scope env=pure (gG env.cells scope.names []):=by
 have go:∀ (names:List (Str×k7)) (cs:List (Str×Addr)),(∀ y∈names,y.2=dj->∃ c,env.cells.lookup y.1=some c)->
   (forIn names cs fun (x:Str×k7) (r:List (Str×Addr))=>match x with
    | (name,kind)=>if (kind == dj)=true then (do let y <- cellOf env name; pure (ForInStep.yield ((name,y) :: r))) else (pure (ForInStep.yield r):Sem _))=(pure (gG env.cells names cs):Sem _):=by
  intro names
  induction names with
  | nil=>intro cs _; rfl
  | cons y r ih=>
   intro cs hy;obtain ⟨n,k⟩:=y;rw [List.forIn_cons];have ih':=fun cs'=>ih cs' fun y hm=>hy y (aj _ hm)
   by_cases hk:(k == dj)=true
   ·obtain ⟨c,hc⟩:=hy (n,k) ak (by simpa using hk)
    have e1:cellOf env n=pure c:=by unfold cellOf; rw [show env.cells.lookup n=some c from hc]
    have e2:gG env.cells ((n,k) :: r) cs=gG env.cells r ((n,c) :: cs):=by
     show gG env.cells r (if (k == dj)=true then _ else _)=_
     rw [if_pos hk,show env.cells.lookup n=some c from hc]; rfl
    rw [e2,<- ih' ((n,c) :: cs)];simp only [hk,if_true,e1,pure_bind]
   ·have e2:gG env.cells ((n,k) :: r) cs=gG env.cells r cs:=by
     show gG env.cells r (if (k == dj)=true then _ else _)=_
     rw [if_neg hk]
    rw [e2,<- ih' cs];simp only [hk,if_false,pure_bind]
    try rfl
 have:=go scope.names [] h;unfold closureFor;simpa using this
theorem uO {cells:List (Str×Addr)} {x:Str} {c:Addr}:∀ (names:List (Str×k7)) (cs:List (Str×Addr)),(gG cells names cs).lookup x=some c->cs.lookup x=some c\/(∃ y∈names,y.1=x/\y.2=dj/\c=(cells.lookup x).getD 0)
 | [],_,h=>.inl h
 | (n,k) :: r,cs,h=>by
  rcases uO r _ h with h1 | ⟨y,hy,e⟩
  ·by_cases hk:(k == dj)=true
   ·rw [if_pos hk] at h1
    by_cases hx:x=n
    ·subst hx;simp only [cj,beq_self_eq_true] at h1;exact .inr ⟨(x,k),ak,rfl,by simpa using hk,(bg h1).symm⟩
    ·have:(x == n)=false:=by simpa using hx
     simp only [cj,this] at h1;exact .inl h1
   ·rw [if_neg hk] at h1;exact .inl h1
  ·exact .inr ⟨y,aj _ hy,e⟩
theorem wM {cells:List (Str×Addr)} {x:Str}:∀ (names:List (Str×k7)) (cs:List (Str×Addr)),((∃ c,cs.lookup x=some c)\/∃ y∈names,y.1=x/\y.2=dj)->∃ c,(gG cells names cs).lookup x=some c
 | [],_,h=>by
  rcases h with h | ⟨y,hy,_⟩
  ·exact h
  ·cases hy
 | (n,k) :: r,cs,h=>by
  refine wM r _ ?_;rcases h with ⟨c,h⟩ | ⟨y,hy,e1,e2⟩
  ·left
   by_cases hk:(k == dj)=true
   ·rw [if_pos hk]
    by_cases hx:x=n
    ·subst hx; simp [cj]
    ·have:(x == n)=false:=by simpa using hx
     exact ⟨c,by simp only [cj,this]; exact h⟩
   ·rw [if_neg hk]; exact ⟨c,h⟩
  ·rcases a7.mp hy with rfl | hy
   ·left;have hk:(k == dj)=true:=by simpa using e2
    rw [if_pos hk];have hx:n=x:=e1;subst hx;simp [cj]
   ·exact .inr ⟨y,hy,e1,e2⟩
def nX (os:Scope) (oN:List Str) (sc:Scope) (N:List Str) (js:List (Option Nat)):Bool:=
 (match sc.kind with | .function=>true | _=>false) && sc.names.all (fun y=>match y.2 with
  | .cell=>(match sc.names.lookup y.1 with | some .cell=>true | _=>false)
  | _=>true) &&
 sc.names.all (fun y=>match y.2 with
  | .local=>(match sc.names.lookup y.1 with | some .local=>true | _=>false)
  | .free=>(match sc.names.lookup y.1,os.names.lookup y.1 with | some .free,some .cell=>true | some .free,some .free=>true | _,_=>false)
  | _=>true) &&
 js.length == N.length && (js.zip N).all (fun p=>match p.1 with
  | none=>true
  | some j=>(match oN[j]? with | some x=>decide (x=p.2) | none=>false) && (match sc.names.lookup p.2 with | some .free=>true | _=>false))
structure Ui (os:Scope) (oN:List Str) (sc:Scope) (N:List Str) (js:List (Option Nat)):Prop where
 kind:sc.kind=.function
 own:∀ y∈sc.names,y.2=.cell->sc.names.lookup y.1=some .cell
 nm:∀ y∈sc.names,y.2=.local->sc.names.lookup y.1=some .local
 fr:∀ y∈sc.names,y.2=.free->os.names.lookup y.1=some .cell\/os.names.lookup y.1=some .free
 len:js.length=N.length
 cap:∀ (i j:Nat),js[i]?=some (some j)->∃ x,N[i]?=some x/\oN[j]?=some x/\sc.names.lookup x=some .free
theorem Ju {os:Scope} {oN:List Str} {sc:Scope} {N:List Str} {js:List (Option Nat)} (h:nX os oN sc N js=true):Ui os oN sc N js:=by
 unfold nX at h;simp only [cq] at h;obtain ⟨⟨⟨⟨h1,h2⟩,h3⟩,h4⟩,h5⟩:=h;refine ⟨?_,fun y hy e=>?_,fun y hy e=>?_,fun y hy e=>?_,by simpa using h4,fun i j e=>?_⟩
 ·cases hk:sc.kind <;> rw [hk] at h1 <;> first | rfl | exact absurd h1 b9
 ·have:=bu.mp h2 y hy;rw [e] at this;dsimp only at this;cases hl:sc.names.lookup y.1 with
  | none=>rw [hl] at this; exact absurd this b9
  | some k=>cases k <;> rw [hl] at this <;> first | rfl | exact absurd this b9
 ·have:=bu.mp h3 y hy;rw [e] at this;dsimp only at this;cases hl:sc.names.lookup y.1 with
  | none=>rw [hl] at this; exact absurd this b9
  | some k=>cases k <;> rw [hl] at this <;> first | rfl | exact absurd this b9
 ·have:=bu.mp h3 y hy;rw [e] at this;dsimp only at this;cases hl:sc.names.lookup y.1 with
  | none=>rw [hl] at this; exact absurd this b9
  | some k=>
   rw [hl] at this;cases ho:os.names.lookup y.1 with
   | none=>rw [ho] at this; cases k <;> exact absurd this b9
   | some k'=>rw [ho] at this; cases k <;> cases k' <;> first | exact .inl rfl | exact .inr rfl | exact absurd this b9
 ·have hlen:js.length=N.length:=by simpa using h4
  obtain ⟨hi,ej⟩:=ab.mp e;have hN:i < N.length:=by omega
  have hz:(js.zip N)[i]?=some (some j,N[i]):=by
   rw [jz];exact ⟨e,by simp [hN]⟩
  have:=bu.mp h5 _ (cf hz);simp only [cq] at this;obtain ⟨t1,t2⟩:=this;refine ⟨N[i],by simp [hN],?_,?_⟩
  ·cases ho:oN[j]? with
   | none=>rw [ho] at t1; exact absurd t1 b9
   | some x=>rw [ho] at t1; rw [of_decide_eq_true t1]
  ·cases hl:sc.names.lookup N[i] with
   | none=>rw [hl] at t2; exact absurd t2 b9
   | some k=>rw [hl] at t2; cases k <;> first | rfl | exact absurd t2 b9
theorem cS {κ:Type} {x:Str} {k:κ}:∀ {l:List (Str×κ)},l.lookup x=some k->(x,k)∈l
 | [],h=>by simp at h
 | (n,v) :: r,h=>by
  by_cases hx:x=n
  ·subst hx;simp only [cj,beq_self_eq_true] at h;cases h
   exact ak
  ·have:(x == n)=false:=by simpa using hx
   simp only [cj,this] at h;exact aj _ (cS h)
theorem kU {sc:Scope} {env:Env}:∀ {names:List (Str×k7)} {x:Str} {k:k7},(names.map fun (n,k)=>if (k == dj && env.scope.kind == .function && env.kindOf n == some .cell) then (n,nv) else (n,k)).lookup x=some k->
  names.lookup x=some k\/(k=.cell/\names.lookup x=some .free)
 | [],_,_,h=>by simp at h
 | (n,q) :: r,x,k,h=>by
  have ih:=@kU sc env r x k
  by_cases hc:(q == dj && env.scope.kind == .function && env.kindOf n == some .cell)=true
  ·simp only [a9] at h;rw [if_pos hc] at h;have hq:q=.free:=by
    simp only [cq] at hc;simpa using hc.1.1
   by_cases hx:x=n
   ·subst hx;simp only [cj,beq_self_eq_true] at h ⊢;exact .inr ⟨(bg h).symm,by rw [hq]⟩
   ·have e:(x == n)=false:=by simpa using hx
    simp only [cj,e] at h ⊢;exact ih h
  ·simp only [a9] at h;rw [if_neg hc] at h
   by_cases hx:x=n
   ·subst hx;simp only [cj,beq_self_eq_true] at h ⊢;exact .inl h
   ·have e:(x == n)=false:=by simpa using hx
    simp only [cj,e] at h ⊢;exact ih h
theorem pO {env:Env}:∀ {names:List (Str×k7)} {x:Str},names.lookup x=some .free->
  (names.map fun (n,k)=>if (k == dj && env.scope.kind == .function && env.kindOf n == some .cell) then (n,nv) else (n,k)).lookup x=some .free\/
  (names.map fun (n,k)=>if (k == dj && env.scope.kind == .function && env.kindOf n == some .cell) then (n,nv) else (n,k)).lookup x=some .cell
 | [],_,h=>by simp at h
 | (n,q) :: r,x,h=>by
  have ih:=@pO env r x
  by_cases hc:(q == dj && env.scope.kind == .function && env.kindOf n == some .cell)=true
  ·simp only [a9];rw [if_pos hc]
   by_cases hx:x=n
   ·subst hx;simp only [cj,beq_self_eq_true]
    first | exact .inr rfl | exact .inr trivial
   ·have e:(x == n)=false:=by simpa using hx
    simp only [cj,e] at h ⊢;exact ih h
  ·simp only [a9];rw [if_neg hc]
   by_cases hx:x=n
   ·subst hx;simp only [cj,beq_self_eq_true] at h ⊢;exact .inl h
   ·have e:(x == n)=false:=by simpa using hx
    simp only [cj,e] at h ⊢;exact ih h
theorem bJ:∀ (names:List (Str×k7)) (n:Nat) (acc:List (Str×Addr)),d9 n names acc=d9 n names []++acc
 | [],_,_=>rfl
 | (x,k) :: r,n,acc=>by
  unfold d9;split
  ·rw [bJ r _ ((x,n) :: acc),bJ r _ [(x,n)],j7];rfl
  ·exact bJ r n acc
theorem jK {x:Str} {c:Addr}:∀ {names:List (Str×k7)} {n:Nat},(x,c)∈d9 n names []->(x,nv)∈names
 | [],_,h=>by cases h
 | (y,k) :: r,n,h=>by
  unfold d9 at h;split at h
  ·rename_i hk;rw [bJ,bj] at h;rcases h with h | h
   ·exact aj _ (jK h)
   ·have e:=bc.mp h;have ex:x=y:=congrArg ix e;have ek:k=.cell:=by simpa using hk
    rw [ex,ek];exact ak
  ·exact aj _ (jK h)
theorem uP {α:Type} {x:Str} {c:α}:∀ {l:List (Str×α)},(x,c)∈l->∃ d,l.lookup x=some d
 | (y,d) :: r,h=>by
  by_cases e:x=y
  ·subst e; exact ⟨d,by simp [cj]⟩
  ·have z:(x == y)=false:=by simpa using e
   rcases a7.mp h with q | q
   ·exact absurd (congrArg ix q) e
   ·obtain ⟨d',hd⟩:=uP q;exact ⟨d',by simp only [cj,z]; exact hd⟩
theorem eV {x:Str}:∀ {names:List (Str×k7)} {n:Nat},(x,nv)∈names->∃ c,(d9 n names []).lookup x=some c
 | (y,k) :: r,n,h=>by
  have go:∃ c,(x,c)∈d9 n ((y,k) :: r) []:=by
   rcases a7.mp h with q | q
   ·have ex:x=y:=congrArg ix q;have ek:k=.cell:=(congrArg Prod.snd q).symm;refine ⟨n,?_⟩;unfold d9;rw [if_pos (by rw [ek]; rfl),bJ,ex];exact af _ ak
   ·unfold d9;split
    ·obtain ⟨c,hc⟩:=eV (n:=n+1) q;rw [bJ];exact ⟨c,dh _ (mem_of_lookup hc)⟩
    ·obtain ⟨c,hc⟩:=eV (n:=n) q;exact ⟨c,mem_of_lookup hc⟩
  obtain ⟨c,hc⟩:=go;exact uP hc
theorem pP {α:Type} {x:Str}:∀ {l r:List (Str×α)},(l++r).lookup x=(l.lookup x).or (r.lookup x)
 | [],_=>by simp
 | (y,d) :: l,r=>by
  have ih:=pP (x:=x) (l:=l) (r:=r);cases e:x == y with
  | true=>simp [cj,e]
  | false=>simp only [List.cons_append,cj,e]; exact ih
theorem sJ {M:Model} {A:Around} {E:Value->Shared->Prop} {s:Shared} {scope:Scope} {globals:Addr} {closure:List (Str×Addr)} {qual:Str} {func:Option Addr} {code:Value} {outer:Env} {builtins:Addr} {Q:Env->Shared->Prop}
  (hQ:Q (newEnv scope s.heap.objs.size globals (d9 (s.heap.objs.size+1) scope.names closure) qual func code (some outer) builtins) { s with heap:=pushCells (s.heap.push { cls:=.type "dict",data:=.dict #[] }) scope.names }):
  wpAny M A (newFunctionEnv scope globals closure [] qual func code (some outer) builtins) Q E s:=by
 simp only [newFunctionEnv,jo,if_true];refine aa (wpAny_alloc ?_);refine aa (wpAny_layCells _ (fun name kind cells=>by cases hkc:kind == nv <;> simp [hkc]) _ _ _ _ ?_);rw [show ({ s with heap:=s.heap.push { cls:=.type "dict",data:=.dict #[] } }:Shared).heap.objs.size=s.heap.objs.size+1 from j0 ..]
 rw [List.forIn_nil];exact aa (ai (ai hQ))
def Cx.comp (X:Cx) (sc:Scope) (N:List Str) (C:Addr) (fp:List Addr) (s₀:Shared) (H₀:Hp):Cx:=
 { X with N:=N,s₀:=s₀,H₀:=H₀,env:=compEnvC sc (d9 (C+1) sc.names (gG X.env.cells sc.names [])) C X.env,outer:=X.stack,ex:=fp,fn:=fun x=>(match sc.names.lookup x with | some .cell=>true | _=>false),pn:=[],xe:=fun _ _=>False }
def FW:St->Nat->Option V
 | [],_=>none
 | x :: _,0=>x
 | _ :: r,n+1=>FW r n
theorem wN:∀ {σ:St} {i:Nat} {v:V},FW σ i=some v->σ[i]?=some (some v)
 | [],_,_,h=>by cases h
 | x :: _,0,v,h=>by
  have h':x=some v:=h;simp [h']
 | _ :: r,n+1,v,h=>by
  rw [gq];exact wN (σ:=r) (i:=n) h
def jL (js:List (Option Nat)) (σ:St):St:=js.map fun o=>match o with
 | none=>none
 | some j=>FW σ j
theorem Qs {js:List (Option Nat)} {σ:St} {i:Nat} {v:V} (h:(jL js σ)[i]?=some (some v)):∃ j,js[i]?=some (some j)/\σ[j]?=some (some v):=by
 unfold jL at h;rw [aq] at h;cases e:js[i]? with
 | none=>rw [e] at h; cases h
 | some o=>
  rw [e] at h;cases o with
  | none=>cases h
  | some j=>exact ⟨j,rfl,wN (bg h)⟩
def PTs (X:Cx) (ifs:List Expr) (t:TT):Prop:=
 ∀ (pins:List (Addr×Obj)) (s:Shared) (σ:St) (H:Hp) (Q:Bool->Hp->Prop),Inv X pins σ H s->t σ H Q->wpAny (model X.prog X.w) X.A (Ij ifs X.env) (TP X pins σ Q) X.xe s
def Wi:TT:=fun _ H Q=>Q true H
theorem Qt {X:Cx}:PTs X [] Wi:=fun _ _ _ H _ I h=>wpAny_tests_nil ⟨H,I,h⟩
theorem Qu {X:Cx} {c:Expr} {t:TT} (h:PT X c t):PTs X [c] t:=fun pins s σ H Q I q=>wpAny_tests_one (h pins s σ H Q I q)
def T' (js:List (Option Nat)) (g:TG) (tt:TT) (te:TE) (σ:St) (acc:Addr) (x:V) (H:Hp) (N:Hp->Prop):Prop:=g x (jL js σ) H fun σ2 H4=>tt σ2 H4 fun b H5=>
   if b=true then te σ2 H5 fun v H6=>∃ ys,H6 acc=some (.lst ys)/\ys.length < av/\N (upd H6 acc (.lst (ys++[v]))) else N H5
def Ik (js:List (Option Nat)) (wi:TI) (g:TG) (tt:TT) (te:TE):TE:=fun σ H Q=>wi σ H fun J H1=>∀ acc,H1 acc=none->
 ∃ W:Nat->Nat->Hp->Prop,(∃ m,W 0 m (upd H1 acc (.lst [])))/\∀ i m H2,W i m H2->
  (J.stop i H2/\Q (.ref acc) H2)\/(J.go i H2/\∃ N:Hp->Prop,(∀ H',N H'->∃ m',m' < m/\W (i+1) m' H')/\∀ x H3,J.yld i H2 x H3->T' js g tt te σ acc x H3 N)
section
variable {X:Cx} {elt iter tg:Expr} {ifs:List Expr} {sc:Scope} {pos:Pos} {os:Scope} {oN N:List Str} {js:List (Option Nat)} {wi:TI} {g:TG} {tt:TT} {te:TE}
structure Off (X:Cx) (pins:List (Addr×Obj)) (H:Hp) (C:Addr) (s:Shared):Prop where
 ns:∃ m,s.heap.Ns C m
 none:H C=none
 loc:C≠X.env.locals
 new:X.s₀.heap.objs.size<=C
 cells:∀ x c,X.env.cells.lookup x=some c->c≠C
 pins:∀ p∈X.pn++pins,p.1≠C
theorem Off.go {pins:List (Addr×Obj)} {σ:St} {H:Hp} {C:Addr} {s:Shared} {h':Heap} (o:Off X pins H C s) (I:Inv X pins σ H s) (hs:ib C s.heap h'):Inv X pins σ H { s with heap:=h' }:=
 I.turned (t':=s.toks) (fun b ob hb e=>(hs.2 b hb).trans e) o.none o.loc (.inr o.new) o.cells o.pins
theorem AL {use:Option (Value->Sem Unit)} {Q0:Value->Shared->Prop} (hc:X.calm=true) (hes:X.env.scope=os) (heN:X.N=oN) (ok:nX os oN sc N js=true) (hi:PI X tg iter wi)
  (hg:∀ C fp s₀ H₀,PG (X.comp sc N C fp s₀ H₀) tg g) (ht:∀ C fp s₀ H₀,PTs (X.comp sc N C fp s₀ H₀) ifs tt) (he:∀ C fp s₀ H₀,PE (X.comp sc N C fp s₀ H₀) elt te)
  {pins:List (Addr×Obj)} {s:Shared} {σ:St} {H:Hp} {Q:VK} (I:Inv X pins σ H s) (h:Ik js wi g tt te σ H Q)
  (hfin:∀ acc C s6 H6,Inv X pins σ H6 s6->Off X pins H6 C s6->Q (.ref acc) H6->compPost (model X.prog X.w) X.A X.xe use Q0 (.ref acc) C (.ok .next) s6)
  (hs:∀ x,i8 iter X.env x=pure x:=by intro _; rfl):
  wpAny (model X.prog X.w) X.A (comprehension (.ListComp elt [⟨tg,iter,ifs,0⟩] sc pos) sc X.env (firstIterPos [⟨tg,iter,ifs,0⟩] pos) (newList []) false (eval iter X.env) use) Q0 X.xe s:=by
 have S:=Ju ok;subst hes heN;have hcl:∀ y∈sc.names,y.2=dj->∃ c,X.env.cells.lookup y.1=some c:=fun y hy e=>I.ok.has y.1 (S.fr y hy e);have clsub:∀ x c,(gG X.env.cells sc.names []).lookup x=some c->X.env.cells.lookup x=some c:=fun x c e=>by
  rcases uO _ _ e with z | ⟨y,hy,e1,e2,e3⟩
  ·cases z
  ·obtain ⟨d,hd⟩:=hcl y hy e2;rw [e1] at hd;rw [hd] at e3;rw [hd,e3]; rfl
 refine wpAny_comprehension_free (use:=use) rfl hs (Ab hcl) S.kind S.nm (thn (hi pins s σ H _ I h) fun v s1 h1=>thn h1 fun itv s2 h2=>?_);obtain ⟨it,fp,tn,J,H2,e,I2,T,st2,f2,q⟩:=h2;subst e;obtain ⟨W,⟨m0,w0⟩,turn⟩:=q s2.heap.objs.size I2.fresh;refine f7 (sJ ?_);have I3:Inv X pins σ (upd H2 s2.heap.objs.size (.lst [])) { s2 with heap:=s2.heap.push { cls:=.type "list",data:=.seq ([]:List Value).toArray },toks:=s2.toks }:=I2.lnew (its:=[]) (ys:=[]) .nil (cg _);generalize hH3:upd H2 s2.heap.objs.size (HO.lst [])=H3 at w0 I3;generalize hs3:({ s2 with heap:=s2.heap.push { cls:=.type "list",data:=.seq ([]:List Value).toArray },toks:=s2.toks }:Shared)=s3 at I3;have es3:({ s2 with heap:=s2.heap.push { cls:=.type "list",dict:=none,data:=.seq ([]:List Value).toArray } }:Shared)=s3:=hs3;have eh3:s2.heap.push { cls:=.type "list",dict:=none,data:=.seq ([]:List Value).toArray }=s3.heap:=by rw [<- es3]
 (try rw [eh3])
 have hC:∀ b o,s3.heap.get? b=some o->b≠s3.heap.objs.size:=fun b o e=>az (ax e);have old:∀ b o,s3.heap.get? b=some o->(pushCells (s3.heap.push { cls:=.type "dict",data:=.dict #[] }) sc.names).get? b=some o:=fun b o e=>pushCells_keeps _ _ b o (ah _ e);have hns₁:(pushCells (s3.heap.push { cls:=.type "dict",data:=.dict #[] }) sc.names).Ns s3.heap.objs.size (fun _=>none):=(Heap.Ns.new s3.heap (.type "dict")).keeps (pushCells_keeps _ _);have cok:=cellsFrom_ok sc.names (s3.heap.push { cls:=.type "dict",data:=.dict #[] }) (s3.heap.objs.size+1) [] ⟨fun _ _ hm=>(nomatch hm),f9⟩ (by rw [j0]; exact ao _);rw [j0] at cok;generalize pushCells (s3.heap.push { cls:=.type "dict",data:=.dict #[] }) sc.names=h₁ at old hns₁ cok ⊢;have cl1:∀ {x c},(d9 (s3.heap.objs.size+1) sc.names (gG X.env.cells sc.names [])).lookup x=some c->((x,c)∈d9 (s3.heap.objs.size+1) sc.names []/\h₁.IsCell c none/\s3.heap.objs.size+1<=c)\/(X.env.cells.lookup x=some c/\c < s3.heap.objs.size):=fun {x c} e=>by
  rw [bJ,pP] at e;cases eo:(d9 (s3.heap.objs.size+1) sc.names []).lookup x with
  | some d=>
   rw [eo] at e;cases e
   have:=mem_of_lookup eo;exact .inl ⟨this,cok.empty x c this⟩
  | none=>
   rw [eo] at e;have e:=clsub x c e;obtain ⟨v,z⟩:=I3.cell x c e;exact .inr ⟨e,z.lt⟩
 have cl2:∀ {x c},sc.names.lookup x=some .free->(gG X.env.cells sc.names []).lookup x=some c->(d9 (s3.heap.objs.size+1) sc.names (gG X.env.cells sc.names [])).lookup x=some c:=fun {x c} hf e=>by
  rw [bJ,pP];cases eo:(d9 (s3.heap.objs.size+1) sc.names []).lookup x with
  | some d=>
   have:=S.own _ (jK (mem_of_lookup eo)) rfl;rw [hf] at this;cases this
  | none=>exact e
 have st3:tn 0 s3.heap:=T.keep 0 _ _ st2 fun b hb o e=>by
  rw [<- eh3]; exact ah _ e
 have fobj:∀ b∈fp,∃ o,s3.heap.get? b=some o/\∀ v,o.data≠.cell v:=T.obj 0 _ st3;have f3:∀ b∈fp,Dz X pins H3 b:=fun b hb=>by
  obtain ⟨o,ho,_⟩:=T.obj 0 _ st2 b hb;refine ⟨?_,(f2 b hb).2⟩;rw [<- hH3,bI (az (ax ho))];exact (f2 b hb).1
 -- the block's context
 have Xok:(X.comp sc N s3.heap.objs.size fp s3 H3).Ok:=by
  refine ⟨I.ok.mod,S.kind,I.ok.glob,I.ok.blt,ao _,fun x y c e1 e2=>?_,fun x hx=>?_,fun x c z e=>?_,I.ok.hd,I.ok.frames,.inl rfl,fun b hb=>?_,I3.bs,
   df I.ok.bsz I3.sz,fun b o e hb=>?_,fun b hb hf=>?_,I3.stack,I3.stkFree⟩
  ·rcases cl1 e1 with ⟨m1,_,g1⟩ | ⟨z1,g1⟩ <;> rcases cl1 e2 with ⟨m2,_,g2⟩ | ⟨z2,g2⟩
   ·exact name_of_addr cok.apart m1 m2
   ·exact absurd (bw g2 (Nat.le_of_succ_le g1)) (fv _)
   ·exact absurd (bw g1 (Nat.le_of_succ_le g2)) (fv _)
   ·exact I.ok.inj x y c z1 z2
  ·have fr:sc.names.lookup x=some .free->∃ c,(d9 (s3.heap.objs.size+1) sc.names (gG X.env.cells sc.names [])).lookup x=some c:=fun hf=>
    let ⟨c,hc⟩:=wM (cells:=X.env.cells) (x:=x) sc.names [] (.inr ⟨_,cS hf,rfl,rfl⟩)
    ⟨c,cl2 hf hc⟩
   have fin:∀ {k},(relabel sc X.env).names.lookup x=some k->(k=.cell\/k=.free)->∃ c,(d9 (s3.heap.objs.size+1) sc.names (gG X.env.cells sc.names [])).lookup x=some c:=fun {k} e hk=>by
    rcases kU (sc:=sc) e with z | ⟨_,z⟩
    ·rcases hk with rfl | rfl
     ·obtain ⟨c,hc⟩:=eV (n:=s3.heap.objs.size+1) (cS z);exact ⟨c,by rw [bJ,pP,hc]; rfl⟩
     ·exact fr z
    ·exact fr z
   rcases hx with hx | hx
   ·exact fin hx (.inl rfl)
   ·exact fin hx (.inr rfl)
  ·have z:sc.names.lookup x=some .cell:=by
    have z:(match sc.names.lookup x with | some .cell=>true | _=>false)=true:=z
    split at z
    ·assumption
    ·cases z
   have e:(d9 (s3.heap.objs.size+1) sc.names (gG X.env.cells sc.names [])).lookup x=some c:=e;obtain ⟨d,hd⟩:=eV (n:=s3.heap.objs.size+1) (cS z);rw [bJ,pP,hd] at e;cases e
   exact Nat.le_of_succ_le (cok.empty x c (mem_of_lookup hd)).2
  ·obtain ⟨o,ho,_⟩:=fobj b hb;refine ⟨hC b o ho,fun x c e=>?_⟩;rcases cl1 e with ⟨_,_,g1⟩ | ⟨z1,_⟩
   ·exact Nat.ne_of_gt (bw (ax ho) (Nat.le_of_succ_le g1))
   ·exact (f3 b hb).2.2.2.2.1 x c z1
  ·rcases (f3 b hb).2.2.2.1 with z | z
   ·exact I.ok.noex b o e z
   ·exact absurd (bw (ax e) (df I.ok.bsz z)) (fv _)
  ·rcases a7.mp (I3.stkSub b hf) with z | z
   ·exact (f3 b hb).2.1 z
   ·exact (f3 b hb).2.2.1 z
 -- what the block takes from around it
 have capt:∀ (i:Nat) (x:Str) (v:V),N[i]?=some x->(jL js σ)[i]?=some (some v)->∃ u c o,RelV v u/\((compEnvC sc (d9 (s3.heap.objs.size+1) sc.names (gG X.env.cells sc.names [])) s3.heap.objs.size X.env).kindOf x=some .cell\/(compEnvC sc (d9 (s3.heap.objs.size+1) sc.names (gG X.env.cells sc.names [])) s3.heap.objs.size X.env).kindOf x=some .free)/\
   (d9 (s3.heap.objs.size+1) sc.names (gG X.env.cells sc.names [])).lookup x=some c/\s3.heap.get? c=some o/\o.data=.cell (some u)/\H3 c=none/\c∉fp:=by
  intro i x v hN hv;obtain ⟨j,hj,hσ⟩:=Qs hv;obtain ⟨x',hx',ho,hf⟩:=S.cap i j hj;rw [hN] at hx'; cases hx';obtain ⟨m,hn,hl⟩:=I3.loc;have hvis:Vis X.env.scope x:=by
   rcases S.fr _ (cS hf) rfl with z | z
   ·exact .inr (.inl z)
   ·exact .inr (.inr z)
  obtain ⟨u,r,l⟩:=hl j x v ho hσ hvis;obtain ⟨c,hcl'⟩:=wM (cells:=X.env.cells) (x:=x) sc.names [] (.inr ⟨_,cS hf,rfl,rfl⟩);have hcx:=clsub x c hcl';have hcell:s3.heap.IsCell c (some u):=by
   rcases l with ⟨k,_⟩ | ⟨_,c',e,z⟩
   ·exfalso;rcases S.fr _ (cS hf) rfl with z | z
    ·have k':X.env.scope.names.lookup x=some .local:=k;rw [z] at k'; cases k'
    ·have k':X.env.scope.names.lookup x=some .local:=k;rw [z] at k'; cases k'
   ·rw [hcx] at e; cases e; exact z
  obtain ⟨o,ho',hd⟩:=hcell;refine ⟨u,c,o,r,?_,cl2 hf hcl',ho',hd,I3.freeC x c hcx,fun hb=>(f3 c hb).2.2.2.2.1 x c hcx rfl⟩;exact (pO (env:=X.env) hf).symm
 -- at any state of the block,its names as at its start
 have recap:∀ {pins':List (Addr×Obj)} {σ8:St} {H8:Hp} {s8:Shared},Inv (X.comp sc N s3.heap.objs.size fp s3 H3) pins' σ8 H8 s8->Inv (X.comp sc N s3.heap.objs.size fp s3 H3) [] (jL js σ) H8 s8:=fun {pins' σ8 H8 s8} I8=>by
  refine ⟨I8.ok,I8.os,I8.bare,I8.base,?_,I8.cell,I8.free,I8.freeC,fun p hp=>by simp [Cx.comp] at hp,I8.hok,?_⟩
  ·obtain ⟨m,hn,_⟩:=I8.loc;refine ⟨m,hn,fun i x v hN hv _=>?_⟩;obtain ⟨u,c,o,r,k,hl,ho,hd,hn3,hnf⟩:=capt i x v hN hv;refine ⟨u,r,.inr ⟨k,c,hl,?_⟩⟩;obtain ⟨sl,e⟩:=I8.base.any ho hn3 hnf;exact ⟨_,e,hd⟩
  ·show (jL js σ).length=N.length
   unfold jL;rw [ae,S.len]
 have I4:Inv (X.comp sc N s3.heap.objs.size fp s3 H3) [] (jL js σ) H3 { s3 with heap:=h₁ }:=by
  refine ⟨Xok,rfl,I3.bare,Un.kept old,⟨_,hns₁,fun i x v hN hv _=>?_⟩,fun x c e=>?_,I3.fresh,fun x c e=>?_,fun p hp=>by simp [Cx.comp] at hp,I3.hok.kept old,?_⟩
  ·obtain ⟨u,c,o,r,k,hl,ho,hd,_,_⟩:=capt i x v hN hv;exact ⟨u,r,.inr ⟨k,c,hl,o,old c o ho,hd⟩⟩
  ·rcases cl1 e with ⟨_,g1,_⟩ | ⟨z1,_⟩
   ·exact ⟨_,g1⟩
   ·obtain ⟨v,o,ho,hd⟩:=I3.cell x c z1;exact ⟨v,o,old c o ho,hd⟩
  ·rcases cl1 e with ⟨_,_,g1⟩ | ⟨z1,_⟩
   ·exact I3.hok.fresh (by omega)
   ·exact I3.freeC x c z1
  ·show (jL js σ).length=N.length
   unfold jL;rw [ae,S.len]
 have st4:tn 0 h₁:=T.keep 0 _ _ st3 fun b hb o e=>old b o e;have fpok:∀ {H':Hp},(∀ b∈fp,H' b=none)->∀ b∈fp,Dz (X.comp sc N s3.heap.objs.size fp s3 H3) [] H' b:=fun {H'} hn b hb=>
  ⟨hn b hb,(Xok.exf b hb).1,Xok.exfs b hb,.inl hb,(Xok.exf b hb).2,fun p hp=>by simp [Cx.comp] at hp⟩
 have fin:∀ (s6:Shared) (H6:Hp),Inv (X.comp sc N s3.heap.objs.size fp s3 H3) [] (jL js σ) H6 s6->Q (.ref s2.heap.objs.size) H6->compPost (model X.prog X.w) X.A X.xe use Q0 (.ref s2.heap.objs.size) s3.heap.objs.size (.ok .next) s6:=fun s6 H6 I6 q6=>by
  have I7:Inv X pins σ H6 s6:=I3.call' (ch:=fp) I6.os I6.base I6.hok I6.bare fun b hb=>⟨(f3 b hb).2.2.2.1,(f3 b hb).2.1,(f3 b hb).2.2.2.2.1,(f3 b hb).2.2.2.2.2⟩;refine hfin _ _ _ _ I7 ⟨let ⟨m,hn,_⟩:=I6.loc; ⟨m,hn⟩,I6.free,Nat.ne_of_gt I3.lt,I3.sz,fun x c e=>?_,fun p hp=>?_⟩ q6
  ·obtain ⟨v,z⟩:=I3.cell x c e;exact az z.lt
  ·exact az (ax (I3.pin p hp).1)
 have loop:codeAny (model X.prog X.w) X.A (.compLoop (.ListComp elt [⟨tg,iter,ifs,0⟩] sc pos) 0 (.ref it) (.ref s2.heap.objs.size) (compEnvC sc (d9 (s3.heap.objs.size+1) sc.names (gG X.env.cells sc.names [])) s3.heap.objs.size X.env))
   (compPost (model X.prog X.w) X.A X.xe use Q0 (.ref s2.heap.objs.size) s3.heap.objs.size) { s3 with heap:=h₁ }:=by
  refine C1 (fun n s'=>∃ i H',Inv (X.comp sc N s3.heap.objs.size fp s3 H3) [] (jL js σ) H' s'/\tn i s'.heap/\(∀ b∈fp,H' b=none)/\W i n H') ?_ m0 ⟨0,H3,I4,st4,fun b hb=>(f3 b hb).1,w0⟩;rintro n s5 ⟨i,H5,I5,st5,fr5,w5⟩;rcases turn i n H5 w5 with ⟨stop,qn⟩ | ⟨go,Nn,hN,step⟩
  ·refine thn (T.done (X.comp sc N s3.heap.objs.size fp s3 H3) rfl rfl rfl hc i [] s5 (jL js σ) H5 (fun _ _=>False) I5 (fpok fr5) st5 stop) fun r s6 ⟨hr,I6⟩=>?_;subst hr;exact fin s6 H5 I6 qn
  ·refine thn (T.item (X.comp sc N s3.heap.objs.size fp s3 H3) rfl rfl rfl hc i [] s5 (jL js σ) H5 (fun _ _=>False) I5 (fpok fr5) st5 go) fun r s6 ⟨u,hr,h6⟩=>?_;subst hr;refine thn h6 fun _ s7 hz=>?_;obtain ⟨x,H7,I7,r7,y7,st7,fr7⟩:=hz;have I7':=I7.pinned (fpok fr7) (T.obj _ _ st7);refine thn (hg _ _ _ _ _ s7 _ H7 x u _ I7' r7 (step x H7 y7)) fun _ s8 ⟨σ8,H8,I8,q8⟩=>?_;refine thn (ht _ _ _ _ _ s8 σ8 H8 _ I8 q8) fun b s9 ⟨H9,I9,q9⟩=>?_;have again:∀ {σ':St} {H':Hp} {s':Shared},Inv (X.comp sc N s3.heap.objs.size fp s3 H3) ([]++wF fp s7.heap) σ' H' s'->Nn H'->∃ m,m < n/\∃ i H',Inv (X.comp sc N s3.heap.objs.size fp s3 H3) [] (jL js σ) H' s'/\tn i s'.heap/\(∀ b∈fp,H' b=none)/\W i m H':=fun {σ' H' s'} I' n'=>by
    obtain ⟨m',hm,w'⟩:=hN H' n';refine ⟨m',hm,i+1,H',recap I',T.keep _ _ _ st7 fun b hb o e=>(I'.pin (b,o) (af _ (af _ (jJ hb e)))).1,fun b hb=>?_,w'⟩;obtain ⟨o,e,d⟩:=T.obj _ _ st7 b hb;exact (I'.pin (b,o) (af _ (af _ (jJ hb e)))).2.1
   cases b with
   | false=>exact again I9 q9
   | true=>
    refine thn (he _ _ _ _ _ s9 σ8 H9 _ I9 q9) fun u' s10 ⟨v,H10,I10,rv,ys,hacc,hz,n10⟩=>?_;refine thn (AI (X:=X.comp sc N s3.heap.objs.size fp s3 H3) _ s10 σ8 H10 (.ref s2.heap.objs.size) [v] (.ref s2.heap.objs.size) [u'] (fun _ H'=>Nn H') I10 rfl (.cons rv .nil) ⟨_,ys,v,rfl,rfl,hacc,hz,n10⟩) fun _ s11 ⟨_,H11,I11,_,n11⟩=>?_;exact again I11 n11
 exact codeAny_compStart_list loop (T.self X.A 0 _ _ _ st4 loop)
theorem Qv (hc:X.calm=true) (hes:X.env.scope=os) (heN:X.N=oN) (ok:nX os oN sc N js=true) (hi:PI X tg iter wi)
  (hg:∀ C fp s₀ H₀,PG (X.comp sc N C fp s₀ H₀) tg g) (ht:∀ C fp s₀ H₀,PTs (X.comp sc N C fp s₀ H₀) ifs tt) (he:∀ C fp s₀ H₀,PE (X.comp sc N C fp s₀ H₀) elt te)
  (hs:∀ x,i8 iter X.env x=pure x:=by intro _; rfl):PE X (.ListComp elt [⟨tg,iter,ifs,0⟩] sc pos) (Ik js wi g tt te):=by
 intro pins s σ H Q I h;rw [eval_ListComp];refine AL (use:=none) hc hes heN ok hi hg ht he I h (fun acc C s6 H6 I6 o q=>?_) hs;exact ⟨o.ns.choose,o.ns.choose_spec,fun h' hs'=>⟨.ref acc,H6,o.go I6 hs',rfl,q⟩⟩
theorem FX {i:Nat} {x:Str} {pos' spos:Pos} (hN:X.N.Nodup) (hx':X.N[i]?=some x) (hloc:X.env.scope.names.lookup x=some .local) (hc:X.calm=true) (hes:X.env.scope=os) (heN:X.N=oN) (ok:nX os oN sc N js=true) (hi:PI X tg iter wi)
  (hg:∀ C fp s₀ H₀,PG (X.comp sc N C fp s₀ H₀) tg g) (ht:∀ C fp s₀ H₀,PTs (X.comp sc N C fp s₀ H₀) ifs tt) (he:∀ C fp s₀ H₀,PE (X.comp sc N C fp s₀ H₀) elt te)
  (hsw:swapsWith (.ListComp elt [⟨tg,iter,ifs,0⟩] sc pos) (some (.Name x pos')) spos.line X.env=pure true:=by rfl)
  (hs:∀ x,i8 iter X.env x=pure x:=by intro _; rfl):PS X (.Assign [.Name x pos'] (.ListComp elt [⟨tg,iter,ifs,0⟩] sc pos) spos) (TL (Ik js wi g tt te) (LP i)):=by
 intro pins s σ H D I h;rw [exec_Assign_Name_used _ _ _ _ hsw];refine aa (wpAny_standAt (aa ?_))
 show wpAny _ X.A (do let _ <- comprehension (.ListComp elt [⟨tg,iter,ifs,0⟩] sc pos) sc X.env _ (newList []) false (eval iter X.env) (some (assign (.Name x pos') X.env))) _ _ s
 refine aa (thn (AL (use:=some (assign (.Name x pos') X.env)) (Q0:=fun _ s'=>SP X pins D .next s') hc hes heN ok hi hg ht he I h (fun acc C s6 H6 I6 o q=>?_) hs) fun _ s' hq=>ai (ai hq))
 show wpAny _ X.A (assign (.Name x pos') X.env (.ref acc)) _ _ _
 refine wpAny_assign_Name (AC I6 hN hx' (.inl hloc) (v:=.ref acc) rfl (fun s7 I7 ⟨a,hs7,ha⟩=>?_) (.inr hloc));have hCa:C≠a:=by
  rcases ha with rfl | ha
  ·exact o.loc
  ·exact fun e=>o.cells x a ha e.symm
 obtain ⟨m,hn⟩:=o.ns;have o7:Off X pins H6 C s7:=⟨⟨m,hn.sameBut hs7 hCa⟩,o.none,o.loc,o.new,o.cells,o.pins⟩;exact ⟨m,hn.sameBut hs7 hCa,fun h' hs'=>⟨_,H6,o7.go I7 hs',q⟩⟩
end
section
variable {X:Cx}
def Wj:V->Option Int->Option Int->Hp->VK->Prop:=fun x lo hi H Q=>∃ z,x=.str z/\z.length<=av/\Q (.str (Txt.slice z lo hi)) H
theorem part_of {v:Value} {o:Option Int} (h:IsPart v o):∃ p:Option (Int×Tok),v=partValue p/\p.map (·.1)=o:=by
 cases h with
 | none=>exact ⟨none,rfl,rfl⟩
 | int i t=>exact ⟨some (i,t),rfl,rfl⟩
theorem Uj:SlR X Wj:=by
 intro pins s σ H x v vl vu lo hi sl Q I rx hs pl pu h;obtain ⟨z,rfl,hz,q⟩:=h;obtain ⟨t,rfl⟩:=rx;obtain ⟨l,rfl,rfl⟩:=part_of pl;obtain ⟨u,rfl,rfl⟩:=part_of pu;obtain ⟨o,ho,hc,hd⟩:=hs;refine ⟨"str",_,PySem.F.slot_str_getitem.lookup,typeIs_str s z t,?_⟩;refine wpAny_getItem_str_slice (l:=l) (u:=u) (st:=none) ⟨o,ho,hc,hd⟩ rfl ?_;have e:sliceMade z t l u none=if ((1:Int) == 1 && (ll (l.map (·.1)) (u.map (·.1)) 1 z.length).length == z.length)=true then Made.val (.str z t) else Made.str ⟨((ll (l.map (·.1)) (u.map (·.1)) 1 z.length).filterMap (z.cps[·]?)).toArray⟩:=rfl;have hle:=Txt.slice_le z (l.map (·.1)) (u.map (·.1));unfold Txt.slice at q hle;rw [e]
 by_cases hc':((1:Int) == 1 && (ll (l.map (·.1)) (u.map (·.1)) 1 z.length).length == z.length)=true
 ·rw [if_pos hc'] at q ⊢;exact ⟨.str z,H,I,⟨t,rfl⟩,q⟩
 ·rw [if_neg hc'] at q hle ⊢;exact ⟨df hle hz,.str _,H,I.tok _,⟨_,rfl⟩,q⟩
theorem wO:∀ {ss:List Str} {us:List Value},aM (ss.map V.str) us->StrsAre us ss
 | [],_,r=>by cases r; exact .nil
 | x :: ss,_,r=>by
  cases r with
  | cons h t=>
   obtain ⟨tk,rfl⟩:=h;exact .cons x tk (wO t)
theorem AM:∀ {us:List Value} {ss:List Str},StrsAre us ss->aM (ss.map V.str) us
 | _,_,.nil=>.nil
 | _,_,.cons x t h=>.cons ⟨t,rfl⟩ (AM h)
theorem sL:bR X (.builtin "sorted") (fun xs H Q=>∃ p ss,xs=[.ref p]/\SqL X.K H p (ss.map V.str)/\ss.length < 64/\
  ∀ l ss',H l=none->ss'.Perm ss->sortedS ss'=true->Q (.ref l) (upd H l (.lst (ss'.map V.str)))):=by
 intro pins s σ H xs us Q I r h;obtain ⟨p,ss,rfl,hq,h64,q⟩:=h;obtain ⟨u,rfl,ru⟩:=vals1 r;cases ru
 obtain ⟨its,rv,pl,hz⟩:=I.list hq;have hlen:=rv.length;rw [ae] at hlen;refine sorted_strs pl.isList (wO rv) (by omega) fun out ss' a1 a2 a3=>?_;obtain ⟨e,he⟩:=sortedAll_at s.heap its out;refine ⟨.ref (s.heap.objs.size+1),_,I.laid (t':=s.toks) (o:=.lst (ss'.map V.str)) (fun b ob h=>sortedAll_old h) (Nat.le_succ _) ?_,rfl,q _ ss' (I.hok.fresh (Nat.le_succ _)) a2 a3⟩;refine ⟨?_,out.toList,e,AM a1,by rw [he]⟩;rw [ae,a2.length_eq];exact f6 (nu h64 (by decide))
theorem gT {es:List Expr} {k:Nat} {t:TGs} {n:Nat} {pos:Pos} (K:ag) (hK:X.K=K) (hc:X.calm=true) (h:PGs X es t)
  (hn:(jk es X.env).length=n:=by rfl) (hst:(jk es X.env).findIdx? (·.1)=none:=by rfl):PG X (.Tuple es k pos) (VZ K n t):=by subst hK; exact TK hc h hn hst
end
section
variable {X:Cx} {e a b:Expr} {t t' ta tb:TE} {pos:Pos}
theorem PE.imp (h:PE X e t) (i:∀ σ H Q,t' σ H Q->t σ H Q):PE X e t':=fun pins s σ H Q I q=>h pins s σ H Q I (i σ H Q q)
theorem PT.imp {t t':TT} (h:PT X e t) (i:∀ σ H Q,t' σ H Q->t σ H Q):PT X e t':=fun pins s σ H Q I q=>h pins s σ H Q I (i σ H Q q)
theorem OpR.imp {f:Value->Value->Sem Value} {r r':R2} (h:OpR X f r) (i:∀ x y H Q,r' x y H Q->r x y H Q):OpR X f r':=fun pins s σ H x y v u Q I rx ry q=>h pins s σ H x y v u Q I rx ry (i x y H Q q)
theorem bR.imp {f:Value} {r r':List V->Hp->VK->Prop} (h:bR X f r) (i:∀ xs H Q,r' xs H Q->r xs H Q):bR X f r':=fun pins s σ H xs us Q I rx q=>h pins s σ H xs us Q I rx (i xs H Q q)
def cV (i:Nat):TE:=fun σ H Q=>match FW σ i with
 | some v=>Q v H
 | none=>False
theorem cv (i:Nat) {x:Str} (hN:X.N[i]?=some x:=by rfl) (hv:Vis X.env.scope x:=by first | exact Or.inl rfl | exact Or.inr (Or.inl rfl) | exact Or.inr (Or.inr rfl)) (hd:(x == ("__debug__" : Str))=false:=by decide)
  (hcd:(x == ("__classdict__" : Str))=false:=by decide):PE X (.Name x pos) (cV i):=by
 refine (FI hN hv hd hcd).imp fun σ H Q h=>?_;unfold cV at h;cases e:FW σ i with
 | none=>rw [e] at h; exact h.elim
 | some v=>rw [e] at h; exact ⟨v,wN e,h⟩
def Wl (K:ag):R2:=fun x y H Q=>match x,y with
 | .int i,.int j=>Q (.int (i+j)) H
 | .str i,.str j=>i.length+j.length<=av/\Q (.str (i++j)) H
 | .ref _,.ref _=>Wc x y H Q\/T8 K x y H Q
 | _,_=>False
theorem Qw (K:ag) (hK:X.K=K):OpR X (fi .Add) (Wl K):=by
 subst hK;refine (TV.or (FN.or (Uc.or Qo))).imp fun x y H Q h=>?_;cases x <;> cases y <;> first
  | exact .inl ⟨_,_,rfl,rfl,h⟩
  | exact .inr (.inl ⟨_,_,rfl,rfl,h.1,h.2⟩)
  | exact .inr (.inr h)
  | exact h.elim
def AN (C:Int->Int->Prop) (f:Int->Int->Int):R2:=fun x y H Q=>match x,y with
 | .int i,.int j=>C i j/\Q (.int (f i j)) H
 | _,_=>False
def Mh (f:Int->Int->Int):R2:=fun x y H Q=>match x,y with
 | .int i,.int j=>Q (.int (f i j)) H
 | _,_=>False
theorem vV {f:Value->Value->Sem Value} {C:Int->Int->Prop} {g:Int->Int->Int} (h:OpR X f (rI C fun i j=>.int (g i j))):OpR X f (AN C g):=
 h.imp fun x y H Q q=>by cases x <;> cases y <;> first | exact ⟨_,_,rfl,rfl,q.1,q.2⟩ | exact q.elim
theorem Mj {f:Value->Value->Sem Value} {g:Int->Int->Int} (h:OpR X f (rI0 fun i j=>.int (g i j))):OpR X f (Mh g):=
 h.imp fun x y H Q q=>by cases x <;> cases y <;> first | exact ⟨_,_,rfl,rfl,q⟩ | exact q.elim
theorem Qx:OpR X (fi .Sub) (Mh fun i j=>i - j):=Mj TX
theorem Qy:OpR X (fi .Mult) (AN DA fun i j=>i*j):=vV TY
theorem Qz:OpR X (fi .FloorDiv) (AN LU fun i j=>i / j):=vV Qg
theorem QA:OpR X (fi .Mod) (AN (fun _ j=>0 < j) fun i j=>i % j):=vV TZ
theorem QB:OpR X (fi .Pow) (AN Jg fun i j=>i ^ j.toNat):=vV U0
def DI (f:Int->Int->Bool) (g:List Nat->List Nat->Bool):R2:=fun x y H Q=>match x,y with
 | .int i,.int j=>Q (.bl (f i j)) H
 | .str i,.str j=>Q (.bl (g i.cps.toList j.cps.toList)) H
 | _,_=>False
theorem C2 {f:Value->Value->Sem Value} {p:Int->Int->Bool} {g:List Nat->List Nat->Bool} (h1:OpR X f (rI0 fun i j=>.bl (p i j)))
  (h2:OpR X f (fun x y H Q=>∃ i j,x=.str i/\y=.str j/\Q (.bl (g i.cps.toList j.cps.toList)) H)):OpR X f (DI p g):=
 (h1.or h2).imp fun x y H Q q=>by cases x <;> cases y <;> first | exact .inl ⟨_,_,rfl,rfl,q⟩ | exact .inr ⟨_,_,rfl,rfl,q⟩ | exact q.elim
theorem Uk:OpR X (cm .Lt) (DI (fun i j=>decide (i < j)) fun i j=>decide (i < j)):=C2 W3 Jh
theorem Ul:OpR X (cm .Gt) (DI (fun i j=>decide (j < i)) fun i j=>decide (j < i)):=C2 W5 fun pins s σ H x y v u Q I rx ry h=>by
 obtain ⟨i,j,rfl,rfl,q⟩:=h;obtain ⟨t,rfl⟩:=rx;obtain ⟨t',rfl⟩:=ry;exact PySem.P.gt_str (wG I q rfl)
theorem Um:OpR X (cm .LtE) (DI (fun i j=>decide (i<=j)) fun i j=>!decide (j < i)):=C2 W4 fun pins s σ H x y v u Q I rx ry h=>by
 obtain ⟨i,j,rfl,rfl,q⟩:=h;obtain ⟨t,rfl⟩:=rx;obtain ⟨t',rfl⟩:=ry;exact PySem.P.le_str (wG I q rfl)
end
structure YZ (t:TE):Prop where
 go:∀ σ H (Q Q':VK),(∀ v H1,Q v H1->Q' v H1)->t σ H Q->t σ H Q'
section
variable {X:Cx} {e a b:Expr} {t t' ta tb:TE} {pos:Pos}
theorem Wm {x:V} {Q:Bool->Prop} (h:match x with | .bl c=>Q c | _=>False):∃ c,x=.bl c/\Q c:=by
 cases x <;> first | exact ⟨_,rfl,h⟩ | exact h.elim
def Yk (ta tb:TE):TE:=fun σ H Q=>ta σ H fun x H1=>match x with
 | .bl c=>if c=true then tb σ H1 Q else Q (.bl false) H1
 | _=>False
theorem QC {rest:List Expr} (ha:PE X a ta) (hb:PE X (.BoolOp .And (b :: rest) pos) tb):PE X (.BoolOp .And (a :: b :: rest) pos) (Yk ta tb):=by
 intro pins s σ H Q I h;refine BoolOp_and (thn (ha pins s σ H _ I h) fun v s1 hz=>?_);obtain ⟨x,H1,I1,r1,q1⟩:=hz;obtain ⟨c,rfl,q1⟩:=Wm q1;cases r1
 refine ij ?_;cases c with
 | true=>exact hb pins s1 σ H1 Q I1 q1
 | false=>exact ⟨.bl false,H1,I1,rfl,q1⟩
theorem QD (hu:X.A.units+1 < cLine):IxR X (fun x y H Q=>∃ p v,x=.ref p/\nW H p y (some v)/\Q v H):=by
 intro value slice pins s σ H x y v u Q I rx ry h hs;obtain ⟨p,w,rfl,g,q⟩:=h;cases rx
 have hT:=DH I g;unfold subscriptTail;refine aa ?_;rw [getitemInPython_of_ne hT.not_modules];refine aa (wpAny_specialOf hT PySem.F.slot_dict_getitem.lookup ?_);have fin:wpAny (model X.prog X.w) X.A (subscripted slice false (.ref p) u) (fun r s₃=>wpAny (model X.prog X.w) X.A (letTemporaryGo value (.ref p) r >>= fun _=>pure r) (EP X pins σ Q) X.xe s₃) X.xe s:=by
  rw [hs];exact wpAny_operating (Jr hu I g ry fun w' s3 I3 rw'=>aa (wpAny_letTemporaryGo (ai ⟨w,H,I3,rw',q⟩)))
 first
  | exact ai (aa fin)
  | exact aa (ai (aa fin))
  | exact aa fin
def Wn (K:ag):R2:=fun x y H Q=>match x with
 | .str z=>(match y with
  | .int i=>z.length<=av/\∃ c,atI z.cps.toList i=some c/\Q (.str ⟨#[c]⟩) H
  | _=>False)
 | .ref p=>(∃ xs i v,y=.int i/\(SqL K H p xs\/SqT K H p xs)/\atI xs i=some v/\Q v H)\/∃ v,nW H p y (some v)/\Q v H
 | _=>False
theorem IxR.imp {r r':R2} (h:IxR X r) (i:∀ x y H Q,r' x y H Q->r x y H Q):IxR X r':=fun a b pins s σ H x y v u Q I rx ry q hs=>h a b pins s σ H x y v u Q I rx ry (i x y H Q q) hs
theorem ixC (hu:X.A.units+1 < cLine) (K:ag) (hK:X.K=K):IxR X (Wn K):=by
 subst hK;refine (Qp.or (U9.or (U'.or (QD hu)))).imp fun x y H Q h=>?_;cases x with
 | str z=>
  cases y with
  | int i=>obtain ⟨h1,c,h2,h3⟩:=h; exact .inr (.inr (.inl ⟨z,i,c,rfl,rfl,h1,h2,h3⟩))
  | _=>exact h.elim
 | ref p=>
  rcases h with ⟨xs,i,v,rfl,hs | hs,ha,hq⟩ | ⟨v,g,hq⟩
  ·exact .inl ⟨p,xs,i,v,rfl,rfl,hs,ha,hq⟩
  ·exact .inr (.inl ⟨p,xs,i,v,rfl,rfl,hs,ha,hq⟩)
  ·exact .inr (.inr (.inr ⟨p,v,rfl,g,hq⟩))
 | _=>exact h.elim
theorem Uo (hu:X.A.units+1 < cLine) (K:ag) (hK:X.K=K):OpR X (cm .In) (fun x y H Q=>rIn K false x y H Q\/∃ a o,y=.ref a/\nW H a x o/\Q (.bl o.isSome) H):=by
 subst hK;refine Jo.or fun pins s σ H x y v u Q I rx ry h=>?_;obtain ⟨a,o,rfl,g,q⟩:=h;cases ry
 exact Yj hu I g rx fun s' I'=>⟨.bl o.isSome,H,I',rfl,q⟩
theorem Jv (hu:X.A.units+1 < cLine) (K:ag) (hK:X.K=K):OpR X (cm .NotIn) (fun x y H Q=>rIn K true x y H Q\/∃ a o,y=.ref a/\nW H a x o/\Q (.bl (!o.isSome)) H):=by
 subst hK;refine BW.or fun pins s σ H x y v u Q I rx ry h=>?_;obtain ⟨a,o,rfl,g,q⟩:=h;cases ry
 exact Qr hu I g rx fun s' I'=>⟨.bl (!o.isSome),H,I',rfl,q⟩
def Wo (K:ag):List V->Hp->VK->Prop:=fun xs H Q=>match xs with
 | [.str y]=>y.length<=av/\Q (.int y.length) H
 | [.ref p]=>(∃ xs,(SqL K H p xs\/SqT K H p xs)/\Q (.int xs.length) H)\/∃ kvs,H p=some (.dK kvs)/\Q (.int kvs.length) H
 | _=>False
theorem Jw (K:ag) (hK:X.K=K):bR X (.builtin "len") (Wo K):=by
 subst hK;intro pins s σ H xs us Q I r h
 match xs,h with
 | [.str y],h=>exact M0 pins s σ H _ us Q I r ⟨_,_,rfl,⟨h.1,rfl⟩,h.2⟩
 | [.ref p],h=>
  rcases h with ⟨ys,hs,q⟩ | ⟨kvs,hs,q⟩
  ·exact BX pins s σ H _ us Q I r ⟨p,ys,rfl,hs,q⟩
  ·exact Jt pins s σ H _ us Q I r ⟨p,kvs,rfl,hs,q⟩
def Wp:List V->Hp->VK->Prop:=fun xs H Q=>match xs with
 | [.int i,.int j]=>Q (.int (if j > i then j else i)) H
 | _=>False
theorem Jx (hc:X.calm=true):bR X (.builtin "max") Wp:=(Ji hc).imp fun xs H Q h=>by
 match xs,h with
 | [.int i,.int j],h=>exact ⟨i,j,rfl,h⟩
theorem FY (K:ag) (hK:X.K=K):bR X (.type "list") (fun xs H Q=>∃ p ys,xs=[.ref p]/\(SqL K H p ys\/SqT K H p ys)/\∀ l,H l=none->Q (.ref l) (upd H l (.lst ys))):=by subst hK; exact BY
theorem DJ (K:ag) (hK:X.K=K):bR X (.type "tuple") (fun xs H Q=>∃ p ys,xs=[.ref p]/\((SqL K H p ys/\∀ l,H l=none->Q (.ref l) (upd H l (.tup ys)))\/(SqT K H p ys/\Q (.ref p) H))):=by subst hK; exact Aa
def Wq (ta:TA):TI:=fun σ H R=>ta σ H fun vs H1=>match vs with
 | [.int j]=>(-(2 ^ 62)<=j/\j < 2 ^ 62)/\R (Itr 0 j.toNat) H1
 | _=>False
theorem QE {vs:List V} {Q:Int->Prop} (h:match vs with | [.int i]=>Q i | _=>False):∃ i,vs=[.int i]/\Q i:=by
 split at h
 · exact ⟨_,rfl,h⟩
 · exact h.elim
theorem pr1 {x:Expr} {ta:TA} {tg:Expr} {p pos:Pos} (hg:Gl X "range") (hm:X.mg "range" = none) (ha:PA X [x] ta) (hs:b8 [x] X.env=[(false,eval x X.env)]:=by rfl):PI X tg (.Call (.Name "range" p) [x] [] pos) (Wq ta):=by
 intro pins s σ H R I h;refine Call_ (kR I hg hm boot_range (PyProof.Rows.callWith_type1 (thn (ha pos pins s σ H _ I h) fun us s1 hz=>?_) hs rfl));obtain ⟨vs,H1,I1,r1,q1⟩:=hz;obtain ⟨j,rfl,⟨h1,h2⟩,q⟩:=QE q1;obtain ⟨u,rfl,t,rfl⟩:=vals1 r1;exact call_range_1 (LS I1 (by omega) (by omega) h1 h2 (by simpa using q))
def Wr (t:TE):TO:=fun σ H Q=>t σ H fun x H1=>match x with
 | .int i=>Q (some i) H1
 | _=>False
theorem Ml {x:Expr} {te:TE} (h:PE X x te):PO X (some x) (Wr te):=by
 intro pins s σ H Q I hw;rw [evalPart_some];refine thn (h pins s σ H _ I hw) fun u s1 hz=>?_;obtain ⟨x,H1,I1,r1,q1⟩:=hz;cases x with
 | int i=>
  obtain ⟨t,rfl⟩:=r1;exact ⟨some i,H1,I1,.int i t,q1⟩
 | _=>exact q1.elim
end
structure Def (K:ag) (mg:Str->Option Value) (x:Str) (st:Stmt) (f:Addr) (fd:cy) (ps:List Str):Prop where
 fn:Fun K x x st f fd
 mg:mg x=some (.ref f)
 bd:Binds K fd ps []
section
variable {X:Cx}
theorem Ws {x:Str} {st:Stmt} {f:Addr} {fd:cy} {ps:List Str} {k:Nat} {sp:Sp} {e:Expr} {es:List Expr} {t:TA} {p pos:Pos} (D:Def X.K X.mg x st f fd ps) (G:aU X.prog X.w X.K X.mg X.base CX0 k f fd ps sp) (hr:fZ k X.A) (ha:PA X (e :: es) t)
  (hg:Gl X x:=by rfl) (hdb:(x == ("__debug__" : Str))=false:=by decide) (he:b8 (e :: es) X.env=(false,eval e X.env) :: b8 es X.env:=by rfl) (hpl:(backTo pos (b8 es X.env)).any (·.1)=false:=by rfl):
  PE X (.Call (.Name x p) (e :: es) [] pos) (T7 sp [] E0 t):=Ql G hr hg D.mg D.fn.kp D.bd .nil Wd ha hdb he hpl
end
theorem Up {α:Type} {xs:List α} {i:Int} (h0:0<=i) (h1:i < xs.length):∃ v,atI xs i=some v/\xs[i.toNat]?=some v:=by
 have h2:i.toNat < xs.length:=by omega
 refine ⟨xs[i.toNat],?_,by simp [h2]⟩;unfold atI ixN;rw [if_pos h0,if_pos h1];simp [h2]
theorem dQ {α:Type} {xs:List α} {i:Nat} {v:α} (h:xs[i]?=some v):atI xs (i:Int)=some v:=by
 have h1:=(ab.mp h).1;unfold atI ixN;rw [if_pos (by omega),if_pos (by omega)];simpa using h
theorem DF.upd {H:Hp} {a:Addr} {o:HO} (h:H a=none):DF H (upd H a o):=fun b u e=>by
 rw [bI (cR e h)]; exact e
theorem Def.mk' {K:ag} {mg:Str->Option Value} {h:Heap} {x:Str} {st:Stmt} {f:Addr} {ps:List Str} {oc:Value} {od an:Option Addr} {osl:Array (Option Value)} {kV doc pm cdv ct:Value} (X:K.In h) (G:h.Ns cb mg)
  (a:c3 K cb x=some (some (.ref f))) (l:K.lookup f=some ⟨oc,od,.func (bz x x (aQ st) (aP st) (aE st) .none kV doc pm an cdv ct),osl⟩)
  (c:bq K cdv x=true) (k:bh K (.ref f)=true)
  (b:∀ (kV doc pm:Value) (an:Option Addr) (cdv ct:Value) (us:List Value),us.length=ps.length->bindArgs (bz x x (aQ st) (aP st) (aE st) .none kV doc pm an cdv ct) ⟨us,[]⟩=pure (ps.zip us)):
  Def K mg x st f (bz x x (aQ st) (aP st) (aE st) .none kV doc pm an cdv ct) ps:=
 ⟨FV l c k,PySem.W.mg_of X G a,(FV (st:=st) l c k).binds b⟩
end L2
namespace L2
open PySem PySem.Spec PyProof.Rows PySem.SeqAt
inductive D where
 | non | bl (b:Bool) | int (i:Int) | str (x:Str) | tup (xs:List D)
mutual
def D.depth:D->Nat
 | .tup xs=>D.depths xs+1
 | _=>0
def D.depths:List D->Nat
 | []=>0
 | x :: xs=>max (D.depth x) (D.depths xs)
end
theorem D.depths_le:∀ {xs:List D} {i:Nat} {d:D},xs[i]?=some d->d.depth<=D.depths xs
 | [],_,_,h=>by simp at h
 | x :: xs,0,d,h=>by
  have:x=d:=by simpa using h
  subst this
  show x.depth<=max x.depth (D.depths xs)
  omega
 | x :: xs,i+1,d,h=>by
  have:=D.depths_le (xs:=xs) (i:=i) (d:=d) (by simpa using h)
  show d.depth<=max x.depth (D.depths xs)
  omega
mutual
/-- the value x is the datum,in the heap H -/
def Rep (K:ag) (H:Hp):D->V->Prop
 | .non,v=>v=.non
 | .bl b,v=>v=.bl b
 | .int i,v=>v=.int i
 | .str x,v=>v=.str x
 | .tup ds,v=>∃ a vs,v=.ref a/\SqT K H a vs/\cL K H ds vs
def cL (K:ag) (H:Hp):List D->List V->Prop
 | [],[]=>True
 | d :: ds,v :: vs=>Rep K H d v/\cL K H ds vs
 | [],_ :: _=>False
 | _ :: _,[]=>False
end
mutual
/-- == -/
def eqD:D->D->Bool
 | .non,.non=>true
 | .bl a,.bl b=>a == b
 | .bl a,.int b=>(if a then 1 else 0) == b
 | .int a,.bl b=>a == (if b then 1 else 0)
 | .int a,.int b=>a == b
 | .str a,.str b=>a == b
 | .tup xs,.tup ys=>eI xs ys
 | _,_=>false
def eI:List D->List D->Bool
 | [],[]=>true
 | x :: xs,y :: ys=>eqD x y && eI xs ys
 | [],_ :: _=>false
 | _ :: _,[]=>false
end
mutual
/-- < (none: an error) -/
def ltD:D->D->Option Bool
 | .int a,.int b=>some (decide (a < b))
 | .str a,.str b=>some (decide (a.cps.toList < b.cps.toList))
 | .tup xs,.tup ys=>nY xs ys
 | _,_=>none
def nY:List D->List D->Option Bool
 | [],[]=>some false
 | [],_ :: _=>some true
 | _ :: _,[]=>some false
 | x :: xs,y :: ys=>if eqD x y=true then nY xs ys else ltD x y
end
mutual
theorem iR:∀ d:D,eqD d d=true
 | .non=>rfl
 | .bl b=>by simp [eqD]
 | .int i=>by simp [eqD]
 | .str x=>by simp [eqD]
 | .tup xs=>by simp only [eqD]; exact AO xs
theorem AO:∀ ds:List D,eI ds ds=true
 | []=>rfl
 | d :: ds=>by simp only [eI,iR d,AO ds,Bool.and_self]
end
def jM (H H':Hp):Prop:=∀ a xs,Rd H a (.tup xs)->Rd H' a (.tup xs)
theorem jM.refl (H:Hp):jM H H:=fun _ _ h=>h
theorem jM.trans {H H1 H2:Hp} (a:jM H H1) (b:jM H1 H2):jM H H2:=fun c xs h=>b c xs (a c xs h)
theorem jM.same {H H':Hp} (s:DF H H'):jM H H':=fun a xs h=>by
 rcases h with h | ⟨o,h⟩
 ·exact .inl (s _ _ h)
 ·exact .inr ⟨o,s _ _ h⟩
def DK:Option HO->Prop
 | some (.tup _)=>False
 | some (.frz _ _)=>False
 | _=>True
theorem jM.upd {H:Hp} {p:Addr} {o:HO} (h:DK (H p)):jM H (upd H p o):=fun a xs q=>by
 have ne:a≠p:=by
  rintro rfl;rcases q with q | ⟨ob,q⟩
  ·rw [q] at h; exact h
  ·rw [q] at h; exact h
 rcases q with q | ⟨ob,q⟩
 ·exact .inl (by rw [bI ne]; exact q)
 ·exact .inr ⟨ob,by rw [bI ne]; exact q⟩
theorem jM.sq {K:ag} {H H':Hp} {a:Addr} {xs:List V} (t:jM H H') (h:SqT K H a xs):SqT K H' a xs:=by
 rcases h with h | h
 ·exact .inl (t a xs h)
 ·exact .inr h
section
variable {K:ag} {H H':Hp}
mutual
theorem Rep.tp (t:jM H H'):∀ {d:D} {v:V},Rep K H d v->Rep K H' d v
 | .non,_,h=>h
 | .bl _,_,h=>h
 | .int _,_,h=>h
 | .str _,_,h=>h
 | .tup ds,_,⟨a,vs,e,q,r⟩=>⟨a,vs,e,t.sq q,cL.tp t r⟩
theorem cL.tp (t:jM H H'):∀ {ds:List D} {vs:List V},cL K H ds vs->cL K H' ds vs
 | [],[],_=>trivial
 | _ :: _,_ :: _,⟨h,r⟩=>⟨Rep.tp t h,cL.tp t r⟩
 | [],_ :: _,h=>h.elim
 | _ :: _,[],h=>h.elim
end
theorem cL.length:∀ {ds:List D} {vs:List V},cL K H ds vs->ds.length=vs.length
 | [],[],_=>rfl
 | _ :: _,_ :: _,⟨_,r⟩=>by simp [cL.length r]
 | [],_ :: _,h=>h.elim
 | _ :: _,[],h=>h.elim
theorem cL.get:∀ {ds:List D} {vs:List V} {i:Nat} {v:V},cL K H ds vs->vs[i]?=some v->∃ d,ds[i]?=some d/\Rep K H d v
 | [],[],_,_,_,e=>by simp at e
 | d :: _,w :: _,0,v,⟨h,_⟩,e=>by
  have:w=v:=by simpa using e
  subst this;exact ⟨d,rfl,h⟩
 | _ :: ds,_ :: vs,i+1,v,⟨_,r⟩,e=>by
  obtain ⟨d,h1,h2⟩:=cL.get (ds:=ds) (vs:=vs) (i:=i) (v:=v) r (by simpa using e)
  exact ⟨d,by simpa using h1,h2⟩
 | [],_ :: _,_,_,h,_=>h.elim
 | _ :: _,[],_,_,h,_=>h.elim
theorem cL.at:∀ {ds:List D} {vs:List V} {i:Nat} {d:D},cL K H ds vs->ds[i]?=some d->∃ v,vs[i]?=some v/\Rep K H d v
 | [],[],_,_,_,e=>by simp at e
 | d :: _,w :: _,0,d',⟨h,_⟩,e=>by
  have:d=d':=by simpa using e
  subst this;exact ⟨w,rfl,h⟩
 | _ :: ds,_ :: vs,i+1,d,⟨_,r⟩,e=>by
  obtain ⟨v,h1,h2⟩:=cL.at (ds:=ds) (vs:=vs) (i:=i) (d:=d) r (by simpa using e)
  exact ⟨v,by simpa using h1,h2⟩
 | [],_ :: _,_,_,h,_=>h.elim
 | _ :: _,[],_,_,h,_=>h.elim
end
section
variable {X:Cx} {pins:List (Addr×Obj)} {σ:St} {H:Hp} {s:Shared}
theorem eJ {A:Around} {s:Shared} {v u:Value} {b:Bool} (h:RcAt A s v u b) (hs:v=u->b=true) (hf:∀ f t,v≠.float f t):EqAt A s v u b:=fun prog w E Q hq=>by
 unfold eqBool;refine dg ?_;refine wpAny_ite_split (fun hab=>?_) (fun _=>?_)
 ·have e:=hs (eq_of_beq hab);subst e;exact aa (j8 (ai hq))
 ·cases v <;> first | exact absurd rfl (hf _ _) | exact aa (h prog w E _ (ij hq)) | (cases u <;> exact aa (h prog w E _ (ij hq)))
theorem AQ {K:ag} {H:Hp} {d:D} {x:V} {v:Value} (h:Rep K H d x) (r:RelV x v):∀ f t,v≠.float f t:=fun f t e=>by
 subst e;cases d with
 | non=>cases h; cases r
 | bl b=>cases h; cases r
 | int b=>cases h; obtain ⟨_,z⟩:=r; cases z
 | str b=>cases h; obtain ⟨_,z⟩:=r; cases z
 | tup ds=>obtain ⟨_,_,rfl,_⟩:=h; cases r
theorem mJ (I:Inv X pins σ H s):∀ (n:Nat) (d e:D) (v:V),d.depth<=n->Rep X.K H d v->Rep X.K H e v->d=e
 | n,.non,e,v,_,h,h'=>by
  cases h
  cases e <;> first | (obtain ⟨_,_,z,_⟩:=h'; exact absurd z (by intro q; cases q)) | rfl | exact absurd h' (by intro z; cases z)
 | n,.bl b,e,v,_,h,h'=>by
  cases h
  cases e <;> first | (obtain ⟨_,_,z,_⟩:=h'; exact absurd z (by intro q; cases q)) | (cases h'; rfl) | exact absurd h' (by intro z; cases z)
 | n,.int i,e,v,_,h,h'=>by
  cases h
  cases e <;> first | (obtain ⟨_,_,z,_⟩:=h'; exact absurd z (by intro q; cases q)) | (cases h'; rfl) | exact absurd h' (by intro z; cases z)
 | n,.str x,e,v,_,h,h'=>by
  cases h
  cases e <;> first | (obtain ⟨_,_,z,_⟩:=h'; exact absurd z (by intro q; cases q)) | (cases h'; rfl) | exact absurd h' (by intro z; cases z)
 | 0,.tup ds,e,v,hd,h,h'=>absurd hd (by show ¬ D.depths ds+1<=0; omega)
 | n+1,.tup ds,e,v,hd,h,h'=>by
  obtain ⟨a,vs,rfl,q,r⟩:=h;cases e with
  | tup es=>
   obtain ⟨a',vs',ea,q',r'⟩:=h';cases ea
   have:=I.tuple_inj q q';subst this;have hd':D.depths ds+1<=n+1:=hd;have:ds=es:=by
    apply gd;intro i;cases hi:ds[i]? with
    | none=>
     have h1:=r.length;have h2:=r'.length;have:ds.length<=i:=j3.mp hi;exact (j3.mpr (by omega)).symm
    | some d=>
     obtain ⟨v,hv,hr⟩:=r.at hi;obtain ⟨e,he,hr'⟩:=r'.get hv;rw [he,mJ I n d e v (by have:=D.depths_le hi; omega) hr hr']
   rw [this]
  | _=>cases h'
theorem pQ {xs ys:List D}:((ba (min xs.length ys.length)).all (fun j=>match xs[j]?,ys[j]? with | some x,some y=>eqD x y | _,_=>false) && xs.length == ys.length)=eI xs ys:=by
 induction xs generalizing ys with
 | nil=>
  cases ys with
  | nil=>rfl
  | cons y ys=>simp [eI]
 | cons x xs ih=>
  cases ys with
  | nil=>simp [eI]
  | cons y ys=>
   have:=ih (ys:=ys);have e:min (x :: xs).length (y :: ys).length=min xs.length ys.length+1:=by simp only [dq]; omega
   rw [e,List.range_succ_eq_map,iq,List.all_map];simp only [List.getElem?_cons_zero,Function.comp_def,gq,dq,eI];rw [<- this];have e2:(xs.length+1 == ys.length+1)=(xs.length == ys.length):=by simp
   rw [e2,Bool.and_assoc]
theorem Wt (I:Inv X pins σ H s):∀ (n:Nat) (d e:D) (A:Around) (x y:V) (v u:Value),d.depth<=n->A.units+n < cLine->Rep X.K H d x->Rep X.K H e y->RelV x v->RelV y u->RcAt A s v u (eqD d e):=by
 intro n
 induction n with
 | zero=>
  intro d e A x y v u hd hu hx hy rx ry;cases d with
  | tup ds=>exact absurd hd (by show ¬ D.depths ds+1<=0; omega)
  | non=>
   cases hx; cases rx;cases e with
   | non=>cases hy; cases ry; exact RcAt.none_none
   | bl b=>cases hy; cases ry; exact RcAt.none_bool b
   | int b=>cases hy; obtain ⟨t,rfl⟩:=ry; exact RcAt.none_int b t
   | str b=>cases hy; obtain ⟨t,rfl⟩:=ry; exact RcAt.none_str b t
   | tup es=>obtain ⟨a,vs,rfl,q,r⟩:=hy; cases ry; obtain ⟨its,_,p,_⟩:=I.tuple q; exact RcAt.none_tuple p (by omega)
  | bl a=>
   cases hx; cases rx;cases e with
   | non=>cases hy; cases ry; exact RcAt.bool_none a
   | bl b=>cases hy; cases ry; exact RcAt.bool_bool a b
   | int b=>cases hy; obtain ⟨t,rfl⟩:=ry; exact RcAt.bool_int a b t
   | str b=>cases hy; obtain ⟨t,rfl⟩:=ry; exact RcAt.bool_str a b t
   | tup es=>obtain ⟨a',vs,rfl,q,r⟩:=hy; cases ry; obtain ⟨its,_,p,_⟩:=I.tuple q; exact RcAt.bool_tuple a p (by omega)
  | int a=>
   cases hx; obtain ⟨t',rfl⟩:=rx;cases e with
   | non=>cases hy; cases ry; exact RcAt.int_none a t'
   | bl b=>cases hy; cases ry; exact RcAt.int_bool a t' b
   | int b=>cases hy; obtain ⟨t,rfl⟩:=ry; exact RcAt.int_int a t' b t
   | str b=>cases hy; obtain ⟨t,rfl⟩:=ry; exact RcAt.int_str a t' b t
   | tup es=>obtain ⟨a',vs,rfl,q,r⟩:=hy; cases ry; obtain ⟨its,_,p,_⟩:=I.tuple q; exact RcAt.int_tuple a t' p (by omega)
  | str a=>
   cases hx; obtain ⟨t',rfl⟩:=rx;cases e with
   | non=>cases hy; cases ry; exact RcAt.str_none a t'
   | bl b=>cases hy; cases ry; exact RcAt.str_bool a t' b
   | int b=>cases hy; obtain ⟨t,rfl⟩:=ry; exact RcAt.str_int a t' b t
   | str b=>cases hy; obtain ⟨t,rfl⟩:=ry; exact RcAt.str_str a t' b t
   | tup es=>obtain ⟨a',vs,rfl,q,r⟩:=hy; cases ry; obtain ⟨its,_,p,_⟩:=I.tuple q; exact RcAt.str_tuple a t' p (by omega)
 | succ n ih=>
  intro d e A x y v u hd hu hx hy rx ry
  by_cases h0:d.depth<=n
  ·exact ih d e A x y v u h0 (by omega) hx hy rx ry
  ·cases d with
   | non=>exact absurd (show D.depth .non<=n from cg n) h0
   | bl b=>exact absurd (show D.depth (.bl b)<=n from cg n) h0
   | int b=>exact absurd (show D.depth (.int b)<=n from cg n) h0
   | str b=>exact absurd (show D.depth (.str b)<=n from cg n) h0
   | tup ds=>
    have hds:D.depths ds<=n:=by have:D.depths ds+1<=n+1:=hd; omega
    obtain ⟨a,vs,rfl,q,r⟩:=hx;cases rx
    obtain ⟨its,rv,p,_⟩:=I.tuple q;cases e with
    | non=>cases hy; cases ry; exact RcAt.tuple_none p (by omega)
    | bl b=>cases hy; cases ry; exact RcAt.tuple_bool b p (by omega)
    | int b=>cases hy; obtain ⟨t,rfl⟩:=ry; exact RcAt.tuple_int b t p (by omega)
    | str b=>cases hy; obtain ⟨t,rfl⟩:=ry; exact RcAt.tuple_str b t p (by omega)
    | tup es=>
     obtain ⟨a',vs',rfl,q',r'⟩:=hy;cases ry
     obtain ⟨its',rv',p',_⟩:=I.tuple q';have l1:=r.length;have l2:=r'.length;have l3:=rv.length;have l4:=rv'.length;have key:=RcAt.tuples (A:=A) (e:=fun j=>match ds[j]?,es[j]? with | some x,some y=>eqD x y | _,_=>false) p p' (by omega) (fun j h1 h2=>by
      have h1':j < ds.length:=by simp at h1; omega
      have h2':j < es.length:=by simp at h2; omega
      have g1:ds[j]?=some ds[j]:=by simp [h1']
      have g2:es[j]?=some es[j]:=by simp [h2']
      obtain ⟨xv,hxv,hrx⟩:=r.at g1;obtain ⟨yv,hyv,hry⟩:=r'.at g2;obtain ⟨xu,hxu,hru⟩:=rv.get hxv;obtain ⟨yu,hyu,hru'⟩:=rv'.get hyv;have e1:its.toArray[j]=xu:=by
       have:its[j]?=some xu:=hxu;simpa using (ab.mp this).2
      have e2:its'.toArray[j]=yu:=by
       have:its'[j]?=some yu:=hyu;simpa using (ab.mp this).2
      rw [e1,e2];simp only [g1,g2];have hdj:=D.depths_le g1;refine eJ (ih ds[j] es[j] A.in1 xv yv xu yu (by omega) (by show A.units+1+n < cLine; omega) hrx hry hru hru') (fun ev=>by
      subst ev;have exy:xv=yv:=RelV.inj hru hru';subst exy;rw [mJ I n ds[j] es[j] xv (by omega) hrx hry];exact iR _) (AQ hrx hru))
     have sz:((ba (min its.toArray.size its'.toArray.size)).all (fun j=>match ds[j]?,es[j]? with | some x,some y=>eqD x y | _,_=>false) && its.toArray.size == its'.toArray.size)=eqD (.tup ds) (.tup es):=by
      have a1:its.toArray.size=ds.length:=by simp; omega
      have a2:its'.toArray.size=es.length:=by simp; omega
      rw [a1,a2];simp only [eqD];exact pQ
     rw [<- sz];exact key
theorem Mm (I:Inv X pins σ H s) {n:Nat} {d e:D} {A:Around} {x y:V} {v u:Value} (hd:d.depth<=n) (hu:A.units+n < cLine) (hx:Rep X.K H d x) (hy:Rep X.K H e y) (rx:RelV x v) (ry:RelV y u):EqAt A s v u (eqD d e):=
 eJ (Wt I n d e A x y v u hd hu hx hy rx ry) (fun ev=>by
  subst ev;have exy:x=y:=RelV.inj rx ry;subst exy;rw [mJ I n d e x hd hx hy];exact iR _) (AQ hx rx)
theorem Uq (I:Inv X pins σ H s):∀ (n:Nat) (d e:D) (A:Around) (x y:V) (v u:Value),d.depth<=n->A.units+n < cLine->Rep X.K H d x->Rep X.K H e y->RelV x v->RelV y u->RcNeAt A s v u (!eqD d e):=by
 intro n
 induction n with
 | zero=>
  intro d e A x y v u hd hu hx hy rx ry;cases d with
  | tup ds=>exact absurd hd (by show ¬ D.depths ds+1<=0; omega)
  | non=>
   cases hx; cases rx;cases e with
   | non=>cases hy; cases ry; exact RcNeAt.none_none
   | bl b=>cases hy; cases ry; exact RcNeAt.none_bool b
   | int b=>cases hy; obtain ⟨t,rfl⟩:=ry; exact RcNeAt.none_int b t
   | str b=>cases hy; obtain ⟨t,rfl⟩:=ry; exact RcNeAt.none_str b t
   | tup es=>obtain ⟨a,vs,rfl,q,r⟩:=hy; cases ry; obtain ⟨its,_,p,_⟩:=I.tuple q; exact RcNeAt.none_tuple p (by omega)
  | bl a=>
   cases hx; cases rx;cases e with
   | non=>cases hy; cases ry; exact RcNeAt.bool_none a
   | bl b=>cases hy; cases ry; exact RcNeAt.bool_bool a b
   | int b=>cases hy; obtain ⟨t,rfl⟩:=ry; exact RcNeAt.bool_int a b t
   | str b=>cases hy; obtain ⟨t,rfl⟩:=ry; exact RcNeAt.bool_str a b t
   | tup es=>obtain ⟨a',vs,rfl,q,r⟩:=hy; cases ry; obtain ⟨its,_,p,_⟩:=I.tuple q; exact RcNeAt.bool_tuple a p (by omega)
  | int a=>
   cases hx; obtain ⟨t',rfl⟩:=rx;cases e with
   | non=>cases hy; cases ry; exact RcNeAt.int_none a t'
   | bl b=>cases hy; cases ry; exact RcNeAt.int_bool a t' b
   | int b=>cases hy; obtain ⟨t,rfl⟩:=ry; exact RcNeAt.int_int a t' b t
   | str b=>cases hy; obtain ⟨t,rfl⟩:=ry; exact RcNeAt.int_str a t' b t
   | tup es=>obtain ⟨a',vs,rfl,q,r⟩:=hy; cases ry; obtain ⟨its,_,p,_⟩:=I.tuple q; exact RcNeAt.int_tuple a t' p (by omega)
  | str a=>
   cases hx; obtain ⟨t',rfl⟩:=rx;cases e with
   | non=>cases hy; cases ry; exact RcNeAt.str_none a t'
   | bl b=>cases hy; cases ry; exact RcNeAt.str_bool a t' b
   | int b=>cases hy; obtain ⟨t,rfl⟩:=ry; exact RcNeAt.str_int a t' b t
   | str b=>cases hy; obtain ⟨t,rfl⟩:=ry; exact RcNeAt.str_str a t' b t
   | tup es=>obtain ⟨a',vs,rfl,q,r⟩:=hy; cases ry; obtain ⟨its,_,p,_⟩:=I.tuple q; exact RcNeAt.str_tuple a t' p (by omega)
 | succ n ih=>
  intro d e A x y v u hd hu hx hy rx ry
  by_cases h0:d.depth<=n
  ·exact ih d e A x y v u h0 (by omega) hx hy rx ry
  ·cases d with
   | non=>exact absurd (show D.depth .non<=n from cg n) h0
   | bl b=>exact absurd (show D.depth (.bl b)<=n from cg n) h0
   | int b=>exact absurd (show D.depth (.int b)<=n from cg n) h0
   | str b=>exact absurd (show D.depth (.str b)<=n from cg n) h0
   | tup ds=>
    have hds:D.depths ds<=n:=by have:D.depths ds+1<=n+1:=hd; omega
    obtain ⟨a,vs,rfl,q,r⟩:=hx;cases rx
    obtain ⟨its,rv,p,_⟩:=I.tuple q;cases e with
    | non=>cases hy; cases ry; exact RcNeAt.tuple_none p (by omega)
    | bl b=>cases hy; cases ry; exact RcNeAt.tuple_bool b p (by omega)
    | int b=>cases hy; obtain ⟨t,rfl⟩:=ry; exact RcNeAt.tuple_int b t p (by omega)
    | str b=>cases hy; obtain ⟨t,rfl⟩:=ry; exact RcNeAt.tuple_str b t p (by omega)
    | tup es=>
     obtain ⟨a',vs',rfl,q',r'⟩:=hy;cases ry
     obtain ⟨its',rv',p',_⟩:=I.tuple q';have l1:=r.length;have l2:=r'.length;have l3:=rv.length;have l4:=rv'.length;have key:=RcNeAt.tuples (A:=A) (e:=fun j=>match ds[j]?,es[j]? with | some x,some y=>eqD x y | _,_=>false) p p' (by omega) (fun j h1 h2=>by
      have h1':j < ds.length:=by simp at h1; omega
      have h2':j < es.length:=by simp at h2; omega
      have g1:ds[j]?=some ds[j]:=by simp [h1']
      have g2:es[j]?=some es[j]:=by simp [h2']
      obtain ⟨xv,hxv,hrx⟩:=r.at g1;obtain ⟨yv,hyv,hry⟩:=r'.at g2;obtain ⟨xu,hxu,hru⟩:=rv.get hxv;obtain ⟨yu,hyu,hru'⟩:=rv'.get hyv;have e1:its.toArray[j]=xu:=by
       have:its[j]?=some xu:=hxu;simpa using (ab.mp this).2
      have e2:its'.toArray[j]=yu:=by
       have:its'[j]?=some yu:=hyu;simpa using (ab.mp this).2
      rw [e1,e2];simp only [g1,g2];have hdj:=D.depths_le g1;exact Mm I (n:=n) (by omega) (by show A.units+1+n < cLine; omega) hrx hry hru hru')
     have sz:(!((ba (min its.toArray.size its'.toArray.size)).all (fun j=>match ds[j]?,es[j]? with | some x,some y=>eqD x y | _,_=>false) && its.toArray.size == its'.toArray.size))=(!eqD (.tup ds) (.tup es)):=by
      have a1:its.toArray.size=ds.length:=by simp; omega
      have a2:its'.toArray.size=es.length:=by simp; omega
      rw [a1,a2];simp only [eqD];rw [pQ]
     rw [<- sz];exact key
def Yl (K:ag):R2:=fun x y H Q=>∃ d e,Rep K H d x/\Rep K H e y/\d.depth<=40/\Q (.bl (eqD d e)) H
def Ym (K:ag):R2:=fun x y H Q=>∃ d e,Rep K H d x/\Rep K H e y/\d.depth<=40/\Q (.bl (!eqD d e)) H
theorem Ur (hu:X.A.units+64 < cLine) (K:ag) (hK:X.K=K):OpR X (cm .Eq) (Yl K):=by
 subst hK;intro pins s σ H x y v u Q I rx ry h;obtain ⟨d,e,hx,hy,hd,q⟩:=h;exact Wt I 40 d e X.A x y v u hd (by omega) hx hy rx ry X.prog X.w X.xe _ ⟨.bl _,H,I,rfl,q⟩
theorem Us (hu:X.A.units+64 < cLine) (K:ag) (hK:X.K=K):OpR X (cm .NotEq) (Ym K):=by
 subst hK;intro pins s σ H x y v u Q I rx ry h;obtain ⟨d,e,hx,hy,hd,q⟩:=h;exact Uq I 40 d e X.A x y v u hd (by omega) hx hy rx ry X.prog X.w X.xe _ ⟨.bl _,H,I,rfl,q⟩
def DL (K:ag) (H:Hp) (ds:List D) (v:V):Prop:=∃ a vs,v=.ref a/\SqL K H a vs/\cL K H ds vs
theorem sM {xs ys:List D} (h:xs.length=ys.length):(ba xs.length).all (fun j=>match xs[j]?,ys[j]? with | some x,some y=>eqD x y | _,_=>false)=eI xs ys:=by
 have:=pQ (xs:=xs) (ys:=ys);rw [h,Nat.min_self,beq_self_eq_true,Bool.and_true] at this;rw [h];exact this
theorem wQ {xs ys:List D} (h:eI xs ys=true):xs.length=ys.length:=by
 rw [<- pQ,cq] at h;exact eq_of_beq h.2
theorem nZ {I:Inv X pins σ H s} {A:Around} {ds es:List D} {vs vs':List V} {its its':List Value} (r:cL X.K H ds vs) (r':cL X.K H es vs') (rv:aM vs its) (rv':aM vs' its') (hd:D.depths ds<=40) (hu:A.units+42 < cLine):
  ∀ j (h1:j < its.toArray.size) (h2:j < its'.toArray.size),EqAt A.in1 s its.toArray[j] its'.toArray[j] (match ds[j]?,es[j]? with | some x,some y=>eqD x y | _,_=>false):=fun j h1 h2=>by
 have l1:=r.length;have l2:=r'.length;have l3:=rv.length;have l4:=rv'.length;have h1':j < ds.length:=by simp at h1; omega
 have h2':j < es.length:=by simp at h2; omega
 have g1:ds[j]?=some ds[j]:=by simp [h1']
 have g2:es[j]?=some es[j]:=by simp [h2']
 obtain ⟨xv,hxv,hrx⟩:=r.at g1;obtain ⟨yv,hyv,hry⟩:=r'.at g2;obtain ⟨xu,hxu,hru⟩:=rv.get hxv;obtain ⟨yu,hyu,hru'⟩:=rv'.get hyv;have e1:its.toArray[j]=xu:=by simpa using (ab.mp hxu).2
 have e2:its'.toArray[j]=yu:=by simpa using (ab.mp hyu).2
 rw [e1,e2];simp only [g1,g2];have hdj:=D.depths_le g1;exact Mm I (n:=40) (by omega) (by show A.units+1+40 < cLine; omega) hrx hry hru hru'
def Yn (K:ag):R2:=fun x y H Q=>∃ ds es,DL K H ds x/\DL K H es y/\D.depths ds<=40/\Q (.bl (eI ds es)) H
def Yo (K:ag):R2:=fun x y H Q=>∃ ds es,DL K H ds x/\DL K H es y/\D.depths ds<=40/\Q (.bl (!eI ds es)) H
theorem Ut (hu:X.A.units+64 < cLine) (K:ag) (hK:X.K=K):OpR X (cm .Eq) (Yn K):=by
 subst hK;intro pins s σ H x y v u Q I rx ry h;obtain ⟨ds,es,⟨a,vs,rfl,q,r⟩,⟨b,vs',rfl,q',r'⟩,hd,k⟩:=h;cases rx; cases ry;obtain ⟨its,rv,p,_⟩:=I.list q;obtain ⟨its',rv',p',_⟩:=I.list q';have l1:=r.length;have l2:=r'.length;have l3:=rv.length;have l4:=rv'.length
 by_cases hl:ds.length=es.length
 ·refine eq_listAt p.isList p'.isList (by simp; omega) (by omega) (nZ (I:=I) r r' rv rv' hd (by omega)) ⟨.bl _,H,I,rfl,?_⟩;have e1:its.toArray.size=ds.length:=by simp; omega
  rw [e1,sM hl];exact k
 ·refine eq_list_lengthsAt p.isList p'.isList (by simp; omega) (by omega) ⟨.bl false,H,I,rfl,?_⟩;have e:eI ds es=false:=by
   cases h:eI ds es with
   | false=>rfl
   | true=>exact absurd (wQ h) hl
  rw [e] at k;exact k
theorem Uu (hu:X.A.units+64 < cLine) (K:ag) (hK:X.K=K):OpR X (cm .NotEq) (Yo K):=by
 subst hK;intro pins s σ H x y v u Q I rx ry h;obtain ⟨ds,es,⟨a,vs,rfl,q,r⟩,⟨b,vs',rfl,q',r'⟩,hd,k⟩:=h;cases rx; cases ry;obtain ⟨its,rv,p,_⟩:=I.list q;obtain ⟨its',rv',p',_⟩:=I.list q';have l1:=r.length;have l2:=r'.length;have l3:=rv.length;have l4:=rv'.length
 by_cases hl:ds.length=es.length
 ·refine RcNeAt.lists p.isList p'.isList (by simp; omega) (by omega) (nZ (I:=I) r r' rv rv' hd (by omega)) X.prog X.w X.xe _ ⟨.bl _,H,I,rfl,?_⟩;have e1:its.toArray.size=ds.length:=by simp; omega
  rw [e1,sM hl];exact k
 ·refine RcNeAt.lists_lengths p.isList p'.isList (by simp; omega) (by omega) X.prog X.w X.xe _ ⟨.bl true,H,I,rfl,?_⟩;have e:eI ds es=false:=by
   cases h:eI ds es with
   | false=>rfl
   | true=>exact absurd (wQ h) hl
  rw [e] at k;exact k
def Wu (K:ag) (neg:Bool):R2:=fun x y H Q=>∃ d p ds vs,y=.ref p/\(SqL K H p vs\/SqT K H p vs)/\Rep K H d x/\cL K H ds vs/\D.depths ds<=40/\Q (.bl (if neg then !ds.any (fun e=>eqD e d) else ds.any (fun e=>eqD e d))) H
noncomputable def isD (K:ag) (H:Hp) (d:D) (u:Value):Bool:=@decide (∃ e x,RelV x u/\Rep K H e x/\e.depth<=40/\eqD e d=true) (gu _)
theorem Mn (I:Inv X pins σ H s) {d e:D} {x:V} {u:Value} (r:RelV x u) (h:Rep X.K H e x) (hd:e.depth<=40):isD X.K H d u=eqD e d:=by
 unfold isD;cases q:eqD e d with
 | true=>exact @decide_eq_true _ (gu _) ⟨e,x,r,h,hd,q⟩
 | false=>
  refine @decide_eq_false _ (gu _) ?_;rintro ⟨e',x',r',h',hd',q'⟩;have ex:x'=x:=RelV.inj r' r;subst ex;rw [mJ I 40 e' e x' hd' h' h] at q';rw [q] at q';cases q'
theorem pR (I:Inv X pins σ H s) {d:D}:∀ {ds:List D} {vs:List V} {us:List Value},cL X.K H ds vs->aM vs us->D.depths ds<=40->us.any (isD X.K H d)=ds.any fun e=>eqD e d
 | [],[],_,_,.nil,_=>rfl
 | e :: ds,_ :: _,_,⟨h,r⟩,.cons rv rvs,hd=>by
  have h1:e.depth<=40/\D.depths ds<=40:=by
   have:max e.depth (D.depths ds)<=40:=hd;omega
  rw [kj,kj,Mn I rv h h1.1,pR I r rvs h1.2]
 | [],_ :: _,_,h,_,_=>h.elim
 | _ :: _,[],_,h,_,_=>h.elim
theorem pT (I:Inv X pins σ H s) {A:Around} {d:D} {x:V} {v:Value} (hx:Rep X.K H d x) (rx:RelV x v) (hu:A.units+42 < cLine):∀ {ds:List D} {vs:List V} {us:List Value},cL X.K H ds vs->aM vs us->D.depths ds<=40->∀ u∈us,EqAt A.in1 s u v (isD X.K H d u)
 | [],[],_,_,.nil,_=>fun u hu=>by cases hu
 | e :: ds,_ :: _,_,⟨h,r⟩,.cons rv rvs,hd=>fun u hm=>by
  have h1:e.depth<=40/\D.depths ds<=40:=by
   have:max e.depth (D.depths ds)<=40:=hd;omega
  rcases a7.mp hm with rfl | hm
  ·rw [Mn I rv h h1.1];exact Mm I (n:=40) h1.1 (by show A.units+1+40 < cLine; omega) h hx rv rx
  ·exact pT I hx rx hu r rvs h1.2 u hm
 | [],_ :: _,_,h,_,_=>h.elim
 | _ :: _,[],_,h,_,_=>h.elim
theorem Uv (hu:X.A.units+64 < cLine) (K:ag) (hK:X.K=K):OpR X (cm .In) (Wu K false):=by
 subst hK;intro pins s σ H x y v u Q I rx ry h;obtain ⟨d,p,ds,vs,rfl,hq,hx,hr,hd,k⟩:=h;cases ry
 rcases hq with hq | hq
 ·obtain ⟨its,r,pl,hz⟩:=I.list hq;refine SeqAt.in_listAt (isD X.K H d) pl.isList (fun w hw=>pT I hx rx (by omega) hr r hd w (by simpa using hw)) ⟨.bl _,H,I,rfl,?_⟩
  rw [show its.toArray.any (isD X.K H d)=its.any (isD X.K H d) by simp,pR I hr r hd];exact k
 ·obtain ⟨its,r,pl,hz⟩:=I.tuple hq;refine SeqAt.in_tupleAt (isD X.K H d) pl (fun w hw=>pT I hx rx (by omega) hr r hd w (by simpa using hw)) ⟨.bl _,H,I,rfl,?_⟩
  rw [show its.toArray.any (isD X.K H d)=its.any (isD X.K H d) by simp,pR I hr r hd];exact k
theorem Jy (hu:X.A.units+64 < cLine) (K:ag) (hK:X.K=K):OpR X (cm .NotIn) (Wu K true):=by
 subst hK;intro pins s σ H x y v u Q I rx ry h;obtain ⟨d,p,ds,vs,rfl,hq,hx,hr,hd,k⟩:=h;cases ry
 rcases hq with hq | hq
 ·obtain ⟨its,r,pl,hz⟩:=I.list hq;refine SeqAt.notIn_listAt (isD X.K H d) pl.isList (fun w hw=>pT I hx rx (by omega) hr r hd w (by simpa using hw)) ⟨.bl _,H,I,rfl,?_⟩
  rw [show its.toArray.any (isD X.K H d)=its.any (isD X.K H d) by simp,pR I hr r hd];exact k
 ·obtain ⟨its,r,pl,hz⟩:=I.tuple hq;refine SeqAt.notIn_tupleAt (isD X.K H d) pl (fun w hw=>pT I hx rx (by omega) hr r hd w (by simpa using hw)) ⟨.bl _,H,I,rfl,?_⟩
  rw [show its.toArray.any (isD X.K H d)=its.any (isD X.K H d) by simp,pR I hr r hd];exact k
end
end L2
namespace L2
open PySem
def keyLt:Sum Int Str->Sum Int Str->Bool
 | .inl a,.inl b=>decide (a < b)
 | .inr a,.inr b=>decide (a.cps.toList < b.cps.toList)
 | _,_=>false
def bL:List (Sum Int Str)->List (Sum Int Str)->Bool
 | [],[]=>false
 | [],_ :: _=>true
 | _ :: _,[]=>false
 | x :: xs,y :: ys=>if x=y then bL xs ys else keyLt x y
def dA:Sum Int Str->Bool
 | .inl _=>true
 | .inr _=>false
abbrev shape (ks:List (Sum Int Str)):List Bool:=ks.map dA
theorem Il {a b:Str} (h:a.cps.toList=b.cps.toList):a=b:=by
 cases a; cases b
 congr
 exact Array.toList_inj.mp h
theorem Mp {a b:Sum Int Str} (h:keyLt a b=true):keyLt b a=false:=by
 cases a <;> cases b <;> first | rfl | skip
 ·have:_ < _:=of_decide_eq_true h;exact decide_eq_false (by omega)
 ·exact decide_eq_false (List.lt_asymm (of_decide_eq_true h))
theorem AR {a b:Sum Int Str} (k:dA a=dA b) (h:keyLt a b=false) (h':keyLt b a=false):a=b:=by
 cases a <;> cases b <;> first | cases k | skip
 ·have h1:=of_decide_eq_false h;have h2:=of_decide_eq_false h'
  congr 1
  omega
 ·have h1:=of_decide_eq_false h;have h2:=of_decide_eq_false h'
  congr 1
  exact Il (List.le_antisymm (ko.mp h2) (ko.mp h1))
theorem Mq:∀ {a b c:Sum Int Str},dA a=dA b->dA b=dA c->keyLt b a=false->keyLt c b=false->keyLt c a=false
 | .inl a,.inl b,.inl c,_,_,h,h'=>by
  have h1:¬ b < a:=of_decide_eq_false h;have h2:¬ c < b:=of_decide_eq_false h';exact decide_eq_false (by omega)
 | .inr a,.inr b,.inr c,_,_,h,h'=>by
  have h1:a.cps.toList<=b.cps.toList:=ko.mp (of_decide_eq_false h);have h2:b.cps.toList<=c.cps.toList:=ko.mp (of_decide_eq_false h');exact decide_eq_false (ko.mpr (List.le_trans h1 h2))
 | .inl _,.inr _,_,k,_,_,_=>by cases k
 | .inr _,.inl _,_,k,_,_,_=>by cases k
 | .inl _,.inl _,.inr _,_,k,_,_=>by cases k
 | .inr _,.inr _,.inl _,_,k,_,_=>by cases k
theorem pU:∀ {a b:List (Sum Int Str)},bL a b=true->bL b a=false
 | [],[],_=>rfl
 | [],_ :: _,_=>rfl
 | _ :: _,[],h=>by cases h
 | x :: xs,y :: ys,h=>by
  unfold bL at h ⊢
  by_cases e:x=y
  ·subst e;rw [if_pos rfl] at h ⊢;exact pU h
  ·rw [if_neg e] at h;rw [if_neg fun z=>e z.symm];exact Mp h
theorem kW:∀ {a b:List (Sum Int Str)},shape a=shape b->bL a b=false->bL b a=false->a=b
 | [],[],_,_,_=>rfl
 | [],_ :: _,s,_,_=>by cases s
 | _ :: _,[],s,_,_=>by cases s
 | x :: xs,y :: ys,s,h,h'=>by
  have s1:dA x=dA y:=by simpa using congrArg List.head? s
  have s2:shape xs=shape ys:=by simpa using congrArg List.tail s
  unfold bL at h h'
  by_cases e:x=y
  ·subst e;rw [if_pos rfl] at h h';rw [kW s2 h h']
  ·rw [if_neg e] at h;rw [if_neg fun z=>e z.symm] at h';exact absurd (AR s1 h h') e
theorem mK:∀ {a b c:List (Sum Int Str)},shape a=shape b->shape b=shape c->bL b a=false->bL c b=false->bL c a=false
 | [],[],[],_,_,_,_=>rfl
 | [],[],_ :: _,_,s',_,_=>by cases s'
 | [],_ :: _,_,s,_,_,_=>by cases s
 | _ :: _,[],_,s,_,_,_=>by cases s
 | _ :: _,_ :: _,[],_,s',_,_=>by cases s'
 | x :: xs,y :: ys,z :: zs,s,s',h,h'=>by
  have s1:dA x=dA y:=by simpa using congrArg List.head? s
  have s2:shape xs=shape ys:=by simpa using congrArg List.tail s
  have s3:dA y=dA z:=by simpa using congrArg List.head? s'
  have s4:shape ys=shape zs:=by simpa using congrArg List.tail s'
  unfold bL at h h' ⊢
  by_cases e:y=x
  ·subst e;rw [if_pos rfl] at h
   by_cases e':z=y
   ·subst e';rw [if_pos rfl] at h' ⊢;exact mK s2 s4 h h'
   ·rw [if_neg e'] at h' ⊢;exact h'
  ·rw [if_neg e] at h
   by_cases e':z=y
   ·subst e';rw [if_neg e];exact h
   ·rw [if_neg e'] at h'
    by_cases e2:z=x
    ·subst e2;exfalso;exact e (AR s3 h h')
    ·rw [if_neg e2];exact Mq s1 s3 h h'
end L2
namespace L2
open PySem PySem.W PyProof.Rows
section
variable (lt:Nat->Nat->Bool)
def evT {α:Type}:KasT α->α
 | .ret a=>a
 | .ask i j k=>evT (k (lt i j))
theorem iS {α β:Type} (f:α->KasT β):∀ t:KasT α,evT lt (t.bind f)=evT lt (f (evT lt t))
 | .ret _=>rfl
 | .ask i j k=>iS f (k (lt i j))
abbrev pa' (p:Array Nat) (i:Nat):Nat:=p.getD i 0
def STo (p:Array Nat) (k:Nat):Prop:=∀ i j,i<=j->j < k->lt (pa' p j) (pa' p i)=false
def NIc (p:Array Nat) (k:Nat):Prop:=∀ i j,i<=j->j < k->lt (pa' p i) (pa' p j)=false
end
theorem gH {p:Array Nat} {i:Nat}:pa' p i=(p[i]?).getD 0:=by
 unfold pa';simp [Array.getD_eq_getD_getElem?]
structure Mr (lt:Nat->Nat->Bool) (p:Array Nat) (n f:Nat) (r:Array Nat×Nat×Nat):Prop where
 perm:r.1.Perm p
 lo:n<=r.2.1
 hi:r.2.1<=n+f
 q:r.2.2+1<=r.2.1
 ni:NIc lt r.1 r.2.1
 eq:∀ i j,r.2.1 - (r.2.2+1)<=i->i < r.2.1->r.2.1 - (r.2.2+1)<=j->j < r.2.1->lt (pa' r.1 i) (pa' r.1 j)=false
section
variable {lt:Nat->Nat->Bool} (tr:∀ i j k,lt j i=false->lt k j=false->lt k i=false) (as:∀ i j,lt i j=true->lt j i=false)
include as in
theorem fF (i:Nat):lt i i=false:=by
 cases h:lt i i with
 | false=>rfl
 | true=>have:=as i i h; rw [h] at this; exact this
include tr as
theorem FZ (p:Array Nat):∀ f n,1<=n->STo lt p n->n<=evT lt (kas_asc p f n)/\evT lt (kas_asc p f n)<=n+f/\STo lt p (evT lt (kas_asc p f n))
 | 0,n,_,h=>⟨ao _,ao _,h⟩
 | f+1,n,h1,h=>by
  have e:evT lt (kas_asc p (f+1) n)=evT lt (if lt (p.getD n 0) (p.getD (n - 1) 0)=true then KasT.ret n else kas_asc p f (n+1)):=rfl;rw [e]
  by_cases c:lt (p.getD n 0) (p.getD (n - 1) 0)=true
  ·rw [if_pos c];exact ⟨ao _,Nat.le_add_right _ _,h⟩
  ·rw [if_neg c];have c':lt (p.getD n 0) (p.getD (n - 1) 0)=false:=by simpa using c
   have h2:STo lt p (n+1):=fun i j hij hj=>by
    rcases gv (Nat.le_of_lt_succ hj) with hj | rfl
    ·exact h i j hij hj
    ·rcases gv hij with hi | rfl
     ·exact tr _ _ _ (h i (j - 1) (by omega) (by omega)) c'
     ·exact fF as _
   obtain ⟨a,b,c⟩:=FZ p f (n+1) (by omega) h2;exact ⟨by omega,by omega,c⟩
theorem rev_eq {p:Array Nat} {a n:Nat} (hn:n<=p.size) (eq:∀ i j,a<=i->i < n->a<=j->j < n->lt (pa' p i) (pa' p j)=false) (i j:Nat):
  lt (pa' (kas_rev p a n) i) (pa' (kas_rev p a n) j)=lt (pa' p i) (pa' p j):=by
 have g:∀ k,pa' (kas_rev p a n) k=if a<=k/\k < n then pa' p (a+n - 1 - k) else pa' p k:=fun k=>by
  rw [gH,gH,gH];unfold kas_rev;rw [getElem?_mirror_all hn];split <;> rfl
 have sim:∀ k,∃ k',pa' (kas_rev p a n) k=pa' p k'/\lt (pa' p k) (pa' p k')=false/\lt (pa' p k') (pa' p k)=false:=fun k=>by
  rw [g]
  by_cases h:a<=k/\k < n
  ·rw [if_pos h];exact ⟨_,rfl,eq _ _ h.1 h.2 (by omega) (by omega),eq _ _ (by omega) (by omega) h.1 h.2⟩
  ·rw [if_neg h];exact ⟨k,rfl,fF as _,fF as _⟩
 obtain ⟨i',ei,i1,i2⟩:=sim i;obtain ⟨j',ej,j1,j2⟩:=sim j;rw [ei,ej];cases h1:lt (pa' p i) (pa' p j) with
 | false=>exact tr _ _ _ j1 (tr _ _ _ h1 i2)
 | true=>
  cases h2:lt (pa' p i') (pa' p j') with
  | true=>rfl
  | false=>
   have:=tr _ _ _ j2 (tr _ _ _ h2 i1);rw [h1] at this;exact this.symm
theorem C3:∀ f (p:Array Nat) n q,n+f<=p.size->q+1<=n->NIc lt p n->(∀ i j,n - (q+1)<=i->i < n->n - (q+1)<=j->j < n->lt (pa' p i) (pa' p j)=false)->Mr lt p n f (evT lt (kas_desc f p n q))
 | 0,p,n,q,_,hq,hN,hE=>⟨lu _,ao _,ao _,hq,hN,hE⟩
 | f+1,p,n,q,hs,hq,hN,hE=>by
  have e:evT lt (kas_desc (f+1) p n q)=evT lt (if lt (p.getD n 0) (p.getD (n - 1) 0)=true then (if q > 0 then kas_desc f (kas_rev p (n - (q+1)) n) (n+1) 0 else kas_desc f p (n+1) 0)
    else .ask (p.getD (n - 1) 0) (p.getD n 0) fun d=>if d=true then .ret (p,n,q) else kas_desc f p (n+1) (q+1)):=rfl
  by_cases c:lt (p.getD n 0) (p.getD (n - 1) 0)=true
  ·have down:∀ p':Array Nat,p'.Perm p->(∀ i j,lt (pa' p' i) (pa' p' j)=lt (pa' p i) (pa' p j))->evT lt (kas_desc (f+1) p n q)=evT lt (kas_desc f p' (n+1) 0)->Mr lt p n (f+1) (evT lt (kas_desc (f+1) p n q)):=fun p' hp hl hev=>by
    have hN':NIc lt p' (n+1):=fun i j hij hj=>by
     rw [hl];rcases gv (Nat.le_of_lt_succ hj) with hj | rfl
     ·exact hN i j hij hj
     ·rcases gv hij with hi | rfl
      ·exact tr _ _ _ (as _ _ c) (hN i (j - 1) (by omega) (by omega))
      ·exact fF as _
    have hE':∀ i j,n+1 - (0+1)<=i->i < n+1->n+1 - (0+1)<=j->j < n+1->lt (pa' p' i) (pa' p' j)=false:=fun i j h1 h2 h3 h4=>by
     have:i=j:=by omega
     subst this;exact fF as _
    have ih:=C3 f p' (n+1) 0 (by rw [hp.size_eq]; omega) (by omega) hN' hE';rw [<- hev] at ih;obtain ⟨a1,a2,a3,a4,a5,a6⟩:=ih;exact ⟨a1.trans hp,by omega,by omega,a4,a5,a6⟩
   rw [if_pos c] at e
   by_cases hq0:q > 0
   ·rw [if_pos hq0] at e;exact down _ (lx _ _ _ _) (rev_eq tr as (by omega) hE) e
   ·rw [if_neg hq0] at e;exact down p (lu _) (fun _ _=>rfl) e
  ·rw [if_neg c] at e;have c':lt (p.getD n 0) (p.getD (n - 1) 0)=false:=by simpa using c
   have e2:evT lt (kas_desc (f+1) p n q)=evT lt (if lt (p.getD (n - 1) 0) (p.getD n 0)=true then KasT.ret (p,n,q) else kas_desc f p (n+1) (q+1)):=e
   by_cases d:lt (p.getD (n - 1) 0) (p.getD n 0)=true
   ·rw [if_pos d] at e2;rw [e2];exact ⟨lu _,ao _,Nat.le_add_right _ _,hq,hN,hE⟩
   ·rw [if_neg d] at e2;have d':lt (p.getD (n - 1) 0) (p.getD n 0)=false:=by simpa using d
    have hN':NIc lt p (n+1):=fun i j hij hj=>by
     rcases gv (Nat.le_of_lt_succ hj) with hj | rfl
     ·exact hN i j hij hj
     ·rcases gv hij with hi | rfl
      ·exact tr _ _ _ d' (hN i (j - 1) (by omega) (by omega))
      ·exact fF as _
    have hE':∀ i j,n+1 - (q+1+1)<=i->i < n+1->n+1 - (q+1+1)<=j->j < n+1->lt (pa' p i) (pa' p j)=false:=fun i j h1 h2 h3 h4=>by
     by_cases hi:i=n
     ·by_cases hj:j=n
      ·rw [hi,hj]; exact fF as _
      ·rw [hi];exact tr _ _ _ (hE (n - 1) j (by omega) (by omega) (by omega) (by omega)) c'
     ·by_cases hj:j=n
      ·rw [hj];exact tr _ _ _ d' (hE i (n - 1) (by omega) (by omega) (by omega) (by omega))
      ·exact hE i j (by omega) (by omega) (by omega) (by omega)
    have ih:=C3 f p (n+1) (q+1) (by omega) (by omega) hN' hE';rw [<- e2] at ih;obtain ⟨a1,a2,a3,a4,a5,a6⟩:=ih;exact ⟨a1,by omega,by omega,a4,a5,a6⟩
theorem DM {n nrem:Nat} {p:Array Nat} (h1:1<=n) (hn:n<=nrem) (hz:nrem<=p.size) (hN:NIc lt p n):
  n<=(evT lt (kas_tail3 n nrem p)).1/\(evT lt (kas_tail3 n nrem p)).1<=nrem/\(evT lt (kas_tail3 n nrem p)).2.Perm p/\STo lt (evT lt (kas_tail3 n nrem p)).2 (evT lt (kas_tail3 n nrem p)).1:=by
 have e:evT lt (kas_tail3 n nrem p)=(evT lt (kas_asc (kas_rev p 0 n) (nrem - n) n),kas_rev p 0 n):=by
  unfold kas_tail3;rw [iS]; rfl
 have g:∀ k,k < n->pa' (kas_rev p 0 n) k=pa' p (n - 1 - k):=fun k hk=>by
  rw [gH,gH];unfold kas_rev;rw [getElem?_mirror_all (by omega),if_pos (by omega)]
  congr 2
  omega
 have hS:STo lt (kas_rev p 0 n) n:=fun i j hij hj=>by
  rw [g i (by omega),g j hj];exact hN _ _ (by omega) (by omega)
 obtain ⟨a,b,c⟩:=FZ tr as (kas_rev p 0 n) (nrem - n) n h1 hS;rw [e];exact ⟨a,by show evT lt (kas_asc (kas_rev p 0 n) (nrem - n) n)<=nrem; omega,lx _ _ _ _,c⟩
theorem uQ {n nrem:Nat} {p:Array Nat} (h1:1<=n) (hn:n+1<=nrem) (hz:nrem<=p.size) (hN:NIc lt p n) (hd:lt (pa' p n) (pa' p (n - 1))=true):
  1<=(evT lt (kas_descPart n nrem p)).1/\(evT lt (kas_descPart n nrem p)).1<=nrem/\(evT lt (kas_descPart n nrem p)).2.Perm p/\STo lt (evT lt (kas_descPart n nrem p)).2 (evT lt (kas_descPart n nrem p)).1:=by
 have hN':NIc lt p (n+1):=fun i j hij hj=>by
  rcases gv (Nat.le_of_lt_succ hj) with hj | rfl
  ·exact hN i j hij hj
  ·rcases gv hij with hi | rfl
   ·exact tr _ _ _ (as _ _ hd) (hN i (j - 1) (by omega) (by omega))
   ·exact fF as _
 have hE':∀ i j,n+1 - (0+1)<=i->i < n+1->n+1 - (0+1)<=j->j < n+1->lt (pa' p i) (pa' p j)=false:=fun i j h1 h2 h3 h4=>by
  have:i=j:=by omega
  subst this;exact fF as _
 have D:=C3 tr as (nrem - (n+1)) p (n+1) 0 (by omega) (by omega) hN' hE';have e:evT lt (kas_descPart n nrem p)=evT lt (if (evT lt (kas_desc (nrem - (n+1)) p (n+1) 0)).2.2 > 0 then kas_tail3 (evT lt (kas_desc (nrem - (n+1)) p (n+1) 0)).2.1 nrem (kas_rev (evT lt (kas_desc (nrem - (n+1)) p (n+1) 0)).1 ((evT lt (kas_desc (nrem - (n+1)) p (n+1) 0)).2.1 - ((evT lt (kas_desc (nrem - (n+1)) p (n+1) 0)).2.2+1)) (evT lt (kas_desc (nrem - (n+1)) p (n+1) 0)).2.1) else kas_tail3 (evT lt (kas_desc (nrem - (n+1)) p (n+1) 0)).2.1 nrem (evT lt (kas_desc (nrem - (n+1)) p (n+1) 0)).1):=by
  unfold kas_descPart;rw [iS]
 generalize evT lt (kas_desc (nrem - (n+1)) p (n+1) 0)=r at D e;obtain ⟨a1,a2,a3,a4,a5,a6⟩:=D;have sz:r.1.size=p.size:=a1.size_eq;rw [e]
 by_cases hq:r.2.2 > 0
 ·rw [if_pos hq];have hl:=rev_eq tr as (p:=r.1) (a:=r.2.1 - (r.2.2+1)) (n:=r.2.1) (by omega) a6;obtain ⟨b1,b2,b3,b4⟩:=DM tr as (n:=r.2.1) (nrem:=nrem) (p:=kas_rev r.1 (r.2.1 - (r.2.2+1)) r.2.1) (by omega) (by omega) (by unfold kas_rev; rw [mirror_size]; omega) (fun i j hij hj=>by rw [hl]; exact a5 i j hij hj);exact ⟨by omega,b2,(b3.trans (lx _ _ _ _)).trans a1,b4⟩
 ·rw [if_neg hq];obtain ⟨b1,b2,b3,b4⟩:=DM tr as (n:=r.2.1) (nrem:=nrem) (p:=r.1) (by omega) (by omega) (by omega) a5;exact ⟨by omega,b2,b3.trans a1,b4⟩
theorem wR (p:Array Nat):∀ f n,1<=n->evT lt (kas_asc p f n) < n+f->lt (pa' p (evT lt (kas_asc p f n))) (pa' p (evT lt (kas_asc p f n) - 1))=true
 | 0,n,_,h=>absurd h (fv _)
 | f+1,n,h1,h=>by
  have e:evT lt (kas_asc p (f+1) n)=evT lt (if lt (p.getD n 0) (p.getD (n - 1) 0)=true then KasT.ret n else kas_asc p f (n+1)):=rfl;rw [e] at h ⊢
  by_cases c:lt (p.getD n 0) (p.getD (n - 1) 0)=true
  ·rw [if_pos c];exact c
  ·rw [if_neg c] at h ⊢;exact wR p f (n+1) (by omega) (by omega)
theorem Mt {nrem:Nat} {p:Array Nat} (h1:1<=nrem) (hz:nrem<=p.size):
  1<=(evT lt (kas_count nrem p)).1/\(evT lt (kas_count nrem p)).1<=nrem/\(evT lt (kas_count nrem p)).2.Perm p/\STo lt (evT lt (kas_count nrem p)).2 (evT lt (kas_count nrem p)).1:=by
 have h0:STo lt p 1:=fun i j hij hj=>by
  have:i=j:=by omega
  subst this;exact fF as _
 obtain ⟨a,b,c⟩:=FZ tr as p (nrem - 1) 1 (ao _) h0;have stop:=wR tr as p (nrem - 1) 1 (ao _);have e:evT lt (kas_count nrem p)=evT lt (if (evT lt (kas_asc p (nrem - 1) 1) == nrem)=true then .ret (evT lt (kas_asc p (nrem - 1) 1),p) else if evT lt (kas_asc p (nrem - 1) 1) > 1 then .ask (p.getD 0 0) (p.getD (evT lt (kas_asc p (nrem - 1) 1) - 1) 0) fun c=>if c=true then .ret (evT lt (kas_asc p (nrem - 1) 1),p) else kas_descPart (evT lt (kas_asc p (nrem - 1) 1)) nrem (kas_rev p 0 (evT lt (kas_asc p (nrem - 1) 1))) else kas_descPart (evT lt (kas_asc p (nrem - 1) 1)) nrem p):=by
  unfold kas_count;rw [iS]
 generalize evT lt (kas_asc p (nrem - 1) 1)=n at a b c e stop;rw [e]
 by_cases hn:(n == nrem)=true
 ·rw [if_pos hn];exact ⟨a,by show n<=nrem; omega,lu _,c⟩
 ·rw [if_neg hn];have hn':n≠nrem:=by simpa using hn
  have st:=stop (by omega)
  by_cases h2:n > 1
  ·rw [if_pos h2];have e2:∀ k:Bool->KasT (Nat×Array Nat),evT lt (.ask (p.getD 0 0) (p.getD (n - 1) 0) k)=evT lt (k (lt (p.getD 0 0) (p.getD (n - 1) 0))):=fun _=>rfl;rw [e2]
   by_cases h3:lt (p.getD 0 0) (p.getD (n - 1) 0)=true
   ·rw [if_pos h3];exact ⟨a,by show n<=nrem; omega,lu _,c⟩
   ·rw [if_neg h3];have h3':lt (pa' p 0) (pa' p (n - 1))=false:=by simpa using h3
    have eq:∀ i j,0<=i->i < n->0<=j->j < n->lt (pa' p i) (pa' p j)=false:=fun i j _ hi _ hj=>by
     exact tr _ _ _ (c j (n - 1) (by omega) (by omega)) (tr _ _ _ h3' (c 0 i (by omega) hi))
    have hl:=rev_eq tr as (p:=p) (a:=0) (n:=n) (by omega) eq;have g:pa' (kas_rev p 0 n) n=pa' p n:=by
     rw [gH,gH];unfold kas_rev;rw [getElem?_mirror_all (by omega),if_neg (by omega)]
    obtain ⟨b1,b2,b3,b4⟩:=uQ tr as (n:=n) (nrem:=nrem) (p:=kas_rev p 0 n) a (by omega) (by unfold kas_rev; rw [mirror_size]; omega) (fun i j hij hj=>by rw [hl]; exact eq i j (by omega) (by omega) (by omega) hj) (by rw [hl]; exact st);exact ⟨b1,b2,b3.trans (lx _ _ _ _),b4⟩
  ·rw [if_neg h2];have hn1:n=1:=by omega
   subst hn1;exact uQ tr as (n:=1) (nrem:=nrem) (p:=p) (ao _) (by omega) hz (fun i j hij hj=>by
    have:i=j:=by omega
    subst this;exact fF as _) st
theorem wU (p:Array Nat) (k:Nat) (hS:STo lt p k):∀ f l r,r - l<=f->l<=r->r<=k->(∀ i,i < l->lt (pa' p k) (pa' p i)=false)->(∀ i,r<=i->i < k->lt (pa' p k) (pa' p i)=true)->
  l<=evT lt (kas_place p k f l r)/\evT lt (kas_place p k f l r)<=k/\(∀ i,i < evT lt (kas_place p k f l r)->lt (pa' p k) (pa' p i)=false)/\(∀ i,evT lt (kas_place p k f l r)<=i->i < k->lt (pa' p k) (pa' p i)=true)
 | 0,l,r,hf,hl,hr,h1,h2=>by
  have:l=r:=by omega
  subst this;exact ⟨ao _,hr,h1,h2⟩
 | f+1,l,r,hf,hl,hr,h1,h2=>by
  have e:evT lt (kas_place p k (f+1) l r)=evT lt (if l >= r then .ret l else .ask (p.getD k 0) (p.getD ((l+r) / 2) 0) fun c=>if c=true then kas_place p k f l ((l+r) / 2) else kas_place p k f ((l+r) / 2+1) r):=rfl;rw [e]
  by_cases hge:l >= r
  ·rw [if_pos hge];have:l=r:=by omega
   subst this;exact ⟨ao _,hr,h1,h2⟩
  ·rw [if_neg hge];have e2:∀ q:Bool->KasT Nat,evT lt (.ask (p.getD k 0) (p.getD ((l+r) / 2) 0) q)=evT lt (q (lt (p.getD k 0) (p.getD ((l+r) / 2) 0))):=fun _=>rfl;rw [e2]
   by_cases c:lt (p.getD k 0) (p.getD ((l+r) / 2) 0)=true
   ·rw [if_pos c];refine wU p k hS f l ((l+r) / 2) (by omega) (by omega) (by omega) h1 fun i hi hk=>?_;cases q:lt (pa' p k) (pa' p i) with
    | true=>rfl
    | false=>
     have:=tr _ _ _ (hS ((l+r) / 2) i hi hk) q;rw [show lt (pa' p k) (pa' p ((l+r) / 2))=true from c] at this
     exact this.symm
   ·rw [if_neg c];have c':lt (pa' p k) (pa' p ((l+r) / 2))=false:=by simpa using c
    obtain ⟨b1,b2,b3,b4⟩:=wU p k hS f ((l+r) / 2+1) r (by omega) (by omega) hr (fun i hi=>by
     cases q:lt (pa' p k) (pa' p i) with
     | false=>rfl
     | true=>
      exfalso;have s1:=hS i ((l+r) / 2) (by omega) (by omega);have s2:=as _ _ q;have:lt (pa' p k) (pa' p i)=false:=by
       -- p[mid]<=p[k] (c'),p[i]<=p[mid]
       exact tr _ _ _ s1 c'
      rw [q] at this;cases this) h2
    exact ⟨by omega,b2,b3,b4⟩
theorem Mu:∀ f (p:Array Nat) k,1<=k->k+f<=p.size->STo lt p k->(evT lt (kas_bin f p k)).Perm p/\STo lt (evT lt (kas_bin f p k)) (k+f)
 | 0,p,k,_,_,h=>⟨lu _,h⟩
 | f+1,p,k,h1,hz,h=>by
  have e:evT lt (kas_bin (f+1) p k)=evT lt (kas_bin f (bubble p k (k - evT lt (kas_place p k k 0 k))) (k+1)):=by
   show evT lt ((kas_place p k k 0 k).bind fun l=>kas_bin f (bubble p k (k - l)) (k+1))=_
   rw [iS]
  obtain ⟨b1,b2,b3,b4⟩:=wU tr as p k h k 0 k (by omega) (cg _) (ao _) (fun i hi=>absurd hi (Nat.not_lt_zero _)) (fun i hi hk=>absurd hk (by omega));generalize evT lt (kas_place p k k 0 k)=l at e b1 b2 b3 b4;have g:∀ i,pa' (bubble p k (k - l)) i=if i=l then pa' p k else if l < i/\i<=k then pa' p (i - 1) else pa' p i:=fun i=>by
   rw [gH,gH,gH,gH,getElem?_bubble (by omega) _ (by omega)];have el:k - (k - l)=l:=by omega
   rw [el];split
   ·rfl
   ·split <;> rfl
  have hS:STo lt (bubble p k (k - l)) (k+1):=fun i j hij hj=>by
   rw [g i,g j]
   by_cases hj1:j=l
   ·by_cases hi1:i=l
    ·rw [if_pos hj1,if_pos hi1]; exact fF as _
    ·rw [if_pos hj1,if_neg hi1,if_neg (by omega)];exact b3 i (by omega)
   ·rw [if_neg hj1]
    by_cases hi1:i=l
    ·rw [if_pos hi1,if_pos (by omega)];exact as _ _ (b4 (j - 1) (by omega) (by omega))
    ·rw [if_neg hi1]
     by_cases hj2:l < j/\j<=k
     ·rw [if_pos hj2]
      by_cases hi2:l < i/\i<=k
      ·rw [if_pos hi2]; exact h _ _ (by omega) (by omega)
      ·rw [if_neg hi2]; exact h _ _ (by omega) (by omega)
     ·rw [if_neg hj2,if_neg (by omega)];exact h _ _ hij (by omega)
  have ih:=Mu f (bubble p k (k - l)) (k+1) (by omega) (by rw [bubble_size]; omega) hS;rw [e];exact ⟨ih.1.trans (bubble_perm _ _ _),by rw [show k+(f+1)=k+1+f by omega]; exact ih.2⟩
theorem QF {n:Nat} (h1:1<=n):(evT lt (kas_sort n)).toList.Perm (ba n)/\(evT lt (kas_sort n)).toList.Pairwise (fun i j=>lt j i=false):=by
 have e:evT lt (kas_sort n)=evT lt (if (evT lt (kas_count n (kg (ba n)))).1 < n then kas_bin (n - max (evT lt (kas_count n (kg (ba n)))).1 1) (evT lt (kas_count n (kg (ba n)))).2 (max (evT lt (kas_count n (kg (ba n)))).1 1) else .ret (evT lt (kas_count n (kg (ba n)))).2):=by
  unfold kas_sort;rw [iS]
 obtain ⟨a1,a2,a3,a4⟩:=Mt tr as (nrem:=n) (p:=kg (ba n)) h1 (by simp);generalize evT lt (kas_count n (kg (ba n)))=r at e a1 a2 a3 a4;have fin:∀ p:Array Nat,p.Perm (kg (ba n))->STo lt p n->p.toList.Perm (ba n)/\p.toList.Pairwise (fun i j=>lt j i=false):=fun p hp hs=>by
  have hsz:p.size=n:=by rw [hp.size_eq]; simp
  refine ⟨by simpa using Array.perm_iff_toList_perm.mp hp,?_⟩
  rw [fb];intro i j hi hj hij;have hi':i < p.size:=by simpa using hi
  have hj':j < p.size:=by simpa using hj
  have:=hs i j (f6 hij) (by omega);simpa [pa',Array.getD,hi',hj'] using this
 rw [e]
 by_cases hlt:r.1 < n
 ·rw [if_pos hlt];have hm:max r.1 1=r.1:=by omega
  rw [hm];obtain ⟨b1,b2⟩:=Mu tr as (n - r.1) r.2 r.1 a1 (by rw [a3.size_eq]; simp; omega) a4;refine fin _ (b1.trans a3) ?_;rw [show r.1+(n - r.1)=n by omega] at b2;exact b2
 ·rw [if_neg hlt];have:r.1=n:=by omega
  exact fin _ a3 (this ▸ a4)
end
end L2
namespace L2
open PySem PySem.Spec PyProof.Rows PySem.SeqAt PySem.W
def InP {α:Type} (n:Nat) (P:α->Prop):KasT α->Prop
 | .ret a=>P a
 | .ask i j k=>i < n/\j < n/\∀ b,InP n P (k b)
theorem InP.bind {α β:Type} {n:Nat} {P:α->Prop} {Q:β->Prop} {f:α->KasT β}:∀ {t:KasT α},InP n P t->(∀ a,P a->InP n Q (f a))->InP n Q (t.bind f)
 | .ret a,h,hf=>hf a h
 | .ask i j k,⟨h1,h2,h3⟩,hf=>⟨h1,h2,fun b=>InP.bind (h3 b) hf⟩
theorem InP.mono {α:Type} {n:Nat} {P Q:α->Prop} (hq:∀ a,P a->Q a):∀ {t:KasT α},InP n P t->InP n Q t
 | .ret a,h=>hq a h
 | .ask i j k,⟨h1,h2,h3⟩=>⟨h1,h2,fun b=>InP.mono hq (h3 b)⟩
def AllLt (n:Nat) (p:Array Nat):Prop:=∀ k,p.getD k 0 < n
theorem AllLt.of {n:Nat} {p q:Array Nat} (h:AllLt n p) (g:∀ k:Nat,q[k]?=none\/∃ k':Nat,q[k]?=p[k']?) (hn:0 < n):AllLt n q:=fun k=>by
 have e:∀ (r:Array Nat) k,r.getD k 0=(r[k]?).getD 0:=fun r k=>by simp [Array.getD_eq_getD_getElem?]
 rw [e];rcases g k with h1 | ⟨k',h1⟩
 ·rw [h1]; exact hn
 ·rw [h1,<- e]; exact h k'
theorem AllLt.perm {n:Nat} {p q:Array Nat} (h:AllLt n p) (hp:q.Perm p) (hn:0 < n):AllLt n q:=by
 refine AllLt.of h (fun k=>?_) hn;cases e:q[k]? with
 | none=>exact .inl rfl
 | some v=>
  right;have hm:v∈q.toList:=by
   have:q.toList[k]?=some v:=by simpa using e
   exact cf this
  have hm':v∈p.toList:=(Array.perm_iff_toList_perm.mp hp).mem_iff.mp hm;obtain ⟨k',hk⟩:=dz.mp hm';exact ⟨k',by rw [<- hk]; simp⟩
section
variable {n:Nat} (hn:0 < n)
include hn
theorem C4 {p:Array Nat} (h:AllLt n p):∀ f m,InP n (fun _=>True) (kas_asc p f m)
 | 0,m=>trivial
 | f+1,m=>⟨h _,h _,fun b=>by
  cases b with
  | true=>exact trivial
  | false=>exact C4 h f (m+1)⟩
theorem pV:∀ f (p:Array Nat) m q,AllLt n p->InP n (fun r=>AllLt n r.1) (kas_desc f p m q)
 | 0,p,m,q,h=>h
 | f+1,p,m,q,h=>⟨h _,h _,fun b=>by
  cases b with
  | true=>
   show InP n _ (if q > 0 then kas_desc f (kas_rev p (m - (q+1)) m) (m+1) 0 else kas_desc f p (m+1) 0)
   by_cases hq:q > 0
   ·rw [if_pos hq]; exact pV f _ _ _ (h.perm (lx _ _ _ _) hn)
   ·rw [if_neg hq]; exact pV f _ _ _ h
  | false=>exact ⟨h _,h _,fun d=>by
    cases d with
    | true=>exact h
    | false=>exact pV f _ _ _ h⟩⟩
theorem AS {p:Array Nat} (h:AllLt n p) (m r:Nat):InP n (fun x=>AllLt n x.2) (kas_tail3 m r p):=by
 unfold kas_tail3;exact InP.bind (C4 hn (h.perm (lx _ _ _ _) hn) _ _) fun a _=>h.perm (lx _ _ _ _) hn
theorem pW {p:Array Nat} (h:AllLt n p) (m r:Nat):InP n (fun x=>AllLt n x.2) (kas_descPart m r p):=by
 unfold kas_descPart;refine InP.bind (pV hn _ _ _ _ h) fun a ha=>?_
 by_cases hq:a.2.2 > 0
 ·rw [if_pos hq]; exact AS hn (ha.perm (lx _ _ _ _) hn) _ _
 ·rw [if_neg hq]; exact AS hn ha _ _
theorem Jz {p:Array Nat} (h:AllLt n p) (r:Nat):InP n (fun x=>AllLt n x.2) (kas_count r p):=by
 unfold kas_count;refine InP.bind (C4 hn h _ _) fun a _=>?_
 by_cases h1:(a == r)=true
 ·rw [if_pos h1]; exact h
 ·rw [if_neg h1]
  by_cases h2:a > 1
  ·rw [if_pos h2];exact ⟨h _,h _,fun b=>by
    cases b with
    | true=>exact h
    | false=>exact pW hn (h.perm (lx _ _ _ _) hn) _ _⟩
  ·rw [if_neg h2]; exact pW hn h _ _
theorem sN {p:Array Nat} (h:AllLt n p) (k:Nat):∀ f l r,InP n (fun _=>True) (kas_place p k f l r)
 | 0,l,r=>trivial
 | f+1,l,r=>by
  show InP n _ (if l >= r then .ret l else .ask (p.getD k 0) (p.getD ((l+r) / 2) 0) fun c=>if c=true then kas_place p k f l ((l+r) / 2) else kas_place p k f ((l+r) / 2+1) r)
  by_cases hl:l >= r
  ·rw [if_pos hl]; exact trivial
  ·rw [if_neg hl];exact ⟨h _,h _,fun b=>by
    cases b with
    | true=>exact sN h k f _ _
    | false=>exact sN h k f _ _⟩
theorem Im:∀ f (p:Array Nat) k,AllLt n p->InP n (fun _=>True) (kas_bin f p k)
 | 0,p,k,_=>trivial
 | f+1,p,k,h=>InP.bind (sN hn h k _ _ _) fun l _=>Im f _ _ (h.perm (bubble_perm _ _ _) hn)
theorem wV:InP n (fun _=>True) (kas_sort n):=by
 have h0:AllLt n (kg (ba n)):=fun k=>by
  by_cases hk:k < n
  ·simp [Array.getD,hk]
  ·simp [Array.getD,hk,hn]
 unfold kas_sort;refine InP.bind (Jz hn h0 n) fun r hr=>?_
 by_cases h:r.1 < n
 ·rw [if_pos h]; exact Im hn _ _ _ hr
 ·rw [if_neg h]; exact trivial
end
theorem wW {α:Type} {n:Nat} {cmp:Nat->Nat->(Bool->Shared->Prop)->Shared->Prop} {lt:Nat->Nat->Bool} {s:Shared} (hc:∀ i j C,i < n->j < n->C (lt i j) s->cmp i j C s) {Q:α->Shared->Prop} {P:α->Prop}:
  ∀ {t:KasT α},InP n P t->Q (evT lt t) s->t.kasWp cmp Q s
 | .ret _,_,h=>h
 | .ask i j k,⟨h1,h2,h3⟩,h=>hc i j _ h1 h2 (wW hc (h3 _) h)
def ltX (n:Nat) (lt:Nat->Nat->Bool) (i j:Nat):Bool:=if i < n then (if j < n then lt i j else true) else false
theorem Uw {n:Nat} {lt:Nat->Nat->Bool} (tr:∀ i j k,i < n->j < n->k < n->lt j i=false->lt k j=false->lt k i=false) (i j k:Nat) (h1:ltX n lt j i=false) (h2:ltX n lt k j=false):ltX n lt k i=false:=by
 unfold ltX at*
 by_cases hi:i < n <;> by_cases hj:j < n <;> by_cases hk:k < n <;> simp only [hi,hj,hk,if_true,if_false] at h1 h2 ⊢ <;> first | exact tr i j k hi hj hk h1 h2 | exact absurd h2 (by decide) | exact absurd h1 (by decide) | rfl
theorem Ux {n:Nat} {lt:Nat->Nat->Bool} (as:∀ i j,i < n->j < n->lt i j=true->lt j i=false) (i j:Nat) (h:ltX n lt i j=true):ltX n lt j i=false:=by
 unfold ltX at*
 by_cases hi:i < n <;> by_cases hj:j < n <;> simp only [hi,hj,if_true,if_false] at h ⊢ <;> first | exact as i j hi hj h | exact absurd h (by decide) | rfl
theorem AU {α:Type} {n:Nat} {lt lt':Nat->Nat->Bool} (h:∀ i j,i < n->j < n->lt i j=lt' i j) {P:α->Prop}:∀ {t:KasT α},InP n P t->evT lt t=evT lt' t
 | .ret _,_=>rfl
 | .ask i j k,⟨h1,h2,h3⟩=>by
  show evT lt (k (lt i j))=evT lt' (k (lt' i j))
  rw [h i j h1 h2];exact AU h (h3 _)
theorem DN {n:Nat} {lt:Nat->Nat->Bool} (tr:∀ i j k,i < n->j < n->k < n->lt j i=false->lt k j=false->lt k i=false) (as:∀ i j,i < n->j < n->lt i j=true->lt j i=false) (h1:1<=n):
  (evT lt (kas_sort n)).toList.Perm (ba n)/\(evT lt (kas_sort n)).toList.Pairwise (fun i j=>lt j i=false):=by
 have e:evT lt (kas_sort n)=evT (ltX n lt) (kas_sort n):=AU (fun i j hi hj=>by unfold ltX; rw [if_pos hi,if_pos hj]) (wV (by omega));obtain ⟨a,b⟩:=QF (lt:=ltX n lt) (Uw tr) (Ux as) h1;rw [e];refine ⟨a,b.imp_of_mem fun {i j} hi hj h=>?_⟩;have hi':i < n:=by simpa using a.mem_iff.mp hi
 have hj':j < n:=by simpa using a.mem_iff.mp hj
 unfold ltX at h;rw [if_pos hj',if_pos hi'] at h;exact h
section
variable {prog:Program} {w:World} {A:Around} {E:Value->Shared->Prop} {s:Shared}
theorem vO {a:Addr} {vs:List Value} {n:Nat} {κ:SortKind} {P:PySem.Fin->Shared->Prop} (lt:Nat->Nat->Bool) (tr:∀ i j k,i < vs.length->j < vs.length->k < vs.length->lt j i=false->lt k j=false->lt k i=false) (as:∀ i j,i < vs.length->j < vs.length->lt i j=true->lt j i=false)
  (ho:s.heap.get? a=some (seqObj "list" vs.toArray n)) (h64:vs.length < 64)
  (hk:∀ s':Shared,(∀ b o,b≠a->s.heap.get? b=some o->s'.heap.get? b=some o)->∀ Q:SortKind->Shared->Prop,Q κ s'->wpAny (model prog w) A (keyKind' vs.toArray) Q E s')
  (hlt:∀ s':Shared,(∀ b o,b≠a->s.heap.get? b=some o->s'.heap.get? b=some o)->∀ i j,i < vs.length->j < vs.length->∀ Q:Bool->Shared->Prop,Q (lt i j) s'->wpAny (model prog w) A (keyLt' κ (vs.getD i cu) (vs.getD j cu)) Q (fun _ _=>False) s')
  (h:∀ p:List Nat,p.Perm (ba vs.length)->p.Pairwise (fun i j=>lt j i=false)->P (.done (.ret .none)) { s with heap:=sortedHeap s.heap a vs (p.map fun i=>vs.getD i cu).toArray }):
  wpAny (model prog w) A (Builtin.«list.sort» ⟨[.ref a],[]⟩) P E s:=by
 rw [list_sort_plain];have ha:a < s.heap.objs.size:=ax ho;refine aa (listItems_at ho rfl ?_);refine aa (jt ho rfl ?_ (by rw [ar,cz]; omega) (cg _));obtain ⟨e1,ho1⟩:∃ e1,(s.heap.update a (c4 fun _=>#[])).get? a=some (seqObj "list" #[] e1):=⟨_,jg ho (fun _=>#[])⟩;refine aa (seqEpoch_at ho1 rfl ?_);refine aa (wpAny_newTuple ?_ (by show vs.length<=_; rw [cz]; omega));refine aa (mq ?_ (cg _));refine dg ?_;have ho6:(((s.heap.update a (c4 fun _=>#[])).push (seqObj "tuple" vs.toArray 0)).push (seqObj "list" #[] 0)).get? a=some (seqObj "list" #[] e1):=by
  rw [ja _ _ _ (by rw [size_push',nh]; exact az (Nat.lt_succ_of_lt ha)),ja _ _ _ (by rw [nh]; exact az ha)];exact ho1
 have kept:∀ b o,b≠a->s.heap.get? b=some o->(((s.heap.update a (c4 fun _=>#[])).push (seqObj "tuple" vs.toArray 0)).push (seqObj "list" #[] 0)).get? b=some o:=fun b o hb e=>
  ah _ (ah _ ((Heap.get?_update_other s.heap (c4 fun _=>#[]) (jx hb)).trans e))
 show wpAny (model prog w) A _ P E { s with heap:=((s.heap.update a (c4 fun _=>#[])).push (seqObj "tuple" vs.toArray 0)).push (seqObj "list" #[] 0) }
 dsimp only;have hsz:vs.toArray.size=vs.length:=by simp
 by_cases h2:vs.toArray.size < 2
 ·rw [if_pos h2,if_pos h2];refine aa (ai ?_);rw [StateT.run_pure];refine aa (ai ?_);dsimp only;refine aa (seqEpoch_at ho6 rfl ?_);refine aa (jt ho6 rfl ?_ (cg _) (hsz2:=by rw [Array.size_map]; show (pairsOf vs).size<=_; rw [pairsOf_size,cz]; omega));simp only [bne_self_eq_false,dw,if_false];have e:(vs.toArray.zip vs.toArray).map (·.2)=((ba vs.length).map fun i=>vs.getD i cu).toArray:=by
   apply Array.toList_inj.mp;apply gd;intro i
   by_cases hi:i < vs.length
   ·simp [hi]
   ·simp [hi]
  have key:=h (ba vs.length) (List.Perm.refl _) (by
   rw [fb];intro i j hi hj hij;simp only [jc] at hi hj;omega)
  rw [<- e] at key;exact ai key
 ·rw [if_neg h2,if_neg h2];have h2':2<=vs.length:=by omega
  refine aa (hk _ kept _ ?_);refine aa (ia (kat_run (ks:=vs) (vs:=vs) (E:=E) (Q:=fun st' s'=>s'={ s with heap:=((s.heap.update a (c4 fun _=>#[])).push (seqObj "tuple" vs.toArray 0)).push (seqObj "list" #[] 0) }/\arrOf st'=(evT lt (kas_sort vs.length)).map (kas_item (vs.toArray.zip vs.toArray))/\failedOf st'=none)
   (G:=fun p s'=>p=evT lt (kas_sort vs.length)/\s'={ s with heap:=((s.heap.update a (c4 fun _=>#[])).push (seqObj "tuple" vs.toArray 0)).push (seqObj "list" #[] 0) }) rfl h2' h64 (fun p st' s' _ a2 a3 a4=>⟨a4.2,by rw [a2,a4.1],a3⟩)
   (wW (n:=vs.length) (lt:=lt) (fun i j C hi hj hC=>hlt _ kept i j hi hj C hC) (wV (by omega)) ⟨rfl,rfl⟩)) ?_ fun _ _ e=>e)
  rintro ⟨⟨⟩,st'⟩ s' ⟨rfl,har,hf⟩;dsimp only;have hout:=kat_snds (ks:=vs) (vs:=vs) rfl har;obtain ⟨c1,c2⟩:=DN tr as (by omega);refine aa (seqEpoch_at ho6 rfl ?_);refine aa (jt ho6 rfl ?_ (cg _) (hsz2:=by
   have:(Array.map (fun x=>x.snd) (arrOf st')).size<=av:=by
    rw [hout,ar,ae,c1.length_eq,jc,cz];omega
   first | exact this | exact j9 this))
  rw [hf];simp only [bne_self_eq_false,dw,if_false];have key:=h _ c1 c2;rw [<- hout] at key;exact ai key
end
def kD:Key->D
 | .inl i=>.int i
 | .inr x=>.str x
def tD (ks:List Key):D:=.tup (ks.map kD)
theorem QG {K:ag} {H:Hp} {k:Key} {v:V} (h:Rep K H (kD k) v):v=kV k:=by
 cases k <;> exact h
theorem QH {K:ag} {H:Hp} (k:Key):Rep K H (kD k) (kV k):=by
 cases k <;> rfl
theorem AV {K:ag} {H:Hp}:∀ {ks:List Key} {vs:List V},cL K H (ks.map kD) vs->vs=ks.map kV
 | [],[],_=>rfl
 | k :: ks,v :: vs,⟨h,r⟩=>by rw [QG h,AV (ks:=ks) r]; rfl
 | [],_ :: _,h=>h.elim
 | _ :: _,[],h=>h.elim
theorem AW {K:ag} {H:Hp}:∀ (ks:List Key),cL K H (ks.map kD) (ks.map kV)
 | []=>trivial
 | k :: ks=>⟨QH k,AW ks⟩
abbrev eW (h:Heap):List Value->List (List Key)->Prop:=Paired fun v ks=>∃ a us,v=.ref a/\IsTup h a us.toArray/\aM (ks.map kV) us
theorem eW.kept {h h':Heap} (k:∀ b o,h.get? b=some o->h'.get? b=some o):∀ {vs:List Value} {kss:List (List Key)},eW h vs kss->eW h' vs kss
 | _,_,.nil=>.nil
 | _,_,.cons ⟨a,us,e,⟨o,ho,r⟩,q⟩ t=>.cons ⟨a,us,e,⟨o,k a o ho,r⟩,q⟩ (eW.kept k t)
theorem eW.get {h:Heap}:∀ {vs:List Value} {kss:List (List Key)} {i:Nat},eW h vs kss->i < vs.length->∃ a us,vs.getD i cu=.ref a/\IsTup h a us.toArray/\aM ((kss.getD i []).map kV) us
 | _,_,i,.nil,hi=>by simp at hi
 | _,_,0,.cons ⟨a,us,e,p,q⟩ t,hi=>⟨a,us,by simpa using e,p,by simpa using q⟩
 | _,_,i+1,.cons _ t,hi=>by
  obtain ⟨a,us,e,p,q⟩:=eW.get (i:=i) t (by simpa using hi)
  exact ⟨a,us,by simpa using e,p,by simpa using q⟩
theorem oA {X:Cx} {pins:List (Addr×Obj)} {σ:St} {H:Hp} {s:Shared} (I:Inv X pins σ H s):∀ {kss:List (List Key)} {vs:List V} {us:List Value},cL X.K H (kss.map tD) vs->aM vs us->eW s.heap us kss
 | [],[],_,_,.nil=>.nil
 | ks :: kss,v :: vs,_,⟨⟨a,ws,e,q,r⟩,rs⟩,.cons rv rvs=>by
  subst e;cases rv
  obtain ⟨its,r2,p,_⟩:=I.tuple q;rw [AV r] at r2;exact .cons ⟨a,its,rfl,p,r2⟩ (oA I rs rvs)
 | [],_ :: _,_,h,_=>h.elim
 | _ :: _,[],_,h,_=>h.elim
section
variable {prog:Program} {w:World} {A:Around} {E:Value->Shared->Prop} {s:Shared}
theorem kX {b:Bool} {Q:Bool->Shared->Prop}:∀ (ks ls:List Key) (us ws:List Value) (i:Nat),aM (ks.map kV) us->aM (ls.map kV) ws->shape ks=shape ls->Q (bL ks ls) s->KatLex prog w A b false Q (us.zip ws) i s
 | [],[],_,_,i,.nil,.nil,_,h=>h
 | [],_ :: _,_,_,_,_,_,e,_=>by cases e
 | _ :: _,[],_,_,_,_,_,e,_=>by cases e
 | x :: ks,y :: ls,_,_,i,.cons (b:=u) r1 t1,.cons (b:=v) r2 t2,e,h=>by
  have s1:dA x=dA y:=by simpa using congrArg List.head? e
  have s2:shape ks=shape ls:=by simpa using congrArg List.tail e
  rw [k8];unfold bL at h;cases x with
  | inl a=>
   cases y with
   | inr c=>cases s1
   | inl c=>
    obtain ⟨t,rfl⟩:=r1;obtain ⟨t',rfl⟩:=r2;refine kat_cons (EqAt.int_int a t c t' prog w _ _ ?_)
    by_cases ac:a=c
    ·subst ac;rw [if_pos rfl] at h;rw [beq_self_eq_true];exact kat_yes (kX ks ls _ _ (i+1) t1 t2 s2 h)
    ·rw [if_neg (fun z=>ac (Sum.inl.inj z))] at h;rw [beq_eq_false_iff_ne.mpr ac];refine kat_no ?_;cases hb:(b && i == 0) with
     | true=>exact oneLt_int h
     | false=>exact kat_one _ _ (lt_int (show PySem.W.BoolBack Q (.bool (decide (a < c))) s from h))
  | inr a=>
   cases y with
   | inl c=>cases s1
   | inr c=>
    obtain ⟨t,rfl⟩:=r1;obtain ⟨t',rfl⟩:=r2;refine kat_cons (EqAt.str_str a t c t' prog w _ _ ?_)
    by_cases ac:a=c
    ·subst ac;rw [if_pos rfl] at h;rw [beq_self_eq_true];exact kat_yes (kX ks ls _ _ (i+1) t1 t2 s2 h)
    ·rw [if_neg (fun z=>ac (Sum.inr.inj z))] at h;rw [beq_eq_false_iff_ne.mpr ac];refine kat_no ?_;cases hb:(b && i == 0) with
     | true=>exact oneLt_str h
     | false=>exact kat_one _ _ (lt_str (show PySem.W.BoolBack Q (.bool (decide (a.cps.toList < c.cps.toList))) s from h))
theorem wX {b:Bool} {x y:Addr} {us ws:List Value} {ks ls:List Key} {Q:Bool->Shared->Prop} (hx:IsTup s.heap x us.toArray) (hy:IsTup s.heap y ws.toArray) (r1:aM (ks.map kV) us) (r2:aM (ls.map kV) ws) (e:shape ks=shape ls) (h:Q (bL ks ls) s):
  wpAny (model prog w) A (keyLt' (tuples' b) (.ref x) (.ref y)) Q E s:=by
 obtain ⟨ox,hox,_,n,dx⟩:=hx;obtain ⟨oy,hoy,_,m,dy⟩:=hy;refine kat_lt hox dx hoy dy ?_;have l1:=r1.length;have l2:=r2.length;have l3:ks.length=ls.length:=by simpa using congrArg List.length e
 rw [ae] at l1 l2;have hf:decide (us.toArray.size < ws.toArray.size)=false:=decide_eq_false (by simp; omega);rw [hf];exact kX ks ls us ws 0 r1 r2 e h
theorem wY {h:Heap} {b:Bool} {sh:List Bool}:∀ {vs:List Value} {kss:List (List Key)},eW h vs kss->(∀ ks∈kss,shape ks=b :: sh)->∃ fs:List Value,fs.length=vs.length/\KatTups h vs fs/\∀ f∈fs,typeOf f=pure (.type (if b then "int" else "str"))
 | _,_,.nil,_=>⟨[],rfl,KatTups.nil,fun _ hf=>nomatch hf⟩
 | _,_,.cons (b:=ks) ⟨a,us,e,⟨o,ho,hc,n,hd⟩,r⟩ t,hs=>by
  obtain ⟨fs,hl,ht,hT⟩:=wY t fun x hx=>hs x (aj _ hx);have h0:=hs ks ak;subst e;cases ks with
  | nil=>cases h0
  | cons k ks=>
   cases r with
   | cons rk rks=>
    rename_i u us';have hk:dA k=b:=by simpa using congrArg List.head? h0
    refine ⟨u :: fs,by simp [hl],KatTups.cons ho hc hd (by simp) ht,fun f hf=>?_⟩;rcases a7.mp hf with rfl | hf
    ·cases k with
     | inl i=>obtain ⟨tk,rfl⟩:=rk; subst hk; rfl
     | inr x=>obtain ⟨tk,rfl⟩:=rk; subst hk; rfl
    ·exact hT f hf
theorem AX {vs:List Value} {kss:List (List Key)} {b:Bool} {sh:List Bool} {Q:SortKind->Shared->Prop} (t:eW s.heap vs kss) (hs:∀ ks∈kss,shape ks=b :: sh) (h0:0 < vs.length) (h:Q (tuples' true) s):wpAny (model prog w) A (keyKind' vs.toArray) Q E s:=by
 obtain ⟨fs,hl,ht,hT⟩:=wY t hs;refine kat_kind (T:=.type (if b then "int" else "str")) ht (by omega) (fun v hv=>by rw [hT v hv]; exact Looks.now) (by cases b <;> rfl) ?_;have:((Value.type (if b then "int" else "str")) != Value.type "tuple")=true:=by cases b <;> rfl
 rw [this];exact h
theorem sO {a:Addr} {n:Nat} {P:PySem.Fin->Shared->Prop} (ho:s.heap.get? a=some (seqObj "list" ([]:List Value).toArray n)) (h:P (.done (.ret .none)) { s with heap:=sortedHeap s.heap a [] #[] }):wpAny (model prog w) A (Builtin.«list.sort» ⟨[.ref a],[]⟩) P E s:=by
 rw [list_sort_plain];refine aa (listItems_at ho rfl ?_);refine aa (jt ho rfl ?_ (cg _) (cg _));have ha:a < s.heap.objs.size:=ax ho;obtain ⟨e1,ho1⟩:∃ e1,(s.heap.update a (c4 fun _=>#[])).get? a=some (seqObj "list" #[] e1):=⟨_,jg ho (fun _=>#[])⟩;refine aa (seqEpoch_at ho1 rfl ?_);refine aa (wpAny_newTuple ?_ (cg _));refine aa (mq ?_ (cg _));refine dg ?_;have ho6:(((s.heap.update a (c4 fun _=>#[])).push (seqObj "tuple" ([]:List Value).toArray 0)).push (seqObj "list" #[] 0)).get? a=some (seqObj "list" #[] e1):=by
  rw [ja _ _ _ (by rw [size_push',nh]; exact az (Nat.lt_succ_of_lt ha)),ja _ _ _ (by rw [nh]; exact az ha)];exact ho1
 show wpAny (model prog w) A _ P E { s with heap:=((s.heap.update a (c4 fun _=>#[])).push (seqObj "tuple" ([]:List Value).toArray 0)).push (seqObj "list" #[] 0) }
 dsimp only;rw [if_pos (by decide),if_pos (by decide)];refine aa (ai ?_);rw [StateT.run_pure];refine aa (ai ?_);dsimp only;refine aa (seqEpoch_at ho6 rfl ?_);have e0:(Array.map (fun x=>x.snd) (arrOf (SortSt.mk' general' ((#[]:Array Value).zip (#[]:Array Value)) #[] 7 none)))=(#[]:Array Value):=by
  show Array.map (fun x=>x.snd) ((#[]:Array Value).zip (#[]:Array Value))=#[]
  simp
 refine aa (jt ho6 rfl ?_ (cg _) (hsz2:=by
  have e1:(Array.map (fun x=>x.snd) (arrOf (SortSt.mk' general' ((#[]:Array Value).zip (#[]:Array Value)) #[] 7 none))).size=0:=by rw [e0]; rfl
  first | exact df (Nat.le_of_eq e1) (cg _) | (show _<=_; omega)))
 simp only [bne_self_eq_false,dw,if_false];refine ai ?_
 show P (.done (.ret .none)) { s with heap:=(((s.heap.update a (c4 fun x=>#[])).push (seqObj "tuple" ([]:List Value).toArray 0)).push (seqObj "list" #[] 0)).update a (c4 fun x=>Array.map (fun x=>x.snd) (arrOf (SortSt.mk' general' ((#[]:Array Value).zip (#[]:Array Value)) #[] 7 none))) }
 rw [e0];exact h
theorem JA {v:Value} {Q:Value->Shared->Prop} {κ:SortKind} (Col:List Value->Shared->Prop) (hc:wpAny (model prog w) A.in1 (collect v) Col E s)
  (h:∀ vs s1,Col vs s1->vs.length < 64/\∃ lt:Nat->Nat->Bool,(∀ i j k,i < vs.length->j < vs.length->k < vs.length->lt j i=false->lt k j=false->lt k i=false)/\(∀ i j,i < vs.length->j < vs.length->lt i j=true->lt j i=false)/\
   (∀ (A':Around) (s':Shared),(∀ b o,s1.heap.get? b=some o->s'.heap.get? b=some o)->0 < vs.length->∀ (Q:SortKind->Shared->Prop) E',Q κ s'->wpAny (model prog w) A' (keyKind' vs.toArray) Q E' s')/\
   (∀ (s':Shared),(∀ b o,s1.heap.get? b=some o->s'.heap.get? b=some o)->∀ i j,i < vs.length->j < vs.length->∀ Q:Bool->Shared->Prop,Q (lt i j) s'->wpAny (model prog w) A.in1.in1 (keyLt' κ (vs.getD i cu) (vs.getD j cu)) Q (fun _ _=>False) s')/\
   ∀ (p:List Nat) (h':Heap) (e:Nat),p.Perm (ba vs.length)->p.Pairwise (fun i j=>lt j i=false)->(∀ b o,s1.heap.get? b=some o->h'.get? b=some o)->h'.get? s1.heap.objs.size=some (seqObj "list" (p.map fun i=>vs.getD i cu).toArray e)->Q (.ref s1.heap.objs.size) { s1 with heap:=h' }):
  wpAny (model prog w) A (call (.builtin "sorted") [v]) Q E s:=by
 refine Calls.call_function_entry kind_sorted plain_sorted entry_sorted (args_sorted1 _) ?_;unfold Builtin.«sorted»;refine aa (m:=checkCount "sorted" 1 1 _) (ai ?_);refine aa (ia hc (fun vs s1 c=>?_) fun _ _ x=>x);obtain ⟨h64,lt,tr,as,hk,hlt,fin⟩:=h vs s1 c;refine aa (mq ?_ (by rw [cz]; omega));have hoL:(s1.heap.push (seqObj "list" vs.toArray 0)).get? s1.heap.objs.size=some (seqObj "list" vs.toArray 0):=ay _ rfl;have keep:∀ b o,s1.heap.get? b=some o->b≠s1.heap.objs.size/\(s1.heap.push (seqObj "list" vs.toArray 0)).get? b=some o:=fun b o q=>⟨az (ax q),ah _ q⟩
 show wpAny _ _ _ _ _ { s1 with heap:=s1.heap.push (seqObj "list" vs.toArray 0) }
 refine aa (dg (jl slot_list_sort ⟨_,hoL,rfl⟩ entry_list_sort ?_ (args_list_sort _)));have tree:wpAny (model prog w) A.in1.in1 (Builtin.«list.sort» ⟨[.ref s1.heap.objs.size],[]⟩) (fun r s'=>∃ p:List Nat,r=.done (.ret .none)/\p.Perm (ba vs.length)/\p.Pairwise (fun i j=>lt j i=false)/\s'={ s1 with heap:=sortedHeap (s1.heap.push (seqObj "list" vs.toArray 0)) s1.heap.objs.size vs (p.map fun i=>vs.getD i cu).toArray }) E { s1 with heap:=s1.heap.push (seqObj "list" vs.toArray 0) }:=by
  by_cases h0:0 < vs.length
  ·exact vO (κ:=κ) lt tr as hoL h64 (fun s' kp Q hq=>hk _ s' (fun b o e=>kp b o (keep b o e).1 (keep b o e).2) h0 Q _ hq) (fun s' kp i j hi hj Q hq=>hlt s' (fun b o e=>kp b o (keep b o e).1 (keep b o e).2) i j hi hj Q hq) fun p a1 a2=>⟨p,rfl,a1,a2,rfl⟩
  ·have e0:vs=[]:=List.length_eq_zero_iff.mp (by omega);subst e0;exact sO hoL ⟨[],rfl,List.Perm.refl _,f9,rfl⟩
 refine ia tree (fun r s' hr=>?_) fun _ _ x=>x;obtain ⟨p,rfl,a1,a2,rfl⟩:=hr;refine ⟨_,rfl,ai ⟨_,rfl,?_⟩⟩;obtain ⟨e,he⟩:=sortedHeap_at (h:=s1.heap.push (seqObj "list" vs.toArray 0)) (out:=(p.map fun i=>vs.getD i cu).toArray) hoL;exact fin p _ e a1 a2 (fun b o q=>(sortedHeap_old (keep b o q).1 (by rw [size_push']; exact Nat.lt_succ_of_lt (ax q))).trans (keep b o q).2) he
end
def sP (H:Hp) (ps:List (Addr×List V)):Hp:=fun b=>match ps.lookup b with
 | some xs=>some (.tup xs)
 | none=>H b
theorem uR {κ:Type} {x:Addr} {k:κ}:∀ {l:List (Addr×κ)},l.lookup x=some k->(x,k)∈l
 | [],h=>by simp at h
 | (n,v) :: r,h=>by
  by_cases hx:x=n
  ·subst hx;simp only [cj,beq_self_eq_true] at h;cases h
   exact ak
  ·have:(x == n)=false:=by simpa using hx
   simp only [cj,this] at h;exact aj _ (uR h)
theorem pX {κ:Type} {x:Addr}:∀ {l:List (Addr×κ)},(∀ p∈l,p.1≠x)->l.lookup x=none
 | [],_=>rfl
 | (n,v) :: r,h=>by
  have hx:(x == n)=false:=by
   have:=h (n,v) ak;simpa using fun e:x=n=>this e.symm
  simp only [cj,hx];exact pX fun p hp=>h p (aj _ hp)
theorem DO {H:Hp} {ps:List (Addr×List V)} {b:Addr} (h:∀ p∈ps,p.1≠b):sP H ps b=H b:=by
 unfold sP; rw [pX h]
theorem DP {H:Hp}:∀ {ps:List (Addr×List V)} {j:Nat} {a:Addr} {xs:List V},(ps.map (·.1)).Nodup->ps[j]?=some (a,xs)->sP H ps a=some (.tup xs)
 | [],_,_,_,_,h=>by simp at h
 | (n,v) :: r,0,a,xs,_,h=>by
  simp at h;obtain ⟨rfl,rfl⟩:=h;unfold sP;simp [cj]
 | (n,v) :: r,j+1,a,xs,nd,h=>by
  have nd':(n :: r.map (·.1)).Nodup:=nd;obtain ⟨n1,n2⟩:=ir.mp nd';have h':r[j]?=some (a,xs):=by simpa using h
  have ne:(a == n)=false:=by
   have:a∈r.map (·.1):=au.mpr ⟨_,cf h',rfl⟩;simpa using fun e:a=n=>n1 (e ▸ this)
  have ih:=DP (H:=H) n2 h';unfold sP at ih ⊢;simp only [cj,ne];exact ih
section
variable {X:Cx} {pins:List (Addr×Obj)} {σ:St} {H:Hp} {s:Shared} {h':Heap}
theorem Inv.laidT {ps:List (Addr×List V)} {t':Nat} (I:Inv X pins σ H s) (k:∀ b u,s.heap.get? b=some u->h'.get? b=some u) (hp:∀ p∈ps,s.heap.objs.size<=p.1) (new:∀ p∈ps,p.2.length<=av/\∃ its:List Value,aM p.2 its/\pF h' p.1 its.toArray):
  Inv X pins σ (sP H ps) { s with heap:=h',toks:=t' }:=by
 have nb:∀ b,b < s.heap.objs.size->∀ p∈ps,p.1≠b:=fun b hb p hp' e=>fv _ (bw hb (e ▸ hp p hp'));have old:∀ b,b < s.heap.objs.size->sP H ps b=H b:=fun b hb=>DO (nb b hb);refine I.un ⟨fun b u q _ _ _=>k b u q,fun b u q _ _ _=>⟨u.slots,k b u q⟩,fun b u q n _=>(old b (ax q)).trans n,fun b u q _=>⟨u,k b u q⟩,fun b xs q=>(old b (I.hok.lt q)).trans q,fun b u xs q=>(old b (I.hok.lt q)).trans q,fun b ps' q=>⟨#[],by rw [old b (I.hok.lt q),q]; simp⟩⟩ ?_;intro b u e;unfold sP at e;cases q:ps.lookup b with
 | some xs=>
  rw [q] at e;cases e
  obtain ⟨z,its,r,p⟩:=new _ (uR q);exact ⟨z,its,r,p⟩
 | none=>
  rw [q] at e;have hb:=I.hok.lt e;exact (I.hok b u e).stay (fun c v _ q=>k c v q) (fun c q=>(old c (I.hok.lt q)).trans q) fun c xs q=>(old c (I.hok.lt q)).trans q
theorem JB (I:Inv X pins σ H s) {ps:List (Addr×List V)} (hp:∀ p∈ps,s.heap.objs.size<=p.1):DF H (sP H ps):=fun b o e=>by
 have nb:∀ p∈ps,p.1≠b:=fun p hp' z=>fv _ (bw (I.hok.lt e) (z ▸ hp p hp'));rw [DO nb];exact e
end
def G0 (v d:Addr):HO:=.ext fun h=>h.IsItemsView v d
section
variable {X:Cx}
def Mv:V->List V->Hp->VK->Prop:=fun x xs H Q=>∃ d kvs,x=.ref d/\xs=[]/\H d=some (.dK kvs)/\∀ l,H l=none->Q (.ref l) (upd H l (G0 l d))
theorem Mw:MtR X "dict.items" Mv:=by
 intro pins s σ H x xs v us Q I rx rv h;obtain ⟨d,kvs,rfl,rfl,hd,q⟩:=h;cases rx
 cases rv
 obtain ⟨z,y,vs,r,D⟩:=I.hok d _ hd;refine jr PySem.F.slot_dict_items D.typeIs PySem.F.entry_dict_items (PySem.F.args_dict_items_1 _) (meets_dict_items (bO X.prog X.w) d y) ⟨⟨vs,D⟩,?_⟩;refine ⟨.ref s.heap.objs.size,_,I.laid (t':=s.toks) (o:=G0 s.heap.objs.size d) (fun b u e=>ah _ e) (ao _) ?_,rfl,q _ I.fresh⟩;exact ⟨⟨_,ay _ rfl,rfl,rfl⟩,⟨_,ay _ rfl⟩,fun h1 h2 ⟨o,e,p⟩ k=>⟨o,k o e,p⟩⟩
def C5 (K:ag) (kss:List (List Key)) (Q:VK) (H1:Hp):Prop:=∀ (l:Addr) (kss':List (List Key)) (vs':List V),H1 l=none->kss'.Perm kss->kss'.Pairwise (fun a b=>bL b a=false)->cL K H1 (kss'.map tD) vs'->Q (.ref l) (upd H1 l (.lst vs'))
def Uy (K:ag):List V->Hp->VK->Prop:=fun xs H Q=>∃ (p:Addr) (kss:List (List Key)) (sh:List Bool) (b:Bool),xs=[.ref p]/\kss.length < 64/\(∀ ks∈kss,shape ks=b :: sh)/\
 ((∃ vs,SqL K H p vs/\cL K H (kss.map tD) vs/\C5 K kss Q H)\/
  (∃ d kvs,H p=some (G0 p d)/\H d=some (.dK kvs)/\kvs.map (fun kv=>[kV kv.1,kv.2])=kss.map (fun ks=>ks.map kV)/\∀ H1,DF H H1->C5 K kss Q H1))
theorem sQ {α:Type} {xs:List α} {d:α} {p:List Nat} (h:p.Perm (ba xs.length)):(p.map fun i=>xs.getD i d).Perm xs:=by
 have e:(ba xs.length).map (fun i=>xs.getD i d)=xs:=by
  apply gd;intro i
  by_cases hi:i < xs.length
  ·simp [hi]
  ·simp [hi]
 have:=h.map fun i=>xs.getD i d
 rwa [e] at this
theorem AY {K:ag} {H:Hp} {ds:List D} {vs:List V} (r:cL K H ds vs):∀ {p:List Nat},(∀ i∈p,i < ds.length)->cL K H (p.map fun i=>ds.getD i .non) (p.map fun i=>vs.getD i .non)
 | [],_=>trivial
 | i :: p,h=>by
  have hi:=h i ak;have g:ds[i]?=some (ds.getD i .non):=by simp [hi]
  obtain ⟨v,hv,hr⟩:=r.at g;have e:vs.getD i .non=v:=by simp [fh,hv]
  refine ⟨?_,AY r fun j hj=>h j (aj _ hj)⟩
  show Rep K H (ds.getD i .non) (vs.getD i .non)
  rw [e];exact hr
theorem mL {vs:List V} {us:List Value} (r:aM vs us):∀ {p:List Nat},(∀ i∈p,i < vs.length)->aM (p.map fun i=>vs.getD i .non) (p.map fun i=>us.getD i cu)
 | [],_=>.nil
 | i :: p,h=>by
  have hi:=h i ak;have g:vs[i]?=some (vs.getD i .non):=by simp [hi]
  obtain ⟨u,hu,hr⟩:=r.get g;have e:us.getD i cu=u:=by simp [fh,hu]
  refine .cons ?_ (mL r fun j hj=>h j (aj _ hj))
  show RelV (vs.getD i .non) (us.getD i cu)
  rw [e];exact hr
theorem C6 (hc:X.calm=true) (K:ag) (hK:X.K=K):bR X (.builtin "sorted") (Uy K):=by
 subst hK;intro pins s σ H xs us Q I r h;obtain ⟨p,kss,sh,b,rfl,h64,hsh,h⟩:=h;obtain ⟨u,rfl,ru⟩:=vals1 r;cases ru
 have shOf:∀ i,i < kss.length->shape (kss.getD i [])=b :: sh:=fun i hi=>by
  have:kss.getD i []=kss[i]:=by simp [hi]
  rw [this];exact hsh _ (e9 hi)
 refine JA (κ:=tuples' true) (fun its s1=>∃ H1 vs,Inv X pins σ H1 s1/\aM vs its/\cL X.K H1 (kss.map tD) vs/\C5 X.K kss Q H1) ?col ?fin
 case fin=>
  rintro its s1 ⟨H1,vs,I1,rv,rr,fin⟩;have l1:=rv.length;have l2:kss.length=vs.length:=by simpa using rr.length
  have hlen:its.length=kss.length:=by omega
  have tk:=oA I1 rr rv;refine ⟨by omega,fun i j=>bL (kss.getD i []) (kss.getD j []),fun i j k hi hj hk h1 h2=>?_,fun i j _ _ h=>pU h,fun A' s' kp h0 Q' E' hq=>?_,fun s' kp i j hi hj Q' hq=>?_,fun q h' e a1 a2 kp he=>?_⟩
  ·exact mK ((shOf i (by omega)).trans (shOf j (by omega)).symm) ((shOf j (by omega)).trans (shOf k (by omega)).symm) h1 h2
  ·exact AX (tk.kept kp) hsh h0 hq
  ·obtain ⟨a,ua,e1,p1,r1⟩:=(tk.kept kp).get hi;obtain ⟨c,uc,e2,p2,r2⟩:=(tk.kept kp).get hj;rw [e1,e2];exact wX p1 p2 r1 r2 ((shOf i (by omega)).trans (shOf j (by omega)).symm) hq
  ·have hin:∀ i∈q,i < kss.length:=fun i hi=>by
    have:=a1.mem_iff.mp hi;rw [ip] at this;omega
   rw [hlen] at a1;have rr':=AY rr (p:=q) (fun i hi=>by rw [ae]; exact hin i hi);have em:(q.map fun i=>(kss.map tD).getD i .non)=(q.map fun i=>kss.getD i []).map tD:=by
    rw [bp];apply dn;intro i hi;have:=hin i hi;simp [this]
   rw [em] at rr';refine ⟨.ref s1.heap.objs.size,_,I1.laid (t':=s1.toks) (o:=.lst (q.map fun i=>vs.getD i .non)) kp (ao _) ?_,rfl,fin _ _ _ I1.fresh (sQ a1) ?_ rr'⟩
   ·refine ⟨?_,q.map (fun i=>its.getD i cu),e,mL rv (fun i hi=>by have:=hin i hi; omega),he⟩;rw [ae,a1.length_eq,jc,cz];omega
   ·rw [c8];exact a2
 case col=>
  rcases h with ⟨vs,hq,rr,fin⟩ | ⟨d,kvs,hv,hd,hk,fin⟩
  ·obtain ⟨its,rv,pl,hz⟩:=I.list hq;refine collect_list pl.isList ?_ (by have:=rv.length; omega);exact ⟨H,vs,I.kept (t':=s.toks) fun b o e=>by
    have hlt:b < s.heap.objs.size:=ax e
    first
     | (rw [jh _ _ _ _ (az hlt),ja _ _ _ (az hlt)]; exact e)
     | exact ah _ e,rv,rr,fin⟩
  ·obtain ⟨hview,_,_⟩:=I.hok p _ hv;obtain ⟨z,y,vs,rkv,D⟩:=I.hok d _ hd;obtain ⟨ep,D'⟩:=D.dictAt;have lkv:kvs.length=vs.length:=KV.length rkv;have lks:kvs.length=kss.length:=by simpa using congrArg List.length hk
   refine kdx_collect (A:=X.A.in1) (knd:=bO X.prog X.w) (kvs:=vs) (ep:=ep) (I.ok.hd hc) hview D' (by rw [cz]; omega) fun h' tk as kp hl hG=>?_
   -- the new tuples
   let ps:List (Addr×List V):=as.zip (kss.map fun ks=>ks.map kV);have psl:ps.map (·.1)=as:=by
    show (as.zip _).map ix=as
    rw [List.map_fst_zip];rw [ae];omega
   have hpl:∀ q∈ps,s.heap.objs.size<=q.1:=fun q hq=>by
    have:q.1∈as:=by rw [<- psl]; exact au.mpr ⟨q,hq,rfl⟩
    exact f6 (hG.above _ this)
   have nd:(ps.map (·.1)).Nodup:=by
    rw [psl];exact hG.rise.imp fun h=>az h
   have each:∀ (j:Nat) (a:Addr),as[j]?=some a->∃ ks us,kss[j]?=some ks/\ps[j]?=some (a,ks.map kV)/\aM (ks.map kV) us/\pF h' a us.toArray/\ks.length<=2:=fun j a ha=>by
    obtain ⟨key,kk,x,e1,e2,e3⟩:=hG.pairs j a ha;have hj:j < kss.length:=by
     have:=(ab.mp ha).1;omega
    have hjk:j < kvs.length:=by omega
    have g1:kss[j]?=some kss[j]:=by simp [hj]
    have g2:kvs[j]?=some kvs[j]:=by simp [hjk]
    have g3:(kss[j]).map kV=[kV kvs[j].1,kvs[j].2]:=by
     have:=congrArg (fun l=>l[j]?) hk;simp [g1,g2] at this;exact this.symm
    -- the raw pair
    have rr:∀ {kvs:List (Key×V)} {vs:List (Key×Value)} {j:Nat} {kv:Key×V} {w':Key×Value},KV kvs vs->kvs[j]?=some kv->vs[j]?=some w'->kv.1=w'.1/\RelV kv.2 w'.2:=by
     intro kvs vs j kv w' h
     induction h generalizing j with
     | nil=>intro h1; simp at h1
     | cons r t ih=>
      intro h1 h2;cases j with
      | zero=>simp at h1 h2; subst h1 h2; exact r
      | succ j=>exact ih (by simpa using h1) (by simpa using h2)
    obtain ⟨q1,q2⟩:=rr rkv g2 e1;refine ⟨kss[j],[key,x],g1,?_,?_,⟨_,e3,rfl,⟨0,rfl⟩,rfl⟩,?_⟩
    ·show (as.zip _)[j]?=_
     rw [jz];exact ⟨ha,by simp [g1]⟩
    ·rw [g3];refine .cons ?_ (.cons q2 .nil);rw [q1];have e2':wD kk key=true:=e2;rcases bU e2' with ⟨i,t,rfl,rfl⟩ | ⟨y,t,rfl,rfl⟩
     ·exact ⟨t,rfl⟩
     ·exact ⟨t,rfl⟩
    ·have:=congrArg List.length g3;simp at this;omega
   have I1:Inv X pins σ (sP H ps) { s with heap:=h',toks:=tk }:=I.laidT kp hpl fun q hq=>by
    obtain ⟨j,hj⟩:=dz.mp hq;have ha:as[j]?=some q.1:=by
     have:=congrArg (fun l=>l[j]?) psl;simp [hj] at this;exact this.symm
    obtain ⟨ks,us,_,e2,e3,e4,e5⟩:=each j q.1 ha;rw [hj] at e2;have eq2:q.2=ks.map kV:=by
     have:=bg e2;rw [this]
    refine ⟨?_,us,by rw [eq2]; exact e3,e4⟩;rw [eq2,ae,cz];omega
   refine ⟨sP H ps,as.map V.ref,I1,?_,?_,fin _ (JB I hpl)⟩
   ·have:∀ l:List Addr,aM (l.map V.ref) (l.map c9):=fun l=>by
     induction l with
     | nil=>exact .nil
     | cons a l ih=>exact .cons rfl ih
    exact this as
   ·have gen:∀ (l:List Addr) (ls:List (List Key)),l.length=ls.length->(∀ (j:Nat) a ks,l[j]?=some a->ls[j]?=some ks->sP H ps a=some (.tup (ks.map kV)))->cL X.K (sP H ps) (ls.map tD) (l.map V.ref):=by
     intro l
     induction l with
     | nil=>
      intro ls hl _;cases ls with
      | nil=>exact trivial
      | cons _ _=>cases hl
     | cons a l ih=>
      intro ls hl hh;cases ls with
      | nil=>cases hl
      | cons ks ls=>
       refine ⟨⟨a,_,rfl,SqT.of (hh 0 a ks rfl rfl),AW ks⟩,ih ls (by simpa using hl) fun j a' ks' h1 h2=>hh (j+1) a' ks' (by simpa using h1) (by simpa using h2)⟩
    refine gen as kss (by omega) fun j a ks h1 h2=>?_;obtain ⟨ks',us,e1,e2,_⟩:=each j a h1;rw [h2] at e1;cases e1
    exact DP nd e2
end
end L2
namespace L2
open PySem PySem.Spec PyProof.Rows
theorem Ad:typeLookup (.type "tuple") "keys" = pure none:=by rw [typeLookup_type,builtinLookup_eq_fast]; kernel_rfl
theorem eX:entryFor table "dict.update.loop" = some Builtin.«dict.update.loop»:=entryFor_of_tree (by kernel_rfl)
theorem bV:plainId "dict.update.loop" = true:=by decide +kernel
theorem Ae {prog:Program} {w:World} {A:Around} {E:Value->Shared->Prop} {s:Shared} {a:Addr} {o:Obj} {xs:Array Value} {k:Nat} {Q:Option Value->Shared->Prop}
  (hx:s.heap.get? a=some o) (hc:o.cls=.type "tuple") (hdat:o.data=.seq xs k) (hd:o.dict=none) (hA:A.handled=none)
  (h:∀ h' tk,(∀ b u,s.heap.get? b=some u->h'.get? b=some u)->Q none { s with heap:=h',toks:=tk }):wpAny (model prog w) A (getAttr? (.ref a) "keys") Q E s:=by
 obtain ⟨c,dct,dat,sl⟩:=o;simp only at hc hdat hd;subst hc hdat hd;obtain ⟨hp,g,d,tk,os⟩:=s;have hT:∀ tk',(⟨hp,g,d,tk',os⟩:Shared).TypeIs (.ref a) "tuple" := fun _=>⟨_,hx,rfl⟩;have f1:=sub_AttributeError;have f3:=F.slot_tuple_getattribute.lookup;have f4:=F.slot_tuple_getattribute.bind (.ref a);have f5:=am_tuple_getattr_none;unfold getAttr? getAttrBy? getAttrBy
 repeat (any_goals (first | assumption | exact hT _ | ((with_reducible show wpAny _ _ (call (Value.builtin "tuple.__getattribute__") _ _) _ _ _); refine call_meets F.slot_tuple_getattribute (hT _) am_entry_tuple_getattribute (F.args_tuple_getattribute_2 _ _) (meets_getattribute_miss_tuple a xs k sl "keys" _ Ad (by decide) (by size_fits)) ⟨hx,hA,fun h' tk' e hx'=>?_⟩) | wp_step))
 obtain ⟨t',u',he⟩:=hx'.there
 show wpAny _ _ (getattributeRaised _ _ _ _ _ _ _) _ _ _
 unfold getattributeRaised
 repeat (any_goals (first | assumption | wp_step))
 exact h _ _ hx'.of.keeps
section
variable {prog:Program} {w:World} {K:Type} [DecidableEq K] {knd:KeyKind prog w K} {A:Around} {R:Result->Shared->Prop}
theorem G1 {I d:Addr} {fp wr:List Addr} {n:Nat} {P:Nat->Value->Prop} {St:Nat->Heap->Prop} (W:Walks prog w A.in1 I fp wr n P St) (hd:d∉fp) (ps:List (Addr×K×Value×Value)) (hn:ps.length=n)
  (hP:∀ i v,P i v->∃ p,ps[i]?=some p/\v=.ref p.1) (hT:∀ p∈ps,p.1∉wr/\p.1≠d) (hk:∀ p∈ps,knd.is p.2.1 p.2.2.1=true) (res:Value):
  ∀ (m i:Nat) (s:Shared) (kvs:List (K×Value)),n - i=m->i<=n->St i s.heap->s.heap.DictOf knd d kvs->kvs.length+n<=av+i->(∀ p∈ps,IsTup s.heap p.1 #[p.2.2.1,p.2.2.2])->
  (∀ h' tk,h'.DictOf knd d (merged kvs ((ps.drop i).map fun p=>(p.2.1,p.2.2.2)))->(∀ b o,b≠d->b∉wr->s.heap.get? b=some o->h'.get? b=some o)->R (.ok (.ret res)) { s with heap:=h',toks:=tk })->
  codeAny (model prog w) A (.builtin "dict.update.loop" ⟨[.ref d,.ref I,rawInt i,res],[]⟩) R s:=by
 have hdw:d∉wr:=fun h=>hd (W.sub _ h);intro m
 induction m with
 | zero=>
  intro i s kvs hm hi hst hdt hz hit hR;have hin:i=n:=by omega
  subst hin;refine l0 eX ?_;rw [i5 bV _]
  show wpAny _ A.in1 (pyNext (.ref I) >>= _) _ _ s
  refine aa (W.done s _ _ hst fun h' tk hk'=>?_)
  show wpAny _ A.in1 (Builtin.Dict.addKeywords d [] >>= _) _ _ _
  have hfin:=hR h' tk (by
   rw [List.drop_of_length_le (by omega)];obtain ⟨o,es,ep,h1,h2⟩:=hdt;exact ⟨o,es,ep,hk' d _ hdw h1,h2⟩) fun b o _ hb e=>hk' b o hb e
  exact aa (ai (ai hfin))
 | succ m ih=>
  intro i s kvs hm hi hst hdt hz hit hR;have hlt:i < n:=by omega
  refine l0 eX ?_;rw [i5 bV _]
  show wpAny _ A.in1 (pyNext (.ref I) >>= _) _ _ s
  refine aa (W.item i s _ _ hlt hst fun v h' tk hPv hst' hk'=>?_);obtain ⟨p,hp,rfl⟩:=hP i v hPv;have hpm:=cf hp;obtain ⟨ob,hb1,hb2,nn,hb3⟩:=hit p hpm;have hb1':=hk' _ _ (hT p hpm).1 hb1;have hTy:({ s with heap:=h',toks:=tk }:Shared).TypeIs (.ref p.1) "tuple" := ⟨ob,hb1',hb2⟩;have hdt':h'.DictOf knd d kvs:=by
   obtain ⟨o,es,ep,h1,h2⟩:=hdt;exact ⟨o,es,ep,hk' d _ hdw h1,h2⟩
  refine aa (dg (aa (m9 ?_)));unfold Builtin.Dict.pairItems;refine aa (nq hTy ?_);rw [if_pos (by decide)];refine aa (wpAny_seqItems hb1' hb3 (ai ?_))
  show wpAny _ _ (holding [p.2.2.1,p.2.2.2] (dictSet d p.2.2.1 p.2.2.2)) _ _ _
  refine dg (wpAny_dictSet_pairs (hk p hpm) hdt' (hsz:=by omega) fun h2 hd2 hs2=>?_);refine ai ⟨ku bV _,?_⟩;have st2:St (i+1) h2:=W.frame (i+1) h' h2 hst' fun b hb o e=>(hs2.2 b (fun z=>hd (z ▸ hb))).trans e;refine ih (i+1) _ (stored kvs p.2.1 p.2.2.2) (by omega) hlt st2 hd2 ?_ (fun q hq=>?_) fun h3 tk3 hd3 hk3=>?_
  ·have:=stored_length_le kvs p.2.1 p.2.2.2;omega
  ·obtain ⟨ob',c1,c2⟩:=hit q hq;exact ⟨ob',(hs2.2 _ (hT q hq).2).trans (hk' _ _ (hT q hq).1 c1),c2⟩
  ·refine hR h3 tk3 ?_ fun b o hb hw e=>hk3 b o hb hw ((hs2.2 b hb).trans (hk' b o hw e));have hdr:ps.drop i=p :: ps.drop (i+1):=by
    obtain ⟨hl,e⟩:=ab.mp hp;rw [j4 hl,e]
   rw [hdr];exact hd3
theorem vP {E:Value->Shared->Prop} {s:Shared} {a:Addr} {o:Obj} {k:Nat} {ps:List (Addr×K×Value×Value)} {Q:Value->Shared->Prop} (hA:A.handled=none) (hx:s.heap.get? a=some o) (hc:o.cls=.type "tuple") (hdat:o.data=.seq (ps.map fun p=>c9 p.1).toArray k) (hd:o.dict=none)
  (hk:∀ p∈ps,knd.is p.2.1 p.2.2.1=true) (hit:∀ p∈ps,IsTup s.heap p.1 #[p.2.2.1,p.2.2.2]) (hz:ps.length<=av)
  (h:∀ h' tk,h'.DictOf knd s.heap.objs.size (merged [] (ps.map fun p=>(p.2.1,p.2.2.2)))->(∀ b u,s.heap.get? b=some u->h'.get? b=some u)->Q (.ref s.heap.objs.size) { s with heap:=h',toks:=tk }):
  wpAny (model prog w) A (call (.type "dict") [.ref a]) Q E s:=by
 refine callType_codes (Q₁:=fun obj s₁=>obj=.ref s.heap.objs.size/\s₁={ s with heap:=s.heap.push { cls:=.type "dict",data:=.dict #[] } }) F.kt_called_dict (F.kt_typeCall_dict_1 _) F.entry_dict_init (kt_code_dict_new _ ⟨rfl,rfl⟩) ?_;rintro obj s₁ ⟨rfl,rfl⟩;have hnew:(s.heap.push { cls:=.type "dict",data:=.dict #[] }).DictOf knd s.heap.objs.size []:=Heap.DictOf.new s.heap;have up:∀ b u,s.heap.get? b=some u->(s.heap.push { cls:=.type "dict",data:=.dict #[] }).get? b=some u:=fun b u e=>ah _ e;have hTa:({ s with heap:=s.heap.push { cls:=.type "dict",data:=.dict #[] } }:Shared).TypeIs (.ref a) "tuple" := ⟨o,up _ _ hx,hc⟩;refine ⟨hnew.typeIs,F.args_dict_init_2 _ _,?_⟩;unfold Builtin.«dict.__init__»;refine aa ?_; unfold Builtin.Dict.selfAndRest;refine aa (ju hnew.typeIs (show wpAny _ _ (pure (s.heap.objs.size,[c9 a])) _ _ _ from ai ?_))
 show wpAny _ _ (kz "dict.__init__" s.heap.objs.size (.ref a) [] .none) _ _ _
 unfold kz;refine aa (nq hTa ?_);rw [if_pos (by decide)];refine aa (Ae (up _ _ hx) hc hdat hd hA fun h1 tk1 kp1=>?_);rw [if_pos (by rfl)];refine aa (j8 ?_);have ha1:IsTup h1 a (ps.map fun p=>c9 p.1).toArray:=⟨o,kp1 _ _ (up _ _ hx),hc,k,hdat⟩;refine aa (wpAny_pyIter_tuple (show ({ s with heap:=h1,toks:=tk1 }:Shared).heap.IsTuple a _ from ha1) (ai ⟨ku bV _,?_⟩))
 have lt0:s.heap.objs.size < h1.objs.size:=by
  have:=kp1 s.heap.objs.size _ (ay s.heap rfl);exact ax this
 have hlt:∀ b u,s.heap.get? b=some u->b < s.heap.objs.size:=fun b u e=>ax e;have ha0:=hlt _ _ hx;refine G1 (knd:=knd) (fp:=[h1.objs.size,a]) (wr:=[h1.objs.size]) (n:=(ps.map fun p=>c9 p.1).toArray.size) (Walks.tuple (A:=A.in1.in1) hA h1.objs.size a (az (nu ha0 lt0)) (ps.map fun p=>c9 p.1).toArray) ?_ ps (by simp) (fun i v e=>?_) (fun p hp=>?_) hk .none _ 0 _ [] (Nat.sub_zero _) (cg _) ?_ ?_ (by simpa using hz) (fun p hp=>?_) fun h' tk dd kk=>?_
 ·intro z;rcases a7.mp z with z | z
  ·exact az lt0 z
  ·exact az ha0 (bc.mp z).symm
 ·have e':(ps.map fun p=>c9 p.1)[i]?=some v:=by simpa using e
  rw [aq] at e';obtain ⟨p,hp,rfl⟩:=bf.mp e';exact ⟨p,hp,rfl⟩
 ·obtain ⟨ob,e,_⟩:=hit p hp;have h0:=hlt _ _ e;exact ⟨fun z=>az (nu h0 lt0) (bc.mp z),az h0⟩
 ·refine ⟨⟨_,ay _ rfl,rfl,rfl⟩,?_⟩;obtain ⟨ob,e,r⟩:=ha1;exact ⟨ob,ah _ e,r⟩
 ·obtain ⟨oo,es,ep,e,r⟩:=hnew;exact ⟨oo,es,ep,ah _ (kp1 _ _ e),r⟩
 ·obtain ⟨ob,e,r⟩:=hit p hp;exact ⟨ob,ah _ (kp1 _ _ (up _ _ e)),r⟩
 ·refine ⟨rfl,h h' tk (by simpa using dd) fun b u e=>?_⟩
  have h0:=hlt _ _ e;exact kk b u (az h0) (fun z=>az (nu h0 lt0) (bc.mp z)) (ah _ (kp1 _ _ (up _ _ e)))
end
section
variable {prog:Program} {w:World} {K:Type} [DecidableEq K] {A:Around} {E:Value->Shared->Prop} {s:Shared}
theorem vQ {knd:HeapKind prog w K} {d a:Addr} {xs:List (K×Addr×Value)} {k:K} {x:Value} {Q:Value->Shared->Prop} (hu:knd.room A) (hkey:knd.is s.heap k a) (hm:s.heap.DictOfH knd d xs) (hz:xs.length<=av)
  (there:∀ p,atKey xs k=some p->Q p.2 { s with toks:=s.toks+knd.draws k })
  (new:atKey xs k=none->∀ h',h'.DictOfH knd d (storedH xs k a x)->ib d s.heap h'->Q x { s with heap:=h',toks:=s.toks+knd.draws k }):wpAny (model prog w) A (nc d (.ref a) x) Q E s:=by
 obtain ⟨o,es,ep,ho,hc,hd,he,his,hn⟩:=hm;unfold nc;refine dg (aa (knd.pyHash hu hkey ?_));refine aa (wpAny_dictFind_heap (s:={ s with toks:=s.toks+knd.draws k }) hu hkey ho hd he his hn (fun hno=>?_) (fun j p hj=>?_))
 ·have hat:=atKey_none_of_get hno;have fresh:=not_mem_keys_of_get hno;refine aa (j8 (aa (wpAny_updateDictKeys (hz:=by have e:=size_of_entries he; omega) (s:={ s with toks:=s.toks+knd.draws k }) ho hd (ai (new hat _ ⟨_,_,ep+1,lj _ ho (Obj.isFreed_of_dict (m6 hd _)),hc.mapDictKeys _,m6 hd _,?_,?_,?_⟩ (d6 ..))))))
  ·rw [storedH_new hat,Array.toList_push,he,cw]; rfl
  ·rw [storedH_new hat];intro z hz';rcases bj.mp hz' with q | q
   ·exact knd.keeps (his z q) ho hd (d6 ..)
   ·rw [bc.mp q];exact knd.keeps hkey ho hd (d6 ..)
  ·rw [storedH_new hat,cw,jd];refine ⟨hn,by simp,fun u hu' v hv e=>fresh ?_⟩;have:v=k:=by simpa using hv
   rw [<- this,<- e];exact hu'
 ·have hat:atKey xs k=some p:=atKey_of_get hn hj;refine aa (mr (s:={ s with toks:=s.toks+knd.draws k }) ho hd ?_);rw [entry_at he j,hj];exact aa (j8 (ai (there p hat)))
theorem sR {knd:KeyKind prog w K} {d:Addr} {kvs:List (K×Value)} {k:K} {key x:Value} {Q:Value->Shared->Prop} (hkey:knd.is k key=true) (hm:s.heap.DictOf knd d kvs) (hz:kvs.length<=av)
  (there:∀ v,valueAt kvs k=some v->Q v { s with toks:=s.toks+1 })
  (new:valueAt kvs k=none->∀ h',h'.DictOf knd d (stored kvs k x)->ib d s.heap h'->Q x { s with heap:=h',toks:=s.toks+1 }):wpAny (model prog w) A (nc d key x) Q E s:=by
 have hmap:=hm.mapOf;obtain ⟨o,es,ep,ho,hc,hd,hk,hp,hn⟩:=id hm;have hes:es.size<=av:=by
  have e1:=hp.length;rw [d5] at e1;omega
 unfold nc;refine dg (aa (knd.pyHash hkey (aa (wpAny_dictFind_of (s:={ s with toks:=s.toks+1 }) hkey ho hd hk ?_))));have hidx:(es.findIdx? fun e=>knd.is k e.key)=kvs.findIdx? fun kv=>decide (kv.1=k):=by rw [<- hp.findIdx k]; obtain ⟨l⟩:=es; simp
 cases hi:es.findIdx? fun e=>knd.is k e.key with
 | some i=>
  refine aa (mr (s:={ s with toks:=s.toks+1 }) ho hd ?_);obtain ⟨o',es',ep',ho',_,hd',_,hf⟩:=hmap;obtain rfl:o=o':=bg (ho.symm.trans ho');have ees:es=es':=by rw [hd] at hd'; injection hd'
  subst ees;have hfk:valueAt kvs k=(es[i]?).map (·.val):=by rw [<- hf k,findBy_of_findIdx?,hi]
  have hlt:i < es.size:=(Array.findIdx?_eq_some_iff_findIdx_eq.mp hi).1;rw [Array.getElem?_eq_getElem hlt] at hfk ⊢;exact aa (j8 (ai (there _ hfk)))
 | none=>
  have fresh:k∉kvs.map (·.1):=not_mem_of_findIdx_none (hidx ▸ hi);have hany:¬ (kvs.any fun kv=>decide (kv.1=k))=true:=by
   rw [List.any_eq_true];rintro ⟨kv,q1,q2⟩;exact fresh (au.mpr ⟨kv,q1,of_decide_eq_true q2⟩)
  have hv:valueAt kvs k=none:=by
   obtain ⟨o',es',ep',ho',_,hd',_,hf⟩:=hmap;obtain rfl:o=o':=bg (ho.symm.trans ho');have ees:es=es':=by rw [hd] at hd'; injection hd'
   subst ees;rw [<- hf k,findBy_of_findIdx?,hi]
  refine aa (j8 (aa (wpAny_updateDictKeys (hz:=hes) (s:={ s with toks:=s.toks+1 }) ho hd (ai (new hv _ ⟨_,_,ep+1,lj _ ho (Obj.isFreed_of_dict (m6 hd _)),hc.mapDictKeys _,m6 hd _,hk.push hkey _,?_,?_⟩ (d6 ..))))))
  ·rw [stored,if_neg hany];have q:=hp.append hkey (knd.hash k) x;obtain ⟨l⟩:=es;simpa using q
  ·rw [stored,if_neg hany,cw,jd];refine ⟨hn,by simp,fun u hu' v hv' e=>fresh ?_⟩;have:v=k:=by simpa using hv'
   rw [<- this,<- e];exact hu'
end
section
variable {prog:Program} {w:World} {K:Type} [DecidableEq K]
theorem kM (knd:HeapKind prog w K) (d a:Addr) (hd:(d == fq)=false) (x:Value):
  MeetsIn prog w (Builtin.«dict.setdefault» ⟨[.ref d,.ref a,x],[]⟩) (fun A R s=>knd.room A.in1/\∃ k xs,knd.is s.heap k a/\s.heap.DictOfH knd d xs/\xs.length<=av/\(∀ p,atKey xs k=some p->R (.ok (.ret p.2)) { s with toks:=s.toks+knd.draws k })/\
   (atKey xs k=none->∀ h',h'.DictOfH knd d (storedH xs k a x)->ib d s.heap h'->R (.ok (.ret x)) { s with heap:=h',toks:=s.toks+knd.draws k })):=
 .of_wp fun A R s ⟨hu,k,xs,hkey,hm,hz,r1,r2⟩=>by
  unfold Builtin.«dict.setdefault»;refine aa ?_; unfold Builtin.Dict.keyAndDefault;refine aa (ju hm.typeIs (show wpAny _ _ (pure (d,c9 a,some x)) _ _ s from ai ?_))
  show wpAny _ _ (if (d == fq)=true then _ else (nc d (.ref a) x >>= _)) _ _ s
  rw [if_neg (show ¬ _ from by rw [hd]; decide)]
  exact aa (vQ hu hkey hm hz (fun p e=>ai ⟨p.2,rfl,r1 p e⟩) fun e h' q1 q2=>ai ⟨x,rfl,r2 e h' q1 q2⟩)
theorem jN (knd:KeyKind prog w K) (d:Addr) (hd:(d == fq)=false) {k:K} {key:Value} (hkey:knd.is k key=true) (x:Value):
  MeetsIn prog w (Builtin.«dict.setdefault» ⟨[.ref d,key,x],[]⟩) (fun A R s=>∃ kvs,s.heap.DictOf knd d kvs/\kvs.length<=av/\(∀ v,valueAt kvs k=some v->R (.ok (.ret v)) { s with toks:=s.toks+1 })/\
   (valueAt kvs k=none->∀ h',h'.DictOf knd d (stored kvs k x)->ib d s.heap h'->R (.ok (.ret x)) { s with heap:=h',toks:=s.toks+1 })):=
 .of_wp fun A R s ⟨kvs,hm,hz,r1,r2⟩=>by
  unfold Builtin.«dict.setdefault»;refine aa ?_; unfold Builtin.Dict.keyAndDefault;refine aa (ju hm.typeIs (show wpAny _ _ (pure (d,key,some x)) _ _ s from ai ?_))
  show wpAny _ _ (if (d == fq)=true then _ else (nc d key x >>= _)) _ _ s
  rw [if_neg (show ¬ _ from by rw [hd]; decide)]
  exact aa (sR hkey hm hz (fun v e=>ai ⟨v,rfl,r1 v e⟩) fun e h' q1 q2=>ai ⟨x,rfl,r2 e h' q1 q2⟩)
end
section
variable {prog:Program} {w:World} {A:Around} {E:Value->Shared->Prop} {s:Shared} {v dc it:Addr} {oc:Obj} {es:Array DictEntry} {ep:Nat}
theorem JC {Q:Value->Shared->Prop} (hv:s.heap.IsValuesView v dc) (h1:s.heap.get? dc=some oc) (h2:oc.data=.dict es ep)
  (q:Q (.ref s.heap.objs.size) { s with heap:=s.heap.push { cls:=.type "dict_valueiterator",data:=.fields #[.ref dc,.int 0 0,.int es.size 0,.int ep 0] } }):wpAny (model prog w) A (pyIter (.ref v)) Q E s:=by
 obtain ⟨ov,g1,g2,g3⟩:=id hv;refine wpAny_pyIter_slot hv.typeIs F.slot_dict_values_iter (jl F.slot_dict_values_iter hv.typeIs F.entry_dict_values_iter (show wpAny _ _ (Builtin.«dict_values.__iter__» _) _ _ _ from ?_) (F.args_dict_values_iter_1 _))
 unfold Builtin.«dict_values.__iter__»;refine aa (ai (aa ?_)); unfold Builtin.Dict_items.dictOf;refine aa (wpAny_field g1 g3 (x:=.ref dc) rfl (ai (aa ?_))); unfold Builtin.Dict_items.newIterator;refine aa (mr h1 h2 (aa (wpAny_dictEpoch h1 h2 ?_)));rw [show k9 "dict_valueiterator" = false by decide]; simp only [dw,if_false];refine f7 (ai ⟨_,rfl,"dict_valueiterator",_,⟨_,ay _ rfl,rfl⟩,fm.lookup,(by simpa [rawInt] using q)⟩)
theorem Mx {i:Nat} {Q:Option Value->Shared->Prop} (hI:s.heap.IsValIter it dc i es.size ep) (h1:s.heap.get? dc=some oc) (h2:oc.data=.dict es ep) (hlt:i < es.size)
  (q:∀ h',h'.IsValIter it dc (i+1) es.size ep->ib it s.heap h'->Q (some es[i].val) { s with heap:=h' }):wpAny (model prog w) A (pyNext (.ref it)) Q E s:=by
 obtain ⟨oi,g1,g2,g3⟩:=id hI;unfold pyNext;refine aa (wpAny_attempt (ki (name:=jm "__next__") hI.typeIs fm (jl fm hI.typeIs F.entry_dict_valueiterator_next ?_ (F.args_dict_valueiterator_next_1 _))));refine aa (ai (aa (aa ?_)))
 first | refine aa (i4 hI.typeIs (ai ?_)) | refine aa (ka hI.typeIs (ai ?_))
 refine aa (wpAny_fieldsOf g1 g3 ?_);rw [show k9 "dict_valueiterator" = false by decide]; simp only [dw,if_false]
 show wpAny _ _ (if (c9 dc == cu)=true then _ else _) _ _ s
 rw [if_neg (show ¬ ((c9 dc == cu)=true) from b9)]
 refine aa (ai (aa (mr h1 h2 ?_)));rw [if_neg (show ¬ _ by simp)];refine aa (ai (aa (wpAny_dictEpoch h1 h2 ?_)));rw [if_neg (show ¬ _ by simp)];refine ai ?_;simp only [show ¬ ((i:Int) < 0) by omega,if_false,i9,Array.getElem?_eq_getElem hlt];refine aa ?_
 first | refine aa (i4 hI.typeIs (ai ?_)) | refine aa (ka hI.typeIs (ai ?_))
 refine aa (wpAny_isOneOf_valiter hI.typeIs (show wpAny _ _ (setField (.ref it) 1 (rawInt ((i:Int)+1)) >>= _) _ _ s from aa (wpAny_setField g1 g3 (by simp) ?_)))
 have hI':(s.heap.update it (Obj.mapFields (·.setIfInBounds 1 (rawInt ((i:Int)+1))))).IsValIter it dc (i+1) es.size ep:=
  ⟨_,lj _ g1 (Obj.isFreed_of_fields (Obj.data_mapFields g3 _)),(Obj.cls_mapFields ..).trans g2,by rw [Obj.data_mapFields g3]; simp [rawInt]⟩
 have ty':({ s with heap:=s.heap.update it (Obj.mapFields (·.setIfInBounds 1 (rawInt ((i:Int)+1)))) }:Shared).TypeIs (.ref it) "dict_valueiterator" := hI'.typeIs;refine aa (dg (aa (wpAny_isOneOf_valiter ty' (aa (wpAny_isOneOf_valiter ty' ?_)))))
 show wpAny _ _ (pure es[i].val) _ _ _
 exact ai (ai ⟨_,rfl,ai (q _ hI' (d6 ..))⟩)
theorem My {i:Nat} {Q:Option Value->Shared->Prop} (hh:A.handled=none) (hI:s.heap.IsValIter it dc i es.size ep) (h1:s.heap.get? dc=some oc) (h2:oc.data=.dict es ep) (hge:es.size<=i)
  (q:∀ h',Heap.ExtBut it s.heap h'->Q none { s with heap:=h' }):wpAny (model prog w) A (pyNext (.ref it)) Q E s:=by
 obtain ⟨oi,g1,g2,g3⟩:=id hI;unfold pyNext;refine aa (wpAny_attempt (ki (name:=jm "__next__") hI.typeIs fm (jl fm hI.typeIs F.entry_dict_valueiterator_next ?_ (F.args_dict_valueiterator_next_1 _))));refine aa (ai (aa (aa ?_)))
 first | refine aa (i4 hI.typeIs (ai ?_)) | refine aa (ka hI.typeIs (ai ?_))
 refine aa (wpAny_fieldsOf g1 g3 ?_);rw [show k9 "dict_valueiterator" = false by decide]; simp only [dw,if_false]
 show wpAny _ _ (if (c9 dc == cu)=true then _ else _) _ _ s
 rw [if_neg (show ¬ ((c9 dc == cu)=true) from b9)]
 refine aa (ai (aa (mr h1 h2 ?_)));rw [if_neg (show ¬ _ by simp)];refine aa (ai (aa (wpAny_dictEpoch h1 h2 ?_)));rw [if_neg (show ¬ _ by simp)];refine ai ?_;simp only [show ¬ ((i:Int) < 0) by omega,if_false,i9,Array.getElem?_eq_none hge];refine aa ?_
 first | refine aa (i4 hI.typeIs (ai ?_)) | refine aa (ka hI.typeIs (ai ?_))
 refine (show wpAny _ _ (setField (.ref it) 0 .none >>= _) _ _ s from aa (wpAny_setField g1 g3 (by simp) ?_))
 refine (show wpAny _ _ (newExc (.type "StopIteration") [] >>= _) _ _ _ from aa ?_); simp only [newExc,newTuple]
 refine aa (f7 (aa (m:=firstArgMember _ _) (wpAny_of_eq (a:=cu) (by first | rfl | (simp only [firstArgMember]; rfl)) (f7 ?_ (by size_fits)))) (by size_fits))
 simp only [raiseNew];refine aa (wpAny_handled ?_); rw [show A.in1.handled=none from hh]
 refine aa (ai (wpAny_throw ?_)); refine aa (wpAny_isInstance (T:="StopIteration") (b:=true) ⟨_,ay _ rfl,rfl⟩ isSubtype_stop ?_);exact ai (q _ (((d6 ..).extBut.push _).push _))
theorem G2 (hh:A.handled=none) (I dc:Addr) (hne:dc≠I) (oc:Obj) (es:Array DictEntry) (ep:Nat) (h2:oc.data=.dict es ep):
  Walks prog w A I [I,dc] [I] es.size (fun i v=>∃ e,es[i]?=some e/\v=e.val) (fun i h=>h.IsValIter I dc i es.size ep/\h.get? dc=some oc) where
 sub:=fun b hb=>by rw [bc.mp hb]; exact ak
 frame:=fun _ _ _ st hk=>⟨let ⟨o,e,r⟩:=st.1; ⟨o,hk I ak o e,r⟩,hk dc (aj _ ak) _ st.2⟩
 item:=fun i s Q E hi st hQ=>Mx st.1 st.2 h2 hi fun h' hit' hs'=>hQ _ h' s.toks ⟨es[i],by simp [hi],rfl⟩ ⟨hit',(hs'.2 dc hne).trans st.2⟩ fun b o hb e=>(hs'.2 b fun z=>hb (by rw [z]; exact ak)).trans e
 done:=fun s Q E st hQ=>My hh st.1 st.2 h2 (ao _) fun h' he'=>hQ h' s.toks fun b o hb e=>he' b o (fun z=>hb (by rw [z]; exact ak)) e
 self:=fun _ _ _ _ st hQ=>wpAny_pyIter_valiter st.1 hQ
theorem DQ {r:Addr} (h2:oc.data=.dict es ep):PySem.W.KdlSrc prog w "dict_values" r dc es.size (fun i v=>∃ e,es[i]?=some e/\v=e.val) (fun h=>h.IsValuesView r dc/\h.get? dc=some oc) where
 type:=fun _ hm=>hm.1.typeIs
 there:=fun _ hm=>⟨let ⟨_,ho,_⟩:=hm.1; ax ho,ax hm.2⟩
 keep:=fun _ _ hm hk=>⟨let ⟨o,ho,x⟩:=hm.1; ⟨o,hk r (.inl rfl) o ho,x⟩,hk dc (.inr rfl) _ hm.2⟩
 notList:=by decide
 notTuple:=by decide
 hint:=fun _ _ _ _ hm hq=>PySem.W.kdl_hint_values hm.1.typeIs hq
 iter:=fun _ _ hh hm=>⟨_,_,(fun _ _ hq=>JC hm.1 hm.2 h2 hq),G2 hh _ dc (az (ax hm.2)) oc es ep h2,⟨⟨_,ay _ rfl,rfl,rfl⟩,ah _ hm.2⟩⟩
theorem C7 (dc:Addr) (hd:(dc == fq)=false):MeetsIn prog w (Builtin.«dict.values» ⟨[.ref dc],[]⟩) (fun _ R s=>s.TypeIs (.ref dc) "dict" /\
   R (.ok (.ret (.ref s.heap.objs.size))) { s with heap:=s.heap.push { cls:=.type "dict_values",data:=.fields #[.ref dc] } }):=
 .of_wp fun A R s ⟨hT,h⟩=>by
  refine aa ?_; unfold Builtin.Dict.noArgs;refine aa (ju hT (show wpAny _ _ (pure dc) _ _ s from ai (show wpAny _ _ (Builtin.Dict.showsAll dc >>= _) _ _ s from ?_)))
  unfold Builtin.Dict.showsAll; rw [if_neg (show ¬ _ from by rw [hd]; decide)]
  refine aa (ai (aa (f7 (ai ⟨_,rfl,h⟩))))
end
structure TOk (bt:Bool) (t:SetTable):Prop where
 dum:t.dummies=#[]
 led:bt=false->t.led=true
 ris:t.plain=true->t.place.toList.Pairwise (· < ·)
end L2
namespace L2
open PySem PySem.Spec PyProof.Rows PySem.SeqAt PySem.W
def cQ (b:Bool) (n i:Nat):Nat:=if b then n - 1 - i else i
def DR (b:Bool) (n:Nat) (p:List Nat):List Nat:=katRev b (p.map (cQ b n))
theorem kY {α:Type} (b:Bool) {l:List α} {d:α} {i:Nat} (hi:i < l.length):(katRev b l).getD i d=l.getD (cQ b l.length i) d:=by
 cases b with
 | false=>rfl
 | true=>
  show l.reverse.getD i d=l.getD (l.length - 1 - i) d
  rw [fh,fh,List.getElem?_reverse hi]
theorem gI {b:Bool} {n i:Nat} (h:i < n):cQ b n i < n:=by
 unfold cQ; split <;> omega
theorem G3 {b:Bool} {n:Nat} {p:List Nat} (h:p.Perm (ba n)):(DR b n p).Perm (ba n):=by
 cases b with
 | false=>
  have e:DR false n p=p:=by
   show p.map (fun i=>cQ false n i)=p
   have:(fun i=>cQ false n i)=id:=by funext i; rfl
   rw [this,List.map_id]
  rw [e]; exact h
 | true=>
  have e:(ba n).map (cQ true n)=(ba n).reverse:=by
   apply List.ext_getElem
   ·simp
   ·intro i h1 h2;simp [cQ]
  show ((p.map (cQ true n)).reverse).Perm _
  refine (mw _).trans ((h.map _).trans ?_);rw [e];exact mw _
theorem G4 {b:Bool} {n:Nat} {p:List Nat} {lt:Nat->Nat->Bool} (h:p.Pairwise (fun i j=>lt (cQ b n j) (cQ b n i)=false)):(DR b n p).Pairwise (fun i j=>(if b then lt i j else lt j i)=false):=by
 have h1:(p.map (cQ b n)).Pairwise (fun i j=>lt j i=false):=c8.mpr h;cases b with
 | false=>exact h1
 | true=>
  show ((p.map (cQ true n)).reverse).Pairwise _
  rw [l5];exact h1
theorem JD {b:Bool} {vs:List Value} {p:List Nat} (h:∀ i∈p,i < vs.length):katRev b (p.map fun i=>(katRev b vs).getD i cu)=(DR b vs.length p).map fun i=>vs.getD i cu:=by
 have e:(p.map fun i=>(katRev b vs).getD i cu)=(p.map (cQ b vs.length)).map fun i=>vs.getD i cu:=by
  rw [bp];exact dn fun i hi=>kY b (h i hi)
 rw [e];unfold DR katRev;split
 ·rw [List.map_reverse]
 ·rfl
theorem G5 {α:Type} (b:Bool) (l:List α):katRev b (katRev b l)=l:=by
 unfold katRev; split <;> simp
theorem range_getD (vs:List Value):((ba vs.length).map fun i=>vs.getD i cu)=vs:=by
 apply gd;intro i
 by_cases hi:i < vs.length
 ·simp [hi]
 ·simp [hi]
section
variable {prog:Program} {w:World} {A:Around} {E:Value->Shared->Prop} {s:Shared} {a kS:Addr} {b:Bool} {vs ks:List Value}
theorem Ta {st:SortSt} {e e1:Nat} {out:List Value} {P:PySem.Fin->Shared->Prop} (hout:(arrOf st).map (·.2)=out.toArray) (hz:out.length < 64) (hkz:ks.length < 64) (hf:failedOf st=none) (hka:kS≠a)
  (gk:s.heap.get? kS=some (seqObj "list" ks.toArray e)) (ga:s.heap.get? a=some (seqObj "list" #[] e1))
  (h:∀ (h':Heap) (c:Nat),(∀ x o,x≠a->x≠kS->s.heap.get? x=some o->h'.get? x=some o)->h'.get? a=some (seqObj "list" (katRev b out).toArray c)->(∃ o,h'.get? kS=some o)->P (.done (.ret .none)) { s with heap:=h' }):
  wpAny (model prog w) A (ksk_tail a b e1 (.ref kS) st) P E s:=by
 have w1:=d6 s.heap kS (c4 fun _=>(#[]:Array Value));obtain ⟨ck,hck⟩:∃ ck,(s.heap.update kS (c4 fun _=>(#[]:Array Value))).get? kS=some (seqObj "list" #[] ck):=⟨_,jg gk fun _=>#[]⟩;have ga1:=(w1.2 a hka.symm).trans ga;have w2:=d6 (s.heap.update kS (c4 fun _=>(#[]:Array Value))) a (c4 fun _=>(katRev b out).toArray);obtain ⟨c2,hc2⟩:∃ c2,((s.heap.update kS (c4 fun _=>(#[]:Array Value))).update a (c4 fun _=>(katRev b out).toArray)).get? a=some (seqObj "list" (katRev b out).toArray c2):=⟨_,jg ga1 fun _=>(katRev b out).toArray⟩;have hsz:(katRev b out).toArray.size=out.length:=by rw [ar,kat_len]
 unfold ksk_tail
 try dsimp only
 rw [hout,kat_outs];refine aa (jt gk rfl ?_ (by rw [ar,cz]; omega) (cg _));refine aa (wpAny_letGo (aa (seqEpoch_at ga1 rfl ?_)));refine aa (jt ga1 rfl ?_ (cg _) (df (Nat.le_of_eq hsz) (by rw [cz]; omega)));rw [hf];simp only [bne_self_eq_false,dw,if_false];exact ai (h _ c2 (fun x o h1 h2 q=>(w2.2 x h1).trans ((w1.2 x h2).trans q)) hc2 ⟨_,(w2.2 kS hka).trans hck⟩)
theorem Yp {e e1:Nat} {κ:SortKind} {P:PySem.Fin->Shared->Prop} (lt:Nat->Nat->Bool) (hl:ks.length=vs.length) (h64:vs.length < 64) (hka:kS≠a)
  (tr:∀ i j k,i < vs.length->j < vs.length->k < vs.length->lt j i=false->lt k j=false->lt k i=false) (as:∀ i j,i < vs.length->j < vs.length->lt i j=true->lt j i=false)
  (gk:s.heap.get? kS=some (seqObj "list" ks.toArray e)) (ga:s.heap.get? a=some (seqObj "list" #[] e1))
  (hk:2<=vs.length->∀ (Q:SortKind->Shared->Prop) E',Q κ s->wpAny (model prog w) A (keyKind' ks.toArray) Q E' s)
  (hlt:∀ i j,i < vs.length->j < vs.length->∀ Q:Bool->Shared->Prop,Q (lt i j) s->wpAny (model prog w) A (keyLt' κ (ks.getD i cu) (ks.getD j cu)) Q (fun _ _=>False) s)
  (h:∀ (p:List Nat) (h':Heap) (c:Nat),p.Perm (ba vs.length)->p.Pairwise (fun i j=>(if b then lt i j else lt j i)=false)->(∀ x o,x≠a->x≠kS->s.heap.get? x=some o->h'.get? x=some o)->
   h'.get? a=some (seqObj "list" (p.map fun i=>vs.getD i cu).toArray c)->(∃ o,h'.get? kS=some o)->P (.done (.ret .none)) { s with heap:=h' }):
  wpAny (model prog w) A (ksk_end a b vs.toArray e1 (.ref kS) ks.toArray) P E s:=by
 have skip:∀ t:Sem PySem.Fin,wpAny (model prog w) A t P E s->wpAny (model prog w) A (if b=true then (do let _ <- rule "list.sort.reverse"; t) else t) P E s:=fun t ht=>by
  split
  ·exact aa (j8 ht)
  ·exact ht
 have hlr:(katRev b ks).length=(katRev b vs).length:=by rw [kat_len,kat_len,hl]
 unfold ksk_end
 try dsimp only
 refine skip _ ?_;rw [kat_pairs b hl]
 by_cases h2:vs.toArray.size < 2
 ·rw [if_pos h2,if_pos h2];rw [ar] at h2;refine aa (ai ?_);rw [StateT.run_pure];refine aa (ai ?_)
  try dsimp only
  refine Ta (st:=SortSt.mk' general' ((katRev b ks).toArray.zip (katRev b vs).toArray) #[] 7 none) (out:=katRev b vs) (ks:=ks) ?_ (by rw [kat_len]; exact h64) (by omega) rfl hka gk ga fun h' c k1 k2 k3=>?_
  ·show ((katRev b ks).toArray.zip (katRev b vs).toArray).map (·.2)=(katRev b vs).toArray
   apply Array.toList_inj.mp;rw [Array.toList_map,ksk_zip]
   show (List.zip _ _).map Prod.snd=_
   rw [List.map_snd_zip (by rw [hlr]; exact ao _)]
  ·rw [G5] at k2;refine h (ba vs.length) h' c (List.Perm.refl _) ?_ k1 (by rw [range_getD]; exact k2) k3;rw [fb];intro i j hi hj hij;simp only [jc] at hi hj;omega
 ·rw [if_neg h2,if_neg h2];rw [ar] at h2;refine aa (hk (by omega) _ _ ?_);have hkas:(kas_sort (katRev b vs).length).kasWp (kas_ask prog w A κ (katRev b ks)) (fun p s''=>p=evT (fun i j=>lt (cQ b vs.length i) (cQ b vs.length j)) (kas_sort vs.length)/\s''=s) s:=by
   rw [kat_len];refine wW (n:=vs.length) (lt:=fun i j=>lt (cQ b vs.length i) (cQ b vs.length j)) (fun i j C hi hj hC=>?_) (wV (by omega)) ⟨rfl,rfl⟩
   show wpAny (model prog w) A (keyLt' κ ((katRev b ks).getD i cu) ((katRev b ks).getD j cu)) C (fun _ _=>False) s
   rw [kY b (by omega),kY b (by omega),hl];exact hlt _ _ (gI hi) (gI hj) C hC
  refine aa (ia (kat_run (ks:=katRev b ks) (vs:=katRev b vs) (E:=E) (Q:=fun st' s'=>s'=s/\arrOf st'=(evT (fun i j=>lt (cQ b vs.length i) (cQ b vs.length j)) (kas_sort vs.length)).map (kas_item ((katRev b ks).toArray.zip (katRev b vs).toArray))/\failedOf st'=none)
   hlr (by rw [kat_len]; omega) (by rw [kat_len]; exact h64) (fun p st' s' _ a2 a3 a4=>⟨a4.2,by rw [a2,a4.1],a3⟩) hkas) ?_ fun _ _ x=>x)
  rintro ⟨⟨⟩,st'⟩ s' ⟨rfl,har,hf⟩
  try dsimp only
  obtain ⟨c1,c2⟩:=DN (n:=vs.length) (lt:=fun i j=>lt (cQ b vs.length i) (cQ b vs.length j)) (fun i j k hi hj hk=>tr _ _ _ (gI hi) (gI hj) (gI hk)) (fun i j hi hj=>as _ _ (gI hi) (gI hj)) (by omega);have hin:∀ i∈(evT (fun i j=>lt (cQ b vs.length i) (cQ b vs.length j)) (kas_sort vs.length)).toList,i < vs.length:=fun i hi=>by simpa using c1.mem_iff.mp hi
  refine Ta (ks:=ks) (kat_snds hlr har) (by rw [ae,c1.length_eq,jc]; exact h64) (by omega) hf hka gk ga fun h' c k1 k2 k3=>?_;rw [JD hin] at k2;exact h _ h' c (G3 c1) (G4 c2) k1 k2 k3
theorem wZ {f:Value} {n:Nat} {κ:SortKind} {P:PySem.Fin->Shared->Prop} (ho:s.heap.get? a=some (seqObj "list" vs.toArray n)) (h64:vs.length < 64) (J:Addr->Nat->List Value->Nat->Shared->Prop)
  (h0:∀ (kS e1:Nat) (h':Heap),(∀ x o,x≠a->s.heap.get? x=some o->h'.get? x=some o)->s.heap.objs.size<=kS->h'.get? a=some (seqObj "list" #[] e1)->h'.get? kS=some (seqObj "list" #[] 0)->J kS e1 [] 0 { s with heap:=h' })
  (hget:∀ kS e1 ks e s',J kS e1 ks e s'->kS≠a/\s'.heap.get? a=some (seqObj "list" #[] e1)/\s'.heap.get? kS=some (seqObj "list" ks.toArray e))
  (turn:∀ kS e1 ks e s' x,vs[ks.length]?=some x->J kS e1 ks e s'->wpAny (model prog w) A (call f [x]) (fun v s''=>s''.heap.get? kS=some (seqObj "list" ks.toArray e)/\∀ (h':Heap) e',ib kS s''.heap h'->h'.get? kS=some (seqObj "list" (ks++[v]).toArray e')->J kS e1 (ks++[v]) e' { s'' with heap:=h' }) (fun _ _=>False) s')
  (fin:∀ kS e1 ks e s',ks.length=vs.length->J kS e1 ks e s'->∃ lt:Nat->Nat->Bool,(∀ i j k,i < vs.length->j < vs.length->k < vs.length->lt j i=false->lt k j=false->lt k i=false)/\(∀ i j,i < vs.length->j < vs.length->lt i j=true->lt j i=false)/\
   (2<=vs.length->∀ (Q:SortKind->Shared->Prop) E',Q κ s'->wpAny (model prog w) A (keyKind' ks.toArray) Q E' s')/\
   (∀ i j,i < vs.length->j < vs.length->∀ Q:Bool->Shared->Prop,Q (lt i j) s'->wpAny (model prog w) A (keyLt' κ (ks.getD i cu) (ks.getD j cu)) Q (fun _ _=>False) s')/\
   ∀ (p:List Nat) (h':Heap) (c:Nat),p.Perm (ba vs.length)->p.Pairwise (fun i j=>(if b then lt i j else lt j i)=false)->(∀ x o,x≠a->x≠kS->s'.heap.get? x=some o->h'.get? x=some o)->
   h'.get? a=some (seqObj "list" (p.map fun i=>vs.getD i cu).toArray c)->(∃ o,h'.get? kS=some o)->P (.done (.ret .none)) { s' with heap:=h' }):
  wpAny (model prog w) A (ksk_tree a f b) P E s:=by
 have ha:a < s.heap.objs.size:=ax ho;have w1:=d6 s.heap a (c4 fun _=>(#[]:Array Value));obtain ⟨e1,ho1⟩:∃ e1,(s.heap.update a (c4 fun _=>(#[]:Array Value))).get? a=some (seqObj "list" #[] e1):=⟨_,jg ho fun _=>#[]⟩;unfold ksk_tree;refine aa (listItems_at ho rfl (aa (jt ho rfl ?_ (by rw [ar,cz]; omega) (cg _))));refine aa (seqEpoch_at ho1 rfl (aa (wpAny_newTuple ?_ (by show vs.length<=_; rw [cz]; omega))));refine aa (mq (dg ?_) (cg _));have hk1:((s.heap.update a (c4 fun _=>(#[]:Array Value))).push (seqObj "tuple" vs.toArray 0)).objs.size=s.heap.objs.size+1:=by rw [size_push',nh]
 have J0:=h0 ((s.heap.update a (c4 fun _=>(#[]:Array Value))).push (seqObj "tuple" vs.toArray 0)).objs.size e1 (((s.heap.update a (c4 fun _=>(#[]:Array Value))).push (seqObj "tuple" vs.toArray 0)).push (seqObj "list" #[] 0))
  (fun x o hx q=>ah _ (ah _ ((w1.2 x hx).trans q))) (by rw [hk1]; exact Nat.le_succ _) (ah _ (ah _ ho1)) (ay _ rfl)
 show wpAny (model prog w) A (ksk_rest a f b vs.toArray e1 (.ref ((s.heap.update a (c4 fun _=>(#[]:Array Value))).push (seqObj "tuple" vs.toArray 0)).objs.size)) P E { s with heap:=((s.heap.update a (c4 fun _=>(#[]:Array Value))).push (seqObj "tuple" vs.toArray 0)).push (seqObj "list" #[] 0) }
 generalize ((s.heap.update a (c4 fun _=>(#[]:Array Value))).push (seqObj "tuple" vs.toArray 0)).objs.size=kS at J0
 revert J0
 generalize ({ s with heap:=((s.heap.update a (c4 fun _=>(#[]:Array Value))).push (seqObj "tuple" vs.toArray 0)).push (seqObj "list" #[] 0) }:Shared)=s0;intro J0;unfold ksk_rest;refine aa (j8 ?_)
 first
  | rw [List.forIn_toArray]
  | (rw [<- Array.forIn_toList]; simp only [List.toList_toArray])
 refine aa (ksk_fold (fun i s'=>∃ ks e,ks.length=i/\J kS e1 ks e s') vs 0 s0 ⟨[],0,rfl,J0⟩ ?step ?done)
 case step=>
  rintro j x s' hx ⟨ks,e,hl,hJ⟩;have hj:j < vs.length:=(ab.mp hx).1;have hl':ks.length=j:=by omega
  refine aa (wpAny_attempt (ia (turn kS e1 ks e s' x (by rw [hl']; exact hx) hJ) (fun v s'' q=>?_) fun _ _ z=>z.elim));obtain ⟨gk,nxt⟩:=q
  try dsimp only
  have w2:=d6 s''.heap kS (c4 (·.push v));obtain ⟨c2,hc2⟩:∃ c2,(s''.heap.update kS (c4 (·.push v))).get? kS=some (seqObj "list" (ks.toArray.push v) c2):=⟨_,jg gk (·.push v)⟩;refine aa (jt gk rfl ?_ (by rw [ar,cz]; omega) (df (Nat.le_of_eq (Array.size_push ..)) (by rw [ar,cz]; omega)));refine ai ⟨rfl,ks++[v],c2,by simp; omega,nxt _ c2 w2 ?_⟩;rw [hc2];simp
 case done=>
  rintro s' ⟨ks,e,hl,hJ⟩;have hl':ks.length=vs.length:=by omega
  obtain ⟨hka,ga,gk⟩:=hget kS e1 ks e s' hJ;obtain ⟨lt,tr,as,hk,hlt,h⟩:=fin kS e1 ks e s' hl' hJ
  try dsimp only
  refine aa (listItems_at gk rfl ?_);exact Yp (κ:=κ) lt hl' h64 hka tr as gk ga hk hlt h
end
end L2
namespace L2
open PySem PySem.Spec PyProof.Rows PySem.SeqAt
inductive PV where
 | non | bl (b:Bool) | int (i:Int) | str (x:Str) | tup (xs:List PV) | ref (n:Nat) | ty (n:String) | fl (xs:List PV)
mutual
def PV.beq:PV->PV->Bool
 | .non,.non=>true
 | .bl a,.bl b=>a == b
 | .int a,.int b=>a == b
 | .str a,.str b=>a == b
 | .tup a,.tup b=>PV.beqs a b
 | .ref a,.ref b=>a == b
 | .ty a,.ty b=>a == b
 | .fl a,.fl b=>PV.beqs a b
 | _,_=>false
def PV.beqs:List PV->List PV->Bool
 | [],[]=>true
 | x :: xs,y :: ys=>PV.beq x y && PV.beqs xs ys
 | _,_=>false
end
mutual
theorem PV.beq_self:∀ x:PV,PV.beq x x=true
 | .non=>rfl
 | .bl a=>by simp [PV.beq]
 | .int a=>by simp [PV.beq]
 | .str a=>by simp [PV.beq]
 | .tup a=>by simp only [PV.beq]; exact PV.beqs_self a
 | .ref a=>by simp [PV.beq]
 | .ty a=>by simp [PV.beq]
 | .fl a=>by simp only [PV.beq]; exact PV.beqs_self a
theorem PV.beqs_self:∀ x:List PV,PV.beqs x x=true
 | []=>rfl
 | x :: xs=>by simp only [PV.beqs,PV.beq_self x,PV.beqs_self xs,Bool.and_self]
end
mutual
theorem PV.beq_eq:∀ {x y:PV},PV.beq x y=true->x=y
 | .non,y,h=>by cases y <;> first | rfl | (simp [PV.beq] at h)
 | .bl a,y,h=>by cases y <;> first | (simp [PV.beq] at h; rw [h]) | (simp [PV.beq] at h)
 | .int a,y,h=>by cases y <;> first | (simp [PV.beq] at h; rw [h]) | (simp [PV.beq] at h)
 | .str a,y,h=>by cases y <;> first | (simp [PV.beq] at h; rw [h]) | (simp [PV.beq] at h)
 | .tup a,y,h=>by
  cases y with
  | tup b=>simp only [PV.beq] at h; rw [PV.beqs_eq h]
  | _=>simp [PV.beq] at h
 | .ref a,y,h=>by cases y <;> first | (simp [PV.beq] at h; rw [h]) | (simp [PV.beq] at h)
 | .ty a,y,h=>by cases y <;> first | (simp [PV.beq] at h; rw [h]) | (simp [PV.beq] at h)
 | .fl a,y,h=>by
  cases y with
  | fl b=>simp only [PV.beq] at h; rw [PV.beqs_eq h]
  | _=>simp [PV.beq] at h
theorem PV.beqs_eq:∀ {x y:List PV},PV.beqs x y=true->x=y
 | [],y,h=>by cases y <;> first | rfl | (simp [PV.beqs] at h)
 | x :: xs,y,h=>by
  cases y with
  | nil=>simp [PV.beqs] at h
  | cons y ys=>
   simp only [PV.beqs,cq] at h;rw [PV.beq_eq h.1,PV.beqs_eq h.2]
end
instance:DecidableEq PV:=fun x y=>match h:PV.beq x y with
 | true=>isTrue (PV.beq_eq h)
 | false=>isFalse fun e=>by rw [e,PV.beq_self] at h; cases h
def PV.ky:Nat->PV->Bool
 | _,.int _=>true
 | _,.str _=>true
 | n+1,.tup xs=>xs.all (PV.ky n)
 | _,_=>false
section
variable (w:World)
mutual
def hsh:PV->Int
 | .int i=>Tr w (.inl i)
 | .str x=>Tr w (.inr x)
 | .tup xs=>reduceHash (fc (vR xs))
 | _=>0
def vR:List PV->List Int
 | []=>[]
 | x :: xs=>hsh x :: vR xs
end
end
mutual
def drw:PV->Nat
 | .tup xs=>DS xs+1
 | _=>1
def DS:List PV->Nat
 | []=>0
 | x :: xs=>drw x+DS xs
end
mutual
/-- the raw value is the key -/
def HR (h:Heap):PV->Value->Prop
 | .int i,v=>∃ t,v=.int i t
 | .str x,v=>∃ t,v=.str x t
 | .tup ps,v=>∃ a its,v=.ref a/\IsTup h a its.toArray/\HRs h ps its
 | _,_=>False
def HRs (h:Heap):List PV->List Value->Prop
 | [],[]=>True
 | p :: ps,v :: vs=>HR h p v/\HRs h ps vs
 | [],_ :: _=>False
 | _ :: _,[]=>False
end
theorem HRs.length {h:Heap}:∀ {ps:List PV} {vs:List Value},HRs h ps vs->ps.length=vs.length
 | [],[],_=>rfl
 | _ :: _,_ :: _,r=>congrArg (·+1) (HRs.length r.2)
 | [],_ :: _,r=>r.elim
 | _ :: _,[],r=>r.elim
theorem HRs.at {h:Heap}:∀ {ps:List PV} {vs:List Value} {j:Nat} {p:PV},HRs h ps vs->ps[j]?=some p->∃ v,vs[j]?=some v/\HR h p v
 | [],[],_,_,_,e=>by simp at e
 | q :: _,v :: _,0,p,r,e=>by
  have:q=p:=by simpa using e
  subst this;exact ⟨v,rfl,r.1⟩
 | _ :: ps,_ :: vs,j+1,p,r,e=>by
  obtain ⟨v,h1,h2⟩:=HRs.at (ps:=ps) (vs:=vs) (j:=j) (p:=p) r.2 (by simpa using e)
  exact ⟨v,by simpa using h1,h2⟩
 | [],_ :: _,_,_,r,_=>r.elim
 | _ :: _,[],_,_,r,_=>r.elim
theorem JE {h:Heap} {a:Addr} {x y:Array Value} (p:IsTup h a x) (q:IsTup h a y):x=y:=by
 obtain ⟨o,ho,_,n,hd⟩:=p;obtain ⟨o',ho',_,n',hd'⟩:=q;obtain rfl:o=o':=bg (ho.symm.trans ho');rw [hd] at hd';injection hd'
mutual
theorem HR.one {h:Heap}:∀ {p q:PV} {v:Value},HR h p v->HR h q v->p=q
 | .int i,q,v,r,r'=>by
  obtain ⟨t,rfl⟩:=r;cases q with
  | int j=>obtain ⟨t',e⟩:=r'; injection e with e; rw [e]
  | str j=>obtain ⟨t',e⟩:=r'; cases e
  | tup j=>obtain ⟨_,_,e,_⟩:=r'; cases e
  | _=>exact r'.elim
 | .str i,q,v,r,r'=>by
  obtain ⟨t,rfl⟩:=r;cases q with
  | int j=>obtain ⟨t',e⟩:=r'; cases e
  | str j=>obtain ⟨t',e⟩:=r'; injection e with e; rw [e]
  | tup j=>obtain ⟨_,_,e,_⟩:=r'; cases e
  | _=>exact r'.elim
 | .tup ps,q,v,r,r'=>by
  obtain ⟨a,its,rfl,p,rs⟩:=r;cases q with
  | int j=>obtain ⟨t',e⟩:=r'; cases e
  | str j=>obtain ⟨t',e⟩:=r'; cases e
  | tup qs=>
   obtain ⟨b,its',e,p',rs'⟩:=r';cases e
   have:its=its':=by simpa using congrArg Array.toList (JE p p')
   subst this;rw [HRs.one rs rs']
  | _=>exact r'.elim
 | .non,_,_,r,_=>r.elim
 | .bl _,_,_,r,_=>r.elim
 | .ref _,_,_,r,_=>r.elim
 | .ty _,_,_,r,_=>r.elim
 | .fl _,_,_,r,_=>r.elim
theorem HRs.one {h:Heap}:∀ {ps qs:List PV} {vs:List Value},HRs h ps vs->HRs h qs vs->ps=qs
 | [],[],[],_,_=>rfl
 | p :: ps,q :: qs,v :: vs,r,r'=>by rw [HR.one r.1 r'.1,HRs.one r.2 r'.2]
 | [],_ :: _,[],_,r=>r.elim
 | [],_,_ :: _,r,_=>r.elim
 | _ :: _,_,[],r,_=>r.elim
 | _ :: _,[],_ :: _,_,r=>r.elim
end
theorem G6 {h h':Heap} {a d:Addr} {o:Obj} {es ep} {x:Array Value} (p:IsTup h a x) (ho:h.get? d=some o) (hd:o.data=.dict es ep) (hs:ib d h h'):IsTup h' a x:=by
 obtain ⟨q,hq,hc,n,hdt⟩:=p;have ne:a≠d:=by
  rintro rfl;obtain rfl:q=o:=bg (hq.symm.trans ho);rw [hd] at hdt;cases hdt
 exact ⟨q,(hs.2 a ne).trans hq,hc,n,hdt⟩
mutual
theorem HR.keep {h h':Heap} (k:∀ a x,IsTup h a x->IsTup h' a x):∀ {p:PV} {v:Value},HR h p v->HR h' p v
 | .int i,v,r=>r
 | .str i,v,r=>r
 | .tup ps,v,⟨a,its,e,p,rs⟩=>⟨a,its,e,k _ _ p,HRs.keep k rs⟩
 | .non,_,r=>r.elim
 | .bl _,_,r=>r.elim
 | .ref _,_,r=>r.elim
 | .ty _,_,r=>r.elim
 | .fl _,_,r=>r.elim
theorem HRs.keep {h h':Heap} (k:∀ a x,IsTup h a x->IsTup h' a x):∀ {ps:List PV} {vs:List Value},HRs h ps vs->HRs h' ps vs
 | [],[],_=>trivial
 | _ :: _,_ :: _,r=>⟨HR.keep k r.1,HRs.keep k r.2⟩
 | [],_ :: _,r=>r.elim
 | _ :: _,[],r=>r.elim
end
section
variable {prog:Program} {w:World}
theorem Mz:∀ (n:Nat) {A:Around} {E:Value->Shared->Prop} {s:Shared} {p:PV} {v:Value} {Q:Int->Shared->Prop},p.ky n=true->A.units+n < cLine->HR s.heap p v->Q (hsh w p) { s with toks:=s.toks+drw p }->
  wpAny (model prog w) A (pyHash v) Q E s:=by
 intro n
 induction n with
 | zero=>
  intro A E s p v Q hk hu r h;cases p with
  | int i=>obtain ⟨t,rfl⟩:=r; exact wpAny_pyHash_int h
  | str i=>obtain ⟨t,rfl⟩:=r; exact wpAny_pyHash_str h
  | _=>cases hk
 | succ n ih=>
  intro A E s p v Q hk hu r h;cases p with
  | int i=>obtain ⟨t,rfl⟩:=r; exact wpAny_pyHash_int h
  | str i=>obtain ⟨t,rfl⟩:=r; exact wpAny_pyHash_str h
  | tup ps=>
   obtain ⟨a,its,rfl,⟨o,ho,hc,m,hd⟩,rs⟩:=r;have hk':∀ q∈ps,q.ky n=true:=bu.mp hk;have hT:s.TypeIs (.ref a) "tuple" := ⟨o,ho,hc⟩;unfold pyHash; unfold pyHashByItsType;refine aa (wpAny_cRoomFor_or (.inr (show A.units < cLine by omega)) (aa (wpAny_specialOf hT F.slot_tuple_hash.lookup ?_)))
   show wpAny _ _ (if ((some (Value.builtin "tuple.__hash__"):Option Value) == some cu)=true then _ else _) Q E s
   rw [if_neg (show ¬ _ from by rw [beq_builtin_none]; decide)]
   refine aa (wpAny_specialOf hT F.slot_tuple_hash.lookup (show wpAny _ _ (callSpecialIfBoundUnlessNone? (.ref a) "__hash__" _ >>= _) Q E s from ?_))
   refine aa (wpAny_callSpecialIfBoundUnlessNone?_slot hT F.slot_tuple_hash (jl F.slot_tuple_hash hT F.entry_tuple_hash (show wpAny _ _ (m4 (.ref a) >>= _) _ _ s from ?_) (F.args_tuple_hash_1 _)))
   refine aa (wpAny_tupleItemsOf ho hd (aa ?_)); rw [<- Array.forIn_toList];refine wpAny_forIn_list _ (fun rest (b:Array Int) s'=>∃ left,HRs s.heap left rest/\(∀ q∈left,q.ky n=true)/\b.toList++vR w left=vR w ps/\s'.heap=s.heap/\s'={ s with toks:=s'.toks }/\s'.toks+DS left=s.toks+DS ps) _ ?turn ?stop _ _ ⟨ps,rs,hk',rfl,rfl,rfl,rfl⟩
   case turn=>
    rintro x rest b s' ⟨left,rl,kl,eb,eh,es,et⟩;cases left with
    | nil=>exact rl.elim
    | cons q left=>
     have r1:HR s'.heap q x:=by rw [eh]; exact rl.1
     refine aa (ih (kl q ak) (show A.units+1+n < cLine by omega) r1 (ai ?_));refine ⟨left,rl.2,fun z hz=>kl z (aj _ hz),?_,eh,?_,?_⟩
     ·rw [<- eb]; simp [vR]
     ·rw [es]
     ·rw [<- et]
      show s'.toks+drw q+DS left=s'.toks+(drw q+DS left)
      omega
   case stop=>
    rintro b s' ⟨left,rl,kl,eb,eh,es,et⟩;cases left with
    | cons q left=>exact rl.elim
    | nil=>
     have eb':b.toList=vR w ps:=by rw [<- eb]; simp [vR]
     have et':s'.toks=s.toks+DS ps:=et
     show wpAny _ _ (retInt (fc b.toList)) _ _ _
     rw [eb',es];refine wpAny_ret_mkInt ?_
     show wpAny _ _ (if (decide (-(2:Int) ^ 63<=fc (vR w ps)) && decide (fc (vR w ps) < 2 ^ 63))=true then _ else _) Q E _
     have h':Q (reduceHash (fc (vR w ps))) { s with toks:=s.toks+(DS ps+1) }:=h;unfold reduceHash at h';rw [et']
     by_cases hr:(decide (-(2:Int) ^ 63<=fc (vR w ps)) && decide (fc (vR w ps) < 2 ^ 63))=true
     ·rw [if_pos hr] at h' ⊢;exact ai (by simpa [Nat.add_assoc] using h')
     ·rw [if_neg hr] at h' ⊢;exact aa (j8 (ai (by simpa [Nat.add_assoc] using h')))
  | _=>cases hk
theorem Uz:∀ (n:Nat) {A:Around} {s:Shared} {p q:PV} {v u:Value},p.ky n=true->q.ky n=true->A.units+n < cLine->HR s.heap p v->HR s.heap q u->RcAt A s v u (decide (p=q)):=by
 intro n
 induction n with
 | zero=>
  intro A s p q v u hp hq hu r r';cases p with
  | int i=>
   obtain ⟨t,rfl⟩:=r;cases q with
   | int j=>obtain ⟨t',rfl⟩:=r'; have:=RcAt.int_int (A:=A) (s:=s) i t j t'; rwa [show decide (PV.int i=PV.int j)=(i == j) by simp [md]]
   | str j=>obtain ⟨t',rfl⟩:=r'; exact RcAt.int_str i t j t'
   | _=>cases hq
  | str i=>
   obtain ⟨t,rfl⟩:=r;cases q with
   | int j=>obtain ⟨t',rfl⟩:=r'; exact RcAt.str_int i t j t'
   | str j=>obtain ⟨t',rfl⟩:=r'; have:=RcAt.str_str (A:=A) (s:=s) i t j t'; rwa [show decide (PV.str i=PV.str j)=(i == j) by simp [md]]
   | _=>cases hq
  | _=>cases hp
 | succ n ih=>
  intro A s p q v u hp hq hu r r';cases p with
  | int i=>
   obtain ⟨t,rfl⟩:=r;cases q with
   | int j=>obtain ⟨t',rfl⟩:=r'; have:=RcAt.int_int (A:=A) (s:=s) i t j t'; rwa [show decide (PV.int i=PV.int j)=(i == j) by simp [md]]
   | str j=>obtain ⟨t',rfl⟩:=r'; exact RcAt.int_str i t j t'
   | tup js=>obtain ⟨b,its,rfl,p',_⟩:=r'; exact RcAt.int_tuple i t p' (by omega)
   | _=>cases hq
  | str i=>
   obtain ⟨t,rfl⟩:=r;cases q with
   | int j=>obtain ⟨t',rfl⟩:=r'; exact RcAt.str_int i t j t'
   | str j=>obtain ⟨t',rfl⟩:=r'; have:=RcAt.str_str (A:=A) (s:=s) i t j t'; rwa [show decide (PV.str i=PV.str j)=(i == j) by simp [md]]
   | tup js=>obtain ⟨b,its,rfl,p',_⟩:=r'; exact RcAt.str_tuple i t p' (by omega)
   | _=>cases hq
  | tup ps=>
   obtain ⟨a,its,rfl,ta,rs⟩:=r;cases q with
   | int j=>obtain ⟨t',rfl⟩:=r'; exact RcAt.tuple_int j t' ta (by omega)
   | str j=>obtain ⟨t',rfl⟩:=r'; exact RcAt.tuple_str j t' ta (by omega)
   | tup qs=>
    obtain ⟨b,its',rfl,tb,rs'⟩:=r';have kp:∀ z∈ps,z.ky n=true:=bu.mp hp;have kq:∀ z∈qs,z.ky n=true:=bu.mp hq;have l1:=rs.length;have l2:=rs'.length;have key:=RcAt.tuples (A:=A) (e:=fun j=>match ps[j]?,qs[j]? with | some x,some y=>decide (x=y) | _,_=>false) ta tb (by omega) (fun j h1 h2=>by
     have h1':j < ps.length:=by simp at h1; omega
     have h2':j < qs.length:=by simp at h2; omega
     have g1:ps[j]?=some ps[j]:=by simp [h1']
     have g2:qs[j]?=some qs[j]:=by simp [h2']
     obtain ⟨xu,hxu,hru⟩:=rs.at g1;obtain ⟨yu,hyu,hru'⟩:=rs'.at g2;have e1:its.toArray[j]=xu:=by simpa using (ab.mp hxu).2
     have e2:its'.toArray[j]=yu:=by simpa using (ab.mp hyu).2
     rw [e1,e2];simp only [g1,g2];refine eJ (ih (kp _ (e9 h1')) (kq _ (e9 h2')) (show A.units+1+n < cLine by omega) hru hru') (fun ev=>?_) (fun f t e=>?_)
     ·subst ev;rw [HR.one hru hru'];exact decide_eq_true rfl
     ·subst e;generalize ps[j]=z at hru;cases z with
      | int i=>obtain ⟨_,e⟩:=hru; cases e
      | str i=>obtain ⟨_,e⟩:=hru; cases e
      | tup i=>obtain ⟨_,_,e,_⟩:=hru; cases e
      | _=>exact hru.elim)
    have sz:((ba (min its.toArray.size its'.toArray.size)).all (fun j=>match ps[j]?,qs[j]? with | some x,some y=>decide (x=y) | _,_=>false) && its.toArray.size == its'.toArray.size)=decide (PV.tup ps=PV.tup qs):=by
     have a1:its.toArray.size=ps.length:=by simp; omega
     have a2:its'.toArray.size=qs.length:=by simp; omega
     rw [a1,a2,gx];simp only [cq,bu,ip,beq_iff_eq,decide_eq_true_eq,PV.tup.injEq];constructor
     ·rintro ⟨hall,hlen⟩;apply List.ext_getElem hlen;intro i hi hi';have:=hall i (by omega);simpa [hi,hi'] using this
     ·rintro rfl;refine ⟨fun x hx=>?_,rfl⟩;have:x < ps.length:=by omega
      simp [this]
    rw [<- sz];exact key
   | _=>cases hq
  | _=>cases hp
theorem HR.noflt {h:Heap} {p:PV} {v:Value} (r:HR h p v):∀ f t,v≠.float f t:=fun f t e=>by
 subst e;cases p with
 | int i=>obtain ⟨_,e⟩:=r; cases e
 | str i=>obtain ⟨_,e⟩:=r; cases e
 | tup i=>obtain ⟨_,_,e,_⟩:=r; cases e
 | _=>exact r.elim
theorem G7 {n:Nat} {A:Around} {s:Shared} {p q:PV} {v u:Value} (hp:p.ky n=true) (hq:q.ky n=true) (hu:A.units+n < cLine) (r:HR s.heap p v) (r':HR s.heap q u):EqAt A s v u (decide (p=q)):=
 eJ (Uz n hp hq hu r r') (fun ev=>by subst ev; rw [HR.one r r']; exact decide_eq_true rfl) r.noflt
theorem JF:∀ (n m:Nat) {A:Around} {E:Value->Shared->Prop} {s:Shared} {p:PV} {v:Value} {Q:Bool->Shared->Prop},p.ky n=true->n<=m->HR s.heap p v->Q true s->wpAny (model prog w) A (eqIsQuiet m v) Q E s:=by
 intro n
 induction n with
 | zero=>
  intro m A E s p v Q hk hm r h;cases p with
  | int i=>obtain ⟨t,rfl⟩:=r; rw [eqIsQuiet_byValue _ rfl]; exact ai h
  | str i=>obtain ⟨t,rfl⟩:=r; rw [eqIsQuiet_byValue _ rfl]; exact ai h
  | _=>cases hk
 | succ n ih=>
  intro m A E s p v Q hk hm r h;cases p with
  | int i=>obtain ⟨t,rfl⟩:=r; rw [eqIsQuiet_byValue _ rfl]; exact ai h
  | str i=>obtain ⟨t,rfl⟩:=r; rw [eqIsQuiet_byValue _ rfl]; exact ai h
  | tup ps=>
   obtain ⟨a,its,rfl,⟨o,ho,hc,m',hd⟩,rs⟩:=r;have hk':∀ q∈ps,q.ky n=true:=bu.mp hk;have hT:s.TypeIs (.ref a) "tuple" := ⟨o,ho,hc⟩;obtain ⟨m,rfl⟩:∃ j,m=j+1:=⟨m - 1,by omega⟩;unfold eqIsQuiet;refine aa (wpAny_specialOf hT F.slot_tuple_eq.lookup (show wpAny _ _ (isInstance (.ref a) (.type "tuple") >>= _) _ _ s from ?_))
   refine aa (wpAny_isInstance hT isSubtype_tuple_tuple ?_); simp only [Bool.not_true,dw,if_false];refine aa (wpAny_seqItems ho hd (aa (show wpAny _ _ (forIn its.toArray _ _) _ _ s from ?_))); rw [<- Array.forIn_toList]
   refine wpAny_forIn_list _ (fun rest r s'=>r.1=none/\s'=s/\∃ left,HRs s.heap left rest/\∀ q∈left,q.ky n=true) _ ?_ ?_ _ _ ⟨rfl,rfl,ps,rs,hk'⟩
   ·rintro v rest r s' ⟨hr,rfl,left,rl,kl⟩;cases left with
    | nil=>exact rl.elim
    | cons q left=>
     refine aa (ih m (kl q ak) (by omega) rl.1 ?_); simp only [Bool.not_true,dw,if_false];exact ai ⟨rfl,rfl,left,rl.2,fun z hz=>kl z (aj _ hz)⟩
   ·rintro ⟨r1,r2⟩ s' ⟨hr,rfl,_⟩; simp only at hr; subst hr;exact ai h
  | _=>cases hk
def kZ (prog:Program) (w:World):HeapKind prog w PV where
 is:=fun h p a=>p.ky 6=true/\HR h p (.ref a)
 hash:=hsh w
 draws:=drw
 room:=fun A=>A.units+6 < cLine
 inj:=fun x y=>HR.one x.2 y.2
 keeps:=fun x ho hd hs=>⟨x.1,HR.keep (fun a it p=>G6 p ho hd hs) x.2⟩
 pyHash:=fun hu x h=>Mz 6 x.1 hu x.2 h
 eqBool:=fun hu x y h=>G7 x.1 y.1 hu x.2 y.2 _ _ _ _ h
 quiet:=fun x h=>JF 6 8 x.1 (by omega) x.2 h
end
def dDO (w:World) (a:Addr) (ks:List (PV×Addr×V)):HO:=.ext fun h=>ks.length<=av/\(a == fq)=false/\∃ xs:List (PV×Addr×Value),
 Paired (fun (p:PV×Addr×V) (q:PV×Addr×Value)=>p.1=q.1/\p.2.1=q.2.1/\RelV p.2.2 q.2.2) ks xs/\
 ∃ o es ep,h.get? a=some o/\o.ExactDict/\o.data=.dict es ep/\es.toList=xs.map (fun x=>(⟨hsh w x.1,.ref x.2.1,x.2.2⟩:DictEntry))/\(xs.map (·.1)).Nodup
def Tb (kd:Nat) (v d:Addr):HO:=.ext fun h=>match kd with
 | 0=>h.IsItemsView v d
 | 1=>h.IsValuesView v d
 | _=>∃ o,h.get? v=some o/\o.cls=.type "dict_keys" /\ o.data=.fields #[.ref d]
end L2
namespace L2
open PySem PySem.Spec PyProof.Rows
inductive MO where
 | lst (xs:List PV)
 | dK (kvs:List (Key×PV))
 | ins (C:Str) (fs:List (Str×PV))
 | dD (kvs:List (PV×PV))
 | vw (kd d:Nat)
 | fz (o:MO)
abbrev PH:=List MO
abbrev Ev:=List (Option PV)
structure PX where
 cls:Str
 fs:List (Str×PV)
inductive Rs (α:Type) where
 | ok (a:α) (h:PH)
 | exc (x:PX) (h:PH)
 | bad
inductive Fl where
 | nx (δ:Ev) (h:PH)
 | rt (p:PV) (h:PH)
 | bk (δ:Ev) (h:PH)
 | ct (δ:Ev) (h:PH)
 | exc (x:PX) (h:PH)
 | bad
abbrev Me:=Ev->PH->Rs PV
abbrev Ms:=Ev->PH->Fl
abbrev Fn:=List PV->PH->Rs PV
def Rs.bind {α β:Type} (r:Rs α) (f:α->PH->Rs β):Rs β:=match r with
 | .ok a h=>f a h
 | .exc x h=>.exc x h
 | .bad=>.bad
@[simp] theorem Rs.bind_ok {α β:Type} (a:α) (h:PH) (f:α->PH->Rs β):(Rs.ok a h).bind f=f a h:=rfl
@[simp] theorem Rs.bind_exc {α β:Type} (x:PX) (h:PH) (f:α->PH->Rs β):(Rs.exc x h:Rs α).bind f=.exc x h:=rfl
@[simp] theorem Rs.bind_bad {α β:Type} (f:α->PH->Rs β):(Rs.bad:Rs α).bind f=.bad:=rfl
structure MC where
 K:ag
 cl:Str->Option Addr
 bs:List Str
 ex:List Addr->Hp->PX->Prop
 w:World
def SqF (K:ag) (H:Hp) (a:Addr) (xs:List V):Prop:=
 (∃ o,H a=some (.frz o (.lst xs)))\/
  ∃ (o:Obj) (its:Array Value) (n:Nat),K.lookup a=some o/\o.cls=.type "list" /\ o.dict=none/\o.data=.seq its n/\its.size<=av/\aM xs its.toList
theorem SqF.sq {K:ag} {H:Hp} {a:Addr} {xs:List V} (h:SqF K H a xs):SqL K H a xs:=by
 rcases h with ⟨o,h⟩ | h
 ·exact .inl (.inr ⟨o,h⟩)
 ·exact .inr h
def Kp (H H':Hp):Prop:=jM H H'/\∀ a o u,H a=some (.frz o u)->H' a=some (.frz o u)
theorem Kp.refl (H:Hp):Kp H H:=⟨jM.refl H,fun _ _ _ h=>h⟩
theorem Kp.trans {H H1 H2:Hp} (a:Kp H H1) (b:Kp H1 H2):Kp H H2:=⟨a.1.trans b.1,fun c o u h=>b.2 c o u (a.2 c o u h)⟩
theorem Kp.same {H H':Hp} (s:DF H H'):Kp H H':=⟨jM.same s,fun _ _ _ h=>s _ _ h⟩
theorem Kp.new {H:Hp} {a:Addr} {o:HO} (h:H a=none):Kp H (upd H a o):=Kp.same (DF.upd h)
theorem Kp.upd {H:Hp} {p:Addr} {o:HO} (h:DK (H p)):Kp H (upd H p o):=⟨jM.upd h,fun a ob u q=>by
 have ne:a≠p:=by
  rintro rfl;rw [q] at h; exact h
 rw [bI ne]; exact q⟩
theorem Kp.lst {H:Hp} {p:Addr} {o:HO} {xs:List V} (h:H p=some (.lst xs)):Kp H (L2.upd H p o):=Kp.upd (by rw [h]; trivial)
theorem Kp.dK {H:Hp} {p:Addr} {o:HO} {xs:List (Key×V)} (h:H p=some (.dK xs)):Kp H (L2.upd H p o):=Kp.upd (by rw [h]; trivial)
theorem Kp.sq {K:ag} {H H':Hp} {a:Addr} {xs:List V} (t:Kp H H') (h:SqT K H a xs):SqT K H' a xs:=t.1.sq h
theorem Kp.sf {K:ag} {H H':Hp} {a:Addr} {xs:List V} (t:Kp H H') (h:SqF K H a xs):SqF K H' a xs:=by
 rcases h with ⟨o,h⟩ | h
 ·exact .inl ⟨o,t.2 _ _ _ h⟩
 ·exact .inr h
section
variable (C:MC) (φ:List Addr) (H:Hp)
mutual
def RV:PV->V->Prop
 | .non,v=>v=.non
 | .bl b,v=>v=.bl b
 | .int i,v=>v=.int i
 | .str x,v=>v=.str x
 | .ty n,v=>v=.ty n
 | .tup ps,v=>∃ a vs,v=.ref a/\SqT C.K H a vs/\RVs ps vs
 | .ref n,v=>∃ a,v=.ref a/\φ[n]?=some a
 | .fl ps,v=>∃ a vs,v=.ref a/\SqF C.K H a vs/\RVs ps vs
def RVs:List PV->List V->Prop
 | [],[]=>True
 | p :: ps,v :: vs=>RV p v/\RVs ps vs
 | [],_ :: _=>False
 | _ :: _,[]=>False
end
def RKv {κ:Type}:List (κ×PV)->List (κ×V)->Prop:=Paired fun p q=>p.1=q.1/\RV C φ H p.2 q.2
def RKd:List (PV×PV)->List (PV×Addr×V)->Prop:=Paired fun p q=>p.1=q.1/\p.1.ky 6=true/\RV C φ H p.1 (.ref q.2.1)/\RV C φ H p.2 q.2.2
def RO (a:Addr):MO->Prop
 | .lst ps=>∃ vs,H a=some (.lst vs)/\RVs C φ H ps vs
 | .dK kvs=>∃ ks,H a=some (.dK ks)/\RKv C φ H kvs ks
 | .ins n fs=>∃ c dx ks,C.cl n=some c/\H a=some (.ins c dx ks)/\RKv C φ H fs ks
 | .dD kvs=>∃ ks,H a=some (dDO C.w a ks)/\RKd C φ H kvs ks
 | .vw kd d=>∃ b,φ[d]?=some b/\H a=some (Tb kd a b)
 | .fz (.dK kvs)=>∃ ob ks,H a=some (.frz ob (.dK ks))/\RKv C φ H kvs ks
 | .fz (.dD kvs)=>∃ ob ks,H a=some (.frz ob (dDO C.w a ks))/\RKd C φ H kvs ks
 | .fz _=>False
structure RH (h:PH):Prop where
 len:φ.length=h.length
 nd:φ.Nodup
 at':∀ (n:Nat) (a:Addr) (o:MO),φ[n]?=some a->h[n]?=some o->RO C φ H a o
def RE (δ:Ev) (σ:St):Prop:=δ.length=σ.length/\∀ (i:Nat) (p:PV),δ[i]?=some (some p)->∃ v,σ[i]?=some (some v)/\RV C φ H p v
end
section
variable {C:MC} {φ φ':List Addr} {H H':Hp}
theorem iB {α:Type} {l l':List α} (p:l<+:l') {n:Nat} {a:α} (h:l[n]?=some a):l'[n]?=some a:=by
 obtain ⟨t,rfl⟩:=p;have:=(ab.mp h).1;rw [dm this];exact h
def Kq (H H':Hp):Prop:=jM H H'/\∀ a o xs,H a=some (.frz o (.lst xs))->H' a=some (.frz o (.lst xs))
theorem Kp.q (t:Kp H H'):Kq H H':=⟨t.1,fun a o xs h=>t.2 a o _ h⟩
theorem Kq.sq {K:ag} {a:Addr} {xs:List V} (t:Kq H H') (h:SqT K H a xs):SqT K H' a xs:=t.1.sq h
theorem Kq.sf {K:ag} {a:Addr} {xs:List V} (t:Kq H H') (h:SqF K H a xs):SqF K H' a xs:=by
 rcases h with ⟨o,h⟩ | h
 ·exact .inl ⟨o,t.2 _ _ _ h⟩
 ·exact .inr h
mutual
theorem RV.monoQ (p:φ<+:φ') (t:Kq H H'):∀ {x:PV} {v:V},RV C φ H x v->RV C φ' H' x v
 | .non,_,h=>h
 | .bl _,_,h=>h
 | .int _,_,h=>h
 | .str _,_,h=>h
 | .ty _,_,h=>h
 | .tup _,_,⟨a,vs,e,q,r⟩=>⟨a,vs,e,t.sq q,RVs.monoQ p t r⟩
 | .ref _,_,⟨a,e,q⟩=>⟨a,e,iB p q⟩
 | .fl _,_,⟨a,vs,e,q,r⟩=>⟨a,vs,e,t.sf q,RVs.monoQ p t r⟩
theorem RVs.monoQ (p:φ<+:φ') (t:Kq H H'):∀ {xs:List PV} {vs:List V},RVs C φ H xs vs->RVs C φ' H' xs vs
 | [],[],_=>trivial
 | _ :: _,_ :: _,⟨h,r⟩=>⟨RV.monoQ p t h,RVs.monoQ p t r⟩
 | [],_ :: _,h=>h.elim
 | _ :: _,[],h=>h.elim
end
theorem RV.mono (p:φ<+:φ') (t:Kp H H') {x:PV} {v:V} (h:RV C φ H x v):RV C φ' H' x v:=RV.monoQ p t.q h
theorem RVs.mono (p:φ<+:φ') (t:Kp H H') {xs:List PV} {vs:List V} (h:RVs C φ H xs vs):RVs C φ' H' xs vs:=RVs.monoQ p t.q h
theorem RVs.length:∀ {xs:List PV} {vs:List V},RVs C φ H xs vs->xs.length=vs.length
 | [],[],_=>rfl
 | _ :: _,_ :: _,⟨_,r⟩=>by simp [RVs.length r]
 | [],_ :: _,h=>h.elim
 | _ :: _,[],h=>h.elim
theorem RVs.get:∀ {xs:List PV} {vs:List V} {i:Nat} {v:V},RVs C φ H xs vs->vs[i]?=some v->∃ x,xs[i]?=some x/\RV C φ H x v
 | [],[],_,_,_,e=>by simp at e
 | x :: _,w :: _,0,v,⟨h,_⟩,e=>by
  have:w=v:=by simpa using e
  subst this;exact ⟨x,rfl,h⟩
 | _ :: xs,_ :: vs,i+1,v,⟨_,r⟩,e=>by
  obtain ⟨x,h1,h2⟩:=RVs.get (xs:=xs) (vs:=vs) (i:=i) (v:=v) r (by simpa using e)
  exact ⟨x,by simpa using h1,h2⟩
 | [],_ :: _,_,_,h,_=>h.elim
 | _ :: _,[],_,_,h,_=>h.elim
theorem RVs.at:∀ {xs:List PV} {vs:List V} {i:Nat} {x:PV},RVs C φ H xs vs->xs[i]?=some x->∃ v,vs[i]?=some v/\RV C φ H x v
 | [],[],_,_,_,e=>by simp at e
 | x :: _,w :: _,0,x',⟨h,_⟩,e=>by
  have:x=x':=by simpa using e
  subst this;exact ⟨w,rfl,h⟩
 | _ :: xs,_ :: vs,i+1,x,⟨_,r⟩,e=>by
  obtain ⟨v,h1,h2⟩:=RVs.at (xs:=xs) (vs:=vs) (i:=i) (x:=x) r (by simpa using e)
  exact ⟨v,by simpa using h1,h2⟩
 | [],_ :: _,_,_,h,_=>h.elim
 | _ :: _,[],_,_,h,_=>h.elim
theorem RVs.append:∀ {xs ys:List PV} {vs us:List V},RVs C φ H xs vs->RVs C φ H ys us->RVs C φ H (xs++ys) (vs++us)
 | [],_,[],_,_,h=>h
 | _ :: _,_,_ :: _,_,⟨h,r⟩,h'=>⟨h,RVs.append r h'⟩
 | [],_,_ :: _,_,h,_=>h.elim
 | _ :: _,_,[],_,h,_=>h.elim
theorem RVs.snoc {xs:List PV} {vs:List V} {x:PV} {v:V} (r:RVs C φ H xs vs) (h:RV C φ H x v):RVs C φ H (xs++[x]) (vs++[v]):=r.append ⟨h,trivial⟩
theorem RVs.drop:∀ {xs:List PV} {vs:List V} (n:Nat),RVs C φ H xs vs->RVs C φ H (xs.drop n) (vs.drop n)
 | _,_,0,h=>h
 | [],[],_+1,_=>trivial
 | _ :: _,_ :: _,n+1,⟨_,r⟩=>RVs.drop n r
 | [],_ :: _,_+1,h=>h.elim
 | _ :: _,[],_+1,h=>h.elim
theorem RVs.take:∀ {xs:List PV} {vs:List V} (n:Nat),RVs C φ H xs vs->RVs C φ H (xs.take n) (vs.take n)
 | [],[],0,_=>trivial
 | _ :: _,_ :: _,0,_=>trivial
 | [],[],_+1,_=>trivial
 | _ :: _,_ :: _,n+1,⟨h,r⟩=>⟨h,RVs.take n r⟩
 | [],_ :: _,_,h=>h.elim
 | _ :: _,[],_,h=>h.elim
theorem RVs.set {x:PV} {v:V} (h:RV C φ H x v):∀ {xs:List PV} {vs:List V} (n:Nat),RVs C φ H xs vs->RVs C φ H (xs.set n x) (vs.set n v)
 | [],[],_,_=>trivial
 | _ :: _,_ :: _,0,⟨_,r⟩=>⟨h,r⟩
 | _ :: _,_ :: _,n+1,⟨q,r⟩=>⟨q,RVs.set h n r⟩
 | [],_ :: _,_,h=>h.elim
 | _ :: _,[],_,h=>h.elim
theorem RVs.reverse:∀ {xs:List PV} {vs:List V},RVs C φ H xs vs->RVs C φ H xs.reverse vs.reverse
 | [],[],_=>trivial
 | _ :: _,_ :: _,⟨h,r⟩=>by simp only [List.reverse_cons]; exact (RVs.reverse r).append ⟨h,trivial⟩
 | [],_ :: _,h=>h.elim
 | _ :: _,[],h=>h.elim
theorem RKv.monoQ {κ:Type} (p:φ<+:φ') (t:Kq H H') {x:List (κ×PV)} {v:List (κ×V)} (h:RKv C φ H x v):RKv C φ' H' x v:=Paired.mapP h fun _ _ q=>⟨q.1,q.2.monoQ p t⟩
theorem RKd.monoQ (p:φ<+:φ') (t:Kq H H') {x:List (PV×PV)} {v:List (PV×Addr×V)} (h:RKd C φ H x v):RKd C φ' H' x v:=Paired.mapP h fun _ _ q=>⟨q.1,q.2.1,q.2.2.1.monoQ p t,q.2.2.2.monoQ p t⟩
theorem RKv.mono {κ:Type} (p:φ<+:φ') (t:Kp H H') {x:List (κ×PV)} {v:List (κ×V)} (h:RKv C φ H x v):RKv C φ' H' x v:=Paired.mapP h fun _ _ q=>⟨q.1,q.2.mono p t⟩
theorem RKd.mono (p:φ<+:φ') (t:Kp H H') {x:List (PV×PV)} {v:List (PV×Addr×V)} (h:RKd C φ H x v):RKd C φ' H' x v:=Paired.mapP h fun _ _ q=>⟨q.1,q.2.1,q.2.2.1.mono p t,q.2.2.2.mono p t⟩
theorem RE.mono (p:φ<+:φ') (t:Kp H H') {δ:Ev} {σ:St} (h:RE C φ H δ σ):RE C φ' H' δ σ:=⟨h.1,fun i x e=>let ⟨v,q,r⟩:=h.2 i x e; ⟨v,q,r.mono p t⟩⟩
theorem RE.set {δ:Ev} {σ:St} {x:PV} {v:V} (h:RE C φ H δ σ) (r:RV C φ H x v) (i:Nat):RE C φ H (δ.set i (some x)) (σ.set i (some v)):=by
 refine ⟨by rw [eu,eu]; exact h.1,fun j p e=>?_⟩
 by_cases hj:i=j
 ·subst hj
  by_cases hl:i < δ.length
  ·rw [ft hl] at e;cases e
   exact ⟨v,by rw [ft (by rw [<- h.1]; exact hl)],r⟩
  ·rw [mf (by rw [eu]; omega)] at e;cases e
 ·rw [a8 hj] at e;rw [a8 hj];exact h.2 j p e
theorem RO.stayQ {a:Addr} {o:MO} (p:φ<+:φ') (t:Kq H H') (e:H' a=H a) (h:RO C φ H a o):RO C φ' H' a o:=by
 cases o with
 | lst ps=>obtain ⟨vs,q,r⟩:=h; exact ⟨vs,e.trans q,r.monoQ p t⟩
 | dK ps=>obtain ⟨vs,q,r⟩:=h; exact ⟨vs,e.trans q,r.monoQ p t⟩
 | ins n fs=>obtain ⟨c,dx,ks,hc,q,r⟩:=h; exact ⟨c,dx,ks,hc,e.trans q,r.monoQ p t⟩
 | dD kvs=>obtain ⟨ks,q,r⟩:=h; exact ⟨ks,e.trans q,r.monoQ p t⟩
 | vw kd d=>obtain ⟨b,hb,q⟩:=h; exact ⟨b,iB p hb,e.trans q⟩
 | fz o=>
  cases o with
  | dK kvs=>obtain ⟨ob,ks,q,r⟩:=h; exact ⟨ob,ks,e.trans q,r.monoQ p t⟩
  | dD kvs=>obtain ⟨ob,ks,q,r⟩:=h; exact ⟨ob,ks,e.trans q,r.monoQ p t⟩
  | _=>exact h.elim
theorem RO.stay {a:Addr} {o:MO} (p:φ<+:φ') (t:Kp H H') (e:H' a=H a) (h:RO C φ H a o):RO C φ' H' a o:=h.stayQ p t.q e
theorem RO.some {a:Addr} {o:MO} (h:RO C φ H a o):∃ u,H a=some u:=by
 cases o with
 | lst ps=>obtain ⟨vs,q,r⟩:=h; exact ⟨_,q⟩
 | dK ps=>obtain ⟨vs,q,r⟩:=h; exact ⟨_,q⟩
 | ins n fs=>obtain ⟨c,dx,ks,hc,q,r⟩:=h; exact ⟨_,q⟩
 | dD kvs=>obtain ⟨ks,q,r⟩:=h; exact ⟨_,q⟩
 | vw kd d=>obtain ⟨b,hb,q⟩:=h; exact ⟨_,q⟩
 | fz o=>
  cases o with
  | dK kvs=>obtain ⟨ob,ks,q,r⟩:=h; exact ⟨_,q⟩
  | dD kvs=>obtain ⟨ob,ks,q,r⟩:=h; exact ⟨_,q⟩
  | _=>exact h.elim
theorem RH.get {h:PH} (r:RH C φ H h) {n:Nat} {o:MO} (e:h[n]?=some o):∃ a,φ[n]?=some a/\RO C φ H a o:=by
 have hn:=(ab.mp e).1;have:n < φ.length:=by rw [r.len]; exact hn
 exact ⟨φ[n],by simp [this],r.at' n _ o (by simp [this]) e⟩
theorem RH.tracked {h:PH} (r:RH C φ H h) {n:Nat} {a:Addr} (e:φ[n]?=some a):∃ u,H a=some u:=by
 have hn:=(ab.mp e).1;have:n < h.length:=by rw [<- r.len]; exact hn
 exact (r.at' n a h[n] e (by simp [this])).some
theorem RH.aside {h:PH} (r:RH C φ H h) {a:Addr} {o:HO} (e:H a=none):RH C φ (upd H a o) h:=
 ⟨r.len,r.nd,fun n b ob h1 h2=>by
  have q:=r.at' n b ob h1 h2;obtain ⟨u,hu⟩:=q.some;exact q.stay (aw) (Kp.new e) (bI (cR hu e))⟩
theorem RH.new {h:PH} (r:RH C φ H h) {a:Addr} {u:HO} {o:MO} (e:H a=none) (q:RO C (φ++[a]) (upd H a u) a o):RH C (φ++[a]) (upd H a u) (h++[o]):=by
 refine ⟨by simp [r.len],?_,fun n b ob h1 h2=>?_⟩
 ·rw [jd];refine ⟨r.nd,by simp,fun x hx y hy z=>?_⟩;rw [bc] at hy;subst hy z;obtain ⟨n,hn⟩:=dz.mp hx;obtain ⟨u',hu⟩:=r.tracked hn;rw [e] at hu; cases hu
 ·by_cases hn:n < φ.length
  ·rw [dm hn] at h1;rw [dm (by rw [<- r.len]; exact hn)] at h2;have q':=r.at' n b ob h1 h2;obtain ⟨u',hu⟩:=q'.some;exact q'.stay (c5 _ _) (Kp.new e) (bI (cR hu e))
  ·have hn':n=φ.length:=by
    have:=(ab.mp h1).1;simp at this;omega
   subst hn';rw [fg (ao _),Nat.sub_self] at h1;rw [r.len,fg (ao _),Nat.sub_self] at h2;cases h1
   cases h2
   exact q
theorem RH.write {h:PH} (r:RH C φ H h) {n:Nat} {a:Addr} {u:HO} {o:MO} (e:φ[n]?=some a) (t:DK (H a)) (q:RO C φ (upd H a u) a o):RH C φ (upd H a u) (h.set n o):=by
 refine ⟨by rw [eu]; exact r.len,r.nd,fun m b ob h1 h2=>?_⟩
 by_cases hm:n=m
 ·subst hm;rw [e] at h1; cases h1;have hl:n < h.length:=by rw [<- r.len]; exact (ab.mp e).1
  rw [ft hl] at h2;cases h2
  exact q
 ·rw [a8 hm] at h2;have hb:b≠a:=fun z=>by
   subst z;exact hm ((List.getElem?_inj (ab.mp e).1 r.nd).mp (e.trans h1.symm))
  exact (r.at' m b ob h1 h2).stay aw (Kp.upd t) (bI hb)
end
section
variable (C:MC) (φ:List Addr) (H:Hp)
def post (r:Rs PV) (Q:VK):Prop:=match r with
 | .ok p h=>∀ φ' v H',φ<+:φ'->Kp H H'->RH C φ' H' h->RV C φ' H' p v->Q v H'
 | .exc x h=>∀ φ' H',φ<+:φ'->Kp H H'->RH C φ' H' h->C.ex φ' H' x
 | .bad=>False
def bY (r:Rs Bool) (Q:Bool->Hp->Prop):Prop:=match r with
 | .ok b h=>∀ φ' H',φ<+:φ'->Kp H H'->RH C φ' H' h->Q b H'
 | .exc x h=>∀ φ' H',φ<+:φ'->Kp H H'->RH C φ' H' h->C.ex φ' H' x
 | .bad=>False
def postA (r:Rs (List PV)) (Q:List V->Hp->Prop):Prop:=match r with
 | .ok ps h=>∀ φ' vs H',φ<+:φ'->Kp H H'->RH C φ' H' h->RVs C φ' H' ps vs->Q vs H'
 | .exc x h=>∀ φ' H',φ<+:φ'->Kp H H'->RH C φ' H' h->C.ex φ' H' x
 | .bad=>False
def cI (r:Fl) (D:Ends):Prop:=match r with
 | .nx δ h=>∀ φ' σ H',φ<+:φ'->Kp H H'->RH C φ' H' h->RE C φ' H' δ σ->D.nx σ H'
 | .rt p h=>∀ φ' v H',φ<+:φ'->Kp H H'->RH C φ' H' h->RV C φ' H' p v->D.rt v H'
 | .bk δ h=>∀ φ' σ H',φ<+:φ'->Kp H H'->RH C φ' H' h->RE C φ' H' δ σ->D.bk σ H'
 | .ct δ h=>∀ φ' σ H',φ<+:φ'->Kp H H'->RH C φ' H' h->RE C φ' H' δ σ->D.ct σ H'
 | .exc x h=>∀ φ' H',φ<+:φ'->Kp H H'->RH C φ' H' h->C.ex φ' H' x
 | .bad=>False
end
section
variable {C:MC} {φ φ1:List Addr} {H H1:Hp}
theorem post.weak {r:Rs PV} {Q:VK} (p:φ<+:φ1) (t:Kp H H1) (h:post C φ H r Q):post C φ1 H1 r Q:=by
 cases r with
 | ok a h'=>exact fun φ' v H' p' t'=>h φ' v H' (p.trans p') (t.trans t')
 | exc a h'=>exact fun φ' H' p' t'=>h φ' H' (p.trans p') (t.trans t')
 | bad=>exact h
theorem bY.weak {r:Rs Bool} {Q:Bool->Hp->Prop} (p:φ<+:φ1) (t:Kp H H1) (h:bY C φ H r Q):bY C φ1 H1 r Q:=by
 cases r with
 | ok a h'=>exact fun φ' H' p' t'=>h φ' H' (p.trans p') (t.trans t')
 | exc a h'=>exact fun φ' H' p' t'=>h φ' H' (p.trans p') (t.trans t')
 | bad=>exact h
theorem postA.weak {r:Rs (List PV)} {Q:List V->Hp->Prop} (p:φ<+:φ1) (t:Kp H H1) (h:postA C φ H r Q):postA C φ1 H1 r Q:=by
 cases r with
 | ok a h'=>exact fun φ' v H' p' t'=>h φ' v H' (p.trans p') (t.trans t')
 | exc a h'=>exact fun φ' H' p' t'=>h φ' H' (p.trans p') (t.trans t')
 | bad=>exact h
theorem cI.weak {r:Fl} {D:Ends} (p:φ<+:φ1) (t:Kp H H1) (h:cI C φ H r D):cI C φ1 H1 r D:=by
 cases r with
 | nx a h'=>exact fun φ' v H' p' t'=>h φ' v H' (p.trans p') (t.trans t')
 | rt a h'=>exact fun φ' v H' p' t'=>h φ' v H' (p.trans p') (t.trans t')
 | bk a h'=>exact fun φ' v H' p' t'=>h φ' v H' (p.trans p') (t.trans t')
 | ct a h'=>exact fun φ' v H' p' t'=>h φ' v H' (p.trans p') (t.trans t')
 | exc a h'=>exact fun φ' H' p' t'=>h φ' H' (p.trans p') (t.trans t')
 | bad=>exact h
theorem post.imp {r:Rs PV} {Q Q':VK} (h:post C φ H r Q) (i:∀ v H',Q v H'->Q' v H'):post C φ H r Q':=by
 cases r with
 | ok a h'=>exact fun φ' v H' p t rh rv=>i v H' (h φ' v H' p t rh rv)
 | exc a h'=>exact h
 | bad=>exact h
theorem post.bind {r:Rs PV} {f:PV->PH->Rs PV} {Q:VK} (h:post C φ H (r.bind f) Q):post C φ H r fun v H1=>∃ φ1 p h1,φ<+:φ1/\Kp H H1/\RH C φ1 H1 h1/\RV C φ1 H1 p v/\post C φ1 H1 (f p h1) Q:=by
 cases r with
 | ok a h'=>exact fun φ' v H' p t rh rv=>⟨φ',a,h',p,t,rh,rv,post.weak p t h⟩
 | exc a h'=>exact h
 | bad=>exact h
theorem post.bindB {r:Rs PV} {f:PV->PH->Rs Bool} {Q:Bool->Hp->Prop} (h:bY C φ H (r.bind f) Q):post C φ H r fun v H1=>∃ φ1 p h1,φ<+:φ1/\Kp H H1/\RH C φ1 H1 h1/\RV C φ1 H1 p v/\bY C φ1 H1 (f p h1) Q:=by
 cases r with
 | ok a h'=>exact fun φ' v H' p t rh rv=>⟨φ',a,h',p,t,rh,rv,bY.weak p t h⟩
 | exc a h'=>exact h
 | bad=>exact h
theorem bY.bind {r:Rs Bool} {f:Bool->PH->Rs PV} {Q:VK} (h:post C φ H (r.bind f) Q):bY C φ H r fun b H1=>∃ φ1 h1,φ<+:φ1/\Kp H H1/\RH C φ1 H1 h1/\post C φ1 H1 (f b h1) Q:=by
 cases r with
 | ok a h'=>exact fun φ' H' p t rh=>⟨φ',h',p,t,rh,post.weak p t h⟩
 | exc a h'=>exact h
 | bad=>exact h
theorem bY.bindB {r:Rs Bool} {f:Bool->PH->Rs Bool} {Q:Bool->Hp->Prop} (h:bY C φ H (r.bind f) Q):bY C φ H r fun b H1=>∃ φ1 h1,φ<+:φ1/\Kp H H1/\RH C φ1 H1 h1/\bY C φ1 H1 (f b h1) Q:=by
 cases r with
 | ok a h'=>exact fun φ' H' p t rh=>⟨φ',h',p,t,rh,bY.weak p t h⟩
 | exc a h'=>exact h
 | bad=>exact h
theorem postA.bind {r:Rs (List PV)} {f:List PV->PH->Rs PV} {Q:VK} (h:post C φ H (r.bind f) Q):postA C φ H r fun vs H1=>∃ φ1 ps h1,φ<+:φ1/\Kp H H1/\RH C φ1 H1 h1/\RVs C φ1 H1 ps vs/\post C φ1 H1 (f ps h1) Q:=by
 cases r with
 | ok a h'=>exact fun φ' v H' p t rh rv=>⟨φ',a,h',p,t,rh,rv,post.weak p t h⟩
 | exc a h'=>exact h
 | bad=>exact h
theorem postA.bindA {r:Rs (List PV)} {f:List PV->PH->Rs (List PV)} {Q:List V->Hp->Prop} (h:postA C φ H (r.bind f) Q):postA C φ H r fun vs H1=>∃ φ1 ps h1,φ<+:φ1/\Kp H H1/\RH C φ1 H1 h1/\RVs C φ1 H1 ps vs/\postA C φ1 H1 (f ps h1) Q:=by
 cases r with
 | ok a h'=>exact fun φ' v H' p t rh rv=>⟨φ',a,h',p,t,rh,rv,postA.weak p t h⟩
 | exc a h'=>exact h
 | bad=>exact h
theorem post.bindA {r:Rs PV} {f:PV->PH->Rs (List PV)} {Q:List V->Hp->Prop} (h:postA C φ H (r.bind f) Q):post C φ H r fun v H1=>∃ φ1 p h1,φ<+:φ1/\Kp H H1/\RH C φ1 H1 h1/\RV C φ1 H1 p v/\postA C φ1 H1 (f p h1) Q:=by
 cases r with
 | ok a h'=>exact fun φ' v H' p t rh rv=>⟨φ',a,h',p,t,rh,rv,postA.weak p t h⟩
 | exc a h'=>exact h
 | bad=>exact h
theorem post.val {p:PV} {v:V} {h:PH} {Q:VK} (q:post C φ H (.ok p h) Q) (rh:RH C φ H h) (rv:RV C φ H p v):Q v H:=q φ v H aw (Kp.refl H) rh rv
end
end L2
namespace L2
open PySem PySem.Spec PyProof.Rows
structure Cxt (C:MC) (k:Nat) (X:Cx):Prop where
 K:X.K=C.K
 calm:X.calm=true
 room:fZ k X.A
 bn:∀ x∈C.bs,X.mg x=none
 w:X.w=C.w
theorem Cxt.hu {C:MC} {k:Nat} {X:Cx} (c:Cxt C k X):X.A.units+1 < cLine:=We c.room
theorem Cxt.hu64 {C:MC} {k:Nat} {X:Cx} (c:Cxt C k X):X.A.units+64 < cLine:=c.room.units
theorem Cxt.comp {C:MC} {k:Nat} {X:Cx} (c:Cxt C k X) (sc:Scope) (N:List Str) (a:Addr) (fp:List Addr) (s:Shared) (H:Hp):Cxt C k (X.comp sc N a fp s H):=⟨c.K,c.calm,c.room,c.bn,c.w⟩
section
variable (C:MC)
def rd (m:Me):TE:=fun σ H Q=>∃ φ δ h,RH C φ H h/\RE C φ H δ σ/\post C φ H (m δ h) Q
def rdB (m:Ev->PH->Rs Bool):TT:=fun σ H Q=>∃ φ δ h,RH C φ H h/\RE C φ H δ σ/\bY C φ H (m δ h) Q
def rdA (m:Ev->PH->Rs (List PV)):TA:=fun σ H Q=>∃ φ δ h,RH C φ H h/\RE C φ H δ σ/\postA C φ H (m δ h) Q
def rdS (m:Ms):TS:=fun D σ H=>∃ φ δ h,RH C φ H h/\RE C φ H δ σ/\cI C φ H (m δ h) D
def r2 (g:PV->PV->PH->Rs PV):R2:=fun x y H Q=>∃ φ h p q,RH C φ H h/\RV C φ H p x/\RV C φ H q y/\post C φ H (g p q h) Q
def r1 (g:PV->PH->Rs PV):V->Hp->VK->Prop:=fun x H Q=>∃ φ h p,RH C φ H h/\RV C φ H p x/\post C φ H (g p h) Q
def rL (g:List PV->PH->Rs PV):List V->Hp->VK->Prop:=fun xs H Q=>∃ φ h ps,RH C φ H h/\RVs C φ H ps xs/\post C φ H (g ps h) Q
end
variable {C:MC} {k:Nat} {X:Cx}
def SE (C:MC) (k:Nat) (X:Cx) (e:Expr) (m:Me):Prop:=Cxt C k X->PE X e (rd C m)
def ST (C:MC) (k:Nat) (X:Cx) (e:Expr) (m:Ev->PH->Rs Bool):Prop:=Cxt C k X->PT X e (rdB C m)
def SA (C:MC) (k:Nat) (X:Cx) (es:List Expr) (m:Ev->PH->Rs (List PV)):Prop:=Cxt C k X->PA X es (rdA C m)
def SSt (C:MC) (k:Nat) (X:Cx) (st:Stmt) (m:Ms):Prop:=Cxt C k X->PS X st (rdS C m)
def SSs (C:MC) (k:Nat) (X:Cx) (st:List Stmt) (m:Ms):Prop:=Cxt C k X->PSs X st (rdS C m)
def OpS (C:MC) (k:Nat) (X:Cx) (f:Value->Value->Sem Value) (g:PV->PV->PH->Rs PV):Prop:=Cxt C k X->OpR X f (r2 C g)
def UnS (C:MC) (k:Nat) (X:Cx) (f:Value->Sem Value) (g:PV->PH->Rs PV):Prop:=Cxt C k X->UnR X f (r1 C g)
def gJ (C:MC) (k:Nat) (X:Cx) (f:Value) (g:List PV->PH->Rs PV):Prop:=Cxt C k X->bR X f (rL C g)
def C8:Ev->Nat->Option PV
 | [],_=>none
 | x :: _,0=>x
 | _ :: r,n+1=>C8 r n
@[simp] theorem JG (x:Option PV) (r:Ev):C8 (x :: r) 0=x:=(rfl)
@[simp] theorem JH (x:Option PV) (r:Ev) (n:Nat):C8 (x :: r) (n+1)=C8 r n:=(rfl)
theorem xI:∀ {δ:Ev} {i:Nat} {p:PV},C8 δ i=some p->δ[i]?=some (some p)
 | [],_,_,h=>by cases h
 | x :: _,0,p,h=>by
  have h':x=some p:=h;simp [h']
 | _ :: r,n+1,p,h=>by
  rw [gq];exact xI (δ:=r) (i:=n) h
def mV (i:Nat):Me:=fun δ h=>match C8 δ i with
 | some p=>.ok p h
 | none=>.bad
def mC (p:PV):Me:=fun _ h=>.ok p h
theorem aA (i:Nat) {x:Str} {pos:Pos} (hN:X.N[i]?=some x:=by rfl) (hv:Vis X.env.scope x:=by first | exact Or.inl rfl | exact Or.inr (Or.inl rfl) | exact Or.inr (Or.inr rfl)) (hd:(x == ("__debug__" : Str))=false:=by decide)
  (hcd:(x == ("__classdict__" : Str))=false:=by decide):SE C k X (.Name x pos) (mV i):=fun _=>by
 refine (FI hN hv hd hcd).imp fun σ H Q h=>?_;obtain ⟨φ,δ,h,rh,re,p⟩:=h;unfold mV at p;cases e:C8 δ i with
 | none=>rw [e] at p; exact p.elim
 | some x=>
  rw [e] at p;obtain ⟨v,hv,rv⟩:=re.2 i x (xI e);exact ⟨v,hv,p.val rh rv⟩
theorem aI {i j pos}:SE C k X (.Constant (.int i) j pos) (mC (.int i)):=fun _=>Tw.imp fun σ H Q ⟨φ,δ,h,rh,re,p⟩=>p.val rh rfl
theorem QI {i j pos}:SE C k X (.Constant (.bool i) j pos) (mC (.bl i)):=fun _=>VS.imp fun σ H Q ⟨φ,δ,h,rh,re,p⟩=>p.val rh rfl
theorem AZ {j pos}:SE C k X (.Constant .none j pos) (mC .non):=fun _=>Tx.imp fun σ H Q ⟨φ,δ,h,rh,re,p⟩=>p.val rh rfl
theorem lD {i j pos}:SE C k X (.Constant (.str i) j pos) (mC (.str i)):=fun _=>Tz.imp fun σ H Q ⟨φ,δ,h,rh,re,p⟩=>p.val rh rfl
theorem MA {x:Str} {n:String} {pos:Pos} (hv:kc x=some (.type n)) (hb:x∈C.bs:=by decide) (hg:Gl X x:=by rfl) (hn:x≠"__name__" := by decide) (hd:(x == ("__debug__" : Str))=false:=by decide):SE C k X (.Name x pos) (mC (.ty n)):=fun c=>
 (Q9 (v:=.ty n) hg (c.bn x hb) hv rfl hn hd).imp fun σ H Q ⟨φ,δ,h,rh,re,p⟩=>p.val rh rfl
def aD (g:PV->PV->PH->Rs PV) (ma mb:Me):Me:=fun δ h=>(ma δ h).bind fun x h1=>(mb δ h1).bind fun y h2=>g x y h2
theorem Ip {g:PV->PV->PH->Rs PV} {ma mb:Me} {σ:St} {H:Hp} {Q:VK} (h:rd C (aD g ma mb) σ H Q):tOp (r2 C g) (rd C ma) (rd C mb) σ H Q:=by
 obtain ⟨φ,δ,h,rh,re,p⟩:=h;refine ⟨φ,δ,h,rh,re,(post.bind p).imp ?_⟩;rintro v H1 ⟨φ1,x,h1,p1,t1,rh1,rv1,q1⟩;refine ⟨φ1,δ,h1,rh1,re.mono p1 t1,(post.bind q1).imp ?_⟩;rintro u H2 ⟨φ2,y,h2,p2,t2,rh2,rv2,q2⟩;exact ⟨φ2,h2,x,y,rh2,rv1.mono p2 t2,rv2,q2⟩
section
variable {a b e:Expr} {ma mb:Me} {g:PV->PV->PH->Rs PV} {pos:Pos}
theorem aR {op:Operator} (ho:OpS C k X (fi op) g) (ha:SE C k X a ma) (hb:SE C k X b mb):SE C k X (.BinOp a op b pos) (aD g ma mb):=fun c=>
 (W0 (ho c) (ha c) (hb c)).imp fun σ H Q h=>Ip h
theorem DT {op:CmpOp} (ho:OpS C k X (cm op) g) (ha:SE C k X a ma) (hb:SE C k X b mb) (hm:behindInMarks op b=false:=by first | exact LV _ | rfl):SE C k X (.Compare a [op] [b] pos) (aD g ma mb):=fun c=>
 (Qi (ho c) (ha c) (hb c) hm).imp fun σ H Q h=>Ip h
def mUn (g:PV->PH->Rs PV) (ma:Me):Me:=fun δ h=>(ma δ h).bind g
theorem UA {op:UnaryOp} {g:PV->PH->Rs PV} (ho:UnS C k X (unaryOp op) g) (ha:SE C k X a ma):SE C k X (.UnaryOp op a pos) (mUn g ma):=fun c=>
 (W1 (ho c) (ha c)).imp fun σ H Q h=>by
  obtain ⟨φ,δ,h,rh,re,p⟩:=h;refine ⟨φ,δ,h,rh,re,(post.bind p).imp ?_⟩;rintro v H1 ⟨φ1,x,h1,p1,t1,rh1,rv1,q1⟩;exact ⟨φ1,h1,x,rh1,rv1,q1⟩
end
def aN (h:PH) (n:Nat):Option (List PV):=match h[n]? with
 | some (.lst xs)=>some xs
 | _=>none
theorem bM {φ:List Addr} {H:Hp} {h:PH} {n:Nat} {xs:List PV} (rh:RH C φ H h) (e:aN h n=some xs):∃ a vs,φ[n]?=some a/\SqL C.K H a vs/\RVs C φ H xs vs:=by
 unfold aN at e;cases q:h[n]? with
 | none=>rw [q] at e; cases e
 | some o=>
  rw [q] at e;obtain ⟨a,ha,ro⟩:=rh.get q;cases o with
  | lst ys=>cases e; obtain ⟨vs,q',r⟩:=ro; exact ⟨a,vs,ha,SqL.of q',r⟩
  | _=>cases e
def dB (h:PH) (n:Nat):Option (List PV):=match h[n]? with
 | some (.lst xs)=>some xs
 | _=>none
theorem iT {h:PH} {n:Nat} {xs:List PV} (e:dB h n=some xs):h[n]?=some (.lst xs):=by
 unfold dB at e;cases q:h[n]? with
 | none=>rw [q] at e; cases e
 | some o=>
  rw [q] at e;cases o with
  | lst ys=>cases e; rfl
  | _=>cases e
def cJ (x:PV) (h:PH):Option (List PV):=match x with
 | .ref n=>aN h n
 | .fl xs=>some xs
 | _=>none
theorem dR {φ:List Addr} {H:Hp} {h:PH} {x:PV} {v:V} {xs:List PV} (rh:RH C φ H h) (rv:RV C φ H x v) (e:cJ x h=some xs):∃ a vs,v=.ref a/\SqL C.K H a vs/\RVs C φ H xs vs:=by
 cases x with
 | ref n=>
  obtain ⟨a,rfl,ha⟩:=rv;obtain ⟨a2,vs,ha2,sa,ra⟩:=bM rh e;rw [ha] at ha2; cases ha2;exact ⟨a,vs,rfl,sa,ra⟩
 | fl ys=>
  cases e
  obtain ⟨a,vs,rfl,sa,ra⟩:=rv;exact ⟨a,vs,rfl,sa.sq,ra⟩
 | _=>cases e
def Tc:List PV->Bool
 | []=>true
 | _ :: _=>false
def MB:PV->PV->PH->Rs PV:=fun x y h=>match x,y with
 | .int i,.int j=>.ok (.int (i+j)) h
 | .str i,.str j=>if i.length+j.length<=av then .ok (.str (i++j)) h else .bad
 | .tup xs,.tup ys=>if Tc xs=false/\xs.length+ys.length<=av then .ok (.tup (xs++ys)) h else .bad
 | .ref a,.ref b=>match dB h a,dB h b with
  | some xs,some ys=>if xs.length+ys.length<=av then .ok (.ref h.length) (h++[.lst (xs++ys)]) else .bad
  | _,_=>.bad
 | _,_=>.bad
theorem post.ite {φ:List Addr} {H:Hp} {c:Prop} [Decidable c] {r:Rs PV} {Q:VK} (h:post C φ H (if c then r else .bad) Q):c/\post C φ H r Q:=by
 by_cases hc:c
 ·rw [if_pos hc] at h; exact ⟨hc,h⟩
 ·rw [if_neg hc] at h; exact h.elim
theorem post.lnew {φ:List Addr} {H:Hp} {h:PH} {xs:List PV} {vs:List V} {Q:VK} (q:post C φ H (.ok (.ref h.length) (h++[.lst xs])) Q) (rh:RH C φ H h) (r:RVs C φ H xs vs) {p:Addr} (hp:H p=none):Q (.ref p) (upd H p (.lst vs)):=
 q (φ++[p]) (.ref p) _ (c5 _ _) (Kp.new hp) (rh.new hp ⟨vs,bK,r.mono (c5 _ _) (Kp.new hp)⟩) ⟨p,rfl,by rw [<- rh.len]; simp⟩
theorem post.tnew {φ:List Addr} {H:Hp} {h:PH} {xs:List PV} {vs:List V} {Q:VK} (q:post C φ H (.ok (.tup xs) h) Q) (rh:RH C φ H h) (r:RVs C φ H xs vs) {p:Addr} (hp:H p=none):Q (.ref p) (upd H p (.tup vs)):=
 q φ (.ref p) _ aw (Kp.new hp) (rh.aside hp) ⟨p,vs,rfl,SqT.of bK,r.mono aw (Kp.new hp)⟩
theorem post.lset {φ:List Addr} {H:Hp} {h:PH} {n:Nat} {a:Addr} {p:PV} {v:V} {xs:List PV} {ws vs:List V} {Q:VK} (q:post C φ H (.ok p (h.set n (.lst xs))) Q) (rh:RH C φ H h) (e:φ[n]?=some a) (hl:H a=some (.lst ws)) (r:RVs C φ H xs vs) (rv:RV C φ H p v):Q v (upd H a (.lst vs)):=
 q φ v _ aw (Kp.lst hl) (rh.write e (by rw [hl]; trivial) ⟨vs,bK,r.mono aw (Kp.lst hl)⟩) (rv.mono aw (Kp.lst hl))
theorem MD {xs:List PV} {vs:List V} {φ:List Addr} {H:Hp} (r:RVs C φ H xs vs) (h:Tc xs=false):vs≠[]:=by
 cases xs with
 | nil=>cases h
 | cons x xs=>
  cases vs with
  | nil=>exact r.elim
  | cons=>intro z; cases z
theorem Wv:OpS C k X (fi .Add) MB:=fun c=>(Qw C.K c.K).imp fun x y H Q h=>by
 obtain ⟨φ,h,p,q,rh,rx,ry,po⟩:=h;unfold MB at po;cases p with
 | int i=>
  cases q with
  | int j=>cases rx; cases ry; exact po.val rh rfl
  | _=>exact po.elim
 | str i=>
  cases q with
  | str j=>cases rx; cases ry; exact ⟨po.ite.1,po.ite.2.val rh rfl⟩
  | _=>exact po.elim
 | tup xs=>
  cases q with
  | tup ys=>
   obtain ⟨a,vs,rfl,sa,ra⟩:=rx;obtain ⟨b,us,rfl,sb,rb⟩:=ry;obtain ⟨⟨h1,h2⟩,po⟩:=po.ite;refine .inr ⟨a,b,vs,us,rfl,rfl,sa,sb,MD ra h1,by rw [<- ra.length,<- rb.length]; exact h2,fun z=>?_,fun z p hp=>po.tnew rh (ra.append rb) hp⟩;subst z;have e:ys=[]:=List.eq_nil_of_length_eq_zero rb.length;subst e;exact po.val rh ⟨a,vs,rfl,sa,by rw [je]; exact ra⟩
  | _=>exact po.elim
 | ref n=>
  cases q with
  | ref m=>
   obtain ⟨a,rfl,ha⟩:=rx;obtain ⟨b,rfl,hb⟩:=ry;dsimp only at po;cases e1:dB h n with
   | none=>rw [e1] at po; exact po.elim
   | some xs=>
    cases e2:dB h m with
    | none=>rw [e1,e2] at po; exact po.elim
    | some ys=>
     rw [e1,e2] at po;obtain ⟨vs,h1,r1⟩:=rh.at' n a _ ha (iT e1);obtain ⟨us,h2,r2⟩:=rh.at' m b _ hb (iT e2);obtain ⟨hz,po⟩:=po.ite;exact .inl ⟨a,b,vs,us,rfl,rfl,h1,h2,by rw [<- r1.length,<- r2.length]; exact hz,fun p hp=>po.lnew rh (r1.append r2) hp⟩
  | _=>exact po.elim
 | _=>exact po.elim
def vInt (P:Int->Int->Prop) [∀ i j,Decidable (P i j)] (f:Int->Int->Int):PV->PV->PH->Rs PV:=fun x y h=>match x,y with
 | .int i,.int j=>if P i j then .ok (.int (f i j)) h else .bad
 | _,_=>.bad
theorem Iq {f:Value->Value->Sem Value} {P:Int->Int->Prop} [∀ i j,Decidable (P i j)] {g:Int->Int->Int} (ho:OpR X f (AN P g)):OpS C k X f (vInt P g):=fun c=>ho.imp fun x y H Q h=>by
 obtain ⟨φ,h,p,q,rh,rx,ry,po⟩:=h;unfold vInt at po;cases p with
 | int i=>
  cases q with
  | int j=>cases rx; cases ry; exact ⟨po.ite.1,po.ite.2.val rh rfl⟩
  | _=>exact po.elim
 | _=>exact po.elim
noncomputable instance (i j:Int):Decidable (DA i j):=gu _
noncomputable instance (i j:Int):Decidable (LU i j):=gu _
noncomputable instance (i j:Int):Decidable (Jg i j):=gu _
def G8:PV->PV->PH->Rs PV:=fun x y h=>match x,y with
 | .int i,.int j=>.ok (.int (i - j)) h
 | _,_=>.bad
theorem Ir:OpS C k X (fi .Sub) G8:=fun c=>Qx.imp fun x y H Q h=>by
 obtain ⟨φ,h,p,q,rh,rx,ry,po⟩:=h;unfold G8 at po;cases p with
 | int i=>
  cases q with
  | int j=>cases rx; cases ry; exact po.val rh rfl
  | _=>exact po.elim
 | _=>exact po.elim
noncomputable abbrev JI:=vInt DA fun i j=>i*j
noncomputable abbrev oB:=vInt LU fun i j=>i / j
abbrev kN:=vInt (fun _ j=>0 < j) fun i j=>i % j
noncomputable abbrev UB:=vInt Jg fun i j=>i ^ j.toNat
theorem Iu:OpS C k X (fi .Mult) JI:=Iq Qy
theorem kB:OpS C k X (fi .FloorDiv) oB:=Iq Qz
theorem fK:OpS C k X (fi .Mod) kN:=Iq QA
theorem Ww:OpS C k X (fi .Pow) UB:=Iq QB
def C9:PV->PH->Rs PV:=fun x h=>match x with
 | .int i=>.ok (.int (-i)) h
 | _=>.bad
end L2
namespace L2
open PySem PySem.Spec PyProof.Rows
variable {C:MC} {k:Nat} {X:Cx}
def DU (f:Int->Int->Bool) (g:List Nat->List Nat->Bool):PV->PV->PH->Rs PV:=fun x y h=>match x,y with
 | .int i,.int j=>.ok (.bl (f i j)) h
 | .str i,.str j=>.ok (.bl (g i.cps.toList j.cps.toList)) h
 | _,_=>.bad
theorem ME {f:Value->Value->Sem Value} {p:Int->Int->Bool} {g:List Nat->List Nat->Bool} (ho:OpR X f (DI p g)):OpS C k X f (DU p g):=fun c=>ho.imp fun x y H Q h=>by
 obtain ⟨φ,h,p,q,rh,rx,ry,po⟩:=h;unfold DU at po;cases p with
 | int i=>
  cases q with
  | int j=>cases rx; cases ry; exact po.val rh rfl
  | _=>exact po.elim
 | str i=>
  cases q with
  | str j=>cases rx; cases ry; exact po.val rh rfl
  | _=>exact po.elim
 | _=>exact po.elim
abbrev vLt:=DU (fun i j=>decide (i < j)) fun i j=>decide (i < j)
abbrev vGt:=DU (fun i j=>decide (j < i)) fun i j=>decide (j < i)
abbrev vLe:=DU (fun i j=>decide (i<=j)) fun i j=>!decide (j < i)
abbrev vGe:=DU (fun i j=>decide (j<=i)) fun i j=>!decide (i < j)
theorem Yq:OpS C k X (cm .Lt) vLt:=ME Uk
theorem UC:OpS C k X (cm .Gt) vGt:=ME Ul
theorem DV:OpS C k X (cm .LtE) vLe:=ME Um
mutual
def PV.d:PV->Option D
 | .non=>some .non
 | .bl b=>some (.bl b)
 | .int i=>some (.int i)
 | .str x=>some (.str x)
 | .tup xs=>match PV.ds xs with
  | some ds=>some (.tup ds)
  | none=>none
 | .ref _=>none
 | .ty _=>none
 | .fl _=>none
def PV.ds:List PV->Option (List D)
 | []=>some []
 | x :: xs=>match PV.d x,PV.ds xs with
  | some d,some ds=>some (d :: ds)
  | _,_=>none
end
section
variable {φ:List Addr} {H:Hp}
mutual
theorem RV.rep:∀ {x:PV} {d:D} {v:V},RV C φ H x v->x.d=some d->Rep C.K H d v
 | .non,_,_,h,e=>by cases e; exact h
 | .bl _,_,_,h,e=>by cases e; exact h
 | .int _,_,_,h,e=>by cases e; exact h
 | .str _,_,_,h,e=>by cases e; exact h
 | .tup xs,d,v,⟨a,vs,e1,q,r⟩,e=>by
  unfold PV.d at e;cases e2:PV.ds xs with
  | none=>rw [e2] at e; cases e
  | some ds=>
   rw [e2] at e;cases e
   exact ⟨a,vs,e1,q,RVs.reps r e2⟩
 | .ref _,_,_,_,e=>by cases e
 | .ty _,_,_,_,e=>by cases e
 | .fl _,_,_,_,e=>by cases e
theorem RVs.reps:∀ {xs:List PV} {ds:List D} {vs:List V},RVs C φ H xs vs->PV.ds xs=some ds->cL C.K H ds vs
 | [],_,[],_,e=>by cases e; trivial
 | x :: xs,_,v :: vs,⟨h,r⟩,e=>by
  unfold PV.ds at e;cases e1:PV.d x with
  | none=>rw [e1] at e; cases e
  | some d=>
   cases e2:PV.ds xs with
   | none=>rw [e1,e2] at e; cases e
   | some ds=>
    rw [e1,e2] at e;cases e
    exact ⟨RV.rep h e1,RVs.reps r e2⟩
 | [],_,_ :: _,h,_=>h.elim
 | _ :: _,_,[],h,_=>h.elim
end
end
def iJ (x y:PV) (h:PH):Option Bool:=match x.d,y.d with
 | some d,some e=>if d.depth<=40 then some (eqD d e) else none
 | _,_=>match cJ x h,cJ y h with
   | some xs,some ys=>match PV.ds xs,PV.ds ys with
    | some ds,some es=>if D.depths ds<=40 then some (eI ds es) else none
    | _,_=>none
   | _,_=>none
def ofB (o:Option Bool) (h:PH):Rs PV:=match o with
 | some b=>.ok (.bl b) h
 | none=>.bad
def vEq:PV->PV->PH->Rs PV:=fun x y h=>ofB (iJ x y h) h
def vNe:PV->PV->PH->Rs PV:=fun x y h=>ofB ((iJ x y h).map not) h
theorem jO {φ:List Addr} {H:Hp} {h:PH} {p q:PV} {x y:V} {b:Bool} (rh:RH C φ H h) (rx:RV C φ H p x) (ry:RV C φ H q y) (e:iJ p q h=some b):
  (∃ d e,Rep C.K H d x/\Rep C.K H e y/\d.depth<=40/\b=eqD d e)\/(∃ ds es,DL C.K H ds x/\DL C.K H es y/\D.depths ds<=40/\b=eI ds es):=by
 unfold iJ at e;split at e
 ·rename_i d e' h1 h2;split at e
  ·rename_i hd;cases e
   exact .inl ⟨d,e',rx.rep h1,ry.rep h2,hd,rfl⟩
  ·cases e
 ·split at e
  ·rename_i xs ys h1 h2;split at e
   ·rename_i ds es h3 h4;split at e
    ·rename_i hd;cases e
     obtain ⟨a',vs,rfl,sa,ra⟩:=dR rh rx h1;obtain ⟨b'',us,rfl,sb,rb⟩:=dR rh ry h2;exact .inr ⟨ds,es,⟨a',vs,rfl,sa,ra.reps h3⟩,⟨b'',us,rfl,sb,rb.reps h4⟩,hd,rfl⟩
    ·cases e
   ·cases e
  ·cases e
theorem post.ofB {φ:List Addr} {H:Hp} {h:PH} {o:Option Bool} {Q:VK} (q:post C φ H (ofB o h) Q):∃ b,o=some b/\post C φ H (.ok (.bl b) h) Q:=by
 cases o with
 | none=>exact q.elim
 | some b=>exact ⟨b,rfl,q⟩
theorem pY:OpS C k X (cm .Eq) vEq:=fun c=>((Ur c.hu64 C.K c.K).or (Ut c.hu64 C.K c.K)).imp fun x y H Q h=>by
 obtain ⟨φ,h,p,q,rh,rx,ry,po⟩:=h;obtain ⟨b,e,po⟩:=po.ofB;rcases jO rh rx ry e with ⟨d,e',h1,h2,h3,rfl⟩ | ⟨d,e',h1,h2,h3,rfl⟩
 ·exact .inl ⟨d,e',h1,h2,h3,po.val rh rfl⟩
 ·exact .inr ⟨d,e',h1,h2,h3,po.val rh rfl⟩
theorem UD:OpS C k X (cm .NotEq) vNe:=fun c=>((Us c.hu64 C.K c.K).or (Uu c.hu64 C.K c.K)).imp fun x y H Q h=>by
 obtain ⟨φ,h,p,q,rh,rx,ry,po⟩:=h;obtain ⟨b,e,po⟩:=po.ofB;cases e0:iJ p q h with
 | none=>rw [e0] at e; cases e
 | some b'=>
  rw [e0] at e;cases e
  rcases jO rh rx ry e0 with ⟨d,e',h1,h2,h3,rfl⟩ | ⟨d,e',h1,h2,h3,rfl⟩
  ·exact .inl ⟨d,e',h1,h2,h3,po.val rh rfl⟩
  ·exact .inr ⟨d,e',h1,h2,h3,po.val rh rfl⟩
def pZ:PV->Option Key
 | .int i=>some (.inl i)
 | .str x=>some (.inr x)
 | _=>none
def aX {κ:Type} [DecidableEq κ]:List (κ×PV)->κ->Option PV
 | [],_=>none
 | (a,p) :: r,b=>if a=b then some p else aX r b
def DW (h:PH) (n:Nat) (x:PV):Option (Option PV):=match h[n]? with
 | some (.dK kvs)=>match pZ x with
  | some key=>some (aX kvs key)
  | none=>none
 | _=>none
def xJ (x:PV) (ys:List PV):Option Bool:=match x.d,PV.ds ys with
 | some d,some ds=>if D.depths ds<=40 then some (ds.any fun e=>eqD e d) else none
 | _,_=>none
def JJ (x y:PV) (h:PH):Option Bool:=match y with
 | .tup ys=>xJ x ys
 | .ref n=>match aN h n with
  | some ys=>xJ x ys
  | none=>(DW h n x).map Option.isSome
 | .fl ys=>xJ x ys
 | _=>none
def vIn:PV->PV->PH->Rs PV:=fun x y h=>ofB (JJ x y h) h
def MF:PV->PV->PH->Rs PV:=fun x y h=>ofB ((JJ x y h).map not) h
theorem xK {φ:List Addr} {H:Hp} {x:PV} {v:V} {key:Key} (r:RV C φ H x v) (e:pZ x=some key):v=kV key:=by
 cases x <;> first | (cases e; exact r) | cases e
theorem sS {φ:List Addr} {H:Hp} {κ:Type} [DecidableEq κ] {kvs:List (κ×PV)} {ks:List (κ×V)} (r:RKv C φ H kvs ks) (a:κ):match aX kvs a,iQ ks a with
  | some p,some v=>RV C φ H p v
  | none,none=>True
  | _,_=>False:=by
 unfold RKv at r
 induction r with
 | nil=>trivial
 | @cons p q ps qs h t ih=>
  obtain ⟨h1,h2⟩:=h;obtain ⟨pk,pv⟩:=p
  by_cases e:pk=a
  ·have e':q.1=a:=h1.symm.trans e;rw [pJ e'];unfold aX;rw [if_pos e];exact h2
  ·have e':¬ q.1=a:=fun z=>e (h1.trans z);rw [pK e'];unfold aX;rw [if_neg e];exact ih
theorem oC {φ:List Addr} {H:Hp} {h:PH} {n:Nat} {a:Addr} {x:PV} {v:V} {o:Option PV} (rh:RH C φ H h) (ha:φ[n]?=some a) (rv:RV C φ H x v) (e:DW h n x=some o):
  ∃ o',nW H a v o'/\o.isSome=o'.isSome/\∀ p,o=some p->∃ w,o'=some w/\RV C φ H p w:=by
 unfold DW at e;split at e
 ·rename_i kvs hk;split at e
  ·rename_i key hkey;cases e
   obtain ⟨ks,hH,rk⟩:=rh.at' n a _ ha hk;have q:=sS rk key;rw [xK rv hkey];refine ⟨iQ ks key,nW.k hH,?_,fun p hp=>?_⟩
   ·cases e1:aX kvs key <;> cases e2:iQ ks key <;> rw [e1,e2] at q <;> first | rfl | exact q.elim
   ·rw [hp] at q;cases e2:iQ ks key with
    | none=>rw [e2] at q; exact q.elim
    | some w=>rw [e2] at q; exact ⟨w,rfl,q⟩
  ·cases e
 ·cases e
theorem xM {φ:List Addr} {H:Hp} {h:PH} {p q:PV} {x y:V} {b:Bool} (rh:RH C φ H h) (rx:RV C φ H p x) (ry:RV C φ H q y) (e:JJ p q h=some b):
  (∃ d a ds vs,y=.ref a/\(SqL C.K H a vs\/SqT C.K H a vs)/\Rep C.K H d x/\cL C.K H ds vs/\D.depths ds<=40/\b=ds.any fun e=>eqD e d)\/∃ a o,y=.ref a/\nW H a x o/\b=o.isSome:=by
 have go:∀ {a:Addr} {vs:List V} {ys:List PV},(SqL C.K H a vs\/SqT C.K H a vs)->RVs C φ H ys vs->xJ p ys=some b->∃ d a' ds vs,V.ref a=.ref a'/\(SqL C.K H a' vs\/SqT C.K H a' vs)/\Rep C.K H d x/\cL C.K H ds vs/\D.depths ds<=40/\b=ds.any fun e=>eqD e d:=by
  intro a vs ys hs hr he;unfold xJ at he;split at he
  ·rename_i d ds h1 h2;split at he
   ·rename_i hd;cases he
    exact ⟨d,a,ds,vs,rfl,hs,rx.rep h1,hr.reps h2,hd,rfl⟩
   ·cases he
  ·cases he
 unfold JJ at e;split at e
 ·obtain ⟨a,vs,rfl,sa,ra⟩:=ry;exact .inl (go (.inr sa) ra e)
 ·rename_i n;obtain ⟨a,rfl,ha⟩:=ry;split at e
  ·rename_i ys hl;obtain ⟨a2,vs,ha2,sa,ra⟩:=bM rh hl;rw [ha] at ha2; cases ha2;exact .inl (go (.inl sa) ra e)
  ·cases e':DW h n p with
   | none=>rw [e'] at e; cases e
   | some o=>
    rw [e'] at e;cases e
    obtain ⟨o',g,i,_⟩:=oC rh ha rx e';exact .inr ⟨a,o',rfl,g,i⟩
 ·obtain ⟨a,vs,rfl,sa,ra⟩:=ry;exact .inl (go (.inl sa.sq) ra e)
 ·cases e
theorem Yr:OpS C k X (cm .In) vIn:=fun c=>((Uv c.hu64 C.K c.K).or (Uo c.hu C.K c.K)).imp fun x y H Q h=>by
 obtain ⟨φ,h,p,q,rh,rx,ry,po⟩:=h;obtain ⟨b,e,po⟩:=po.ofB;rcases xM rh rx ry e with ⟨d,a,ds,vs,rfl,h1,h2,h3,h4,rfl⟩ | ⟨a,o,rfl,g,rfl⟩
 ·exact .inl ⟨d,a,ds,vs,rfl,h1,h2,h3,h4,po.val rh rfl⟩
 ·exact .inr (.inr ⟨a,o,rfl,g,po.val rh rfl⟩)
theorem QJ:OpS C k X (cm .NotIn) MF:=fun c=>((Jy c.hu64 C.K c.K).or (Jv c.hu C.K c.K)).imp fun x y H Q h=>by
 obtain ⟨φ,h,p,q,rh,rx,ry,po⟩:=h;obtain ⟨b,e,po⟩:=po.ofB;cases e':JJ p q h with
 | none=>rw [e'] at e; cases e
 | some b'=>
  rw [e'] at e;cases e
  rcases xM rh rx ry e' with ⟨d,a,ds,vs,rfl,h1,h2,h3,h4,rfl⟩ | ⟨a,o,rfl,g,rfl⟩
  ·exact .inl ⟨d,a,ds,vs,rfl,h1,h2,h3,h4,po.val rh rfl⟩
  ·exact .inr (.inr ⟨a,o,rfl,g,po.val rh rfl⟩)
def iK:PV->Bool
 | .non=>true
 | _=>false
def vIs:PV->PV->PH->Rs PV:=fun x y h=>match y with
 | .non=>.ok (.bl (iK x)) h
 | .bl b=>match x with
  | .bl a=>.ok (.bl (a == b)) h
  | _=>.bad
 | _=>.bad
def xO:PV->PV->PH->Rs PV:=fun x y h=>match y with
 | .non=>.ok (.bl (!iK x)) h
 | .bl b=>match x with
  | .bl a=>.ok (.bl (!(a == b))) h
  | _=>.bad
 | _=>.bad
theorem RV.isNon {φ:List Addr} {H:Hp} {p:PV} {v:V} (r:RV C φ H p v):decide (v=.non)=iK p:=by
 cases p with
 | non=>cases r; rfl
 | tup xs=>obtain ⟨a,vs,rfl,_⟩:=r; rfl
 | ref n=>obtain ⟨a,rfl,_⟩:=r; rfl
 | fl xs=>obtain ⟨a,vs,rfl,_⟩:=r; rfl
 | _=>cases r; rfl
theorem UE:OpS C k X (cm .Is) vIs:=fun c=>(U2.or (fun pins s σ H x y v u Q I rx ry (h:∃ a b,x=.bl a/\y=.bl b/\Q (.bl (a == b)) H)=>by
  obtain ⟨a,b,rfl,rfl,q⟩:=h;cases rx; cases ry;exact PyProof.Rows.is_bool ⟨.bl _,H,I,rfl,q⟩)).imp fun x y H Q h=>by
 obtain ⟨φ,h,p,q,rh,rx,ry,po⟩:=h;unfold vIs at po;cases q with
 | non=>
  cases ry
  refine .inl ⟨rfl,?_⟩;rw [rx.isNon];exact po.val rh rfl
 | bl b=>
  cases p with
  | bl a=>cases rx; cases ry; exact .inr ⟨a,b,rfl,rfl,po.val rh rfl⟩
  | _=>exact po.elim
 | _=>exact po.elim
theorem QK:OpS C k X (cm .IsNot) xO:=fun c=>(Qh.or (fun pins s σ H x y v u Q I rx ry (h:∃ a b,x=.bl a/\y=.bl b/\Q (.bl (!(a == b))) H)=>by
  obtain ⟨a,b,rfl,rfl,q⟩:=h;cases rx; cases ry;exact PyProof.Rows.isnot_bool ⟨.bl _,H,I,rfl,q⟩)).imp fun x y H Q h=>by
 obtain ⟨φ,h,p,q,rh,rx,ry,po⟩:=h;unfold xO at po;cases q with
 | non=>
  cases ry
  refine .inl ⟨rfl,?_⟩;rw [rx.isNon];exact po.val rh rfl
 | bl b=>
  cases p with
  | bl a=>cases rx; cases ry; exact .inr ⟨a,b,rfl,rfl,po.val rh rfl⟩
  | _=>exact po.elim
 | _=>exact po.elim
def tru (x:PV) (h:PH):Rs Bool:=match x with
 | .non=>.ok false h
 | .bl b=>.ok b h
 | .int i=>.ok (i != 0) h
 | .str y=>if y.length<=av then .ok ((y.length:Int) != 0) h else .bad
 | .tup xs=>.ok (!xs.isEmpty) h
 | .ref n=>match aN h n with
  | some xs=>.ok (!xs.isEmpty) h
  | none=>match h[n]? with
   | some (.dK kvs)=>.ok (!kvs.isEmpty) h
   | _=>.bad
 | .fl xs=>.ok (!xs.isEmpty) h
 | .ty _=>.bad
theorem RVs.isEmpty {φ:List Addr} {H:Hp} {xs:List PV} {vs:List V} (r:RVs C φ H xs vs):(!vs.isEmpty)=!xs.isEmpty:=by
 cases xs <;> cases vs <;> first | rfl | exact r.elim
theorem bY.ite {φ:List Addr} {H:Hp} {c:Prop} [Decidable c] {r:Rs Bool} {Q:Bool->Hp->Prop} (h:bY C φ H (if c then r else .bad) Q):c/\bY C φ H r Q:=by
 by_cases hc:c
 ·rw [if_pos hc] at h; exact ⟨hc,h⟩
 ·rw [if_neg hc] at h; exact h.elim
theorem bY.val {φ:List Addr} {H:Hp} {b:Bool} {h:PH} {Q:Bool->Hp->Prop} (q:bY C φ H (.ok b h) Q) (rh:RH C φ H h):Q b H:=q φ H aw (Kp.refl H) rh
theorem JK {φ:List Addr} {H:Hp} {h:PH} {p:PV} {v:V} {Q:Bool->Hp->Prop} (rh:RH C φ H h) (rv:RV C φ H p v) (po:bY C φ H (tru p h) Q):∃ b,FL C.K v H b/\Q b H:=by
 unfold tru at po;cases p with
 | non=>cases rv; exact ⟨_,rfl,po.val rh⟩
 | bl b=>cases rv; exact ⟨_,rfl,po.val rh⟩
 | int i=>cases rv; exact ⟨_,rfl,po.val rh⟩
 | str y=>cases rv; exact ⟨_,⟨po.ite.1,rfl⟩,po.ite.2.val rh⟩
 | tup xs=>
  obtain ⟨a,vs,rfl,sa,ra⟩:=rv;exact ⟨_,.inr (.inl ⟨vs,sa,rfl⟩),by rw [ra.isEmpty]; exact po.val rh⟩
 | ref n=>
  obtain ⟨a,rfl,ha⟩:=rv;dsimp only at po;cases e:aN h n with
  | some xs=>
   rw [e] at po;obtain ⟨a2,vs,ha2,sa,ra⟩:=bM rh e;rw [ha] at ha2; cases ha2;exact ⟨_,.inl ⟨vs,sa,rfl⟩,by rw [ra.isEmpty]; exact po.val rh⟩
  | none=>
   rw [e] at po;dsimp only at po;split at po
   ·rename_i kvs hk;obtain ⟨ks,hH,rk⟩:=rh.at' n a _ ha hk;refine ⟨_,.inr (.inr ⟨ks,hH,rfl⟩),?_⟩;have:(!ks.isEmpty)=!kvs.isEmpty:=by cases rk <;> rfl
    rw [this];exact po.val rh
   ·exact po.elim
 | fl xs=>
  obtain ⟨a,vs,rfl,sa,ra⟩:=rv;exact ⟨_,.inl ⟨vs,sa.sq,rfl⟩,by rw [ra.isEmpty]; exact po.val rh⟩
 | ty n=>exact po.elim
end L2
namespace L2
open PySem PySem.Spec PyProof.Rows
variable {C:MC} {k:Nat} {X:Cx}
def bT (m:Me):Ev->PH->Rs Bool:=fun δ h=>(m δ h).bind tru
theorem G9 {m:Me} {σ:St} {H:Hp} {Q:Bool->Hp->Prop} (h:rdB C (bT m) σ H Q):rd C m σ H fun v H1=>∃ b,FL C.K v H1 b/\Q b H1:=by
 obtain ⟨φ,δ,h,rh,re,p⟩:=h;refine ⟨φ,δ,h,rh,re,(post.bindB p).imp ?_⟩;rintro v H1 ⟨φ1,x,h1,p1,t1,rh1,rv1,q1⟩;exact JK rh1 rv1 q1
section
variable {a b e c':Expr} {ma mb mc m:Me} {g g':PV->PV->PH->Rs PV} {pos:Pos} {ta tb:Ev->PH->Rs Bool}
theorem Iv (h:SE C k X e m) (he:∀ whole,isTrue e X.env whole=(do let v <- whole; standAt e.pos; holding [v] (truthy v)):=by intro _; rfl):ST C k X e (bT m):=fun c=>
 (LZ (h c) he).imp fun σ H Q q=>by rw [c.K]; exact G9 q
theorem bZ {op:CmpOp} (ho:OpS C k X (cm op) g) (ha:SE C k X a ma) (hb:SE C k X b mb) (hm:behindInMarks op b=false:=by first | exact LV _ | rfl):ST C k X (.Compare a [op] [b] pos) (bT (aD g ma mb)):=fun c=>by
 intro pins s σ H Q I h;have h:=Ip (G9 h);refine wpAny_isTrue_Compare1 (thn (ha c pins s σ H _ I h) fun v s1 ⟨x,H1,I1,r1,q1⟩=>thn (hb c pins s1 σ H1 _ I1 q1) fun u s2 ⟨y,H2,I2,r2,q2⟩=>
  thn (ho c pins s2 σ H2 x y v u _ I2 r1 r2 q2) fun w s3 ⟨z,H3,I3,r3,q3⟩=>?_) hm
 rw [<- c.K] at q3;exact LY pins s3 σ H3 z w Q I3 r3 q3
def MG (z:PV) (h:PH):Rs PV:=match z with
 | .bl b=>.ok (.bl b) h
 | _=>.bad
def MH (g g':PV->PV->PH->Rs PV) (ma mb mc:Me):Me:=fun δ h=>(ma δ h).bind fun x h1=>(mb δ h1).bind fun y h2=>(g x y h2).bind fun z h3=>match z with
 | .bl true=>(mc δ h3).bind fun w h4=>(g' y w h4).bind MG
 | .bl false=>.ok (.bl false) h3
 | _=>.bad
theorem UF {σ:St} {H:Hp} {Q:VK} (h:rd C (MH g g' ma mb mc) σ H Q):LW (r2 C g) (r2 C g') (rd C ma) (rd C mb) (rd C mc) σ H fun v H1=>∃ b,v=.bl b/\Q v H1:=by
 obtain ⟨φ,δ,h,rh,re,p⟩:=h;refine ⟨φ,δ,h,rh,re,(post.bind p).imp ?_⟩;rintro v H1 ⟨φ1,x,h1,p1,t1,rh1,rv1,q1⟩;refine ⟨φ1,δ,h1,rh1,re.mono p1 t1,(post.bind q1).imp ?_⟩;rintro u H2 ⟨φ2,y,h2,p2,t2,rh2,rv2,q2⟩;refine ⟨φ2,h2,x,y,rh2,rv1.mono p2 t2,rv2,(post.bind q2).imp ?_⟩;rintro w H3 ⟨φ3,z,h3,p3,t3,rh3,rv3,q3⟩;cases z with
 | bl b=>
  cases rv3
  refine ⟨b,rfl,?_⟩;cases b with
  | false=>exact DD ⟨false,rfl,q3.val rh3 rfl⟩
  | true=>
   refine DE ⟨φ3,δ,h3,rh3,re.mono ((p1.trans p2).trans p3) ((t1.trans t2).trans t3),(post.bind q3).imp ?_⟩;rintro w4 H4 ⟨φ4,z4,h4,p4,t4,rh4,rv4,q4⟩;refine ⟨φ4,h4,y,z4,rh4,rv2.mono (p3.trans p4) (t3.trans t4),rv4,(post.bind q4).imp ?_⟩;rintro w5 H5 ⟨φ5,z5,h5,p5,t5,rh5,rv5,q5⟩;cases z5 with
   | bl b=>cases rv5; exact ⟨b,rfl,q5.val rh5 rfl⟩
   | _=>exact q5.elim
 | _=>exact q3.elim
theorem Wx {op op':CmpOp} (ho:OpS C k X (cm op) g) (ho':OpS C k X (cm op') g') (ha:SE C k X a ma) (hb:SE C k X b mb) (hc:SE C k X c' mc) (hm:lastMarks [op,op'] [b,c']=false:=by with_unfolding_all rfl):
  ST C k X (.Compare a [op,op'] [b,c'] pos) (bT (MH g g' ma mb mc)):=fun c=>by
 intro pins s σ H Q I h;have h':=UF (G9 h);refine ia (LX (ho c) (ho' c) (ha c) (hb c) (hc c) hm pins s σ H (fun b H1=>∃ b',FL C.K (.bl b) H1 b'/\Q b' H1) I ?_) (fun b s1 ⟨H1,I1,b',(e:b'=b),q⟩=>⟨H1,I1,by rw [<- e]; exact q⟩) fun _ _ z=>z;obtain ⟨φ,δ,hh,rh,re,p⟩:=h';refine ⟨φ,δ,hh,rh,re,p.imp ?_⟩;rintro v H1 ⟨φ1,δ1,h1,rh1,re1,p1⟩;refine ⟨φ1,δ1,h1,rh1,re1,p1.imp ?_⟩;rintro u H2 ⟨φ2,h2,x,y,rh2,rx,ry,p2⟩;refine ⟨φ2,h2,x,y,rh2,rx,ry,p2.imp ?_⟩;rintro w H3 ⟨b,e,p3⟩;refine ⟨b,e,?_⟩;cases b with
 | false=>
  have:∃ b,V.bl false=V.bl b/\∃ b_1,FL C.K (V.bl false) H3 b_1/\Q b_1 H3:=by simpa using p3
  obtain ⟨b,e1,q⟩:=this;exact DD ⟨false,rfl,q⟩
 | true=>
  have p3:rd C mc σ H3 fun w' H4=>r2 C g' u w' H4 fun v H1=>∃ b,v=V.bl b/\∃ b_1,FL C.K v H1 b_1/\Q b_1 H1:=by simpa using p3
  obtain ⟨φ3,δ3,h3,rh3,re3,p3⟩:=p3;refine DE ⟨φ3,δ3,h3,rh3,re3,p3.imp ?_⟩;rintro w4 H4 ⟨φ4,h4,x4,y4,rh4,rx4,ry4,p4⟩;refine ⟨φ4,h4,x4,y4,rh4,rx4,ry4,p4.imp ?_⟩;rintro w5 H5 ⟨b,rfl,q⟩;exact ⟨b,rfl,q⟩
def DX (t:Ev->PH->Rs Bool):Ev->PH->Rs Bool:=fun δ h=>(t δ h).bind fun b h1=>.ok (!b) h1
def DY (ta tb:Ev->PH->Rs Bool):Ev->PH->Rs Bool:=fun δ h=>(ta δ h).bind fun b h1=>match b with
 | true=>tb δ h1
 | false=>.ok false h1
def MI (ta tb:Ev->PH->Rs Bool):Ev->PH->Rs Bool:=fun δ h=>(ta δ h).bind fun b h1=>match b with
 | true=>.ok true h1
 | false=>tb δ h1
theorem bY.imp {φ:List Addr} {H:Hp} {r:Rs Bool} {Q Q':Bool->Hp->Prop} (h:bY C φ H r Q) (i:∀ v H',Q v H'->Q' v H'):bY C φ H r Q':=by
 cases r with
 | ok a h'=>exact fun φ' H' p t rh=>i a H' (h φ' H' p t rh)
 | exc a h'=>exact h
 | bad=>exact h
theorem MJ (h:ST C k X e ta):ST C k X (.UnaryOp .Not e pos) (DX ta):=fun c=>(TF (h c)).imp fun σ H Q q=>by
 obtain ⟨φ,δ,h,rh,re,p⟩:=q;refine ⟨φ,δ,h,rh,re,(bY.bindB p).imp ?_⟩;rintro b H1 ⟨φ1,h1,p1,t1,rh1,q1⟩;exact q1.val rh1
def SW (C:MC) (k:Nat) (X:Cx) (e:Expr) (m:Ev->PH->Rs Bool):Prop:=Cxt C k X->PW X e (rdB C m)
theorem SW.t (h:SW C k X e ta):ST C k X e ta:=fun c=>(h c).pt
theorem PW.imp {t t':TT} (h:PW X e t) (i:∀ σ H Q,t' σ H Q->t σ H Q):PW X e t':=fun w pins s σ H Q I q=>h w pins s σ H Q I (i σ H Q q)
theorem MK (ha:ST C k X a ta):SW C k X (.BoolOp .And [a] pos) ta:=fun c=>Qa (ha c)
theorem Td (ha:ST C k X a ta):SW C k X (.BoolOp .Or [a] pos) ta:=fun c=>TB (ha c)
theorem w_and {rest:List Expr} (ha:ST C k X a ta) (hb:SW C k X (.BoolOp .And (b :: rest) pos) tb):SW C k X (.BoolOp .And (a :: b :: rest) pos) (DY ta tb):=fun c=>PW.imp (TC (ha c) (hb c)) fun σ H Q q=>by
 obtain ⟨φ,δ,h,rh,re,p⟩:=q;refine ⟨φ,δ,h,rh,re,(bY.bindB p).imp ?_⟩;rintro b H1 ⟨φ1,h1,p1,t1,rh1,q1⟩;cases b with
 | true=>exact DE ⟨φ1,δ,h1,rh1,re.mono p1 t1,q1⟩
 | false=>exact DD (q1.val rh1)
theorem w_or {rest:List Expr} (ha:ST C k X a ta) (hb:SW C k X (.BoolOp .Or (b :: rest) pos) tb):SW C k X (.BoolOp .Or (a :: b :: rest) pos) (MI ta tb):=fun c=>PW.imp (VT (ha c) (hb c)) fun σ H Q q=>by
 obtain ⟨φ,δ,h,rh,re,p⟩:=q;refine ⟨φ,δ,h,rh,re,(bY.bindB p).imp ?_⟩;rintro b H1 ⟨φ1,h1,p1,t1,rh1,q1⟩;cases b with
 | true=>exact DE (q1.val rh1)
 | false=>exact DD ⟨φ1,δ,h1,rh1,re.mono p1 t1,q1⟩
def uS (ma mb:Me):Me:=fun δ h=>(ma δ h).bind fun x h1=>match x with
 | .bl true=>mb δ h1
 | .bl false=>.ok (.bl false) h1
 | _=>.bad
theorem Te {op} (h:SE C k X a ma):SE C k X (.BoolOp op [a] pos) ma:=fun c=>TH (h c)
theorem ML {rest:List Expr} (ha:SE C k X a ma) (hb:SE C k X (.BoolOp .And (b :: rest) pos) mb):SE C k X (.BoolOp .And (a :: b :: rest) pos) (uS ma mb):=fun c=>(QC (ha c) (hb c)).imp fun σ H Q q=>by
 obtain ⟨φ,δ,h,rh,re,p⟩:=q;refine ⟨φ,δ,h,rh,re,(post.bind p).imp ?_⟩;rintro v H1 ⟨φ1,x,h1,p1,t1,rh1,rv,q1⟩;cases x with
 | bl b=>
  cases rv
  cases b with
  | true=>exact DE ⟨φ1,δ,h1,rh1,re.mono p1 t1,q1⟩
  | false=>exact DD (q1.val rh1 rfl)
 | _=>exact q1.elim
def mIf (t:Ev->PH->Rs Bool) (ma mb:Me):Me:=fun δ h=>(t δ h).bind fun b h1=>match b with
 | true=>ma δ h1
 | false=>mb δ h1
theorem Iw (ht:ST C k X c' ta) (ha:SE C k X a ma) (hb:SE C k X b mb):SE C k X (.IfExp c' a b pos) (mIf ta ma mb):=fun c=>(LN (ht c) (ha c) (hb c)).imp fun σ H Q q=>by
 obtain ⟨φ,δ,h,rh,re,p⟩:=q;refine ⟨φ,δ,h,rh,re,(bY.bind p).imp ?_⟩;rintro b H1 ⟨φ1,h1,p1,t1,rh1,q1⟩;cases b with
 | true=>exact DE ⟨φ1,δ,h1,rh1,re.mono p1 t1,q1⟩
 | false=>exact DD ⟨φ1,δ,h1,rh1,re.mono p1 t1,q1⟩
end
theorem RVs.atI {φ:List Addr} {H:Hp} {xs:List PV} {vs:List V} {i:Int} {x:PV} (r:RVs C φ H xs vs) (e:L2.atI xs i=some x):∃ v,L2.atI vs i=some v/\RV C φ H x v:=by
 unfold L2.atI at e ⊢;rw [<- r.length];cases q:ixN xs.length i with
 | none=>rw [q] at e; cases e
 | some j=>
  rw [q] at e;exact r.at e
def ofO (o:Option PV) (h:PH):Rs PV:=match o with
 | some p=>.ok p h
 | none=>.bad
def vIx:PV->PV->PH->Rs PV:=fun x y h=>match x with
 | .str z=>(match y with
  | .int i=>if z.length<=av then ofO ((atI z.cps.toList i).map fun c=>.str ⟨#[c]⟩) h else .bad
  | _=>.bad)
 | .tup xs=>(match y with
  | .int i=>ofO (atI xs i) h
  | _=>.bad)
 | .fl xs=>(match y with
  | .int i=>ofO (atI xs i) h
  | _=>.bad)
 | .ref n=>(match aN h n with
  | some xs=>(match y with
   | .int i=>ofO (atI xs i) h
   | _=>.bad)
  | none=>(match DW h n y with
   | some o=>ofO o h
   | none=>.bad))
 | _=>.bad
theorem post.ofO {φ:List Addr} {H:Hp} {h:PH} {o:Option PV} {Q:VK} (q:post C φ H (ofO o h) Q):∃ p,o=some p/\post C φ H (.ok p h) Q:=by
 cases o with
 | none=>exact q.elim
 | some b=>exact ⟨b,rfl,q⟩
theorem Wy {x y:V} {H:Hp} {Q:VK} (h:r2 C vIx x y H Q):Wn C.K x y H Q:=by
 obtain ⟨φ,h,p,q,rh,rx,ry,po⟩:=h;unfold vIx at po;cases p with
 | str z=>
  cases rx
  cases q with
  | int i=>
   cases ry
   obtain ⟨hz,po⟩:=po.ite;obtain ⟨p,e,po⟩:=po.ofO;cases e':atI z.cps.toList i with
   | none=>rw [e'] at e; cases e
   | some c=>rw [e'] at e; cases e; exact ⟨hz,c,e',po.val rh rfl⟩
  | _=>exact po.elim
 | tup xs=>
  obtain ⟨a,vs,rfl,sa,ra⟩:=rx;cases q with
  | int i=>
   cases ry
   obtain ⟨p,e,po⟩:=po.ofO;obtain ⟨v,hv,rv⟩:=ra.atI e;exact .inl ⟨vs,i,v,rfl,.inr sa,hv,po.val rh rv⟩
  | _=>exact po.elim
 | fl xs=>
  obtain ⟨a,vs,rfl,sa,ra⟩:=rx;cases q with
  | int i=>
   cases ry
   obtain ⟨p,e,po⟩:=po.ofO;obtain ⟨v,hv,rv⟩:=ra.atI e;exact .inl ⟨vs,i,v,rfl,.inl sa.sq,hv,po.val rh rv⟩
  | _=>exact po.elim
 | ref n=>
  obtain ⟨a,rfl,ha⟩:=rx;dsimp only at po;cases e:aN h n with
  | some xs=>
   rw [e] at po;obtain ⟨a2,vs,ha2,sa,ra⟩:=bM rh e;rw [ha] at ha2; cases ha2;cases q with
   | int i=>
    cases ry
    obtain ⟨p,e,po⟩:=po.ofO;obtain ⟨v,hv,rv⟩:=ra.atI e;exact .inl ⟨vs,i,v,rfl,.inl sa,hv,po.val rh rv⟩
   | _=>exact po.elim
  | none=>
   rw [e] at po;dsimp only at po;cases e':DW h n q with
   | none=>rw [e'] at po; exact po.elim
   | some o=>
    rw [e'] at po;obtain ⟨p,eo,po⟩:=po.ofO;obtain ⟨o',g,_,hp⟩:=oC rh ha ry e';obtain ⟨w,rfl,rw'⟩:=hp p eo;exact .inr ⟨w,g,po.val rh rw'⟩
 | _=>exact po.elim
theorem nD {prog:Program} {w:World} {A:Around} {E:Value->Shared->Prop} {s:Shared} {t sl:Addr} {items:Array Value} {vl vu:Value} {lo hi:Option Int} {Q:Value->Shared->Prop} (ht:IsTup s.heap t items) (hs:s.heap.IsSliceOf sl vl vu .none) (pl:IsPart vl lo) (pu:IsPart vu hi)
  (hw:HT.sIx items.size 0 lo=0/\HT.sIx items.size items.size hi=items.size) (h:Q (.ref t) s):wpAny (model prog w) A (getItem (.ref t) (.ref sl)) Q E s:=by
 obtain ⟨os,hos,hcs,hds⟩:=id hs;have hTs:s.TypeIs (.ref sl) "slice" := ⟨os,hos,hcs⟩;unfold getItem
 try with_reducible refine dg ?_
 first | refine aa (ai ?_) | skip
 refine aa (wpAny_sequenceKey ht.typeIs (by decide) ?_);refine aa (ki (name:=jm "__getitem__") ht.typeIs dr
  (jl dr ht.typeIs entry_tuple_getitem ?_ (args_tuple_getitem _ _)))
 show wpAny _ _ (m4 (.ref t) >>= _) _ _ s
 refine aa (tupleItemsOf_ ht ?_);refine aa (nq hTs ?_);rw [if_pos (by decide)];refine aa (HT.sliceApplied_gen hs pl pu ?_);have hno:((((HT.sIx items.size 0 lo:Nat):Int) == 0 && (1:Int) == 1 && (HT.sIx items.size items.size hi - HT.sIx items.size 0 lo) == items.size)=true):=by
  rw [hw.1,hw.2]; simp
 show wpAny _ _ (if (((HT.sIx items.size 0 lo:Nat):Int) == 0 && (1:Int) == 1 && (HT.sIx items.size items.size hi - HT.sIx items.size 0 lo) == items.size)=true then _ else _) _ _ s
 rw [if_pos hno];refine aa ?_;unfold Builtin.Tuple.tupleIsExact;refine aa (nq ht.typeIs (ai ?_));rw [if_pos (by decide)];refine aa (j8 ?_);exact ai ⟨_,rfl,ai h⟩
end L2
namespace L2
open PySem PySem.Spec PyProof.Rows
variable {C:MC} {k:Nat} {X:Cx}
def iU {α:Type} (xs:List α) (lo hi:Option Int):List α:=(xs.drop (HT.sIx xs.length 0 lo)).take (HT.sIx xs.length xs.length hi - HT.sIx xs.length 0 lo)
theorem RVs.cut {φ:List Addr} {H:Hp} {xs:List PV} {vs:List V} (r:RVs C φ H xs vs) (lo hi:Option Int):RVs C φ H (iU xs lo hi) (DC vs lo hi):=by
 unfold iU DC;rw [<- r.length];exact (r.drop _).take _
def vSl:PV->Option Int->Option Int->PH->Rs PV:=fun x lo hi h=>match x with
 | .str z=>if z.length<=av then .ok (.str (Txt.slice z lo hi)) h else .bad
 | .tup xs=>.ok (.tup (iU xs lo hi)) h
 | .ref n=>match aN h n with
  | some xs=>.ok (.ref h.length) (h++[.lst (iU xs lo hi)])
  | none=>.bad
 | .fl xs=>.ok (.ref h.length) (h++[.lst (iU xs lo hi)])
 | _=>.bad
def Wz (K:ag):V->Option Int->Option Int->Hp->VK->Prop:=fun x lo hi H Q=>∃ a xs,x=.ref a/\SqT K H a xs/\(HT.sIx xs.length 0 lo=0/\HT.sIx xs.length xs.length hi=xs.length)/\Q (.ref a) H
theorem MM:SlR X (Wz X.K):=by
 intro pins s σ H x v vl vu lo hi sl Q I rx hs pl pu h;obtain ⟨a,xs,rfl,hx,hw,q⟩:=h;cases rx
 obtain ⟨its,r,ht,hz⟩:=I.tuple hx;have hlen:its.toArray.size=xs.length:=by rw [ar]; exact r.length.symm
 refine ⟨"tuple",_,dr.lookup,ht.typeIs,?_⟩;exact nD ht hs pl pu (by rw [hlen]; exact hw) ⟨.ref a,H,I,rfl,q⟩
theorem SlR.imp {r r':V->Option Int->Option Int->Hp->VK->Prop} (h:SlR X r) (i:∀ x lo hi H Q,r' x lo hi H Q->r x lo hi H Q):SlR X r':=fun pins s σ H x v vl vu lo hi sl Q I rx hs pl pu q=>h pins s σ H x v vl vu lo hi sl Q I rx hs pl pu (i x lo hi H Q q)
def r3 (C:MC) (g:PV->Option Int->Option Int->PH->Rs PV):V->Option Int->Option Int->Hp->VK->Prop:=fun x lo hi H Q=>∃ φ h p,RH C φ H h/\RV C φ H p x/\post C φ H (g p lo hi h) Q
theorem UG (hK:X.K=C.K):SlR X (r3 C vSl):=by
 have e:SlR X (fun x lo hi H Q=>Wj x lo hi H Q\/W8 C.K x lo hi H Q\/Wa C.K x lo hi H Q\/Wz C.K x lo hi H Q):=by rw [<- hK]; exact Uj.or (U8.or (Qq.or MM))
 refine e.imp fun x lo hi H Q h=>?_;obtain ⟨φ,h,p,rh,rv,po⟩:=h;unfold vSl at po;cases p with
 | str z=>cases rv; exact .inl ⟨z,rfl,po.ite.1,po.ite.2.val rh rfl⟩
 | tup xs=>
  obtain ⟨a,vs,rfl,sa,ra⟩:=rv
  by_cases hw:HT.sIx vs.length 0 lo=0/\HT.sIx vs.length vs.length hi=vs.length
  ·refine .inr (.inr (.inr ⟨a,vs,rfl,sa,hw,po.val rh ⟨a,vs,rfl,sa,?_⟩⟩));have e:iU xs lo hi=xs:=by
    unfold iU;rw [ra.length,hw.1,hw.2,List.drop_zero,Nat.sub_zero,<- ra.length,ie]
   rw [e];exact ra
  ·exact .inr (.inl ⟨a,vs,rfl,sa,hw,fun p hp=>po.tnew rh (ra.cut lo hi) hp⟩)
 | ref n=>
  obtain ⟨a,rfl,ha⟩:=rv;dsimp only at po;cases e:aN h n with
  | none=>rw [e] at po; exact po.elim
  | some xs=>
   rw [e] at po;obtain ⟨a2,vs,ha2,sa,ra⟩:=bM rh e;rw [ha] at ha2; cases ha2;exact .inr (.inr (.inl ⟨a,vs,rfl,sa,fun p hp=>po.lnew rh (ra.cut lo hi) hp⟩))
 | fl xs=>
  obtain ⟨a,vs,rfl,sa,ra⟩:=rv;exact .inr (.inr (.inl ⟨a,vs,rfl,sa.sq,fun p hp=>po.lnew rh (ra.cut lo hi) hp⟩))
 | _=>exact po.elim
abbrev Mo:=Ev->PH->Rs (Option Int)
def uT (C:MC) (φ:List Addr) (H:Hp) (r:Rs (Option Int)) (Q:Option Int->Hp->Prop):Prop:=match r with
 | .ok b h=>∀ φ' H',φ<+:φ'->Kp H H'->RH C φ' H' h->Q b H'
 | .exc x h=>∀ φ' H',φ<+:φ'->Kp H H'->RH C φ' H' h->C.ex φ' H' x
 | .bad=>False
def rdO (C:MC) (m:Mo):TO:=fun σ H Q=>∃ φ δ h,RH C φ H h/\RE C φ H δ σ/\uT C φ H (m δ h) Q
def SO (C:MC) (k:Nat) (X:Cx) (e:Option Expr) (m:Mo):Prop:=Cxt C k X->PO X e (rdO C m)
def QL:Mo:=fun _ h=>.ok none h
def mP (m:Me):Mo:=fun δ h=>(m δ h).bind fun x h1=>match x with
 | .int i=>.ok (some i) h1
 | _=>.bad
theorem MN:SO C k X none QL:=fun c pins s σ H Q I h=>by
 obtain ⟨φ,δ,h,rh,re,p⟩:=h;exact Qn pins s σ H Q I (p φ H aw (Kp.refl H) rh)
theorem Ca {e:Expr} {m:Me} (h:SE C k X e m):SO C k X (some e) (mP m):=fun c pins s σ H Q I q=>by
 refine Ml (h c) pins s σ H Q I ?_;obtain ⟨φ,δ,h,rh,re,p⟩:=q;refine ⟨φ,δ,h,rh,re,?_⟩;unfold mP at p;cases e':m δ h with
 | ok x h1=>
  rw [e'] at p;intro φ' v H' p' t' rh' rv';cases x with
  | int i=>cases rv'; exact p φ' H' p' t' rh'
  | _=>exact p.elim
 | exc x h1=>rw [e'] at p; exact p
 | bad=>rw [e'] at p; exact p
def mSl (me:Me) (ml mh:Mo):Me:=fun δ h=>(me δ h).bind fun x h1=>(ml δ h1).bind fun l h2=>(mh δ h2).bind fun u h3=>vSl x l u h3
theorem uT.bind {φ:List Addr} {H:Hp} {r:Rs (Option Int)} {f:Option Int->PH->Rs PV} {Q:VK} (h:post C φ H (r.bind f) Q):uT C φ H r fun b H1=>∃ φ1 h1,φ<+:φ1/\Kp H H1/\RH C φ1 H1 h1/\post C φ1 H1 (f b h1) Q:=by
 cases r with
 | ok a h'=>exact fun φ' H' p t rh=>⟨φ',h',p,t,rh,post.weak p t h⟩
 | exc a h'=>exact h
 | bad=>exact h
theorem uT.imp {φ:List Addr} {H:Hp} {r:Rs (Option Int)} {Q Q':Option Int->Hp->Prop} (h:uT C φ H r Q) (i:∀ v H',Q v H'->Q' v H'):uT C φ H r Q':=by
 cases r with
 | ok a h'=>exact fun φ' H' p t rh=>i a H' (h φ' H' p t rh)
 | exc a h'=>exact h
 | bad=>exact h
theorem UH {e:Expr} {lo hi:Option Expr} {me:Me} {ml mh:Mo} {p2 pos:Pos} (he:SE C k X e me) (hl:SO C k X lo ml) (hh:SO C k X hi mh):SE C k X (.Subscript e (.Slice lo hi none p2) pos) (mSl me ml mh):=fun c=>
 (M5 (UG c.K) (he c) (hl c) (hh c)).imp fun σ H Q h=>by
  obtain ⟨φ,δ,h,rh,re,p⟩:=h;refine ⟨φ,δ,h,rh,re,(post.bind p).imp ?_⟩;rintro v H1 ⟨φ1,x,h1,p1,t1,rh1,rv1,q1⟩;refine ⟨φ1,δ,h1,rh1,re.mono p1 t1,(uT.bind q1).imp ?_⟩;rintro l H2 ⟨φ2,h2,p2,t2,rh2,q2⟩;refine ⟨φ2,δ,h2,rh2,re.mono (p1.trans p2) (t1.trans t2),(uT.bind q2).imp ?_⟩;rintro u H3 ⟨φ3,h3,p3,t3,rh3,q3⟩;exact ⟨φ3,h3,x,rh3,rv1.mono (p2.trans p3) (t2.trans t3),q3⟩
abbrev Ma:=Ev->PH->Rs (List PV)
def aH:Ma:=fun _ h=>.ok [] h
def aB (m:Me) (ms:Ma):Ma:=fun δ h=>(m δ h).bind fun x h1=>(ms δ h1).bind fun xs h2=>.ok (x :: xs) h2
theorem PA.imp {es:List Expr} {t t':TA} (h:PA X es t) (i:∀ σ H Q,t' σ H Q->t σ H Q):PA X es t':=fun pos pins s σ H Q I q=>h pos pins s σ H Q I (i σ H Q q)
theorem aG:SA C k X [] aH:=fun c=>wI.imp fun σ H Q h=>by
 obtain ⟨φ,δ,h,rh,re,p⟩:=h;exact p φ [] H aw (Kp.refl H) rh trivial
theorem postA.imp {φ:List Addr} {H:Hp} {r:Rs (List PV)} {Q Q':List V->Hp->Prop} (h:postA C φ H r Q) (i:∀ v H',Q v H'->Q' v H'):postA C φ H r Q':=by
 cases r with
 | ok a h'=>exact fun φ' v H' p t rh rv=>i v H' (h φ' v H' p t rh rv)
 | exc a h'=>exact h
 | bad=>exact h
theorem aC {e:Expr} {es:List Expr} {m:Me} {ms:Ma} (he:SE C k X e m) (hs:SA C k X es ms) (hh:b8 (e :: es) X.env=(false,eval e X.env) :: b8 es X.env:=by rfl):SA C k X (e :: es) (aB m ms):=fun c=>(pH (he c) (hs c) hh).imp fun σ H Q h=>by
 obtain ⟨φ,δ,h,rh,re,p⟩:=h;refine ⟨φ,δ,h,rh,re,(post.bindA p).imp ?_⟩;rintro v H1 ⟨φ1,x,h1,p1,t1,rh1,rv1,q1⟩;refine ⟨φ1,δ,h1,rh1,re.mono p1 t1,(postA.bindA q1).imp ?_⟩;rintro vs H2 ⟨φ2,xs,h2,p2,t2,rh2,rv2,q2⟩;exact q2 φ2 (v :: vs) H2 aw (Kp.refl H2) rh2 ⟨rv1.mono p2 t2,rv2⟩
def hW (ms:Ma):Me:=fun δ h=>(ms δ h).bind fun xs h1=>if xs.length<=av then .ok (.tup xs) h1 else .bad
def iL (ms:Ma):Me:=fun δ h=>(ms δ h).bind fun xs h1=>if xs.length<=av then .ok (.ref h1.length) (h1++[.lst xs]) else .bad
theorem iC {es:List Expr} {ms:Ma} {x1} {pos:Pos} (hs:SA C k X es ms):SE C k X (.Tuple es x1 pos) (hW ms):=fun c=>(U4 (hs c)).imp fun σ H Q h=>by
 obtain ⟨φ,δ,h,rh,re,p⟩:=h;refine ⟨φ,δ,h,rh,re,(postA.bind p).imp ?_⟩;rintro vs H1 ⟨φ1,xs,h1,p1,t1,rh1,rv1,q1⟩;exact ⟨by rw [<- rv1.length]; exact q1.ite.1,fun p hp=>q1.ite.2.tnew rh1 rv1 hp⟩
theorem gK {es:List Expr} {ms:Ma} {pos:Pos} (hs:SA C k X es ms):SE C k X (.List es pos) (iL ms):=fun c=>(U5 (hs c)).imp fun σ H Q h=>by
 obtain ⟨φ,δ,h,rh,re,p⟩:=h;refine ⟨φ,δ,h,rh,re,(postA.bind p).imp ?_⟩;rintro vs H1 ⟨φ1,xs,h1,p1,t1,rh1,rv1,q1⟩;exact ⟨by rw [<- rv1.length]; exact q1.ite.1,fun p hp=>q1.ite.2.lnew rh1 rv1 hp⟩
def xP:Me:=fun _ h=>.ok (.ref h.length) (h++[.dK []])
theorem Cb {pos:Pos}:SE C k X (.Dict [] [] pos) xP:=fun c=>Md.imp fun σ H Q h=>by
 obtain ⟨φ,δ,h,rh,re,p⟩:=h;intro a ha;exact p (φ++[a]) (.ref a) _ (c5 _ _) (Kp.new ha) (rh.new ha ⟨[],bK,.nil⟩) ⟨a,rfl,by rw [<- rh.len]; simp⟩
def mCB (g:List PV->PH->Rs PV) (ms:Ma):Me:=fun δ h=>(ms δ h).bind g
theorem Tf {g:List PV->PH->Rs PV} {ms:Ma} {σ:St} {H:Hp} {Q:VK} (h:rd C (mCB g ms) σ H Q):tCB (rL C g) (rdA C ms) σ H Q:=by
 obtain ⟨φ,δ,h,rh,re,p⟩:=h;refine ⟨φ,δ,h,rh,re,(postA.bind p).imp ?_⟩;rintro vs H1 ⟨φ1,xs,h1,p1,t1,rh1,rv1,q1⟩;exact ⟨φ1,h1,xs,rh1,rv1,q1⟩
section
variable {x:Str} {p pos:Pos} {e:Expr} {es:List Expr} {ms:Ma} {id T:String} {g:List PV->PH->Rs PV}
theorem bN (hc:gJ C k X (.builtin id) g) (hv:kc x=some (.builtin id)) (ha:SA C k X (e :: es) ms) (hb:x∈C.bs:=by decide) (hg:Gl X x:=by rfl) (hn:x≠"__name__" := by decide) (hdb:(x == ("__debug__" : Str))=false:=by decide)
  (he:b8 (e :: es) X.env=(false,eval e X.env) :: b8 es X.env:=by rfl) (hpl:(backTo pos (b8 es X.env)).any (·.1)=false:=by rfl):SE C k X (.Call (.Name x p) (e :: es) [] pos) (mCB g ms):=fun c=>
 (M3 (hc c) hg (c.bn x hb) hv (ha c) hn hdb he hpl).imp fun σ H Q h=>Tf h
theorem gL (hc:gJ C k X (.type T) g) (hv:kc x=some (.type T)) (ha:SA C k X (e :: es) ms) (hb:x∈C.bs:=by decide) (hg:Gl X x:=by rfl) (hn:x≠"__name__" := by decide) (hdb:(x == ("__debug__" : Str))=false:=by decide)
  (he:b8 (e :: es) X.env=(false,eval e X.env) :: b8 es X.env:=by rfl) (hpl:(backTo pos (b8 es X.env)).any (·.1)=false:=by rfl):SE C k X (.Call (.Name x p) (e :: es) [] pos) (mCB g ms):=fun c=>
 (Jn (hc c) hg (c.bn x hb) hv (ha c) hn hdb he hpl).imp fun σ H Q h=>Tf h
def spM (C:MC) (n:Nat) (f:Fn):Sp:=fun vs H Q _=>∃ φ h ps,RH C φ H h/\RVs C φ H ps vs/\ps.length=n/\post C φ H (f ps h) Q
def aY (n:Nat) (f:Fn) (ms:Ma):Me:=fun δ h=>(ms δ h).bind fun ps h1=>if ps.length=n then f ps h1 else .bad
theorem s_call {st:Stmt} {a:Addr} {fd:cy} {ps:List Str} {j n:Nat} {f:Fn} (D:Def C.K X.mg x st a fd ps) (G:aU X.prog X.w C.K X.mg X.base CX0 j a fd ps (spM C n f)) (ha:SA C k X (e :: es) ms) (hj:j<=k:=by decide)
  (hg:Gl X x:=by rfl) (hdb:(x == ("__debug__" : Str))=false:=by decide) (he:b8 (e :: es) X.env=(false,eval e X.env) :: b8 es X.env:=by rfl) (hpl:(backTo pos (b8 es X.env)).any (·.1)=false:=by rfl):
  SE C k X (.Call (.Name x p) (e :: es) [] pos) (aY n f ms):=fun c=>by
 have e1:=c.K;have D':Def X.K X.mg x st a fd ps:=by rw [e1]; exact D
 have G':aU X.prog X.w X.K X.mg X.base CX0 j a fd ps (spM C n f):=by rw [e1]; exact G
 refine (Ws D' G' (c.room.mono hj) (ha c) hg hdb he hpl).imp fun σ H Q h=>?_;obtain ⟨φ,δ,h,rh,re,p⟩:=h;refine ⟨φ,δ,h,rh,re,(postA.bind p).imp ?_⟩;rintro vs H1 ⟨φ1,xs,h1,p1,t1,rh1,rv1,q1⟩;refine ⟨φ1,h1,xs,rh1,by rw [je]; exact rv1,q1.ite.1,q1.ite.2⟩
end
def fG:List PV->PH->Rs PV:=fun xs h=>match xs with
 | [.str y]=>if y.length<=av then .ok (.int y.length) h else .bad
 | [.tup ys]=>.ok (.int ys.length) h
 | [.fl ys]=>.ok (.int ys.length) h
 | [.ref n]=>match aN h n with
  | some ys=>.ok (.int ys.length) h
  | none=>match h[n]? with
   | some (.dK kvs)=>.ok (.int kvs.length) h
   | _=>.bad
 | _=>.bad
theorem RVs.one {φ:List Addr} {H:Hp} {x:PV} {vs:List V} (r:RVs C φ H [x] vs):∃ v,vs=[v]/\RV C φ H x v:=by
 match vs,r with
 | [v],⟨h,_⟩=>exact ⟨v,rfl,h⟩
 | [],h=>exact h.elim
 | _ :: _ :: _,⟨_,h⟩=>exact h.elim
theorem RVs.two {φ:List Addr} {H:Hp} {x y:PV} {vs:List V} (r:RVs C φ H [x,y] vs):∃ v w,vs=[v,w]/\RV C φ H x v/\RV C φ H y w:=by
 match vs,r with
 | [v,w],⟨h,h',_⟩=>exact ⟨v,w,rfl,h,h'⟩
 | [],h=>exact h.elim
 | [_],⟨_,h⟩=>exact h.elim
 | _ :: _ :: _ :: _,⟨_,_,h⟩=>exact h.elim
theorem lE:gJ C k X (.builtin "len") fG:=fun c=>(Jw C.K c.K).imp fun vs H Q h=>by
 obtain ⟨φ,h,ps,rh,rv,po⟩:=h;unfold fG at po;split at po
 ·obtain ⟨v,rfl,rx⟩:=rv.one;cases rx
  exact ⟨po.ite.1,po.ite.2.val rh rfl⟩
 ·obtain ⟨v,rfl,rx⟩:=rv.one;obtain ⟨a,vs,rfl,sa,ra⟩:=rx;exact .inl ⟨vs,.inr sa,by rw [<- ra.length]; exact po.val rh rfl⟩
 ·obtain ⟨v,rfl,rx⟩:=rv.one;obtain ⟨a,vs,rfl,sa,ra⟩:=rx;exact .inl ⟨vs,.inl sa.sq,by rw [<- ra.length]; exact po.val rh rfl⟩
 ·rename_i n;obtain ⟨v,rfl,rx⟩:=rv.one;obtain ⟨a,rfl,ha⟩:=rx;split at po
  ·rename_i ys e;obtain ⟨a2,vs,ha2,sa,ra⟩:=bM rh e;rw [ha] at ha2; cases ha2;exact .inl ⟨vs,.inl sa,by rw [<- ra.length]; exact po.val rh rfl⟩
  ·split at po
   ·rename_i kvs hk;obtain ⟨ks,hH,rk⟩:=rh.at' n a _ ha hk;refine .inr ⟨ks,hH,?_⟩;have:ks.length=kvs.length:=(ff rk).symm;rw [this];exact po.val rh rfl
   ·exact po.elim
 ·exact po.elim
def sT:List PV->PH->Rs PV:=fun xs h=>match xs with
 | [.tup ys]=>.ok (.tup ys) h
 | [.fl ys]=>.ok (.tup ys) h
 | [.ref n]=>match aN h n with
  | some ys=>.ok (.tup ys) h
  | none=>.bad
 | _=>.bad
theorem Iy:gJ C k X (.type "tuple") sT:=fun c=>(DJ C.K c.K).imp fun vs H Q h=>by
 obtain ⟨φ,h,ps,rh,rv,po⟩:=h;unfold sT at po;split at po
 ·obtain ⟨v,rfl,rx⟩:=rv.one;obtain ⟨a,vs,rfl,sa,ra⟩:=rx;exact ⟨a,vs,rfl,.inr ⟨sa,po.val rh ⟨a,vs,rfl,sa,ra⟩⟩⟩
 ·obtain ⟨v,rfl,rx⟩:=rv.one;obtain ⟨a,vs,rfl,sa,ra⟩:=rx;exact ⟨a,vs,rfl,.inl ⟨sa.sq,fun p hp=>po.tnew rh ra hp⟩⟩
 ·rename_i n;obtain ⟨v,rfl,rx⟩:=rv.one;obtain ⟨a,rfl,ha⟩:=rx;split at po
  ·rename_i ys e;obtain ⟨a2,vs,ha2,sa,ra⟩:=bM rh e;rw [ha] at ha2; cases ha2;exact ⟨a,vs,rfl,.inl ⟨sa,fun p hp=>po.tnew rh ra hp⟩⟩
  ·exact po.elim
 ·exact po.elim
def qA:List PV->PH->Rs PV:=fun xs h=>match xs with
 | [.tup ys]=>.ok (.ref h.length) (h++[.lst ys])
 | [.fl ys]=>.ok (.ref h.length) (h++[.lst ys])
 | [.ref n]=>match aN h n with
  | some ys=>.ok (.ref h.length) (h++[.lst ys])
  | none=>.bad
 | _=>.bad
theorem Cc:gJ C k X (.type "list") qA:=fun c=>(FY C.K c.K).imp fun vs H Q h=>by
 obtain ⟨φ,h,ps,rh,rv,po⟩:=h;unfold qA at po;split at po
 ·obtain ⟨v,rfl,rx⟩:=rv.one;obtain ⟨a,vs,rfl,sa,ra⟩:=rx;exact ⟨a,vs,rfl,.inr sa,fun p hp=>po.lnew rh ra hp⟩
 ·obtain ⟨v,rfl,rx⟩:=rv.one;obtain ⟨a,vs,rfl,sa,ra⟩:=rx;exact ⟨a,vs,rfl,.inl sa.sq,fun p hp=>po.lnew rh ra hp⟩
 ·rename_i n;obtain ⟨v,rfl,rx⟩:=rv.one;obtain ⟨a,rfl,ha⟩:=rx;split at po
  ·rename_i ys e;obtain ⟨a2,vs,ha2,sa,ra⟩:=bM rh e;rw [ha] at ha2; cases ha2;exact ⟨a,vs,rfl,.inl sa,fun p hp=>po.lnew rh ra hp⟩
  ·exact po.elim
 ·exact po.elim
def QM:List PV->PH->Rs PV:=fun xs h=>match xs with
 | [.int i,.int j]=>.ok (.int (if j > i then j else i)) h
 | _=>.bad
theorem WA:gJ C k X (.builtin "max") QM:=fun c=>(Jx c.calm).imp fun vs H Q h=>by
 obtain ⟨φ,h,ps,rh,rv,po⟩:=h;unfold QM at po;split at po
 ·obtain ⟨v,w,rfl,rx,ry⟩:=rv.two;cases rx; cases ry;exact po.val rh rfl
 ·exact po.elim
end L2
namespace L2
open PySem PySem.Spec PyProof.Rows
variable {C:MC} {k:Nat} {X:Cx}
def Rs.fl {α:Type} (r:Rs α) (f:α->PH->Fl):Fl:=match r with
 | .ok a h=>f a h
 | .exc x h=>.exc x h
 | .bad=>.bad
@[simp] theorem Rs.fl_ok {α:Type} (a:α) (h:PH) (f:α->PH->Fl):(Rs.ok a h).fl f=f a h:=(rfl)
@[simp] theorem Rs.fl_exc {α:Type} (x:PX) (h:PH) (f:α->PH->Fl):(Rs.exc x h:Rs α).fl f=.exc x h:=(rfl)
@[simp] theorem Rs.fl_bad {α:Type} (f:α->PH->Fl):(Rs.bad:Rs α).fl f=.bad:=(rfl)
section
variable {φ:List Addr} {H:Hp}
theorem post.fl {r:Rs PV} {f:PV->PH->Fl} {D:Ends} (h:cI C φ H (r.fl f) D):post C φ H r fun v H1=>∃ φ1 p h1,φ<+:φ1/\Kp H H1/\RH C φ1 H1 h1/\RV C φ1 H1 p v/\cI C φ1 H1 (f p h1) D:=by
 cases r with
 | ok a h'=>exact fun φ' v H' p t rh rv=>⟨φ',a,h',p,t,rh,rv,cI.weak p t h⟩
 | exc a h'=>exact h
 | bad=>exact h
theorem bY.fl {r:Rs Bool} {f:Bool->PH->Fl} {D:Ends} (h:cI C φ H (r.fl f) D):bY C φ H r fun b H1=>∃ φ1 h1,φ<+:φ1/\Kp H H1/\RH C φ1 H1 h1/\cI C φ1 H1 (f b h1) D:=by
 cases r with
 | ok a h'=>exact fun φ' H' p t rh=>⟨φ',h',p,t,rh,cI.weak p t h⟩
 | exc a h'=>exact h
 | bad=>exact h
theorem cI.nx {δ:Ev} {h:PH} {D:Ends} {σ:St} (q:cI C φ H (.nx δ h) D) (rh:RH C φ H h) (re:RE C φ H δ σ):D.nx σ H:=q φ σ H aw (Kp.refl H) rh re
theorem cI.rt {p:PV} {h:PH} {D:Ends} {v:V} (q:cI C φ H (.rt p h) D) (rh:RH C φ H h) (rv:RV C φ H p v):D.rt v H:=q φ v H aw (Kp.refl H) rh rv
end
abbrev Mg:=PV->Ev->Option Ev
abbrev Mgs:=List PV->Ev->Option Ev
def rdG (C:MC) (t:Mg):TG:=fun v σ H Q=>∃ φ δ h p δ',RH C φ H h/\RE C φ H δ σ/\RV C φ H p v/\t p δ=some δ'/\∀ σ',RE C φ H δ' σ'->Q σ' H
def Ys (C:MC) (t:Mgs):TGs:=fun vs σ H Q=>∃ φ δ h ps δ',RH C φ H h/\RE C φ H δ σ/\RVs C φ H ps vs/\t ps δ=some δ'/\∀ σ',RE C φ H δ' σ'->Q σ' H
def SG (C:MC) (k:Nat) (X:Cx) (e:Expr) (t:Mg):Prop:=Cxt C k X->PG X e (rdG C t)
def SGs (C:MC) (k:Nat) (X:Cx) (es:List Expr) (t:Mgs):Prop:=Cxt C k X->PGs X es (Ys C t)
def gN (i:Nat):Mg:=fun p δ=>some (δ.set i (some p))
def gNl:Mgs:=fun ps δ=>match ps with
 | []=>some δ
 | _ :: _=>none
def gCn (t:Mg) (u:Mgs):Mgs:=fun ps δ=>match ps with
 | p :: r=>(t p δ).bind (u r)
 | []=>none
def gTp (n:Nat) (u:Mgs):Mg:=fun p δ=>match p with
 | .tup ps=>if ps.length=n then u ps δ else none
 | _=>none
theorem PG.imp {e:Expr} {t t':TG} (h:PG X e t) (i:∀ v σ H Q,t' v σ H Q->t v σ H Q):PG X e t':=fun pins s σ H v u Q I r q=>h pins s σ H v u Q I r (i v σ H Q q)
theorem PGs.imp {es:List Expr} {t t':TGs} (h:PGs X es t) (i:∀ v σ H Q,t' v σ H Q->t v σ H Q):PGs X es t':=fun pins s σ H v u Q I r q=>h pins s σ H v u Q I r (i v σ H Q q)
theorem aO {i:Nat} {x:Str} {pos:Pos} (hN:X.N.Nodup) (hi:X.N[i]?=some x:=by rfl) (hx:Loc X.env.scope x:=by first | exact Or.inl rfl | exact Or.inr rfl) (hf:X.fn x=true\/X.env.scope.names.lookup x=some .local:=by first | exact .inl rfl | exact .inr rfl):SG C k X (.Name x pos) (gN i):=fun c=>
 (Qe hN hi hx hf).imp fun v σ H Q h=>by
  obtain ⟨φ,δ,h,p,δ',rh,re,rv,e,q⟩:=h;cases e
  exact q _ (re.set rv i)
theorem qB:SGs C k X [] gNl:=fun c=>Qf.imp fun v σ H Q h=>by
 obtain ⟨φ,δ,h,ps,δ',rh,re,rv,e,q⟩:=h;cases ps with
 | nil=>
  cases e
  cases v with
  | nil=>exact ⟨rfl,q σ re⟩
  | cons=>exact rv.elim
 | cons=>cases e
theorem cM {e:Expr} {es:List Expr} {t:Mg} {u:Mgs} (h1:SG C k X e t) (h2:SGs C k X es u) (hs:(jk (e :: es) X.env).map (·.2)=assign e X.env :: (jk es X.env).map (·.2):=by rfl):SGs C k X (e :: es) (gCn t u):=fun c=>
 (LQ (h1 c) (h2 c) hs).imp fun vs σ H Q h=>by
  obtain ⟨φ,δ,h,ps,δ',rh,re,rv,e,q⟩:=h;cases ps with
  | nil=>cases e
  | cons p r=>
   cases vs with
   | nil=>exact rv.elim
   | cons v vs=>
    obtain ⟨δ1,e1,e2⟩:=Option.bind_eq_some_iff.mp (show (t p δ).bind (u r)=some δ' from e)
    exact ⟨v,vs,rfl,φ,δ,h,p,δ1,rh,re,rv.1,e1,fun σ' re'=>⟨φ,δ1,h,r,δ',rh,re',rv.2,e2,q⟩⟩
theorem qC {es:List Expr} {j:Nat} {u:Mgs} {n:Nat} {pos:Pos} (h:SGs C k X es u) (hn:(jk es X.env).length=n:=by rfl) (hst:(jk es X.env).findIdx? (·.1)=none:=by rfl):SG C k X (.Tuple es j pos) (gTp n u):=fun c=>
 (gT C.K c.K c.calm (h c) hn hst).imp fun v σ H Q h=>by
  obtain ⟨φ,δ,h,p,δ',rh,re,rv,e,q⟩:=h;cases p with
  | tup ps=>
   obtain ⟨a,vs,rfl,sa,ra⟩:=rv
   by_cases hl:ps.length=n
   ·have e':u ps δ=some δ':=by
     have:(if ps.length=n then u ps δ else none)=some δ':=e;rw [if_pos hl] at this;exact this
    exact ⟨a,vs,rfl,sa,by rw [<- ra.length]; exact hl,φ,δ,h,ps,δ',rh,re,ra,e',q⟩
   ·have:(if ps.length=n then u ps δ else none)=some δ':=e;rw [if_neg hl] at this;cases this
  | _=>cases e
theorem PS.imp {st:Stmt} {t t':TS} (h:PS X st t) (i:∀ D σ H,t' D σ H->t D σ H):PS X st t':=fun pins s σ H D I q=>h pins s σ H D I (i D σ H q)
theorem PSs.imp {st:List Stmt} {t t':TS} (h:PSs X st t) (i:∀ D σ H,t' D σ H->t D σ H):PSs X st t':=fun pins s σ H D I q=>h pins s σ H D I (i D σ H q)
def aV (a b:Ms):Ms:=fun δ h=>match a δ h with
 | .nx δ1 h1=>b δ1 h1
 | r=>r
def kO:Ms:=fun δ h=>.nx δ h
def Yt:Ms:=fun δ h=>.bk δ h
def UI:Ms:=fun δ h=>.ct δ h
def bG (i:Nat) (m:Me):Ms:=fun δ h=>(m δ h).fl fun p h1=>.nx (δ.set i (some p)) h1
def DZ (m:Me) (t:Mg):Ms:=fun δ h=>(m δ h).fl fun p h1=>match t p δ with
 | some δ'=>.nx δ' h1
 | none=>.bad
def Af (m:Me):Ms:=fun δ h=>(m δ h).fl fun _ h1=>.nx δ h1
def cD (m:Me):Ms:=fun δ h=>(m δ h).fl fun p h1=>.rt p h1
def WB:Ms:=fun _ h=>.rt .non h
def iM (t:Ev->PH->Rs Bool) (a b:Ms):Ms:=fun δ h=>(t δ h).fl fun c h1=>match c with
 | true=>a δ h1
 | false=>b δ h1
section
variable {st:Stmt} {rest:List Stmt} {a b:Ms} {e:Expr} {m:Me} {pos:Pos}
theorem dH:SSs C k X [] kO:=fun c=>Qb.imp fun D σ H h=>by
 obtain ⟨φ,δ,h,rh,re,p⟩:=h;exact p.nx rh re
theorem UJ {φ:List Addr} {H:Hp} {r:Fl} {b:Ms} {D:Ends} (h:cI C φ H (match r with | .nx δ1 h1=>b δ1 h1 | r=>r) D):cI C φ H r { D with nx:=rdS C b D }:=by
 cases r with
 | nx δ h'=>exact fun φ' σ H' p t rh re=>⟨φ',δ,h',rh,re,cI.weak p t h⟩
 | rt p h'=>exact h
 | bk δ h'=>exact h
 | ct δ h'=>exact h
 | exc x h'=>exact h
 | bad=>exact h
theorem aF (h1:SSt C k X st a) (h2:SSs C k X rest b):SSs C k X (st :: rest) (aV a b):=fun c=>(LO (h1 c) (h2 c)).imp fun D σ H h=>by
 obtain ⟨φ,δ,h,rh,re,p⟩:=h;exact ⟨φ,δ,h,rh,re,UJ p⟩
theorem aK (h1:SSt C k X st a):SSs C k X [st] a:=fun c=>Qc (h1 c)
theorem WC:SSt C k X (.Continue pos) UI:=fun c=>Dy.imp fun D σ H h=>by
 obtain ⟨φ,δ,h,rh,re,p⟩:=h;exact p φ σ H aw (Kp.refl H) rh re
theorem bB {i:Nat} {x:Str} {pos':Pos} (hN:X.N.Nodup) (he:SE C k X e m) (hi:X.N[i]?=some x:=by rfl) (hx:Loc X.env.scope x:=by first | exact Or.inl rfl | exact Or.inr rfl) (hs:swapsWith e (some (.Name x pos')) pos.line X.env=pure false:=by rfl)
  (hf:X.fn x=true\/X.env.scope.names.lookup x=some .local:=by first | exact .inl rfl | exact .inr rfl):SSt C k X (.Assign [.Name x pos'] e pos) (bG i m):=fun c=>(TN hN hi hx (he c) hs hf).imp fun D σ H h=>by
 obtain ⟨φ,δ,h,rh,re,p⟩:=h;refine ⟨φ,δ,h,rh,re,(post.fl p).imp ?_⟩;rintro v H1 ⟨φ1,x,h1,p1,t1,rh1,rv1,q1⟩;exact q1.nx rh1 ((re.mono p1 t1).set rv1 i)
theorem Iz {tg:Expr} {t:Mg} (he:SE C k X e m) (hg:SG C k X tg t) (hs:swapsWithSole [tg] e pos.line X.env=pure false:=by rfl) (hw:swappedStores [tg] e X.env=pure none:=by rfl)
  (h1:(jk [tg] X.env).map (·.2)=[assign tg X.env]:=by rfl):SSt C k X (.Assign [tg] e pos) (DZ m t):=fun c=>(TM (he c) (hg c) hs hw h1).imp fun D σ H h=>by
 obtain ⟨φ,δ,h,rh,re,p⟩:=h;refine ⟨φ,δ,h,rh,re,(post.fl p).imp ?_⟩;rintro v H1 ⟨φ1,x,h1,p1,t1,rh1,rv1,q1⟩;cases et:t x δ with
 | none=>rw [et] at q1; exact q1.elim
 | some δ'=>
  rw [et] at q1;exact ⟨φ1,δ,h1,x,δ',rh1,re.mono p1 t1,rv1,et,fun σ' re'=>q1.nx rh1 re'⟩
theorem B0 (he:SE C k X e m) (hs:swapsWith e none pos.line X.env=pure false:=by rfl):SSt C k X (.Expr e pos) (Af m):=fun c=>(Qd (he c) hs).imp fun D σ H h=>by
 obtain ⟨φ,δ,h,rh,re,p⟩:=h;refine ⟨φ,δ,h,rh,re,(post.fl p).imp ?_⟩;rintro v H1 ⟨φ1,x,h1,p1,t1,rh1,rv1,q1⟩;exact q1.nx rh1 (re.mono p1 t1)
theorem bP (he:SE C k X e m):SSt C k X (.Return (some e) pos) (cD m):=fun c=>(TJ (he c)).imp fun D σ H h=>by
 obtain ⟨φ,δ,h,rh,re,p⟩:=h;refine ⟨φ,δ,h,rh,re,(post.fl p).imp ?_⟩;rintro v H1 ⟨φ1,x,h1,p1,t1,rh1,rv1,q1⟩;exact q1.rt rh1 rv1
theorem lF {cnd:Expr} {as bs:List Stmt} {t:Ev->PH->Rs Bool} (hc:ST C k X cnd t) (ha:SSs C k X as a) (hb:SSs C k X bs b):SSt C k X (.If cnd as bs pos) (iM t a b):=fun c=>(VX (hc c) (ha c) (hb c)).imp fun D σ H h=>by
 obtain ⟨φ,δ,h,rh,re,p⟩:=h;refine ⟨φ,δ,h,rh,re,(bY.fl p).imp ?_⟩;rintro d H1 ⟨φ1,h1,p1,t1,rh1,q1⟩;cases d with
 | true=>exact DE ⟨φ1,δ,h1,rh1,re.mono p1 t1,q1⟩
 | false=>exact DD ⟨φ1,δ,h1,rh1,re.mono p1 t1,q1⟩
end
structure Wk where
 xs:List PV
 g:PH->Bool
def JL (C:MC) (J:It) (w:Wk) (φ0:List Addr) (H0:Hp):Prop:=∀ φ H h,φ0<+:φ->Kp H0 H->RH C φ H h->w.g h=true->∀ i:Nat,
 (i < w.xs.length->J.go i H/\∀ x H',J.yld i H x H'->(∃ p,w.xs[i]?=some p/\RV C φ H' p x)/\Kp H H'/\RH C φ H' h)/\(w.xs.length<=i->J.stop i H)
abbrev Mi:=Ev->PH->Rs Wk
def fL (C:MC) (φ:List Addr) (H:Hp) (r:Rs Wk) (R:It->Hp->Prop):Prop:=match r with
 | .ok w h=>∀ φ' H' J,φ<+:φ'->Kp H H'->RH C φ' H' h->JL C J w φ' H'->R J H'
 | .exc x h=>∀ φ' H',φ<+:φ'->Kp H H'->RH C φ' H' h->C.ex φ' H' x
 | .bad=>False
def rdI (C:MC) (m:Mi):TI:=fun σ H R=>∃ φ δ h,RH C φ H h/\RE C φ H δ σ/\fL C φ H (m δ h) R
def SI (C:MC) (k:Nat) (X:Cx) (tg iter:Expr) (m:Mi):Prop:=Cxt C k X->PI X tg iter (rdI C m)
def nE (n:Nat) (xs:List PV) (h':PH):Bool:=match aN h' n with
 | some ys=>PV.beqs ys xs
 | none=>false
def ofSeq (x:PV) (h:PH):Rs Wk:=match x with
 | .tup xs=>.ok ⟨xs,fun _=>true⟩ h
 | .ref n=>match aN h n with
  | some xs=>.ok ⟨xs,nE n xs⟩ h
  | none=>.bad
 | .fl xs=>.ok ⟨xs,fun _=>true⟩ h
 | _=>.bad
def bH (m:Me):Mi:=fun δ h=>(m δ h).bind ofSeq
theorem cE {tg iter:Expr} {m:Me} (h:SE C k X iter m):SI C k X tg iter (bH m):=fun c=>by
 intro pins s σ H R I q;obtain ⟨φ,δ,hh,rh,re,p⟩:=q;have key:rd C m σ H fun v H1=>∃ φ1 x h1,φ<+:φ1/\Kp H H1/\RH C φ1 H1 h1/\RV C φ1 H1 x v/\fL C φ1 H1 (ofSeq x h1) R:=by
  refine ⟨φ,δ,hh,rh,re,?_⟩;unfold bH at p;cases e:m δ hh with
  | ok x h1=>
   rw [e] at p;intro φ' v H' p' t' rh' rv';refine ⟨φ',x,h1,p',t',rh',rv',?_⟩
   show fL C φ' H' (ofSeq x h1) R
   have p0:fL C φ H (ofSeq x h1) R:=p;cases e2:ofSeq x h1 with
   | ok w h2=>rw [e2] at p0; exact fun φ2 H2 J p2 t2=>p0 φ2 H2 J (p'.trans p2) (t'.trans t2)
   | exc z h2=>rw [e2] at p0; exact fun φ2 H2 p2 t2=>p0 φ2 H2 (p'.trans p2) (t'.trans t2)
   | bad=>rw [e2] at p0; exact p0
  | exc x h1=>rw [e] at p; exact p
  | bad=>rw [e] at p; exact p
 refine thn (h c pins s σ H _ I key) fun v s1 hz=>?_;obtain ⟨x,H1,I1,r1,φ1,x',h1,p1,t1,rh1,rv1,q1⟩:=hz;unfold ofSeq at q1;cases x' with
 | tup xs=>
  obtain ⟨a,vs,rfl,sa,ra⟩:=rv1;cases r1
  rw [<- c.K] at sa;obtain ⟨its,rv,p,hz⟩:=I1.tuple sa;refine wpAny_pyIter_tuple (show s1.heap.IsTuple a its.toArray from p) ?_
  refine ⟨s1.heap.objs.size,[s1.heap.objs.size],_,_,H1,rfl,I1.kept (t':=s1.toks) fun b o e=>ah _ e,FJ a _,⟨_,ay _ rfl,rfl,rfl⟩,fun b hb=>?_,?_⟩
  ·have e:b=s1.heap.objs.size:=by simpa using hb
   subst e;exact I1.fpOk (ao _) (I1.hok.fresh (ao _))
  ·refine q1 φ1 H1 (Itt X.K a) aw (Kp.refl H1) rh1 fun φ2 H2 h2 p2 t2 rh2 _ i=>⟨fun hi=>?_,fun hi=>⟨vs,t2.sq sa,by rw [<- ra.length]; exact hi⟩⟩;have hi':i < vs.length:=by rw [<- ra.length]; exact hi
   refine ⟨⟨vs,vs[i],t2.sq sa,by simp [hi']⟩,fun x H' y=>?_⟩;obtain ⟨e,y⟩:=y;subst e;obtain ⟨x2,e2,r2⟩:=ra.get (y vs (t2.sq sa));exact ⟨⟨x2,e2,r2.mono p2 t2⟩,Kp.refl _,rh2⟩
 | ref n=>
  obtain ⟨a,rfl,ha⟩:=rv1;cases r1
  dsimp only at q1;cases e:aN h1 n with
  | none=>rw [e] at q1; exact q1.elim
  | some xs=>
   rw [e] at q1;obtain ⟨a2,vs,ha2,sa,ra⟩:=bM rh1 e;rw [ha] at ha2; cases ha2;have sa':SqL X.K H1 a vs:=by rw [c.K]; exact sa
   obtain ⟨its,rv,p,hz⟩:=I1.list sa';refine my p.isList ?_;refine ⟨s1.heap.objs.size,[s1.heap.objs.size],_,_,H1,rfl,I1.kept (t':=s1.toks) fun b o e=>ah _ e,AD a _,⟨_,ay _ rfl,rfl,rfl⟩,fun b hb=>?_,?_⟩
   ·have e:b=s1.heap.objs.size:=by simpa using hb
    subst e;exact I1.fpOk (ao _) (I1.hok.fresh (ao _))
   ·refine q1 φ1 H1 (Itl X.K a) aw (Kp.refl H1) rh1 fun φ2 H2 h2 p2 t2 rh2 hg i=>?_;have hg:(match aN h2 n with | some ys=>PV.beqs ys xs | none=>false)=true:=hg
    cases e2:aN h2 n with
    | none=>rw [e2] at hg; cases hg
    | some ys=>
     rw [e2] at hg;have hxy:=PV.beqs_eq hg;subst hxy;obtain ⟨a3,us,ha3,su,ru⟩:=bM rh2 e2;rw [iB p2 ha] at ha3; cases ha3;rw [<- c.K] at su;refine ⟨fun hi=>?_,fun hi=>⟨us,su,by rw [<- ru.length]; exact hi⟩⟩;have hi':i < us.length:=by rw [<- ru.length]; exact hi
     refine ⟨⟨us,us[i],su,by simp [hi']⟩,fun x H' y=>?_⟩;obtain ⟨e,y⟩:=y;subst e;obtain ⟨x2,e2,r2⟩:=ru.get (y us su);exact ⟨⟨x2,e2,r2⟩,Kp.refl _,rh2⟩
 | fl xs=>
  obtain ⟨a,vs,rfl,sa,ra⟩:=rv1;cases r1
  rw [<- c.K] at sa;obtain ⟨its,rv,p,hz⟩:=I1.list sa.sq;refine my p.isList ?_;refine ⟨s1.heap.objs.size,[s1.heap.objs.size],_,_,H1,rfl,I1.kept (t':=s1.toks) fun b o e=>ah _ e,AD a _,⟨_,ay _ rfl,rfl,rfl⟩,fun b hb=>?_,?_⟩
  ·have e:b=s1.heap.objs.size:=by simpa using hb
   subst e;exact I1.fpOk (ao _) (I1.hok.fresh (ao _))
  ·refine q1 φ1 H1 (Itl X.K a) aw (Kp.refl H1) rh1 fun φ2 H2 h2 p2 t2 rh2 _ i=>⟨fun hi=>?_,fun hi=>⟨vs,(t2.sf sa).sq,by rw [<- ra.length]; exact hi⟩⟩;have hi':i < vs.length:=by rw [<- ra.length]; exact hi
   refine ⟨⟨vs,vs[i],(t2.sf sa).sq,by simp [hi']⟩,fun x H' y=>?_⟩;obtain ⟨e,y⟩:=y;subst e;obtain ⟨x2,e2,r2⟩:=ra.get (y vs (t2.sf sa).sq);exact ⟨⟨x2,e2,r2.mono p2 t2⟩,Kp.refl _,rh2⟩
 | _=>exact q1.elim
def upTo (lo:Int):Nat->List PV
 | 0=>[]
 | n+1=>.int lo :: upTo (lo+1) n
theorem eZ:∀ (n:Nat) (lo:Int),(upTo lo n).length=n
 | 0,_=>rfl
 | n+1,lo=>by simp [upTo,eZ n]
theorem xQ:∀ (n:Nat) (lo:Int) (i:Nat),i < n->(upTo lo n)[i]?=some (.int (lo+i))
 | 0,_,_,h=>by omega
 | n+1,lo,0,_=>by simp [upTo]
 | n+1,lo,i+1,h=>by
  simp only [upTo,gq];rw [xQ n (lo+1) i (by omega)]
  congr 2
  omega
open Classical in
noncomputable def IA:List PV->PH->Rs Wk:=fun xs h=>match xs with
 | [.int j]=>if -(2 ^ 62)<=j/\j < 2 ^ 62 then .ok ⟨upTo 0 j.toNat,fun _=>true⟩ h else .bad
 | _=>.bad
noncomputable def iD (ms:Ma):Mi:=fun δ h=>(ms δ h).bind IA
theorem UK (lo:Int) (n:Nat) (φ:List Addr) (H:Hp):JL C (Itr lo n) ⟨upTo lo n,fun _=>true⟩ φ H:=fun φ2 H2 h2 p2 t2 rh2 _ i=>by
 refine ⟨fun hi=>?_,fun hi=>?_⟩
 ·have hi':i < n:=by rw [<- eZ n lo]; exact hi
  refine ⟨hi',fun x H' y=>?_⟩;obtain ⟨e,y⟩:=y;subst e y;exact ⟨⟨.int (lo+i),xQ n lo i hi',rfl⟩,Kp.refl _,rh2⟩
 ·have:(upTo lo n).length<=i:=hi;rw [eZ] at this;exact this
theorem postA.bindI {φ:List Addr} {H:Hp} {r:Rs (List PV)} {f:List PV->PH->Rs Wk} {R:It->Hp->Prop} (h:fL C φ H (r.bind f) R):postA C φ H r fun vs H1=>∃ φ1 ps h1,φ<+:φ1/\Kp H H1/\RH C φ1 H1 h1/\RVs C φ1 H1 ps vs/\fL C φ1 H1 (f ps h1) R:=by
 cases r with
 | ok a h'=>
  intro φ' v H' p' t' rh rv;refine ⟨φ',a,h',p',t',rh,rv,?_⟩;have p0:fL C φ H (f a h') R:=h;cases e2:f a h' with
  | ok w h2=>rw [e2] at p0; exact fun φ2 H2 J p2 t2=>p0 φ2 H2 J (p'.trans p2) (t'.trans t2)
  | exc z h2=>rw [e2] at p0; exact fun φ2 H2 p2 t2=>p0 φ2 H2 (p'.trans p2) (t'.trans t2)
  | bad=>rw [e2] at p0; exact p0
 | exc a h'=>exact h
 | bad=>exact h
theorem PI.imp {tg iter:Expr} {t t':TI} (h:PI X tg iter t) (i:∀ σ H R,t' σ H R->t σ H R):PI X tg iter t':=fun pins s σ H R I q=>h pins s σ H R I (i σ H R q)
theorem xR {x:Expr} {ms:Ma} {tg:Expr} {p pos:Pos} (ha:SA C k X [x] ms) (hb:("range" : Str)∈C.bs:=by decide) (hg:Gl X "range" := by rfl) (hs:b8 [x] X.env=[(false,eval x X.env)]:=by rfl):SI C k X tg (.Call (.Name "range" p) [x] [] pos) (iD ms):=fun c=>
 (pr1 hg (c.bn _ hb) (ha c) hs).imp fun σ H R h=>by
  obtain ⟨φ,δ,h,rh,re,p⟩:=h;refine ⟨φ,δ,h,rh,re,(postA.bindI p).imp ?_⟩;rintro vs H1 ⟨φ1,xs,h1,p1,t1,rh1,rv1,q1⟩;unfold IA at q1;split at q1
  ·obtain ⟨v,rfl,rx⟩:=rv1.one;cases rx
   rename_i j
   by_cases hj:-(2 ^ 62)<=j/\j < 2 ^ 62
   ·rw [if_pos hj] at q1;exact ⟨hj,q1 φ1 H1 _ aw (Kp.refl _) rh1 (UK 0 j.toNat φ1 H1)⟩
   ·rw [if_neg hj] at q1; exact q1.elim
  ·exact q1.elim
def gM (g:PH->Bool) (tg:Mg) (body:Ms):List PV->Ev->PH->Fl
 | [],δ,h=>if g h=true then .nx δ h else .bad
 | x :: xs,δ,h=>if g h=true then (match tg x δ with
  | none=>.bad
  | some δ1=>match body δ1 h with
   | .nx δ2 h2=>gM g tg body xs δ2 h2
   | .ct δ2 h2=>gM g tg body xs δ2 h2
   | .bk δ2 h2=>.nx δ2 h2
   | r=>r) else .bad
def kQ (mi:Mi) (tg:Mg) (body:Ms):Ms:=fun δ h=>(mi δ h).fl fun w h1=>gM w.g tg body w.xs δ h1
theorem fL.fl {φ:List Addr} {H:Hp} {r:Rs Wk} {f:Wk->PH->Fl} {D:Ends} (h:cI C φ H (r.fl f) D):fL C φ H r fun J H1=>∃ φ1 w h1,φ<+:φ1/\Kp H H1/\RH C φ1 H1 h1/\JL C J w φ1 H1/\cI C φ1 H1 (f w h1) D:=by
 cases r with
 | ok a h'=>exact fun φ' H' J p t rh wk=>⟨φ',a,h',p,t,rh,wk,cI.weak p t h⟩
 | exc a h'=>exact h
 | bad=>exact h
theorem fL.imp {φ:List Addr} {H:Hp} {r:Rs Wk} {Q Q':It->Hp->Prop} (h:fL C φ H r Q) (i:∀ v H',Q v H'->Q' v H'):fL C φ H r Q':=by
 cases r with
 | ok a h'=>exact fun φ' H' J p t rh wk=>i J H' (h φ' H' J p t rh wk)
 | exc a h'=>exact h
 | bad=>exact h
theorem drop_cons {α:Type} {xs:List α} {i:Nat} {p:α} (h:xs[i]?=some p):xs.drop i=p :: xs.drop (i+1):=by
 obtain ⟨h1,h2⟩:=ab.mp h;rw [j4 h1,h2]
theorem QN {J:It} {w:Wk} {φ0:List Addr} {H0:Hp} {tg:Mg} {body:Ms} {D:Ends} {σ:St} {δ:Ev} {h:PH} (wk:JL C J w φ0 H0) (rh:RH C φ0 H0 h) (re:RE C φ0 H0 δ σ) (p:cI C φ0 H0 (gM w.g tg body w.xs δ h) D):
  ∃ W:Nat->Nat->St->Hp->Prop,(∃ m,W 0 m σ H0)/\∀ i m σ H,W i m σ H->
   (J.stop i H/\D.nx σ H)\/(J.go i H/\∃ N:St->Hp->Prop,(∀ σ' H',N σ' H'->∃ m',m' < m/\W (i+1) m' σ' H')/\∀ x H',J.yld i H x H'->rdG C tg x σ H' fun σ2 H2=>rdS C body { D with nx:=N,ct:=N,bk:=D.nx } σ2 H2):=by
 refine ⟨fun i m σ H=>m=w.xs.length - i/\i<=w.xs.length/\∃ φ δ h,φ0<+:φ/\Kp H0 H/\RH C φ H h/\RE C φ H δ σ/\cI C φ H (gM w.g tg body (w.xs.drop i) δ h) D,
  ⟨w.xs.length,by simp,cg _,φ0,δ,h,aw,Kp.refl _,rh,re,by rw [List.drop_zero]; exact p⟩,?_⟩
 rintro i m σ H ⟨rfl,hi,φ,δ,h,pp,tt,rh,re,p⟩
 by_cases hlt:i < w.xs.length
 ·have hd:w.xs.drop i=w.xs[i] :: w.xs.drop (i+1):=drop_cons (by simp [hlt]);rw [hd] at p;unfold gM at p
  by_cases hg:w.g h=true
  ·rw [if_pos hg] at p;obtain ⟨go,step⟩:=(wk φ H h pp tt rh hg i).1 hlt;refine .inr ⟨go,fun σ' H'=>∃ φ δ h,φ0<+:φ/\Kp H0 H'/\RH C φ H' h/\RE C φ H' δ σ'/\cI C φ H' (gM w.g tg body (w.xs.drop (i+1)) δ h) D,fun σ' H' ⟨φ',δ',h',q⟩=>⟨w.xs.length - (i+1),by omega,rfl,hlt,φ',δ',h',q⟩,fun x H' y=>?_⟩;obtain ⟨⟨q,eq,rv⟩,t1,rh1⟩:=step x H' y;have eq':w.xs[i]=q:=by
    have:w.xs[i]?=some w.xs[i]:=by simp [hlt]
    rw [this] at eq;exact bg eq
   rw [eq'] at p;cases et:tg q δ with
   | none=>rw [et] at p; exact p.elim
   | some δ1=>
    rw [et] at p;dsimp only at p;refine ⟨φ,δ,h,q,δ1,rh1,re.mono aw t1,rv,et,fun σ2 re2=>⟨φ,δ1,h,rh1,re2,?_⟩⟩;have p:=cI.weak aw t1 p;cases eb:body δ1 h with
    | nx δ2 h2=>rw [eb] at p; exact fun φ3 σ3 H3 p3 t3 rh3 re3=>⟨φ3,δ2,h2,pp.trans p3,(tt.trans t1).trans t3,rh3,re3,cI.weak p3 t3 p⟩
    | ct δ2 h2=>rw [eb] at p; exact fun φ3 σ3 H3 p3 t3 rh3 re3=>⟨φ3,δ2,h2,pp.trans p3,(tt.trans t1).trans t3,rh3,re3,cI.weak p3 t3 p⟩
    | bk δ2 h2=>rw [eb] at p; exact p
    | rt z h2=>rw [eb] at p; exact p
    | exc z h2=>rw [eb] at p; exact p
    | bad=>rw [eb] at p; exact p
  ·rw [if_neg hg] at p;exact p.elim
 ·have e:i=w.xs.length:=by omega
  subst e;rw [nj] at p;unfold gM at p
  by_cases hg:w.g h=true
  ·rw [if_pos hg] at p;exact .inl ⟨(wk φ H h pp tt rh hg _).2 (ao _),p.nx rh re⟩
  ·rw [if_neg hg] at p;exact p.elim
theorem nK {tg iter:Expr} {body:List Stmt} {mi:Mi} {t:Mg} {mb:Ms} {pos:Pos} (hi:SI C k X tg iter mi) (hg:SG C k X tg t) (hb:SSs C k X body mb) (hp:PassesOwn (model X.prog X.w) X.A X.env X.xe:=by exact PassesOwn.never)
  (hs:∀ x,i8 iter X.env x=pure x:=by intro _; rfl):SSt C k X (.For tg iter body [] pos) (kQ mi t mb):=fun c=>(TQ hp c.calm (hi c) (hg c) (hb c) hs).imp fun D σ H h=>by
 obtain ⟨φ,δ,h,rh,re,p⟩:=h;refine ⟨φ,δ,h,rh,re,(fL.fl p).imp ?_⟩;rintro J H1 ⟨φ1,w,h1,p1,t1,rh1,wk,q1⟩;exact QN wk rh1 (re.mono p1 t1) q1
end L2
namespace L2
open PySem PySem.Spec PyProof.Rows
variable {C:MC} {k:Nat} {X:Cx}
def bW (js:List (Option Nat)) (δ:Ev):Ev:=js.map fun o=>match o with
 | none=>none
 | some j=>C8 δ j
theorem IB:∀ {σ:St} {i:Nat} {v:V},σ[i]?=some (some v)->FW σ i=some v
 | [],_,_,h=>by simp at h
 | x :: _,0,v,h=>by
  have:x=some v:=by simpa using h
  exact this
 | _ :: r,n+1,v,h=>IB (σ:=r) (i:=n) (by simpa using h)
theorem RE.cap {φ:List Addr} {H:Hp} {δ:Ev} {σ:St} (re:RE C φ H δ σ) (js:List (Option Nat)):RE C φ H (bW js δ) (jL js σ):=by
 refine ⟨by simp [bW,jL],fun i p e=>?_⟩;unfold bW at e;unfold jL;rw [aq] at e ⊢;cases q:js[i]? with
 | none=>rw [q] at e; cases e
 | some o=>
  rw [q] at e;cases o with
  | none=>cases e
  | some j=>
   obtain ⟨v,hv,rv⟩:=re.2 j p (xI (bg e));exact ⟨v,by show some (FW σ j)=_; rw [IB hv],rv⟩
def kC (g:PH->Bool) (tg:Mg) (tst:Ev->PH->Rs Bool) (elt:Me) (δ0:Ev) (n:Nat):List PV->PH->Rs PV
 | [],h=>if g h=true then .ok (.ref n) h else .bad
 | x :: xs,h=>if g h=true then (match tg x δ0 with
  | none=>.bad
  | some δ1=>(tst δ1 h).bind fun b h1=>match b with
   | false=>kC g tg tst elt δ0 n xs h1
   | true=>(elt δ1 h1).bind fun p h2=>match dB h2 n with
    | some ys=>if ys.length < av then kC g tg tst elt δ0 n xs (h2.set n (.lst (ys++[p]))) else .bad
    | none=>.bad) else .bad
def bF (js:List (Option Nat)) (mi:Mi) (tg:Mg) (tst:Ev->PH->Rs Bool) (elt:Me):Me:=fun δ h=>(mi δ h).bind fun w h1=>kC w.g tg tst elt (bW js δ) h1.length w.xs (h1++[.lst []])
def dS:Ev->PH->Rs Bool:=fun _ h=>.ok true h
def STs (C:MC) (k:Nat) (X:Cx) (es:List Expr) (m:Ev->PH->Rs Bool):Prop:=Cxt C k X->PTs X es (rdB C m)
theorem fH:STs C k X [] dS:=fun c pins s σ H Q I h=>by
 obtain ⟨φ,δ,h,rh,re,p⟩:=h;exact Qt pins s σ H Q I (p.val rh)
theorem fJ {e:Expr} {m:Ev->PH->Rs Bool} (h:ST C k X e m):STs C k X [e] m:=fun c=>Qu (h c)
theorem fL.bind {φ:List Addr} {H:Hp} {r:Rs Wk} {f:Wk->PH->Rs PV} {Q:VK} (h:post C φ H (r.bind f) Q):fL C φ H r fun J H1=>∃ φ1 w h1,φ<+:φ1/\Kp H H1/\RH C φ1 H1 h1/\JL C J w φ1 H1/\post C φ1 H1 (f w h1) Q:=by
 cases r with
 | ok a h'=>exact fun φ' H' J p t rh wk=>⟨φ',a,h',p,t,rh,wk,post.weak p t h⟩
 | exc a h'=>exact h
 | bad=>exact h
theorem MP {J:It} {w:Wk} {φ0:List Addr} {H0:Hp} {tg:Mg} {tst:Ev->PH->Rs Bool} {elt:Me} {Q:VK} {σ:St} {δ:Ev} {h:PH} {js:List (Option Nat)} (wk:JL C J w φ0 H0) (rh:RH C φ0 H0 h) (re:RE C φ0 H0 δ σ)
  (p:post C φ0 H0 (kC w.g tg tst elt (bW js δ) h.length w.xs (h++[.lst []])) Q) (acc:Addr) (hacc:H0 acc=none):
  ∃ W:Nat->Nat->Hp->Prop,(∃ m,W 0 m (upd H0 acc (.lst [])))/\∀ i m H2,W i m H2->
   (J.stop i H2/\Q (.ref acc) H2)\/(J.go i H2/\∃ N:Hp->Prop,(∀ H',N H'->∃ m',m' < m/\W (i+1) m' H')/\∀ x H3,J.yld i H2 x H3->T' js (rdG C tg) (rdB C tst) (rd C elt) σ acc x H3 N):=by
 have hlen:(φ0++[acc])[h.length]?=some acc:=by rw [<- rh.len]; simp
 refine ⟨fun i m H=>m=w.xs.length - i/\i<=w.xs.length/\∃ φ h',(φ0++[acc])<+:φ/\Kp H0 H/\RH C φ H h'/\post C φ H (kC w.g tg tst elt (bW js δ) h.length (w.xs.drop i) h') Q,
  ⟨w.xs.length,by simp,cg _,φ0++[acc],h++[.lst []],aw,Kp.new hacc,rh.new (o:=.lst []) hacc ⟨[],bK,trivial⟩,by rw [List.drop_zero]; exact post.weak (c5 _ _) (Kp.new hacc) p⟩,?_⟩
 rintro i m H ⟨rfl,hi,φ,h',pp,tt,rh',p⟩;have pp0:φ0<+:φ:=(c5 _ _).trans pp
 by_cases hlt:i < w.xs.length
 ·have hd:w.xs.drop i=w.xs[i] :: w.xs.drop (i+1):=drop_cons (by simp [hlt]);rw [hd] at p;unfold kC at p
  by_cases hg:w.g h'=true
  ·rw [if_pos hg] at p;obtain ⟨go,step⟩:=(wk φ H h' pp0 tt rh' hg i).1 hlt;refine .inr ⟨go,fun H'=>∃ φ h',(φ0++[acc])<+:φ/\Kp H0 H'/\RH C φ H' h'/\post C φ H' (kC w.g tg tst elt (bW js δ) h.length (w.xs.drop (i+1)) h') Q,fun H' ⟨φ',h',q⟩=>⟨w.xs.length - (i+1),by omega,rfl,hlt,φ',h',q⟩,fun x H' y=>?_⟩;obtain ⟨⟨q,eq,rv⟩,t1,rh1⟩:=step x H' y;have eq':w.xs[i]=q:=by
    have:w.xs[i]?=some w.xs[i]:=by simp [hlt]
    rw [this] at eq;exact bg eq
   rw [eq'] at p;cases et:tg q (bW js δ) with
   | none=>rw [et] at p; exact p.elim
   | some δ1=>
    rw [et] at p;have re1:RE C φ H' (bW js δ) (jL js σ):=(re.mono pp0 (tt.trans t1)).cap js;refine ⟨φ,bW js δ,h',q,δ1,rh1,re1,rv,et,fun σ2 re2=>⟨φ,δ1,h',rh1,re2,(bY.bind (post.weak aw t1 p)).imp ?_⟩⟩;rintro b H5 ⟨φ5,h5,p5,t5,rh5,q5⟩;cases b with
    | false=>exact DD ⟨φ5,h5,pp.trans p5,(tt.trans t1).trans t5,rh5,q5⟩
    | true=>
     refine DE ⟨φ5,δ1,h5,rh5,re2.mono p5 t5,(post.bind q5).imp ?_⟩;rintro v H6 ⟨φ6,z,h6,p6,t6,rh6,rv6,q6⟩;cases e6:dB h6 h.length with
     | none=>rw [e6] at q6; exact q6.elim
     | some ys=>
      rw [e6] at q6;obtain ⟨hz,q6⟩:=q6.ite;have hφ:φ6[h.length]?=some acc:=iB ((pp.trans p5).trans p6) hlen;obtain ⟨vs,hH,rvs⟩:=rh6.at' h.length acc _ hφ (iT e6);refine ⟨vs,hH,by rw [<- rvs.length]; exact hz,φ6,h6.set h.length (.lst (ys++[z])),(pp.trans p5).trans p6,(((tt.trans t1).trans t5).trans t6).trans (Kp.lst hH),
       rh6.write hφ (by rw [hH]; trivial) ⟨vs++[v],bK,(rvs.snoc rv6).mono aw (Kp.lst hH)⟩,post.weak aw (Kp.lst hH) q6⟩
  ·rw [if_neg hg] at p;exact p.elim
 ·have e:i=w.xs.length:=by omega
  subst e;rw [nj] at p;unfold kC at p
  by_cases hg:w.g h'=true
  ·rw [if_pos hg] at p;exact .inl ⟨(wk φ H h' pp0 tt rh' hg _).2 (ao _),p.val rh' ⟨acc,rfl,iB pp hlen⟩⟩
  ·rw [if_neg hg] at p;exact p.elim
theorem IC {js:List (Option Nat)} {mi:Mi} {tg:Mg} {tst:Ev->PH->Rs Bool} {elt:Me} {σ:St} {H:Hp} {Q:VK} (h:rd C (bF js mi tg tst elt) σ H Q):Ik js (rdI C mi) (rdG C tg) (rdB C tst) (rd C elt) σ H Q:=by
 obtain ⟨φ,δ,h,rh,re,p⟩:=h;refine ⟨φ,δ,h,rh,re,(fL.bind p).imp ?_⟩;rintro J H1 ⟨φ1,w,h1,p1,t1,rh1,wk,q1⟩;intro acc hacc;exact MP wk rh1 (re.mono p1 t1) q1 acc hacc
section
variable {elt iter tg:Expr} {ifs:List Expr} {sc:Scope} {pos:Pos} {os:Scope} {oN N:List Str} {js:List (Option Nat)} {mi:Mi} {g:Mg} {tt:Ev->PH->Rs Bool} {me:Me}
theorem cO (hes:X.env.scope=os) (heN:X.N=oN) (ok:nX os oN sc N js=true) (hi:SI C k X tg iter mi)
  (hg:∀ C' fp s₀ H₀,SG C k (X.comp sc N C' fp s₀ H₀) tg g) (ht:∀ C' fp s₀ H₀,STs C k (X.comp sc N C' fp s₀ H₀) ifs tt) (he:∀ C' fp s₀ H₀,SE C k (X.comp sc N C' fp s₀ H₀) elt me)
  (hs:∀ x,i8 iter X.env x=pure x:=by intro _; rfl):SE C k X (.ListComp elt [⟨tg,iter,ifs,0⟩] sc pos) (bF js mi g tt me):=fun c=>
 (Qv c.calm hes heN ok (hi c) (fun a b s H=>hg a b s H (c.comp sc N a b s H)) (fun a b s H=>ht a b s H (c.comp sc N a b s H)) (fun a b s H=>he a b s H (c.comp sc N a b s H)) hs).imp fun σ H Q h=>IC h
theorem fO {i:Nat} {x:Str} {pos' spos:Pos} (hN:X.N.Nodup) (hx':X.N[i]?=some x) (hloc:X.env.scope.names.lookup x=some .local) (hes:X.env.scope=os) (heN:X.N=oN) (ok:nX os oN sc N js=true) (hi:SI C k X tg iter mi)
  (hg:∀ C' fp s₀ H₀,SG C k (X.comp sc N C' fp s₀ H₀) tg g) (ht:∀ C' fp s₀ H₀,STs C k (X.comp sc N C' fp s₀ H₀) ifs tt) (he:∀ C' fp s₀ H₀,SE C k (X.comp sc N C' fp s₀ H₀) elt me)
  (hsw:swapsWith (.ListComp elt [⟨tg,iter,ifs,0⟩] sc pos) (some (.Name x pos')) spos.line X.env=pure true:=by rfl)
  (hs:∀ x,i8 iter X.env x=pure x:=by intro _; rfl):SSt C k X (.Assign [.Name x pos'] (.ListComp elt [⟨tg,iter,ifs,0⟩] sc pos) spos) (bG i (bF js mi g tt me)):=fun c=>
 (FX hN hx' hloc c.calm hes heN ok (hi c) (fun a b s H=>hg a b s H (c.comp sc N a b s H)) (fun a b s H=>ht a b s H (c.comp sc N a b s H)) (fun a b s H=>he a b s H (c.comp sc N a b s H)) hsw hs).imp fun D σ H h=>by
  obtain ⟨φ,δ,h,rh,re,p⟩:=h;refine IC ⟨φ,δ,h,rh,re,(post.fl p).imp ?_⟩;rintro v H1 ⟨φ1,x,h1,p1,t1,rh1,rv1,q1⟩;exact q1.nx rh1 ((re.mono p1 t1).set rv1 i)
end
def mFn (N:Nat) (body:Ms):Fn:=fun args h=>match body (args.map some++cx (N - args.length) none) h with
 | .nx _ h'=>.ok .non h'
 | .rt p h'=>.ok p h'
 | .exc x h'=>.exc x h'
 | _=>.bad
theorem RE.start {φ:List Addr} {H:Hp} {ps:List PV} {vs:List V} (r:RVs C φ H ps vs) (N:List Str):RE C φ H (ps.map some++cx (N.length - ps.length) none) (start N vs):=by
 unfold L2.start;refine ⟨by simp [r.length],fun i p e=>?_⟩
 by_cases hi:i < ps.length
 ·rw [dm (by simpa using hi),aq] at e
  rw [dm (by simpa [<- r.length] using hi),aq]
  cases q:ps[i]? with
  | none=>rw [q] at e; cases e
  | some x=>
   rw [q] at e;cases e
   obtain ⟨v,hv,rv⟩:=r.at q;exact ⟨v,by rw [hv]; rfl,rv⟩
 ·rw [fg (by simpa using hi)] at e
  rw [List.getElem?_replicate] at e;split at e
  ·cases e
  ·cases e
theorem cH {P:Program} {mg:Str->Option Value} {base:Heap} {x qual:Str} {st:Stmt} {f:Addr} {fd:cy} {N ps:List Str} {body:Ms} (hex:∀ φ H x,¬ C.ex φ H x) (hbn:∀ x∈C.bs,mg x=none)
  (F:Fun C.K x qual st f fd) (S:aW N ps (aE st))
  (hb:∀ (cdv:Value) (A:Around) (outer:List Env) (s:Shared) (H:Hp) (E:XK),SSs C k (FQ CX0 P C.w C.K mg base N qual (aE st) f cdv A outer s H E).nox (aP st) body):
  aU P C.w C.K mg base CX0 (k+1) f fd ps (spM C ps.length (mFn N.length body)):=by
 refine F.ok S (fun vs H Q E h=>?_) (fun cdv A outer s H vs Q E hr h=>?_)
 ·obtain ⟨φ,h,xs,rh,rv,hl,_⟩:=h;rw [<- rv.length];exact hl
 ·obtain ⟨φ,h,xs,rh,rv,hl,p⟩:=h;refine ⟨_,hb cdv A outer s H E ⟨rfl,rfl,hr,hbn,rfl⟩,φ,xs.map some++cx (N.length - xs.length) none,h,rh,RE.start rv N,?_⟩;unfold mFn at p;cases e:body (xs.map some++cx (N.length - xs.length) none) h with
  | nx δ h'=>rw [e] at p; exact fun φ' σ' H' pp tt rh' re'=>p φ' .non H' pp tt rh' rfl
  | rt z h'=>rw [e] at p; exact p
  | exc z h'=>rw [e] at p; exact fun φ' H' pp tt rh'=>(hex _ _ _ (p φ' H' pp tt rh')).elim
  | bk δ h'=>rw [e] at p; exact p.elim
  | ct δ h'=>rw [e] at p; exact p.elim
  | bad=>rw [e] at p; exact p.elim
theorem UL {f:Fn} {H:Hp} {Q:VK} {E:XK} {a:Addr} {ns:List Int} (hO:M' H) (ho:SqL C.K H a (ns.map V.int)) (hf:∃ h,f [.fl (ns.map PV.int)] []=.ok (.bl true) h) (hQ:∀ H',Q (.bl true) H'):spM C 1 f [.ref a] H Q E:=by
 have r0:∀ ns:List Int,RVs C [] H (ns.map PV.int) (ns.map V.int):=by
  intro ns
  induction ns with
  | nil=>trivial
  | cons n ns ih=>exact ⟨rfl,ih⟩
 have hs:SqF C.K H a (ns.map V.int):=by
  rcases ho with (h | ⟨o,h⟩) | h
  ·rcases hO a with z | ⟨o,xs,z⟩
   ·rw [z] at h; cases h
   ·rw [z] at h; cases h
  ·exact .inl ⟨o,h⟩
  ·exact .inr h
 refine ⟨[],[],[.fl (ns.map PV.int)],⟨rfl,by simp,fun n b ob h1 h2=>by simp at h1⟩,⟨⟨a,_,rfl,hs,r0 ns⟩,trivial⟩,rfl,?_⟩;obtain ⟨h,e⟩:=hf;rw [e];intro φ' v H' _ _ _ rv;cases rv
 exact hQ H'
end L2
namespace L2
open PySem PySem.Spec PyProof.Rows
variable {C:MC} {k:Nat} {X:Cx}
def tyN (x:PV) (h:PH):Option String:=match x with
 | .non=>some "NoneType"
 | .bl _=>some "bool"
 | .int _=>some "int"
 | .str _=>some "str"
 | .tup _=>some "tuple"
 | .fl _=>some "list"
 | .ref n=>match h[n]? with
  | some (.lst _)=>some "list"
  | some (.dK _)=>some "dict"
  | _=>none
 | .ty _=>none
def kE (t c:String):Bool:=t == c || (t == "bool" && c == "int")
def known:List String:=["int","str","bool","list","tuple","dict"]
theorem UM {K:ag} {t c:String} (ht:t∈"NoneType" :: known) (hc:c∈known):PySem.W.kitOne K (.type t) (.type c)=some (kE t c):=by
 simp only [known,a7,List.not_mem_nil,or_false] at ht hc;rcases ht with rfl | rfl | rfl | rfl | rfl | rfl | rfl <;> rcases hc with rfl | rfl | rfl | rfl | rfl | rfl <;> rfl
def Ag:List PV->PH->Rs PV:=fun xs h=>match xs with
 | [x,.ty c]=>match tyN x h with
  | some t=>if c∈known then .ok (.bl (kE t c)) h else .bad
  | none=>.bad
 | _=>.bad
theorem MQ (hK:X.K=C.K):bR X (.builtin "isinstance") (fun xs H Q=>∃ x c t b,xs=[x,.ty c]/\(sH C.K H x (.type t)\/(∃ a vs,x=.ref a/\SqT C.K H a vs/\t="tuple")\/(∃ a vs,x=.ref a/\SqL C.K H a vs/\t="list"))/\PySem.W.kitOne C.K (.type t) (.type c)=some b/\Q (.bl b) H):=by
 intro pins s σ H xs us Q I r h;obtain ⟨x,c,t,b,rfl,ty,e,q⟩:=h;obtain ⟨u,v,rfl,ru,rv⟩:=vals2 r;cases rv
 rw [<- hK] at e ty;rcases ty with ty | ⟨a,vs,rfl,sa,rfl⟩ | ⟨a,vs,rfl,sa,rfl⟩
 ·exact Jl I ru ty e fun tk=>⟨.bl b,H,I.tok tk,rfl,q⟩
 ·cases ru
  obtain ⟨its,_,⟨o,h1,h2,_⟩,_⟩:=I.tuple sa;exact d8 PySem.W.kitx_tuple I.kIn ⟨o,h1,h2⟩ e (fun z=>nomatch z) fun tk=>⟨.bl b,H,I.tok tk,rfl,q⟩
 ·cases ru
  obtain ⟨its,_,⟨o,n,h1,h2,_⟩,_⟩:=I.list sa;exact d8 PySem.W.kitx_list I.kIn ⟨o,h1,h2⟩ e (fun z=>nomatch z) fun tk=>⟨.bl b,H,I.tok tk,rfl,q⟩
theorem qD:gJ C k X (.builtin "isinstance") Ag:=fun c=>(MQ c.K).imp fun vs H Q h=>by
 obtain ⟨φ,h,ps,rh,rv,po⟩:=h;unfold Ag at po;split at po
 ·rename_i x n;obtain ⟨v,w,rfl,rx,ry⟩:=rv.two;cases ry
  split at po
  ·rename_i t ht;obtain ⟨hn,po⟩:=po.ite;have fin:∀ {t:String},t∈"NoneType" :: known->post C φ H (.ok (.bl (kE t n)) h) Q->PySem.W.kitOne C.K (.type t) (.type n)=some (kE t n)/\Q (.bl (kE t n)) H:=fun hm po=>⟨UM hm hn,po.val rh rfl⟩;unfold tyN at ht;cases x with
   | non=>cases ht; cases rx; exact ⟨_,n,_,_,rfl,.inl .non,fin (by decide) po⟩
   | bl b=>cases ht; cases rx; exact ⟨_,n,_,_,rfl,.inl (.bl _),fin (by decide) po⟩
   | int b=>cases ht; cases rx; exact ⟨_,n,_,_,rfl,.inl (.int _),fin (by decide) po⟩
   | str b=>cases ht; cases rx; exact ⟨_,n,_,_,rfl,.inl (.str _),fin (by decide) po⟩
   | tup xs=>
    cases ht
    obtain ⟨a,vs,rfl,sa,ra⟩:=rx;exact ⟨_,n,_,_,rfl,.inr (.inl ⟨a,vs,rfl,sa,rfl⟩),fin (by decide) po⟩
   | fl xs=>
    cases ht
    obtain ⟨a,vs,rfl,sa,ra⟩:=rx;exact ⟨_,n,_,_,rfl,.inr (.inr ⟨a,vs,rfl,sa.sq,rfl⟩),fin (by decide) po⟩
   | ref m=>
    obtain ⟨a,rfl,ha⟩:=rx;dsimp only at ht;split at ht
    ·rename_i xs hx;cases ht
     obtain ⟨vs,hH,ra⟩:=rh.at' m a _ ha hx;exact ⟨_,n,_,_,rfl,.inl (.lst hH),fin (by decide) po⟩
    ·rename_i xs hx;cases ht
     obtain ⟨vs,hH,ra⟩:=rh.at' m a _ ha hx;exact ⟨_,n,_,_,rfl,.inl (.dK hH),fin (by decide) po⟩
    ·cases ht
   | ty z=>cases ht
  ·exact po.elim
 ·exact po.elim
def QO:List PV->PH->Rs PV:=fun xs h=>match xs with
 | [.int i,.int j]=>.ok (.int (if j < i then j else i)) h
 | _=>.bad
theorem WD:gJ C k X (.builtin "min") QO:=fun c=>(Jj c.calm).imp fun vs H Q h=>by
 obtain ⟨φ,h,ps,rh,rv,po⟩:=h;unfold QO at po;split at po
 ·obtain ⟨v,w,rfl,rx,ry⟩:=rv.two;cases rx; cases ry;exact ⟨_,_,rfl,po.val rh rfl⟩
 ·exact po.elim
def mMt (ty:PV->PH->Bool) (g:PV->List PV->PH->Rs PV) (mo:Me) (ms:Ma):Me:=fun δ h=>(mo δ h).bind fun x h1=>if ty x h1=true then (ms δ h1).bind fun ps h2=>g x ps h2 else .bad
def JM (ty:PV->PH->Bool) (g:PV->List PV->PH->Rs PV) (mo:Me):Me:=fun δ h=>(mo δ h).bind fun x h1=>if ty x h1=true then g x [] h1 else .bad
def rM (C:MC) (g:PV->List PV->PH->Rs PV):V->List V->Hp->VK->Prop:=fun x xs H Q=>∃ φ h p ps,RH C φ H h/\RV C φ H p x/\RVs C φ H ps xs/\post C φ H (g p ps h) Q
def MtS (C:MC) (k:Nat) (X:Cx) (T:String) (ty:PV->PH->Bool) (id:String) (g:PV->List PV->PH->Rs PV):Prop:=Cxt C k X->MtR X id (rM C g)/\∀ φ H h p x,RH C φ H h->RV C φ H p x->ty p h=true->tyV C.K T x H
section
variable {o e:Expr} {es:List Expr} {mo:Me} {ms:Ma} {name:Str} {apos cpos:Pos} {T id:String} {ty:PV->PH->Bool} {g:PV->List PV->PH->Rs PV}
theorem Ga (pa:PlainAttrs T) (slot:Slot T name id) (hty:typeOf (.builtin id)=pure (.type "method_descriptor")) (hm:MtS C k X T ty id g) (ho:SE C k X o mo) (ha:SA C k X (e :: es) ms)
  (hbase:km o name X.env (eval o X.env)=eval o X.env:=by rfl)
  (hfew:((backTo cpos (b8 (e :: es) X.env)).all (fun x=>!x.1) && (backToKw cpos (keywordEach [] X.env)).all (fun x=>x.1.isSome)
   && decide ((e :: es).length+([]:List Keyword).length+(if ([]:List Keyword).isEmpty then 0 else 1) < 30))=true:=by rfl)
  (hline:(apos.endLine == cpos.line)=true:=by rfl) (hs:b8 (e :: es) X.env=(false,eval e X.env) :: b8 es X.env:=by rfl) (hplain:(backTo cpos (b8 es X.env)).any (·.1)=false:=by rfl):
  SE C k X (.Call (.Attribute o name apos) (e :: es) [] cpos) (mMt ty g mo ms):=fun c=>(Wb pa slot hty (hm c).1 (ho c) (ha c) hbase hfew hline hs hplain).imp fun σ H Q h=>by
 obtain ⟨φ,δ,h,rh,re,p⟩:=h;refine ⟨φ,δ,h,rh,re,(post.bind p).imp ?_⟩;rintro v H1 ⟨φ1,x,h1,p1,t1,rh1,rv1,q1⟩;obtain ⟨ht,q1⟩:=q1.ite;refine ⟨by rw [c.K]; exact (hm c).2 φ1 H1 h1 x v rh1 rv1 ht,φ1,δ,h1,rh1,re.mono p1 t1,(postA.bind q1).imp ?_⟩;rintro vs H2 ⟨φ2,xs,h2,p2,t2,rh2,rv2,q2⟩;exact ⟨φ2,h2,x,xs,rh2,rv1.mono p2 t2,rv2,q2⟩
theorem WE (pa:PlainAttrs T) (slot:Slot T name id) (hty:typeOf (.builtin id)=pure (.type "method_descriptor")) (hm:MtS C k X T ty id g) (ho:SE C k X o mo)
  (hbase:km o name X.env (eval o X.env)=eval o X.env:=by rfl) (hline:(apos.endLine == cpos.line)=true:=by rfl):SE C k X (.Call (.Attribute o name apos) [] [] cpos) (JM ty g mo):=fun c=>(Ub pa slot hty (hm c).1 (ho c) hbase hline).imp fun σ H Q h=>by
 obtain ⟨φ,δ,h,rh,re,p⟩:=h;refine ⟨φ,δ,h,rh,re,(post.bind p).imp ?_⟩;rintro v H1 ⟨φ1,x,h1,p1,t1,rh1,rv1,q1⟩;obtain ⟨ht,q1⟩:=q1.ite;exact ⟨by rw [c.K]; exact (hm c).2 φ1 H1 h1 x v rh1 rv1 ht,φ1,h1,x,[],rh1,rv1,trivial,q1⟩
end
theorem MtR.imp {id:String} {r r':V->List V->Hp->VK->Prop} (h:MtR X id r) (i:∀ x xs H Q,r' x xs H Q->r x xs H Q):MtR X id r':=fun pins s σ H x xs v us Q I rx rs q=>h pins s σ H x xs v us Q I rx rs (i x xs H Q q)
def isL (x:PV) (h:PH):Bool:=match x with
 | .ref n=>(dB h n).isSome
 | _=>false
theorem Gb {φ:List Addr} {H:Hp} {h:PH} {p:PV} {x:V} (rh:RH C φ H h) (rv:RV C φ H p x) (e:isL p h=true):tyV C.K "list" x H:=by
 cases p with
 | ref n=>
  obtain ⟨a,rfl,ha⟩:=rv;obtain ⟨xs,hx⟩:=j5.mp (show (dB h n).isSome=true from e)
  obtain ⟨vs,hH,ra⟩:=rh.at' n a _ ha (iT hx);exact .inl ⟨rfl,vs,SqL.of hH⟩
 | _=>cases e
def onL (f:List PV->List PV->Option (PV×List PV)):PV->List PV->PH->Rs PV:=fun x ps h=>match x with
 | .ref n=>match dB h n with
  | some xs=>match f xs ps with
   | some (r,ys)=>.ok r (h.set n (.lst ys))
   | none=>.bad
  | none=>.bad
 | _=>.bad
theorem MR {f:List PV->List PV->Option (PV×List PV)} {x:V} {xs:List V} {H:Hp} {Q:VK} (h:rM C (onL f) x xs H Q):∃ φ l ps ys vs r zs,x=.ref l/\H l=some (.lst vs)/\RVs C φ H ys vs/\RVs C φ H ps xs/\f ys ps=some (r,zs)/\
  ∀ (v:V) (ws:List V),RV C φ H r v->RVs C φ H zs ws->Q v (upd H l (.lst ws)):=by
 obtain ⟨φ,h,p,ps,rh,rx,rs,po⟩:=h;unfold onL at po;cases p with
 | ref n=>
  obtain ⟨a,rfl,ha⟩:=rx;dsimp only at po;cases e:dB h n with
  | none=>rw [e] at po; exact po.elim
  | some ys=>
   rw [e] at po;dsimp only at po;obtain ⟨vs,hH,ra⟩:=rh.at' n a _ ha (iT e);cases ef:f ys ps with
   | none=>rw [ef] at po; exact po.elim
   | some rz=>
    rw [ef] at po;obtain ⟨r,zs⟩:=rz;exact ⟨φ,a,ps,ys,vs,r,zs,rfl,hH,ra,rs,ef,fun v ws rv rw'=>po.lset rh ha hH rw' rv⟩
 | _=>exact po.elim
def dE:List PV->List PV->Option (PV×List PV):=fun xs ps=>match ps with
 | [p]=>if xs.length < av then some (.non,xs++[p]) else none
 | _=>none
def sU:List PV->List PV->Option (PV×List PV):=fun xs ps=>match ps with
 | []=>some (.non,[])
 | _=>none
theorem JN:MtR X "list.append" (rM C (onL dE)):=MtR.imp (show MtR X "list.append" Ii from AI) fun x xs H Q h=>by
 obtain ⟨φ,l,ps,ys,vs,r,zs,rfl,hH,ra,rs,ef,q⟩:=MR h;unfold dE at ef;split at ef
 ·split at ef
  ·rename_i hz;cases ef
   obtain ⟨v,rfl,rx⟩:=rs.one;exact ⟨l,vs,v,rfl,rfl,hH,by rw [<- ra.length]; exact hz,q .non _ rfl (ra.snoc rx)⟩
  ·cases ef
 ·cases ef
theorem lG:MtS C k X "list" isL "list.append" (onL dE):=fun c=>⟨JN,fun φ H h p x rh rv e=>Gb rh rv e⟩
theorem MS:MtR X "list.clear" (rM C (onL sU)):=MtR.imp (show MtR X "list.clear" M8 from M9) fun x xs H Q h=>by
 obtain ⟨φ,l,ps,ys,vs,r,zs,rfl,hH,ra,rs,ef,q⟩:=MR h;unfold sU at ef;split at ef
 ·cases ef
  have:xs=[]:=by cases xs <;> first | rfl | exact rs.elim
  subst this;exact ⟨l,vs,rfl,rfl,hH,q .non _ rfl trivial⟩
 ·cases ef
theorem QP:MtS C k X "list" isL "list.clear" (onL sU):=fun c=>⟨MS,fun φ H h p x rh rv e=>Gb rh rv e⟩
def WG (K:ag):R2:=fun x y H Q=>∃ a b ys,x=.ref a/\y=.ref b/\SqT K H a []/\SqT K H b ys/\Q (.ref b) H
theorem QQ:OpR X (fi .Add) (WG X.K):=by
 intro pins s σ H x y v u Q I rx ry h;obtain ⟨a,b,ys,rfl,rfl,ha,hb,q⟩:=h;cases rx
 cases ry
 obtain ⟨its,r1,p1,_⟩:=I.tuple ha;obtain ⟨its2,r2,p2,_⟩:=I.tuple hb;cases r1
 obtain ⟨⟨cls,dd,data,sl⟩,ho,hc,n,hd⟩:=id p1;obtain ⟨⟨cls2,dd2,data2,sl2⟩,ho2,hc2,n2,hd2⟩:=id p2;simp only at hc hd hc2 hd2;subst hc hd hc2 hd2;exact concat_meets ⟨_,ho,rfl⟩ ⟨_,ho2,rfl⟩ noFill_tuple_add seq_tuple_add PySem.F.slot_tuple_add PySem.F.entry_tuple_add (PySem.F.args_tuple_add_2 _ _)
   (tuple_addW0 a b ([]:List Value).toArray its2.toArray n n2 dd dd2 sl sl2 (by simp)) ⟨ho,ho2,⟨.ref b,H,I,rfl,q⟩⟩
def cA:PV->PV->PH->Rs PV:=fun x y h=>match x,y with
 | .tup [],.tup ys=>.ok (.tup ys) h
 | x,y=>MB x y h
theorem cG:OpS C k X (fi .Add) cA:=fun c=>((Wv c).or (by have:=QQ (X:=X); rw [c.K] at this; exact this)).imp fun x y H Q h=>by
 obtain ⟨φ,h,p,q,rh,rx,ry,po⟩:=h;unfold cA at po;split at po
 ·obtain ⟨a,vs,rfl,sa,ra⟩:=rx;obtain ⟨b,us,rfl,sb,rb⟩:=ry;have:vs=[]:=by cases vs <;> first | rfl | exact ra.elim
  subst this;exact .inr ⟨a,b,us,rfl,rfl,sa,sb,po.val rh ⟨b,us,rfl,sb,rb⟩⟩
 ·exact .inl ⟨φ,h,p,q,rh,rx,ry,po⟩
end L2
namespace L2
open PySem PySem.Spec PyProof.Rows
variable {C:MC} {k:Nat} {X:Cx}
theorem MT:UnS C k X (unaryOp .USub) C9:=fun c=>by
 have h:UnR X (unaryOp .USub) (rU fun i=>.int (-i)):=U1;intro pins s σ H x v Q I rx q;refine h pins s σ H x v Q I rx ?_;obtain ⟨φ,h,p,rh,rv,po⟩:=q;unfold C9 at po;cases p with
 | int i=>cases rv; exact ⟨i,rfl,po.val rh rfl⟩
 | _=>exact po.elim
end L2
namespace L2
open PySem
@[irreducible] def Rs.W {α:Type} (r:Rs α) (Q:α->PH->Prop):Prop:=match r with
 | .ok a h=>Q a h
 | _=>False
structure FE where
 nx:Ev->PH->Prop
 rt:PV->PH->Prop
 bk:Ev->PH->Prop:=fun _ _=>False
 ct:Ev->PH->Prop:=fun _ _=>False
@[irreducible] def Fl.W (r:Fl) (E:FE):Prop:=match r with
 | .nx δ h=>E.nx δ h
 | .rt p h=>E.rt p h
 | .bk δ h=>E.bk δ h
 | .ct δ h=>E.ct δ h
 | _=>False
@[irreducible] def Lt (b:Ms) (E:FE) (δ:Ev) (h:PH):Prop:=(b δ h).W E
section
unseal Rs.W Fl.W Lt
variable {α β:Type} {Q:α->PH->Prop} {E:FE} {δ:Ev} {h:PH}
@[simp] theorem hZ {a:α}:(Rs.ok a h).W Q=Q a h:=(rfl)
@[simp] theorem Z0:(Fl.nx δ h).W E=E.nx δ h:=(rfl)
@[simp] theorem Z1 {p:PV}:(Fl.rt p h).W E=E.rt p h:=(rfl)
@[simp] theorem Z2:(Fl.bk δ h).W E=E.bk δ h:=(rfl)
@[simp] theorem Z3:(Fl.ct δ h).W E=E.ct δ h:=(rfl)
@[simp] theorem sV {Q:β->PH->Prop} {r:Rs α} {f:α->PH->Rs β}:(r.bind f).W Q=r.W fun a h=>(f a h).W Q:=by cases r <;> rfl
@[simp] theorem QR {r:Rs α} {f:α->PH->Fl}:(r.fl f).W E=r.W fun a h=>(f a h).W E:=by cases r <;> rfl
theorem MU {Q':α->PH->Prop} {r:Rs α} (h:r.W Q) (i:∀ a h,Q a h->Q' a h):r.W Q':=by cases r <;> first | exact i _ _ h | exact h
@[simp] theorem YN {c:Prop} [Decidable c] {x y:Rs α}:(if c then x else y).W Q=if c then x.W Q else y.W Q:=by split <;> rfl
@[simp] theorem YO:(Rs.bad:Rs α).W Q=False:=(rfl)
@[simp] theorem Yu:Fl.bad.W E=False:=(rfl)
theorem Ah {r:Rs α} (w:r.W Q):∃ a h,r=.ok a h/\Q a h:=by
 cases r with
 | ok a h=>exact ⟨a,h,rfl,w⟩
 | exc=>exact w.elim
 | bad=>exact w.elim
variable {a b:Ms} {m ma mb mc:Me} {t ta tb:Ev->PH->Rs Bool} {g g':PV->PV->PH->Rs PV}
theorem aL:(aV a b δ h).W E=(a δ h).W { E with nx:=Lt b E }:=by
 show (match a δ h with | .nx δ1 h1=>b δ1 h1 | r=>r).W E=_
 cases a δ h <;> rfl
theorem now {b:Ms} (w:(b δ h).W E):Lt b E δ h:=w
@[simp] theorem YQ:(kO δ h).W E=E.nx δ h:=(rfl)
@[simp] theorem YR:(Yt δ h).W E=E.bk δ h:=(rfl)
@[simp] theorem YS:(UI δ h).W E=E.ct δ h:=(rfl)
@[simp] theorem nL {i:Nat}:(bG i m δ h).W E=(m δ h).W fun p h=>E.nx (δ.set i (some p)) h:=by simp [bG]
@[simp] theorem YT {t:Mg}:(DZ m t δ h).W E=(m δ h).W fun p h=>∃ δ',t p δ=some δ'/\E.nx δ' h:=by
 unfold DZ;cases m δ h with
 | ok p h1=>
  show (match t p δ with | some δ'=>Fl.nx δ' h1 | none=>.bad).W E=∃ δ',t p δ=some δ'/\E.nx δ' h1
  cases t p δ <;> simp [Fl.W]
 | exc=>rfl
 | bad=>rfl
@[simp] theorem YU:(Af m δ h).W E=(m δ h).W fun _ h=>E.nx δ h:=by simp [Af]
@[simp] theorem qE:(cD m δ h).W E=(m δ h).W E.rt:=by simp [cD]
@[simp] theorem Yv:(WB δ h).W E=E.rt .non h:=(rfl)
@[simp] theorem uU:(iM t a b δ h).W E=(t δ h).W fun c h=>if c=true then (a δ h).W E else (b δ h).W E:=by
 unfold iM;rw [QR]
 congr
 funext c h
 cases c <;> simp
@[simp] theorem WH {i:Nat}:mV i δ h=match C8 δ i with | some p=>.ok p h | none=>.bad:=(rfl)
@[simp] theorem WI {p:PV}:mC p δ h=.ok p h:=(rfl)
@[simp] theorem ID:aD g ma mb δ h=(ma δ h).bind fun x h1=>(mb δ h1).bind fun y h2=>g x y h2:=(rfl)
@[simp] theorem UN {g:PV->PH->Rs PV}:mUn g ma δ h=(ma δ h).bind g:=(rfl)
@[simp] theorem Xz:bT m δ h=(m δ h).bind tru:=(rfl)
@[simp] theorem WJ:DX t δ h=(t δ h).bind fun b h1=>.ok (!b) h1:=(rfl)
@[simp] theorem WK:DY ta tb δ h=(ta δ h).bind fun b h1=>if b=true then tb δ h1 else .ok false h1:=by
 unfold DY; congr 1; funext b h1; cases b <;> simp
@[simp] theorem XA:MI ta tb δ h=(ta δ h).bind fun b h1=>if b=true then .ok true h1 else tb δ h1:=by
 unfold MI; congr 1; funext b h1; cases b <;> simp
@[simp] theorem Yw:mIf t ma mb δ h=(t δ h).bind fun b h1=>if b=true then ma δ h1 else mb δ h1:=by
 unfold mIf; congr 1; funext b h1; cases b <;> simp
def bl2 (x:PV) (f g:Rs PV):Rs PV:=match x with
 | .bl true=>f
 | .bl false=>g
 | _=>.bad
@[simp] theorem Yx {b:Bool} {f g:Rs PV}:bl2 (.bl b) f g=if b=true then f else g:=by cases b <;> simp [bl2]
@[simp] theorem WL:uS ma mb δ h=(ma δ h).bind fun x h1=>bl2 x (mb δ h1) (.ok (.bl false) h1):=by
 unfold uS; first | rfl | (congr 1; funext x h1; cases x <;> first | rfl | (rename_i b; cases b <;> rfl))
@[simp] theorem XB:MH g g' ma mb mc δ h=(ma δ h).bind fun x h1=>(mb δ h1).bind fun y h2=>(g x y h2).bind fun z h3=>bl2 z ((mc δ h3).bind fun w h4=>(g' y w h4).bind MG) (.ok (.bl false) h3):=by
 unfold MH; first | rfl | (congr 1; funext x h1; congr 1; funext y h2; congr 1; funext z h3; cases z <;> first | rfl | (rename_i b; cases b <;> rfl))
@[simp] theorem WM {b:Bool}:MG (.bl b) h=.ok (.bl b) h:=(rfl)
@[simp] theorem XC {ms:Ma}:hW ms δ h=(ms δ h).bind fun xs h1=>if xs.length<=av then .ok (.tup xs) h1 else .bad:=(rfl)
@[simp] theorem QS {ms:Ma}:iL ms δ h=(ms δ h).bind fun xs h1=>if xs.length<=av then .ok (.ref h1.length) (h1++[.lst xs]) else .bad:=(rfl)
@[simp] theorem VF:xP δ h=.ok (.ref h.length) (h++[.dK []]):=(rfl)
@[simp] theorem qF:aH δ h=.ok [] h:=(rfl)
@[simp] theorem gO {ms:Ma}:aB m ms δ h=(m δ h).bind fun x h1=>(ms δ h1).bind fun xs h2=>.ok (x :: xs) h2:=(rfl)
@[simp] theorem sW {g:List PV->PH->Rs PV} {ms:Ma}:mCB g ms δ h=(ms δ h).bind g:=(rfl)
@[simp] theorem qG {n:Nat} {f:Fn} {ms:Ma}:aY n f ms δ h=(ms δ h).bind fun ps h1=>if ps.length=n then f ps h1 else .bad:=(rfl)
@[simp] theorem XD:QL δ h=.ok none h:=(rfl)
def MV (x:PV) (h:PH):Rs (Option Int):=match x with
 | .int i=>.ok (some i) h
 | _=>.bad
@[simp] theorem UO {i:Int}:MV (.int i) h=.ok (some i) h:=(rfl)
@[simp] theorem YV:mP m δ h=(m δ h).bind MV:=(rfl)
@[simp] theorem UP {ml mh:Mo}:mSl m ml mh δ h=(m δ h).bind fun x h1=>(ml δ h1).bind fun l h2=>(mh δ h2).bind fun u h3=>vSl x l u h3:=(rfl)
@[simp] theorem Yy {ty:PV->PH->Bool} {g:PV->List PV->PH->Rs PV} {ms:Ma}:mMt ty g m ms δ h=(m δ h).bind fun x h1=>if ty x h1=true then (ms δ h1).bind fun ps h2=>g x ps h2 else .bad:=(rfl)
@[simp] theorem QT {ty:PV->PH->Bool} {g:PV->List PV->PH->Rs PV}:JM ty g m δ h=(m δ h).bind fun x h1=>if ty x h1=true then g x [] h1 else .bad:=(rfl)
@[simp] theorem qH:av=16777216:=by rw [cz]
theorem QU {i j:Int} {h:PH} (c:(-18446744073709551616 < i/\i < 18446744073709551616)\/(-18446744073709551616 < j/\j < 18446744073709551616)):JI (.int i) (.int j) h=.ok (.int (i*j)) h:=by
 show (if DA i j then _ else _)=_
 exact if_pos c
@[simp] theorem WN {i j:Int} (c:(-18446744073709551616 < i/\i < 18446744073709551616)\/(-18446744073709551616 < j/\j < 18446744073709551616)):vInt DA (fun i j=>i*j) (.int i) (.int j) h=.ok (.int (i*j)) h:=QU c
@[simp] theorem XE {i j:Int} (c:0 < j/\j < 1073741824):vInt LU (fun i j=>i / j) (.int i) (.int j) h=.ok (.int (i / j)) h:=if_pos c
@[simp] theorem XF {i j:Int} (c:0 < j):vInt (fun _ j=>0 < j) (fun i j=>i % j) (.int i) (.int j) h=.ok (.int (i % j)) h:=if_pos c
@[simp] theorem XG {i j:Int} (c:0<=j/\j<=1000000/\-18446744073709551616 < i/\i < 18446744073709551616):vInt Jg (fun i j=>i ^ j.toNat) (.int i) (.int j) h=.ok (.int (i ^ j.toNat)) h:=by
 show (if Jg i j then _ else _)=_
 refine if_pos ⟨c.1,c.2.1,?_⟩;obtain ⟨_,_,h1,h2⟩:=c;omega
@[simp] theorem XH {i j:Int}:G8 (.int i) (.int j) h=.ok (.int (i - j)) h:=(rfl)
@[simp] theorem XI {i:Int}:C9 (.int i) h=.ok (.int (-i)) h:=(rfl)
@[simp] theorem JO {i j:Int}:cA (.int i) (.int j) h=.ok (.int (i+j)) h:=(rfl)
@[simp] theorem B1 {x y:Str} (c:x.length+y.length<=16777216):cA (.str x) (.str y) h=.ok (.str (x++y)) h:=if_pos c
@[simp] theorem WO {f:Int->Int->Bool} {g:List Nat->List Nat->Bool} {i j:Int}:DU f g (.int i) (.int j) h=.ok (.bl (f i j)) h:=(rfl)
@[simp] theorem WQ {f:Int->Int->Bool} {g:List Nat->List Nat->Bool} {i j:Str}:DU f g (.str i) (.str j) h=.ok (.bl (g i.cps.toList j.cps.toList)) h:=(rfl)
@[simp] theorem Yz {b:Bool}:tru (.bl b) h=.ok b h:=(rfl)
@[simp] theorem XJ:tru .non h=.ok false h:=(rfl)
@[simp] theorem XM {i:Int}:tru (.int i) h=.ok (i != 0) h:=(rfl)
@[simp] theorem XN {xs:List PV}:tru (.tup xs) h=.ok (!xs.isEmpty) h:=(rfl)
@[simp] theorem WR {p:PV}:ofO (some p) h=.ok p h:=(rfl)
@[simp] theorem WS {b:Bool}:ofB (some b) h=.ok (.bl b) h:=(rfl)
@[simp] theorem XO {xs:List PV} {i:Int}:vIx (.tup xs) (.int i) h=ofO (atI xs i) h:=(rfl)
@[simp] theorem YA {xs:List PV} {i:Int}:vIx (.fl xs) (.int i) h=ofO (atI xs i) h:=(rfl)
theorem cF {n:Nat} {xs:List PV} {i:Int} (e:h[n]?=some (.lst xs)):vIx (.ref n) (.int i) h=ofO (atI xs i) h:=by simp [vIx,aN,e]
@[simp] theorem QV {z:Str} {i:Int} (c:z.length<=16777216):vIx (.str z) (.int i) h=ofO ((atI z.cps.toList i).map fun c=>.str ⟨#[c]⟩) h:=if_pos c
@[simp] theorem WT {xs:List PV}:fG [.tup xs] h=.ok (.int xs.length) h:=(rfl)
@[simp] theorem XQ {xs:List PV}:fG [.fl xs] h=.ok (.int xs.length) h:=(rfl)
theorem gP {n:Nat} {xs:List PV} (e:h[n]?=some (.lst xs)):fG [.ref n] h=.ok (.int xs.length) h:=by simp [fG,aN,e]
@[simp] theorem XR {i j:Int}:QO [.int i,.int j] h=.ok (.int (if j < i then j else i)) h:=(rfl)
@[simp] theorem XS {i j:Int}:QM [.int i,.int j] h=.ok (.int (if j > i then j else i)) h:=(rfl)
@[simp] theorem WU {i:Int} {c:String}:Ag [.int i,.ty c] h=if c∈known then .ok (.bl (kE "int" c)) h else .bad:=(rfl)
@[simp] theorem WV {i:Str} {c:String}:Ag [.str i,.ty c] h=if c∈known then .ok (.bl (kE "str" c)) h else .bad:=(rfl)
@[simp] theorem XT {i:Bool} {c:String}:Ag [.bl i,.ty c] h=if c∈known then .ok (.bl (kE "bool" c)) h else .bad:=(rfl)
@[simp] theorem WW {i:List PV} {c:String}:Ag [.tup i,.ty c] h=if c∈known then .ok (.bl (kE "tuple" c)) h else .bad:=(rfl)
theorem E1 {n:Nat} {xs:List PV} {c:String} (e:h[n]?=some (.lst xs)):Ag [.ref n,.ty c] h=if c∈known then .ok (.bl (kE "list" c)) h else .bad:=by simp [Ag,tyN,e]
theorem eY {n:Nat} {xs:List PV} (e:h[n]?=some (.lst xs)):isL (.ref n) h=true:=by simp [isL,dB,e]
theorem eK {n:Nat} {xs:List PV} {p:PV} (e:h[n]?=some (.lst xs)) (c:xs.length < 16777216):onL dE (.ref n) [p] h=.ok .non (h.set n (.lst (xs++[p]))):=by simp [onL,dB,e,dE,c]
theorem QW {α:Type} {xs:List α} {i:Int} (h0:0<=i) (h1:i < xs.length):atI xs i=xs[i.toNat]?:=by
 unfold atI ixN;rw [if_pos h0,if_pos h1]; rfl
theorem E2 {α:Type} {xs:List α} {x:α}:atI (xs++[x]) (-1)=some x:=by
 unfold atI ixN;rw [if_neg (by decide),if_pos (by simp; omega)];have:((-1:Int)+((xs++[x]).length:Int)).toNat=xs.length:=by simp; omega
 rw [this];simp
theorem Cd {g:PH->Bool} {tg:Mg} {body:Ms} {E:FE} (I:Nat->Ev->PH->Prop):∀ (xs:List PV) (k:Nat) (δ:Ev) (h:PH),I k δ h->
  (∀ i x δ h,k<=i->xs[i - k]?=some x->I i δ h->g h=true/\∃ δ1,tg x δ=some δ1/\(body δ1 h).W { nx:=I (i+1),ct:=I (i+1),rt:=E.rt,bk:=E.nx })->
  (∀ δ h,I (k+xs.length) δ h->g h=true/\E.nx δ h)->(gM g tg body xs δ h).W E
 | [],k,δ,h,i0,_,fin=>by
  obtain ⟨h1,h2⟩:=fin δ h i0;simp [gM,h1,h2]
 | x :: xs,k,δ,h,i0,step,fin=>by
  obtain ⟨h1,δ1,h2,h3⟩:=step k x δ h (ao _) (by simp) i0;have go:∀ δ2 h2,I (k+1) δ2 h2->(gM g tg body xs δ2 h2).W E:=fun δ2 h2 i2=>
   Cd I xs (k+1) δ2 h2 i2 (fun i y δ h hk hy=>step i y δ h (by omega) (by
    have:i - k=(i - (k+1))+1:=by omega
    rw [this,gq]; exact hy)) (fun δ h hi=>fin δ h (by
    have e:k+(x :: xs).length=k+1+xs.length:=by simp; omega
    rw [e]; exact hi))
  unfold gM;rw [if_pos h1,h2]
  show Fl.W (match body δ1 h with | .nx δ2 h2=>gM g tg body xs δ2 h2 | .ct δ2 h2=>gM g tg body xs δ2 h2 | .bk δ2 h2=>.nx δ2 h2 | r=>r) E
  cases e:body δ1 h with
  | nx δ2 h2=>rw [e] at h3; exact go δ2 h2 h3
  | ct δ2 h2=>rw [e] at h3; exact go δ2 h2 h3
  | bk δ2 h2=>rw [e] at h3; exact h3
  | rt p h2=>rw [e] at h3; exact h3
  | exc=>rw [e] at h3; exact h3
  | bad=>rw [e] at h3; exact h3
theorem MW {ms:Ma} {i:Nat} {body:Ms} {j:Int} (I:Nat->Ev->PH->Prop) (e:ms δ h=.ok [.int j] h) (hj:-4611686018427387904<=j/\j < 4611686018427387904) (h0:I 0 δ h)
  (step:∀ (q:Nat) δ h,(q:Int) < j->I q δ h->(body (δ.set i (some (.int q))) h).W { nx:=I (q+1),ct:=I (q+1),rt:=E.rt,bk:=E.nx })
  (fin:∀ δ h,I j.toNat δ h->E.nx δ h):(kQ (iD ms) (gN i) body δ h).W E:=by
 unfold kQ iD;rw [e];have hj':-(2 ^ 62)<=j/\j < 2 ^ 62:=hj;simp only [Rs.bind_ok,IA,if_pos hj',Rs.fl_ok];refine Cd I _ 0 δ h h0 (fun q x δ h _ hx hi=>?_) (fun δ h hi=>⟨rfl,fin δ h (by rw [eZ,Nat.zero_add] at hi; exact hi)⟩);have hq:q < j.toNat:=by
  have:=(ab.mp hx).1;rw [eZ] at this;omega
 rw [Nat.sub_zero,xQ _ _ _ hq] at hx;cases hx
 refine ⟨rfl,_,rfl,?_⟩;rw [Int.zero_add];exact step q δ h (by omega) hi
theorem MX {m:Me} {tg:Mg} {body:Ms} {xs:List PV} (I:Nat->Ev->PH->Prop) (e:m δ h=.ok (.tup xs) h\/m δ h=.ok (.fl xs) h) (h0:I 0 δ h)
  (step:∀ (q:Nat) x δ h,xs[q]?=some x->I q δ h->∃ δ1,tg x δ=some δ1/\(body δ1 h).W { nx:=I (q+1),ct:=I (q+1),rt:=E.rt,bk:=E.nx })
  (fin:∀ δ h,I xs.length δ h->E.nx δ h):(kQ (bH m) tg body δ h).W E:=by
 have go:(gM (fun _=>true) tg body xs δ h).W E:=Cd I _ 0 δ h h0 (fun q x δ h _ hx hi=>⟨rfl,step q x δ h (by simpa using hx) hi⟩) (fun δ h hi=>⟨rfl,fin δ h (by simpa using hi)⟩)
 unfold kQ bH;rcases e with e | e <;> rw [e] <;> exact go
theorem sX {m:Me} {tg:Mg} {body:Ms} {n:Nat} {xs:List PV} {h1:PH} (I:Nat->Ev->PH->Prop) (e:m δ h=.ok (.ref n) h1) (hn:h1[n]?=some (.lst xs)) (h0:I 0 δ h1)
  (keep:∀ q δ h,q<=xs.length->I q δ h->h[n]?=some (.lst xs))
  (step:∀ (q:Nat) x δ h,xs[q]?=some x->I q δ h->∃ δ1,tg x δ=some δ1/\(body δ1 h).W { nx:=I (q+1),ct:=I (q+1),rt:=E.rt,bk:=E.nx })
  (fin:∀ δ h,I xs.length δ h->E.nx δ h):(kQ (bH m) tg body δ h).W E:=by
 have hk:∀ {h:PH},h[n]?=some (.lst xs)->nE n xs h=true:=fun {h} e=>by
  have e3:aN h n=some xs:=by unfold aN; rw [e]
  unfold nE; rw [e3]; exact PV.beqs_self xs
 unfold kQ bH;rw [e];have e2:ofSeq (.ref n) h1=.ok ⟨xs,nE n xs⟩ h1:=by
  have e3:aN h1 n=some xs:=by unfold aN; rw [hn]
  unfold ofSeq; simp only [e3]
 rw [Rs.bind_ok,e2,Rs.fl_ok];refine Cd I _ 0 δ h1 h0 (fun q x δ h _ hx hi=>?_) (fun δ h hi=>?_)
 ·have hx':xs[q]?=some x:=by simpa using hx
  have:=(ab.mp hx').1;exact ⟨hk (keep q δ h (by omega) hi),step q x δ h hx' hi⟩
 ·have hi':I xs.length δ h:=by simpa using hi
  exact ⟨hk (keep _ δ h (ao _) hi'),fin δ h hi'⟩
theorem dZ {N:Nat} {body:Ms} {args:List PV} {Q:PV->PH->Prop} (w:(body (args.map some++cx (N - args.length) none) h).W { nx:=fun _ h=>Q .non h,rt:=Q }):(mFn N body args h).W Q:=by
 unfold mFn;cases e:body (args.map some++cx (N - args.length) none) h with
 | nx δ h'=>rw [e] at w; exact w
 | rt p h'=>rw [e] at w; exact w
 | _=>rw [e] at w; exact w.elim
@[simp] theorem YW {i:Nat} {p:PV}:gN i p δ=some (δ.set i (some p)):=(rfl)
@[simp] theorem YB {n:Nat} {u:Mgs} {ps:List PV}:gTp n u (.tup ps) δ=if ps.length=n then u ps δ else none:=(rfl)
@[simp] theorem YC {t:Mg} {u:Mgs} {p:PV} {r:List PV}:gCn t u (p :: r) δ=(t p δ).bind (u r):=(rfl)
@[simp] theorem YD:gNl [] δ=some δ:=(rfl)
end
def Ext (h h':PH):Prop:=∀ (n:Nat) (o:MO),h[n]?=some o->h'[n]?=some o
theorem Ext.refl (h:PH):Ext h h:=fun _ _ e=>e
theorem Ext.trans {h h1 h2:PH} (a:Ext h h1) (b:Ext h1 h2):Ext h h2:=fun n o e=>b n o (a n o e)
theorem Ext.app (h g:PH):Ext h (h++g):=fun n o e=>by
 rw [dm (ab.mp e).1]; exact e
theorem Ext.len {h h':PH} (e:Ext h h'):h.length<=h'.length:=by
 rcases Nat.lt_or_ge h'.length h.length with z | z
 ·have:h[h'.length]?=some h[h'.length]:=by simp [z]
  have:=(ab.mp (e _ _ this)).1;omega
 ·exact z
theorem aJ {h:PH} {o:MO}:(h++[o])[h.length]?=some o:=by simp
theorem dI {h:PH} {n:Nat} {o o':MO} (e:h[n]?=some o):(h.set n o')[n]?=some o':=ft (ab.mp e).1
theorem eL {h:PH} {n m:Nat} {o o':MO} (e:h[m]?=some o) (d:n≠m):(h.set n o')[m]?=some o:=by rw [a8 d]; exact e
def PV.pl:Nat->PV->Bool
 | _,.non=>true
 | _,.int _=>true
 | _,.str _=>true
 | n+1,.tup xs=>xs.all (PV.pl n)
 | _,_=>false
theorem IE {x:PV} {xs:List PV} {d:D} {ds:List D} (h1:x.d=some d) (h2:PV.ds xs=some ds):PV.ds (x :: xs)=some (d :: ds):=by simp [PV.ds,h1,h2]
theorem WX {xs:List PV} {ds:List D} (h:PV.ds xs=some ds):(PV.tup xs).d=some (.tup ds):=by simp [PV.d,h]
theorem bS {xs:List PV} {d:D} (h:(PV.tup xs).d=some d):∃ ds,PV.ds xs=some ds/\d=.tup ds:=by
 unfold PV.d at h;split at h
 ·rename_i ds e; cases h; exact ⟨ds,e,rfl⟩
 ·cases h
theorem cK {x:PV} {xs:List PV} {ds:List D} (h:PV.ds (x :: xs)=some ds):∃ d r,x.d=some d/\PV.ds xs=some r/\ds=d :: r:=by
 unfold PV.ds at h;split at h
 ·rename_i d r e1 e2; cases h; exact ⟨d,r,e1,e2,rfl⟩
 ·cases h
theorem lH:∀ (n:Nat) (x:PV),x.pl n=true->∃ d,x.d=some d/\d.depth<=n:=by
 intro n
 induction n with
 | zero=>
  intro x h;cases x <;> first | exact ⟨_,rfl,ao _⟩ | (simp [PV.pl] at h)
 | succ n ih=>
  intro x h;cases x with
  | tup xs=>
   have h:xs.all (PV.pl n)=true:=h;have many:∀ (xs:List PV),xs.all (PV.pl n)=true->∃ ds,PV.ds xs=some ds/\D.depths ds<=n:=by
    intro xs
    induction xs with
    | nil=>intro _; exact ⟨[],rfl,cg _⟩
    | cons x xs ihx=>
     intro h;simp only [iq,cq] at h;obtain ⟨d,h1,h2⟩:=ih x h.1;obtain ⟨ds,h3,h4⟩:=ihx h.2;refine ⟨d :: ds,IE h1 h3,?_⟩
     show max d.depth (D.depths ds)<=n
     omega
   obtain ⟨ds,h1,h2⟩:=many xs h;refine ⟨.tup ds,WX h1,?_⟩
   show D.depths ds+1<=n+1
   omega
  | _=>first | exact ⟨_,rfl,cg _⟩ | (simp [PV.pl] at h)
theorem E3:∀ (n:Nat) (x y:PV) (d e:D),x.pl n=true->y.pl n=true->x.d=some d->y.d=some e->eqD d e=decide (x=y):=by
 intro n
 induction n with
 | zero=>
  intro x y d e hx hy h1 h2;cases x <;> first | (simp [PV.pl] at hx; done) | skip
  all_goals cases h1
  all_goals cases y <;> first | (simp [PV.pl] at hy; done) | skip
  all_goals cases h2
  all_goals simp only [eqD]
  all_goals rw [gx]
  all_goals simp
 | succ n ih=>
  intro x y d e hx hy h1 h2;have lists:∀ (xs ys:List PV) (ds es:List D),xs.all (PV.pl n)=true->ys.all (PV.pl n)=true->PV.ds xs=some ds->PV.ds ys=some es->eI ds es=decide (xs=ys):=by
   intro xs
   induction xs with
   | nil=>
    intro ys ds es _ _ h1 h2;cases h1
    cases ys with
    | nil=>cases h2; rfl
    | cons y ys=>obtain ⟨d,r,_,_,rfl⟩:=cK h2; simp [eI]
   | cons x xs ihx=>
    intro ys ds es hx hy h1 h2;obtain ⟨d,r,g1,g2,rfl⟩:=cK h1;simp only [iq,cq] at hx;cases ys with
    | nil=>cases h2; simp [eI]
    | cons y ys=>
     obtain ⟨e,q,g3,g4,rfl⟩:=cK h2;simp only [iq,cq] at hy;simp only [eI,ih x y d e hx.1 hy.1 g1 g3,ihx ys r q hx.2 hy.2 g2 g4];rw [gx];simp
  cases x with
  | tup xs=>
   obtain ⟨ds,g1,rfl⟩:=bS h1;cases y with
   | tup ys=>
    obtain ⟨es,g2,rfl⟩:=bS h2;simp only [eqD,lists xs ys ds es hx hy g1 g2];rw [gx];simp
   | non=>cases h2; simp [eqD]
   | int j=>cases h2; simp [eqD]
   | str j=>cases h2; simp [eqD]
   | _=>simp [PV.pl] at hy
  | non=>
   cases h1
   cases y with
   | tup ys=>obtain ⟨es,g2,rfl⟩:=bS h2; simp [eqD]
   | non=>cases h2; simp [eqD]
   | int j=>cases h2; simp [eqD]
   | str j=>cases h2; simp [eqD]
   | _=>simp [PV.pl] at hy
  | int i=>
   cases h1
   cases y with
   | tup ys=>obtain ⟨es,g2,rfl⟩:=bS h2; simp [eqD]
   | non=>cases h2; simp [eqD]
   | int j=>cases h2; simp only [eqD]; rw [gx]; simp
   | str j=>cases h2; simp [eqD]
   | _=>simp [PV.pl] at hy
  | str i=>
   cases h1
   cases y with
   | tup ys=>obtain ⟨es,g2,rfl⟩:=bS h2; simp [eqD]
   | non=>cases h2; simp [eqD]
   | int j=>cases h2; simp [eqD]
   | str j=>cases h2; simp only [eqD]; rw [gx]; simp
   | _=>simp [PV.pl] at hy
  | _=>simp [PV.pl] at hx
section
variable {x y:PV} {h:PH}
theorem QX (hx:x.pl 40=true) (hy:y.pl 40=true):iJ x y h=some (decide (x=y)):=by
 obtain ⟨d,h1,h2⟩:=lH 40 x hx;obtain ⟨e,h3,h4⟩:=lH 40 y hy;unfold iJ;rw [h1,h3];simp only [h2,if_true,E3 40 x y d e hx hy h1 h3]
theorem MY (hx:x.pl 40=true) (hy:y.pl 40=true):vEq x y h=.ok (.bl (decide (x=y))) h:=by unfold vEq; rw [QX hx hy]; rfl
@[simp] theorem XU {i j:Int}:vEq (.int i) (.int j) h=.ok (.bl (decide (i=j))) h:=by rw [MY rfl rfl]; congr 2; simp
@[simp] theorem XW {i j:Str}:vEq (.str i) (.str j) h=.ok (.bl (decide (i=j))) h:=by rw [MY rfl rfl]; congr 2; simp
theorem MZ {ys:List PV} (hx:x.pl 39=true) (hy:ys.all (PV.pl 39)=true):xJ x ys=some (decide (x∈ys)):=by
 have key:∀ ys:List PV,ys.all (PV.pl 39)=true->∃ ds,PV.ds ys=some ds/\D.depths ds<=39/\∀ d,x.d=some d->(ds.any fun e=>eqD e d)=decide (x∈ys):=by
  intro ys
  induction ys with
  | nil=>intro _; exact ⟨[],rfl,cg _,fun _ _=>by simp⟩
  | cons y ys ih=>
   intro h;simp only [iq,cq] at h;obtain ⟨e,h1,h2⟩:=lH 39 y h.1;obtain ⟨ds,h3,h4,h5⟩:=ih h.2;refine ⟨e :: ds,IE h1 h3,?_,fun d hd=>?_⟩
   ·show max e.depth (D.depths ds)<=39
    omega
   ·rw [kj,h5 d hd,E3 39 y x e d h.1 hx h1 hd,gx];simp only [Bool.or_eq_true,decide_eq_true_eq,a7];constructor
    ·rintro (h | h)
     ·exact .inl h.symm
     ·exact .inr h
    ·rintro (h | h)
     ·exact .inl h.symm
     ·exact .inr h
 obtain ⟨d,h1,h2⟩:=lH 39 x hx;obtain ⟨ds,h3,h4,h5⟩:=key ys hy;unfold xJ;rw [h1,h3];simp only [show D.depths ds<=40 by omega,if_true,h5 d h1]
theorem QY {n:Nat} {ys:List PV} (e:h[n]?=some (.lst ys)) (hx:x.pl 39=true) (hy:ys.all (PV.pl 39)=true):vIn x (.ref n) h=.ok (.bl (decide (x∈ys))) h:=by
 have e3:aN h n=some ys:=by unfold aN; rw [e]
 unfold vIn JJ; simp only [e3,MZ hx hy]; rfl
theorem qI {n m:Nat} {xs ys:List PV} (e1:h[n]?=some (.lst xs)) (e2:h[m]?=some (.lst ys)) (hx:xs.all (PV.pl 39)=true) (hy:ys.all (PV.pl 39)=true):iJ (.ref n) (.ref m) h=some (decide (xs=ys)):=by
 have e3:cJ (.ref n) h=some xs:=by unfold cJ aN; simp only [e1]
 have e4:cJ (.ref m) h=some ys:=by unfold cJ aN; simp only [e2]
 have hx':(PV.tup xs).pl 40=true:=hx;have hy':(PV.tup ys).pl 40=true:=hy;obtain ⟨d,h1,h2⟩:=lH 40 _ hx';obtain ⟨e,h3,h4⟩:=lH 40 _ hy';obtain ⟨ds,g1,rfl⟩:=bS h1;obtain ⟨es,g2,rfl⟩:=bS h3;have h5:=E3 40 _ _ _ _ hx' hy' h1 h3;have h2':D.depths ds+1<=40:=h2;have h5':eI ds es=decide (xs=ys):=by
  have:eI ds es=decide (PV.tup xs=PV.tup ys):=h5;rw [this,gx]; simp
 unfold iJ;have n1:(PV.ref n).d=none:=rfl;rw [n1];simp only [e3,e4,g1,g2,show D.depths ds<=40 by omega,if_true,h5']
theorem qJ {n m:Nat} {xs ys:List PV} (e1:h[n]?=some (.lst xs)) (e2:h[m]?=some (.lst ys)) (hx:xs.all (PV.pl 39)=true) (hy:ys.all (PV.pl 39)=true):vEq (.ref n) (.ref m) h=.ok (.bl (decide (xs=ys))) h:=by unfold vEq; rw [qI e1 e2 hx hy]; rfl
theorem IF {n m:Nat} {xs ys:List PV} (e1:h[n]?=some (.lst xs)) (e2:h[m]?=some (.lst ys)) (hx:xs.all (PV.pl 39)=true) (hy:ys.all (PV.pl 39)=true):vNe (.ref n) (.ref m) h=.ok (.bl (!decide (xs=ys))) h:=by unfold vNe; rw [qI e1 e2 hx hy]; rfl
end
end L2
namespace L2
section
variable {α:Type} {a b c d e f g:α} {r:List α}
theorem Ce {xs:List α} {v:α} (i:Nat) (h:xs[i]?=some v):atI xs (i:Int)=some v:=dQ h
@[simp] theorem Z4:atI (a :: r) 0=some a:=Ce 0 rfl
@[simp] theorem Z5:atI (a :: b :: r) 1=some b:=Ce 1 rfl
@[simp] theorem Z6:atI (a :: b :: c :: r) 2=some c:=Ce 2 rfl
theorem QZ {xs:List α} {i:Int} (h:xs≠[]):∃ v,atI xs (i % (xs.length:Int))=some v/\v∈xs:=by
 have h0:0 < xs.length:=ji.mpr h;obtain ⟨v,h1,h2⟩:=Up (xs:=xs) (i:=i % (xs.length:Int)) (jj _ (by omega)) (jv _ (by omega));exact ⟨v,h1,cf h2⟩
end
end L2
namespace L2
open PySem PySem.Spec PyProof.Rows PySem.SeqAt
open PySem.AutoSeq1 (wpAny_loadPart')
open PySem.MeetsSeq PySem.MeetsSeq2 PySem.MeetsSeq3
def N0 (A:Around) (s:Shared) (v u:Value) (b:Bool):Prop:=∀ (prog:Program) (w:World) (E:Value->Shared->Prop) (Q:Value->Shared->Prop),Q (.bool b) s->wpAny (model prog w) A (richCompare .Lt v u) Q E s
def WY (A:Around) (s:Shared) (v u:Value) (d e:D):Prop:=EqAt A s v u (eqD d e)/\(eqD d e=false->∀ b,ltD d e=some b->N0 A s v u b)
abbrev B2 (A:Around) (s:Shared):List Value->List Value->List D->List D->Prop:=fun vs us ds es=>vs.length=ds.length/\us.length=es.length/\∀ (j:Nat) v u d e,vs[j]?=some v->us[j]?=some u->ds[j]?=some d->es[j]?=some e->WY A s v u d e
theorem B2.tail {A:Around} {s:Shared} {v u:Value} {vs us:List Value} {d e:D} {ds es:List D} (h:B2 A s (v :: vs) (u :: us) (d :: ds) (e :: es)):WY A s v u d e/\B2 A s vs us ds es:=
 ⟨h.2.2 0 v u d e rfl rfl rfl rfl,by have:=h.1; simpa using this,by have:=h.2.1; simpa using this,fun j v u d e h1 h2 h3 h4=>h.2.2 (j+1) v u d e (by simpa using h1) (by simpa using h2) (by simpa using h3) (by simpa using h4)⟩
theorem qK (l b:Addr) (items items2:Array Value) (n n2:Nat) (dd dd2:Option Addr) (sl sl2:Array (Option Value)) (ds es:List D) (c:Bool) (hc:nY ds es=some c):
  Meets (Builtin.«tuple.__lt__» ⟨[.ref l,.ref b],[]⟩)
   (fun A R s=>s.heap.get? l=some { cls:=.type "tuple",dict:=dd,data:=.seq items n,slots:=sl }/\s.heap.get? b=some { cls:=.type "tuple",dict:=dd2,data:=.seq items2 n2,slots:=sl2 }/\
    B2 A.in1 s items.toList items2.toList ds es/\R (.ok (.ret (.bool c))) s):=
 .of_wp fun prog w A R s h=>by
  obtain ⟨hp,g,d,tk,os⟩:=s; obtain ⟨hl,hb,hit,h⟩:=h;have f2:=AutoSeq1.sub_tuple_tuple;have z1:items.size=ds.length:=by rw [<- hit.1]; simp
  have z2:items2.size=es.length:=by rw [<- hit.2.1]; simp
  wp_walk using wpAny_loadPart' hl,wpAny_loadPart' hb,wpAny_forIn_list _ (fun rest b s'=>b.1=none/\s'=⟨hp,g,d,tk,os⟩/\∃ (vs ws:List Value) (ns' ms':List D),rest=vs.zip ws/\
   B2 A.in1 ⟨hp,g,d,tk,os⟩ vs ws ns' ms'/\ns'.length+items2.size=ms'.length+items.size/\nY ns' ms'=some c) _
  case turn=>
   rintro ⟨y,x⟩ rest b s' ⟨hb',rfl,vs,ws,ns',ms',hz,hvi,hlen,hR⟩;cases vs with
   | nil=>rw [List.zip_nil_left] at hz; cases hz
   | cons v vs=>
    cases ws with
    | nil=>rw [List.zip_nil_right] at hz; cases hz
    | cons u ws=>
     rw [k8] at hz;injection hz with hyx hrest;injection hyx with hy hx;subst hy hx;cases ns' with
     | nil=>have:=hvi.1; simp at this
     | cons a ns'=>
      cases ms' with
      | nil=>have:=hvi.2.1; simp at this
      | cons e ms'=>
       obtain ⟨⟨h1,h2⟩,ht⟩:=B2.tail hvi;simp only [dq] at hlen;simp only [nY] at hR;refine aa (h1 prog w _ _ ?_);cases q:eqD a e with
       | true=>
        rw [q,if_pos rfl] at hR
        wp_walk
        exact ⟨rfl,rfl,_,_,_,_,hrest,ht,by omega,hR⟩
       | false=>
        rw [q,if_neg b9] at hR;have hri:=h2 q c hR prog w
        wp_walk using hri
        exact ⟨_,rfl,by simpa using h⟩
  case fin=>
   rintro ⟨b1,b2⟩ s' ⟨hb',rfl,vs,ws,ns',ms',hz,hvi,hlen,hR⟩;simp only at hb';subst hb';have hv:c=decide (items.size < items2.size):=by
    cases ns' with
    | nil=>
     cases ms' with
     | nil=>
      simp only [List.length_nil] at hlen;simp only [nY] at hR;cases hR
      exact (decide_eq_false (by omega)).symm
     | cons e ms'=>
      simp only [List.length_nil,dq] at hlen;simp only [nY] at hR;cases hR
      exact (decide_eq_true (by omega)).symm
    | cons a ns'=>
     cases ms' with
     | nil=>
      simp only [List.length_nil,dq] at hlen;simp only [nY] at hR;cases hR
      exact (decide_eq_false (by omega)).symm
     | cons e ms'=>
      exfalso;cases vs with
      | nil=>have:=hvi.1; simp at this
      | cons v vs=>
       cases ws with
       | nil=>have:=hvi.2.1; simp at this
       | cons u ws=>rw [k8] at hz; cases hz
   rw [hv] at h
   wp_walk
   exact ⟨_,rfl,by simpa [Builtin.Tuple.tupleCompareSizes] using h⟩
  case h=>
   exact ⟨rfl,rfl,items.toList,items2.toList,ds,es,rfl,hit,by omega,hc⟩
section
variable {X:Cx} {pins:List (Addr×Obj)} {σ:St} {H:Hp} {s:Shared}
theorem YE (I:Inv X pins σ H s):∀ (n:Nat) (d e:D) (A:Around) (x y:V) (v u:Value) (b:Bool),d.depth<=n->A.units+n < cLine->Rep X.K H d x->Rep X.K H e y->RelV x v->RelV y u->ltD d e=some b->N0 A s v u b:=by
 intro n
 induction n with
 | zero=>
  intro d e A x y v u b hd hu hx hy rx ry hb;cases d with
  | tup ds=>exact absurd hd (by show ¬ D.depths ds+1<=0; omega)
  | int i=>
   cases e with
   | int j=>
    cases hx; cases hy;obtain ⟨t,rfl⟩:=rx;obtain ⟨t',rfl⟩:=ry;simp only [ltD] at hb;cases hb
    exact fun prog w E Q q=>(PyProof.Rows.lt_int q:wpAny (model prog w) A (cm .Lt _ _) Q E s)
   | _=>simp [ltD] at hb
  | str i=>
   cases e with
   | str j=>
    cases hx; cases hy;obtain ⟨t,rfl⟩:=rx;obtain ⟨t',rfl⟩:=ry;simp only [ltD] at hb;cases hb
    exact fun prog w E Q q=>(PyProof.Rows.lt_str q:wpAny (model prog w) A (cm .Lt _ _) Q E s)
   | _=>simp [ltD] at hb
  | _=>cases e <;> simp [ltD] at hb
 | succ n ih=>
  intro d e A x y v u b hd hu hx hy rx ry hb
  by_cases h0:d.depth<=n
  ·exact ih d e A x y v u b h0 (by omega) hx hy rx ry hb
  ·cases d with
   | tup ds=>
    cases e with
    | tup es=>
     have hds:D.depths ds<=n:=by have:D.depths ds+1<=n+1:=hd; omega
     obtain ⟨a,vs,rfl,q,r⟩:=hx;cases rx
     obtain ⟨its,rv,p,_⟩:=I.tuple q;obtain ⟨a',vs',rfl,q',r'⟩:=hy;cases ry
     obtain ⟨its',rv',p',_⟩:=I.tuple q';have hb':nY ds es=some b:=by simpa [ltD] using hb
     obtain ⟨⟨cls,dd,data,sl⟩,ho,hc,m,hdt⟩:=id p;obtain ⟨⟨cls2,dd2,data2,sl2⟩,ho2,hc2,m2,hd2⟩:=id p';simp only at hc hdt hc2 hd2;subst hc hdt hc2 hd2;intro prog w E Q hq;refine richCompare_meets_room (op:=.Lt) ⟨_,ho,rfl⟩ ⟨_,ho2,rfl⟩ PySem.F.slot_tuple_lt PySem.F.entry_tuple_lt (PySem.F.args_tuple_lt_2 _ _) (qK a a' its.toArray its'.toArray m m2 dd dd2 sl sl2 ds es b hb')
      ⟨ho,ho2,⟨?_,?_,?_⟩,show Value.bool b≠Value.notImplemented/\Q (.bool b) s from ⟨(fun x=>nomatch x),hq⟩⟩ (by omega)
     ·have l1:=r.length;have l3:=rv.length
      show its.length=ds.length
      omega
     ·have l1:=r'.length;have l3:=rv'.length
      show its'.length=es.length
      omega
     ·intro j v u d e h1 h2 h3 h4;obtain ⟨xv,hxv,hrx⟩:=r.at h3;obtain ⟨yv,hyv,hry⟩:=r'.at h4;obtain ⟨xu,hxu,hru⟩:=rv.get hxv;obtain ⟨yu,hyu,hru'⟩:=rv'.get hyv;have e1:v=xu:=by
       have:its[j]?=some v:=h1;rw [hxu] at this;exact (bg this).symm
      have e2:u=yu:=by
       have:its'[j]?=some u:=h2;rw [hyu] at this;exact (bg this).symm
      subst e1 e2;have hdj:=D.depths_le h3;refine ⟨Mm I (n:=n) (by omega) ?_ hrx hry hru hru',fun _ b hb=>ih d e _ xv yv v u b (by omega) ?_ hrx hry hru hru' hb⟩
      all_goals (show A.units+1+n < cLine; omega)
    | _=>simp [ltD] at hb
   | _=>exact absurd (cg n) h0
end
variable {C:MC} {k:Nat} {X:Cx}
def R0 (x y:PV):Option Bool:=match x.d,y.d with
 | some d,some e=>if d.depth<=40 then ltD d e else none
 | _,_=>none
def xT:PV->PV->PH->Rs PV:=fun x y h=>match x,y with
 | .tup xs,.tup ys=>ofB (R0 (.tup xs) (.tup ys)) h
 | x,y=>vLt x y h
theorem UQ (hu:X.A.units+64 < cLine) (K:ag) (hK:X.K=K):OpR X (cm .Lt) (fun x y H Q=>∃ d e b,Rep K H d x/\Rep K H e y/\d.depth<=40/\ltD d e=some b/\Q (.bl b) H):=by
 subst hK;intro pins s σ H x y v u Q I rx ry h;obtain ⟨d,e,b,hx,hy,hd,hb,q⟩:=h;exact YE I 40 d e X.A x y v u b hd (by omega) hx hy rx ry hb X.prog X.w X.xe _ ⟨.bl _,H,I,rfl,q⟩
theorem Gc:OpS C k X (cm .Lt) xT:=fun c=>((UQ c.hu64 C.K c.K).or (Yq c)).imp fun x y H Q h=>by
 obtain ⟨φ,h,p,q,rh,rx,ry,po⟩:=h;unfold xT at po;split at po
 ·obtain ⟨b,e,po⟩:=po.ofB;unfold R0 at e;split at e
  ·rename_i d e' h1 h2;split at e
   ·rename_i hd;exact .inl ⟨d,e',b,rx.rep h1,ry.rep h2,hd,e,po.val rh rfl⟩
   ·cases e
  ·cases e
 ·exact .inr ⟨φ,h,p,q,rh,rx,ry,po⟩
section
variable {h:PH}
@[simp] theorem VG {i j:Int}:xT (.int i) (.int j) h=.ok (.bl (decide (i < j))) h:=(rfl)
@[simp] theorem VH {i j:Str}:xT (.str i) (.str j) h=.ok (.bl (decide (i.cps.toList < j.cps.toList))) h:=(rfl)
def ltL (f:PV->PV->Option Bool):List PV->List PV->Option Bool
 | [],[]=>some false
 | [],_ :: _=>some true
 | _ :: _,[]=>some false
 | x :: xs,y :: ys=>if x=y then ltL f xs ys else f x y
def ltP:Nat->PV->PV->Option Bool
 | _,.int a,.int b=>some (decide (a < b))
 | _,.str a,.str b=>some (decide (a.cps.toList < b.cps.toList))
 | n+1,.tup xs,.tup ys=>ltL (ltP n) xs ys
 | _,_,_=>none
theorem Tg:∀ (n:Nat) (x y:PV) (d e:D),x.pl n=true->y.pl n=true->x.d=some d->y.d=some e->ltD d e=ltP n x y:=by
 intro n
 induction n with
 | zero=>
  intro x y d e hx hy h1 h2;cases x <;> first | (simp [PV.pl] at hx; done) | skip
  all_goals cases h1
  all_goals cases y <;> first | (simp [PV.pl] at hy; done) | skip
  all_goals cases h2
  all_goals simp [ltD,ltP]
 | succ n ih=>
  intro x y d e hx hy h1 h2;have lists:∀ (xs ys:List PV) (ds es:List D),xs.all (PV.pl n)=true->ys.all (PV.pl n)=true->PV.ds xs=some ds->PV.ds ys=some es->nY ds es=ltL (ltP n) xs ys:=by
   intro xs
   induction xs with
   | nil=>
    intro ys ds es _ _ h1 h2;cases h1
    cases ys with
    | nil=>cases h2; simp [nY,ltL]
    | cons y ys=>obtain ⟨d,r,_,_,rfl⟩:=cK h2; simp [nY,ltL]
   | cons x xs ihx=>
    intro ys ds es hx hy h1 h2;obtain ⟨d,r,g1,g2,rfl⟩:=cK h1;simp only [iq,cq] at hx;cases ys with
    | nil=>cases h2; simp [nY,ltL]
    | cons y ys=>
     obtain ⟨e,q,g3,g4,rfl⟩:=cK h2;simp only [iq,cq] at hy;simp only [nY,ltL,E3 n x y d e hx.1 hy.1 g1 g3,ihx ys r q hx.2 hy.2 g2 g4,ih x y d e hx.1 hy.1 g1 g3,decide_eq_true_eq]
  cases x with
  | tup xs=>
   obtain ⟨ds,g1,rfl⟩:=bS h1;cases y with
   | tup ys=>
    obtain ⟨es,g2,rfl⟩:=bS h2;simp only [ltD,lists xs ys ds es hx hy g1 g2,ltP]
   | non=>cases h2; simp [ltD,ltP]
   | int j=>cases h2; simp [ltD,ltP]
   | str j=>cases h2; simp [ltD,ltP]
   | _=>simp [PV.pl] at hy
  | non=>cases h1; cases y <;> first | (simp [PV.pl] at hy; done) | (obtain ⟨es,g2,rfl⟩:=bS h2; simp [ltD,ltP]; done) | (cases h2; simp [ltD,ltP])
  | int i=>cases h1; cases y <;> first | (simp [PV.pl] at hy; done) | (obtain ⟨es,g2,rfl⟩:=bS h2; simp [ltD,ltP]; done) | (cases h2; simp [ltD,ltP])
  | str i=>cases h1; cases y <;> first | (simp [PV.pl] at hy; done) | (obtain ⟨es,g2,rfl⟩:=bS h2; simp [ltD,ltP]; done) | (cases h2; simp [ltD,ltP])
  | _=>simp [PV.pl] at hx
end
end L2
namespace L2
open PySem PySem.Spec PyProof.Rows
variable {C:MC} {k:Nat} {X:Cx}
theorem Gd {M:Program×World} {A:Around} {E:Value->Shared->Prop} {s:Shared} {l:Addr} {items:Array Value} {Q:Value->Shared->Prop} (hl:s.heap.IsList l items)
  (h:∀ s₂:Shared,s₂={ s with heap:=s.heap.push { cls:=.type "list_iterator",data:=.fields #[.ref l,.int 0 0] } }->
   (s₂.heap.IsListIter s.heap.objs.size l 0/\s₂.heap.IsList l items)->(∀ b∈[s.heap.objs.size,l],b < s₂.heap.objs.size)->l≠s.heap.objs.size->Q (.ref s.heap.objs.size) s₂):
  wpAny (model M.1 M.2) A (pyIter (.ref l)) Q E s:=by
 have hlt:l < s.heap.objs.size:=by obtain ⟨_,e,_⟩:=hl; exact ax e
 refine my hl (h _ rfl ⟨⟨_,ay _ rfl,rfl,rfl⟩,hl.push _⟩ (fun b hb=>?_) (az hlt))
 show b < (s.heap.push _).objs.size
 rw [j0];rcases a7.mp hb with rfl | hb
 ·exact Nat.lt_succ_self _
 ·rcases a7.mp hb with rfl | hb
  ·exact Nat.lt_succ_of_lt hlt
  ·cases hb
theorem JP:Cxt C k X->bR X (.builtin "sum") (fun xs H Q=>∃ (p:Addr) (ns:List Int),xs=[.ref p]/\SqL C.K H p (ns.map V.int)/\Q (.int ns.sum) H):=fun c=>by
 intro pins s σ H xs us Q I r h;obtain ⟨p,ns,rfl,hq,q⟩:=h;obtain ⟨u,rfl,ru⟩:=vals1 r;cases ru
 rw [<- c.K] at hq;obtain ⟨its,rv,pl,hz⟩:=I.list hq;have hi:IntsAre its ns:=intsAre_of rv;obtain ⟨ys,hy⟩:=hi.allInts.items;have hl:=pl.isList;rw [hy] at hl;refine sum_intListG (I.ok.hd c.calm) hl fun h' tk t' hk=>?_;have e:preSum (numAt ys) ys.size=ns.sum:=by
  have e1:=preSum_eq ys ys.size;rw [List.take_of_length_le (by simp)] at e1;rw [e1,<- nums_intItems,<- hy];have:=hi.numsOf;rw [show its.toArray.toList=its from rfl,this]
 rw [e];exact ⟨.int ns.sum,H,I.kept hk,⟨_,rfl⟩,q⟩
theorem JQ (hc:X.calm=true) (K:ag) (hK:X.K=K):bR X (.builtin "all") (fun xs H Q=>∃ (p:Addr) (bs:List Bool),xs=[.ref p]/\SqL K H p (bs.map V.bl)/\Q (.bl (bs.all id)) H):=by
 subst hK;intro pins s σ H xs us Q I r h;obtain ⟨p,bs,rfl,hq,q⟩:=h;obtain ⟨u,rfl,ru⟩:=vals1 r;cases ru
 obtain ⟨its,rv,pl,hz⟩:=I.list hq;have hlen:=rv.length;rw [ae] at hlen;refine call_all_walk (Gd (M:=(X.prog,X.w)) pl.isList fun s₂ e st hfp hlI=>?_);subst e;refine ⟨_,_,_,_,_,_,fun i=>(bs[i]?).getD true,rfl,Walks.list (A:=X.A.in1) (I.ok.hd hc) _ p hlI its.toArray,st,?_,fun h' tk hk=>?_⟩
 ·intro i v s' Q' E' hP hQ;have hP':its[i]?=some v:=by simpa using hP
  obtain ⟨hi,_⟩:=ab.mp hP';have hb:i < bs.length:=by omega
  obtain ⟨u,hu,ru⟩:=rv.get (show (bs.map V.bl)[i]?=some (.bl bs[i]) by simp [hb]);rw [hP'] at hu;cases hu
  cases ru
  refine ij ?_;have:(bs[i]?).getD true=bs[i]:=by simp [hb]
  rw [<- this];exact hQ
 ·have e:((ba its.toArray.size).all fun i=>(bs[i]?).getD true)=bs.all id:=by
   have hs:its.toArray.size=bs.length:=by simp [hlen]
   rw [hs,gx,bu,bu];constructor
   ·intro h b hb;obtain ⟨i,hi,rfl⟩:=List.mem_iff_getElem.mp hb;have:=h i (ip.mpr hi);simpa [hi] using this
   ·intro h i hi;have hi':=ip.mp hi;have:=h bs[i] (e9 hi');simpa [hi'] using this
  rw [e];exact ⟨.bl _,H,I.kept (old_kept hk),rfl,q⟩
def uV:List PV->Option (List Int)
 | []=>some []
 | .int i :: r=>(uV r).map (i :: ·)
 | _ :: _=>none
def JR:List PV->Option (List Bool)
 | []=>some []
 | .bl i :: r=>(JR r).map (i :: ·)
 | _ :: _=>none
theorem vW {φ:List Addr} {H:Hp}:∀ {xs:List PV} {vs:List V} {ns:List Int},RVs C φ H xs vs->uV xs=some ns->vs=ns.map V.int
 | [],[],_,_,e=>by cases e; rfl
 | x :: xs,v :: vs,ns,⟨h,r⟩,e=>by
  cases x with
  | int i=>
   cases h
   simp only [uV,bf] at e;obtain ⟨m,e,rfl⟩:=e;rw [vW r e]; rfl
  | _=>cases e
 | [],_ :: _,_,h,_=>h.elim
 | _ :: _,[],_,h,_=>h.elim
theorem N1 {φ:List Addr} {H:Hp}:∀ {xs:List PV} {vs:List V} {ns:List Bool},RVs C φ H xs vs->JR xs=some ns->vs=ns.map V.bl
 | [],[],_,_,e=>by cases e; rfl
 | x :: xs,v :: vs,ns,⟨h,r⟩,e=>by
  cases x with
  | bl i=>
   cases h
   simp only [JR,bf] at e;obtain ⟨m,e,rfl⟩:=e;rw [N1 r e]; rfl
  | _=>cases e
 | [],_ :: _,_,h,_=>h.elim
 | _ :: _,[],_,h,_=>h.elim
theorem B3 (ns:List Int):uV (ns.map PV.int)=some ns:=by
 induction ns with
 | nil=>rfl
 | cons n ns ih=>simp [uV,ih]
theorem N2 (ns:List Bool):JR (ns.map PV.bl)=some ns:=by
 induction ns with
 | nil=>rfl
 | cons n ns ih=>simp [JR,ih]
def JS:List PV->PH->Rs PV:=fun xs h=>match xs with
 | [x]=>match cJ x h with
  | some ys=>match uV ys with
   | some ns=>.ok (.int ns.sum) h
   | none=>.bad
  | none=>.bad
 | _=>.bad
def N3:List PV->PH->Rs PV:=fun xs h=>match xs with
 | [x]=>match cJ x h with
  | some ys=>match JR ys with
   | some ns=>.ok (.bl (ns.all id)) h
   | none=>.bad
  | none=>.bad
 | _=>.bad
theorem Th:gJ C k X (.builtin "sum") JS:=fun c=>(JP c).imp fun vs H Q h=>by
 obtain ⟨φ,h,ps,rh,rv,po⟩:=h;unfold JS at po;split at po
 ·obtain ⟨v,rfl,rx⟩:=rv.one;split at po
  ·rename_i ys e;split at po
   ·rename_i ns en;obtain ⟨a,vs,rfl,sa,ra⟩:=dR rh rx e;rw [vW ra en] at sa;exact ⟨a,ns,rfl,sa,po.val rh rfl⟩
   ·exact po.elim
  ·exact po.elim
 ·exact po.elim
theorem WZ:gJ C k X (.builtin "all") N3:=fun c=>(JQ c.calm C.K c.K).imp fun vs H Q h=>by
 obtain ⟨φ,h,ps,rh,rv,po⟩:=h;unfold N3 at po;split at po
 ·obtain ⟨v,rfl,rx⟩:=rv.one;split at po
  ·rename_i ys e;split at po
   ·rename_i ns en;obtain ⟨a,vs,rfl,sa,ra⟩:=dR rh rx e;rw [N1 ra en] at sa;exact ⟨a,ns,rfl,sa,po.val rh rfl⟩
   ·exact po.elim
  ·exact po.elim
 ·exact po.elim
theorem xU {h:PH} {n:Nat} {ns:List Int} (e:h[n]?=some (.lst (ns.map PV.int))):JS [.ref n] h=.ok (.int ns.sum) h:=by
 have e1:cJ (.ref n) h=some (ns.map PV.int):=by unfold cJ aN; simp only [e]
 unfold JS; simp only [e1,B3]
theorem N4 {h:PH} {n:Nat} {ns:List Bool} (e:h[n]?=some (.lst (ns.map PV.bl))):N3 [.ref n] h=.ok (.bl (ns.all id)) h:=by
 have e1:cJ (.ref n) h=some (ns.map PV.bl):=by unfold cJ aN; simp only [e]
 unfold N3; simp only [e1,N2]
open Classical in
noncomputable def JT:PV->PV->PH->Rs PV:=fun x y h=>match x,y with
 | .str z,.int n=>if z.length<=16/\-(2 ^ 63)<=n/\n<=1000 then .ok (.str (Txt.mul z n)) h else .bad
 | _,_=>.bad
theorem Ti:OpS C k X (fi .Mult) JT:=fun c=>by
 intro pins s σ H x y v u Q I rx ry h;obtain ⟨φ,h,p,q,rh,rp,rq,po⟩:=h;unfold JT at po;split at po
 ·cases rp; cases rq;obtain ⟨t,rfl⟩:=rx;obtain ⟨t',rfl⟩:=ry;obtain ⟨⟨h1,h2,h3⟩,po⟩:=po.ite;refine PySem.W.KXi.mul rfl h1 h2 (by omega) fun t'' tk _ _=>⟨.str _,H,I.tok _,⟨_,rfl⟩,po.val rh rfl⟩
 ·exact po.elim
end L2
namespace L2
open PySem
section
variable {h:PH} {lo hi:Option Int}
@[simp] theorem XX {xs:List PV}:vSl (.tup xs) lo hi h=.ok (.tup (iU xs lo hi)) h:=(rfl)
@[simp] theorem YF {xs:List PV}:vSl (.fl xs) lo hi h=.ok (.ref h.length) (h++[.lst (iU xs lo hi)]):=(rfl)
theorem IG {n:Nat} {xs:List PV} (e:h[n]?=some (.lst xs)):vSl (.ref n) lo hi h=.ok (.ref h.length) (h++[.lst (iU xs lo hi)]):=by
 have e3:aN h n=some xs:=by unfold aN; rw [e]
 unfold vSl; simp only [e3]
@[simp] theorem YG {a b:Bool}:vIs (.bl a) (.bl b) h=.ok (.bl (a == b)) h:=(rfl)
@[simp] theorem VI {a b:Bool}:xO (.bl a) (.bl b) h=.ok (.bl (!(a == b))) h:=(rfl)
@[simp] theorem XY {x:PV}:vIs x .non h=.ok (.bl (iK x)) h:=(rfl)
@[simp] theorem UR {x:PV}:xO x .non h=.ok (.bl (!iK x)) h:=(rfl)
theorem R1 {α β:Type} {f:α->β} {xs:List α}:iU (xs.map f) lo hi=(iU xs lo hi).map f:=by
 unfold iU;rw [ae,List.map_take,List.map_drop]
end
section
variable {δ:Ev} {h h1:PH} {js:List (Option Nat)} {tg:Mg} {tst:Ev->PH->Rs Bool} {elt:Me} {g:PH->Bool} {n:Nat}
theorem qL {δ0:Ev} {Q:PV->PH->Prop} (I:Nat->PH->Prop):∀ (xs:List PV) (k:Nat) (h:PH),I k h->
  (∀ i x h,k<=i->xs[i - k]?=some x->I i h->g h=true/\∃ δ1,tg x δ0=some δ1/\(tst δ1 h).W fun b h'=>if b=true then (elt δ1 h').W fun p h''=>∃ ys,h''[n]?=some (.lst ys)/\ys.length < 16777216/\I (i+1) (h''.set n (.lst (ys++[p]))) else I (i+1) h')->
  (∀ h,I (k+xs.length) h->g h=true/\Q (.ref n) h)->(kC g tg tst elt δ0 n xs h).W Q
 | [],k,h,i0,_,fin=>by
  obtain ⟨h1,h2⟩:=fin h i0;simp [kC,h1,h2]
 | x :: xs,k,h,i0,step,fin=>by
  obtain ⟨h1,δ1,h2,h3⟩:=step k x h (ao _) (by simp) i0;have go:∀ h2,I (k+1) h2->(kC g tg tst elt δ0 n xs h2).W Q:=fun h2 i2=>
   qL I xs (k+1) h2 i2 (fun i y h hk hy=>step i y h (by omega) (by
    have:i - k=(i - (k+1))+1:=by omega
    rw [this,gq]; exact hy)) (fun h hi=>fin h (by
    have e:k+(x :: xs).length=k+1+xs.length:=by simp; omega
    rw [e]; exact hi))
  unfold kC;rw [if_pos h1,h2]
  show (Rs.bind (tst δ1 h) _).W Q
  rw [sV];refine MU h3 fun b h' hb=>?_;cases b with
  | false=>exact go h' (by simpa using hb)
  | true=>
   show (Rs.bind (elt δ1 h') _).W Q
   rw [sV];refine MU (show (elt δ1 h').W _ from by simpa using hb) fun p h'' hp=>?_
   obtain ⟨ys,e,hz,hi⟩:=hp;have e':dB h'' n=some ys:=by unfold dB; rw [e]
   simp [e',hz];exact go _ hi
theorem sY {α:Type} {mi:Mi} {ys:List α} {emb:α->PV} (f:α->Option PV) (e:mi δ h=.ok ⟨ys.map emb,g⟩ h1) (hg:∀ h,Ext h1 h->g h=true) (hz:ys.length<=16777216)
  (step:∀ y∈ys,∃ δ1,tg (emb y) (bW js δ)=some δ1/\∀ h,Ext h1 h->match f y with
   | none=>tst δ1 h=.ok false h
   | some p=>tst δ1 h=.ok true h/\elt δ1 h=.ok p h):bF js mi tg tst elt δ h=.ok (.ref h1.length) (h1++[.lst (ys.filterMap f)]):=by
 have w:(bF js mi tg tst elt δ h).W fun p h'=>p=.ref h1.length/\h'=h1++[.lst (ys.filterMap f)]:=by
  unfold bF;rw [e,Rs.bind_ok];refine qL (fun i h'=>h'=h1++[.lst ((ys.take i).filterMap f)]) (ys.map emb) 0 _ (by simp) (fun i x h' _ hx hi=>?_) (fun h' hi=>?_)
  ·subst hi;have hx:(ys.map emb)[i]?=some x:=by simpa using hx
   rw [aq] at hx;obtain ⟨y,hy,rfl⟩:=bf.mp hx;have hil:=(ab.mp hy).1;obtain ⟨δ1,ht,hs⟩:=step y (cf hy);have hs:=hs (h1++[.lst ((ys.take i).filterMap f)]) (Ext.app _ _);have htk:ys.take (i+1)=ys.take i++[y]:=by rw [gg,hy]; rfl
   refine ⟨hg _ (Ext.app _ _),δ1,ht,?_⟩;cases ef:f y with
   | none=>
    rw [ef] at hs;rw [hs];simp [htk,ef]
   | some p=>
    rw [ef] at hs;rw [hs.1];simp [hs.2];refine ⟨?_,by simp [htk,ef]⟩;have:=List.length_filterMap_le f (ys.take i);rw [ic] at this;omega
  ·subst hi;simp;exact hg _ (Ext.app _ _)
 obtain ⟨p,h',e,rfl,rfl⟩:=Ah w;exact e
theorem dU {m:Me} {xs:List PV} (e:m δ h=.ok (.ref n) h1) (hn:h1[n]?=some (.lst xs)):bH m δ h=.ok ⟨xs,nE n xs⟩ h1:=by
 unfold bH;have e3:aN h1 n=some xs:=by unfold aN; rw [hn]
 rw [e,Rs.bind_ok];unfold ofSeq; simp only [e3]
theorem cT {xs:List PV} (hn:h1[n]?=some (.lst xs)):∀ h,Ext h1 h->nE n xs h=true:=fun h hx=>by
 have e3:aN h n=some xs:=by unfold aN; rw [hx _ _ hn]
 unfold nE; rw [e3]; exact PV.beqs_self xs
theorem N5 {m:Me} {xs:List PV} (e:m δ h=.ok (.tup xs) h1):bH m δ h=.ok ⟨xs,fun _=>true⟩ h1:=by
 unfold bH;rw [e]; rfl
theorem cU {α:Type} {m:Me} {ys:List α} {emb:α->PV} (f:α->Option PV) (e:m δ h=.ok (.ref n) h1) (hn:h1[n]?=some (.lst (ys.map emb))) (hz:ys.length<=16777216)
  (step:∀ y∈ys,∃ δ1,tg (emb y) (bW js δ)=some δ1/\∀ h,Ext h1 h->match f y with
   | none=>tst δ1 h=.ok false h
   | some p=>tst δ1 h=.ok true h/\elt δ1 h=.ok p h):bF js (bH m) tg tst elt δ h=.ok (.ref h1.length) (h1++[.lst (ys.filterMap f)]):=
 sY f (dU e hn) (cT hn) hz step
theorem sZ {α:Type} {m:Me} {ys:List α} {emb:α->PV} (f:α->Option PV) (e:m δ h=.ok (.tup (ys.map emb)) h1) (hz:ys.length<=16777216)
  (step:∀ y∈ys,∃ δ1,tg (emb y) (bW js δ)=some δ1/\∀ h,Ext h1 h->match f y with
   | none=>tst δ1 h=.ok false h
   | some p=>tst δ1 h=.ok true h/\elt δ1 h=.ok p h):bF js (bH m) tg tst elt δ h=.ok (.ref h1.length) (h1++[.lst (ys.filterMap f)]):=
 sY f (N5 e) (fun _ _=>rfl) hz step
theorem E4 (lo:Int):∀ n,upTo lo n=(ba n).map (fun (i:Nat)=>PV.int (lo+(i:Int)))
 | 0=>rfl
 | n+1=>by
  rw [upTo,E4 (lo+1) n,List.range_succ_eq_map,a9,bp]
  congr 1
  ·simp
  ·apply dn;intro a _;simp only [Function.comp_def]
   congr 1
   omega
theorem xV {ms:Ma} {j:Int} (f:Nat->Option PV) (e:ms δ h=.ok [.int j] h1) (hj:-4611686018427387904<=j/\j < 16777216)
  (step:∀ i:Nat,(i:Int) < j->∃ δ1,tg (.int i) (bW js δ)=some δ1/\∀ h,Ext h1 h->match f i with
   | none=>tst δ1 h=.ok false h
   | some p=>tst δ1 h=.ok true h/\elt δ1 h=.ok p h):bF js (iD ms) tg tst elt δ h=.ok (.ref h1.length) (h1++[.lst ((ba j.toNat).filterMap f)]):=by
 refine sY (emb:=fun i:Nat=>.int ((0:Int)+i)) (g:=fun _=>true) f ?_ (fun _ _=>rfl) (by simp; omega) (fun i hi=>?_)
 ·unfold iD;rw [e];have hj':-(2 ^ 62)<=j/\j < 2 ^ 62:=⟨hj.1,by omega⟩;simp only [Rs.bind_ok,IA,if_pos hj'];rw [E4]
 ·have hi':=ip.mp hi;rw [Int.zero_add];exact step i (by omega)
theorem filterMap_some {α β:Type} (f:α->β) (xs:List α):xs.filterMap (fun x=>some (f x))=xs.map f:=by
 induction xs with
 | nil=>rfl
 | cons x xs ih=>simp [ih]
end
end L2
namespace L2
open PySem PySem.Spec PyProof.Rows
section
variable {X:Cx} {pins:List (Addr×Obj)} {σ:St} {H:Hp} {s:Shared} {C:MC} {φ:List Addr}
mutual
theorem N6 (I:Inv X pins σ H s) (hK:X.K=C.K):∀ (n:Nat) {p:PV} {v:V} {u:Value},p.ky n=true->RV C φ H p v->RelV v u->HR s.heap p u
 | _,.int i,v,u,_,r,ru=>by cases r; exact ru
 | _,.str i,v,u,_,r,ru=>by cases r; exact ru
 | n+1,.tup ps,v,u,hk,r,ru=>by
  obtain ⟨a,vs,rfl,q,rs⟩:=r;cases ru
  rw [<- hK] at q;obtain ⟨its,rv,p,_⟩:=I.tuple q;exact ⟨a,its,rfl,p,Cf I hK n (bu.mp hk) rs rv⟩
 | 0,.tup _,_,_,hk,_,_=>by cases hk
 | n,.non,_,_,hk,_,_=>by cases n <;> cases hk
 | n,.bl _,_,_,hk,_,_=>by cases n <;> cases hk
 | n,.ref _,_,_,hk,_,_=>by cases n <;> cases hk
 | n,.ty _,_,_,hk,_,_=>by cases n <;> cases hk
 | n,.fl _,_,_,hk,_,_=>by cases n <;> cases hk
theorem Cf (I:Inv X pins σ H s) (hK:X.K=C.K):∀ (n:Nat) {ps:List PV} {vs:List V} {us:List Value},(∀ p∈ps,p.ky n=true)->RVs C φ H ps vs->aM vs us->HRs s.heap ps us
 | _,[],[],us,_,_,ru=>by cases ru; trivial
 | n,p :: ps,v :: vs,us,hk,r,ru=>by
  cases ru with
  | cons h t=>exact ⟨N6 I hK n (hk p ak) r.1 h,Cf I hK n (fun q hq=>hk q (aj _ hq)) r.2 t⟩
 | _,[],_ :: _,_,_,r,_=>r.elim
 | _,_ :: _,[],_,_,r,_=>r.elim
end
abbrev xW:List (PV×Addr×V)->List (PV×Addr×Value)->Prop:=Paired fun p q=>p.1=q.1/\p.2.1=q.2.1/\RelV p.2.2 q.2.2
def HD (C:MC) (φ:List Addr) (H:Hp) (X:Cx) (s:Shared) (a:Addr) (kvs:List (PV×PV)):Prop:=
 ∃ ks xs,RKd C φ H kvs ks/\xW ks xs/\xs.length<=av/\(a == fq)=false/\s.heap.DictOfH (kZ X.prog X.w) a xs
def cP (h:PH) (n:Nat):Option (List (PV×PV)):=match h[n]? with
 | some (.dD kvs)=>some kvs
 | some (.dK [])=>some []
 | _=>none
def PV.isKt:PV->Bool
 | .tup xs=>(PV.tup xs).ky 6
 | _=>false
theorem qM {p:PV} (h:p.isKt=true):p.ky 6=true:=by cases p <;> first | exact h | cases h
theorem jP {p:PV} {v:V} (h:p.isKt=true) (r:RV C φ H p v):∃ b,v=.ref b:=by
 cases p <;> first | (obtain ⟨b,_,e,_⟩:=r; exact ⟨b,e⟩) | cases h
theorem uW {h:PH} {n:Nat} {a:Addr} {kvs:List (PV×PV)} (I:Inv X pins σ H s) (hK:X.K=C.K) (hw:X.w=C.w) (rh:RH C φ H h) (ha:φ[n]?=some a) (e:cP h n=some kvs):HD C φ H X s a kvs/\Mut (H a)/\DK (H a):=by
 unfold cP at e;split at e
 ·rename_i kv hk;cases e
  obtain ⟨ks,hH,r⟩:=rh.at' n a _ ha hk;have hO:cB X.prog X.w H s.heap a (dDO C.w a ks):=I.hok a _ hH;obtain ⟨⟨hz,hm,xs,rx,o,es,ep,h1,h2,h3,h4,h5⟩,_⟩:=hO;refine ⟨⟨ks,xs,r,rx,by rw [<- ff rx]; exact hz,hm,o,es,ep,h1,h2,h3,?_,?_,h5⟩,by rw [hH]; exact ik,by rw [hH]; exact ik⟩
  ·rw [h4,<- hw]; rfl
  ·have all:∀ {l:List (PV×PV)} {m:List (PV×Addr×V)} {z:List (PV×Addr×Value)},RKd C φ H l m->xW m z->∀ x∈z,(kZ X.prog X.w).is s.heap x.1 x.2.1:=by
    intro l m z q;unfold RKd at q
    induction q generalizing z with
    | nil=>intro rz x hx; cases rz; cases hx
    | cons hq t ih=>
     intro rz x hx;cases rz with
     | cons hz' tz=>
      rcases a7.mp hx with e | hx
      ·subst e;refine ⟨?_,?_⟩
       ·rw [<- hz'.1,<- hq.1]; exact hq.2.1
       ·rw [<- hz'.1,<- hq.1,<- hz'.2.1]; exact N6 I hK 6 hq.2.1 hq.2.2.1 rfl
      ·exact ih tz x hx
   exact all r rx
 ·rename_i hk;cases e
  obtain ⟨ks,hH,r⟩:=rh.at' n a _ ha hk;have:ks=[]:=by cases r; rfl
  subst this;obtain ⟨z,hd,vs,rel,o,es,ep,h1,h2,h3,h4,h5,h6⟩:=DG I.hok hH;have:vs=[]:=by cases rel; rfl
  subst this;refine ⟨⟨[],[],.nil,.nil,cg _,hd,o,es,ep,h1,h2,h3,?_,(fun x hx=>nomatch hx),List.nodup_nil⟩,by rw [hH]; exact ik,by rw [hH]; exact ik⟩;cases he:es.toList with
  | nil=>rfl
  | cons y ys=>rw [he] at h5; cases h5
 ·cases e
theorem HD.val {a:Addr} {kvs:List (PV×PV)} {ks:List (PV×Addr×V)} {xs:List (PV×Addr×Value)} (r:RKd C φ H kvs ks) (rx:xW ks xs) (k:PV):match aX kvs k,(atKey xs k).map (·.2) with
  | some p,some u=>∃ v,RelV v u/\RV C φ H p v
  | none,none=>True
  | _,_=>False:=by
 unfold RKd at r
 induction r generalizing xs with
 | nil=>cases rx; trivial
 | @cons p q ps qs h t ih=>
  cases rx with
  | @cons q' x qs' xs' hx tx=>
   obtain ⟨pk,pv⟩:=p
   by_cases e:pk=k
   ·have e':x.1=k:=hx.1.symm.trans (h.1.symm.trans e);have b:atKey (x :: xs') k=some x.2:=by simp [atKey,jf,e']
    rw [b];unfold aX;rw [if_pos e];exact ⟨_,hx.2.2,h.2.2.2⟩
   ·have e':¬ x.1=k:=fun z=>e (h.1.trans (hx.1.trans z));have b:atKey (x :: xs') k=atKey xs' k:=by simp [atKey,jf,e']
    rw [b];unfold aX;rw [if_neg e];exact ih tx
def dO {κ:Type} [DecidableEq κ] (kvs:List (κ×PV)) (k:κ) (p:PV):List (κ×PV):=if (aX kvs k).isSome then kvs.map (fun kv=>if kv.1=k then (kv.1,p) else kv) else kvs++[(k,p)]
theorem HD.replace {a:Addr} {kvs:List (PV×PV)} {ks:List (PV×Addr×V)} {xs:List (PV×Addr×Value)} (r:RKd C φ H kvs ks) (rx:xW ks xs) (k:PV) {p:PV} {v:V} {u:Value} (rp:RV C φ H p v) (ru:RelV v u):
  ∃ ks',RKd C φ H (kvs.map fun kv=>if kv.1=k then (kv.1,p) else kv) ks'/\xW ks' (xs.map (putAt k u)):=by
 unfold RKd at r
 induction r generalizing xs with
 | nil=>cases rx; exact ⟨[],.nil,.nil⟩
 | @cons pp q ps qs h t ih=>
  cases rx with
  | @cons q' x qs' xs' hx tx=>
   obtain ⟨ks',r1,r2⟩:=ih tx
   by_cases e:pp.1=k
   ·refine ⟨(q.1,q.2.1,v) :: ks',.cons ?_ r1,.cons ?_ r2⟩
    ·simp only [if_pos e]; exact ⟨h.1,h.2.1,h.2.2.1,rp⟩
    ·unfold putAt; rw [if_pos (hx.1.symm.trans (h.1.symm.trans e))]; exact ⟨hx.1,hx.2.1,ru⟩
   ·refine ⟨q :: ks',.cons ?_ r1,.cons ?_ r2⟩
    ·simp only [if_neg e]; exact h
    ·unfold putAt; rw [if_neg fun z=>e (h.1.trans (hx.1.trans z))]; exact hx
theorem HD.put {a b:Addr} {kvs:List (PV×PV)} {ks:List (PV×Addr×V)} {xs:List (PV×Addr×Value)} (r:RKd C φ H kvs ks) (rx:xW ks xs) {k:PV} (hk:k.ky 6=true) (rk:RV C φ H k (.ref b)) {p:PV} {v:V} {u:Value} (rp:RV C φ H p v) (ru:RelV v u):
  ∃ ks',RKd C φ H (dO kvs k p) ks'/\xW ks' (storedH xs k b u):=by
 have hv:=HD.val (a:=b) r rx k;unfold dO storedH;cases e1:aX kvs k with
 | some p0=>
  rw [e1] at hv;cases e2:atKey xs k with
  | none=>rw [e2] at hv; exact hv.elim
  | some z=>exact HD.replace (a:=b) r rx k rp ru
 | none=>
  rw [e1] at hv;cases e2:atKey xs k with
  | some z=>rw [e2] at hv; exact hv.elim
  | none=>exact ⟨ks++[(k,b,v)],Paired.snoc r ⟨rfl,hk,rk,rp⟩,Paired.snoc rx ⟨rfl,rfl,ru⟩⟩
theorem HD.isSome {kvs:List (PV×PV)} {ks:List (PV×Addr×V)} {xs:List (PV×Addr×Value)} (r:RKd C φ H kvs ks) (rx:xW ks xs) (k:PV):(atKey xs k).isSome=(aX kvs k).isSome:=by
 have hv:=HD.val (a:=0) r rx k;cases e1:aX kvs k with
 | some p0=>
  rw [e1] at hv;cases e2:atKey xs k with
  | none=>rw [e2] at hv; exact hv.elim
  | some z=>rfl
 | none=>
  rw [e1] at hv;cases e2:atKey xs k with
  | some z=>rw [e2] at hv; exact hv.elim
  | none=>rfl
theorem uX (I:Inv X pins σ H s) (hK:X.K=C.K) {p:PV} {b:Addr} (hk:p.isKt=true) (r:RV C φ H p (.ref b)):(kZ X.prog X.w).is s.heap p b:=⟨qM hk,N6 I hK 6 (qM hk) r rfl⟩
end
section
variable {C:MC} {k:Nat} {X:Cx}
theorem Cxt.room6 (c:Cxt C k X):(kZ X.prog X.w).room X.A.in1:=by
 have:=c.hu64
 show X.A.units+1+6 < cLine
 omega
def iN (x y:PV) (h:PH):Option (Option PV):=match y with
 | .ref n=>if x.isKt=true then (cP h n).map fun kvs=>aX kvs x else none
 | _=>none
def IH (C:MC):V->V->Hp->(List Addr->Option PV->Prop)->Prop:=fun x y H R=>∃ φ h p n a kvs,RH C φ H h/\RV C φ H p x/\y=.ref a/\φ[n]?=some a/\cP h n=some kvs/\p.isKt=true/\R φ (aX kvs p)
theorem oD {φ:List Addr} {H:Hp} {h:PH} {p q:PV} {x y:V} {o:Option PV} {R:List Addr->Option PV->Prop} (rh:RH C φ H h) (rx:RV C φ H p x) (ry:RV C φ H q y) (e:iN p q h=some o) (r:R φ o):IH C x y H R:=by
 unfold iN at e;cases q with
 | ref n=>
  obtain ⟨a,rfl,ha⟩:=ry;dsimp only at e;split at e
  ·rename_i hk;cases e1:cP h n with
   | none=>rw [e1] at e; cases e
   | some kvs=>rw [e1] at e; cases e; exact ⟨φ,h,p,n,a,kvs,rh,rx,rfl,ha,e1,hk,r⟩
  ·cases e
 | _=>cases e
theorem R3 (c:Cxt C k X):OpR X (cm .In) (fun x y H Q=>IH C x y H fun _ o=>Q (.bl o.isSome) H):=fun pins s σ H x y v u Q I rx ry h=>by
 obtain ⟨φ,h,p,n,a,kvs,rh,rp,rfl,ha,ht,hk,q⟩:=h;cases ry
 obtain ⟨b,rfl⟩:=jP hk rp;cases rx
 obtain ⟨⟨ks,xs,r,rx',hz,hm,dd⟩,_⟩:=uW I c.K c.w rh ha ht;refine wpAny_in_heap c.room6 (uX I c.K hk rp) hm dd ?_;rw [HD.isSome r rx' p];exact ⟨.bl _,H,I.tok _,rfl,q⟩
theorem Ge (c:Cxt C k X):OpR X (cm .NotIn) (fun x y H Q=>IH C x y H fun _ o=>Q (.bl (!o.isSome)) H):=fun pins s σ H x y v u Q I rx ry h=>by
 obtain ⟨φ,h,p,n,a,kvs,rh,rp,rfl,ha,ht,hk,q⟩:=h;cases ry
 obtain ⟨b,rfl⟩:=jP hk rp;cases rx
 obtain ⟨⟨ks,xs,r,rx',hz,hm,dd⟩,_⟩:=uW I c.K c.w rh ha ht;refine wpAny_notIn_heap c.room6 (uX I c.K hk rp) hm dd ?_;rw [HD.isSome r rx' p];exact ⟨.bl _,H,I.tok _,rfl,q⟩
def Gf:PV->PV->PH->Rs PV:=fun x y h=>match iN x y h with
 | some o=>.ok (.bl o.isSome) h
 | none=>vIn x y h
def jQ:PV->PV->PH->Rs PV:=fun x y h=>match iN x y h with
 | some o=>.ok (.bl (!o.isSome)) h
 | none=>MF x y h
theorem X0:OpS C k X (cm .In) Gf:=fun c=>((Yr c).or (R3 c)).imp fun x y H Q h=>by
 obtain ⟨φ,h,p,q,rh,rx,ry,po⟩:=h;unfold Gf at po;cases e:iN p q h with
 | none=>rw [e] at po; exact .inl ⟨φ,h,p,q,rh,rx,ry,po⟩
 | some o=>rw [e] at po; exact .inr (oD rh rx ry e (po.val rh rfl))
theorem N7:OpS C k X (cm .NotIn) jQ:=fun c=>((QJ c).or (Ge c)).imp fun x y H Q h=>by
 obtain ⟨φ,h,p,q,rh,rx,ry,po⟩:=h;unfold jQ at po;cases e:iN p q h with
 | none=>rw [e] at po; exact .inl ⟨φ,h,p,q,rh,rx,ry,po⟩
 | some o=>rw [e] at po; exact .inr (oD rh rx ry e (po.val rh rfl))
theorem YH (c:Cxt C k X):IxR X (fun x y H Q=>IH C y x H fun φ o=>∃ p,o=some p/\∀ v:V,RV C φ H p v->Q v H):=by
 intro value slice pins s σ H x y v u Q I rx ry h hs;obtain ⟨φ,h,p,n,a,kvs,rh,rp,rfl,ha,ht,hk,p',ep,q⟩:=h;cases rx
 obtain ⟨b,rfl⟩:=jP hk rp;cases ry
 obtain ⟨⟨ks,xs,r,rx',hz,hm,dd⟩,_⟩:=uW I c.K c.w rh ha ht;have hT:=dd.typeIs;have hv:=HD.val (a:=a) r rx' p;rw [ep] at hv;cases e2:atKey xs p with
 | none=>rw [e2] at hv; exact hv.elim
 | some z=>
  rw [e2] at hv;obtain ⟨v',rv1,rv2⟩:=hv;unfold subscriptTail;refine aa ?_;rw [getitemInPython_of_ne hT.not_modules];refine aa (wpAny_specialOf hT PySem.F.slot_dict_getitem.lookup ?_);have fin:wpAny (model X.prog X.w) X.A (subscripted slice false (.ref a) (.ref b)) (fun r s₃=>wpAny (model X.prog X.w) X.A (letTemporaryGo value (.ref a) r >>= fun _=>pure r) (EP X pins σ Q) X.xe s₃) X.xe s:=by
   rw [hs];exact wpAny_operating (wpAny_getItem_heap c.room6 (uX I c.K hk rp) dd e2 (aa (wpAny_letTemporaryGo (ai ⟨v',H,I.tok _,rv1,q v' rv2⟩))))
  first
   | exact ai (aa fin)
   | exact aa (ai (aa fin))
   | exact aa fin
def vAt:PV->PV->PH->Rs PV:=fun x y h=>match iN y x h with
 | some (some p)=>.ok p h
 | some none=>.bad
 | none=>vIx x y h
theorem bE {a b:Expr} {ma mb:Me} {pos:Pos} (ha:SE C k X a ma) (hb:SE C k X b mb) (hs:Ih b:=by intro _ _; rfl):SE C k X (.Subscript a b pos) (aD vAt ma mb):=fun c=>
 (W9 ((ixC c.hu C.K c.K).or (YH c)) (ha c) (hb c) hs).imp fun σ H Q h=>by
  obtain ⟨φ,δ,h,rh,re,p⟩:=Ip h;refine ⟨φ,δ,h,rh,re,p.imp ?_⟩;rintro v H1 ⟨φ,δ,h,rh,re,p⟩;refine ⟨φ,δ,h,rh,re,p.imp ?_⟩;rintro u H2 ⟨φ,h,p,q,rh,rx,ry,po⟩;unfold vAt at po;cases e:iN q p h with
  | none=>rw [e] at po; exact .inl (Wy ⟨φ,h,p,q,rh,rx,ry,po⟩)
  | some o=>
   rw [e] at po;cases o with
   | none=>exact po.elim
   | some r=>exact .inr (oD rh ry rx e ⟨r,rfl,fun v' rv=>po.val rh rv⟩)
def vS (x y v:PV) (h:PH):Option PH:=match x with
 | .ref n=>match pZ y,h[n]? with
  | some key,some (.dK kvs)=>if kvs.length < av then some (h.set n (.dK (dO kvs key v))) else none
  | some _,_=>none
  | none,_=>if y.isKt=true then (match cP h n with
   | some kvs=>if kvs.length < av then some (h.set n (.dD (dO kvs y v))) else none
   | none=>none) else none
 | _=>none
theorem Gg {φ:List Addr} {H:Hp} {κ:Type} [DecidableEq κ] {kvs:List (κ×PV)} {ks:List (κ×V)} (r:RKv C φ H kvs ks) (a:κ):(aX kvs a).isSome=(iQ ks a).isSome:=by
 have:=sS r a;cases e1:aX kvs a with
 | none=>
  cases e2:iQ ks a with
  | none=>rfl
  | some v=>rw [e1,e2] at this; exact this.elim
 | some p=>
  cases e2:iQ ks a with
  | none=>rw [e1,e2] at this; exact this.elim
  | some v=>rfl
theorem xX {φ:List Addr} {H:Hp} {κ:Type} [DecidableEq κ] {kvs:List (κ×PV)} {ks:List (κ×V)} (r:RKv C φ H kvs ks) (a:κ) {p:PV} {v:V} (rp:RV C φ H p v):RKv C φ H (dO kvs a p) (putK ks a v):=by
 unfold dO putK;rw [wK,Gg r a];split
 ·rename_i hx;clear hx;unfold RKv at r ⊢
  induction r with
  | nil=>exact .nil
  | @cons p' q' ps qs h t ih=>
   refine .cons ?_ ih
   by_cases e:p'.1=a
   ·have e':q'.1=a:=h.1.symm.trans e;simp only [if_pos e,if_pos e'];exact ⟨h.1,rp⟩
   ·have e':¬ q'.1=a:=fun z=>e (h.1.trans z);simp only [if_neg e,if_neg e'];exact h
 ·exact Paired.snoc r ⟨rfl,rp⟩
theorem B4 {φ:List Addr} {H:Hp} {h h':PH} {px py pv:PV} {x y v:V} (c:Cxt C k X) (rh:RH C φ H h) (rx:RV C φ H px x) (ry:RV C φ H py y) (rv:RV C φ H pv v) (e:vS px py pv h=some h') {pins:List (Addr×Obj)} {σ:St} {s:Shared} {xu yu vu:Value}
  {Q:Unit->Shared->Prop} (I:Inv X pins σ H s) (rxu:RelV x xu) (ryu:RelV y yu) (rvu:RelV v vu) (q:∀ s' H',Inv X pins σ H' s'->Kp H H'->RH C φ H' h'->Q () s'):wpAny (model X.prog X.w) X.A (setItem xu yu vu) Q X.xe s:=by
 unfold vS at e;cases px with
 | ref n=>
  obtain ⟨a,rfl,ha⟩:=rx;cases rxu
  dsimp only at e;split at e
  ·rename_i key kvs hkey hk;split at e
   ·rename_i hl;cases e
    obtain ⟨ks,hH,rk⟩:=rh.at' n a _ ha hk;have ey:y=kV key:=xK ry hkey;subst ey;have hl':ks.length < av:=by rw [<- ff rk]; exact hl
    refine Js c.hu I (.k hH hl') ryu rvu fun s' I'=>q s' _ I' (Kp.dK hH) ?_;refine rh.write ha (by rw [hH]; exact ik) ⟨_,bK,?_⟩;exact (xX rk key rv).mono aw (Kp.dK hH)
   ·cases e
  ·cases e
  ·split at e
   ·rename_i hk;split at e
    ·rename_i kvs ht;split at e
     ·rename_i hl;cases e
      obtain ⟨b,rfl⟩:=jP hk ry;cases ryu
      obtain ⟨⟨ks,xs,r,rx',hz,hm,dd⟩,mu,nt⟩:=uW I c.K c.w rh ha ht;refine wpAny_setItem_heap (hsz:=hz) c.room6 (uX I c.K hk ry) dd fun h' dd' hs=>?_;obtain ⟨ks',r1,r2⟩:=HD.put (a:=a) r rx' (qM hk) ry rv rvu;obtain ⟨o,es,ep,hq,h2,h3,h4,_,h5⟩:=dd';have hl2:ks'.length<=av:=by
       have e1:=ff r1;have e2:(dO kvs py pv).length<=kvs.length+1:=by
        unfold dO;split
        ·rw [ae]; omega
        ·simp
       omega
      refine q _ (upd H a (dDO C.w a ks')) (pN I mu hs ⟨o,hq⟩ ⟨⟨hl2,hm,_,r2,o,es,ep,hq,h2,h3,?_,h5⟩,⟨o,hq⟩,?_⟩) (Kp.upd nt) ?_
      ·rw [h4,<- c.w]; rfl
      ·rintro g1 g2 ⟨z1,z2,ws,z3,o',es',ep',z4,z5⟩ keep;exact ⟨z1,z2,ws,z3,o',es',ep',keep _ z4,z5⟩
      ·exact rh.write ha nt ⟨ks',bK,RKd.mono aw (Kp.upd nt) r1⟩
     ·cases e
    ·cases e
   ·cases e
 | _=>cases e
end
end L2
namespace L2
open PySem PySem.Spec PyProof.Rows
def MtG (C:MC) (k:Nat) (X:Cx) (T:String) (ty:PV->PH->Bool) (id:String) (g:PV->List PV->PH->Rs PV):Prop:=Cxt C k X->MtR X id (rM C g)/\
 ∀ pins s σ H φ h p x v,Inv X pins σ H s->RH C φ H h->RV C φ H p x->RelV x v->ty p h=true->s.TypeIs v T/\∀ a,v=.ref a->∃ ob,s.heap.get? a=some ob/\ob.dict=none
section
variable {C:MC} {k:Nat} {X:Cx}
section
variable {o e:Expr} {es:List Expr} {mo:Me} {ms:Ma} {name:Str} {apos cpos:Pos} {T id:String} {ty:PV->PH->Bool} {g:PV->List PV->PH->Rs PV}
theorem US (pa:PlainAttrs T) (slot:Slot T name id) (hty:typeOf (.builtin id)=pure (.type "method_descriptor")) (hm:MtG C k X T ty id g) (ho:SE C k X o mo) (ha:SA C k X (e :: es) ms)
  (hbase:km o name X.env (eval o X.env)=eval o X.env:=by rfl)
  (hfew:((backTo cpos (b8 (e :: es) X.env)).all (fun x=>!x.1) && (backToKw cpos (keywordEach [] X.env)).all (fun x=>x.1.isSome)
   && decide ((e :: es).length+([]:List Keyword).length+(if ([]:List Keyword).isEmpty then 0 else 1) < 30))=true:=by rfl)
  (hline:(apos.endLine == cpos.line)=true:=by rfl) (hs:b8 (e :: es) X.env=(false,eval e X.env) :: b8 es X.env:=by rfl) (hplain:(backTo cpos (b8 es X.env)).any (·.1)=false:=by rfl):
  SE C k X (.Call (.Attribute o name apos) (e :: es) [] cpos) (mMt ty g mo ms):=fun c pins s σ H Q I ⟨φ,δ,h,rh,re,p⟩=>by
 refine wpAny_Call_method_late hbase hfew hline rfl (thn (ho c pins s σ H _ I ⟨φ,δ,h,rh,re,post.bind p⟩) ?_);rintro v s1 ⟨x,H1,I1,r1,φ1,px,h1,p1,t1,rh1,rv1,q1⟩;obtain ⟨ht,q1⟩:=q1.ite;obtain ⟨g1,g2⟩:=(hm c).2 pins s1 σ H1 φ1 h1 px x v I1 rh1 rv1 r1 ht;refine ⟨T,id,pa,slot,hty,g1,g2,?_⟩;have hA:=ha c cpos pins s1 σ H1 _ I1 ⟨φ1,δ,h1,rh1,re.mono p1 t1,postA.bind q1⟩;rw [hs] at hA ⊢;refine k6 (show (false || (backTo cpos (b8 es X.env)).any (·.1))=false by rw [hplain]; rfl) (Calls.evalArgs_plain (thn hA ?_));rintro us s2 ⟨vs,H2,I2,r2,φ2,ps,h2,p2,t2,rh2,rv2,q2⟩;exact (hm c).1 pins s2 σ H2 x vs v us Q I2 r1 r2 ⟨φ2,h2,px,ps,rh2,rv1.mono p2 t2,rv2,q2⟩
theorem Tj (pa:PlainAttrs T) (slot:Slot T name id) (hty:typeOf (.builtin id)=pure (.type "method_descriptor")) (hm:MtG C k X T ty id g) (ho:SE C k X o mo)
  (hbase:km o name X.env (eval o X.env)=eval o X.env:=by rfl) (hline:(apos.endLine == cpos.line)=true:=by rfl):SE C k X (.Call (.Attribute o name apos) [] [] cpos) (JM ty g mo):=fun c pins s σ H Q I ⟨φ,δ,h,rh,re,p⟩=>by
 refine wpAny_Call_method0_late hbase hline (thn (ho c pins s σ H _ I ⟨φ,δ,h,rh,re,post.bind p⟩) ?_);rintro v s1 ⟨x,H1,I1,r1,φ1,px,h1,p1,t1,rh1,rv1,q1⟩;obtain ⟨ht,q1⟩:=q1.ite;obtain ⟨g1,g2⟩:=(hm c).2 pins s1 σ H1 φ1 h1 px x v I1 rh1 rv1 r1 ht;exact ⟨T,id,pa,slot,hty,g1,g2,k6 rfl (PySem.evalArgs_none ((hm c).1 pins s1 σ H1 x [] v [] Q I1 r1 .nil ⟨φ1,h1,px,[],rh1,rv1,trivial,q1⟩))⟩
end
def eD (x:PV) (h:PH):Bool:=match x with
 | .ref n=>match h[n]? with
  | some (.dK _)=>true
  | some (.dD _)=>true
  | _=>false
 | _=>false
theorem qN (c:Cxt C k X):∀ pins s σ H φ h p x v,Inv X pins σ H s->RH C φ H h->RV C φ H p x->RelV x v->eD p h=true->s.TypeIs v "dict" /\ ∀ a,v=.ref a->∃ ob,s.heap.get? a=some ob/\ob.dict=none:=by
 intro pins s σ H φ h p x v I rh rv r e;unfold eD at e;cases p with
 | ref n=>
  obtain ⟨a,rfl,ha⟩:=rv;cases r
  dsimp only at e;split at e
  ·rename_i kvs hk;obtain ⟨ks,hH,rk⟩:=rh.at' n a _ ha hk;obtain ⟨z,hd,vs,rel,dd⟩:=DG I.hok hH;refine ⟨dd.typeIs,fun b eb=>?_⟩;cases eb
   obtain ⟨ob,_,_,h1,h2,_⟩:=dd;exact ⟨ob,h1,h2.2.1⟩
  ·rename_i kvs hk;have ht:cP h n=some kvs:=by unfold cP; rw [hk]
   obtain ⟨⟨ks,xs,r,rx',hz,hm,dd⟩,_⟩:=uW I c.K c.w rh ha ht;refine ⟨dd.typeIs,fun b eb=>?_⟩;cases eb
   obtain ⟨ob,_,_,h1,h2,_⟩:=dd;exact ⟨ob,h1,h2.2.1⟩
  ·cases e
 | _=>cases e
def dG (h:PH) (x y:PV):Option (Option PV):=match iN y x h with
 | some o=>some o
 | none=>match x with
  | .ref n=>DW h n y
  | _=>none
def Gh:PV->List PV->PH->Rs PV:=fun x ps h=>match ps with
 | [y]=>match dG h x y with
  | some o=>.ok (o.getD .non) h
  | none=>.bad
 | [y,z]=>match dG h x y with
  | some o=>.ok (o.getD z) h
  | none=>.bad
 | _=>.bad
theorem N8 {x y:PV} {h:PH} {o:Option PV} (e:iN x y h=some o):∃ n kvs,y=.ref n/\x.isKt=true/\cP h n=some kvs/\o=aX kvs x:=by
 unfold iN at e;cases y with
 | ref n=>
  dsimp only at e;split at e
  ·rename_i hk;cases e1:cP h n with
   | none=>rw [e1] at e; cases e
   | some kvs=>rw [e1] at e; cases e; exact ⟨n,kvs,rfl,hk,e1,rfl⟩
  ·cases e
 | _=>cases e
theorem UT (c:Cxt C k X):MtR X "dict.get" (rM C Gh):=fun pins s σ H x xs v us Q I rx rs h=>by
 obtain ⟨φ,h,p,ps,rh,rp,rps,po⟩:=h
 -- what is found
 have key:∀ {y:PV} {yv:V} {yu:Value} {o:Option PV} {d:PV} {dv:V} {du:Value} {more:List Value},dG h p y=some o->RV C φ H y yv->RelV yv yu->RV C φ H d dv->RelV dv du->
   ((more=[]/\du=.none/\dv=.non)\/more=[du])->(∀ z,RV C φ H (o.getD d) z->Q z H)->wpAny (model X.prog X.w) X.A (call (.builtin "dict.get") (v :: yu :: more)) (EP X pins σ Q) X.xe s:=by
  intro y yv yu o d dv du more e ry ryu rd rdu hm q;unfold dG at e;cases e1:iN y p h with
  | some o'=>
   rw [e1] at e;cases e
   obtain ⟨n,kvs,rfl,hk,ht,rfl⟩:=N8 e1;obtain ⟨a,rfl,ha⟩:=rp;cases rx
   obtain ⟨b,rfl⟩:=jP hk ry;cases ryu
   obtain ⟨⟨ks,xs,r,rx',hz,hm',dd⟩,_⟩:=uW I c.K c.w rh ha ht;have hv:=HD.val (a:=a) r rx' y;have fin:EP X pins σ Q (((atKey xs y).map (·.2)).getD du) { s with toks:=s.toks+(kZ X.prog X.w).draws y }:=by
    cases e2:aX kvs y with
    | some p2=>
     rw [e2] at hv q;cases e3:atKey xs y with
     | none=>rw [e3] at hv; exact hv.elim
     | some z=>
      rw [e3] at hv;obtain ⟨v',rv1,rv2⟩:=hv;exact ⟨v',H,I.tok _,rv1,q v' rv2⟩
    | none=>
     rw [e2] at hv q;cases e3:atKey xs y with
     | some z=>rw [e3] at hv; exact hv.elim
     | none=>exact ⟨dv,H,I.tok _,rdu,q dv rd⟩
   rcases hm with ⟨rfl,rfl,_⟩ | rfl
   ·exact jr fe dd.typeIs ig (PySem.F.args_dict_get_2 _ _) (meetsH_dict_get (kZ X.prog X.w) a b hm') ⟨c.room6,y,xs,uX I c.K hk ry,dd,fin⟩
   ·exact jr fe dd.typeIs ig (PySem.F.args_dict_get_3 _ _ _) (meetsH_dict_get_default (kZ X.prog X.w) a b hm' du) ⟨c.room6,y,xs,uX I c.K hk ry,dd,fin⟩
  | none=>
   rw [e1] at e;cases p with
   | ref n=>
    obtain ⟨a,rfl,ha⟩:=rp;cases rx
    dsimp only at e;obtain ⟨o',g,is,val⟩:=oC rh ha ry e;have fin:∀ w' s',Inv X pins σ H s'->RelV (o'.getD dv) w'->EP X pins σ Q w' s':=fun w' s' I' r'=>by
     refine ⟨o'.getD dv,H,I',r',q _ ?_⟩;cases o with
     | some p2=>obtain ⟨w2,rfl,rw2⟩:=val p2 rfl; exact rw2
     | none=>
      cases o' with
      | none=>exact rd
      | some z=>cases is
    rcases hm with ⟨rfl,rfl,rfl⟩ | rfl
    ·exact Ug c.hu I g ryu fin
    ·exact Uh c.hu I g ryu rdu fin
   | _=>cases e
 unfold Gh at po;split at po
 ·rename_i y;split at po
  ·rename_i o e;obtain ⟨yv,rfl,ry⟩:=rps.one;obtain ⟨yu,rfl,ryu⟩:=vals1 rs;exact key (d:=.non) (dv:=.non) (du:=.none) e ry ryu rfl rfl (.inl ⟨rfl,rfl,rfl⟩) fun z rz=>po.val rh rz
  ·exact po.elim
 ·rename_i y z;split at po
  ·rename_i o e;obtain ⟨yv,zv,rfl,ry,rz⟩:=rps.two;obtain ⟨yu,zu,rfl,ryu,rzu⟩:=vals2 rs;exact key e ry ryu rz rzu (.inr rfl) fun z rz=>po.val rh rz
  ·exact po.elim
 ·exact po.elim
theorem Tn:MtG C k X "dict" eD "dict.get" Gh:=fun c=>⟨UT c,qN c⟩
def lI:List PV->Option (List (Key×PV))
 | []=>some []
 | .tup [y,v] :: r=>match pZ y,lI r with
  | some key,some rs=>some ((key,v) :: rs)
  | _,_=>none
 | _ :: _=>none
def tB (kvs more:List (Key×PV)):List (Key×PV):=more.foldl (fun acc kv=>dO acc kv.1 kv.2) kvs
theorem Gi {φ:List Addr} {H:Hp}:∀ {more:List (Key×PV)} {ms:List (Key×V)} {kvs:List (Key×PV)} {ks:List (Key×V)},RKv C φ H more ms->RKv C φ H kvs ks->RKv C φ H (tB kvs more) (sI ks ms):=by
 intro more ms kvs ks r;unfold RKv at r
 induction r generalizing kvs ks with
 | nil=>intro q; exact q
 | @cons p q ps qs h t ih=>
  intro r0;have e:=xX r0 p.1 h.2;rw [show putK ks p.1 q.2=putK ks q.1 q.2 by rw [h.1]] at e;exact ih e
theorem Inv.tupleD {pins:List (Addr×Obj)} {σ:St} {H:Hp} {s:Shared} {a:Addr} {xs:List V} (I:Inv X pins σ H s) (h:SqT X.K H a xs):∃ its:List Value,aM xs its/\pF s.heap a its.toArray/\xs.length<=av:=by
 rcases h with h | ⟨o,its,n,hk,hc,hs,hz,r,hd⟩
 ·obtain ⟨z,its,r,p⟩:=h.ok I.hok;exact ⟨its,r,p,z⟩
 ·refine ⟨its.toList,r,⟨o,I.kIn a o hk,hc,⟨n,by simpa using hs⟩,hd⟩,?_⟩
  have e:=r.length;rw [e];simpa using hz
theorem B5 {pins:List (Addr×Obj)} {σ:St} {H:Hp} {s:Shared} {φ:List Addr} (I:Inv X pins σ H s) (hK:X.K=C.K):∀ {ps:List PV} {rs:List (Key×PV)} {vs:List V} {us:List Value},lI ps=some rs->RVs C φ H ps vs->aM vs us->
  ∃ qs:List (Addr×Key×Value×Value),us=qs.map (fun q=>c9 q.1)/\(∀ q∈qs,(bO X.prog X.w).is q.2.1 q.2.2.1=true)/\(∀ q∈qs,IsTup s.heap q.1 #[q.2.2.1,q.2.2.2])/\∃ ws:List (Key×V),RKv C φ H rs ws/\KV ws (qs.map fun q=>(q.2.1,q.2.2.2))
 | [],rs,[],us,e,_,ru=>by
  cases ru
  cases e
  exact ⟨[],rfl,(fun _ h=>nomatch h),(fun _ h=>nomatch h),[],.nil,.nil⟩
 | p :: ps,rs,v :: vs,us,e,r,ru=>by
  cases ru with
  | @cons _ u _ us' h t=>
   cases p with
   | tup xs=>
    match xs,e with
    | [y,z],e=>
     unfold lI at e;cases e1:pZ y with
     | none=>rw [e1] at e; cases e
     | some key=>
      cases e2:lI ps with
      | none=>rw [e1,e2] at e; cases e
      | some rs'=>
       rw [e1,e2] at e;cases e
       obtain ⟨qs,rfl,a1,a2,ws,a3,a4⟩:=B5 I hK e2 r.2 t;obtain ⟨b,bs,rfl,sq,rb⟩:=r.1;cases h
       obtain ⟨yv,zv,rfl,ry,rz⟩:=rb.two;rw [<- hK] at sq;obtain ⟨its,rits,pt,_⟩:=I.tuple sq;obtain ⟨yu,zu,rfl,ryu,rzu⟩:=vals2 rits;have ey:=xK ry e1;subst ey;refine ⟨(b,key,yu,zu) :: qs,rfl,?_,?_,(key,zv) :: ws,.cons ⟨rfl,rz⟩ a3,.cons ⟨rfl,rzu⟩ a4⟩
       ·intro q hq;rcases a7.mp hq with rfl | hq
        ·exact pL ryu
        ·exact a1 q hq
       ·intro q hq;rcases a7.mp hq with rfl | hq
        ·exact pt
        ·exact a2 q hq
    | [],e=>cases e
    | [_],e=>cases e
    | _ :: _ :: _ :: _,e=>cases e
   | _=>cases e
 | [],_,_ :: _,_,_,r,_=>r.elim
 | _ :: _,_,[],_,_,r,_=>r.elim
def xY:List PV->PH->Rs PV:=fun xs h=>match xs with
 | [.tup ps]=>match lI ps with
  | some rs=>.ok (.ref h.length) (h++[.dK (tB [] rs)])
  | none=>.bad
 | [.ref n]=>match h[n]? with
  | some (.dK kvs)=>.ok (.ref h.length) (h++[.dK kvs])
  | _=>.bad
 | _=>.bad
theorem N9:gJ C k X (.type "dict") xY:=fun c pins s σ H xs us Q I r h=>by
 obtain ⟨φ,h,ps,rh,rv,po⟩:=h;unfold xY at po;split at po
 ·rename_i ps;split at po
  ·rename_i rs e;obtain ⟨v,rfl,rx⟩:=rv.one;obtain ⟨a,vs,rfl,sa,ra⟩:=rx;obtain ⟨u,rfl,ru⟩:=vals1 r;cases ru
   have hl:=ra.length;have sa':=sa;rw [<- c.K] at sa';obtain ⟨its,rits,⟨o,o1,o2,⟨n,o3⟩,o4⟩,hz⟩:=Inv.tupleD I sa';obtain ⟨qs,rfl,a1,a2,ws,a3,a4⟩:=B5 I c.K e ra rits;have hq:qs.length<=av:=by
    have:=rits.length;rw [ae] at this;omega
   refine vP (I.ok.hd c.calm) o1 o2 o3 o4 a1 a2 hq fun h' tk dd kk=>?_;have r1:=Gi a3 (.nil:RKv C φ H [] []);have hz2:(sI [] ws).length<=av:=by
    have h1:=nJ ws [];have h2:=KV.length a4;rw [ae] at h2;simp at h1;omega
   have fr:H s.heap.objs.size=none:=I.fresh;refine ⟨.ref s.heap.objs.size,_,I.laid (a:=s.heap.objs.size) (o:=.dK (sI [] ws)) (t':=tk) kk (ao _) (BZ hz2 (beq_eq_false_iff_ne.mpr (jx (az I.big))) (a4.merge .nil) dd),rfl,?_⟩;exact po (φ++[s.heap.objs.size]) (.ref _) _ (c5 _ _) (Kp.new fr) (rh.new fr ⟨_,bK,r1.mono (c5 _ _) (Kp.new fr)⟩) ⟨_,rfl,by rw [<- rh.len]; simp⟩
  ·exact po.elim
 ·rename_i n;split at po
  ·rename_i kvs hk;obtain ⟨v,rfl,rx⟩:=rv.one;obtain ⟨a,rfl,ha⟩:=rx;obtain ⟨u,rfl,ru⟩:=vals1 r;cases ru
   obtain ⟨ks,hH,rk⟩:=rh.at' n a _ ha hk;refine Mf I (.inl hH) fun p s' hp I'=>⟨.ref p,_,I',rfl,?_⟩;exact po (φ++[p]) (.ref _) _ (c5 _ _) (Kp.new hp) (rh.new hp ⟨_,bK,rk.mono (c5 _ _) (Kp.new hp)⟩) ⟨_,rfl,by rw [<- rh.len]; simp⟩
  ·exact po.elim
 ·exact po.elim
end
def JU (x:List Key):List (List Key)->List (List Key)
 | []=>[x]
 | y :: ys=>if bL y x=true then y :: JU x ys else x :: y :: ys
def cW:List (List Key)->List (List Key)
 | []=>[]
 | x :: xs=>JU x (cW xs)
theorem tE (x:List Key):∀ ys,(JU x ys).Perm (x :: ys)
 | []=>.refl _
 | y :: ys=>by
  unfold JU;split
  ·exact ((tE x ys).cons y).trans (.swap x y ys)
  ·exact .refl _
theorem fA:∀ xs,(cW xs).Perm xs
 | []=>.refl _
 | x :: xs=>(tE x _).trans ((fA xs).cons x)
theorem uY {S:List Bool} {x:List Key} (hx:shape x=S):∀ {ys:List (List Key)},(∀ y∈ys,shape y=S)->ys.Pairwise (fun a b=>bL b a=false)->(JU x ys).Pairwise (fun a b=>bL b a=false)
 | [],_,_=>k0 _ _
 | y :: ys,hs,hp=>by
  have hy:=hs y ak;have hs':=fun z hz=>hs z (aj _ hz);rw [da] at hp;unfold JU;split
  ·rename_i h;rw [da];refine ⟨fun z hz=>?_,uY hx hs' hp.2⟩;rcases a7.mp ((tE x ys).mem_iff.mp hz) with rfl | hz
   ·exact pU h
   ·exact hp.1 z hz
  ·rename_i h;have h':bL y x=false:=by simpa using h
   rw [da];refine ⟨fun z hz=>?_,da.mpr hp⟩;rcases a7.mp hz with rfl | hz
   ·exact h'
   ·exact mK (hx.trans hy.symm) (hy.trans (hs' z hz).symm) h' (hp.1 z hz)
theorem iO {S:List Bool}:∀ {xs:List (List Key)},(∀ y∈xs,shape y=S)->(cW xs).Pairwise (fun a b=>bL b a=false)
 | [],_=>.nil
 | x :: xs,hs=>uY (hs x ak) (fun y hy=>hs y (aj _ ((fA xs).mem_iff.mp hy))) (iO fun y hy=>hs y (aj _ hy))
theorem oE {S:List Bool} {xs ys:List (List Key)} (hs:∀ y∈xs,shape y=S) (hp:ys.Perm xs) (h:ys.Pairwise (fun a b=>bL b a=false)):ys=cW xs:=by
 refine iy (le:=fun a b=>bL b a=false) (fun a b ha hb h1 h2=>?_) h (iO hs) (hp.trans (fA xs).symm);exact kW ((hs a (hp.mem_iff.mp ha)).trans (hs b ((fA xs).mem_iff.mp hb)).symm) h2 h1
def kP:Key->PV
 | .inl i=>.int i
 | .inr x=>.str x
theorem R4 {x:PV} {a:Key} (h:pZ x=some a):x=kP a:=by
 cases x <;> first | (cases h; rfl) | cases h
@[simp] theorem II (a:Key):pZ (kP a)=some a:=by cases a <;> rfl
def kF:List PV->Option (List Key)
 | []=>some []
 | x :: xs=>match pZ x,kF xs with
  | some a,some r=>some (a :: r)
  | _,_=>none
theorem qO:∀ {xs:List PV} {ks:List Key},kF xs=some ks->xs=ks.map kP
 | [],_,h=>by cases h; rfl
 | x :: xs,ks,h=>by
  unfold kF at h;cases e1:pZ x with
  | none=>rw [e1] at h; cases h
  | some a=>
   cases e2:kF xs with
   | none=>rw [e1,e2] at h; cases h
   | some r=>
    rw [e1,e2] at h;cases h
    rw [R4 e1,qO e2];rfl
@[simp] theorem N':∀ ks:List Key,kF (ks.map kP)=some ks
 | []=>rfl
 | a :: ks=>by simp [kF,N' ks]
def tP (ks:List Key):PV:=.tup (ks.map kP)
def kG:List PV->Option (List (List Key))
 | []=>some []
 | .tup xs :: r=>match kF xs,kG r with
  | some a,some b=>some (a :: b)
  | _,_=>none
 | _ :: _=>none
theorem xZ:∀ {xs:List PV} {ks:List (List Key)},kG xs=some ks->xs=ks.map tP
 | [],_,h=>by cases h; rfl
 | x :: xs,ks,h=>by
  cases x with
  | tup ys=>
   unfold kG at h;cases e1:kF ys with
   | none=>rw [e1] at h; cases h
   | some a=>
    cases e2:kG xs with
    | none=>rw [e1,e2] at h; cases h
    | some r=>
     rw [e1,e2] at h;cases h
     rw [qO e1,xZ e2];rfl
  | _=>cases h
@[simp] theorem qP:∀ ks:List (List Key),kG (ks.map tP)=some ks
 | []=>rfl
 | a :: ks=>by simp [kG,tP,qP ks]
def nH (kss:List (List Key)):Bool:=match kss with
 | []=>true
 | a :: r=>(!a.isEmpty) && r.all fun x=>shape x == shape a
theorem oF {kss:List (List Key)} (h:nH kss=true):∃ b sh,∀ ks∈kss,shape ks=b :: sh:=by
 cases kss with
 | nil=>exact ⟨true,[],fun _ h=>nomatch h⟩
 | cons a r=>
  unfold nH at h;rw [cq] at h;cases a with
  | nil=>cases h.1
  | cons z zs=>
   refine ⟨dA z,shape zs,fun ks hk=>?_⟩;rcases a7.mp hk with rfl | hk
   ·rfl
   ·have:=bu.mp h.2 ks hk;exact eq_of_beq this
section
variable {C:MC} {k:Nat} {X:Cx}
theorem X1 {φ:List Addr} {H:Hp} {a:Key} {v:V}:RV C φ H (kP a) v ↔ Rep C.K H (kD a) v:=by cases a <;> exact n0
theorem Cg {φ:List Addr} {H:Hp}:∀ {ks:List Key} {vs:List V},RVs C φ H (ks.map kP) vs ↔ cL C.K H (ks.map kD) vs
 | [],[]=>n0
 | [],_ :: _=>n0
 | _ :: _,[]=>n0
 | _ :: _,_ :: _=>and_congr X1 Cg
theorem X2 {φ:List Addr} {H:Hp} {ks:List Key} {v:V}:RV C φ H (tP ks) v ↔ Rep C.K H (tD ks) v:=by
 constructor
 ·rintro ⟨a,vs,e,s,r⟩; exact ⟨a,vs,e,s,Cg.mp r⟩
 ·rintro ⟨a,vs,e,s,r⟩; exact ⟨a,vs,e,s,Cg.mpr r⟩
theorem qQ {φ:List Addr} {H:Hp}:∀ {kss:List (List Key)} {vs:List V},RVs C φ H (kss.map tP) vs ↔ cL C.K H (kss.map tD) vs
 | [],[]=>n0
 | [],_ :: _=>n0
 | _ :: _,[]=>n0
 | _ :: _,_ :: _=>and_congr X2 qQ
def yB:PV->List PV->PH->Rs PV:=fun x ps h=>match x,ps with
 | .ref n,[]=>match h[n]? with
  | some (.dK _)=>.ok (.ref h.length) (h++[.vw 0 n])
  | _=>.bad
 | _,_=>.bad
theorem R5:MtG C k X "dict" eD "dict.items" yB:=fun c=>⟨MtR.imp (show MtR X "dict.items" Mv from Mw) fun x xs H Q h=>by
 obtain ⟨φ,h,p,ps,rh,rp,rps,po⟩:=h;unfold yB at po;split at po
 ·rename_i n;split at po
  ·rename_i kvs hk;obtain ⟨a,rfl,ha⟩:=rp;obtain ⟨ks,hH,rk⟩:=rh.at' n a _ ha hk;have:xs=[]:=by cases xs <;> first | rfl | exact rps.elim
   subst this;refine ⟨a,ks,rfl,rfl,hH,fun l hl=>?_⟩;refine po (φ++[l]) (.ref l) _ (c5 _ _) (Kp.new hl) (rh.new hl ⟨a,iB (c5 _ _) ha,bK⟩) ⟨l,rfl,by rw [<- rh.len]; simp⟩
  ·exact po.elim
 ·exact po.elim,qN c⟩
def Na (xs:List PV):Option (List PV):=match kG xs with
 | some kss=>if kss.length < 64/\nH kss=true then some ((cW kss).map tP) else none
 | none=>match kF xs with
  | some ks=>if ks.length < 64/\ks.all (fun x=>dA x == dA (.inr ""))=true then some ((cW (ks.map fun x=>[x])).flatten.map kP) else none
  | none=>none
theorem RH.same {φ:List Addr} {H H1:Hp} {h:PH} (r:RH C φ H h) (s:DF H H1):RH C φ H1 h:=⟨r.len,r.nd,fun n b ob h1 h2=>by
 have q:=r.at' n b ob h1 h2;obtain ⟨u,hu⟩:=q.some;exact q.stay aw (Kp.same s) ((s _ _ hu).trans hu.symm)⟩
theorem R6 {a b:Str}:bL [.inr a] [.inr b]=decide (a.cps.toList < b.cps.toList):=by
 unfold bL;split
 ·rename_i e;cases e
  simp [bL,List.lt_irrefl]
 ·rfl
theorem uZ:∀ {r:List Str} {p:Str},risingS p r=true->((p :: r).map fun x=>[(nk x:Key)]).Pairwise (fun a b=>bL b a=false)
 | [],p,_=>k0 _ _
 | x :: r,p,h=>by
  have h0:bL [.inr x] [.inr p]=false/\risingS x r=true:=by
   unfold risingS at h;rw [cq,ltCps_eq] at h;rw [R6];exact ⟨by simpa using h.1,h.2⟩
  have ih:=uZ h0.2;rw [a9,da];refine ⟨fun z hz=>?_,ih⟩;obtain ⟨y,hy,rfl⟩:=au.mp hz;rcases a7.mp hy with rfl | hy
  ·exact h0.1
  ·rw [a9,da] at ih;exact mK (a:=[.inr p]) (b:=[.inr x]) (c:=[.inr y]) rfl rfl h0.1 (ih.1 _ (au.mpr ⟨y,hy,rfl⟩))
theorem R7 {ks:List Key} (h:ks.all (fun x=>dA x == dA (.inr ""))=true):∃ ss:List Str,ks=ss.map nk:=by
 induction ks with
 | nil=>exact ⟨[],rfl⟩
 | cons a ks ih=>
  rw [iq,cq] at h;obtain ⟨ss,e⟩:=ih h.2;cases a with
  | inl i=>exact absurd h.1 (by simp [dA])
  | inr x=>exact ⟨x :: ss,by rw [e]; rfl⟩
theorem Ci {φ:List Addr} {H:Hp}:∀ {ss:List Str} {vs:List V},RVs C φ H (ss.map PV.str) vs ↔ vs=ss.map V.str
 | [],[]=>by simp [RVs]
 | [],_ :: _=>by simp [RVs]
 | _ :: _,[]=>by simp [RVs]
 | x :: ss,v :: vs=>by
  simp only [a9,RVs,List.cons.injEq];exact and_congr n0 Ci
theorem B6:∀ ss:List Str,(((ss.map fun x=>[(nk x:Key)]).flatten).map kP)=ss.map PV.str
 | []=>rfl
 | x :: ss=>by
  have:=B6 ss;simp only [a9,List.flatten_cons,List.singleton_append];rw [this];rfl
theorem JV {φ:List Addr} {H:Hp} {kvs:List (Key×PV)} {ks:List (Key×V)} (r:RKv C φ H kvs ks):∀ {kss:List (List Key)},kG (kvs.map fun kv=>PV.tup [kP kv.1,kv.2])=some kss->ks.map (fun kv=>[kV kv.1,kv.2])=kss.map (fun ks=>ks.map kV):=by
 unfold RKv at r
 induction r with
 | nil=>intro kss h; cases h; rfl
 | @cons p q ps qs h t ih=>
  intro kss e;rw [a9] at e;unfold kG at e;cases e1:kF [kP p.1,p.2] with
  | none=>rw [e1] at e; cases e
  | some a=>
   cases e2:kG (ps.map fun kv=>PV.tup [kP kv.1,kv.2]) with
   | none=>rw [e1,e2] at e; cases e
   | some b=>
    rw [e1,e2] at e;cases e
    rw [a9,a9,ih e2]
    congr 1
    unfold kF at e1;rw [II] at e1;cases e3:kF [p.2] with
    | none=>rw [e3] at e1; cases e1
    | some c=>
     rw [e3] at e1;cases e1
     have:=qO e3
     match c,this with
     | [d],this=>
      have e4:p.2=kP d:=by simpa using this
      have rv:=h.2;rw [e4] at rv;have e5:q.2=kV d:=xK rv (II d);rw [h.1,e5];rfl
     | [],this=>exact absurd this (by simp)
     | _ :: _ :: _,this=>exact absurd this (by simp)
def IJ (h:PH) (n:Nat):Option (List PV):=match h[n]? with
 | some (.vw 0 d)=>match h[d]? with
  | some (.dK kvs)=>some (kvs.map fun kv=>.tup [kP kv.1,kv.2])
  | _=>none
 | _=>none
def iE:List PV->PH->Rs PV:=fun xs h=>match xs with
 | [.ref n]=>match aN h n with
  | some ys=>match Na ys with
   | some zs=>.ok (.ref h.length) (h++[.lst zs])
   | none=>.bad
  | none=>match IJ h n with
   | some ys=>match kG ys with
    | some kss=>if kss.length < 64/\nH kss=true then .ok (.ref h.length) (h++[.lst ((cW kss).map tP)]) else .bad
    | none=>.bad
   | none=>.bad
 | _=>.bad
theorem E5:gJ C k X (.builtin "sorted") iE:=fun c=>bR.imp (bR.or (C6 c.calm C.K c.K) (by have:=sL (X:=X); rw [c.K] at this; exact this)) fun vs H Q h=>by
 obtain ⟨φ,h,ps,rh,rv,po⟩:=h;unfold iE at po;split at po
 ·rename_i n;obtain ⟨v,rfl,rx⟩:=rv.one;obtain ⟨a,rfl,ha⟩:=rx;split at po
  ·rename_i ys e;obtain ⟨a2,vs,ha2,sa,ra⟩:=bM rh e;rw [ha] at ha2; cases ha2;split at po
   ·rename_i zs ez;unfold Na at ez;split at ez
    ·rename_i kss ek;split at ez
     ·rename_i hc;cases ez
      have ey:=xZ ek;subst ey;obtain ⟨b,sh,hsh⟩:=oF hc.2;refine .inl ⟨a,kss,sh,b,rfl,hc.1,hsh,.inl ⟨vs,sa,qQ.mp ra,fun l kss' vs' hl hp hs hr=>?_⟩⟩;rw [oE hsh hp hs] at hr;exact po.lnew rh (qQ.mpr hr) hl
     ·cases ez
    ·split at ez
     ·rename_i ks ek;split at ez
      ·rename_i hc;cases ez
       obtain ⟨ss,rfl⟩:=R7 hc.2;have ey:=qO ek;rw [bp] at ey;have ey':ys=ss.map PV.str:=ey;subst ey';have ev:=Ci.mp ra;subst ev;refine .inr ⟨a,ss,rfl,sa,by simpa using hc.1,fun l ss' hl hp hs=>?_⟩
       have e1:(ss'.map fun x=>[(nk x:Key)])=cW ((ss.map nk).map fun x=>[x]):=by
        rw [bp];refine oE (S:=[false]) (fun y hy=>?_) (hp.map _) ?_
        ·obtain ⟨z,_,rfl⟩:=au.mp hy; rfl
        ·cases ss' with
         | nil=>exact .nil
         | cons x r=>exact uZ hs
       rw [<- e1] at po;refine po.lnew rh ?_ hl;have e2:(((ss'.map fun x=>[(nk x:Key)]).flatten).map kP)=ss'.map PV.str:=B6 ss';rw [e2];exact Ci.mpr rfl
      ·cases ez
     ·cases ez
   ·exact po.elim
  ·split at po
   ·rename_i ys ev;split at po
    ·rename_i kss ek;obtain ⟨hc,po⟩:=po.ite;unfold IJ at ev;split at ev
     ·rename_i d hv;split at ev
      ·rename_i kvs hk;cases ev
       obtain ⟨b,hb,hH⟩:=rh.at' n a _ ha hv;obtain ⟨ks,hD,rk⟩:=rh.at' d b _ hb hk;obtain ⟨bb,sh,hsh⟩:=oF hc.2;refine .inl ⟨a,kss,sh,bb,rfl,hc.1,hsh,.inr ⟨b,ks,hH,hD,?_,fun H1 s1 l kss' vs' hl hp hs hr=>?_⟩⟩
       ·exact JV rk ek
       ·rw [oE hsh hp hs] at hr;exact (post.weak aw (Kp.same s1) po).lnew (rh.same s1) (qQ.mpr hr) hl
      ·cases ev
     ·cases ev
    ·exact po.elim
   ·exact po.elim
 ·exact po.elim
end
end L2
namespace L2
open PySem
section
variable {h:PH}
@[simp] theorem X3 {x:PV} {xs:List PV}:iN x (.tup xs) h=none:=(rfl)
@[simp] theorem XZ {x:PV} {xs:List PV}:iN x (.fl xs) h=none:=(rfl)
@[simp] theorem VJ {x:PV} {z:Str}:iN x (.str z) h=none:=(rfl)
@[simp] theorem X4 {i:Int} {y:PV}:iN (.int i) y h=none:=by cases y <;> rfl
@[simp] theorem X5 {i:Str} {y:PV}:iN (.str i) y h=none:=by cases y <;> rfl
theorem Nb {x:PV} {n:Nat} {xs:List PV} (e:h[n]?=some (.lst xs)):iN x (.ref n) h=none:=by
 unfold iN cP;simp [e]
@[simp] theorem Y0 {x:PV} {i:Int}:vAt x (.int i) h=vIx x (.int i) h:=by unfold vAt; simp
theorem Nc {x:PV} {n:Nat} {xs:List PV} (e:h[n]?=some (.lst xs)):Gf x (.ref n) h=vIn x (.ref n) h:=by unfold Gf; rw [Nb e]
theorem qR {n:Nat} {kvs:List (Key×PV)} (e:h[n]?=some (.dK kvs)):eD (.ref n) h=true:=by unfold eD; simp [e]
theorem IK {n:Nat} {kvs:List (Key×PV)} {x:Str} {z:PV} (e:h[n]?=some (.dK kvs)):Gh (.ref n) [.str x,z] h=.ok ((aX kvs (.inr x)).getD z) h:=by
 simp [Gh,dG,DW,e,pZ]
theorem IL {n:Nat} {kvs:List (Key×PV)} {x:Str} {z:PV} (e:h[n]?=some (.dK kvs)) (c:kvs.length < 16777216):vS (.ref n) (.str x) z h=some (h.set n (.dK (dO kvs (.inr x) z))):=by
 simp [vS,e,pZ,c]
theorem JW {n:Nat} {kvs:List (Key×PV)} (e:h[n]?=some (.dK kvs)):yB (.ref n) [] h=.ok (.ref h.length) (h++[.vw 0 n]):=by simp [yB,e]
theorem Ai {n d:Nat} {kvs:List (Key×PV)} {kss:List (List Key)} (e1:h[n]?=some (.vw 0 d)) (e2:h[d]?=some (.dK kvs)) (ek:kvs.map (fun kv=>PV.tup [kP kv.1,kv.2])=kss.map tP) (h1:kss.length < 64) (h2:nH kss=true):
  iE [.ref n] h=.ok (.ref h.length) (h++[.lst ((cW kss).map tP)]):=by
 have e3:aN h n=none:=by simp [aN,e1]
 have e4:IJ h n=some (kvs.map fun kv=>PV.tup [kP kv.1,kv.2]):=by simp [IJ,e1,e2]
 simp only [iE,e3,e4,ek,qP];rw [if_pos ⟨h1,h2⟩]
theorem Cj {n:Nat} {kss:List (List Key)} (e1:h[n]?=some (.lst (kss.map tP))) (h1:kss.length < 64) (h2:nH kss=true):
  iE [.ref n] h=.ok (.ref h.length) (h++[.lst ((cW kss).map tP)]):=by
 have e3:aN h n=some (kss.map tP):=by simp [aN,e1]
 simp only [iE,e3,Na,qP];rw [if_pos ⟨h1,h2⟩]
theorem E6 {ps:List PV} {rs:List (Key×PV)} (e:lI ps=some rs):xY [.tup ps] h=.ok (.ref h.length) (h++[.dK (tB [] rs)]):=by simp [xY,e]
end
end L2
namespace L2
open PySem PySem.Spec PyProof.Rows
section
variable {C:MC} {k:Nat} {X:Cx}
def mM:PV->List PV->PH->Rs PV:=fun x ps h=>match x,ps with
 | .ref n,[y,z]=>match pZ y with
  | some key=>match h[n]? with
   | some (.dK kvs)=>match aX kvs key with
    | some p=>.ok p h
    | none=>if kvs.length < av then .ok z (h.set n (.dK (dO kvs key z))) else .bad
   | _=>.bad
  | none=>if y.isKt=true then (match cP h n with
   | some kvs=>match aX kvs y with
    | some p=>.ok p h
    | none=>if kvs.length < av then .ok z (h.set n (.dD (dO kvs y z))) else .bad
   | none=>.bad) else .bad
 | _,_=>.bad
theorem Nd {κ:Type} [DecidableEq κ] (kvs:List (κ×PV)) (a:κ) (p:PV):(dO kvs a p).length<=kvs.length+1:=by
 unfold dO;split
 ·rw [ae]; omega
 ·simp
theorem Aj (c:Cxt C k X):MtR X "dict.setdefault" (rM C mM):=fun pins s σ H x xs v us Q I rx rs h=>by
 obtain ⟨φ,h,p,ps,rh,rp,rps,po⟩:=h;unfold mM at po;split at po
 ·rename_i n y z;obtain ⟨a,rfl,ha⟩:=rp;cases rx
  obtain ⟨yv,zv,rfl,ry,rz⟩:=rps.two;obtain ⟨yu,zu,rfl,ryu,rzu⟩:=vals2 rs;split at po
  ·rename_i key hkey;split at po
   ·rename_i kvs hk;obtain ⟨ks,hH,rk⟩:=rh.at' n a _ ha hk;have ey:=xK ry hkey;subst ey;obtain ⟨hz,hd,vs,rel,dd⟩:=DG I.hok hH;have hzv:vs.length<=av:=by rw [<- rel.length]; exact hz
    have lv:=sS rk key;have rv:=rel.val key;refine jr lg dd.typeIs PySem.F.entry_dict_setdefault (PySem.F.args_dict_setdefault_3 _ _ _) (jN (bO X.prog X.w) a hd (pL ryu) zu) ⟨vs,dd,hzv,fun v e=>?_,fun e h' dd' hs=>?_⟩
    ·rw [e] at rv;cases e1:iQ ks key with
     | none=>rw [e1] at rv; exact rv.elim
     | some v1=>
      rw [e1] at rv lv;cases e2:aX kvs key with
      | none=>rw [e2] at lv; exact lv.elim
      | some p1=>
       rw [e2] at lv po;exact ⟨v1,H,I.tok _,rv,po.val rh lv⟩
    ·rw [e] at rv;cases e1:iQ ks key with
     | some v1=>rw [e1] at rv; exact rv.elim
     | none=>
      rw [e1] at lv;cases e2:aX kvs key with
      | some p1=>rw [e2] at lv; exact lv.elim
      | none=>
       rw [e2] at po;obtain ⟨hl,po⟩:=po.ite;have hl':(putK ks key zv).length<=av:=by
        have:=iA ks key zv;have e3:=ff rk;omega
       have he:∃ q,h'.get? a=some q:=let ⟨q,_,_,hq,_⟩:=dd'; ⟨q,hq⟩;refine ⟨zv,upd H a (.dK (putK ks key zv)),pN I (by rw [hH]; exact ik) hs he (BZ hl' hd (rel.put key rzu) dd'),rzu,?_⟩;have kp:Kp H (upd H a (.dK (putK ks key zv))):=Kp.dK hH;exact po φ zv _ aw kp (rh.write ha (by rw [hH]; exact ik) ⟨_,bK,(xX rk key rz).mono aw kp⟩) (rz.mono aw kp)
   ·exact po.elim
  ·obtain ⟨hk,po⟩:=po.ite;split at po
   ·rename_i kvs ht;obtain ⟨b,rfl⟩:=jP hk ry;cases ryu
    obtain ⟨⟨ks,xs,r,rx',hz,hm,dd⟩,mu,nt⟩:=uW I c.K c.w rh ha ht;have hv:=HD.val (a:=a) r rx' y;refine jr lg dd.typeIs PySem.F.entry_dict_setdefault (PySem.F.args_dict_setdefault_3 _ _ _) (kM (kZ X.prog X.w) a b hm zu) ⟨c.room6,y,xs,uX I c.K hk ry,dd,hz,fun p e=>?_,fun e h' dd' hs=>?_⟩
    ·rw [e] at hv;cases e2:aX kvs y with
     | none=>rw [e2] at hv; exact hv.elim
     | some p1=>
      rw [e2] at hv po;obtain ⟨v',rv1,rv2⟩:=hv;exact ⟨v',H,I.tok _,rv1,po.val rh rv2⟩
    ·rw [e] at hv;cases e2:aX kvs y with
     | some p1=>rw [e2] at hv; exact hv.elim
     | none=>
      rw [e2] at po;obtain ⟨hl,po⟩:=po.ite;obtain ⟨ks',r1,r2⟩:=HD.put (a:=a) r rx' (qM hk) ry rz rzu;obtain ⟨o,es,ep,hq,h2,h3,h4,_,h5⟩:=dd';have hl2:ks'.length<=av:=by
       have e1:=ff r1;have e3:=Nd kvs y z;omega
      refine ⟨zv,upd H a (dDO C.w a ks'),pN I mu hs ⟨o,hq⟩ ⟨⟨hl2,hm,_,r2,o,es,ep,hq,h2,h3,?_,h5⟩,⟨o,hq⟩,?_⟩,rzu,?_⟩
      ·rw [h4,<- c.w]; rfl
      ·rintro g1 g2 ⟨z1,z2,ws,z3,o',es',ep',z4,z5⟩ keep;exact ⟨z1,z2,ws,z3,o',es',ep',keep _ z4,z5⟩
      ·exact po φ zv _ aw (Kp.upd nt) (rh.write ha nt ⟨ks',bK,RKd.mono aw (Kp.upd nt) r1⟩) (rz.mono aw (Kp.upd nt))
   ·exact po.elim
 ·exact po.elim
theorem Ck:MtG C k X "dict" eD "dict.setdefault" mM:=fun c=>⟨Aj c,qN c⟩
end
section
variable {C:MC} {k:Nat} {X:Cx}
def jR (h:PH) (d:Nat):Option (List PV):=match h[d]? with
 | some (.dK kvs)=>some (kvs.map (·.2))
 | some (.dD kvs)=>some (kvs.map (·.2))
 | _=>none
theorem Gj {prog:Program} {w:World} {K:Type} [DecidableEq K] {knd:KeyKind prog w K} {es:List DictEntry} {kvs:List (K×Value)} (h:Pairs knd es kvs):es.map (·.val)=kvs.map (·.2):=by
 apply gd;intro i;rw [aq,aq];have hl:=h.length
 by_cases hi:i < es.length
 ·have e1:es[i]?=some es[i]:=by simp [hi]
  have hi':i < kvs.length:=by omega
  have e2:kvs[i]?=some (kvs[i].1,kvs[i].2):=by simp [hi']
  rw [e1,e2];exact congrArg some (h.get? e1 e2).2
 ·rw [mf (by omega),mf (by omega)];rfl
theorem yC {pins:List (Addr×Obj)} {σ:St} {H:Hp} {s:Shared} {φ:List Addr} {h:PH} {d:Nat} {b:Addr} {xs:List PV} (c:Cxt C k X) (I:Inv X pins σ H s) (rh:RH C φ H h) (hb:φ[d]?=some b) (e:jR h d=some xs):
  s.TypeIs (.ref b) "dict" /\ (b == fq)=false/\xs.length<=av/\∃ oc es ep,s.heap.get? b=some oc/\oc.data=.dict es ep/\∃ ws,RVs C φ H xs ws/\aM ws (es.toList.map (·.val)):=by
 unfold jR at e;split at e
 ·rename_i kvs hk;cases e
  obtain ⟨ks,hH,rk⟩:=rh.at' d b _ hb hk;obtain ⟨z,hd,vs,rel,dd⟩:=DG I.hok hH;refine ⟨dd.typeIs,hd,by rw [ae,ff rk]; exact z,?_⟩;obtain ⟨oc,es,ep,g1,g2,g3,g4,g5,g6⟩:=dd;refine ⟨oc,es,ep,g1,g3,ks.map (·.2),?_,?_⟩
  ·unfold RKv at rk;clear hk hH rel z
   induction rk with
   | nil=>trivial
   | cons q t ih=>exact ⟨q.2,ih⟩
  ·rw [Gj g5];clear hk hH g4 g5 g6 z;unfold KV at rel;clear rk
   induction rel with
   | nil=>exact .nil
   | cons q t ih=>exact .cons q.2 ih
 ·rename_i kvs hk;cases e
  have ht:cP h d=some kvs:=by unfold cP; rw [hk]
  obtain ⟨⟨ks,ys,r,rx',hz,hm,dd⟩,_⟩:=uW I c.K c.w rh hb ht;have hlen:kvs.length=ys.length:=(ff r).trans (ff rx');refine ⟨dd.typeIs,hm,by rw [ae,hlen]; exact hz,?_⟩;obtain ⟨oc,es,ep,g1,g2,g3,g4,g5,g6⟩:=dd;refine ⟨oc,es,ep,g1,g3,ks.map (·.2.2),?_,?_⟩
  ·unfold RKd at r;clear hk ht rx' hlen
   induction r with
   | nil=>trivial
   | cons q t ih=>exact ⟨q.2.2.2,ih⟩
  ·rw [g4,bp];clear hk ht r hlen hz g4 g5 g6
   induction rx' with
   | nil=>exact .nil
   | cons q t ih=>exact .cons q.2.2 ih
 ·cases e
def E7:PV->List PV->PH->Rs PV:=fun x ps h=>match x,ps with
 | .ref n,[]=>match jR h n with
  | some _=>.ok (.ref h.length) (h++[.vw 1 n])
  | none=>.bad
 | _,_=>.bad
theorem m_values:MtG C k X "dict" eD "dict.values" E7:=fun c=>⟨fun pins s σ H x xs v us Q I rx rs h=>by
 obtain ⟨φ,h,p,ps,rh,rp,rps,po⟩:=h;unfold E7 at po;split at po
 ·rename_i n;split at po
  ·rename_i ys ey;obtain ⟨a,rfl,ha⟩:=rp;have:xs=[]:=by cases xs <;> first | rfl | exact rps.elim
   subst this;cases rx
   cases rs
   obtain ⟨hT,hm,_⟩:=yC c I rh ha ey;refine jr PySem.F.slot_dict_values hT PySem.F.entry_dict_values (PySem.F.args_dict_values_1 _) (C7 a hm) ⟨hT,?_⟩;have fr:H s.heap.objs.size=none:=I.fresh;refine ⟨.ref s.heap.objs.size,_,I.laid (t':=s.toks) (o:=Tb 1 s.heap.objs.size a) (fun b u e=>ah _ e) (ao _) ?_,rfl,?_⟩
   ·exact ⟨⟨_,ay _ rfl,rfl,rfl⟩,⟨_,ay _ rfl⟩,fun h1 h2 ⟨o,e,p⟩ k=>⟨o,k o e,p⟩⟩
   ·exact po (φ++[s.heap.objs.size]) (.ref _) _ (c5 _ _) (Kp.new fr) (rh.new fr ⟨a,iB (c5 _ _) ha,bK⟩) ⟨_,rfl,by rw [<- rh.len]; simp⟩
  ·exact po.elim
 ·exact po.elim,qN c⟩
def qS (h:PH) (n:Nat):Option (List PV):=match h[n]? with
 | some (.vw 1 d)=>jR h d
 | _=>none
theorem E8 {es:Array DictEntry} {acc:Array Value} (h:ItemsOf (fun i v=>∃ e,es[i]?=some e/\v=e.val) acc es.size):acc.toList=es.toList.map (·.val):=by
 apply gd;intro i;rw [aq,Array.getElem?_toList,Array.getElem?_toList]
 by_cases hi:i < acc.size
 ·have e1:acc[i]?=some acc[i]:=by simp [hi]
  obtain ⟨e,h1,h2⟩:=h.2 i _ e1;rw [e1,h1,h2];rfl
 ·have hi':¬ i < es.size:=by rw [<- h.1]; exact hi
  rw [Array.getElem?_eq_none (by omega),Array.getElem?_eq_none (by omega)];rfl
end
section
variable {h:PH}
theorem IM {n:Nat} (e:h[n]?=some (.dK [])):cP h n=some []:=by simp [cP,e]
theorem IP {n:Nat} {kvs:List (PV×PV)} (e:h[n]?=some (.dD kvs)):cP h n=some kvs:=by simp [cP,e]
end
end L2
namespace L2
open PySem PySem.Spec PyProof.Rows PySem.SeqAt PySem.W
def yD (l:List Nat):List Int:=l.map (fun (c:Nat)=>(c:Int)+2)++[1]
mutual
def enc:PV->List Int
 | .int i=>[i]
 | .str x=>yD x.cps.toList
 | .tup xs=>qT xs
 | _=>[]
def qT:List PV->List Int
 | []=>[0]
 | x :: xs=>1 :: (enc x++qT xs)
end
theorem mN (a:Nat) (l:List Nat):yD (a :: l)=((a:Int)+2) :: yD l:=rfl
theorem IQ:∀ (a b:List Nat) (s t:List Int),a≠b->((yD a++s < yD b++t) ↔ a < b)
 | [],[],_,_,h=>(h rfl).elim
 | [],b :: bs,s,t,_=>by
  rw [mN]
  show (1 :: s < ((b:Int)+2) :: (yD bs++t)) ↔ _
  rw [dk];constructor
  ·intro _; exact List.nil_lt_cons _ _
  ·intro _; left; omega
 | a :: as,[],s,t,_=>by
  rw [mN]
  show (((a:Int)+2) :: (yD as++s) < 1 :: t) ↔ _
  rw [dk];constructor
  ·rintro (h | ⟨h,_⟩) <;> omega
  ·intro h; exact (List.not_lt_nil _ h).elim
 | a :: as,b :: bs,s,t,h=>by
  rw [mN,mN]
  show (((a:Int)+2) :: (yD as++s) < ((b:Int)+2) :: (yD bs++t)) ↔ _
  rw [dk,dk]
  by_cases e:a=b
  ·subst e;have h':as≠bs:=fun z=>h (by rw [z]);have ih:=IQ as bs s t h';constructor
   ·rintro (h1 | ⟨_,h1⟩)
    ·omega
    ·exact .inr ⟨rfl,ih.mp h1⟩
   ·rintro (h1 | ⟨_,h1⟩)
    ·omega
    ·exact .inr ⟨rfl,ih.mpr h1⟩
  ·constructor
   ·rintro (h1 | ⟨h1,_⟩) <;> (left; omega)
   ·rintro (h1 | ⟨h1,_⟩)
    ·left; omega
    ·exact (e h1).elim
theorem Gk:∀ (n:Nat) (x y:PV) (c:Bool) (s t:List Int),x≠y->ltP n x y=some c->((enc x++s < enc y++t) ↔ c=true):=by
 intro n;have one:∀ (a b:Int) (c:Bool) (s t:List Int),PV.int a≠.int b->some (decide (a < b))=some c->(([a]++s < [b]++t) ↔ c=true):=fun a b c s t h e=>by
  cases e
  have h':a≠b:=fun z=>h (by rw [z])
  show (a :: s < b :: t) ↔ _
  rw [dk,decide_eq_true_eq];constructor
  ·rintro (h1 | ⟨h1,_⟩)
   ·exact h1
   ·exact (h' h1).elim
  ·intro h1; exact .inl h1
 have two:∀ (a b:Str) (c:Bool) (s t:List Int),PV.str a≠.str b->some (decide (a.cps.toList < b.cps.toList))=some c->((yD a.cps.toList++s < yD b.cps.toList++t) ↔ c=true):=fun a b c s t h e=>by
  cases e
  rw [IQ _ _ s t (fun z=>h (by rw [Il z])),decide_eq_true_eq]
 induction n with
 | zero=>
  intro x y c s t h e;cases x <;> cases y <;> first | exact one _ _ c s t h e | exact two _ _ c s t h e | (simp [ltP] at e)
 | succ n ih=>
  have lists:∀ (xs ys:List PV) (c:Bool) (s t:List Int),xs≠ys->ltL (ltP n) xs ys=some c->((qT xs++s < qT ys++t) ↔ c=true):=by
   intro xs
   induction xs with
   | nil=>
    intro ys c s t h e;cases ys with
    | nil=>exact (h rfl).elim
    | cons y ys=>
     cases e
     show (0 :: s < 1 :: ((enc y++qT ys)++t)) ↔ _
     rw [dk];constructor
     ·intro _; rfl
     ·intro _; left; omega
   | cons x xs ihx=>
    intro ys c s t h e;cases ys with
    | nil=>
     cases e
     show (1 :: ((enc x++qT xs)++s) < 0 :: t) ↔ _
     rw [dk];constructor
     ·rintro (h1 | ⟨h1,_⟩) <;> omega
     ·intro h1; cases h1
    | cons y ys=>
     show (1 :: ((enc x++qT xs)++s) < 1 :: ((enc y++qT ys)++t)) ↔ _
     have e':(if x=y then ltL (ltP n) xs ys else ltP n x y)=some c:=e;rw [dk,j7,j7];have key:(enc x++(qT xs++s) < enc y++(qT ys++t)) ↔ c=true:=by
      by_cases xy:x=y
      ·rw [if_pos xy] at e';subst xy;have:=ihx ys c s t (fun z=>h (by rw [z])) e';rw [<- this];have cut:∀ l:List Int,(l++(qT xs++s) < l++(qT ys++t)) ↔ (qT xs++s < qT ys++t):=fun l=>by
        induction l with
        | nil=>exact n0
        | cons a l ih=>
         show (a :: (l++_) < a :: (l++_)) ↔ _
         rw [dk,ih];constructor
         ·rintro (h1 | ⟨_,h1⟩)
          ·omega
          ·exact h1
         ·intro h1; exact .inr ⟨rfl,h1⟩
       exact cut _
      ·rw [if_neg xy] at e';exact ih x y c _ _ xy e'
     rw [key];constructor
     ·rintro (h1 | ⟨_,h1⟩)
      ·omega
      ·exact h1
     ·intro h1; exact .inr ⟨rfl,h1⟩
  intro x y c s t h e;cases x <;> cases y <;> first | exact one _ _ c s t h e | exact two _ _ c s t h e | (simp [ltP] at e; done) | exact lists _ _ c s t (fun z=>h (by rw [z])) e
def ltN (x y:PV):Bool:=decide (enc x < enc y)
theorem E9 {f:PV->PV->Option Bool}:∀ xs:List PV,ltL f xs xs=some false
 | []=>rfl
 | x :: xs=>by
  show (if x=x then ltL f xs xs else f x x)=some false
  rw [if_pos rfl];exact E9 xs
theorem Nf {n:Nat} {x:PV} {c:Bool} (h:ltP n x x=some c):c=false:=by
 have st:∀ {z:Str} {c:Bool},some (decide (z.cps.toList < z.cps.toList))=some c->c=false:=fun {z c} e=>by
  cases e
  exact decide_eq_false (List.lt_irrefl _)
 have it:∀ {z:Int} {c:Bool},some (decide (z < z))=some c->c=false:=fun {z c} e=>by
  cases e
  exact decide_eq_false (Int.lt_irrefl _)
 cases n with
 | zero=>
  cases x with
  | int i=>exact it h
  | str i=>exact st h
  | _=>simp [ltP] at h
 | succ n=>
  cases x with
  | tup xs=>
   have h':ltL (ltP n) xs xs=some c:=h;rw [E9] at h';cases h'
   rfl
  | int i=>exact it h
  | str i=>exact st h
  | _=>simp [ltP] at h
theorem R8 (x:PV):ltN x x=false:=decide_eq_false (List.lt_irrefl _)
theorem Ng {n:Nat} {x y:PV} {c:Bool} (h:ltP n x y=some c):ltN x y=c:=by
 by_cases e:x=y
 ·subst e;rw [Nf h];exact R8 x
 ·have:=Gk n x y c [] [] e h;rw [je,je] at this;unfold ltN;cases c with
  | true=>exact decide_eq_true (this.mpr rfl)
  | false=>exact decide_eq_false fun z=>by cases this.mp z
theorem R9 {n:Nat} {x y:PV} {c:Bool} (h:ltP n x y=some c) (e:enc x=enc y):x=y:=by
 by_cases xy:x=y
 ·exact xy
 ·have h1:=Gk n x y c [0] [1] xy h;have h2:=Gk n x y c [1] [0] xy h;rw [e] at h1 h2;have cut:∀ (l s t:List Int),(l++s < l++t) ↔ (s < t):=fun l s t=>by
   induction l with
   | nil=>exact n0
   | cons a l ih=>
    show (a :: (l++_) < a :: (l++_)) ↔ _
    rw [dk,ih];constructor
    ·rintro (h1 | ⟨_,h1⟩)
     ·omega
     ·exact h1
    ·intro h1; exact .inr ⟨rfl,h1⟩
  rw [cut] at h1 h2;have t1:([0]:List Int) < [1]:=by decide
  have t2:¬ ([1]:List Int) < [0]:=by decide
  exact (t2 (h2.mpr (h1.mp t1))).elim
theorem Nh {a b c:PV} (h1:ltN b a=false) (h2:ltN c b=false):ltN c a=false:=
 decide_eq_false (ko.mpr (List.le_trans (ko.mp (of_decide_eq_false h1)) (ko.mp (of_decide_eq_false h2))))
theorem Ni {a b:PV} (h:ltN a b=true):ltN b a=false:=decide_eq_false (List.lt_asymm (of_decide_eq_true h))
theorem UU {a b:PV} (h1:ltN a b=false) (h2:ltN b a=false):enc a=enc b:=
 List.le_antisymm (ko.mp (of_decide_eq_false h2)) (ko.mp (of_decide_eq_false h1))
section
variable {α:Type} (key:α->PV)
def yE (x:α):List α->List α
 | []=>[x]
 | y :: ys=>if ltN (key y) (key x) then y :: yE x ys else x :: y :: ys
def iV:List α->List α
 | []=>[]
 | x :: xs=>yE key x (iV xs)
theorem tF (x:α):∀ ys,(yE key x ys).Perm (x :: ys)
 | []=>.refl _
 | y :: ys=>by
  unfold yE;split
  ·exact ((tF x ys).cons y).trans (.swap x y ys)
  ·exact .refl _
theorem jS:∀ xs,(iV key xs).Perm xs
 | []=>.refl _
 | x :: xs=>(tF key x _).trans ((jS xs).cons x)
theorem vA (x:α):∀ {ys:List α},ys.Pairwise (fun a b=>ltN (key b) (key a)=false)->(yE key x ys).Pairwise (fun a b=>ltN (key b) (key a)=false)
 | [],_=>k0 _ _
 | y :: ys,h=>by
  unfold yE;rw [da] at h;split
  ·rename_i hlt;rw [da];refine ⟨fun z hz=>?_,vA x h.2⟩;rcases a7.mp ((tF key x ys).mem_iff.mp hz) with rfl | hz
   ·exact Ni hlt
   ·exact h.1 z hz
  ·rename_i hlt;have hlt':ltN (key y) (key x)=false:=by simpa using hlt
   rw [da];refine ⟨fun z hz=>?_,da.mpr h⟩;rcases a7.mp hz with rfl | hz
   ·exact hlt'
   ·exact Nh hlt' (h.1 z hz)
theorem jT:∀ xs:List α,(iV key xs).Pairwise (fun a b=>ltN (key b) (key a)=false)
 | []=>.nil
 | x :: xs=>vA key x (jT xs)
theorem B7 {xs ys:List α} (inj:∀ a∈xs,∀ b∈xs,enc (key a)=enc (key b)->a=b) (hp:ys.Perm xs) (h:ys.Pairwise (fun a b=>ltN (key b) (key a)=false)):ys=iV key xs:=by
 refine iy (le:=fun a b=>ltN (key b) (key a)=false) (fun a b ha hb h1 h2=>?_) h (jT key xs) (hp.trans (jS key xs).symm);exact inj a (hp.mem_iff.mp ha) b ((jS key xs).mem_iff.mp hb) (UU h2 h1)
end
theorem Gm:∀ {xs:List PV} {ds:List D},PV.ds xs=some ds->xs.length=ds.length
 | [],ds,h=>by cases h; rfl
 | x :: xs,ds,h=>by
  obtain ⟨d,r,_,h2,rfl⟩:=cK h;simp [Gm h2]
theorem Nj:∀ {xs:List PV} {ds:List D} {j:Nat} {d:D},PV.ds xs=some ds->ds[j]?=some d->∃ x,xs[j]?=some x/\x.d=some d
 | [],ds,j,d,h,e=>by cases h; simp at e
 | x :: xs,ds,j,d,h,e=>by
  obtain ⟨d',r,h1,h2,rfl⟩:=cK h;cases j with
  | zero=>
   have:d'=d:=by simpa using e
   exact ⟨x,rfl,by rw [h1,this]⟩
  | succ j=>
   obtain ⟨y,a,b⟩:=Nj (j:=j) h2 (by simpa using e)
   exact ⟨y,by simpa using a,b⟩
theorem lJ:∀ (n:Nat) (p:PV),p.ky n=true->p.pl n=true:=by
 intro n
 induction n with
 | zero=>intro p h; cases p <;> first | rfl | cases h
 | succ n ih=>
  intro p h;cases p with
  | tup xs=>
   show xs.all (PV.pl n)=true
   rw [bu];exact fun y hy=>ih y (bu.mp (show xs.all (PV.ky n)=true from h) y hy)
  | _=>first | rfl | cases h
theorem UV:∀ (n:Nat) {A:Around} {s:Shared} {p q:PV} {v u:Value} {b:Bool},p.ky n=true->q.ky n=true->A.units+n < cLine->HR s.heap p v->HR s.heap q u->ltP n p q=some b->N0 A s v u b:=by
 intro n;have one:∀ {A:Around} {s:Shared} {i j:Int} {v u:Value} {b:Bool},HR s.heap (.int i) v->HR s.heap (.int j) u->some (decide (i < j))=some b->N0 A s v u b:=fun {A s i j v u b} r r' e=>by
  obtain ⟨t,rfl⟩:=r;obtain ⟨t',rfl⟩:=r';cases e
  exact fun prog w E Q q=>(PyProof.Rows.lt_int q:wpAny (model prog w) A (cm .Lt _ _) Q E s)
 have two:∀ {A:Around} {s:Shared} {i j:Str} {v u:Value} {b:Bool},HR s.heap (.str i) v->HR s.heap (.str j) u->some (decide (i.cps.toList < j.cps.toList))=some b->N0 A s v u b:=fun {A s i j v u b} r r' e=>by
  obtain ⟨t,rfl⟩:=r;obtain ⟨t',rfl⟩:=r';cases e
  exact fun prog w E Q q=>(PyProof.Rows.lt_str q:wpAny (model prog w) A (cm .Lt _ _) Q E s)
 induction n with
 | zero=>
  intro A s p q v u b hp hq hu r r' e;cases p with
  | int i=>
   cases q with
   | int j=>exact one r r' e
   | _=>simp [ltP] at e
  | str i=>
   cases q with
   | str j=>exact two r r' e
   | _=>simp [ltP] at e
  | _=>cases hp
 | succ n ih=>
  intro A s p q v u b hp hq hu r r' e;cases p with
  | int i=>
   cases q with
   | int j=>exact one r r' e
   | _=>simp [ltP] at e
  | str i=>
   cases q with
   | str j=>exact two r r' e
   | _=>simp [ltP] at e
  | tup ps=>
   cases q with
   | tup qs=>
    obtain ⟨a,its,rfl,p1,rs⟩:=r;obtain ⟨a',its',rfl,p2,rs'⟩:=r';have kp:∀ z∈ps,z.ky n=true:=bu.mp hp;have kq:∀ z∈qs,z.ky n=true:=bu.mp hq;obtain ⟨d,hd,_⟩:=lH (n+1) _ (lJ _ _ hp);obtain ⟨d',hd',_⟩:=lH (n+1) _ (lJ _ _ hq);have hlt:=Tg (n+1) _ _ d d' (lJ _ _ hp) (lJ _ _ hq) hd hd';rw [e] at hlt;obtain ⟨ds,g1,rfl⟩:=bS hd;obtain ⟨es,g2,rfl⟩:=bS hd';have hb':nY ds es=some b:=by simpa [ltD] using hlt
    obtain ⟨⟨cls,dd,data,sl⟩,ho,hc,m,hdt⟩:=id p1;obtain ⟨⟨cls2,dd2,data2,sl2⟩,ho2,hc2,m2,hd2⟩:=id p2;simp only at hc hdt hc2 hd2;subst hc hdt hc2 hd2;intro prog w E Q hq';refine richCompare_meets_room (op:=.Lt) ⟨_,ho,rfl⟩ ⟨_,ho2,rfl⟩ PySem.F.slot_tuple_lt PySem.F.entry_tuple_lt (PySem.F.args_tuple_lt_2 _ _) (qK a a' its.toArray its'.toArray m m2 dd dd2 sl sl2 ds es b hb')
     ⟨ho,ho2,⟨?_,?_,?_⟩,show Value.bool b≠Value.notImplemented/\Q (.bool b) s from ⟨(fun x=>nomatch x),hq'⟩⟩ (by omega)
    ·have l1:=rs.length;have l2:=Gm g1
     show its.length=ds.length
     omega
    ·have l1:=rs'.length;have l2:=Gm g2
     show its'.length=es.length
     omega
    ·intro j v u d e h1 h2 h3 h4;obtain ⟨x,hx,ex⟩:=Nj g1 h3;obtain ⟨y,hy,ey⟩:=Nj g2 h4;obtain ⟨v',hv,rv⟩:=rs.at hx;obtain ⟨u',hu',ru⟩:=rs'.at hy;have e1:v=v':=by
      have:its[j]?=some v:=h1;rw [hv] at this;exact (bg this).symm
     have e2:u=u':=by
      have:its'[j]?=some u:=h2;rw [hu'] at this;exact (bg this).symm
     subst e1 e2;have kx:=kp x (cf hx);have ky:=kq y (cf hy);have hun:A.in1.units+n < cLine:=by show A.units+1+n < cLine; omega
     refine ⟨?_,fun _ b hb=>?_⟩
     ·rw [E3 n x y d e (lJ _ _ kx) (lJ _ _ ky) ex ey];exact G7 kx ky hun rv ru
     ·rw [Tg n x y d e (lJ _ _ kx) (lJ _ _ ky) ex ey] at hb;exact ih kx ky hun rv ru hb
   | _=>simp [ltP] at e
  | _=>cases hp
section
variable {prog:Program} {w:World} {A:Around} {E:Value->Shared->Prop} {s:Shared}
def Nk:List PV->Prop
 | .tup _ :: _=>False
 | _=>True
theorem B8 {b fin:Bool} {n:Nat} {Q:Bool->Shared->Prop} (hu:A.units+n < cLine):∀ (ps qs:List PV) (us ws:List Value) (i:Nat) (c:Bool),(∀ p∈ps,p.ky n=true)->(∀ q∈qs,q.ky n=true)->HRs s.heap ps us->HRs s.heap qs ws->ltL (ltP n) ps qs=some c->((b && i == 0)=true->Nk ps)->fin=decide (ps.length < qs.length)->Q c s->KatLex prog w A b fin Q (us.zip ws) i s
 | [],[],[],[],i,c,_,_,_,_,hc,_,hf,h=>by
  cases hc
  rw [hf];exact h
 | [],q :: qs,[],u :: ws,i,c,_,_,_,_,hc,_,hf,h=>by
  cases hc
  rw [hf];exact h
 | p :: ps,[],u :: us,[],i,c,_,_,_,_,hc,_,hf,h=>by
  cases hc
  rw [hf];exact h
 | p :: ps,q :: qs,u :: us,v :: ws,i,c,kp,kq,rs,rs',hc,hn,hf,h=>by
  rw [k8];have hc':(if p=q then ltL (ltP n) ps qs else ltP n p q)=some c:=hc;have k1:=kp p ak;have k2:=kq q ak;refine kat_cons (G7 k1 k2 hu rs.1 rs'.1 prog w _ _ ?_)
  by_cases pq:p=q
  ·rw [if_pos pq] at hc';rw [decide_eq_true pq];refine kat_yes (B8 hu ps qs us ws (i+1) c (fun z hz=>kp z (aj _ hz)) (fun z hz=>kq z (aj _ hz)) rs.2 rs'.2 hc' (fun z=>?_) ?_ h)
   ·cases b <;> simp at z
   ·rw [hf];simp
  ·rw [if_neg pq] at hc';rw [decide_eq_false pq];refine kat_no ?_;have gen:wpAny (model prog w) A (oneLt' false u v) Q (fun _ _=>False) s:=kat_one _ _ (UV n k1 k2 hu rs.1 rs'.1 hc' prog w _ (PySem.W.BoolBack Q) h);cases hb:(b && i == 0) with
   | false=>exact gen
   | true=>
    have hn':=hn hb;cases p with
    | tup _=>exact hn'.elim
    | int a=>
     cases q with
     | int d=>
      obtain ⟨t,rfl⟩:=rs.1;obtain ⟨t',rfl⟩:=rs'.1;have e:decide (a < d)=c:=by
       cases n <;> exact bg hc'
      rw [<- e] at h;exact oneLt_int h
     | _=>cases n <;> simp [ltP] at hc'
    | str a=>
     cases q with
     | str d=>
      obtain ⟨t,rfl⟩:=rs.1;obtain ⟨t',rfl⟩:=rs'.1;have e:decide (a.cps.toList < d.cps.toList)=c:=by
       cases n <;> exact bg hc'
      rw [<- e] at h;exact oneLt_str h
     | _=>cases n <;> simp [ltP] at hc'
    | _=>exact rs.1.elim
 | [],_,_ :: _,_,_,_,_,_,r,_,_,_,_,_=>r.elim
 | _ :: _,_,[],_,_,_,_,_,r,_,_,_,_,_=>r.elim
 | _,[],_,_ :: _,_,_,_,_,_,r,_,_,_,_=>r.elim
 | _,_ :: _,_,[],_,_,_,_,_,r,_,_,_,_=>r.elim
theorem Nl {b:Bool} {n:Nat} {p q:PV} {v u:Value} {c:Bool} {Q:Bool->Shared->Prop} (hu:A.units+n < cLine) (kp:p.ky (n+1)=true) (kq:q.ky (n+1)=true) (tp:∃ ps,p=.tup ps/\(b=true->Nk ps)) (tq:∃ qs,q=.tup qs) (r:HR s.heap p v) (r':HR s.heap q u) (hc:ltP (n+1) p q=some c) (h:Q c s):
  wpAny (model prog w) A (keyLt' (tuples' b) v u) Q E s:=by
 obtain ⟨ps,rfl,hn⟩:=tp;obtain ⟨qs,rfl⟩:=tq;obtain ⟨a,its,rfl,⟨ox,hox,_,m,dx⟩,rs⟩:=r;obtain ⟨a',its',rfl,⟨oy,hoy,_,m',dy⟩,rs'⟩:=r';refine kat_lt hox dx hoy dy ?_;have l1:=rs.length;have l2:=rs'.length;have e1:decide (its.toArray.size < its'.toArray.size)=decide (ps.length < qs.length):=by simp [l1,l2]
 rw [e1];exact B8 hu ps qs its its' 0 c (bu.mp kp) (bu.mp kq) rs rs' hc (fun z=>hn (by cases b <;> simp at z; rfl)) rfl h
def fk:PV->Nat
 | .tup (.int _ :: _)=>0
 | .tup (.str _ :: _)=>1
 | .tup (.tup _ :: _)=>2
 | _=>3
def fkT (m:Nat):Value:=.type (if m=0 then "int" else if m=1 then "str" else "tuple")
theorem yF {m:Nat} (hm:m < 3):∀ {ps:List PV} {vs:List Value},HRs s.heap ps vs->(∀ p∈ps,fk p=m)->∃ fs:List Value,fs.length=vs.length/\KatTups s.heap vs fs/\∀ f∈fs,Looks (model prog w) s.heap (typeOf f) (fkT m)
 | [],[],_,_=>⟨[],rfl,KatTups.nil,fun _ hf=>nomatch hf⟩
 | p :: ps,v :: vs,r,hs=>by
  obtain ⟨fs,hl,ht,hT⟩:=yF hm r.2 fun x hx=>hs x (aj _ hx);have h0:=hs p ak;have r1:=r.1;cases p with
  | tup xs=>
   obtain ⟨a,its,rfl,⟨o,ho,hc,n,hd⟩,rx⟩:=r1;cases xs with
   | nil=>simp [fk] at h0; omega
   | cons x xs=>
    cases its with
    | nil=>exact rx.elim
    | cons f its=>
     refine ⟨f :: fs,by simp [hl],KatTups.cons ho hc hd (by simp) ht,fun g hg=>?_⟩;rcases a7.mp hg with rfl | hg
     ·have rf:=rx.1;cases x with
      | int i=>
       obtain ⟨t,rfl⟩:=rf;have:m=0:=h0.symm;subst this;exact Looks.now
      | str i=>
       obtain ⟨t,rfl⟩:=rf;have:m=1:=h0.symm;subst this;exact Looks.now
      | tup i=>
       obtain ⟨a',its',rfl,⟨o',ho',hc',n',hd'⟩,_⟩:=rf;have:m=2:=h0.symm;subst this;have:Looks (model prog w) s.heap (typeOf (.ref a')) o'.cls:=(Looks.ld ho').andThen .now;rw [hc'] at this;exact this
      | _=>exact rf.elim
     ·exact hT g hg
  | _=>simp [fk] at h0; omega
 | [],_ :: _,r,_=>r.elim
 | _ :: _,[],r,_=>r.elim
theorem Ra {m:Nat} (hm:m < 3) {ps:List PV} {vs:List Value} {Q:SortKind->Shared->Prop} (r:HRs s.heap ps vs) (hs:∀ p∈ps,fk p=m) (h0:0 < vs.length) (h:Q (tuples' (decide (m≠2))) s):wpAny (model prog w) A (keyKind' vs.toArray) Q E s:=by
 obtain ⟨fs,hl,ht,hT⟩:=yF (prog:=prog) (w:=w) hm r hs;refine kat_kind (T:=fkT m) ht (by omega) hT ?_ ?_
 ·match m,hm with
  | 0,_=>rfl
  | 1,_=>rfl
  | 2,_=>rfl
 ·have:((fkT m) != Value.type "tuple")=decide (m≠2):=by
   match m,hm with
   | 0,_=>rfl
   | 1,_=>rfl
   | 2,_=>rfl
  rw [this];exact h
end
structure OkN (m:Nat) (xs:List PV):Prop where
 m3:m < 3
 ky:∀ x∈xs,x.ky 20=true
 fk:∀ x∈xs,fk x=m
 lt:∀ x∈xs,∀ y∈xs,(ltP 20 x y).isSome=true
theorem OkN.inj {m:Nat} {xs:List PV} (h:OkN m xs):∀ a∈xs,∀ b∈xs,enc a=enc b->a=b:=fun a ha b hb e=>by
 obtain ⟨c,hc⟩:=j5.mp (h.lt a ha b hb);exact R9 hc e
theorem Nm {m:Nat} (hm:m < 3) {p:PV} (h:fk p=m):∃ ps,p=.tup ps/\(decide (m≠2)=true->Nk ps):=by
 cases p with
 | tup xs=>
  refine ⟨xs,rfl,fun hd=>?_⟩;have hd':m≠2:=of_decide_eq_true hd;cases xs with
  | nil=>trivial
  | cons x xs=>
   cases x <;> first | trivial | (exact (hd' h.symm).elim)
 | _=>simp [fk] at h; omega
theorem HRs.getD {h:Heap} {ps:List PV} {vs:List Value} (r:HRs h ps vs) {i:Nat} (hi:i < ps.length):HR h (ps.getD i .non) (vs.getD i cu):=by
 have g:ps[i]?=some (ps.getD i .non):=by simp [hi]
 obtain ⟨v,hv,hr⟩:=r.at g;have e:vs.getD i cu=v:=by simp [fh,hv]
 rw [e];exact hr
section
variable {C:MC} {k:Nat} {X:Cx}
def B9:List PV->Option (List Str)
 | []=>some []
 | .str x :: r=>(B9 r).map (x :: ·)
 | _=>none
theorem Ea:∀ ss:List Str,B9 (ss.map PV.str)=some ss
 | []=>rfl
 | x :: r=>by
  show (B9 (r.map PV.str)).map (x :: ·)=_
  rw [Ea r];rfl
theorem Eb:∀ {xs:List PV} {ss:List Str},B9 xs=some ss->xs=ss.map PV.str
 | [],ss,h=>by cases h; rfl
 | x :: r,ss,h=>by
  cases x with
  | str z=>
   have h':(B9 r).map (z :: ·)=some ss:=h;obtain ⟨t,ht,rfl⟩:=bf.mp h';rw [Eb ht];rfl
  | _=>cases h
end
end L2
namespace L2
open PySem PySem.Spec PyProof.Rows
abbrev KP:=List Key×PV
def vB (x:KP):List KP->List KP
 | []=>[x]
 | y :: ys=>if bL y.1 x.1=true then y :: vB x ys else x :: y :: ys
def gQ:List KP->List KP
 | []=>[]
 | x :: xs=>vB x (gQ xs)
theorem oG (x:KP):∀ ys,(vB x ys).Perm (x :: ys)
 | []=>.refl _
 | y :: ys=>by
  unfold vB;split
  ·exact ((oG x ys).cons y).trans (.swap x y ys)
  ·exact .refl _
theorem iF:∀ xs,(gQ xs).Perm xs
 | []=>.refl _
 | x :: xs=>(oG x _).trans ((iF xs).cons x)
theorem qU {S:List Bool} {x:KP} (hx:shape x.1=S):∀ {ys:List KP},(∀ y∈ys,shape y.1=S)->ys.Pairwise (fun a b=>bL b.1 a.1=false)->(vB x ys).Pairwise (fun a b=>bL b.1 a.1=false)
 | [],_,_=>k0 _ _
 | y :: ys,hs,hp=>by
  have hy:=hs y ak;have hs':=fun z hz=>hs z (aj _ hz);rw [da] at hp;unfold vB;split
  ·rename_i h;rw [da];refine ⟨fun z hz=>?_,qU hx hs' hp.2⟩;rcases a7.mp ((oG x ys).mem_iff.mp hz) with rfl | hz
   ·exact pU h
   ·exact hp.1 z hz
  ·rename_i h;have h':bL y.1 x.1=false:=by simpa using h
   rw [da];refine ⟨fun z hz=>?_,da.mpr hp⟩;rcases a7.mp hz with rfl | hz
   ·exact h'
   ·exact mK (hx.trans hy.symm) (hy.trans (hs' z hz).symm) h' (hp.1 z hz)
theorem iP {S:List Bool}:∀ {xs:List KP},(∀ y∈xs,shape y.1=S)->(gQ xs).Pairwise (fun a b=>bL b.1 a.1=false)
 | [],_=>.nil
 | x :: xs,hs=>qU (hs x ak) (fun y hy=>hs y (aj _ ((iF xs).mem_iff.mp hy))) (iP fun y hy=>hs y (aj _ hy))
theorem B' {α β:Type}:∀ {l:List (α×β)},(l.map (·.1)).Nodup->∀ {a b:α×β},a∈l->b∈l->a.1=b.1->a=b
 | [],_,_,_,h,_,_=>nomatch h
 | x :: l,nd,a,b,ha,hb,e=>by
  rw [a9,ir] at nd;rcases a7.mp ha with rfl | ha'
  ·rcases a7.mp hb with rfl | hb'
   ·rfl
   ·exact (nd.1 (au.mpr ⟨b,hb',e.symm⟩)).elim
  ·rcases a7.mp hb with rfl | hb'
   ·exact (nd.1 (au.mpr ⟨a,ha',e⟩)).elim
   ·exact B' nd.2 ha' hb' e
theorem yG {S:List Bool} {xs ys:List KP} (hs:∀ y∈xs,shape y.1=S) (nd:(xs.map (·.1)).Nodup) (hp:ys.Perm xs) (h:ys.Pairwise (fun a b=>bL b.1 a.1=false)):ys=gQ xs:=by
 refine iy (le:=fun a b=>bL b.1 a.1=false) (fun a b ha hb h1 h2=>?_) h (iP hs) (hp.trans (iF xs).symm);have ha':=hp.mem_iff.mp ha;have hb':=(iF xs).mem_iff.mp hb;exact B' nd ha' hb' (kW ((hs a ha').trans (hs b hb').symm) h2 h1)
open Classical in
noncomputable def sortBy (b:Bool) (ks ys:List PV):Option (List PV):=match kG ks with
 | some kss=>if kss.length < 64/\kss.length=ys.length/\nH kss=true/\kss.Nodup then some ((ng b (gQ (kss.zip ys))).map (·.2)) else none
 | none=>none
theorem JX {b:Bool} {kss:List (List Key)} {ys:List PV} (h1:kss.length < 64) (h2:kss.length=ys.length) (h3:nH kss=true) (h4:kss.Nodup):sortBy b (kss.map tP) ys=some ((ng b (gQ (kss.zip ys))).map (·.2)):=by
 unfold sortBy;rw [qP];exact if_pos ⟨h1,h2,h3,h4⟩
noncomputable def iG (f:Fn) (b:Bool) (ys:List PV):List PV->List PV->PH->Rs PV
 | [],ks,h=>match sortBy b ks ys with
  | some zs=>.ok (.ref h.length) (h++[.lst zs])
  | none=>.bad
 | x :: xs,ks,h=>(f [x] h).bind fun k h1=>iG f b ys xs (ks++[k]) h1
def eM (x:PV) (h:PH):Option (List PV):=match x with
 | .ref n=>match aN h n with
  | some ys=>some ys
  | none=>qS h n
 | .fl ys=>some ys
 | _=>none
noncomputable def lK (f:Fn) (b:Bool) (x:PV) (h:PH):Rs PV:=match eM x h with
 | some ys=>if ys.length < 64 then iG f b ys ys [] h else .bad
 | none=>.bad
noncomputable def tG (f:Fn) (b:Bool) (me:Me):Me:=fun δ h=>(me δ h).bind fun x h1=>lK f b x h1
section
variable {C:MC} {k:Nat} {X:Cx}
theorem RVs.pick {φ:List Addr} {H:Hp} {xs:List PV} {vs:List V} (r:RVs C φ H xs vs):∀ {p:List Nat},(∀ i∈p,i < xs.length)->RVs C φ H (p.map fun i=>xs.getD i .non) (p.map fun i=>vs.getD i .non)
 | [],_=>trivial
 | i :: p,h=>by
  have hi:=h i ak;have g:xs[i]?=some (xs.getD i .non):=by simp [hi]
  obtain ⟨v,hv,hr⟩:=r.at g;have e:vs.getD i .non=v:=by simp [fh,hv]
  refine ⟨?_,RVs.pick r fun j hj=>h j (aj _ hj)⟩
  show RV C φ H (xs.getD i .non) (vs.getD i .non)
  rw [e];exact hr
theorem qV {pins:List (Addr×Obj)} {σ:St} {H:Hp} {s:Shared} (I:Inv X pins σ H s) {a:Addr} (ha:s.heap.objs.size<=a):X.s₀.heap.objs.size<=a/\a≠X.env.locals/\(∀ x c,X.env.cells.lookup x=some c->c≠a)/\(∀ p∈X.pn++pins,p.1≠a)/\a∉X.fs:=by
 refine ⟨df I.sz ha,Nat.ne_of_gt (bw I.lt ha),fun x c e z=>?_,fun p hp z=>?_,I.nofs ha⟩
 ·obtain ⟨v,o,ho,_⟩:=I.cell x c e;rw [z] at ho;exact absurd (bw (ax ho) ha) (fv _)
 ·have ho:=(I.pin p hp).1;rw [z] at ho;exact absurd (bw (ax ho) ha) (fv _)
theorem cX {its:Array Value} {e:Nat}:∀ v,(seqObj "list" its e).data≠.cell v:=fun v z=>nomatch z
theorem Inv.adopt {pins:List (Addr×Obj)} {σ:St} {H:Hp} {s:Shared} {a d:Addr} {o:HO} {h':Heap} (I:Inv X pins σ H s) (ha:H a=none) (hd:H d=none)
  (fa:X.s₀.heap.objs.size<=a/\a≠X.env.locals/\(∀ x c,X.env.cells.lookup x=some c->c≠a)/\(∀ p∈X.pn++pins,p.1≠a)/\a∉X.fs) (fd:X.s₀.heap.objs.size<=d/\d≠X.env.locals/\(∀ x c,X.env.cells.lookup x=some c->c≠d)/\(∀ p∈X.pn++pins,p.1≠d)/\d∉X.fs)
  (kp:∀ x u,x≠a->x≠d->s.heap.get? x=some u->h'.get? x=some u) (new:cB X.prog X.w (upd H a o) h' a o):Inv X pins σ (upd H a o) { s with heap:=h' }:=by
 have na:∀ x u,H x=some u->x≠a:=fun x u e z=>by rw [z,ha] at e; cases e
 have nd:∀ x u,H x=some u->x≠d:=fun x u e z=>by rw [z,hd] at e; cases e
 refine I.call' (s':={ s with heap:=h' }) (ch:=[a,d]) rfl ⟨fun b u q n _ hx=>?_,fun b u q n _ hx=>⟨u.slots,?_⟩,fun b u q n hx=>?_,fun b u q hx=>⟨u,?_⟩,fun b xs q=>?_,fun b u xs q=>?_,fun b ps q=>⟨#[],?_⟩⟩ (fun b u e=>?_) I.bare fun b hb=>?_
 ·exact kp b u (fun z=>hx (by simp [z])) (fun z=>hx (by simp [z])) q
 ·exact kp b u (fun z=>hx (by simp [z])) (fun z=>hx (by simp [z])) q
 ·rw [bI (fun z=>hx (by simp [z]))]; exact n
 ·exact kp b u (fun z=>hx (by simp [z])) (fun z=>hx (by simp [z])) q
 ·rw [bI (na _ _ q)]; exact q
 ·rw [bI (na _ _ q)]; exact q
 ·rw [bI (na _ _ q),q]; simp
 ·by_cases hb:b=a
  ·subst hb; rw [bK] at e; cases e; exact new
  ·rw [bI hb] at e;refine (I.hok b u e).stay (fun c v hc q=>kp c v ?_ ?_ q) (fun c q=>by rw [bI (na _ _ q)]; exact q) fun c xs q=>by rw [bI (na _ _ q)]; exact q
   ·rcases hc with z | z
    ·rw [z]; exact hb
    ·exact na _ _ z
   ·rcases hc with z | z
    ·rw [z]; exact nd _ _ e
    ·exact nd _ _ z
 ·rcases a7.mp hb with rfl | hb
  ·exact ⟨.inr fa.1,fa.2.1,fa.2.2.1,fa.2.2.2.1⟩
  ·rw [bc.mp hb];exact ⟨.inr fd.1,fd.2.1,fd.2.2.1,fd.2.2.2.1⟩
def UW (C:MC) (X:Cx) (pins:List (Addr×Obj)) (σ:St) (φ:List Addr) (H:Hp) (f:Fn) (b:Bool) (ys:List PV) (Q:VK) (a z:Addr) (kS:Addr) (e1:Nat) (ks:List Value) (e:Nat) (s':Shared):Prop:=
 z < kS/\∃ H' φ' h' zs ps,Inv X (pins++[(kS,seqObj "list" ks.toArray e),(a,seqObj "list" #[] e1)]) σ H' s'/\φ<+:φ'/\Kp H H'/\RH C φ' H' h'/\aM zs ks/\RVs C φ' H' ps zs/\post C φ' H' (iG f b ys (ys.drop ks.length) ps h') Q
section
variable {x:Str} {st:Stmt} {q:Addr} {fd:cy} {pn:List Str} {j:Nat} {f:Fn}
theorem Np {pins:List (Addr×Obj)} {σ:St} {φ:List Addr} {H:Hp} {b:Bool} {ys:List PV} {us:List V} {its:List Value} {Q:VK} {a:Addr} (c:Cxt C k X) (D:Def C.K X.mg x st q fd pn) (G:aU X.prog X.w C.K X.mg X.base CX0 j q fd pn (spM C 1 f)) (hj:j+2<=k)
  (ry:RVs C φ H ys us) (rv:aM us its) {A':Around} (eA:A'=X.A.in1.in1) (fr:∀ kS,a<=kS->X.s₀.heap.objs.size<=kS/\kS≠X.env.locals/\(∀ x c,X.env.cells.lookup x=some c->c≠kS)/\(∀ p∈X.pn++pins,p.1≠kS)/\kS∉X.fs)
  (kS:Addr) (e1:Nat) (ks:List Value) (e:Nat) (s':Shared) (y:Value) (hy:its[ks.length]?=some y) (hJ:UW C X pins σ φ H f b ys Q a a kS e1 ks e s'):
  wpAny (model X.prog X.w) A' (call (.ref q) [y]) (fun v s''=>s''.heap.get? kS=some (seqObj "list" ks.toArray e)/\∀ (h':Heap) e',ib kS s''.heap h'->h'.get? kS=some (seqObj "list" (ks++[v]).toArray e')->UW C X pins σ φ H f b ys Q a a kS e1 (ks++[v]) e' { s'' with heap:=h' }) (fun _ _=>False) s':=by
 subst eA;obtain ⟨hz,H',φ',h',zs,ps,I,pp,tt,rh,rz,rp,po⟩:=hJ;have hlt:ks.length < its.length:=(ab.mp hy).1;have hlu:us.length=its.length:=rv.length;have hly:ys.length=us.length:=ry.length;have gy:ys[ks.length]?=some (ys[ks.length]'(by omega)):=by simp
 obtain ⟨u,hu,ru⟩:=ry.at gy;obtain ⟨y',hy',ryv⟩:=rv.get hu;rw [hy] at hy';cases hy'
 have hd:ys.drop ks.length=ys[ks.length]'(by omega) :: ys.drop (ks.length+1):=drop_cons gy;rw [hd] at po;have e1':=c.K;have G':aU X.prog X.w X.K X.mg X.base CX0 j q fd pn (spM C 1 f):=by rw [e1']; exact G
 have D':Def X.K X.mg x st q fd pn:=by rw [e1']; exact D
 have sp1:spM C 1 f [u] H' (fun v H2=>∃ φ2 p h2,φ'<+:φ2/\Kp H' H2/\RH C φ2 H2 h2/\RV C φ2 H2 p v/\post C φ2 H2 (iG f b ys (ys.drop (ks.length+1)) (ps++[p]) h2) Q) E0:=
  ⟨φ',h',[ys[ks.length]'(by omega)],rh,⟨ru.mono pp tt,trivial⟩,rfl,post.bind po⟩
 have hl:([y]:List Value).length=pn.length:=G'.len _ _ _ _ sp1;refine wpAny_call (codeAny_mono (G'.run X.A.in1.in1 X.stack s' H' ⟨[y],[]⟩ [y] [u] _ E0 ((c.room.mono hj).in1.in1) I.env0.in1.in1 (by
  have:=D'.bd s' [y] I.kIn (by simpa using hl)
  simpa using this) (.cons ryv .nil) sp1) fun r s2 hq=>?_)
 cases r with
 | error e=>exact hq.elim
 | ok fl=>
  cases fl with
  | next=>exact fu hq
  | brk=>exact fu hq
  | cont=>exact fu hq
  | ret v=>
   obtain ⟨x2,H2,I2,rx2,φ2,p2,h2,pp2,tt2,rh2,rp2,po2⟩:=I.after hq;have gk:=I2.pin (kS,seqObj "list" ks.toArray e) (af _ (af _ ak));have ga:=I2.pin (a,seqObj "list" #[] e1) (af _ (af _ (aj _ ak)));refine ⟨gk.1,fun g e' sb he'=>?_⟩;have fk:=fr kS (f6 hz);have nak:a≠kS:=az hz;have I3:Inv X (pins++[(a,seqObj "list" #[] e1)]) σ H2 s2:=I2.pins_of fun p hp=>(bj.mp hp).elim (fun z=>I2.pin p (af _ (dh _ z))) fun z=>by
    rw [bc.mp z]; exact ga
   have I4:=I3.turned (t':=s2.toks) (it:=kS) (h':=g) (fun b' o' hb hq=>(sb.2 b' hb).trans hq) gk.2.1 fk.2.1 (.inr fk.1) fk.2.2.1 (fun p hp=>by
    rcases bj.mp hp with hp | hp
    ·exact fk.2.2.2.1 p (dh _ hp)
    ·rcases bj.mp hp with hp | hp
     ·exact fk.2.2.2.1 p (af _ hp)
     ·rw [bc.mp hp]; exact nak)
   refine ⟨hz,H2,φ2,h2,zs++[x2],ps++[p2],I4.pins_of fun p hp=>?_,pp.trans pp2,tt.trans tt2,rh2,rz.append (.cons rx2 .nil),(rp.mono pp2 tt2).snoc rp2,?_⟩
   ·rcases bj.mp hp with hp | hp
    ·exact I4.pin p (af _ (dh _ hp))
    ·rcases a7.mp hp with rfl | hp
     ·exact ⟨he',gk.2.1,fk.2.1,fk.2.2.2.2,cX⟩
     ·rw [bc.mp hp];exact I4.pin _ (af _ (af _ ak))
   ·rw [fj];exact po2
theorem Ec {b:Bool} {kss:List (List Key)} {ys:List PV} {S:List Bool} (hl:kss.length=ys.length) (hs:∀ y∈kss,shape y=S) (nd:kss.Nodup) {p:List Nat} (hp:p.Perm (ba ys.length))
  (ho:p.Pairwise (fun i j=>(if b then bL (kss.getD i []) (kss.getD j []) else bL (kss.getD j []) (kss.getD i []))=false)):p.map (fun i=>ys.getD i .non)=(ng b (gQ (kss.zip ys))).map (·.2):=by
 let zs:=kss.zip ys;have hzl:zs.length=ys.length:=by show (kss.zip ys).length=_; simp [hl]
 have hin:∀ i∈p,i < ys.length:=fun i hi=>by simpa using hp.mem_iff.mp hi
 have eg:∀ i,i < ys.length->zs.getD i ([],.non)=(kss.getD i [],ys.getD i .non):=fun i hi=>by
  have h1:i < kss.length:=by omega
  have h2:i < zs.length:=by omega
  have h3:(kss.zip ys)[i]?=some (kss[i],ys[i]):=by
   rw [jz];exact ⟨by simp [h1],by simp [hi]⟩
  show (kss.zip ys).getD i _=_
  simp [h1,hi,h3]
 have hpz:(p.map fun i=>zs.getD i ([],.non)).Perm zs:=sQ (by rw [hzl]; exact hp);have hm:zs.map (·.1)=kss:=by
  show (kss.zip ys).map ix=kss
  exact List.map_fst_zip (by omega)
 have hsz:∀ y∈zs,shape y.1=S:=fun y hy=>hs _ (by rw [<- hm]; exact au.mpr ⟨y,hy,rfl⟩);have e2:p.map (fun i=>ys.getD i .non)=(p.map fun i=>zs.getD i ([],.non)).map (·.2):=by
  rw [bp];exact dn fun i hi=>by show _=(zs.getD i _).2; rw [eg i (hin i hi)]
 rw [e2];have key:∀ (R:Nat->Nat->Bool),p.Pairwise (fun i j=>R i j=false)->(∀ i j,i < ys.length->j < ys.length->R i j=bL (zs.getD j ([],.non)).1 (zs.getD i ([],.non)).1)->(p.map fun i=>zs.getD i ([],.non)).Pairwise (fun x y=>bL y.1 x.1=false):=fun R h1 h2=>by
  rw [c8];exact h1.imp_of_mem fun {i j} hi hj h=>by rw [<- h2 i j (hin i hi) (hin j hj)]; exact h
 cases b with
 | false=>
  congr 1
  refine yG hsz (by rw [hm]; exact nd) hpz (key (fun i j=>bL (kss.getD j []) (kss.getD i [])) ho fun i j hi hj=>by rw [eg i hi,eg j hj])
 | true=>
  congr 1
  have hr:(p.map fun i=>zs.getD i ([],.non)).reverse=gQ zs:=by
   refine yG hsz (by rw [hm]; exact nd) ((mw _).trans hpz) ?_;rw [l5,c8];exact ho.imp_of_mem fun {i j} hi hj h=>by
    rw [eg i (hin i hi),eg j (hin j hj)];exact h
  show _=(gQ zs).reverse
  rw [<- hr,List.reverse_reverse]
theorem yH {b:Bool} {kw:List (Str×Value)} (c:Cxt C k X) (D:Def C.K X.mg x st q fd pn) (G:aU X.prog X.w C.K X.mg X.base CX0 j q fd pn (spM C 1 f)) (hj:j+2<=k)
  (ha1:∀ v,argsOk "sorted" ⟨[v],kw⟩) (ha2:∀ v,argsOk "list.sort" ⟨[.ref v],kw⟩) (ht:∀ v,Builtin.«list.sort» ⟨[.ref v],kw⟩=ksk_tree v (.ref q) b)
  {pins:List (Addr×Obj)} {s:Shared} {σ:St} {H:Hp} {Q:VK} {v:V} {u:Value} (I:Inv X pins σ H s) (ru:RelV v u) (h:r1 C (lK f b) v H Q):
  wpAny (model X.prog X.w) X.A (call (.builtin "sorted") [u] kw) (EP X pins σ Q) X.xe s:=by
 obtain ⟨φ,h,p,rh,rp,po⟩:=h;unfold lK at po;cases ei:eM p h with
 | none=>rw [ei] at po; exact po.elim
 | some ys=>
 rw [ei] at po;obtain ⟨h64,po⟩:=po.ite;refine call_function_entry_kw kind_sorted plain_sorted entry_sorted (ha1 u) ?_;unfold Builtin.«sorted»;refine aa (m:=checkCount "sorted" 1 1 _) (ai ?_);have col:wpAny (model X.prog X.w) X.A.in1 (collect u) (fun its s1=>∃ us,Inv X pins σ H s1/\aM us its/\RVs C φ H ys us) X.xe s:=by
  have lcase:∀ {a:Addr} {vs:List V},v=.ref a->SqL C.K H a vs->RVs C φ H ys vs->wpAny (model X.prog X.w) X.A.in1 (collect u) (fun its s1=>∃ us,Inv X pins σ H s1/\aM us its/\RVs C φ H ys us) X.xe s:=fun {a vs} ev sa ra=>by
   subst ev;cases ru
   have sa':SqL X.K H a vs:=by rw [c.K]; exact sa
   obtain ⟨its,rv,pl,hz⟩:=I.list sa';refine collect_list pl.isList ?_ (by have:=rv.length; have:=ra.length; rw [cz]; omega);exact ⟨vs,I.kept (t':=s.toks) fun b o e=>by
    have hlt:b < s.heap.objs.size:=ax e
    first
     | (rw [jh _ _ _ _ (az hlt),ja _ _ _ (az hlt)]; exact e)
     | exact ah _ e,rv,ra⟩
  unfold eM at ei;split at ei
  ·rename_i n;split at ei
   ·rename_i ys' e;cases ei
    obtain ⟨a,ev,ha⟩:=rp;obtain ⟨a2,vs,ha2,sa,ra⟩:=bM rh e;rw [ha] at ha2; cases ha2;exact lcase ev sa ra
   ·unfold qS at ei;split at ei
    ·rename_i d hv;obtain ⟨a,ev,ha⟩:=rp;subst ev;cases ru
     obtain ⟨bb,hb,hH⟩:=rh.at' n a _ ha hv;obtain ⟨hT,hm,hz,oc,es,ep,g1,g2,ws,r1,r2⟩:=yC c I rh hb ei;have hvv:s.heap.IsValuesView a bb:=(I.hok a _ hH).1;have hn:es.size<=av:=by
      have e1:=r1.length;have e2:ws.length=es.size:=by have:=r2.length; simpa using this
      rw [<- e2,<- e1]; exact hz
     refine PySem.W.kdu_collect (DQ (r:=a) g2) (I.ok.hd c.calm) ⟨hvv,g1⟩ hn fun h' tk acc hk hacc=>?_;exact ⟨ws,I.kept (t':=tk) hk,by rw [E8 hacc]; exact r2,r1⟩
    ·cases ei
  ·cases ei
   obtain ⟨a,vs,ev,sa,ra⟩:=rp;exact lcase ev sa.sq ra
  ·cases ei
 refine aa (ia col (fun its s1 hh=>?_) fun _ _ z=>z);obtain ⟨us,I1,rv,ry⟩:=hh;have hlu:us.length=its.length:=rv.length;have hly:ys.length=us.length:=ry.length;refine aa (mq ?_ (by rw [cz]; omega));have hoL:(s1.heap.push (seqObj "list" its.toArray 0)).get? s1.heap.objs.size=some (seqObj "list" its.toArray 0):=ay _ rfl;have keep:∀ b o,s1.heap.get? b=some o->b≠s1.heap.objs.size/\(s1.heap.push (seqObj "list" its.toArray 0)).get? b=some o:=fun b o q=>⟨az (ax q),ah _ q⟩;have fr:∀ kS,s1.heap.objs.size<=kS->X.s₀.heap.objs.size<=kS/\kS≠X.env.locals/\(∀ x c,X.env.cells.lookup x=some c->c≠kS)/\(∀ p∈X.pn++pins,p.1≠kS)/\kS∉X.fs:=fun kS hk=>qV I1 hk
 show wpAny _ _ _ _ _ { s1 with heap:=s1.heap.push (seqObj "list" its.toArray 0) }
 refine aa (dg (wpAny_call_entry_kw slot_list_sort ⟨_,hoL,rfl⟩ entry_list_sort ?body (ha2 _)))
 case body=>
  show wpAny (model X.prog X.w) X.A.in1.in1 (Builtin.«list.sort» ⟨[.ref s1.heap.objs.size],kw⟩) _ _ _
  rw [ht s1.heap.objs.size];refine wZ (s:={ s1 with heap:=s1.heap.push (seqObj "list" its.toArray 0) }) (a:=s1.heap.objs.size) (κ:=tuples' true) (vs:=its) hoL (by omega) (UW C X pins σ φ H f b ys Q s1.heap.objs.size s1.heap.objs.size) ?h0 ?hget ?turn ?fin
  case h0=>
   intro kS e1 h' kp hk g1 g2;have hk':s1.heap.objs.size < kS:=by
    have:(s1.heap.push (seqObj "list" its.toArray 0)).objs.size<=kS:=hk;rw [j0] at this;exact this
   have I2:Inv X pins σ H { s1 with heap:=h' }:=I1.kept (t':=s1.toks) fun b o q=>kp b o (keep b o q).1 (keep b o q).2;have fk:=fr kS (f6 hk');have fa:=fr s1.heap.objs.size (ao _);refine ⟨hk',H,φ,h,[],[],I2.pins_of fun p hp=>?_,aw,Kp.refl H,rh,.nil,trivial,po⟩;rcases bj.mp hp with hp | hp
   ·exact I2.pin p (af _ hp)
   ·rcases a7.mp hp with rfl | hp
    ·exact ⟨g2,I1.hok.fresh (f6 hk'),fk.2.1,fk.2.2.2.2,cX⟩
    ·rw [bc.mp hp];exact ⟨g1,I1.hok.fresh (ao _),fa.2.1,fa.2.2.2.2,cX⟩
  case hget=>
   rintro kS e1 ks e s' ⟨hz,H',φ',h',zs,ps,I',_⟩;exact ⟨Nat.ne_of_gt hz,(I'.pin (s1.heap.objs.size,seqObj "list" #[] e1) (af _ (af _ (aj _ ak)))).1,(I'.pin (kS,seqObj "list" ks.toArray e) (af _ (af _ ak))).1⟩
  case turn=>
   intro kS e1 ks e s' y hy hJ;exact Np c D G hj ry rv rfl fr kS e1 ks e s' y hy hJ
  case fin=>
   rintro kS e1 ks e s' hl ⟨hz,H',φ',h',zs,ps,I',pp,tt,rh',rz,rp',po'⟩;have hd:ys.drop ks.length=[]:=List.drop_eq_nil_of_le (by omega);rw [hd] at po';unfold iG at po';cases es:sortBy b ps ys with
   | none=>rw [es] at po'; exact po'.elim
   | some out=>
   rw [es] at po';unfold sortBy at es;split at es
   ·rename_i kss ek;split at es
    ·rename_i hc;obtain ⟨hc1,hc2,hc3,hc4⟩:=hc;cases es
     have ep:=xZ ek;subst ep;obtain ⟨bb,sh,hsh⟩:=oF hc3;have rr:cL X.K H' (kss.map tD) zs:=by rw [c.K]; exact qQ.mp rp'
     have tk:=oA I' rr rz;have shOf:∀ i,i < its.length->shape (kss.getD i [])=bb :: sh:=fun i hi=>by
      have hi':i < kss.length:=by omega
      have:kss.getD i []=kss[i]:=by simp [hi']
      rw [this];exact hsh _ (e9 hi')
     refine ⟨fun i j=>bL (kss.getD i []) (kss.getD j []),fun i j k hi hj hk h1 h2=>?_,fun i j _ _ h=>pU h,fun h2 Q' E' hq=>?_,fun i j hi hj Q' hq=>?_,fun p g e2 a1 a2 kp he gk=>?_⟩
     ·exact mK ((shOf i hi).trans (shOf j hj).symm) ((shOf j hj).trans (shOf k hk).symm) h1 h2
     ·exact AX tk hsh (by omega) hq
     ·obtain ⟨a,ua,q1,p1,r1⟩:=tk.get (i:=i) (by omega);obtain ⟨d,ud,q2,p2,r2⟩:=tk.get (i:=j) (by omega);rw [q1,q2];exact wX p1 p2 r1 r2 ((shOf i hi).trans (shOf j hj).symm) hq
     ·have hin:∀ i∈p,i < its.length:=fun i hi=>by simpa using a1.mem_iff.mp hi
      have fa:=fr s1.heap.objs.size (ao _);have fk:=fr kS (f6 hz);have gka:=I'.pin (kS,seqObj "list" ks.toArray e) (af _ (af _ ak));have gaa:=I'.pin (s1.heap.objs.size,seqObj "list" #[] e1) (af _ (af _ (aj _ ak)));have I5:Inv X pins σ H' s':=I'.unpinned;have I6:=I5.adopt (a:=s1.heap.objs.size) (d:=kS) (o:=.lst (p.map fun i=>us.getD i .non)) (h':=g) gaa.2.1 gka.2.1 fa fk (fun x o h1 h2 q=>kp x o h1 h2 q) (by
       refine ⟨?_,p.map (fun i=>its.getD i cu),e2,mL rv (fun i hi=>by have:=hin i hi; omega),he⟩;rw [ae,a1.length_eq,jc,cz];omega)
      refine ⟨_,rfl,ai ⟨_,rfl,.ref s1.heap.objs.size,_,I6,rfl,?_⟩⟩;refine po'.lnew rh' ?_ gaa.2.1;rw [<- Ec (b:=b) hc2 hsh hc4 (p:=p) (by rw [hly,hlu]; exact a1) a2];exact (ry.mono pp tt).pick (fun i hi=>by have:=hin i hi; omega)
    ·cases es
   ·cases es
end
section
variable {kf:Str} {st:Stmt} {q:Addr} {fd:cy} {pn:List Str} {j jb:Nat} {f:Fn} {e:Expr} {me:Me} {p pos kp kpos rp rpos:Pos}
theorem Ed {Q:VK} {b:Bool} {σ:St} {H:Hp} (h:rd C (tG f b me) σ H Q):Ic (rd C me) Qk σ H fun vs H1=>∃ x,vs=[x]/\r1 C (lK f b) x H1 Q:=by
 obtain ⟨φ,δ,h,rh,re,po⟩:=h;refine ⟨φ,δ,h,rh,re,(post.bind po).imp ?_⟩;rintro v H1 ⟨φ1,x,h1,p1,t1,rh1,rv1,q1⟩;exact ⟨v,rfl,φ1,h1,x,rh1,rv1,q1⟩
theorem Rb (D:Def C.K X.mg kf st q fd pn) (G:aU X.prog X.w C.K X.mg X.base CX0 j q fd pn (spM C 1 f)) (he:SE C k X e me) (hb:("sorted" : Str)∈C.bs) (hj:j+2<=k:=by decide) (hg:Gl X "sorted" := by rfl) (hgk:Gl X kf:=by rfl) (hdk:(kf == ("__debug__" : Str))=false:=by decide)
  (hst:b8 [e] X.env=(false,eval e X.env) :: b8 [] X.env:=by rfl) (hbk:backTo pos (b8 [e] X.env)=(false,eval e X.env) :: backTo pos (b8 [] X.env):=by rfl) (hpl:(backTo pos (b8 [e] X.env)).any (·.1)=false:=by rfl):
  SE C k X (.Call (.Name "sorted" p) [e] [⟨some "key",.Name kf kp,kpos⟩] pos) (tG f false me):=fun c pins s σ H Q I h=>by
 refine iw (kR I hg (c.bn _ hb) PyProof.Rows.Boot.«sorted» ?_ (by decide) (by decide));refine callWith_kw (thn (pH (he c) wI hst pos pins s σ H _ I (Ed h)) fun us s1 hh=>?_) hbk hpl;obtain ⟨vs,H1,I1,rv,x,rfl,r⟩:=hh;obtain ⟨u,rfl,ru⟩:=vals1 rv;refine kws_cons (pG I1 hgk D.mg (kws_nil ?_) hdk)
 show wpAny _ _ (call (.builtin "sorted") [u] [(jm "key",.ref q)]) _ _ _
 exact yH c D G hj (fun v=>ksk_s1 _ _) (fun v=>ksk_l1 _ _) (fun v=>ksk_t1 _ _) I1 ru r
theorem Nq {b:Bool} (D:Def C.K X.mg kf st q fd pn) (G:aU X.prog X.w C.K X.mg X.base CX0 j q fd pn (spM C 1 f)) (he:SE C k X e me) (hb:("sorted" : Str)∈C.bs) (hj:j+2<=k:=by decide) (hg:Gl X "sorted" := by rfl) (hgk:Gl X kf:=by rfl) (hdk:(kf == ("__debug__" : Str))=false:=by decide)
  (hst:b8 [e] X.env=(false,eval e X.env) :: b8 [] X.env:=by rfl) (hbk:backTo pos (b8 [e] X.env)=(false,eval e X.env) :: backTo pos (b8 [] X.env):=by rfl) (hpl:(backTo pos (b8 [e] X.env)).any (·.1)=false:=by rfl):
  SE C k X (.Call (.Name "sorted" p) [e] [⟨some "key",.Name kf kp,kpos⟩,⟨some "reverse",.Constant (.bool b) jb rp,rpos⟩] pos) (tG f b me):=fun c pins s σ H Q I h=>by
 refine iw (kR I hg (c.bn _ hb) PyProof.Rows.Boot.«sorted» ?_ (by decide) (by decide));refine callWith_kw (thn (pH (he c) wI hst pos pins s σ H _ I (Ed h)) fun us s1 hh=>?_) hbk hpl;obtain ⟨vs,H1,I1,rv,x,rfl,r⟩:=hh;obtain ⟨u,rfl,ru⟩:=vals1 rv;refine kws_cons (pG I1 hgk D.mg (kws_cons (Constant_bool (kws_nil ?_))) hdk)
 show wpAny _ _ (call (.builtin "sorted") [u] [(jm "key",.ref q),(jm "reverse",.bool b)]) _ _ _
 exact yH c D G hj (fun v=>ksk_s2 _ _ _) (fun v=>ksk_l2 _ _ _) (fun v=>ksk_t2 _ _ _) I1 ru r
end
end
end L2
namespace L2
open PySem
section
variable {α:Type} (key:α->List Key)
def JY (x:α):List α->List α
 | []=>[x]
 | y :: ys=>if bL (key y) (key x)=true then y :: JY x ys else x :: y :: ys
def lL:List α->List α
 | []=>[]
 | x :: xs=>JY key x (lL xs)
variable {key}
theorem Ba (x:α):∀ ys,(JY key x ys).Perm (x :: ys)
 | []=>.refl _
 | y :: ys=>by
  unfold JY;split
  ·exact ((Ba x ys).cons y).trans (.swap x y ys)
  ·exact .refl _
theorem oH:∀ xs,(lL key xs).Perm xs
 | []=>.refl _
 | x :: xs=>(Ba x _).trans ((oH xs).cons x)
theorem Ee (f:α->PV) (x:α):∀ ys:List α,vB (key x,f x) (ys.map fun y=>(key y,f y))=(JY key x ys).map fun y=>(key y,f y)
 | []=>rfl
 | y :: ys=>by
  rw [a9];unfold vB JY;dsimp only;split
  ·rw [Ee f x ys]; rfl
  ·rfl
theorem tH (f:α->PV):∀ xs:List α,gQ (xs.map fun y=>(key y,f y))=(lL key xs).map fun y=>(key y,f y)
 | []=>rfl
 | x :: xs=>by
  rw [a9];unfold gQ lL;rw [tH f xs,Ee]
theorem Cm {S:List Bool} (f:α->PV) {xs:List α} (hs:∀ x∈xs,shape (key x)=S):(lL key xs).Pairwise (fun a b=>bL (key b) (key a)=false):=by
 have h:=iP (S:=S) (xs:=xs.map fun y=>(key y,f y)) (fun y hy=>by
  obtain ⟨x,hx,rfl⟩:=au.mp hy;exact hs x hx)
 rw [tH,c8] at h;exact h
theorem Ef {β γ:Type} (f:α->β) (g:α->γ):∀ xs:List α,(xs.map f).zip (xs.map g)=xs.map fun x=>(f x,g x)
 | []=>rfl
 | x :: xs=>by simp [Ef f g xs]
theorem Nr {b:Bool} {f:α->PV} {xs:List α} (h1:xs.length < 64) (h3:nH (xs.map key)=true) (h4:(xs.map key).Nodup):sortBy b ((xs.map key).map tP) (xs.map f)=some ((ng b (lL key xs)).map f):=by
 rw [JX (by simpa using h1) (by simp) h3 h4,Ef,tH]
 cases b with
 | false=>
  show some (((lL key xs).map fun y=>(key y,f y)).map Prod.snd)=some ((lL key xs).map f)
  rw [bp]; rfl
 | true=>
  show some ((((lL key xs).map fun y=>(key y,f y)).reverse).map Prod.snd)=some ((lL key xs).reverse.map f)
  rw [<- List.map_reverse,bp]; rfl
theorem Nt {f:Fn} {b:Bool} {emb:α->PV} {ys zs:List PV} {Q:PV->PH->Prop}:∀ (r done:List α) (h:PH),(∀ d∈r,∀ h (Q:PV->PH->Prop),(∀ h',Ext h h'->Q (tP (key d)) h')->(f [emb d] h).W Q)->
  sortBy b (((done++r).map key).map tP) ys=some zs->(∀ h',Ext h h'->Q (.ref h'.length) (h'++[.lst zs]))->(iG f b ys (r.map emb) ((done.map key).map tP) h).W Q
 | [],done,h,_,hs,k=>by
  rw [je] at hs;simp only [List.map_nil,iG,hs,hZ];exact k h (Ext.refl h)
 | x :: r,done,h,hf,hs,k=>by
  rw [a9];unfold iG;rw [sV];refine hf x ak h _ fun h1 x1=>?_;have e:(done.map key).map tP++[tP (key x)]=((done++[x]).map key).map tP:=by simp
  rw [e];exact Nt r (done++[x]) h1 (fun d hd=>hf d (aj _ hd)) (by rw [j7]; exact hs) fun h' x2=>k h' (x1.trans x2)
theorem IR {f:Fn} {b:Bool} {emb:α->PV} {xs:List α} {x:PV} {h:PH} {Q:PV->PH->Prop} {S:List Bool} (e:eM x h=some (xs.map emb)) (h1:xs.length < 64) (h3:nH (xs.map key)=true) (hs:∀ x∈xs,shape (key x)=S) (h4:(xs.map key).Nodup)
  (hf:∀ d∈xs,∀ h (Q:PV->PH->Prop),(∀ h',Ext h h'->Q (tP (key d)) h')->(f [emb d] h).W Q)
  (k:∀ (os:List α) h',Ext h h'->os.Perm xs->os.Pairwise (fun p q=>(if b then bL (key p) (key q) else bL (key q) (key p))=false)->Q (.ref h'.length) (h'++[.lst (os.map emb)])):(lK f b x h).W Q:=by
 unfold lK;rw [e];dsimp only;rw [if_pos (by simpa using h1)]
 refine Nt (key:=key) xs [] h hf (Nr h1 h3 h4) fun h' hx=>k _ h' hx ?_ ?_
 ·cases b with
  | false=>exact oH xs
  | true=>exact (mw _).trans (oH xs)
 ·have hp:=Cm emb hs;cases b with
  | false=>exact hp
  | true=>
   show ((lL key xs).reverse).Pairwise _
   rw [l5];exact hp
end
section
variable {δ:Ev} {h:PH} {m:Me}
@[simp] theorem VL {f:Fn} {b:Bool}:tG f b m δ h=(m δ h).bind fun x h1=>lK f b x h1:=(rfl)
theorem yI {n:Nat} {xs:List PV} (e:h[n]?=some (.lst xs)):eM (.ref n) h=some xs:=by simp [eM,aN,e]
theorem Bb {n:Nat} {kvs:List (PV×PV)} (e:cP h n=some kvs):jR h n=some (kvs.map (·.2)):=by
 unfold cP at e;split at e
 ·rename_i q; cases e; simp [jR,q]
 ·rename_i q; cases e; simp [jR,q]
 ·cases e
theorem gU {n:Nat} {kvs:List (PV×PV)} (e:cP h n=some kvs):∃ o,h[n]?=some o/\eD (.ref n) h=true/\∀ h',h'[n]?=some o->cP h' n=some kvs:=by
 unfold cP at e;split at e
 ·rename_i q; cases e; exact ⟨_,q,by simp [eD,q],fun h' e=>by simp [cP,e]⟩
 ·rename_i q; cases e; exact ⟨_,q,by simp [eD,q],fun h' e=>by simp [cP,e]⟩
 ·cases e
theorem gW {h':PH} {n:Nat} {kvs:List (PV×PV)} (x:Ext h h') (e:cP h n=some kvs):cP h' n=some kvs:=by
 obtain ⟨o,g,_,k⟩:=gU e;exact k h' (x _ _ g)
theorem Eg {n d:Nat} {kvs:List (PV×PV)} (e:h[n]?=some (.vw 1 d)) (e2:cP h d=some kvs):eM (.ref n) h=some (kvs.map (·.2)):=by
 have e1:aN h n=none:=by simp [aN,e]
 simp only [eM,e1,qS,e];exact Bb e2
theorem Rc {d:Nat} {kvs:List (PV×PV)} (e:cP h d=some kvs):E7 (.ref d) [] h=.ok (.ref h.length) (h++[.vw 1 d]):=by simp [E7,Bb e]
theorem Nu {n:Nat} {kvs:List (PV×PV)} {xs:List PV} {z:PV} (e:cP h n=some kvs) (hk:(PV.tup xs).ky 6=true) (hl:kvs.length < 16777216):vS (.ref n) (.tup xs) z h=some (h.set n (.dD (dO kvs (.tup xs) z))):=by
 have k1:(PV.tup xs).isKt=true:=hk;have hl':kvs.length < av:=by rw [qH]; exact hl
 unfold vS;simp only [pZ,k1,if_true,e];rw [if_pos hl']
theorem JZ {n:Nat} {kvs:List (PV×PV)} {xs:List PV} (e:cP h n=some kvs) (hk:(PV.tup xs).ky 6=true):jQ (.tup xs) (.ref n) h=.ok (.bl (!(aX kvs (.tup xs)).isSome)) h:=by
 have k1:(PV.tup xs).isKt=true:=hk;have:iN (.tup xs) (.ref n) h=some (aX kvs (.tup xs)):=by simp only [iN,k1,if_true,e,Option.map_some]
 unfold jQ;rw [this]
theorem K0 {n:Nat} {kvs:List (Key×PV)} {x:Str} {z:PV} (e:h[n]?=some (.dK kvs)) (hl:kvs.length < 16777216):
  mM (.ref n) [.str x,z] h=match aX kvs (.inr x) with | some p=>.ok p h | none=>.ok z (h.set n (.dK (dO kvs (.inr x) z))):=by
 have hl':kvs.length < av:=by rw [qH]; exact hl
 unfold mM;simp only [pZ,e];cases aX kvs (.inr x) with
 | some p=>rfl
 | none=>simp only [if_pos hl']
@[simp] theorem UX {xs:List PV}:iK (.tup xs)=false:=(rfl)
@[simp] theorem UY:iK .non=true:=(rfl)
end
section
variable {δ:Ev} {h h1:PH} {js:List (Option Nat)} {tg:Mg} {elt:Me} {g:PH->Bool}
theorem Ext.setN {h hX:PH} {o:MO} {n:Nat} (x:Ext h hX) (hn:h.length<=n):Ext h (hX.set n o):=fun m o' e=>by
 have:=(ab.mp e).1;rw [a8 (by omega)];exact x m o' e
theorem Bc {n m:Nat} {xs ys:List PV} (e1:h[n]?=some (.lst xs)) (e2:h[m]?=some (.lst ys)) (c:xs.length+ys.length<=16777216):cA (.ref n) (.ref m) h=.ok (.ref h.length) (h++[.lst (xs++ys)]):=by
 show MB (.ref n) (.ref m) h=_
 simp [MB,dB,e1,e2,c]
end
end L2
namespace L2
open PySem PySem.Spec PyProof.Rows
def X6 (f:Str) (p:PV):List (Str×PV)->List (Str×PV)
 | []=>[(f,p)]
 | (g,x) :: r=>if g=f then (g,p) :: r else (g,x) :: X6 f p r
def X7 (x:PV) (h:PH):Option (Nat×Str×List (Str×PV)):=match x with
 | .ref n=>match h[n]? with
  | some (.ins c fs)=>some (n,c,fs)
  | _=>none
 | _=>none
def X8 (f:Str) (x y:PV) (h:PH):Option PH:=match X7 x h with
 | some (n,c,fs)=>if fs.length < 1000 then some (h.set n (.ins c (X6 f y fs))) else none
 | none=>none
section
variable {C:MC} {k:Nat} {X:Cx}
section
variable {e o value:Expr} {f:Str} {m mo mv:Me} {pos pos' tpos:Pos}
def YX (f:Str) (mo mv:Me):Ms:=fun δ h=>(mv δ h).fl fun y h1=>(mo δ h1).fl fun x h2=>match X8 f x y h2 with
 | some h3=>.nx δ h3
 | none=>.bad
end
def X9 (cn:Str) (n:Nat) (f:Fn) (ms:Ma):Me:=fun δ h=>(ms δ h).bind fun ps h1=>if ps.length=n then (f (.ref h1.length :: ps) (h1++[.ins cn []])).bind fun v h2=>(match v with
 | .non=>.ok (.ref h1.length) h2
 | _=>.bad) else .bad
end
def qW (x y v:PV) (h:PH):Option PH:=match x,y with
 | .ref n,.int i=>match dB h n with
  | some xs=>match ixN xs.length i with
   | some j=>some (h.set n (.lst (xs.set j v)))
   | none=>none
  | none=>vS x y v h
 | _,_=>vS x y v h
def kH (mv mo mi:Me):Ms:=fun δ h=>(mv δ h).fl fun v h1=>(mo δ h1).fl fun x h2=>(mi δ h2).fl fun y h3=>match qW x y v h3 with
 | some h4=>.nx δ h4
 | none=>.bad
def X':List PV->PH->Rs PV:=fun xs h=>match xs with
 | [.bl b]=>.ok (.int (if b then 1 else 0)) h
 | [.int i]=>.ok (.int i) h
 | _=>.bad
section
variable {C:MC} {k:Nat} {X:Cx}
theorem Gn {φ:List Addr} {H:Hp} {h h':PH} {px py pv:PV} {x y v:V} (c:Cxt C k X) (rh:RH C φ H h) (rx:RV C φ H px x) (ry:RV C φ H py y) (rv:RV C φ H pv v) (e:qW px py pv h=some h') {pins:List (Addr×Obj)} {σ:St} {s:Shared} {xu yu vu:Value}
  {Q:Unit->Shared->Prop} (I:Inv X pins σ H s) (rxu:RelV x xu) (ryu:RelV y yu) (rvu:RelV v vu) (q:∀ s' H',Inv X pins σ H' s'->Kp H H'->RH C φ H' h'->Q () s'):wpAny (model X.prog X.w) X.A (setItem xu yu vu) Q X.xe s:=by
 unfold qW at e;split at e
 ·rename_i n i;split at e
  ·rename_i xs el;split at e
   ·rename_i j ej;cases e
    obtain ⟨a,rfl,ha⟩:=rx;cases ry
    obtain ⟨ws,hH,rw'⟩:=rh.at' n a _ ha (iT el);refine thn (set_list pins s σ H (.ref a) (.int i) v xu yu vu (fun H'=>H'=upd H a (.lst (ws.set j v))) I rxu ryu rvu ⟨a,ws,i,j,rfl,rfl,hH,by rw [<- rw'.length]; exact ej,rfl⟩) ?_;rintro _ s' ⟨H',I',rfl⟩;refine q s' _ I' (Kp.lst hH) (rh.write ha (by rw [hH]; trivial) ⟨_,bK,(RVs.set rv j rw').mono aw (Kp.lst hH)⟩)
   ·cases e
  ·exact B4 c rh rx ry rv e I rxu ryu rvu q
 ·exact B4 c rh rx ry rv e I rxu ryu rvu q
theorem tI {o i value:Expr} {pos pos':Pos} {mv mo mi:Me} (hv:SE C k X value mv) (ho:SE C k X o mo) (hi:SE C k X i mi) (hs:swapsWith value (some (.Subscript o i pos')) pos.line X.env=pure false:=by rfl):
  SSt C k X (.Assign [.Subscript o i pos'] value pos) (kH mv mo mi):=fun c pins s σ H D I ⟨φ,δ,h,rh,re,p⟩=>by
 refine wpAny_Assign_Subscript (thn (hv c pins s σ H _ I ⟨φ,δ,h,rh,re,post.fl p⟩) ?_) hs;rintro vu s1 ⟨v,H1,I1,rvu,φ1,pv,h1,p1,t1,rh1,rv1,q1⟩;refine thn (ho c pins s1 σ H1 _ I1 ⟨φ1,δ,h1,rh1,re.mono p1 t1,post.fl q1⟩) ?_;rintro xu s2 ⟨x,H2,I2,rxu,φ2,px,h2,p2,t2,rh2,rv2,q2⟩;refine thn (hi c pins s2 σ H2 _ I2 ⟨φ2,δ,h2,rh2,(re.mono p1 t1).mono p2 t2,post.fl q2⟩) ?_;rintro yu s3 ⟨y,H3,I3,ryu,φ3,py,h3,p3,t3,rh3,rv3,q3⟩;cases e:qW px py pv h3 with
 | none=>rw [e] at q3; exact q3.elim
 | some h4=>
  rw [e] at q3;exact Gn c rh3 (rv2.mono p3 t3) rv3 ((rv1.mono p2 t2).mono p3 t3) e I3 rxu ryu rvu fun s' H' I' kp rh'=>⟨σ,H',I',q3 φ3 σ H' aw kp rh' ((((re.mono p1 t1).mono p2 t2).mono p3 t3).mono aw kp)⟩
end
section
variable {δ:Ev} {h:PH} {m mo mv:Me} {E:FE}
@[simp] theorem Xa {cn:Str} {n:Nat} {f:Fn} {ms:Ma}:X9 cn n f ms δ h=(ms δ h).bind fun ps h1=>if ps.length=n then (f (.ref h1.length :: ps) (h1++[.ins cn []])).bind fun v h2=>(match v with | .non=>.ok (.ref h1.length) h2 | _=>.bad) else .bad:=(rfl)
@[simp] theorem YI {mi:Me}:(kH mv mo mi δ h).W E=(mv δ h).W fun v h1=>(mo δ h1).W fun x h2=>(mi δ h2).W fun y h3=>∃ h4,qW x y v h3=some h4/\E.nx δ h4:=by
 unfold kH;rw [QR]
 congr 1
 funext v h1
 rw [QR]
 congr 1
 funext x h2
 rw [QR]
 congr 1
 funext y h3
 cases e:qW x y v h3 <;> simp
theorem Be {n:Nat} {xs:List PV} {i:Int} {v:PV} (e:h[n]?=some (.lst xs)) (h0:0<=i) (h1:i < xs.length):qW (.ref n) (.int i) v h=some (h.set n (.lst (xs.set i.toNat v))):=by
 have e1:dB h n=some xs:=by simp [dB,e]
 have e2:ixN xs.length i=some i.toNat:=by unfold ixN; rw [if_pos h0,if_pos h1]
 simp [qW,e1,e2]
@[simp] theorem Xb {b:Bool}:X' [.bl b] h=.ok (.int (if b then 1 else 0)) h:=(rfl)
end
def Bf:PV->PH->Rs PV:=fun x h=>match cJ x h with
 | some xs=>.ok (.ref h.length) (h++[.lst xs.reverse])
 | none=>.bad
section
variable {h:PH}
theorem K1 {n:Nat} {xs:List PV} (e:h[n]?=some (.lst xs)):Bf (.ref n) h=.ok (.ref h.length) (h++[.lst xs.reverse]):=by simp [Bf,cJ,aN,e]
end
section
variable {C:MC} {k:Nat} {X:Cx} {e st:Expr} {me:Me} {pos p2:Pos}
theorem Re (he:SE C k X e me) (hs:SE C k X st (mUn C9 (mC (.int 1)))) (hsub:∀ a b:Addr,subscripted (.Slice none none (some st) p2) false (.ref a) (.ref b)=operate [.ref a,.ref b] (getItem (.ref a) (.ref b)):=by intro _ _; with_unfolding_all rfl):SE C k X (.Subscript e (.Slice none none (some st) p2) pos) (mUn Bf me):=fun c pins s σ H Q I h=>by
 obtain ⟨φ,δ,h,rh,re,po⟩:=h;refine Subscript_ (thn (he c pins s σ H (fun v H1=>∃ δ φ1 h1 px,RH C φ1 H1 h1/\RE C φ1 H1 δ σ/\RV C φ1 H1 px v/\post C φ1 H1 (Bf px h1) Q) I ⟨φ,δ,h,rh,re,(post.bind po).imp ?_⟩) fun v s1 hh=>?_)
 ·rintro v H1 ⟨φ1,x,h1,p1,t1,rh1,rv1,q1⟩;exact ⟨δ,φ1,h1,x,rh1,re.mono p1 t1,rv1,q1⟩
 obtain ⟨x,H1,I1,r1,δ1,φ1,h1,px,rh1,re1,rv1,q1⟩:=hh;refine wpAny_Slice ?_;rw [evalPart_none];refine ai (ai ?_);rw [evalPart_some];refine thn (hs c pins s1 σ H1 (fun v H2=>v=.int (-1)/\∃ φ2,φ1<+:φ2/\Kp H1 H2/\RH C φ2 H2 h1) I1 ⟨φ1,δ1,h1,rh1,re1,?_⟩) fun vk s2 hh=>?_
 ·intro φ' v H' a b c' d;exact ⟨d,φ',a,b,c'⟩
 obtain ⟨y,H2,I2,r2,rfl,φ2,p12,t12,rh2⟩:=hh;obtain ⟨tk,rfl⟩:=r2;unfold Bf at q1;cases es:cJ px h1 with
 | none=>rw [es] at q1; exact q1.elim
 | some xs=>
  rw [es] at q1;obtain ⟨a,ws,rfl,sa,ra⟩:=dR rh2 (rv1.mono p12 t12) es;cases r1
  have I4:Inv X pins σ H2 { s2 with heap:=s2.heap.push { cls:=.type "slice",data:=.fields #[.none,.none,.int (-1) tk] } }:=I2.kept (t':=s2.toks) fun b ob q=>ah _ q;have sa':SqL X.K H2 a ws:=by rw [c.K]; exact sa
  obtain ⟨its,rw',pl,hz⟩:=I4.list sa';have hlen:=rw'.length;have hg:wpAny (model X.prog X.w) X.A (getItem (.ref a) (.ref s2.heap.objs.size)) (EP X pins σ Q) X.xe { s2 with heap:=s2.heap.push { cls:=.type "slice",data:=.fields #[.none,.none,.int (-1) tk] } }:=by
   refine wpAny_getItem_list_slice pl.isList (Heap.IsSliceOf.new ..) .none .none (.int (-1) tk) (by decide) ?_ (by rw [ar] <;> omega);rw [PySem.W.krv_pick];have hr:∀ {vs:List V} {us:List Value},aM vs us->aM vs.reverse us.reverse:=by
    intro vs us r
    induction r with
    | nil=>exact .nil
    | cons a t ih=>simp only [List.reverse_cons]; exact aM.append ih (.cons a .nil)
   refine ⟨.ref _,_,I4.laid (t':=s2.toks) (o:=.lst ws.reverse) (fun b ob q=>ah _ q) (ao _) ⟨by rw [List.length_reverse]; exact hz,its.reverse,0,hr rw',?_⟩,rfl,(post.weak p12 t12 q1).lnew rh2 ra.reverse (I4.hok.fresh (ao _))⟩;have e:its.toArray.toList.reverse.toArray=its.reverse.toArray:=by simp
   rw [e];exact ay _ rfl
  exact tail_any (ops:=[.ref a,.ref s2.heap.objs.size]) pl.isList.typeIs slot_list_getitem.lookup hg (hsub _ _)
end
def yJ:List Int->Int
 | []=>0
 | [x]=>x
 | x :: y :: r=>max x (yJ (y :: r))
def lM:List Int->Int
 | []=>0
 | [x]=>x
 | x :: y :: r=>min x (lM (y :: r))
theorem Eh:∀ {ns:List Int},ns≠[]->yJ ns∈ns/\∀ a∈ns,a<=yJ ns
 | [],h=>(h rfl).elim
 | [x],_=>⟨by simp [yJ],by simp [yJ]⟩
 | x :: y :: r,_=>by
  obtain ⟨h1,h2⟩:=Eh (ns:=y :: r) (by simp);unfold yJ;refine ⟨?_,fun a ha=>?_⟩
  ·rcases Int.le_total x (yJ (y :: r)) with z | z
   ·rw [Int.max_eq_right z]; exact aj _ h1
   ·rw [Int.max_eq_left z]; exact ak
  ·rcases a7.mp ha with rfl | ha
   ·exact Int.le_max_left _ _
   ·exact Int.le_trans (h2 a ha) (Int.le_max_right _ _)
theorem Ei:∀ {ns:List Int},ns≠[]->lM ns∈ns/\∀ a∈ns,lM ns<=a
 | [],h=>(h rfl).elim
 | [x],_=>⟨by simp [lM],by simp [lM]⟩
 | x :: y :: r,_=>by
  obtain ⟨h1,h2⟩:=Ei (ns:=y :: r) (by simp);unfold lM;refine ⟨?_,fun a ha=>?_⟩
  ·rcases Int.le_total x (lM (y :: r)) with z | z
   ·rw [Int.min_eq_left z]; exact ak
   ·rw [Int.min_eq_right z]; exact aj _ h1
  ·rcases a7.mp ha with rfl | ha
   ·exact Int.min_le_left _ _
   ·exact Int.le_trans (Int.min_le_right _ _) (h2 a ha)
def qX:List PV->PH->Rs PV:=fun xs h=>match xs with
 | [.ref n]=>match aN h n with
  | some ys=>match uV ys with
   | some (a :: ns)=>.ok (.int (yJ (a :: ns))) h
   | _=>.bad
  | none=>.bad
 | _=>QM xs h
def qY:List PV->PH->Rs PV:=fun xs h=>match xs with
 | [.ref n]=>match aN h n with
  | some ys=>match uV ys with
   | some (a :: ns)=>.ok (.int (lM (a :: ns))) h
   | _=>.bad
  | none=>.bad
 | _=>QO xs h
section
variable {C:MC} {k:Nat} {X:Cx}
theorem K2 (c:Cxt C k X):bR X (.builtin "max") (fun xs H Q=>∃ (p:Addr) (ns:List Int),xs=[.ref p]/\SqL C.K H p (ns.map V.int)/\ns≠[]/\Q (.int (yJ ns)) H):=by
 intro pins s σ H xs us Q I r h;obtain ⟨p,ns,rfl,hq,hne,q⟩:=h;obtain ⟨u,rfl,ru⟩:=vals1 r;cases ru
 rw [<- c.K] at hq;obtain ⟨its,rv,pl,hz⟩:=I.list hq;have hi:IntsAre its ns:=intsAre_of rv;obtain ⟨ys,hy⟩:=hi.allInts.items;have hl:=pl.isList;have hns:ns=ys.toList.map (·.1):=by rw [<- hi.numsOf,<- nums_intItems,<- hy]
 have hsz:0 < ys.size:=by
  have h3:0 < ns.length:=ji.mpr hne;rw [hns,ae,d5] at h3; exact h3
 rw [hy] at hl;refine max_intList (I.ok.hd c.calm) hl hsz fun v h' tk hv hk=>?_;obtain ⟨t,rfl⟩:=intItems_at hv;obtain ⟨h1,h2⟩:=argBest_gt (numAt ys) (ys.size - 1);have hM:numAt ys (argBest (fun i j=>decide (numAt ys i > numAt ys j)) (ys.size - 1))=yJ ns:=by
  obtain ⟨m1,m2⟩:=Eh hne;refine Int.le_antisymm (m2 _ ?_) ?_
  ·rw [hns,numAt_eq]; exact getD_mem (by rw [ae,d5]; omega)
  ·have ha:=m1;rw [hns] at ha;obtain ⟨j,hj,ej⟩:=mem_getD ha;rw [ae,d5] at hj;rw [<- hns] at ej;rw [<- ej,hns,<- numAt_eq];exact h2 j (by omega)
 rw [hM];exact ⟨.int (yJ ns),H,I.kept (t':=tk) hk,⟨_,rfl⟩,q⟩
theorem K3 (c:Cxt C k X):bR X (.builtin "min") (fun xs H Q=>∃ (p:Addr) (ns:List Int),xs=[.ref p]/\SqL C.K H p (ns.map V.int)/\ns≠[]/\Q (.int (lM ns)) H):=by
 intro pins s σ H xs us Q I r h;obtain ⟨p,ns,rfl,hq,hne,q⟩:=h;obtain ⟨u,rfl,ru⟩:=vals1 r;cases ru
 rw [<- c.K] at hq;obtain ⟨its,rv,pl,hz⟩:=I.list hq;have hi:IntsAre its ns:=intsAre_of rv;obtain ⟨ys,hy⟩:=hi.allInts.items;have hl:=pl.isList;have hns:ns=ys.toList.map (·.1):=by rw [<- hi.numsOf,<- nums_intItems,<- hy]
 have hsz:0 < ys.size:=by
  have h3:0 < ns.length:=ji.mpr hne;rw [hns,ae,d5] at h3; exact h3
 rw [hy] at hl;refine min_intList (I.ok.hd c.calm) hl hsz fun v h' tk hv hk=>?_;obtain ⟨t,rfl⟩:=intItems_at hv;obtain ⟨h1,h2⟩:=argBest_lt (numAt ys) (ys.size - 1);have hM:numAt ys (argBest (fun i j=>decide (numAt ys i < numAt ys j)) (ys.size - 1))=lM ns:=by
  obtain ⟨m1,m2⟩:=Ei hne;refine Int.le_antisymm ?_ (m2 _ ?_)
  ·have ha:=m1;rw [hns] at ha;obtain ⟨j,hj,ej⟩:=mem_getD ha;rw [ae,d5] at hj;rw [<- hns] at ej;rw [<- ej,hns,<- numAt_eq];exact h2 j (by omega)
  ·rw [hns,numAt_eq]; exact getD_mem (by rw [ae,d5]; omega)
 rw [hM];exact ⟨.int (lM ns),H,I.kept (t':=tk) hk,⟨_,rfl⟩,q⟩
theorem Gp:gJ C k X (.builtin "max") qX:=fun c=>bR.imp (bR.or (WA c) (K2 c)) fun vs H Q h=>by
 obtain ⟨φ,h,ps,rh,rv,po⟩:=h;unfold qX at po;split at po
 ·rename_i n;split at po
  ·rename_i ys e;split at po
   ·rename_i a ns en;obtain ⟨v,rfl,rx⟩:=rv.one;obtain ⟨p,rfl,hp⟩:=rx;obtain ⟨p2,ws,hp2,sp,rp⟩:=bM rh e;rw [hp] at hp2; cases hp2;have ew:=vW rp en;subst ew;exact .inr ⟨p,a :: ns,rfl,sp,by simp,po.val rh rfl⟩
   ·exact po.elim
  ·exact po.elim
 ·exact .inl ⟨φ,h,_,rh,rv,po⟩
theorem Nv:gJ C k X (.builtin "min") qY:=fun c=>bR.imp (bR.or (WD c) (K3 c)) fun vs H Q h=>by
 obtain ⟨φ,h,ps,rh,rv,po⟩:=h;unfold qY at po;split at po
 ·rename_i n;split at po
  ·rename_i ys e;split at po
   ·rename_i a ns en;obtain ⟨v,rfl,rx⟩:=rv.one;obtain ⟨p,rfl,hp⟩:=rx;obtain ⟨p2,ws,hp2,sp,rp⟩:=bM rh e;rw [hp] at hp2; cases hp2;have ew:=vW rp en;subst ew;exact .inr ⟨p,a :: ns,rfl,sp,by simp,po.val rh rfl⟩
   ·exact po.elim
  ·exact po.elim
 ·exact .inl ⟨φ,h,_,rh,rv,po⟩
end
section
variable {h:PH}
theorem K4 {n:Nat} {a:Int} {ns:List Int} (e:h[n]?=some (.lst ((a :: ns).map PV.int))):qY [.ref n] h=.ok (.int (lM (a :: ns))) h:=by
 have e1:aN h n=some ((a :: ns).map PV.int):=by simp [aN,e]
 simp only [qY,e1,B3]
@[simp] theorem VM {i j:Int}:qX [.int i,.int j] h=.ok (.int (if j > i then j else i)) h:=(rfl)
@[simp] theorem VN {i j:Int}:qY [.int i,.int j] h=.ok (.int (if j < i then j else i)) h:=(rfl)
end
theorem Cn:typeLookup (.type "list") "keys" = pure none:=by rw [typeLookup_type,builtinLookup_eq_fast]; kernel_rfl
theorem Co {prog:Program} {w:World} {A:Around} {E:Value->Shared->Prop} {s:Shared} {a:Addr} {o:Obj} {xs:Array Value} {k:Nat} {Q:Option Value->Shared->Prop}
  (hx:s.heap.get? a=some o) (hc:o.cls=.type "list") (hdat:o.data=.seq xs k) (hd:o.dict=none) (hA:A.handled=none)
  (h:∀ h' tk,(∀ b u,s.heap.get? b=some u->h'.get? b=some u)->Q none { s with heap:=h',toks:=tk }):wpAny (model prog w) A (getAttr? (.ref a) "keys") Q E s:=by
 obtain ⟨c,dct,dat,sl⟩:=o;simp only at hc hdat hd;subst hc hdat hd;obtain ⟨hp,g,d,tk,os⟩:=s;have hT:∀ tk',(⟨hp,g,d,tk',os⟩:Shared).TypeIs (.ref a) "list" := fun _=>⟨_,hx,rfl⟩;have f1:=sub_AttributeError;have f3:=F.slot_list_getattribute.lookup;have f4:=F.slot_list_getattribute.bind (.ref a);have f5:=am_list_getattr_none;unfold getAttr? getAttrBy? getAttrBy
 repeat (any_goals (first | assumption | exact hT _ | ((with_reducible show wpAny _ _ (call (Value.builtin "list.__getattribute__") _ _) _ _ _); refine call_meets F.slot_list_getattribute (hT _) am_entry_list_getattribute (F.args_list_getattribute_2 _ _) (meets_getattribute_miss_list a xs k sl "keys" _ Cn (by decide) (by size_fits)) ⟨hx,hA,fun h' tk' e hx'=>?_⟩) | wp_step))
 obtain ⟨t',u',he⟩:=hx'.there
 show wpAny _ _ (getattributeRaised _ _ _ _ _ _ _) _ _ _
 unfold getattributeRaised
 repeat (any_goals (first | assumption | wp_step))
 exact h _ _ hx'.of.keeps
section
variable {prog:Program} {w:World} {K:Type} [DecidableEq K] {knd:HeapKind prog w K} {A:Around} {R:Result->Shared->Prop}
def Ej (xs:List (K×Addr×Value)) (ps:List (Addr×K×Addr×Value)):List (K×Addr×Value):=ps.foldl (fun acc p=>storedH acc p.2.1 p.2.2.1 p.2.2.2) xs
theorem vC (xs:List (K×Addr×Value)) (k:K) (a:Addr) (v:Value):(storedH xs k a v).length<=xs.length+1:=by
 unfold storedH;split
 ·rw [ae]; omega
 ·simp
theorem Ek {xs:List (K×Addr×Value)} {k:K} {a:Addr} {v:Value} {x:K×Addr×Value} (h:x∈storedH xs k a v):(∃ y∈xs,x.1=y.1/\x.2.1=y.2.1)\/(x.1=k/\x.2.1=a):=by
 unfold storedH at h;split at h
 ·obtain ⟨y,hy,rfl⟩:=au.mp h;refine .inl ⟨y,hy,?_,?_⟩
  ·unfold putAt; split <;> rfl
  ·unfold putAt; split <;> rfl
 ·rcases bj.mp h with h | h
  ·exact .inl ⟨x,h,rfl,rfl⟩
  ·rw [bc.mp h]; exact .inr ⟨rfl,rfl⟩
theorem El {I d:Addr} {fp wr:List Addr} {n:Nat} {P:Nat->Value->Prop} {St:Nat->Heap->Prop} (W:Walks prog w A.in1 I fp wr n P St) (hd:d∉fp) (hu:knd.room A.in1) (ps:List (Addr×K×Addr×Value)) (hn:ps.length=n)
  (hP:∀ i v,P i v->∃ p,ps[i]?=some p/\v=.ref p.1) (h0:Heap) (hw0:∀ b u,h0.get? b=some u->b∉wr/\b≠d)
  (hk:∀ h',(∀ b u,h0.get? b=some u->h'.get? b=some u)->∀ p∈ps,knd.is h' p.2.1 p.2.2.1/\IsTup h' p.1 #[.ref p.2.2.1,p.2.2.2]) (res:Value):
  ∀ (m i:Nat) (s:Shared) (xs:List (K×Addr×Value)),n - i=m->i<=n->St i s.heap->s.heap.DictOfH knd d xs->(∀ x∈xs,∃ p∈ps,x.1=p.2.1/\x.2.1=p.2.2.1)->xs.length+n<=av+i->(∀ b u,h0.get? b=some u->s.heap.get? b=some u)->
  (∀ h' tk,h'.DictOfH knd d (Ej xs (ps.drop i))->(∀ b u,h0.get? b=some u->h'.get? b=some u)->R (.ok (.ret res)) { s with heap:=h',toks:=tk })->
  codeAny (model prog w) A (.builtin "dict.update.loop" ⟨[.ref d,.ref I,rawInt i,res],[]⟩) R s:=by
 have hdw:d∉wr:=fun h=>hd (W.sub _ h);intro m
 induction m with
 | zero=>
  intro i s xs hm hi hst hdt hxs hz hit hR;have hin:i=n:=by omega
  subst hin;refine l0 eX ?_;rw [i5 bV _]
  show wpAny _ A.in1 (pyNext (.ref I) >>= _) _ _ s
  refine aa (W.done s _ _ hst fun h' tk hk'=>?_)
  show wpAny _ A.in1 (Builtin.Dict.addKeywords d [] >>= _) _ _ _
  have h00:∀ b u,h0.get? b=some u->h'.get? b=some u:=fun b u e=>hk' b u (hw0 b u e).1 (hit b u e);have hfin:=hR h' tk (by
   rw [List.drop_of_length_le (by omega)];obtain ⟨o,es,ep,h1,h2,h3,h4,h5,h6⟩:=hdt;refine ⟨o,es,ep,hk' d _ hdw h1,h2,h3,h4,fun x hx=>?_,h6⟩;obtain ⟨p,hp,e1,e2⟩:=hxs x hx;rw [e1,e2];exact (hk h' h00 p hp).1) h00
  exact aa (ai (ai hfin))
 | succ m ih=>
  intro i s xs hm hi hst hdt hxs hz hit hR;have hlt:i < n:=by omega
  refine l0 eX ?_;rw [i5 bV _]
  show wpAny _ A.in1 (pyNext (.ref I) >>= _) _ _ s
  refine aa (W.item i s _ _ hlt hst fun v h' tk hPv hst' hk'=>?_);obtain ⟨p,hp,rfl⟩:=hP i v hPv;have hpm:=cf hp;have h00:∀ b u,h0.get? b=some u->h'.get? b=some u:=fun b u e=>hk' b u (hw0 b u e).1 (hit b u e);obtain ⟨hki,ob,hb1',hb2,nn,hb3⟩:=hk h' h00 p hpm;have hTy:({ s with heap:=h',toks:=tk }:Shared).TypeIs (.ref p.1) "tuple" := ⟨ob,hb1',hb2⟩;have hdt':h'.DictOfH knd d xs:=by
   obtain ⟨o,es,ep,h1,h2,h3,h4,h5,h6⟩:=hdt;refine ⟨o,es,ep,hk' d _ hdw h1,h2,h3,h4,fun x hx=>?_,h6⟩;obtain ⟨p,hp,e1,e2⟩:=hxs x hx;rw [e1,e2];exact (hk h' h00 p hp).1
  refine aa (dg (aa (m9 ?_)));unfold Builtin.Dict.pairItems;refine aa (nq hTy ?_);rw [if_pos (by decide)];refine aa (wpAny_seqItems hb1' hb3 (ai ?_))
  show wpAny _ _ (holding [.ref p.2.2.1,p.2.2.2] (dictSet d (.ref p.2.2.1) p.2.2.2)) _ _ _
  refine dg (wpAny_dictSet_heap (hsz:=by omega) hu hki hdt' fun h2 hd2 hs2=>?_);refine ai ⟨ku bV _,?_⟩;have st2:St (i+1) h2:=W.frame (i+1) h' h2 hst' fun b hb o e=>(hs2.2 b (fun z=>hd (z ▸ hb))).trans e;refine ih (i+1) _ (storedH xs p.2.1 p.2.2.1 p.2.2.2) (by omega) hlt st2 hd2 (fun x hx=>?_) ?_ (fun b u e=>(hs2.2 b (hw0 b u e).2).trans (h00 b u e)) fun h3 tk3 hd3 hk3=>?_
  ·rcases Ek hx with ⟨y,hy,e1,e2⟩ | ⟨e1,e2⟩
   ·rw [e1,e2]; exact hxs y hy
   ·exact ⟨p,hpm,e1,e2⟩
  ·have:=vC xs p.2.1 p.2.2.1 p.2.2.2;omega
  ·refine hR h3 tk3 ?_ hk3;have hdr:ps.drop i=p :: ps.drop (i+1):=by
    obtain ⟨hl,e⟩:=ab.mp hp;rw [j4 hl,e]
   rw [hdr];exact hd3
theorem vT {E:Value->Shared->Prop} {s:Shared} {a:Addr} {o:Obj} {k:Nat} {ps:List (Addr×K×Addr×Value)} {Q:Value->Shared->Prop} (hA:A.handled=none) (hu:knd.room A.in1.in1) (hx:s.heap.get? a=some o) (hc:o.cls=.type "list") (hdat:o.data=.seq (ps.map fun p=>c9 p.1).toArray k) (hd:o.dict=none)
  (hk:∀ h',(∀ b u,s.heap.get? b=some u->h'.get? b=some u)->∀ p∈ps,knd.is h' p.2.1 p.2.2.1/\IsTup h' p.1 #[.ref p.2.2.1,p.2.2.2]) (hz:ps.length<=av)
  (h:∀ h' tk,h'.DictOfH knd s.heap.objs.size (Ej [] ps)->(∀ b u,s.heap.get? b=some u->h'.get? b=some u)->Q (.ref s.heap.objs.size) { s with heap:=h',toks:=tk }):
  wpAny (model prog w) A (call (.type "dict") [.ref a]) Q E s:=by
 refine callType_codes (Q₁:=fun obj s₁=>obj=.ref s.heap.objs.size/\s₁={ s with heap:=s.heap.push { cls:=.type "dict",data:=.dict #[] } }) F.kt_called_dict (F.kt_typeCall_dict_1 _) F.entry_dict_init (kt_code_dict_new _ ⟨rfl,rfl⟩) ?_;rintro obj s₁ ⟨rfl,rfl⟩;have hnew:(s.heap.push { cls:=.type "dict",data:=.dict #[] }).DictOfH knd s.heap.objs.size []:=Heap.DictOfH.new s.heap;have up:∀ b u,s.heap.get? b=some u->(s.heap.push { cls:=.type "dict",data:=.dict #[] }).get? b=some u:=fun b u e=>ah _ e;have hTa:({ s with heap:=s.heap.push { cls:=.type "dict",data:=.dict #[] } }:Shared).TypeIs (.ref a) "list" := ⟨o,up _ _ hx,hc⟩;refine ⟨hnew.typeIs,F.args_dict_init_2 _ _,?_⟩;unfold Builtin.«dict.__init__»;refine aa ?_; unfold Builtin.Dict.selfAndRest;refine aa (ju hnew.typeIs (show wpAny _ _ (pure (s.heap.objs.size,[c9 a])) _ _ _ from ai ?_))
 show wpAny _ _ (kz "dict.__init__" s.heap.objs.size (.ref a) [] .none) _ _ _
 unfold kz;refine aa (nq hTa ?_);rw [if_pos (by decide)];refine aa (Co (up _ _ hx) hc hdat hd hA fun h1 tk1 kp1=>?_);rw [if_pos (by rfl)];refine aa (j8 ?_);have ha1:h1.IsList a (ps.map fun p=>c9 p.1).toArray:=⟨o,kp1 _ _ (up _ _ hx),hc,k,hdat⟩;refine aa (my (s:={ s with heap:=h1,toks:=tk1 }) ha1 (ai ⟨ku bV _,?_⟩));have lt0:s.heap.objs.size < h1.objs.size:=by
  have:=kp1 s.heap.objs.size _ (ay s.heap rfl);exact ax this
 have hlt:∀ b u,s.heap.get? b=some u->b < s.heap.objs.size:=fun b u e=>ax e;have ha0:=hlt _ _ hx;refine El (knd:=knd) (fp:=[h1.objs.size,a]) (wr:=[h1.objs.size]) (n:=(ps.map fun p=>c9 p.1).toArray.size) (Walks.list (A:=A.in1.in1) hA h1.objs.size a (az (nu ha0 lt0)) (ps.map fun p=>c9 p.1).toArray) ?_ hu ps (by simp) (fun i v e=>?_) s.heap (fun b u e=>?_) hk .none _ 0 _ [] (Nat.sub_zero _) (cg _) ?_ ?_ (fun x hx=>nomatch hx) (by simpa using hz) (fun b u e=>?_) fun h' tk dd kk=>?_
 ·intro z;rcases a7.mp z with z | z
  ·exact az lt0 z
  ·exact az ha0 (bc.mp z).symm
 ·have e':(ps.map fun p=>c9 p.1)[i]?=some v:=by simpa using e
  rw [aq] at e';obtain ⟨p,hp,rfl⟩:=bf.mp e';exact ⟨p,hp,rfl⟩
 ·have h0:=hlt _ _ e;exact ⟨fun z=>az (nu h0 lt0) (bc.mp z),az h0⟩
 ·refine ⟨⟨_,ay _ rfl,rfl,rfl⟩,?_⟩;obtain ⟨ob,e,r⟩:=ha1;exact ⟨ob,ah _ e,r⟩
 ·obtain ⟨oo,es,ep,e,r1,r2,r3,r4,r5⟩:=hnew;exact ⟨oo,es,ep,ah _ (kp1 _ _ e),r1,r2,r3,(fun x hx=>nomatch hx),r5⟩
 ·exact ah _ (kp1 _ _ (up _ _ e))
 ·exact ⟨rfl,h h' tk (by simpa using dd) kk⟩
end
section
variable {C:MC} {k:Nat} {X:Cx} {φ:List Addr} {H:Hp} {pins:List (Addr×Obj)} {σ:St} {s:Shared}
def yK:List PV->Option (List (PV×PV))
 | []=>some []
 | .tup [y,v] :: r=>if y.isKt=true then (yK r).map ((y,v) :: ·) else none
 | _=>none
def Nw (kvs more:List (PV×PV)):List (PV×PV):=more.foldl (fun acc kv=>dO acc kv.1 kv.2) kvs
theorem Bg {h h':Heap} (kp:∀ b u,h.get? b=some u->h'.get? b=some u) (a:Addr) (x:Array Value):IsTup h a x->IsTup h' a x:=fun ⟨o,e,r⟩=>⟨o,kp _ _ e,r⟩
theorem yL (I:Inv X pins σ H s) (hK:X.K=C.K):∀ {ps:List PV} {rs:List (PV×PV)} {vs:List V} {us:List Value},yK ps=some rs->RVs C φ H ps vs->aM vs us->
  ∃ qs:List (Addr×PV×Addr×Value),us=qs.map (fun q=>c9 q.1)/\(∀ h',(∀ b u,s.heap.get? b=some u->h'.get? b=some u)->∀ q∈qs,(kZ X.prog X.w).is h' q.2.1 q.2.2.1/\IsTup h' q.1 #[.ref q.2.2.1,q.2.2.2])/\
   ∀ {kvs:List (PV×PV)} {ks:List (PV×Addr×V)} {xs:List (PV×Addr×Value)},RKd C φ H kvs ks->xW ks xs->∃ ks',RKd C φ H (Nw kvs rs) ks'/\xW ks' (Ej xs qs)
 | [],rs,[],us,e,_,ru=>by
  cases ru
  cases e
  exact ⟨[],rfl,(fun _ _ _ h=>nomatch h),fun r rx=>⟨_,r,rx⟩⟩
 | p :: ps,rs,v :: vs,us,e,r,ru=>by
  cases ru with
  | @cons _ u _ us' h t=>
   cases p with
   | tup xs=>
    match xs,e with
    | [y,z],e=>
     unfold yK at e;split at e
     ·rename_i hk;cases e2:yK ps with
      | none=>rw [e2] at e; cases e
      | some rs'=>
       rw [e2] at e;cases e
       obtain ⟨qs,rfl,a1,a2⟩:=yL I hK e2 r.2 t;obtain ⟨b,bs,rfl,sq,rb⟩:=r.1;cases h
       obtain ⟨yv,zv,rfl,ry,rz⟩:=rb.two;rw [<- hK] at sq;obtain ⟨its,rits,pt,_⟩:=I.tuple sq;obtain ⟨yu,zu,rfl,ryu,rzu⟩:=vals2 rits;obtain ⟨c,rfl⟩:=jP hk ry;cases ryu
       have hki:=uX I hK hk ry;refine ⟨(b,y,c,zu) :: qs,rfl,?_,fun {kvs ks xs} r' rx'=>?_⟩
       ·intro h' kp q hq;rcases a7.mp hq with rfl | hq
        ·exact ⟨⟨hki.1,HR.keep (Bg kp) hki.2⟩,Bg kp _ _ pt⟩
        ·exact a1 h' kp q hq
       ·obtain ⟨ks',r1,r2⟩:=HD.put (a:=b) r' rx' (qM hk) ry rz rzu;exact a2 r1 r2
     ·cases e
    | [],e=>cases e
    | [_],e=>cases e
    | _ :: _ :: _ :: _,e=>cases e
   | _=>cases e
 | [],_,_ :: _,_,_,r,_=>r.elim
 | _ :: _,_,[],_,_,r,_=>r.elim
def Cp:List PV->PH->Rs PV:=fun xs h=>match xs with
 | [.ref n]=>match h[n]? with
  | some (.lst ps)=>match yK ps with
   | some rs=>.ok (.ref h.length) (h++[.dD (Nw [] rs)])
   | none=>.bad
  | _=>xY xs h
 | _=>xY xs h
theorem Bh {K:Type} [DecidableEq K]:∀ (ps:List (Addr×K×Addr×Value)) (xs:List (K×Addr×Value)),(Ej xs ps).length<=xs.length+ps.length
 | [],xs=>ao _
 | p :: ps,xs=>by
  have:=Bh ps (storedH xs p.2.1 p.2.2.1 p.2.2.2);have h2:=vC xs p.2.1 p.2.2.1 p.2.2.2
  show (Ej (storedH xs p.2.1 p.2.2.1 p.2.2.2) ps).length<=_
  rw [dq];omega
theorem Rf:gJ C k X (.type "dict") Cp:=fun c pins s σ H xs us Q I r h=>by
 obtain ⟨φ,h,ps,rh,rv,po⟩:=h;unfold Cp at po;split at po
 ·rename_i n;split at po
  ·rename_i ls hk;split at po
   ·rename_i rs e;obtain ⟨v,rfl,rx⟩:=rv.one;obtain ⟨a,rfl,ha⟩:=rx;obtain ⟨u,rfl,ru⟩:=vals1 r;cases ru
    obtain ⟨vs,hH,rvs⟩:=rh.at' n a _ ha hk;obtain ⟨hz,its,m,rits,hl,hx⟩:=I.lstM hH;obtain ⟨qs,rfl,a1,a2⟩:=yL I c.K e rvs rits;have hq:qs.length<=av:=by
     rw [ae] at hl;omega
    have rm:(kZ X.prog X.w).room X.A.in1.in1:=by
     have:=c.hu64
     show X.A.units+1+1+6 < cLine
     omega
    refine vT (knd:=kZ X.prog X.w) (I.ok.hd c.calm) rm hx rfl rfl rfl a1 hq fun h' tk dd kk=>?_;obtain ⟨ks',r1,r2⟩:=a2 (.nil:RKd C φ H [] []) (.nil:xW [] []);have fr:H s.heap.objs.size=none:=I.fresh;obtain ⟨o,es,ep,hq1,h2,h3,h4,h5',h5⟩:=dd;have hl2:ks'.length<=av:=by
     have e1:=ff r2;have e2:=Bh qs ([]:List (PV×Addr×Value));simp at e2;omega
    refine ⟨.ref s.heap.objs.size,_,I.laid (a:=s.heap.objs.size) (o:=dDO C.w s.heap.objs.size ks') (t':=tk) kk (ao _) ⟨⟨hl2,beq_eq_false_iff_ne.mpr (jx (az I.big)),_,r2,o,es,ep,hq1,h2,h3,?_,h5⟩,⟨o,hq1⟩,?_⟩,rfl,?_⟩
    ·rw [h4,<- c.w]; rfl
    ·rintro g1 g2 ⟨z1,z2,ws,z3,o',es',ep',z4,z5⟩ keep;exact ⟨z1,z2,ws,z3,o',es',ep',keep _ z4,z5⟩
    ·exact po (φ++[s.heap.objs.size]) (.ref _) _ (c5 _ _) (Kp.new fr) (rh.new fr ⟨_,bK,RKd.mono (c5 _ _) (Kp.new fr) r1⟩) ⟨_,rfl,by rw [<- rh.len]; simp⟩
   ·exact po.elim
  ·exact N9 c pins s σ H xs us Q I r ⟨φ,h,_,rh,rv,po⟩
 ·exact N9 c pins s σ H xs us Q I r ⟨φ,h,_,rh,rv,po⟩
end
end L2
namespace L2
open PySem PySem.Spec PyProof.Rows PySem.SeqAt
open PySem.AutoSeq1 (wpAny_loadPart')
open PySem.MeetsSeq PySem.MeetsSeq2 PySem.MeetsSeq3
section
variable {C:MC} {k:Nat} {X:Cx}
def Xc:PV->PV->PH->Rs PV:=fun x y h=>match x,y with
 | .tup xs,.tup ys=>ofB ((R0 (.tup xs) (.tup ys)).map (!·)) h
 | x,y=>vGe x y h
variable {h:PH}
@[simp] theorem Xd {i j:Int}:Xc (.int i) (.int j) h=.ok (.bl (decide (j<=i))) h:=(rfl)
@[simp] theorem Xe {i j:Str}:Xc (.str i) (.str j) h=.ok (.bl (!decide (i.cps.toList < j.cps.toList))) h:=(rfl)
end
end L2
namespace L2
open PySem PySem.Spec PyProof.Rows
section
variable {C:MC} {k:Nat} {X:Cx} {ke ve:Expr} {mk mv:Me} {pos:Pos}
def putD (x y:PV) (n:Nat) (h:PH):Rs PV:=if x.isKt=true then (match cP h n with
 | some kvs=>if kvs.length < av then .ok (.ref n) (h.set n (.dD (dO kvs x y))) else .bad
 | none=>.bad) else .bad
def UZ (mk mv:Me):Me:=fun δ h=>(mk δ (h++[.dK []])).bind fun x h2=>(mv δ h2).bind fun y h3=>putD x y h.length h3
end
section
theorem Rg {h:PH} {n:Nat} {kvs:List (Key×PV)} {x:Str} {z:PV} (e:h[n]?=some (.dK kvs)) (hl:kvs.length < 16777216):qW (.ref n) (.str x) z h=some (h.set n (.dK (dO kvs (.inr x) z))):=by
 show vS (.ref n) (.str x) z h=_
 exact IL e hl
@[simp] theorem VO {mk mv:Me} {δ:Ev} {h:PH}:UZ mk mv δ h=(mk δ (h++[.dK []])).bind fun x h2=>(mv δ h2).bind fun y h3=>putD x y h.length h3:=(rfl)
end
def Xf:HO->Prop
 | .tup _=>False
 | .own _=>False
 | .tbl _=>False
 | _=>True
def V0:MO->Option (List PV)
 | .dK kvs=>some (kvs.map fun kv=>.tup [kP kv.1,kv.2])
 | .dD kvs=>some (kvs.map fun kv=>.tup [kv.1,kv.2])
 | _=>none
def Xg:MO->Option (List PV)
 | .dK kvs=>some (kvs.map fun kv=>kP kv.1)
 | .dD kvs=>some (kvs.map (·.1))
 | _=>none
section
variable {C:MC} {k:Nat} {X:Cx} {pins:List (Addr×Obj)} {σ:St} {H:Hp} {s:Shared} {φ:List Addr}
structure Z7 (C:MC) (φ:List Addr) (H:Hp) (s:Shared) (b:Addr) (o:MO) (ks:List (V×V)) (u:HO) (oc:Obj) (es:Array DictEntry) (ep:Nat):Prop where
 at':H b=some u
 nf:Xf u
 nz:∀ o z,u≠.frz o z
 nt:DK (some u)
 get:s.heap.get? b=some oc
 cls:oc.cls=.type "dict"
 data:oc.data=.dict es ep
 nsys:(b == fq)=false
 fz:∀ φ' H',φ<+:φ'->H' b=some (.frz oc u)->Kp H H'->RO C φ' H' b (.fz o)
 len:ks.length=es.size
 ent:∀ (i:Nat) (hi:i < es.size),∃ kv,ks[i]?=some kv/\RelV kv.1 es[i].key/\RelV kv.2 es[i].val
 keys:∀ xs,Xg o=some xs->RVs C φ H xs (ks.map (·.1))
 items:∀ xs,V0 o=some xs->xs.length=ks.length/\∀ (i:Nat) p,xs[i]?=some p->∃ p1 p2 kv,p=.tup [p1,p2]/\ks[i]?=some kv/\RV C φ H p1 kv.1/\RV C φ H p2 kv.2
end
end L2
namespace L2
open PySem PySem.Spec PyProof.Rows PySem.SeqAt
section
variable {X:Cx} {pins:List (Addr×Obj)} {σ:St} {H:Hp} {s:Shared}
theorem yM (I:Inv X pins σ H s):∀ {ds es:List D} {vs:List V},D.depths ds<=40->cL X.K H ds vs->cL X.K H es vs->ds=es
 | [],[],[],_,_,_=>rfl
 | d :: ds,e :: es,v :: vs,h,⟨a,b⟩,⟨a',b'⟩=>by
  have hh:D.depths (d :: ds)=max d.depth (D.depths ds):=by simp [D.depths]
  have h1:d.depth<=40:=by omega
  have h2:D.depths ds<=40:=by omega
  rw [mJ I 40 d e v h1 a a',yM I h2 b b']
 | [],_ :: _,vs,_,h,h'=>by
  cases vs with
  | nil=>exact h'.elim
  | cons _ _=>exact h.elim
 | _ :: _,[],vs,_,h,h'=>by
  cases vs with
  | nil=>exact h.elim
  | cons _ _=>exact h'.elim
theorem YJ (I:Inv X pins σ H s) {ds es:List D} {A:Around} {x y:V} {v u:Value} (hd:D.depths ds<=40) (hu:A.units+42 < cLine) (hx:DL X.K H ds x) (hy:DL X.K H es y) (rx:RelV x v) (ry:RelV y u):EqAt A s v u (eI ds es):=by
 obtain ⟨a,vs,rfl,q,r⟩:=hx;obtain ⟨b,vs',rfl,q',r'⟩:=hy;cases rx; cases ry;refine eJ (fun prog w E Q hq=>?_) (fun e=>?_) (fun f t z=>by cases z)
 ·obtain ⟨its,rv,p,_⟩:=I.list q;obtain ⟨its',rv',p',_⟩:=I.list q';have l1:=r.length;have l2:=r'.length;have l3:=rv.length;have l4:=rv'.length
  by_cases hl:ds.length=es.length
  ·refine eq_listAt p.isList p'.isList (by simp; omega) (by omega) (nZ (I:=I) r r' rv rv' hd (by omega)) ?_;have e1:its.toArray.size=ds.length:=by simp; omega
   rw [e1,sM hl];exact hq
  ·refine eq_list_lengthsAt p.isList p'.isList (by simp; omega) (by omega) ?_;have e:eI ds es=false:=by
    cases h:eI ds es with
    | false=>rfl
    | true=>exact absurd (wQ h) hl
   rw [e] at hq;exact hq
 ·cases e
  have ev:=I.list_inj q q';subst ev;have e2:=yM I hd r r';subst e2;have:=iR (.tup ds);simpa [eqD] using this
end
end L2
namespace L2
open PySem PySem.Spec PyProof.Rows PySem.SeqAt PySem.W
def hdk:PV->Option Nat
 | .tup (.int _ :: _)=>some 0
 | .tup (.str _ :: _)=>some 1
 | .tup (.tup _ :: _)=>some 2
 | _=>none
def ltV (x y:PV):Bool:=match x.d,y.d with
 | some d,some e=>ltD d e == some true
 | _,_=>false
structure OkV (b:Bool) (ks:List PV):Prop where
 dat:∀ x∈ks,∃ xs ds,x=.tup xs/\PV.ds xs=some ds/\D.depths ds<=40
 hd:∃ t,((t == 2)=!b)/\t<=2/\∀ x∈ks,hdk x=some t
 can:∀ x∈ks,∀ y∈ks,∃ d e c,x.d=some d/\y.d=some e/\ltD d e=some c
 tr:∀ x∈ks,∀ y∈ks,∀ z∈ks,ltV y x=false->ltV z y=false->ltV z x=false
 as:∀ x∈ks,∀ y∈ks,ltV x y=true->ltV y x=false
 tot:∀ x∈ks,∀ y∈ks,ltV x y=false->ltV y x=false->x=y
end L2
namespace L2
open PySem PySem.Spec PyProof.Rows PySem.SeqAt
structure Mk0 (K:ag) (C:Addr):Prop where
 makes:PySem.W.makesIn K C=true
 init:m7 K (.ref C) "__init__" = some (some (.builtin "object.__init__"))
 kp:bh K (.ref C)=true
def V1 (cn:Str):Me:=fun δ h=>.ok (.ref h.length) (h++[.ins cn []])
section
@[simp] theorem VP {cn:Str} {δ:Ev} {h:PH}:V1 cn δ h=.ok (.ref h.length) (h++[.ins cn []]):=(rfl)
end
end L2
namespace L2
open PySem PySem.Spec PyProof.Rows PySem.SeqAt PySem.W
open Classical in
noncomputable def Bi (b:Bool) (m:Nat) (ks ys:List PV):Option (List PV):=if ks.length < 64/\ks.length=ys.length/\OkN m ks/\(∀ a∈ks.zip ys,∀ c∈ks.zip ys,a.1=c.1->a.2=c.2) then some ((ng b (iV ix (ks.zip ys))).map (·.2)) else none
noncomputable def fB (f:Fn) (b:Bool) (kb:Nat) (ys:List PV):List PV->List PV->PH->Rs PV
 | [],ks,h=>match Bi b kb ks ys with
  | some zs=>.ok (.ref h.length) (h++[.lst zs])
  | none=>.bad
 | x :: xs,ks,h=>(f [x] h).bind fun k h1=>fB f b kb ys xs (ks++[k]) h1
noncomputable def iH (f:Fn) (b:Bool) (kb:Nat) (x:PV) (h:PH):Rs PV:=match eM x h with
 | some ys=>if ys.length < 64 then fB f b kb ys ys [] h else .bad
 | none=>.bad
noncomputable def vX (f:Fn) (b:Bool) (kb:Nat) (me:Me):Me:=fun δ h=>(me δ h).bind fun x h1=>iH f b kb x h1
section
variable {C:MC} {k:Nat} {X:Cx}
def Nx (C:MC) (X:Cx) (pins:List (Addr×Obj)) (σ:St) (φ:List Addr) (H:Hp) (f:Fn) (b:Bool) (kb:Nat) (ys:List PV) (Q:VK) (a z:Addr) (kS:Addr) (e1:Nat) (ks:List Value) (e:Nat) (s':Shared):Prop:=
 z < kS/\∃ H' φ' h' zs ps,Inv X (pins++[(kS,seqObj "list" ks.toArray e),(a,seqObj "list" #[] e1)]) σ H' s'/\φ<+:φ'/\Kp H H'/\RH C φ' H' h'/\aM zs ks/\RVs C φ' H' ps zs/\post C φ' H' (fB f b kb ys (ys.drop ks.length) ps h') Q
section
variable {x:Str} {st:Stmt} {q:Addr} {fd:cy} {pn:List Str} {j:Nat} {f:Fn}
theorem K5 {pins:List (Addr×Obj)} {σ:St} {φ:List Addr} {H:Hp} {b:Bool} {kb:Nat} {ys:List PV} {us:List V} {its:List Value} {Q:VK} {a:Addr} (c:Cxt C k X) (D:Def C.K X.mg x st q fd pn) (G:aU X.prog X.w C.K X.mg X.base CX0 j q fd pn (spM C 1 f)) (hj:j+2<=k)
  (ry:RVs C φ H ys us) (rv:aM us its) {A':Around} (eA:A'=X.A.in1.in1) (fr:∀ kS,a<=kS->X.s₀.heap.objs.size<=kS/\kS≠X.env.locals/\(∀ x c,X.env.cells.lookup x=some c->c≠kS)/\(∀ p∈X.pn++pins,p.1≠kS)/\kS∉X.fs)
  (kS:Addr) (e1:Nat) (ks:List Value) (e:Nat) (s':Shared) (y:Value) (hy:its[ks.length]?=some y) (hJ:Nx C X pins σ φ H f b kb ys Q a a kS e1 ks e s'):
  wpAny (model X.prog X.w) A' (call (.ref q) [y]) (fun v s''=>s''.heap.get? kS=some (seqObj "list" ks.toArray e)/\∀ (h':Heap) e',ib kS s''.heap h'->h'.get? kS=some (seqObj "list" (ks++[v]).toArray e')->Nx C X pins σ φ H f b kb ys Q a a kS e1 (ks++[v]) e' { s'' with heap:=h' }) (fun _ _=>False) s':=by
 subst eA;obtain ⟨hz,H',φ',h',zs,ps,I,pp,tt,rh,rz,rp,po⟩:=hJ;have hlt:ks.length < its.length:=(ab.mp hy).1;have hlu:us.length=its.length:=rv.length;have hly:ys.length=us.length:=ry.length;have gy:ys[ks.length]?=some (ys[ks.length]'(by omega)):=by simp
 obtain ⟨u,hu,ru⟩:=ry.at gy;obtain ⟨y',hy',ryv⟩:=rv.get hu;rw [hy] at hy';cases hy'
 have hd:ys.drop ks.length=ys[ks.length]'(by omega) :: ys.drop (ks.length+1):=drop_cons gy;rw [hd] at po;have e1':=c.K;have G':aU X.prog X.w X.K X.mg X.base CX0 j q fd pn (spM C 1 f):=by rw [e1']; exact G
 have D':Def X.K X.mg x st q fd pn:=by rw [e1']; exact D
 have sp1:spM C 1 f [u] H' (fun v H2=>∃ φ2 p h2,φ'<+:φ2/\Kp H' H2/\RH C φ2 H2 h2/\RV C φ2 H2 p v/\post C φ2 H2 (fB f b kb ys (ys.drop (ks.length+1)) (ps++[p]) h2) Q) E0:=
  ⟨φ',h',[ys[ks.length]'(by omega)],rh,⟨ru.mono pp tt,trivial⟩,rfl,post.bind po⟩
 have hl:([y]:List Value).length=pn.length:=G'.len _ _ _ _ sp1;refine wpAny_call (codeAny_mono (G'.run X.A.in1.in1 X.stack s' H' ⟨[y],[]⟩ [y] [u] _ E0 ((c.room.mono hj).in1.in1) I.env0.in1.in1 (by
  have:=D'.bd s' [y] I.kIn (by simpa using hl)
  simpa using this) (.cons ryv .nil) sp1) fun r s2 hq=>?_)
 cases r with
 | error e=>exact hq.elim
 | ok fl=>
  cases fl with
  | next=>exact fu hq
  | brk=>exact fu hq
  | cont=>exact fu hq
  | ret v=>
   obtain ⟨x2,H2,I2,rx2,φ2,p2,h2,pp2,tt2,rh2,rp2,po2⟩:=I.after hq;have gk:=I2.pin (kS,seqObj "list" ks.toArray e) (af _ (af _ ak));have ga:=I2.pin (a,seqObj "list" #[] e1) (af _ (af _ (aj _ ak)));refine ⟨gk.1,fun g e' sb he'=>?_⟩;have fk:=fr kS (f6 hz);have nak:a≠kS:=az hz;have I3:Inv X (pins++[(a,seqObj "list" #[] e1)]) σ H2 s2:=I2.pins_of fun p hp=>(bj.mp hp).elim (fun z=>I2.pin p (af _ (dh _ z))) fun z=>by
    rw [bc.mp z]; exact ga
   have I4:=I3.turned (t':=s2.toks) (it:=kS) (h':=g) (fun b' o' hb hq=>(sb.2 b' hb).trans hq) gk.2.1 fk.2.1 (.inr fk.1) fk.2.2.1 (fun p hp=>by
    rcases bj.mp hp with hp | hp
    ·exact fk.2.2.2.1 p (dh _ hp)
    ·rcases bj.mp hp with hp | hp
     ·exact fk.2.2.2.1 p (af _ hp)
     ·rw [bc.mp hp]; exact nak)
   refine ⟨hz,H2,φ2,h2,zs++[x2],ps++[p2],I4.pins_of fun p hp=>?_,pp.trans pp2,tt.trans tt2,rh2,rz.append (.cons rx2 .nil),(rp.mono pp2 tt2).snoc rp2,?_⟩
   ·rcases bj.mp hp with hp | hp
    ·exact I4.pin p (af _ (dh _ hp))
    ·rcases a7.mp hp with rfl | hp
     ·exact ⟨he',gk.2.1,fk.2.1,fk.2.2.2.2,cX⟩
     ·rw [bc.mp hp];exact I4.pin _ (af _ (af _ ak))
   ·rw [fj];exact po2
theorem Em {b:Bool} {kb:Nat} {kss:List PV} {ys:List PV} (hl:kss.length=ys.length) (ok:OkN kb kss) (cs:∀ a∈kss.zip ys,∀ c∈kss.zip ys,a.1=c.1->a.2=c.2) {p:List Nat} (hp:p.Perm (ba ys.length))
  (ho:p.Pairwise (fun i j=>(if b then ltN (kss.getD i .non) (kss.getD j .non) else ltN (kss.getD j .non) (kss.getD i .non))=false)):p.map (fun i=>ys.getD i .non)=(ng b (iV ix (kss.zip ys))).map (·.2):=by
 let zs:=kss.zip ys;have hzl:zs.length=ys.length:=by show (kss.zip ys).length=_; simp [hl]
 have hin:∀ i∈p,i < ys.length:=fun i hi=>by simpa using hp.mem_iff.mp hi
 have eg:∀ i,i < ys.length->zs.getD i (.non,.non)=(kss.getD i .non,ys.getD i .non):=fun i hi=>by
  have h1:i < kss.length:=by omega
  have h2:i < zs.length:=by omega
  have h3:(kss.zip ys)[i]?=some (kss[i],ys[i]):=by
   rw [jz];exact ⟨by simp [h1],by simp [hi]⟩
  show (kss.zip ys).getD i _=_
  simp [h1,hi,h3]
 have hpz:(p.map fun i=>zs.getD i (.non,.non)).Perm zs:=sQ (by rw [hzl]; exact hp);have hm:zs.map (·.1)=kss:=by
  show (kss.zip ys).map ix=kss
  exact List.map_fst_zip (by omega)
 have hsz:∀ y∈zs,y.1∈kss:=fun y hy=>by rw [<- hm]; exact au.mpr ⟨y,hy,rfl⟩
 have inj:∀ a∈zs,∀ c∈zs,enc (ix a)=enc (ix c)->a=c:=fun a ha c hc e=>by
  have e1:=ok.inj _ (hsz a ha) _ (hsz c hc) e;exact Prod.ext e1 (cs a ha c hc e1)
 have e2:p.map (fun i=>ys.getD i .non)=(p.map fun i=>zs.getD i (.non,.non)).map (·.2):=by
  rw [bp];exact dn fun i hi=>by show _=(zs.getD i _).2; rw [eg i (hin i hi)]
 rw [e2];have key:∀ (R:Nat->Nat->Bool),p.Pairwise (fun i j=>R i j=false)->(∀ i j,i < ys.length->j < ys.length->R i j=ltN (zs.getD j (.non,.non)).1 (zs.getD i (.non,.non)).1)->(p.map fun i=>zs.getD i (.non,.non)).Pairwise (fun x y=>ltN y.1 x.1=false):=fun R h1 h2=>by
  rw [c8];exact h1.imp_of_mem fun {i j} hi hj h=>by rw [<- h2 i j (hin i hi) (hin j hj)]; exact h
 cases b with
 | false=>
  congr 1
  refine B7 ix inj hpz (key (fun i j=>ltN (kss.getD j .non) (kss.getD i .non)) ho fun i j hi hj=>by rw [eg i hi,eg j hj])
 | true=>
  congr 1
  have hr:(p.map fun i=>zs.getD i (.non,.non)).reverse=iV ix zs:=by
   refine B7 ix inj ((mw _).trans hpz) ?_;rw [l5,c8];exact ho.imp_of_mem fun {i j} hi hj h=>by
    rw [eg i (hin i hi),eg j (hin j hj)];exact h
  show _=(iV ix zs).reverse
  rw [<- hr,List.reverse_reverse]
theorem En {b:Bool} {kb:Nat} {kw:List (Str×Value)} (c:Cxt C k X) (D:Def C.K X.mg x st q fd pn) (G:aU X.prog X.w C.K X.mg X.base CX0 j q fd pn (spM C 1 f)) (hj:j+2<=k)
  (ha1:∀ v,argsOk "sorted" ⟨[v],kw⟩) (ha2:∀ v,argsOk "list.sort" ⟨[.ref v],kw⟩) (ht:∀ v,Builtin.«list.sort» ⟨[.ref v],kw⟩=ksk_tree v (.ref q) b)
  {pins:List (Addr×Obj)} {s:Shared} {σ:St} {H:Hp} {Q:VK} {v:V} {u:Value} (I:Inv X pins σ H s) (ru:RelV v u) (h:r1 C (iH f b kb) v H Q):
  wpAny (model X.prog X.w) X.A (call (.builtin "sorted") [u] kw) (EP X pins σ Q) X.xe s:=by
 obtain ⟨φ,h,p,rh,rp,po⟩:=h;unfold iH at po;cases ei:eM p h with
 | none=>rw [ei] at po; exact po.elim
 | some ys=>
 rw [ei] at po;obtain ⟨h64,po⟩:=po.ite;refine call_function_entry_kw kind_sorted plain_sorted entry_sorted (ha1 u) ?_;unfold Builtin.«sorted»;refine aa (m:=checkCount "sorted" 1 1 _) (ai ?_);have col:wpAny (model X.prog X.w) X.A.in1 (collect u) (fun its s1=>∃ us,Inv X pins σ H s1/\aM us its/\RVs C φ H ys us) X.xe s:=by
  have lcase:∀ {a:Addr} {vs:List V},v=.ref a->SqL C.K H a vs->RVs C φ H ys vs->wpAny (model X.prog X.w) X.A.in1 (collect u) (fun its s1=>∃ us,Inv X pins σ H s1/\aM us its/\RVs C φ H ys us) X.xe s:=fun {a vs} ev sa ra=>by
   subst ev;cases ru
   have sa':SqL X.K H a vs:=by rw [c.K]; exact sa
   obtain ⟨its,rv,pl,hz⟩:=I.list sa';refine collect_list pl.isList ?_ (by have:=rv.length; have:=ra.length; rw [cz]; omega);exact ⟨vs,I.kept (t':=s.toks) fun b o e=>by
    have hlt:b < s.heap.objs.size:=ax e
    first
     | (rw [jh _ _ _ _ (az hlt),ja _ _ _ (az hlt)]; exact e)
     | exact ah _ e,rv,ra⟩
  unfold eM at ei;split at ei
  ·rename_i n;split at ei
   ·rename_i ys' e;cases ei
    obtain ⟨a,ev,ha⟩:=rp;obtain ⟨a2,vs,ha2,sa,ra⟩:=bM rh e;rw [ha] at ha2; cases ha2;exact lcase ev sa ra
   ·unfold qS at ei;split at ei
    ·rename_i d hv;obtain ⟨a,ev,ha⟩:=rp;subst ev;cases ru
     obtain ⟨bb,hb,hH⟩:=rh.at' n a _ ha hv;obtain ⟨hT,hm,hz,oc,es,ep,g1,g2,ws,r1,r2⟩:=yC c I rh hb ei;have hvv:s.heap.IsValuesView a bb:=(I.hok a _ hH).1;have hn:es.size<=av:=by
      have e1:=r1.length;have e2:ws.length=es.size:=by have:=r2.length; simpa using this
      rw [<- e2,<- e1]; exact hz
     refine PySem.W.kdu_collect (DQ (r:=a) g2) (I.ok.hd c.calm) ⟨hvv,g1⟩ hn fun h' tk acc hk hacc=>?_;exact ⟨ws,I.kept (t':=tk) hk,by rw [E8 hacc]; exact r2,r1⟩
    ·cases ei
  ·cases ei
   obtain ⟨a,vs,ev,sa,ra⟩:=rp;exact lcase ev sa.sq ra
  ·cases ei
 refine aa (ia col (fun its s1 hh=>?_) fun _ _ z=>z);obtain ⟨us,I1,rv,ry⟩:=hh;have hlu:us.length=its.length:=rv.length;have hly:ys.length=us.length:=ry.length;refine aa (mq ?_ (by rw [cz]; omega));have hoL:(s1.heap.push (seqObj "list" its.toArray 0)).get? s1.heap.objs.size=some (seqObj "list" its.toArray 0):=ay _ rfl;have keep:∀ b o,s1.heap.get? b=some o->b≠s1.heap.objs.size/\(s1.heap.push (seqObj "list" its.toArray 0)).get? b=some o:=fun b o q=>⟨az (ax q),ah _ q⟩;have fr:∀ kS,s1.heap.objs.size<=kS->X.s₀.heap.objs.size<=kS/\kS≠X.env.locals/\(∀ x c,X.env.cells.lookup x=some c->c≠kS)/\(∀ p∈X.pn++pins,p.1≠kS)/\kS∉X.fs:=fun kS hk=>qV I1 hk
 show wpAny _ _ _ _ _ { s1 with heap:=s1.heap.push (seqObj "list" its.toArray 0) }
 refine aa (dg (wpAny_call_entry_kw slot_list_sort ⟨_,hoL,rfl⟩ entry_list_sort ?body (ha2 _)))
 case body=>
  show wpAny (model X.prog X.w) X.A.in1.in1 (Builtin.«list.sort» ⟨[.ref s1.heap.objs.size],kw⟩) _ _ _
  rw [ht s1.heap.objs.size];refine wZ (s:={ s1 with heap:=s1.heap.push (seqObj "list" its.toArray 0) }) (a:=s1.heap.objs.size) (κ:=tuples' (decide (kb≠2))) (vs:=its) hoL (by omega) (Nx C X pins σ φ H f b kb ys Q s1.heap.objs.size s1.heap.objs.size) ?h0 ?hget ?turn ?fin
  case h0=>
   intro kS e1 h' kp hk g1 g2;have hk':s1.heap.objs.size < kS:=by
    have:(s1.heap.push (seqObj "list" its.toArray 0)).objs.size<=kS:=hk;rw [j0] at this;exact this
   have I2:Inv X pins σ H { s1 with heap:=h' }:=I1.kept (t':=s1.toks) fun b o q=>kp b o (keep b o q).1 (keep b o q).2;have fk:=fr kS (f6 hk');have fa:=fr s1.heap.objs.size (ao _);refine ⟨hk',H,φ,h,[],[],I2.pins_of fun p hp=>?_,aw,Kp.refl H,rh,.nil,trivial,po⟩;rcases bj.mp hp with hp | hp
   ·exact I2.pin p (af _ hp)
   ·rcases a7.mp hp with rfl | hp
    ·exact ⟨g2,I1.hok.fresh (f6 hk'),fk.2.1,fk.2.2.2.2,cX⟩
    ·rw [bc.mp hp];exact ⟨g1,I1.hok.fresh (ao _),fa.2.1,fa.2.2.2.2,cX⟩
  case hget=>
   rintro kS e1 ks e s' ⟨hz,H',φ',h',zs,ps,I',_⟩;exact ⟨Nat.ne_of_gt hz,(I'.pin (s1.heap.objs.size,seqObj "list" #[] e1) (af _ (af _ (aj _ ak)))).1,(I'.pin (kS,seqObj "list" ks.toArray e) (af _ (af _ ak))).1⟩
  case turn=>
   intro kS e1 ks e s' y hy hJ;exact K5 c D G hj ry rv rfl fr kS e1 ks e s' y hy hJ
  case fin=>
   rintro kS e1 ks e s' hl ⟨hz,H',φ',h',zs,ps,I',pp,tt,rh',rz,rp',po'⟩;have hd:ys.drop ks.length=[]:=List.drop_eq_nil_of_le (by omega);rw [hd] at po';unfold fB at po';cases es:Bi b kb ps ys with
   | none=>rw [es] at po'; exact po'.elim
   | some out=>
   rw [es] at po';unfold Bi at es;split at es
   ·rename_i hc;obtain ⟨hc1,hc2,ok,hc4⟩:=hc;cases es
    have hpz:ps.length=zs.length:=rp'.length;have hzk:zs.length=ks.length:=rz.length;have hu:=c.hu64;have hr:HRs s'.heap ps ks:=Cf I' c.K 20 ok.ky rp' rz;have memD:∀ i,i < its.length->ps.getD i .non∈ps:=fun i hi=>by
     have h1:i < ps.length:=by omega
     have:ps.getD i .non=ps[i]:=by simp [h1]
     rw [this];exact e9 h1
    refine ⟨fun i j=>ltN (ps.getD i .non) (ps.getD j .non),fun i j k hi hj hk h1 h2=>Nh h1 h2,fun i j hi hj h=>Ni h,fun h2 Q' E' hq=>?_,fun i j hi hj Q' hq=>?_,fun p g e2 a1 a2 kp he gk=>?_⟩
    ·exact Ra ok.m3 hr ok.fk (by omega) hq
    ·have mi:=memD i hi;have mj:=memD j hj;obtain ⟨bb,hb⟩:=j5.mp (ok.lt _ mi _ mj);have hq:Q' (ltN (ps.getD i .non) (ps.getD j .non)) s':=hq;rw [Ng hb] at hq;obtain ⟨qs,eq,_⟩:=Nm ok.m3 (ok.fk _ mj);exact Nl (n:=19) (by show X.A.units+1+1+19 < cLine; omega) (ok.ky _ mi) (ok.ky _ mj) (Nm ok.m3 (ok.fk _ mi)) ⟨qs,eq⟩ (hr.getD (by omega)) (hr.getD (by omega)) hb hq
    ·have hin:∀ i∈p,i < its.length:=fun i hi=>by simpa using a1.mem_iff.mp hi
     have fa:=fr s1.heap.objs.size (ao _);have fk:=fr kS (f6 hz);have gka:=I'.pin (kS,seqObj "list" ks.toArray e) (af _ (af _ ak));have gaa:=I'.pin (s1.heap.objs.size,seqObj "list" #[] e1) (af _ (af _ (aj _ ak)));have I5:Inv X pins σ H' s':=I'.unpinned;have I6:=I5.adopt (a:=s1.heap.objs.size) (d:=kS) (o:=.lst (p.map fun i=>us.getD i .non)) (h':=g) gaa.2.1 gka.2.1 fa fk (fun x o h1 h2 q=>kp x o h1 h2 q) (by
      refine ⟨?_,p.map (fun i=>its.getD i cu),e2,mL rv (fun i hi=>by have:=hin i hi; omega),he⟩;rw [ae,a1.length_eq,jc,cz];omega)
     refine ⟨_,rfl,ai ⟨_,rfl,.ref s1.heap.objs.size,_,I6,rfl,?_⟩⟩;refine po'.lnew rh' ?_ gaa.2.1;rw [<- Em (b:=b) hc2 ok hc4 (p:=p) (by rw [hly,hlu]; exact a1) a2];exact (ry.mono pp tt).pick (fun i hi=>by have:=hin i hi; omega)
   ·cases es
end
section
variable {kf:Str} {st:Stmt} {q:Addr} {fd:cy} {pn:List Str} {j jb:Nat} {f:Fn} {e:Expr} {me:Me} {p pos kp kpos rp rpos:Pos}
theorem K6 {Q:VK} {b:Bool} {kb:Nat} {σ:St} {H:Hp} (h:rd C (vX f b kb me) σ H Q):Ic (rd C me) Qk σ H fun vs H1=>∃ x,vs=[x]/\r1 C (iH f b kb) x H1 Q:=by
 obtain ⟨φ,δ,h,rh,re,po⟩:=h;refine ⟨φ,δ,h,rh,re,(post.bind po).imp ?_⟩;rintro v H1 ⟨φ1,x,h1,p1,t1,rh1,rv1,q1⟩;exact ⟨v,rfl,φ1,h1,x,rh1,rv1,q1⟩
theorem Ny {kb:Nat} (D:Def C.K X.mg kf st q fd pn) (G:aU X.prog X.w C.K X.mg X.base CX0 j q fd pn (spM C 1 f)) (he:SE C k X e me) (hb:("sorted" : Str)∈C.bs) (hj:j+2<=k:=by decide) (hg:Gl X "sorted" := by rfl) (hgk:Gl X kf:=by rfl) (hdk:(kf == ("__debug__" : Str))=false:=by decide)
  (hst:b8 [e] X.env=(false,eval e X.env) :: b8 [] X.env:=by rfl) (hbk:backTo pos (b8 [e] X.env)=(false,eval e X.env) :: backTo pos (b8 [] X.env):=by rfl) (hpl:(backTo pos (b8 [e] X.env)).any (·.1)=false:=by rfl):
  SE C k X (.Call (.Name "sorted" p) [e] [⟨some "key",.Name kf kp,kpos⟩] pos) (vX f false kb me):=fun c pins s σ H Q I h=>by
 refine iw (kR I hg (c.bn _ hb) PyProof.Rows.Boot.«sorted» ?_ (by decide) (by decide));refine callWith_kw (thn (pH (he c) wI hst pos pins s σ H _ I (K6 h)) fun us s1 hh=>?_) hbk hpl;obtain ⟨vs,H1,I1,rv,x,rfl,r⟩:=hh;obtain ⟨u,rfl,ru⟩:=vals1 rv;refine kws_cons (pG I1 hgk D.mg (kws_nil ?_) hdk)
 show wpAny _ _ (call (.builtin "sorted") [u] [(jm "key",.ref q)]) _ _ _
 exact En c D G hj (fun v=>ksk_s1 _ _) (fun v=>ksk_l1 _ _) (fun v=>ksk_t1 _ _) I1 ru r
end
end
section
variable {α:Type}
theorem Rh {key emb:α->PV} {xs:List α} {m:Nat} (h1:xs.length < 64) (ok:OkN m (xs.map key)) (hc:∀ a∈xs,∀ c∈xs,key a=key c->emb a=emb c):∃ os:List α,os.Perm xs/\os.Pairwise (fun a c=>ltN (key c) (key a)=false)/\Bi false m (xs.map key) (xs.map emb)=some (os.map emb):=by
 have ez:(xs.map key).zip (xs.map emb)=xs.map fun x=>(key x,emb x):=by
  induction xs with
  | nil=>rfl
  | cons x xs ih=>simp only [a9,k8]; rw [ih (by simp at h1; omega) ⟨ok.m3,fun y hy=>ok.ky y (aj _ hy),fun y hy=>ok.fk y (aj _ hy),fun y hy z hz=>ok.lt y (aj _ hy) z (aj _ hz)⟩ (fun a ha c hc'=>hc a (aj _ ha) c (aj _ hc'))]
 have insm:∀ (x:α) (ys:List α),yE ix (key x,emb x) (ys.map fun y=>(key y,emb y))=(yE key x ys).map fun y=>(key y,emb y):=fun x ys=>by
  induction ys with
  | nil=>rfl
  | cons y ys ih=>
   show (if ltN (key y) (key x)=true then (key y,emb y) :: yE ix (key x,emb x) (ys.map fun y=>(key y,emb y)) else (key x,emb x) :: (key y,emb y) :: ys.map fun y=>(key y,emb y))=(if ltN (key y) (key x)=true then y :: yE key x ys else x :: y :: ys).map fun y=>(key y,emb y)
   split
   ·rw [ih]; rfl
   ·rfl
 have srt:∀ ys:List α,iV ix (ys.map fun y=>(key y,emb y))=(iV key ys).map fun y=>(key y,emb y):=fun ys=>by
  induction ys with
  | nil=>rfl
  | cons y ys ih=>
   show yE ix (key y,emb y) (iV ix (ys.map fun y=>(key y,emb y)))=_
   rw [ih,insm];rfl
 refine ⟨iV key xs,jS key xs,jT key xs,?_⟩;unfold Bi;rw [if_pos ⟨by simpa using h1,by simp,ok,fun a ha c hc' e=>by
  rw [ez] at ha hc';obtain ⟨x,hx,rfl⟩:=au.mp ha;obtain ⟨y,hy,rfl⟩:=au.mp hc';exact hc x hx y hy e⟩,ez,srt]
 show some (((iV key xs).map fun y=>(key y,emb y)).map Prod.snd)=_
 rw [bp];rfl
theorem IS {key emb:α->PV} {f:Fn} {m:Nat} {ys zs:List PV} {Q:PV->PH->Prop}:∀ (r done:List α) (h:PH),(∀ d∈r,∀ h (Q:PV->PH->Prop),(∀ h',Ext h h'->Q (key d) h')->(f [emb d] h).W Q)->
  Bi false m ((done++r).map key) ys=some zs->(∀ h',Ext h h'->Q (.ref h'.length) (h'++[.lst zs]))->(fB f false m ys (r.map emb) (done.map key) h).W Q
 | [],done,h,_,hs,k=>by
  rw [je] at hs;simp only [List.map_nil,fB,hs,hZ];exact k h (Ext.refl h)
 | x :: r,done,h,hf,hs,k=>by
  rw [a9];unfold fB;rw [sV];refine hf x ak h _ fun h1 x1=>?_;have e:done.map key++[key x]=(done++[x]).map key:=by simp
  rw [e];exact IS r (done++[x]) h1 (fun d hd=>hf d (aj _ hd)) (by rw [j7]; exact hs) fun h' x2=>k h' (x1.trans x2)
theorem Nz {key emb:α->PV} {f:Fn} {m:Nat} {xs:List α} {x:PV} {h:PH} {Q:PV->PH->Prop} (e:eM x h=some (xs.map emb)) (h1:xs.length < 64) (ok:OkN m (xs.map key)) (hc:∀ a∈xs,∀ c∈xs,key a=key c->emb a=emb c)
  (hf:∀ d∈xs,∀ h (Q:PV->PH->Prop),(∀ h',Ext h h'->Q (key d) h')->(f [emb d] h).W Q)
  (k:∀ (os:List α) h',Ext h h'->os.Perm xs->os.Pairwise (fun a c=>ltN (key c) (key a)=false)->Q (.ref h'.length) (h'++[.lst (os.map emb)])):(iH f false m x h).W Q:=by
 obtain ⟨os,p,pw,es⟩:=Rh h1 ok hc;unfold iH;rw [e];dsimp only;rw [if_pos (by simpa using h1)]
 exact IS xs [] h hf es fun h' hx=>k os h' hx p pw
end
section
variable {δ:Ev} {h:PH} {m:Me}
@[simp] theorem V2 {f:Fn} {b:Bool} {n:Nat}:vX f b n m δ h=(m δ h).bind fun x h1=>iH f b n x h1:=(rfl)
end
end L2
namespace L2
open PySem PySem.Spec PyProof.Rows PySem.SeqAt
def eqL (f:PV->PV->Option Bool):List PV->List PV->Option Bool
 | x :: xs,y :: ys=>match f x y,eqL f xs ys with
  | some b,some c=>some (b && c)
  | _,_=>none
 | [],[]=>some true
 | _,_=>some false
theorem NA {f:PV->PV->Option Bool}:∀ {xs ys:List PV} {b:Bool},eqL f xs ys=some b->
  ∃ g:Nat->Bool,(∀ (j:Nat) (x y:PV),xs[j]?=some x->ys[j]?=some y->f x y=some (g j))/\b=((ba (min xs.length ys.length)).all g && xs.length == ys.length)
 | [],[],b,e=>⟨fun _=>true,fun j x y h=>(by simp at h),by cases e; rfl⟩
 | [],y :: ys,b,e=>⟨fun _=>true,fun j x y h=>(by simp at h),by cases e; simp⟩
 | x :: xs,[],b,e=>⟨fun _=>true,fun j x y _ h=>(by simp at h),by cases e; simp⟩
 | x :: xs,y :: ys,b,e=>by
  unfold eqL at e;split at e
  ·rename_i b' c e1 e2;cases e
   obtain ⟨g,h1,h2⟩:=NA e2;refine ⟨fun j=>match j with | 0=>b' | j+1=>g j,fun j x y hx hy=>?_,?_⟩
   ·cases j with
    | zero=>simp at hx hy; subst hx hy; exact e1
    | succ j=>exact h1 j x y (by simpa using hx) (by simpa using hy)
   ·rw [h2];have e3:min (x :: xs).length (y :: ys).length=min xs.length ys.length+1:=by simp only [dq]; omega
    rw [e3,List.range_succ_eq_map,iq,List.all_map,Bool.and_assoc];simp [Function.comp_def]
  ·cases e
theorem Cq {f:PV->PV->Option Bool} {R:PV->V->Prop} (hf:∀ x y v b,f x y=some b->R x v->R y v->b=true):∀ {xs ys:List PV} {vs:List V} {b:Bool},(∀ (j:Nat) (x:PV),xs[j]?=some x->∃ v,vs[j]?=some v/\R x v)->(∀ (j:Nat) (x:PV),ys[j]?=some x->∃ v,vs[j]?=some v/\R x v)->xs.length=ys.length->eqL f xs ys=some b->b=true
 | [],[],_,b,_,_,_,e=>by cases e; rfl
 | [],_ :: _,_,_,_,_,h,_=>by simp at h
 | _ :: _,[],_,_,_,_,h,_=>by simp at h
 | x :: xs,y :: ys,vs,b,h1,h2,h,e=>by
  unfold eqL at e;split at e
  ·rename_i b' c e1 e2;cases e
   obtain ⟨v,hv,rx⟩:=h1 0 x rfl;obtain ⟨v',hv',ry⟩:=h2 0 y rfl;rw [hv] at hv';cases hv'
   rw [hf x y v b' e1 rx ry,Cq hf (vs:=vs.tail) (fun j z hz=>by simpa using h1 (j+1) z hz) (fun j z hz=>by simpa using h2 (j+1) z hz) (by simpa using h) e2]
   rfl
  ·cases e
def eqF:Nat->PV->PV->PH->Option Bool
 | 0,x,y,h=>iJ x y h
 | n+1,x,y,h=>match iJ x y h with
  | some b=>some b
  | none=>match x,y with
   | .tup xs,.tup ys=>eqL (fun a b=>eqF n a b h) xs ys
   | x,y=>match cJ x h,cJ y h with
    | some xs,some ys=>eqL (fun a b=>eqF n a b h) xs ys
    | _,_=>none
def Ri:PV->PV->PH->Rs PV:=fun x y h=>ofB (eqF 3 x y h) h
def Rj:PV->PV->PH->Rs PV:=fun x y h=>ofB ((eqF 3 x y h).map not) h
section
variable {C:MC} {k:Nat} {X:Cx} {pins:List (Addr×Obj)} {σ:St} {H:Hp} {s:Shared} {φ:List Addr} {h:PH}
theorem oI:∀ {xs:List PV} {vs:List V},RVs C φ H xs vs->xs.length=vs.length/\∀ (j:Nat) (x:PV),xs[j]?=some x->∃ v,vs[j]?=some v/\RV C φ H x v
 | [],[],_=>⟨rfl,fun j x h=>by simp at h⟩
 | x :: xs,v :: vs,r=>by
  obtain ⟨l,q⟩:=oI r.2;refine ⟨by simp [l],fun j y hy=>?_⟩;cases j with
  | zero=>simp at hy; subst hy; exact ⟨v,rfl,r.1⟩
  | succ j=>simpa using q j y (by simpa using hy)
 | [],_ :: _,r=>r.elim
 | _ :: _,[],r=>r.elim
theorem Bj (I:Inv X pins σ H s) (hK:X.K=C.K) (rh:RH C φ H h) {x y:PV} {w:V} {b:Bool} (e:iJ x y h=some b) (rx:RV C φ H x w) (ry:RV C φ H y w):b=true:=by
 rcases jO rh rx ry e with ⟨d,e',q1,q2,q3,rfl⟩ | ⟨d,e',⟨a,vs,hw,sa,ra⟩,⟨a',us,hw',sa',ra'⟩,q3,rfl⟩
 ·rw [<- hK] at q1 q2;rw [mJ I 40 d e' w q3 q1 q2];exact iR _
 ·rw [<- hK] at sa sa' ra ra';subst hw;cases hw'
  have ev:=I.list_inj sa sa';subst ev;have e2:=yM I q3 ra ra';subst e2;have:=iR (.tup d);simpa [eqD] using this
theorem NB (I:Inv X pins σ H s) (hK:X.K=C.K) (rh:RH C φ H h):∀ (n:Nat) (x y:PV) (w:V) (b:Bool),eqF n x y h=some b->RV C φ H x w->RV C φ H y w->b=true:=by
 intro n
 induction n with
 | zero=>intro x y w b e rx ry; exact Bj I hK rh e rx ry
 | succ n ih=>
  intro x y w b e rx ry;unfold eqF at e;split at e
  ·rename_i b' e2;cases e
   exact Bj I hK rh e2 rx ry
  ·split at e
   ·rename_i xs ys _;obtain ⟨a,vs,rfl,q,r⟩:=rx;obtain ⟨a',us,hw,q',r'⟩:=ry;cases hw
    rw [<- hK] at q q';have ev:=I.tuple_inj q q';subst ev;obtain ⟨l1,a1⟩:=oI r;obtain ⟨l2,a2⟩:=oI r';exact Cq (R:=RV C φ H) (fun x y v b=>ih x y v b) a1 a2 (by omega) e
   ·split at e
    ·rename_i xs ys h1 h2;obtain ⟨a,vs,rfl,sa,ra⟩:=dR rh rx h1;obtain ⟨a',us,hw,sb,rb⟩:=dR rh ry h2;cases hw
     rw [<- hK] at sa sb;have ev:=I.list_inj sa sb;subst ev;obtain ⟨l1,a1⟩:=oI ra;obtain ⟨l2,a2⟩:=oI rb;exact Cq (R:=RV C φ H) (fun x y v b=>ih x y v b) a1 a2 (by omega) e
    ·cases e
theorem Eo {n:Nat} (hn:∀ (A:Around) (x y:PV) (v u:V) (i j:Value) (b:Bool),A.units+42+n < cLine->eqF n x y h=some b->RV C φ H x v->RV C φ H y u->RelV v i->RelV u j->EqAt A s i j b)
  {A:Around} {xs ys:List PV} {b:Bool} {vs us:List V} {is js:List Value} (hu:A.units+42+n < cLine) (e:eqL (fun a b=>eqF n a b h) xs ys=some b) (r:RVs C φ H xs vs) (r':RVs C φ H ys us) (rv:aM vs is) (rw':aM us js):
  ∃ g:Nat->Bool,is.toArray.size=xs.length/\js.toArray.size=ys.length/\(∀ (j:Nat) (h1:j < is.toArray.size) (h2:j < js.toArray.size),EqAt A s is.toArray[j] js.toArray[j] (g j))/\b=((ba (min is.toArray.size js.toArray.size)).all g && is.toArray.size == js.toArray.size):=by
 obtain ⟨g,hg,hb⟩:=NA e;obtain ⟨l1,a1⟩:=oI r;obtain ⟨l2,a2⟩:=oI r';have l3:=rv.length;have l4:=rw'.length;have z1:is.toArray.size=xs.length:=by simp; omega
 have z2:js.toArray.size=ys.length:=by simp; omega
 refine ⟨g,z1,z2,fun j h1 h2=>?_,by rw [z1,z2]; exact hb⟩;have k1:j < xs.length:=by omega
 have k2:j < ys.length:=by omega
 obtain ⟨v,hv,q1⟩:=a1 j xs[j] (dt k1);obtain ⟨u,hu',q2⟩:=a2 j ys[j] (dt k2);obtain ⟨i,hi,q3⟩:=rv.get hv;obtain ⟨i',hi',q4⟩:=rw'.get hu';have e1:is.toArray[j]=i:=by
  have:=(ab.mp hi).2;simpa using this
 have e2:js.toArray[j]=i':=by
  have:=(ab.mp hi').2;simpa using this
 rw [e1,e2];exact hn A _ _ v u i i' (g j) hu (hg j _ _ (dt k1) (dt k2)) q1 q2 q3 q4
theorem Gq (I:Inv X pins σ H s) (hK:X.K=C.K) (rh:RH C φ H h) (n:Nat) (hn:∀ (A:Around) (x y:PV) (v u:V) (i j:Value) (b:Bool),A.units+42+n < cLine->eqF n x y h=some b->RV C φ H x v->RV C φ H y u->RelV v i->RelV u j->EqAt A s i j b)
  (A:Around) (x y:PV) (v u:V) (i j:Value) (b:Bool) (hu:A.units+43+n < cLine) (e2:iJ x y h=none) (e:eqF (n+1) x y h=some b) (rx:RV C φ H x v) (ry:RV C φ H y u) (r1:RelV v i) (r2:RelV u j):
  RcAt A s i j b/\RcNeAt A s i j (!b)/\∃ a a',i=.ref a/\j=.ref a'/\v=.ref a/\u=.ref a':=by
 unfold eqF at e;rw [e2] at e;simp only at e;split at e
 ·rename_i xs ys;obtain ⟨a,vs,rfl,q,r⟩:=rx;obtain ⟨a',us,rfl,q',r'⟩:=ry;cases r1; cases r2;rw [<- hK] at q q';obtain ⟨its,rv,p,_⟩:=I.tuple q;obtain ⟨its',rv',p',_⟩:=I.tuple q';obtain ⟨g,z1,z2,el,hb⟩:=Eo hn (A:=A.in1) (by show A.units+1+42+n < cLine; omega) e r r' rv rv';rw [hb];exact ⟨RcAt.tuples p p' (by omega) el,RcNeAt.tuples p p' (by omega) el,a,a',rfl,rfl,rfl,rfl⟩
 ·split at e
  ·rename_i xs ys h1 h2;obtain ⟨a,vs,rfl,sa,ra⟩:=dR rh rx h1;obtain ⟨a',us,rfl,sb,rb⟩:=dR rh ry h2;cases r1; cases r2;rw [<- hK] at sa sb;obtain ⟨its,rv,p,_⟩:=I.list sa;obtain ⟨its',rv',p',_⟩:=I.list sb;obtain ⟨g,z1,z2,el,hb⟩:=Eo hn (A:=A.in1) (by show A.units+1+42+n < cLine; omega) e ra rb rv rv';refine ⟨?_,?_,a,a',rfl,rfl,rfl,rfl⟩
   all_goals by_cases hl:its.toArray.size=its'.toArray.size
   all_goals first
    | rw [hb,<- hl,Nat.min_self,beq_self_eq_true,Bool.and_true]
    | rw [hb,beq_eq_false_iff_ne.mpr hl,Bool.and_false]
   ·intro prog w E Q hq;exact eq_listAt p.isList p'.isList hl (by omega) el hq
   ·intro prog w E Q hq;exact eq_list_lengthsAt p.isList p'.isList (by simpa using hl) (by omega) hq
   ·exact RcNeAt.lists p.isList p'.isList hl (by omega) el
   ·exact RcNeAt.lists_lengths p.isList p'.isList (by simpa using hl) (by omega)
  ·cases e
theorem NC (I:Inv X pins σ H s) (hK:X.K=C.K) (rh:RH C φ H h):∀ (n:Nat) (A:Around) (x y:PV) (v u:V) (i j:Value) (b:Bool),A.units+42+n < cLine->eqF n x y h=some b->RV C φ H x v->RV C φ H y u->RelV v i->RelV u j->EqAt A s i j b:=by
 have base:∀ (A:Around) (x y:PV) (v u:V) (i j:Value) (b:Bool),A.units+42 < cLine->iJ x y h=some b->RV C φ H x v->RV C φ H y u->RelV v i->RelV u j->EqAt A s i j b:=by
  intro A x y v u i j b hu e rx ry r1 r3;rcases jO rh rx ry e with ⟨d,e',q1,q2,q3,rfl⟩ | ⟨d,e',q1,q2,q3,rfl⟩
  ·exact Mm I (n:=40) q3 (by omega) (by rw [hK]; exact q1) (by rw [hK]; exact q2) r1 r3
  ·exact YJ I q3 hu (by rw [hK]; exact q1) (by rw [hK]; exact q2) r1 r3
 intro n
 induction n with
 | zero=>intro A x y v u i j b hu e; exact base A x y v u i j b (by omega) e
 | succ n ih=>
  intro A x y v u i j b hu e rx ry r1 r2;cases e2:iJ x y h with
  | some b'=>
   unfold eqF at e;rw [e2] at e;cases e
   exact base A x y v u i j b (by omega) e2 rx ry r1 r2
  | none=>
   obtain ⟨h1,_,a,a',rfl,rfl,rfl,rfl⟩:=Gq I hK rh n ih A x y v u i j b (by omega) e2 e rx ry r1 r2;refine eJ h1 (fun z=>?_) (fun f t z=>by cases z);cases z
   exact NB I hK rh (n+1) x y _ b e rx ry
theorem Ep {x y:PV} {b:Bool} (e:eqF 3 x y h=some b):iJ x y h=some b\/iJ x y h=none:=by
 unfold eqF at e;split at e
 ·rename_i b' e2;cases e
  exact .inl e2
 ·exact .inr (by assumption)
theorem V3:OpS C k X (cm .Eq) Ri:=fun c=>by
 intro pins s σ H x y v u Q I rx ry hq;obtain ⟨φ,h,p,q,rh,rp,rq,po⟩:=hq;obtain ⟨b,e,po⟩:=po.ofB;have hu:=c.hu64;rcases Ep e with e2 | e2
 ·refine pY c pins s σ H x y v u Q I rx ry ⟨φ,h,p,q,rh,rp,rq,?_⟩;unfold vEq;rw [e2];exact po
 ·exact (Gq I c.K rh 2 (NC I c.K rh 2) X.A p q x y v u b (by omega) e2 e rp rq rx ry).1 X.prog X.w X.xe _ ⟨.bl _,H,I,rfl,po.val rh rfl⟩
theorem V4:OpS C k X (cm .NotEq) Rj:=fun c=>by
 intro pins s σ H x y v u Q I rx ry hq;obtain ⟨φ,h,p,q,rh,rp,rq,po⟩:=hq;obtain ⟨b0,e0,po⟩:=po.ofB;obtain ⟨b,e,rfl⟩:=bf.mp e0;have hu:=c.hu64;rcases Ep e with e2 | e2
 ·refine UD c pins s σ H x y v u Q I rx ry ⟨φ,h,p,q,rh,rp,rq,?_⟩;unfold vNe;rw [e2];exact po
 ·exact (Gq I c.K rh 2 (NC I c.K rh 2) X.A p q x y v u b (by omega) e2 e rp rq rx ry).2.1 X.prog X.w X.xe _ ⟨.bl _,H,I,rfl,po.val rh rfl⟩
end
end L2
namespace L2
open PySem PySem.Spec PyProof.Rows PySem.SeqAt
open PySem.AutoSeq1 (wpAny_loadPart')
open PySem.MeetsSeq PySem.MeetsSeq2 PySem.MeetsSeq3
section
variable {C:MC} {k:Nat} {X:Cx}
def YK:PV->PV->PH->Rs PV:=fun x y h=>match x,y with
 | .tup xs,.tup ys=>ofB (if (PV.tup xs).d.all (fun d=>decide (d.depth<=40)) then (R0 (.tup ys) (.tup xs)).map (!·) else none) h
 | x,y=>vLe x y h
variable {h:PH}
@[simp] theorem Xh {i j:Int}:YK (.int i) (.int j) h=.ok (.bl (decide (i<=j))) h:=(rfl)
end
end L2
namespace L2
open PySem PySem.Spec PyProof.Rows PySem.SeqAt PySem.W
def Er (o:Option (PV×Int)) (y:PV) (i:Int):Option (PV×Int):=match o with
 | some b=>if b.2 < i then some (y,i) else some b
 | none=>some (y,i)
noncomputable def dW (f:Fn) (n:Nat) (xs:List PV):List PV->Option (PV×Int)->PH->Rs PV
 | [],o,h=>if nE n xs h=true then (match o with | some b=>.ok b.1 h | none=>.ok .non h) else .bad
 | y :: ys,o,h=>if nE n xs h=true then (f [y] h).bind fun k h1=>match k with
   | .int i=>dW f n xs ys (Er o y i) h1
   | _=>.bad
  else .bad
noncomputable def Bk (f:Fn) (x:PV) (h:PH):Rs PV:=match x with
 | .ref n=>match aN h n with
  | some xs=>dW f n xs xs none h
  | none=>.bad
 | _=>.bad
noncomputable def IT (f:Fn) (me:Me):Me:=fun δ h=>(me δ h).bind fun x h1=>Bk f x h1
theorem Gr (a v:Value):argsOk "max" ⟨[a],[("key",v),("default",.none)]⟩:=by rfl
theorem Cr (v:Value):Builtin.Builtins.bindParams "max" ["key","default"] 0 ⟨[],[("key",v),("default",.none)]⟩=pure [some v,some .none]:=by rfl
section
variable {prog:Program} {w:World} {A:Around} {E:Value->Shared->Prop} {s:Shared}
theorem ND {id:String} {b:Builtin} {args:Args} {Q:Value->Shared->Prop} (hk:builtinKind id=none) (hp:plainId id=true) (he:entryFor table id=some b) (ha:argsOk id args)
  (h:wpAny (model prog w) A.in1 (b args) (fun fin s'=>match fin with | .done f=>wants Q E (.ok f) s' | .again c'=>c'.quiet=true/\codeAny (model prog w) A c' (wants Q E) s') E s):wpAny (model prog w) A (call (.builtin id) args.pos args.kw) Q E s:=by
 have e:checkBuiltinCall id args=pure ():=by
  unfold checkBuiltinCall;rw [hk];unfold argsOk at ha;generalize Manifest.signature? id=sg at ha ⊢;cases sg <;> cases splitId id <;> first | rfl | exact ha
 refine wpAny_call (codeAny_call_builtin hp he (wpAny_of_eq e ?_));exact h
theorem K7 {l:Addr} {items:Array Value} {v:Value} {Q:Value->Shared->Prop} (hl:s.heap.IsList l items)
  (h:codeAny (model prog w) A (.builtin "max.loop" ⟨[.ref s.heap.objs.size,v,.ref (s.heap.objs.size+1)],[("default",.none)]⟩) (wants Q E)
   { s with heap:=(s.heap.push { cls:=.type "list_iterator",data:=.fields #[.ref l,.int 0 0] }).push (seqObj "list" #[] 0) }):
  wpAny (model prog w) A (call (.builtin "max") [.ref l] [("key",v),("default",.none)]) Q E s:=by
 refine ND (args:=⟨[.ref l],[("key",v),("default",.none)]⟩) F.kind_max F.plain_max F.entry_max (Gr _ _) ?_
 show wpAny _ _ (Builtin.Builtins.bindParams "max" ["key","default"] 0 ⟨[],[("key",v),("default",.none)]⟩ >>= _) _ _ s
 refine aa (wpAny_of_eq (Cr v) ?_);refine (show wpAny _ _ (pure (c9 l) >>= _) _ _ s from aa (ai ?_))
 refine aa (my hl ?_);refine aa (mq ?_ (by rw [cz]; simp));refine ai ⟨ku k4 _,?_⟩;have e:(s.heap.push { cls:=.type "list_iterator",data:=.fields #[.ref l,.int 0 0] }).objs.size=s.heap.objs.size+1:=by rw [j0]
 simp only [e] at*;exact h
end
section
variable {C:MC} {k:Nat} {X:Cx} {x:Str} {st:Stmt} {q:Addr} {fd:cy} {pn:List Str} {j:Nat} {f:Fn}
def NF (C:MC) (φ:List Addr) (H:Hp) (o:Option (PV×Int)) (best:List Value):Prop:=match o with
 | none=>best=[]
 | some b=>∃ v u t,best=[u,.int b.2 t]/\RelV v u/\RV C φ H b.1 v
def Xi (X:Cx) (pins:List (Addr×Obj)) (a:Addr):Prop:=X.s₀.heap.objs.size<=a/\a≠X.env.locals/\(∀ x c,X.env.cells.lookup x=some c->c≠a)/\(∀ p∈X.pn++pins,p.1≠a)/\a∉X.fs
theorem IU {n:Nat} {xs:List PV} {h:PH} (e:nE n xs h=true):aN h n=some xs:=by
 unfold nE at e;cases q:aN h n with
 | none=>rw [q] at e; cases e
 | some ys=>rw [q] at e; rw [PV.beqs_eq e]
theorem K8 (c:Cxt C k X) (D:Def C.K X.mg x st q fd pn) (G:aU X.prog X.w C.K X.mg X.base CX0 j q fd pn (spM C 1 f)) (hj:j+1<=k) {pins:List (Addr×Obj)} {σ:St} {Q:VK} {n:Nat} {xs:List PV} {l it S:Addr} (hne:it≠S) (fI:Xi X pins it) (fS:Xi X pins S):
  ∀ (m i:Nat) (s:Shared) (H:Hp) (φ:List Addr) (h:PH) (o:Option (PV×Int)) (best:List Value) (cc:Nat),xs.length - i=m->i<=xs.length->Inv X pins σ H s->H S=none->H it=none->s.heap.get? S=some (seqObj "list" best.toArray cc)->s.heap.IsListIter it l i->RH C φ H h->φ[n]?=some l->NF C φ H o best->
   post C φ H (dW f n xs (xs.drop i) o h) Q->codeAny (model X.prog X.w) X.A (.builtin "max.loop" ⟨[.ref it,.ref q,.ref S],[("default",.none)]⟩) (wants (EP X pins σ Q) X.xe) s:=by
 intro m
 induction m with
 | zero=>
  intro i s H φ h o best cc hm hi I hS hI gS sti rh hn bo po;have e:i=xs.length:=by omega
  subst e;rw [nj] at po;unfold dW at po;obtain ⟨hg,po⟩:=po.ite;obtain ⟨a,vs,ha,sq,rv⟩:=bM rh (IU hg);rw [hn] at ha;cases ha
  rw [<- c.K] at sq;obtain ⟨its,rvs,pl,hz⟩:=I.list sq;have l1:=rv.length;have l2:=rvs.length;refine l0 F.entry_max_loop ?_;rw [i5 k4];refine (show wpAny _ _ (seqItems? (.ref S) >>= _) _ _ s from aa (wpAny_seqItems gS rfl ?_))
  refine (show wpAny _ _ (tryCatch (pyNext (.ref it)) _ >>= _) _ _ s from aa (m9 (wpAny_pyNext_list_end (I.ok.hd c.calm) sti pl.isList (by simp; omega) fun h' eb=>?_)))
  have I1:Inv X pins σ H { s with heap:=h' }:=I.turned (t':=s.toks) (fun b o hb e=>eb b o hb e) hI fI.2.1 (.inr fI.1) fI.2.2.1 fI.2.2.2.1;cases o with
  | none=>
   cases bo
   refine (show wpAny _ _ (rule _ >>= _) _ _ _ from aa (j8 (ai ?_)))
   exact ⟨.non,H,I1,rfl,po.val rh rfl⟩
  | some b=>
   obtain ⟨v,u,t,rfl,ru,rv⟩:=bo;have gS':=eb S _ (jx hne) gS;refine (show wpAny _ _ (updateSeq S (fun _=>#[]) >>= _) _ _ _ from aa (wpAny_updateSeq gS' rfl ?_ (by rw [cz]; simp) (by rw [cz]; simp)))
   refine (show wpAny _ _ (letGo [_] [u] >>= _) _ _ _ from aa (wpAny_letGo (ai ?_)))
   refine ⟨v,H,I1.turned (t':=s.toks) (it:=S) (fun b o hb e=>?_) hS fS.2.1 (.inr fS.1) fS.2.2.1 fS.2.2.2.1,ru,po.val rh rv⟩;rw [jh _ _ _ _ hb];exact e
 | succ m ih=>
  intro i s H φ h o best cc hm hi I hS hI gS sti rh hn bo po;have hlt:i < xs.length:=by omega
  have gy:xs[i]?=some xs[i]:=by simp [hlt]
  rw [drop_cons gy] at po;unfold dW at po;obtain ⟨hg,po⟩:=po.ite;obtain ⟨a,vs,ha,sq,rv⟩:=bM rh (IU hg);rw [hn] at ha;cases ha
  rw [<- c.K] at sq;obtain ⟨its,rvs,pl,hz⟩:=I.list sq;obtain ⟨v,hv,rvv⟩:=rv.at gy;obtain ⟨u,hu,ru⟩:=rvs.get hv;refine l0 F.entry_max_loop ?_;rw [i5 k4];refine (show wpAny _ _ (seqItems? (.ref S) >>= _) _ _ s from aa (wpAny_seqItems gS rfl ?_))
  refine (show wpAny _ _ (tryCatch (pyNext (.ref it)) _ >>= _) _ _ s from aa (m9 (wpAny_pyNext_list_item sti pl.isList (x:=u) (by simpa using hu) fun h' st' sb=>?_)))
  have I1:Inv X pins σ H { s with heap:=h' }:=I.turned (t':=s.toks) (fun b o hb e=>(sb.2 b hb).trans e) hI fI.2.1 (.inr fI.1) fI.2.2.1 fI.2.2.2.1;have gS':h'.get? S=some (seqObj "list" best.toArray cc):=(sb.2 S (jx hne)).trans gS;obtain ⟨oi,ei,ci,di⟩:=id st';have I2:Inv X (pins++[(S,seqObj "list" best.toArray cc),(it,oi)]) σ H { s with heap:=h' }:=I1.pins_of fun p hp=>by
   rcases bj.mp hp with hp | hp
   ·exact I1.pin p (af _ hp)
   ·rcases a7.mp hp with rfl | hp
    ·exact ⟨gS',hS,fS.2.1,fS.2.2.2.2,cX⟩
    ·rw [bc.mp hp];exact ⟨ei,hI,fI.2.1,fI.2.2.2.2,fun v z=>by rw [di] at z; cases z⟩
  have e1':=c.K;have G':aU X.prog X.w X.K X.mg X.base CX0 j q fd pn (spM C 1 f):=by rw [e1']; exact G
  have D':Def X.K X.mg x st q fd pn:=by rw [e1']; exact D
  have sp1:spM C 1 f [v] H (fun v H2=>∃ φ2 p h2,φ<+:φ2/\Kp H H2/\RH C φ2 H2 h2/\RV C φ2 H2 p v/\post C φ2 H2 (match p with
   | .int i'=>dW f n xs (xs.drop (i+1)) (Er o xs[i] i') h2
   | _=>.bad) Q) E0:=
   ⟨φ,h,[xs[i]],rh,⟨rvv,trivial⟩,rfl,post.bind po⟩
  have hl:([u]:List Value).length=pn.length:=G'.len _ _ _ _ sp1;refine (show wpAny _ _ (tryCatch (holding [u] (call (.ref q) [u])) _ >>= _) _ _ _ from aa (m9 (dg ?_)))
  refine wpAny_call (codeAny_mono (G'.run X.A.in1 X.stack _ H ⟨[u],[]⟩ [u] [v] _ E0 ((c.room.mono hj).in1) I2.env0.in1 (by
   have:=D'.bd { s with heap:=h' } [u] I2.kIn (by simpa using hl)
   simpa using this) (.cons ru .nil) sp1) fun r s2 hq=>?_)
  cases r with
  | error e=>exact hq.elim
  | ok fl=>
   cases fl with
   | next=>exact fu hq
   | brk=>exact fu hq
   | cont=>exact fu hq
   | ret val=>
    obtain ⟨x2,H2,I3,rx2,φ2,p2,h2,pp2,tt2,rh2,rp2,po2⟩:=I2.after hq;have gk:=I3.pin (S,seqObj "list" best.toArray cc) (af _ (af _ ak));have gi:=I3.pin (it,oi) (af _ (af _ (aj _ ak)));have I4:Inv X pins σ H2 s2:=I3.unpinned;have st2:s2.heap.IsListIter it l (i+1):=st'.at fun o e=>by
     have:o=oi:=bg (e.symm.trans ei);rw [this]; exact gi.1
    have hn2:=iB pp2 hn;cases p2 with
    | int i'=>
     cases rp2
     obtain ⟨t,rfl⟩:=rx2;have again:∀ (o':Option (PV×Int)) (best':List Value) (cc':Nat) (g:Heap) (t':Nat),(∀ b o,b≠S->s2.heap.get? b=some o->g.get? b=some o)->g.get? S=some (seqObj "list" best'.toArray cc')->NF C φ2 H2 o' best'->post C φ2 H2 (dW f n xs (xs.drop (i+1)) o' h2) Q->
       codeAny (model X.prog X.w) X.A (.builtin "max.loop" ⟨[.ref it,.ref q,.ref S],[("default",.none)]⟩) (wants (EP X pins σ Q) X.xe) { s2 with heap:=g,toks:=t' }:=fun o' best' cc' g t' kp hb bo' po'=>by
      refine ih (i+1) _ H2 φ2 h2 o' best' cc' (by omega) hlt (I4.turned (t':=t') (it:=S) kp gk.2.1 fS.2.1 (.inr fS.1) fS.2.2.1 fS.2.2.2.1) gk.2.1 gi.2.1 hb (st2.at fun o e=>kp it o hne e) rh2 hn2 bo' po'
     have po2:post C φ2 H2 (dW f n xs (xs.drop (i+1)) (Er o xs[i] i') h2) Q:=po2;cases o with
     | none=>
      cases bo
      refine (show wpAny _ _ (updateSeq S (fun _=>#[u,.int i' t]) >>= _) _ _ _ from aa (wpAny_updateSeq gk.1 rfl ?_ (by rw [cz]; simp) (by rw [cz]; simp)))
      obtain ⟨c2,hc2⟩:∃ c2,(s2.heap.update S (c4 fun _=>#[u,.int i' t])).get? S=some (seqObj "list" #[u,.int i' t] c2):=⟨_,jg gk.1 fun _=>#[u,.int i' t]⟩;exact ai ⟨ku k4 _,again (some (xs[i],i')) [u,.int i' t] c2 _ s2.toks (fun b o hb e=>by rw [jh _ _ _ _ hb]; exact e) hc2 ⟨v,u,t,rfl,ru,rvv.mono pp2 tt2⟩ po2⟩
     | some b=>
      obtain ⟨v0,u0,t0,rfl,ru0,rv0⟩:=bo;refine (show wpAny _ _ (tryCatch (holding [u,.int i' t] (richCompare .Gt (.int i' t) (.int b.2 t0) >>= _)) _ >>= _) _ _ _ from aa (m9 (dg (aa (PyProof.Rows.gt_int (a:=i') (b:=b.2) ?_)))))
      refine aa (dg (ij (aa (wpAny_letGo (ai ?_)))));have eb:Er (some b) xs[i] i'=if b.2 < i' then some (xs[i],i') else some b:=rfl
      by_cases hb:b.2 < i'
      ·rw [eb,if_pos hb] at po2;rw [if_pos (by simpa using hb)]
       refine aa (wpAny_updateSeq gk.1 rfl ?_ (by rw [cz]; simp) (by rw [cz]; simp));obtain ⟨c2,hc2⟩:∃ c2,(s2.heap.update S (c4 fun _=>#[u,.int i' t])).get? S=some (seqObj "list" #[u,.int i' t] c2):=⟨_,jg gk.1 fun _=>#[u,.int i' t]⟩;exact aa (wpAny_letGo (ai ⟨ku k4 _,again (some (xs[i],i')) [u,.int i' t] c2 _ s2.toks (fun b o hb e=>by rw [jh _ _ _ _ hb]; exact e) hc2 ⟨v,u,t,rfl,ru,rvv.mono pp2 tt2⟩ po2⟩))
      ·rw [eb,if_neg hb] at po2;rw [if_neg (by simpa using hb)]
       exact aa (wpAny_letGo (ai ⟨ku k4 _,again (some b) [u0,.int b.2 t0] cc _ s2.toks (fun _ _ _ e=>e) gk.1 ⟨v0,u0,t0,rfl,ru0,rv0.mono pp2 tt2⟩ po2⟩))
    | _=>exact po2.elim
theorem K9 (c:Cxt C k X) (D:Def C.K X.mg x st q fd pn) (G:aU X.prog X.w C.K X.mg X.base CX0 j q fd pn (spM C 1 f)) (hj:j+1<=k) {pins:List (Addr×Obj)} {s:Shared} {σ:St} {H:Hp} {Q:VK} {v:V} {u:Value} (I:Inv X pins σ H s) (ru:RelV v u) (h:r1 C (Bk f) v H Q):
  wpAny (model X.prog X.w) X.A (call (.builtin "max") [u] [("key",.ref q),("default",.none)]) (EP X pins σ Q) X.xe s:=by
 obtain ⟨φ,h,p,rh,rp,po⟩:=h;unfold Bk at po;cases p with
 | ref n=>
  simp only at po;cases el:aN h n with
  | none=>rw [el] at po; exact po.elim
  | some xs=>
   rw [el] at po;obtain ⟨a,rfl,ha⟩:=rp;cases ru
   obtain ⟨a2,vs,ha2,sq,rv⟩:=bM rh el;rw [ha] at ha2;cases ha2
   have sq':=sq;rw [<- c.K] at sq';obtain ⟨its,rvs,pl,hz⟩:=I.list sq';refine K7 pl.isList ?_;have kp:∀ b o,s.heap.get? b=some o->((s.heap.push { cls:=.type "list_iterator",data:=.fields #[.ref a,.int 0 0] }).push (seqObj "list" #[] 0)).get? b=some o:=fun b o e=>ah _ (ah _ e);have fI:=qV I (ao s.heap.objs.size);have fS:=qV I (Nat.le_succ s.heap.objs.size);refine K8 (xs:=xs) (n:=n) (l:=a) c D G hj (az (Nat.lt_succ_self _)) fI fS xs.length 0 _ H φ h none [] 0 (by omega) (cg _) (I.kept (t':=s.toks) kp) (I.hok.fresh (Nat.le_succ _)) (I.hok.fresh (ao _)) ?_ ?_ rh ha rfl (by rw [List.drop_zero]; exact po)
   ·have e:(s.heap.push { cls:=.type "list_iterator",data:=.fields #[.ref a,.int 0 0] }).objs.size=s.heap.objs.size+1:=by rw [j0]
    show ((s.heap.push _).push (seqObj "list" #[] 0)).get? (s.heap.objs.size+1)=_
    rw [<- e];exact ay _ rfl
   ·exact ⟨_,ah _ (ay _ rfl),rfl,rfl⟩
 | _=>exact po.elim
end
section
variable {C:MC} {k:Nat} {X:Cx} {kf:Str} {st:Stmt} {q:Addr} {fd:cy} {pn:List Str} {j jn:Nat} {f:Fn} {e:Expr} {me:Me} {p pos kp kpos rp rpos:Pos}
theorem NG {Q:VK} {σ:St} {H:Hp} (h:rd C (IT f me) σ H Q):Ic (rd C me) Qk σ H fun vs H1=>∃ x,vs=[x]/\r1 C (Bk f) x H1 Q:=by
 obtain ⟨φ,δ,h,rh,re,po⟩:=h;refine ⟨φ,δ,h,rh,re,(post.bind po).imp ?_⟩;rintro v H1 ⟨φ1,x,h1,p1,t1,rh1,rv1,q1⟩;exact ⟨v,rfl,φ1,h1,x,rh1,rv1,q1⟩
theorem V5 (D:Def C.K X.mg kf st q fd pn) (G:aU X.prog X.w C.K X.mg X.base CX0 j q fd pn (spM C 1 f)) (he:SE C k X e me) (hb:("max" : Str)∈C.bs) (hj:j+1<=k:=by decide) (hg:Gl X "max" := by rfl) (hgk:Gl X kf:=by rfl) (hdk:(kf == ("__debug__" : Str))=false:=by decide)
  (hst:b8 [e] X.env=(false,eval e X.env) :: b8 [] X.env:=by rfl) (hbk:backTo pos (b8 [e] X.env)=(false,eval e X.env) :: backTo pos (b8 [] X.env):=by rfl) (hpl:(backTo pos (b8 [e] X.env)).any (·.1)=false:=by rfl):
  SE C k X (.Call (.Name "max" p) [e] [⟨some "key",.Name kf kp,kpos⟩,⟨some "default",.Constant .none jn rp,rpos⟩] pos) (IT f me):=fun c pins s σ H Q I h=>by
 refine iw (kR I hg (c.bn _ hb) PyProof.Rows.Boot.«max» ?_ (by decide) (by decide));refine callWith_kw (thn (pH (he c) wI hst pos pins s σ H _ I (NG h)) fun us s1 hh=>?_) hbk hpl;obtain ⟨vs,H1,I1,rv,x,rfl,r⟩:=hh;obtain ⟨u,rfl,ru⟩:=vals1 rv;refine kws_cons (pG I1 hgk D.mg (kws_cons (Constant_none (kws_nil ?_))) hdk)
 show wpAny _ _ (call (.builtin "max") [u] [(jm "key",.ref q),(jm "default",.none)]) _ _ _
 exact K9 c D G hj I1 ru r
end
def oJ:PV->List PV->PH->Rs PV:=fun x ps h=>match x,ps with
 | .ref n,[.str z]=>match aN h n with
  | some ys=>match B9 ys with
   | some ss=>if ss.idxOf z < ss.length then .ok (.int (ss.idxOf z:Nat)) h else .bad
   | none=>.bad
  | none=>.bad
 | _,_=>.bad
section
variable {C:MC} {k:Nat} {X:Cx}
theorem IV:MtS C k X "list" isL "list.index" oJ:=fun c=>⟨fun pins s σ H x xs v us Q I rx rv h=>by
 obtain ⟨φ,h,p,ps,rh,rp,rs,po⟩:=h;unfold oJ at po;split at po
 ·rename_i n z;split at po
  ·rename_i ys e;split at po
   ·rename_i ss es;obtain ⟨hlt,po⟩:=po.ite;obtain ⟨a,rfl,ha⟩:=rp;cases rx
    obtain ⟨v2,rfl,rz⟩:=rs.one;cases rz
    obtain ⟨u,rfl,ru⟩:=vals1 rv;obtain ⟨t,rfl⟩:=ru;obtain ⟨a2,vs,ha2,sq,rvs⟩:=bM rh e;rw [ha] at ha2; cases ha2;rw [<- c.K] at sq;obtain ⟨its,ri,pl,hz⟩:=I.list sq;have ey:=Eb es;subst ey;have hi:∀ (m:Nat) (x:Str),ss[m]?=some x->∃ t,its[m]?=some (.str x t):=fun m x hm=>by
     obtain ⟨w,hw,rw'⟩:=rvs.at (i:=m) (x:=.str x) (by rw [aq,hm]; rfl);cases rw'
     obtain ⟨y,hy,ry⟩:=ri.get hw;obtain ⟨t',rfl⟩:=ry;exact ⟨t',hy⟩
    have hl:its.length=ss.length:=by
     have h1:=rvs.length;have h2:=ri.length;rw [ae] at h1;omega
    obtain ⟨ob,n',ge0,hcl,hdi,hda⟩:=pl;have ge:s.heap.get? a=some { cls:=.type "list",dict:=none,data:=.seq its.toArray n',slots:=ob.slots }:=by
     rw [ge0];cases ob
     simp only at hcl hdi hda;rw [hcl,hdi,hda]
    let e:Value->Bool:=fun y=>match y with | .str a _=>a == z | _=>false
    have hget:∀ (m:Nat) (hm:m < its.toArray.size),∃ t,its.toArray[m]=.str (ss[m]'(by simpa [hl] using hm)) t:=fun m hm=>by
     have hm':m < ss.length:=by simpa [hl] using hm
     obtain ⟨t',ht⟩:=hi m ss[m] (by simp [hm']);refine ⟨t',?_⟩;have:=(ab.mp ht).2;simpa using this
    refine call_meets F.slot_list_index ⟨_,ge,rfl⟩ F.entry_list_index (F.args_list_index_2 _ _) (list_indexAt a its.toArray n' none ob.slots (.str z t) e (ss.idxOf z) (by simpa [hl] using hlt) ?_ ?_ ?_) ⟨ge,?_,?_⟩
    ·have:=hz;have h1:=ri.length;rw [cz] at this;omega
    ·obtain ⟨t',ht⟩:=hget (ss.idxOf z) (by simpa [hl] using hlt)
     rw [ht]
     show (ss[ss.idxOf z] == z)=true
     simp
    ·intro m hm hlt2;obtain ⟨t',ht⟩:=hget m hm;rw [ht]
     show (ss[m] == z)=false
     have:=List.not_of_lt_findIdx (p:=fun x=>x == z) (xs:=ss) (i:=m) hlt2;simpa using this
    ·intro y hy;obtain ⟨m,hm,rfl⟩:=Array.getElem_of_mem hy;obtain ⟨t',ht⟩:=hget m hm;rw [ht];exact EqAt.str_str _ _ _ _
    ·exact ⟨.int (ss.idxOf z:Nat),H,I.kept (t':=s.toks+1) fun _ _ e=>e,⟨_,rfl⟩,po.val rh rfl⟩
   ·exact po.elim
  ·exact po.elim
 ·exact po.elim,fun φ H h p x rh rv e=>Gb rh rv e⟩
theorem Bl {h:PH} {n:Nat} {ss:List Str} {z:Str} (e:h[n]?=some (.lst (ss.map PV.str))) (hz:z∈ss):oJ (.ref n) [.str z] h=.ok (.int (ss.idxOf z:Nat)) h:=by
 have e1:aN h n=some (ss.map PV.str):=by simp [aN,e]
 simp only [oJ,e1,Ea];rw [if_pos (gj.mpr hz)]
end
end L2
namespace K77
open PySem L2
noncomputable section
def Bm:Ms:=
 (aV (bG 5 (aD vAt (mC (.str "abcdefghijklmnopqrstuvwxyz")) (aD kN (aD cA (aD oB (mV 0) (mC (.int 64))) (aD JI (mV 4) (aD cA (mC (.int 1)) (aD kN (aD oB (mV 0) (mC (.int 3))) (mC (.int 8)))))) (mC (.int 26)))))
  (Af (mMt isL (onL dE) (mV 3) (aB (aD cA (aD cA (aD JT (mC (.str "k")) (mV 2)) (mV 5)) (aD JT (mC (.str "k")) (aD G8 (aD G8 (mV 1) (mC (.int 1))) (mV 2)))) aH))))
def Cs:Ms:=
 (aV (bG 1 (aD cA (mC (.int 1)) (aD kN (mV 0) (mC (.int 8)))))
 (aV (bG 2 (aD kN (aD oB (mV 0) (mC (.int 8))) (mV 1)))
 (aV (bG 3 (iL aH))
 (aV (kQ (iD (aB (aD cA (mC (.int 1)) (aD kN (aD oB (mV 0) (mC (.int 5))) (mC (.int 6)))) aH)) (gN 4) Bm)
 (cD (mV 3))))))
def qZ:Fn:=mFn 6 Cs
def Gs:Ms:=
 (cD (mCB sT (aB (mCB iE (aB (bF [none,some 0,some 1] (iD (aB (mCB fG (aB (mV 0) aH)) aH)) (gN 0) (bT (aD vGt (aD vAt (mV 2) (mV 0)) (mC (.int 0)))) (hW (aB (aD vAt (mV 1) (mV 0)) (aB (aD vAt (mV 2) (mV 0)) aH)))) aH)) aH)))
def yN:Fn:=mFn 2 Gs
def Ct:Ms:=
 (aV (bG 2 (aD kN (aD JI (aD cA (aD cA (mV 0) (aD JI (mC (.int 7919)) (mV 1))) (mC (.int 1))) (mC (.int 48271))) (mC (.int 2147483647))))
 (cD (aD kN (aD JI (mV 2) (aD cA (aD oB (mV 2) (mC (.int 1009))) (mC (.int 69621)))) (mC (.int 2147483647)))))
def rA:Fn:=mFn 3 Ct
def NH:Ms:=
 (aV (bG 3 (aY 2 rA (aB (mV 2) (aB (mC (.int 1)) aH))))
 (aV (iM (bT (aD xT (mV 0) (mC (.int 2))))
  (cD (hW (aB (mC (.str "settle")) aH)))
  kO)
 (aV (iM (DY (bT (aD vEq (mV 0) (mC (.int 2)))) (bT (aD vGt (mV 1) (mC (.int 0)))))
  (aV (bG 4 (aD cA (mC (.int 1)) (aD kN (mV 3) (mV 1))))
  (cD (hW (aB (mC (.str "back")) (aB (mV 4) (aB (aD cA (mV 4) (aD kN (aD oB (mV 3) (mC (.int 64))) (aD G8 (aD cA (mV 1) (mC (.int 1))) (mV 4)))) aH))))))
  kO)
 (cD (hW (aB (mC (.str "add")) (aB (hW (aB (mC (.str "t")) (aB (mC (.int 1)) aH))) (aB (aD kN (mV 2) (aD UB (mC (.int 10)) (mC (.int 39)))) aH))))))))
def Es:Fn:=mFn 5 NH
def lN:Ms:=
 (aV (bG 5 (aD kN (mV 4) (mCB fG (aB (mV 1) aH))))
  (aV (bG 6 (aD vAt (mV 2) (mV 5)))
  (aV (bG 7 (aD kN (aD oB (mV 4) (mCB fG (aB (mV 1) aH))) (mC (.int 8))))
  (iM (bT (aD xT (mV 7) (mC (.int 5))))
   (aV (bG 8 (hW (aB (aD vAt (mV 1) (mV 5)) (aB (aD cA (aD vAt (mV 6) (mV 5)) (mC (.int 1))) aH))))
   (aV (bG 9 (hW (aB (mV 8) (aB (aY 2 yN (aB (mV 1) (aB (mV 6) aH))) (aB (aY 3 Es (aB (mV 7) (aB (aD vAt (mV 6) (mV 5)) (aB (aD oB (mV 4) (mC (.int 32))) aH)))) aH)))))
   (aV (kH (aD cA (aD vAt (mV 6) (mV 5)) (mC (.int 1))) (mV 6) (mV 5))
   (Af (mMt isL (onL dE) (mV 3) (aB (hW (aB (mV 9) (aB (mCB qA (aB (mV 6) aH)) aH))) aH))))))
   (aV (bG 10 (aD kN (aD cA (aD cA (mV 5) (mC (.int 1))) (aD kN (aD oB (mV 4) (mC (.int 32))) (mCB qX (aB (mC (.int 1)) (aB (aD G8 (mCB fG (aB (mV 1) aH)) (mC (.int 1))) aH))))) (mCB fG (aB (mV 1) aH))))
   (aV (bG 11 (aD vAt (mV 2) (mV 10)))
   (aV (bG 12 (bF [none,some 1,some 10] (bH (mV 3)) (gN 0) (bT (aD vEq (aD vAt (aD vAt (aD vAt (mV 0) (mC (.int 0))) (mC (.int 0))) (mC (.int 0))) (aD vAt (mV 1) (mV 2)))) (mV 0)))
   (aV (iM (DY (bT (aD xT (mV 7) (mC (.int 7)))) (bT (aD Rj (mV 12) (iL aH))))
    (bG 11 (aD vAt (aD vAt (mV 12) (aD kN (aD oB (mV 4) (mC (.int 64))) (mCB fG (aB (mV 12) aH)))) (mC (.int 1))))
    kO)
   (kH (bF [none,some 6,some 11] (iD (aB (mCB fG (aB (mV 1) aH)) aH)) (gN 0) dS (mCB qX (aB (aD vAt (mV 1) (mV 0)) (aB (aD vAt (mV 2) (mV 0)) aH)))) (mV 2) (mV 5))))))))))
def tJ:Ms:=
 (aV (bG 2 (bF [none,some 1] (bH (mV 1)) (gN 0) dS (bF [none] (bH (mV 1)) (gN 0) dS (mC (.int 0)))))
 (aV (bG 3 (iL aH))
 (aV (kQ (bH (mV 0)) (gN 4) lN)
 (cD (hW (aB (mV 3) (aB (mV 2) aH)))))))
def iW:Fn:=mFn 13 tJ
def yO:Ms:=
 (aV (iM (bT (aD vEq (mV 0) (iL aH)))
  (cD (iL aH))
  kO)
 (aV (bG 2 (aD kN (mV 1) (mCB fG (aB (mV 0) aH))))
 (cD (aD cA (aD cA (mUn Bf (mSl (mV 0) (mP (mV 2)) QL)) (mSl (mV 0) QL (mP (mV 2)))) (iL (aB (aD vAt (mV 0) (mC (.int 0))) aH))))))
def rB:Fn:=mFn 3 yO
def lO:Ms:=
 (cD (aD vAt (aD vAt (mV 0) (mC (.int 0))) (mC (.int 1))))
def cY:Fn:=mFn 1 lO
def tK:Ms:=
 (cD (IT cY (bF [none,some 0] (bH (mV 1)) (gN 0) (bT (aD vEq (aD vAt (aD vAt (mV 0) (mC (.int 0))) (mC (.int 0))) (mV 1))) (mV 0))))
def iX:Fn:=mFn 2 tK
def rC:Ms:=
 (cD (aD cA (mC (.int 1)) (mCB JS (aB (bF [none] (bH (aD vAt (mV 0) (mC (.int 1)))) (gN 0) dS (aD vAt (mV 0) (mC (.int 1)))) aH))))
def iI:Fn:=mFn 1 rC
def Cu:Ms:=
 (aV (bG 2 (bF [none] (bH (mV 1)) (gN 0) (bT (aD vEq (aD vAt (aD vAt (mV 0) (mC (.int 2))) (mC (.int 0))) (mC (.str "settle")))) (mV 0)))
 (aV (bG 3 (bF [none,some 2] (bH (mV 0)) (gN 0) dS (aY 2 iX (aB (mV 0) (aB (mV 1) aH)))))
 (cD (mCB qY (aB (bF [none] (bH (mV 3)) (gN 0) dS (mIf (bT (aD vIs (mV 0) (mC .non))) (mC (.int 0)) (aY 1 iI (aB (mV 0) aH)))) aH)))))
def mO:Fn:=mFn 4 Cu
def gX:Ms:=
 (aV (bG 4 (bF [none,none,some 3] (bH (mV 1)) (gTp 2 (gCn (gN 0) (gCn (gN 1) gNl))) (bT (aD vEq (aD vAt (aD vAt (mV 0) (mC (.int 0))) (mC (.int 0))) (mV 2))) (mV 1)))
  (aV (iM (bT (aD Ri (mV 4) (iL aH)))
   (cD (bF [none] (bH (mV 0)) (gN 0) dS (mC (.int 0))))
   kO)
  (aV (iM (bT (aD vIs (mV 2) (mC .non)))
   (bG 2 (aD vAt (mV 4) (mUn C9 (mC (.int 1)))))
   kO)
  (bG 2 (bF [none,some 2,some 4] (iD (aB (mCB fG (aB (mV 0) aH)) aH)) (gN 0) dS (mCB qY (aB (aD vAt (mV 1) (mV 0)) (aB (aD vAt (aD vAt (mV 2) (mUn C9 (mC (.int 1)))) (mV 0)) aH))))))))
def jU:Ms:=
 (aV (bG 2 (mC .non))
 (aV (kQ (bH (mV 0)) (gN 3) gX)
 (cD (mV 2))))
def fM:Fn:=mFn 5 jU
def yP:Ms:=
 (kH (mCB qX (aB (mV 4) (aB (mMt eD Gh (mV 2) (aB (mV 3) (aB (mV 4) aH))) aH))) (mV 2) (mV 3))
def yQ:Ms:=
 (aV (bG 2 (mCB Cp (aB (mV 0) aH)))
 (aV (kQ (bH (mV 1)) (gTp 2 (gCn (gN 3) (gCn (gN 4) gNl))) yP)
 (cD (mCB sT (aB (mCB iE (aB (JM eD yB (mV 2)) aH)) aH)))))
def rD:Fn:=mFn 5 yQ
def tL:Ms:=
 (cD (aY 2 rD (aB (mV 0) (aB (hW (aB (mV 1) aH)) aH))))
def mQ:Fn:=mFn 2 tL
def Cv:Ms:=
 (aV (bG 2 (aY 2 iX (aB (mV 0) (aB (mV 1) aH))))
 (cD (mIf (bT (aD vIs (mV 2) (mC .non))) (hW aH) (aY 2 mQ (aB (aD vAt (mV 2) (mC (.int 1))) (aB (aD vAt (mV 2) (mC (.int 0))) aH))))))
def vY:Fn:=mFn 3 Cv
def Gu:Ms:=
 (aV (DZ (aD vAt (mV 0) (mC (.int 0))) (gTp 2 (gCn (gN 1) (gCn (gN 2) gNl))))
 (cD (hW (aB (aY 1 iI (aB (mV 0) aH)) (aB (mV 1) (aB (mV 2) aH))))))
def Cw:Fn:=mFn 3 Gu
def rE:Ms:=
 (kH (mV 2) (mV 1) (aD vAt (mV 2) (mC (.int 0))))
def oK:Ms:=
 (aV (bG 1 xP)
 (aV (kQ (bH (mV 0)) (gN 2) rE)
 (cD (tG Cw false (JM eD E7 (mV 1))))))
def dJ:Fn:=mFn 3 oK
def yR:Ms:=
 (iM (bT (aD vEq (mV 2) (aD vAt (mV 1) (mC (.int 0)))))
   (cD (aD vLe (aD vAt (mV 1) (mC (.int 1))) (mV 3)))
   kO)
def yS:Ms:=
 (aV (kQ (bH (mV 0)) (gTp 2 (gCn (gN 2) (gCn (gN 3) gNl))) yR)
 (cD (mC (.bl false))))
def iY:Fn:=mFn 4 yS
def Gv:Ms:=
 (aV (bG 2 (aY 2 mO (aB (mV 0) (aB (mV 1) aH))))
 (aV (bG 3 (bF [none,some 2] (bH (aY 1 dJ (aB (mV 1) aH))) (gN 0) (bT (aD vLe (aY 1 iI (aB (mV 0) aH)) (mV 1))) (aD vAt (mV 0) (mC (.int 0)))))
 (aV (bG 4 (bF [none,some 1] (bH (mV 0)) (gN 0) dS (aY 2 vY (aB (mV 0) (aB (mV 1) aH)))))
 (cD (bF [none,some 4] (bH (mV 3)) (gN 0) (bT (mCB N3 (aB (bF [none,some 0] (bH (mV 1)) (gN 0) dS (aY 2 iY (aB (mV 0) (aB (mV 1) aH)))) aH))) (mV 0))))))
def oM:Fn:=mFn 5 Gv
def tM:Ms:=
 (cD (aD vAt (mV 0) (mC (.int 0))))
def iZ:Fn:=mFn 1 tM
def rF:Ms:=
 (aV (DZ (aD vAt (mV 2) (mC (.int 2))) (gTp 3 (gCn (gN 3) (gCn (gN 4) (gCn (gN 5) gNl)))))
  (iM (bT (MH vLe vLe (mV 4) (mV 0) (mV 5)))
   (cD (aD vAt (mV 2) (mC (.int 0))))
   kO))
def oO:Ms:=
 (aV (kQ (bH (mV 1)) (gN 2) rF)
 (cD (mC .non)))
def jV:Fn:=mFn 6 oO
def yT:Ms:=
 (aV (DZ (aD vAt (mV 3) (mC (.int 0))) (gTp 2 (gCn (gN 4) (gCn (gN 5) gNl))))
  (aV (bG 6 (aD vAt (aD vAt (mV 3) (mC (.int 2))) (mC (.int 0))))
  (aV (iM (bT (aD vEq (mV 6) (mC (.str "settle"))))
   (aV (kH (iL aH) (mV 2) (mV 4))
   UI)
   kO)
  (aV (bG 7 (aY 2 jV (aB (mV 5) (aB (mMt eD Gh (mV 2) (aB (mV 4) (aB (iL aH) aH))) aH))))
  (iM (bT (aD xO (mV 7) (mC .non)))
   (kH (mV 7) (mV 1) (aD vAt (mV 3) (mC (.int 0))))
   (iM (bT (aD vEq (mV 6) (mC (.str "back"))))
    (Af (mMt isL (onL dE) (mMt eD mM (mV 2) (aB (mV 4) (aB (iL aH) aH))) (aB (mV 3) aH)))
    kO))))))
def yU:Ms:=
 (aV (bG 1 xP)
 (aV (bG 2 xP)
 (aV (kQ (bH (tG iZ true (mV 0))) (gN 3) yT)
 (cD (mV 1)))))
def rG:Fn:=mFn 8 yU
def oP:Ms:=
 (aV (bG 1 (aY 1 dJ (aB (mV 0) aH)))
 (aV (bG 2 (aY 1 rG (aB (mV 1) aH)))
 (cD (bF [none,some 2] (bH (mV 1)) (gN 0) (bT (aD jQ (aD vAt (mV 0) (mC (.int 0))) (mV 1))) (mV 0)))))
def eN:Fn:=mFn 3 oP
def tN:Ms:=
 (aV (bG 2 (aY 2 mO (aB (mV 0) (aB (mV 1) aH))))
 (cD (bF [none,some 2] (bH (aY 1 eN (aB (mV 1) aH))) (gN 0) (bT (aD vLe (aY 1 iI (aB (mV 0) aH)) (mV 1))) (mV 0))))
def fP:Fn:=mFn 3 tN
def rH:Ms:=
 (cD (hW (aB (aD cA (mC (.int 1)) (mCB JS (aB (bF [none,none] (bH (aD vAt (mV 0) (mC (.int 1)))) (gTp 2 (gCn (gN 0) (gCn (gN 1) gNl))) dS (mV 1)) aH))) (aB (aD vAt (mV 0) (mC (.int 0))) aH))))
def gY:Fn:=mFn 1 rH
def vZ:Ms:=
 (cD (bF [none,some 1] (bH (vX gY false 0 (mV 0))) (gN 0) (bT (aD vLe (aD vAt (aY 1 gY (aB (mV 0) aH)) (mC (.int 0))) (mV 1))) (mV 0)))
def jW:Fn:=mFn 2 vZ
def Cy:Ms:=
 (aV (bG 3 (bF [none,none] (bH (mV 1)) (gTp 2 (gCn (gN 0) (gCn (gN 1) gNl))) dS (mV 0)))
 (aV (bG 4 (aY 2 rB (aB (mV 3) (aB (mV 2) aH))))
 (aV (bG 5 (mCB qA (aB (mV 4) aH)))
 (aV (bG 6 (aY 2 mO (aB (mV 0) (aB (mV 4) aH))))
 (aV (bG 7 (aY 2 fM (aB (mV 0) (aB (mV 1) aH))))
 (aV (bG 8 (bF [none,some 7,some 0] (bH (aY 2 jW (aB (mV 3) (aB (mV 6) aH)))) (gN 0) (bT (aD vLe (aD vAt (aD vAt (mV 0) (mC (.int 0))) (mC (.int 1))) (aD vAt (mV 1) (mMt isL oJ (mV 2) (aB (aD vAt (aD vAt (mV 0) (mC (.int 0))) (mC (.int 0))) aH))))) (aD vAt (mV 0) (mC (.int 0)))))
 (aV (bG 9 (aY 2 oM (aB (mCB qA (aB (mV 0) aH)) (aB (mV 5) aH))))
 (aV (iM (MI (DX (bT (mCB Ag (aB (mV 9) (aB (mC (.ty "list")) aH))))) (bT (aD vNe (mV 9) (mV 8))))
  (cD (mC (.bl false)))
  kO)
 (aV (Af (mMt isL (onL dE) (mV 9) (aB (hW (aB (mC (.str "a")) (aB (mC (.int 1)) aH))) aH)))
 (aV (bG 10 (aY 1 eN (aB (mV 4) aH)))
 (aV (bG 9 (aY 2 fP (aB (mCB qA (aB (mV 0) aH)) (aB (mV 5) aH))))
 (aV (iM (MI (DX (bT (mCB Ag (aB (mV 9) (aB (mC (.ty "list")) aH))))) (bT (aD vNe (mV 9) (bF [none,some 10] (bH (aY 2 jW (aB (mV 3) (aB (mV 6) aH)))) (gN 0) (bT (aD Gf (mV 0) (mV 1))) (mV 0)))))
  (cD (mC (.bl false)))
  kO)
 (aV (Af (JM isL (onL sU) (mV 9)))
 (cD (uS (aD vEq (mV 5) (mV 4)) (aD vEq (aY 2 oM (aB (mV 0) (aB (mV 4) aH))) (mV 8)))))))))))))))))
def mR:Fn:=mFn 11 Cy
def Bn:Ms:=
 (aV (bG 5 (aD vAt (aD vAt (mV 4) (mC (.int 0))) (mC (.int 0))))
  (iM (bT (aD vLe (aD vAt (mV 5) (mC (.int 1))) (aD vAt (mV 2) (mMt isL oJ (mV 1) (aB (aD vAt (mV 5) (mC (.int 0))) aH)))))
   (Af (mMt isL (onL dE) (mV 3) (aB (mV 4) aH)))
   kO))
def Cz:Ms:=
 (aV (bG 3 (iL aH))
 (aV (kQ (bH (mV 0)) (gN 4) Bn)
 (cD (mV 3))))
def wA:Fn:=mFn 6 Cz
def CA:Ms:=
 (iM (DX (bT (aY 3 mR (aB (mV 2) (aB (aY 3 wA (aB (mV 3) (aB (mV 2) (aB (aD vAt (mV 4) (mV 5)) aH)))) (aB (aD cA (aD oB (mV 1) (mC (.int 7))) (mV 5)) aH))))))
   (cD (mC (.bl false)))
   kO)
def NI:Ms:=
 (aV (bG 1 (mC (.int 0)))
 (aV (iM (bT (aD vGt (mCB fG (aB (mV 0) aH)) (mC (.int 0))))
  (bG 1 (aD vAt (mV 0) (mC (.int 0))))
  kO)
 (aV (bG 2 (aY 1 qZ (aB (mV 1) aH)))
 (aV (DZ (aY 2 iW (aB (mSl (mV 0) (mP (mC (.int 1))) (mP (mC (.int 41)))) (aB (mV 2) aH))) (gTp 2 (gCn (gN 3) (gCn (gN 4) gNl))))
 (aV (kQ (iD (aB (mCB fG (aB (mV 2) aH)) aH)) (gN 5) CA)
 (cD (uS (aY 3 mR (aB (mV 2) (aB (mV 3) (aB (aD oB (mV 1) (mC (.int 11))) aH)))) (uS (aD vEq (aY 2 oM (aB (mV 2) (aB (iL aH) aH))) (iL aH)) (aD vEq (aY 2 fP (aB (mV 2) (aB (iL aH) aH))) (iL aH))))))))))
def NJ:Fn:=mFn 6 NI
end
end K77
namespace K77
open PySem L2
abbrev Seen:=List (Str×Int)
def ltS (a b:Str):Prop:=a.cps.toList < b.cps.toList
def look:Seen->Str->Option Int
 | [],_=>none
 | p :: r,h=>if p.1=h then some p.2 else look r h
theorem fQ (p:Str×Int) (r:Seen) (h:Str):look (p :: r) h=if p.1=h then some p.2 else look r h:=(rfl)
def Asc (S:Seen):Prop:=S.Pairwise fun a b=>ltS a.1 b.1
def dput (kvs:Seen) (h:Str) (n:Int):Seen:=if (look kvs h).isSome then kvs.map (fun p=>if p.1=h then (p.1,n) else p) else kvs++[(h,n)]
def emb (kvs:Seen):List (Key×PV):=kvs.map fun p=>(.inr p.1,.int p.2)
def row (p:Str×Int):List Key:=[.inr p.1,.inl p.2]
def sv (S:Seen):PV:=.tup (S.map fun p=>.tup [.str p.1,.int p.2])
theorem yV (h:Str):∀ kvs:Seen,aX (emb kvs) (.inr h)=(look kvs h).map PV.int
 | []=>rfl
 | p :: r=>by
  show aX ((nk p.1,PV.int p.2) :: emb r) (.inr h)=_
  unfold aX look
  by_cases e:p.1=h
  ·rw [if_pos e,if_pos (by rw [e])]; rfl
  ·rw [if_neg e,if_neg (by simpa using e)]; exact yV h r
theorem IW (kvs:Seen) (h:Str) (n:Int):dO (emb kvs) (.inr h) (.int n)=emb (dput kvs h n):=by
 unfold dO dput;rw [yV];cases look kvs h with
 | none=>simp [emb]
 | some m=>
  simp only [Option.map_some,jo,if_true];unfold emb;rw [bp,bp];apply dn;intro p _
  by_cases e:p.1=h
  ·simp [e]
  ·simp [e]
theorem tO {S:Seen} {h:Str}:look S h=none ↔ ∀ p∈S,p.1≠h:=by
 induction S with
 | nil=>simp [look]
 | cons p r ih=>
  unfold look
  by_cases e:p.1=h
  ·simp [e]
  ·simp [e,ih]
theorem yW {S:Seen} {h:Str} {n:Int} (e:look S h=some n):(h,n)∈S:=by
 induction S with
 | nil=>cases e
 | cons p r ih=>
  unfold look at e;split at e
  ·rename_i z;cases e
   rw [<- z];exact ak
  ·exact aj _ (ih e)
theorem NK {S T:Seen} {h:Str}:look (S++T) h=(look S h).or (look T h):=by
 induction S with
 | nil=>simp [look]
 | cons p r ih=>
  show look (p :: (r++T)) h=_
  rw [fQ,fQ];split
  ·simp
  ·exact ih
theorem NL {S:Seen} {h h':Str} {n:Int}:look (S.map fun p=>if p.1=h then (p.1,n) else p) h'=(look S h').map fun m=>if h'=h then n else m:=by
 induction S with
 | nil=>rfl
 | cons p r ih=>
  rw [a9]
  by_cases e:p.1=h
  ·rw [if_pos e];unfold look
   by_cases e':p.1=h'
   ·rw [if_pos e',if_pos e'];simp [<- e',e]
   ·rw [if_neg e',if_neg e']; exact ih
  ·rw [if_neg e];unfold look
   by_cases e':p.1=h'
   ·have:¬ h'=h:=fun z=>e (e'.trans z);rw [if_pos e',if_pos e'];simp [this]
   ·rw [if_neg e',if_neg e']; exact ih
theorem Et (S:Seen) (h h':Str) (n:Int):look (dput S h n) h'=if h'=h then some n else look S h':=by
 unfold dput;cases e:look S h with
 | some m=>
  simp only [jo,if_true];rw [NL]
  by_cases z:h'=h
  ·subst z; simp [e]
  ·simp [z]
 | none=>
  simp only [Option.isSome_none,dw,if_false];rw [NK]
  by_cases z:h'=h
  ·subst z; simp [e,look]
  ·have z':¬ h=h':=fun q=>z q.symm;simp [look,z,z']
theorem keys_map {S:Seen} {h:Str} {n:Int}:(S.map fun p=>if p.1=h then (p.1,n) else p).map (·.1)=S.map (·.1):=by
 rw [bp];apply dn;intro p _
 by_cases e:p.1=h <;> simp [e]
theorem K' {S:Seen} {h:Str} {n:Int} (hn:(S.map (·.1)).Nodup):((dput S h n).map (·.1)).Nodup:=by
 unfold dput;cases e:look S h with
 | some m=>simp only [jo,if_true]; rw [keys_map]; exact hn
 | none=>
  simp only [Option.isSome_none,dw,if_false];rw [cw,jd];refine ⟨hn,by simp,fun x hx y hy=>?_⟩;obtain ⟨p,hp,rfl⟩:=au.mp hx;have:y=h:=by simpa using hy
  subst this;exact tO.mp e p hp
theorem Rk {S:Seen} {h:Str} {n:Int}:(dput S h n).length<=S.length+1:=by
 unfold dput;split <;> simp
theorem lQ {S:Seen} (hn:(S.map (·.1)).Nodup) {p:Str×Int} (hp:p∈S):look S p.1=some p.2:=by
 induction S with
 | nil=>cases hp
 | cons q r ih=>
  rw [a9,ir] at hn;unfold look;rcases a7.mp hp with rfl | hp
  ·simp
  ·have:¬ q.1=p.1:=fun z=>hn.1 (z ▸ au.mpr ⟨p,hp,rfl⟩);rw [if_neg this];exact ih hn.2 hp
theorem Rl (a:Str):¬ ltS a a:=List.lt_irrefl _
theorem jA {S:Seen} (h:Asc S):(S.map (·.1)).Nodup:=by
 unfold List.Nodup;rw [c8];exact h.imp fun {a b} q e=>by rw [e] at q; exact Rl _ q
def d1 (one:Seen):Seen:=one.foldl (fun acc p=>dput acc p.1 p.2) []
def fC (acc:Seen) (p:Str×Int):Seen:=dput acc p.1 (if (look acc p.1).getD p.2 > p.2 then (look acc p.1).getD p.2 else p.2)
def d2 (one other:Seen):Seen:=other.foldl fC (d1 one)
def mx:Option Int->Option Int->Option Int
 | none,o=>o
 | some n,none=>some n
 | some n,some m=>some (if m > n then m else n)
theorem IX:∀ (one:Seen) (acc:Seen),(one.map (·.1)).Nodup->∀ h,look (one.foldl (fun acc p=>dput acc p.1 p.2) acc) h=(look one h).or (look acc h)
 | [],acc,_,h=>by simp [look]
 | p :: r,acc,hn,h=>by
  rw [a9,ir] at hn;rw [List.foldl_cons,IX r _ hn.2,Et]
  show _=(look (p :: r) h).or _
  rw [fQ]
  by_cases e:p.1=h
  ·have:look r h=none:=tO.mpr fun q hq z=>hn.1 (by rw [e,<- z]; exact au.mpr ⟨q,hq,rfl⟩);rw [if_pos e.symm,if_pos e,this];rfl
  ·rw [if_neg fun z=>e z.symm,if_neg e]
theorem Bo:∀ (other:Seen) (acc:Seen),(other.map (·.1)).Nodup->∀ h,look (other.foldl fC acc) h=mx (look other h) (look acc h)
 | [],acc,_,h=>rfl
 | p :: r,acc,hn,h=>by
  rw [a9,ir] at hn;rw [List.foldl_cons,Bo r _ hn.2];unfold fC;rw [Et]
  show _=mx (look (p :: r) h) _
  rw [fQ]
  by_cases e:p.1=h
  ·have:look r h=none:=tO.mpr fun q hq z=>hn.1 (by rw [e,<- z]; exact au.mpr ⟨q,hq,rfl⟩);rw [if_pos e.symm,if_pos e,this,e];cases look acc h with
   | none=>simp [mx]
   | some m=>simp [mx]
  ·rw [if_neg fun z=>e z.symm,if_neg e]
theorem oQ:∀ (other:Seen) (acc:Seen) (f:Seen->Str×Int->Int),(acc.map (·.1)).Nodup->((other.foldl (fun a p=>dput a p.1 (f a p)) acc).map (·.1)).Nodup
 | [],_,_,h=>h
 | _ :: r,_,f,h=>oQ r _ f (K' h)
theorem rJ:∀ (other:Seen) (acc:Seen) (f:Seen->Str×Int->Int),(other.foldl (fun a p=>dput a p.1 (f a p)) acc).length<=acc.length+other.length
 | [],_,_=>ao _
 | p :: r,acc,f=>by
  have h1:=rJ r (dput acc p.1 (f acc p)) f;have h2:=Rk (S:=acc) (h:=p.1) (n:=f acc p);rw [List.foldl_cons,dq];omega
def Eu:List Key->Str×Int
 | [.inr x,.inl n]=>(x,n)
 | _=>("",0)
theorem NM {a b:Str} (h:a.cps.toList=b.cps.toList):a=b:=by
 obtain ⟨x⟩:=a;obtain ⟨y⟩:=b
 congr 1
 exact Array.toList_inj.mp h
theorem Rm {a b:Str×Int} (h:bL (row b) (row a)=false) (hne:a.1≠b.1):ltS a.1 b.1:=by
 unfold row bL at h;rw [if_neg (fun z=>hne (by injection z with z; exact z.symm))] at h;have h':¬ b.1.cps.toList < a.1.cps.toList:=by simpa [keyLt] using h
 rcases Classical.em (a.1.cps.toList < b.1.cps.toList) with q | q
 ·exact q
 ·exact absurd (NM (List.le_antisymm h' q)) hne
theorem vD {D:Seen} (hn:(D.map (·.1)).Nodup):∃ S:Seen,cW (D.map row)=S.map row/\S.Perm D/\Asc S:=by
 have hp:=fA (D.map row);have e1:(D.map row).map Eu=D:=by
  rw [bp]
  conv=>rhs; rw [<- List.map_id D]
  rfl
 have p2:((cW (D.map row)).map Eu).Perm D:=by
  have:=hp.map Eu
  rwa [e1] at this
 have e2:((cW (D.map row)).map Eu).map row=cW (D.map row):=by
  rw [bp]
  conv=>rhs; rw [<- List.map_id (cW (D.map row))]
  apply dn;intro z hz;obtain ⟨p,_,rfl⟩:=au.mp (hp.mem_iff.mp hz);rfl
 refine ⟨_,e2.symm,p2,?_⟩;have s1:(cW (D.map row)).Pairwise (fun a b=>bL b a=false):=iO (S:=[false,true]) fun y hy=>by
  obtain ⟨p,_,rfl⟩:=au.mp hy; rfl
 rw [<- e2,c8] at s1;have n1:(((cW (D.map row)).map Eu).map (·.1)).Nodup:=(p2.map (·.1)).nodup_iff.mpr hn;unfold List.Nodup at n1;rw [c8] at n1;exact (s1.and n1).imp fun {a b} h=>Rm h.1 h.2
theorem Bp:∀ S:Seen,lI (S.map fun p=>PV.tup [.str p.1,.int p.2])=some (emb S)
 | []=>rfl
 | p :: r=>by
  rw [a9];unfold lI;rw [Bp r];rfl
theorem Bq:∀ (S acc:Seen),tB (emb acc) (emb S)=emb (S.foldl (fun acc p=>dput acc p.1 p.2) acc)
 | [],_=>rfl
 | p :: r,acc=>by
  show tB (dO (emb acc) (.inr p.1) (.int p.2)) (emb r)=_
  rw [IW,Bq r];rfl
theorem Br (D:Seen):nH (D.map row)=true:=by
 cases D with
 | nil=>rfl
 | cons p r=>
  rw [a9];unfold nH;rw [cq];refine ⟨rfl,bu.mpr fun z hz=>?_⟩;obtain ⟨q,_,rfl⟩:=au.mp hz;rfl
theorem Bs {n:Nat} {h:PH} {S:Seen} (e:h[n]?=some (.lst ((S.map row).map tP))):sT [.ref n] h=.ok (sv S) h:=by
 simp [sT,aN,e];unfold sv
 congr 1
theorem Ka (one other:Seen) (n1:(one.map (·.1)).Nodup) (n2:(other.map (·.1)).Nodup) (hl:one.length+other.length < 64) (h:PH) (Q:PV->PH->Prop)
  (k:∀ S h',Ext h h'->Asc S->S.length<=one.length+other.length->(∀ x,look S x=mx (look other x) (look one x))->Q (sv S) h'):(rD [sv one,sv other] h).W Q:=by
 refine dZ ?_;have m0:tB [] (emb one)=emb (d1 one):=Bq one [];have hd1:(d1 one).length<=one.length:=by
  have h0:(d1 one).length<=([]:Seen).length+one.length:=rJ one [] (fun _ p=>p.2);simpa using h0
 have ed:∀ h,Cp [.tup (one.map fun p=>PV.tup [.str p.1,.int p.2])] h=xY [.tup (one.map fun p=>PV.tup [.str p.1,.int p.2])] h:=fun h=>rfl;simp [yQ,aL,sv,ed,E6 (Bp one),m0];refine now ?_;rw [aL];refine MX (xs:=other.map fun p=>PV.tup [.str p.1,.int p.2]) (fun q δ h'=>h'=h++[.dK (emb ((other.take q).foldl fC (d1 one)))]/\∃ x3 x4,δ=[some (sv one),some (sv other),some (.ref h.length),x3,x4]) ?_ ?_ ?_ ?_
 ·left; simp [sv]
 ·exact ⟨by simp,_,_,rfl⟩
 ·rintro q x δ h' hx ⟨rfl,x3,x4,rfl⟩;rw [aq] at hx;obtain ⟨p,hp,rfl⟩:=bf.mp hx;refine ⟨_,rfl,?_⟩;have g:(h++[MO.dK (emb ((other.take q).foldl fC (d1 one)))])[h.length]?=some (.dK (emb ((other.take q).foldl fC (d1 one)))):=aJ;have hlen:(emb ((other.take q).foldl fC (d1 one))).length < 16777216:=by
   unfold emb;rw [ae];have:=rJ (other.take q) (d1 one) (fun acc p=>if (look acc p.1).getD p.2 > p.2 then (look acc p.1).getD p.2 else p.2);have e:(List.take q other).length<=other.length:=by rw [ic]; omega
   show ((other.take q).foldl fC (d1 one)).length < _
   have:((other.take q).foldl fC (d1 one)).length<=(d1 one).length+(other.take q).length:=this;omega
  have e0:(aX (emb ((other.take q).foldl fC (d1 one))) (nk p.1)).getD (PV.int p.2)=.int ((look ((other.take q).foldl fC (d1 one)) p.1).getD p.2):=by
   rw [yV];cases look ((other.take q).foldl fC (d1 one)) p.1 <;> rfl
  have e1:(other.take (q+1)).foldl fC (d1 one)=fC ((other.take q).foldl fC (d1 one)) p:=by
   rw [gg,hp,List.foldl_append];rfl
  have e2:∀ o:MO,(h++[MO.dK (emb ((other.take q).foldl fC (d1 one)))]).set h.length o=h++[o]:=fun o=>by
   rw [List.set_append_right _ _ (ao _),Nat.sub_self];rfl
  simp [yP,qR g,IK g,e0,Rg g hlen,IW,e1,e2,fC]
 ·rintro δ h' ⟨rfl,x3,x4,rfl⟩;rw [ae,ie];refine now ?_;have hn:((d2 one other).map (·.1)).Nodup:=oQ other (d1 one) _ (oQ one [] _ List.nodup_nil);obtain ⟨S,eS,pS,aS⟩:=vD hn;have hlen:(d2 one other).length<=one.length+other.length:=by
   have h0:(d2 one other).length<=(d1 one).length+other.length:=rJ other (d1 one) (fun acc p=>if (look acc p.1).getD p.2 > p.2 then (look acc p.1).getD p.2 else p.2);omega
  have g:(h++[MO.dK (emb (d2 one other))])[h.length]?=some (.dK (emb (d2 one other))):=aJ;have g1:(h++[MO.dK (emb (d2 one other))]++[MO.vw 0 h.length])[(h++[MO.dK (emb (d2 one other))]).length]?=some (.vw 0 h.length):=aJ;have g2:(h++[MO.dK (emb (d2 one other))]++[MO.vw 0 h.length])[h.length]?=some (.dK (emb (d2 one other))):=Ext.app _ _ _ _ g;have ek:(emb (d2 one other)).map (fun kv=>PV.tup [kP kv.1,kv.2])=((d2 one other).map row).map tP:=by
   unfold emb;rw [bp,bp];rfl
  have hs:=Ai g1 g2 ek (by rw [ae]; omega) (Br _);rw [eS] at hs;have e3:∀ x:PH,(x++[MO.lst ((S.map row).map tP)])[x.length]?=some (.lst ((S.map row).map tP)):=fun x=>aJ;have look2:∀ x,look S x=mx (look other x) (look one x):=fun x=>by
   have e5:look S x=look (d2 one other) x:=by
    have nS:(S.map (·.1)).Nodup:=jA aS;cases e6:look S x with
    | some n=>exact (lQ hn (pS.mem_iff.mp (yW e6))).symm
    | none=>
     cases e7:look (d2 one other) x with
     | none=>rfl
     | some m=>exact absurd e6 (by rw [lQ nS (pS.mem_iff.mpr (yW e7))]; simp)
   rw [e5];unfold d2;rw [Bo other _ n2];unfold d1;rw [IX one _ n1];simp [look]
  show (cD _ _ (h++[MO.dK (emb (d2 one other))])).W _
  rw [qE,sW,gO,sW,gO,QT];simp only [WH,JH,JG,Rs.bind_ok,qR g,if_true,JW g,qF,hs,Bs (e3 _),hZ];exact k S _ ((Ext.app _ _).trans ((Ext.app _ _).trans (Ext.app _ _))) aS (by rw [pS.length_eq]; exact hlen) look2
abbrev NN:Str:="abcdefghijklmnopqrstuvwxyz"
theorem NO:NN.cps.toList.length=26:=by decide +kernel
theorem Kb:NN.length=26:=by decide +kernel
theorem NP:∀ i:Fin 26,NN.cps.toList[i.val]?=some (97+i.val):=by decide +kernel
theorem NQ {x:Str} {c:Nat}:(x++(⟨#[c]⟩:Str)).length=x.length+1:=by
 rw [Str.length_append]; rfl
theorem Rn {i:Int} (h0:0<=i) (h1:i < 26):atI NN.cps.toList i=some (97+i.toNat):=by
 rw [QW h0 (by rw [NO]; exact h1)];exact NP ⟨i.toNat,by omega⟩
theorem app_list (x y:Str):(x++y).cps.toList=x.cps.toList++y.cps.toList:=PySem.W.KT.app_list x y
def pv (p:Str×Int):PV:=.tup [.str p.1,.int p.2]
theorem tQ {p q:Str×Int} (h:pv p=pv q):p=q:=by
 obtain ⟨a,b⟩:=p;obtain ⟨c,d⟩:=q;simp [pv] at h;simp [h]
theorem Ew (S:Seen):sv S=.tup (S.map pv):=rfl
theorem Gw (one:Seen) (p:Str×Int) (n1:(one.map (·.1)).Nodup) (hl:one.length<=20) (h:PH) (Q:PV->PH->Prop)
  (k:∀ S h',Ext h h'->Asc S->S.length<=21->(∀ x,look S x=mx (look [p] x) (look one x))->Q (sv S) h'):(mQ [sv one,pv p] h).W Q:=by
 refine dZ ?_;simp [tL];exact Ka one [p] n1 (by simp) (by simp; omega) _ _ fun S h' hx aS hS lk=>k S h' hx aS (by simp at hS; omega) lk
def lU (hs:List Str) (c:List Int) (x:Str):Option Int:=if x∈hs/\0 < c.getD (hs.idxOf x) 0 then some (c.getD (hs.idxOf x) 0) else none
structure gZ (hs:List Str) (c:List Int) (S:Seen):Prop where
 asc:Asc S
 lk:∀ x,look S x=lU hs c x
theorem gZ.len {hs:List Str} {c:List Int} {S:Seen} (a:gZ hs c S):S.length<=hs.length:=by
 have nS:=jA a.asc;have:=iu nS (l₂:=hs) fun x hx=>by
  obtain ⟨p,hp,rfl⟩:=au.mp hx;have e:=lQ nS hp;rw [a.lk] at e;unfold lU at e;split at e
  ·rename_i z; exact z.1
  ·cases e
 rwa [ae] at this
def prs (hs:List Str) (c:List Int) (k:Nat):Option (Str×Int):=if 0 < c.getD k 0 then some (hs.getD k "",c.getD k 0) else none
theorem Ro {hs:List Str} {c:List Int} (nd:hs.Nodup) {x:Str} {n:Int}:(x,n)∈(ba hs.length).filterMap (prs hs c) ↔ lU hs c x=some n:=by
 rw [List.mem_filterMap];unfold lU prs;constructor
 ·rintro ⟨k,hk,e⟩;have hk:=ip.mp hk;split at e
  ·rename_i hp;have e:=bg e;have e1:hs.getD k "" = x:=congrArg ix e;have e2:c.getD k 0=n:=congrArg Prod.snd e;have e3:hs.getD k "" = hs[k]:=by simp [hk]
   rw [e3] at e1;have hi:hs.idxOf x=k:=by rw [<- e1]; exact List.Nodup.idxOf_getElem nd k hk
   have hm:x∈hs:=by rw [<- e1]; exact e9 hk
   rw [hi,if_pos ⟨hm,hp⟩,e2]
  ·cases e
 ·intro e;split at e
  ·rename_i hp;have hi:=gj.mpr hp.1;refine ⟨hs.idxOf x,ip.mpr hi,?_⟩;rw [if_pos hp.2];have e3:hs.getD (hs.idxOf x) "" = x:=by simp [hi]
   rw [e3,bg e]
  ·cases e
theorem V6 {hs:List Str} {c:List Int} (nd:hs.Nodup):(((ba hs.length).filterMap (prs hs c)).map (·.1)).Nodup:=by
 have sub:(((ba hs.length).filterMap (prs hs c)).map (·.1)).Sublist ((ba hs.length).map fun k=>hs.getD k ""):=by
  generalize ba hs.length=ks
  induction ks with
  | nil=>simp
  | cons k ks ih=>
   rw [d4];unfold prs;split
   ·rename_i e;exact (List.Sublist.cons _ ih)
   ·rename_i b e;split at e
    ·cases e
     rw [a9,a9];exact ih.cons_cons _
    ·cases e
 have e:(ba hs.length).map (fun k=>hs.getD k "")=hs:=by
  apply List.ext_getElem
  ·simp
  ·intro i h1 h2;simp [h2]
 rw [e] at sub;exact sub.nodup nd
theorem Rp {hs:List Str} (nd:hs.Nodup) (h6:hs.length<=6) {c:List Int} (lc:c.length=hs.length) {lh l:Nat} {h:PH} (gh:h[lh]?=some (.lst (hs.map PV.str))) (gc:h[l]?=some (.lst (c.map PV.int))) (Q:PV->PH->Prop) (k:∀ S h',Ext h h'->gZ hs c S->Q (sv S) h'):(yN [.ref lh,.ref l] h).W Q:=by
 refine dZ ?_;unfold Gs;have hlv:=gP gh;rw [ae] at hlv;have hc:=xV (js:=[none,some 0,some 1]) (tg:=gN 0) (tst:=bT (aD vGt (aD vAt (mV 2) (mV 0)) (mC (.int 0)))) (elt:=hW (aB (aD vAt (mV 1) (mV 0)) (aB (aD vAt (mV 2) (mV 0)) aH))) (δ:=[some (.ref lh),some (.ref l)]) (h:=h) (h1:=h) (ms:=aB (mCB fG (aB (mV 0) aH)) aH) (j:=(hs.length:Int))
  (fun k=>(prs hs c k).map pv) (by simp [hlv]) (by omega) (fun i hi=>⟨[some (.int (i:Int)),some (.ref lh),some (.ref l)],by simp [bW],fun h' x'=>by
   have hi':i < hs.length:=by omega
   have e1:atI (hs.map PV.str) (i:Int)=some (.str (hs.getD i "")):=dQ (by rw [aq]; simp [hi']);have e2:atI (c.map PV.int) (i:Int)=some (.int (c.getD i 0)):=dQ (by rw [aq]; simp [lc,hi']);have v1:vIx (.ref lh) (.int (i:Int)) h'=.ok (.str (hs.getD i "")) h':=by rw [cF (x' _ _ gh),e1]; rfl
   have v2:vIx (.ref l) (.int (i:Int)) h'=.ok (.int (c.getD i 0)) h':=by rw [cF (x' _ _ gc),e2]; rfl
   unfold prs;generalize c.getD i 0=cv at v2;generalize hs.getD i "" = hv at v1
   by_cases hp:0 < cv
   ·simp [hp,v1,v2,pv]
   ·simp [hp,v2]⟩)
 have e0:(ba ((hs.length:Int)).toNat).filterMap (fun k=>(prs hs c k).map pv)=(((ba hs.length).filterMap (prs hs c)).map row).map tP:=by
  rw [bp,i9];generalize ba hs.length=ks
  induction ks with
  | nil=>rfl
  | cons k ks ih=>
   rw [d4,d4,ih];cases prs hs c k <;> rfl
 rw [e0] at hc;have nP:=V6 (c:=c) nd;have hm:=fun x n=>Ro (c:=c) nd (x:=x) (n:=n);have lP:((ba hs.length).filterMap (prs hs c)).length<=hs.length:=by
  have:=List.length_filterMap_le (prs hs c) (ba hs.length);simpa using this
 generalize (ba hs.length).filterMap (prs hs c)=P at hc nP hm lP;obtain ⟨S,eS,pS,aS⟩:=vD nP;have gp:(h++[MO.lst ((P.map row).map tP)])[h.length]?=some (.lst ((P.map row).map tP)):=aJ;have hso:=Cj gp (by rw [ae]; omega) (Br P);rw [eS] at hso;have e3:∀ x:PH,(x++[MO.lst ((S.map row).map tP)])[x.length]?=some (.lst ((S.map row).map tP)):=fun x=>aJ;rw [show List.map some [PV.ref lh,PV.ref l]++cx (2 - [PV.ref lh,PV.ref l].length) none=[some (.ref lh),some (.ref l)] from rfl,qE,sW,gO,sW,gO]
 simp only [hc,Rs.bind_ok,qF,hso,Bs (e3 _),hZ];refine k S _ ((Ext.app _ _).trans (Ext.app _ _)) ⟨aS,fun x=>?_⟩;cases e:lU hs c x with
 | some n=>exact lQ (jA aS) (p:=(x,n)) (pS.mem_iff.mpr ((hm x n).mpr e))
 | none=>
  cases e2:look S x with
  | none=>rfl
  | some m=>
   have:=(hm x m).mp (pS.mem_iff.mp (yW e2));rw [e] at this;cases this
theorem Kc {hs:List Str} {c:List Int} {w:Nat} (nd:hs.Nodup) (lc:c.length=hs.length) (hw:w < hs.length) {n:Int} (hn:c.getD w 0=n) (h0:0<=n) {S T:Seen} (a:gZ hs c S) (aT:Asc T) (lT:∀ x,look T x=mx (look [(hs.getD w "",n+1)] x) (look S x)):gZ hs (c.set w (n+1)) T:=by
 refine ⟨aT,fun x=>?_⟩;rw [lT x,a.lk x];have ew:hs.getD w "" = hs[w]:=by simp [hw]
 rw [ew,fQ]
 by_cases e:hs[w]=x
 ·have hi:hs.idxOf x=w:=by rw [<- e]; exact List.Nodup.idxOf_getElem nd w hw
  have hm:x∈hs:=by rw [<- e]; exact e9 hw
  rw [if_pos e];have e2:(c.set w (n+1)).getD w 0=n+1:=by simp [lc,hw]
  have R:lU hs (c.set w (n+1)) x=some (n+1):=by
   unfold lU;rw [hi,e2,if_pos ⟨hm,by omega⟩]
  rw [R];unfold lU;rw [hi,hn]
  by_cases hp:0 < n
  ·rw [if_pos ⟨hm,hp⟩];simp only [mx];rw [if_neg (show ¬ (n > n+1) by omega)]
  ·rw [if_neg (fun z=>hp z.2)];rfl
 ·rw [if_neg e];have hne:x∈hs->hs.idxOf x≠w:=fun hm z=>e (by
   have:=List.getElem_idxOf (gj.mpr hm);simp only [z] at this;exact this)
  unfold lU
  by_cases hm:x∈hs
  ·have e2:(c.set w (n+1)).getD (hs.idxOf x) 0=c.getD (hs.idxOf x) 0:=by
    simp [a8 (jx (hne hm))]
   rw [e2];rfl
  ·rw [if_neg (fun z=>hm z.1),if_neg (fun z=>hm z.1)];rfl
inductive Ac where
 | settle
 | back (a b:Int)
 | add (n:Int)
def acV:Ac->PV
 | .settle=>.tup [.str "settle"]
 | .back a b=>.tup [.str "back",.int a,.int b]
 | .add n=>.tup [.str "add",.tup [.str "t",.int 1],.int n]
def acS:Ac->Str
 | .settle=>"settle"
 | .back _ _=>"back"
 | .add _=>"add"
def acB:Ac->Bool
 | .settle=>true
 | _=>false
theorem ac0 (a:Ac) (h:PH):vIx (acV a) (.int 0) h=.ok (.str (acS a)) h:=by cases a <;> simp [acV,acS]
theorem YL (a:Ac):decide (acS a="settle")=acB a:=by
 have n1:¬ ("back" : Str)="settle" := by decide +kernel
 have n2:¬ ("add" : Str)="settle" := by decide +kernel
 cases a with
 | settle=>exact decide_eq_true rfl
 | back a b=>exact decide_eq_false n1
 | add n=>exact decide_eq_false n2
structure De where
 nm:Str×Int
 sn:Seen
 ac:Ac
def deV (d:De):PV:=.tup [pv d.nm,sv d.sn,acV d.ac]
theorem de0 (d:De) (h:PH):vIx (deV d) (.int 0) h=.ok (pv d.nm) h:=by unfold deV; simp
theorem de1 (d:De) (h:PH):vIx (deV d) (.int 1) h=.ok (sv d.sn) h:=by unfold deV; simp
theorem de2 (d:De) (h:PH):vIx (deV d) (.int 2) h=.ok (acV d.ac) h:=by unfold deV; simp
theorem pv0 (p:Str×Int) (h:PH):vIx (pv p) (.int 0) h=.ok (.str p.1) h:=by unfold pv; simp
theorem pv1 (p:Str×Int) (h:PH):vIx (pv p) (.int 1) h=.ok (.int p.2) h:=by unfold pv; simp
theorem NR (d:De):(deV d).pl 39=true:=by
 show [pv d.nm,sv d.sn,acV d.ac].all (PV.pl 38)=true
 have e1:(sv d.sn).pl 38=true:=by
  rw [Ew]
  show (d.sn.map pv).all (PV.pl 37)=true
  rw [List.all_map];exact bu.mpr fun y _=>rfl
 have e2:(acV d.ac).pl 38=true:=by cases d.ac <;> rfl
 have e0:(pv d.nm).pl 38=true:=rfl;simp [e0,e1,e2]
theorem CB (ds:List De):(ds.map deV).all (PV.pl 39)=true:=by
 rw [List.all_map];exact bu.mpr fun d _=>NR d
theorem Ke (d:De) (h:PH):cY [deV d] h=.ok (.int d.nm.2) h:=by
 have w:(cY [deV d] h).W fun q h'=>q=.int d.nm.2/\h'=h:=by
  refine dZ ?_;simp [lO,de0,pv1]
 obtain ⟨q,h',e,rfl,rfl⟩:=Ah w;exact e
def Rq (d:De):Int:=1+(d.sn.map (·.2)).sum
theorem NS (d:De) (ld:d.sn.length<=1000) (h:PH) (Q:PV->PH->Prop) (k:∀ h',Ext h h'->Q (.int (Rq d)) h'):(iI [deV d] h).W Q:=by
 refine dZ ?_;unfold rC;have hc:=sZ (m:=aD vAt (mV 0) (mC (.int 1))) (js:=[none]) (tg:=gN 0) (tst:=dS) (elt:=aD vAt (mV 0) (mC (.int 1))) (δ:=[some (deV d)]) (h:=h) (h1:=h) (ys:=d.sn) (emb:=pv)
  (fun p=>some (.int p.2)) (by simp [de1,Ew]) (by omega) (fun p _=>⟨[some (pv p)],by simp [bW],fun h' _=>⟨rfl,by simp [pv1]⟩⟩)
 rw [filterMap_some (fun p:Str×Int=>PV.int p.2) d.sn] at hc;have g1:(h++[MO.lst (d.sn.map fun p=>PV.int p.2)])[h.length]?=some (.lst ((d.sn.map (·.2)).map PV.int)):=by rw [bp]; exact aJ
 have x1:Ext h (h++[MO.lst (d.sn.map fun p=>PV.int p.2)]):=Ext.app _ _;generalize h++[MO.lst (d.sn.map fun p=>PV.int p.2)]=hA at hc g1 x1;have vs:=xU g1;rw [show List.map some [deV d]++cx (1 - [deV d].length) none=[some (deV d)] from rfl]
 simp [hc,vs];exact k _ x1
def mxD (o:Option De) (d:De):Option De:=match o with
 | some b=>if b.nm.2 < d.nm.2 then some d else some b
 | none=>some d
def maxD (ds:List De):Option De:=ds.foldl mxD none
theorem yX:∀ (ds:List De) (o:Option De),(ds.foldl mxD o=none ↔ o=none/\ds=[])/\∀ d,ds.foldl mxD o=some d->(o=some d\/d∈ds)/\(∀ b,o=some b->b.nm.2<=d.nm.2)/\∀ b∈ds,b.nm.2<=d.nm.2
 | [],o=>⟨by simp,fun d e=>⟨.inl e,fun b eb=>by rw [List.foldl_nil] at e; rw [e] at eb; cases eb; exact mm _,fun b hb=>by simp at hb⟩⟩
 | x :: ds,o=>by
  obtain ⟨a,b⟩:=yX ds (mxD o x);have ne:mxD o x≠none:=by unfold mxD; split <;> (try split) <;> simp
  refine ⟨⟨fun e=>absurd (a.mp e).1 ne,fun e=>by simp at e⟩,fun d e=>?_⟩;obtain ⟨h1,h2,h3⟩:=b d e;have le:∀ y,mxD o x=some y->x.nm.2<=y.nm.2/\(∀ b,o=some b->b.nm.2<=y.nm.2)/\(o=some y\/y=x):=fun y ey=>by
   unfold mxD at ey;cases o with
   | none=>cases ey; exact ⟨mm _,fun b eb=>(by cases eb),.inr rfl⟩
   | some b=>
    simp only at ey;split at ey
    ·rename_i hlt;cases ey
     exact ⟨mm _,fun b' eb=>by cases eb; omega,.inr rfl⟩
    ·rename_i hge;cases ey
     exact ⟨by omega,fun b' eb=>by cases eb; exact mm _,.inl rfl⟩
  obtain ⟨y,ey⟩:=Option.ne_none_iff_exists'.mp ne;obtain ⟨l1,l2,l3⟩:=le y ey;have ly:=h2 y ey;refine ⟨?_,fun b eb=>Int.le_trans (l2 b eb) ly,fun b hb=>?_⟩
  ·rcases h1 with h1 | h1
   ·rw [ey] at h1;cases h1
    rcases l3 with l3 | l3
    ·exact .inl l3
    ·exact .inr (by rw [l3]; exact ak)
   ·exact .inr (aj _ h1)
  ·rcases a7.mp hb with rfl | hb
   ·exact Int.le_trans l1 ly
   ·exact h3 b hb
theorem Kf {ds:List De}:maxD ds=none ↔ ds=[]:=by
 have:=(yX ds none).1;unfold maxD;simpa using this
theorem Bt {ds:List De} {d:De} (h:maxD ds=some d):d∈ds/\∀ b∈ds,b.nm.2<=d.nm.2:=by
 obtain ⟨a,_,c⟩:=(yX ds none).2 d h;exact ⟨a.resolve_left (by simp),c⟩
theorem Ex {n:Nat} {h:PH} {xs:List PV} (g:h[n]?=some (.lst xs)):∀ (ds:List De) (o:Option De),dW cY n xs (ds.map deV) (o.map fun d=>(deV d,d.nm.2)) h=.ok (match ds.foldl mxD o with | some d=>deV d | none=>.non) h
 | [],o=>by
  have e3:nE n xs h=true:=cT g h (Ext.refl h);unfold dW;rw [List.map_nil];simp only [e3,if_true,List.foldl_nil];cases o <;> rfl
 | d :: ds,o=>by
  have e3:nE n xs h=true:=cT g h (Ext.refl h);rw [a9];unfold dW;rw [if_pos e3,Ke,Rs.bind_ok];have e4:Er (o.map fun d=>(deV d,d.nm.2)) (deV d) d.nm.2=(mxD o d).map fun d=>(deV d,d.nm.2):=by
   cases o with
   | none=>rfl
   | some b=>
    show (if b.nm.2 < d.nm.2 then _ else _)=_
    unfold mxD;simp only;split <;> rfl
  simp only [e4];rw [Ex g ds (mxD o d)];rfl
theorem CC (x:Str):∀ ds:List De,ds.filterMap (fun d=>if d.nm.1=x then some (deV d) else none)=(ds.filter fun d=>decide (d.nm.1=x)).map deV
 | []=>rfl
 | y :: rs=>by
  rw [d4,List.filter_cons]
  by_cases e:y.nm.1=x
  ·simp [e,CC x rs]
  ·simp [e,CC x rs]
def rK (o:Option De):PV:=match o with | some d=>deV d | none=>.non
theorem IY (x:Str) {ds:List De} (l1:ds.length<=1000) {l:Nat} {h:PH} (g:h[l]?=some (.lst (ds.map deV))) (Q:PV->PH->Prop) (k:∀ h',Ext h h'->Q (rK (maxD (ds.filter fun d=>decide (d.nm.1=x)))) h'):(iX [.str x,.ref l] h).W Q:=by
 refine dZ ?_;unfold tK;have hc:=cU (m:=mV 1) (n:=l) (js:=[none,some 0]) (tg:=gN 0) (tst:=bT (aD vEq (aD vAt (aD vAt (mV 0) (mC (.int 0))) (mC (.int 0))) (mV 1))) (elt:=mV 0) (δ:=[some (.str x),some (.ref l)]) (h:=h) (h1:=h) (ys:=ds) (emb:=deV)
  (fun d=>if d.nm.1=x then some (deV d) else none) (by simp) g (by omega) (fun d _=>⟨[some (deV d),some (.str x)],by simp [bW],fun h' _=>by
   by_cases e:d.nm.1=x
   ·simp [de0,pv0,e]
   ·simp [de0,pv0,e]⟩)
 have em:=CC x ds;rw [em] at hc;generalize ds.filter (fun d=>decide (d.nm.1=x))=fs at hc k;have g1:(h++[MO.lst (fs.map deV)])[h.length]?=some (.lst (fs.map deV)):=aJ;have x1:Ext h (h++[MO.lst (fs.map deV)]):=Ext.app _ _;generalize h++[MO.lst (fs.map deV)]=hA at hc g1 x1;have e1:aN hA h.length=some (fs.map deV):=by simp [aN,g1]
 have vm:Bk cY (.ref h.length) hA=.ok (rK (maxD fs)) hA:=by
  unfold Bk;simp only [e1];exact Ex g1 fs none
 rw [show List.map some [PV.str x,PV.ref l]++cx (2 - [PV.str x,PV.ref l].length) none=[some (.str x),some (.ref l)] from rfl,qE]
 unfold IT;rw [hc,Rs.bind_ok,vm,hZ];exact k _ x1
structure Row where
 d:De
 c:List Int
 r:Nat
def rwV (z:Row):PV:=.tup [deV z.d,.ref z.r]
structure dX (hs:List Str) (z:Row):Prop where
 len:z.c.length=hs.length
 ex:∃ w c0,w < hs.length/\c0.length=hs.length/\0<=c0.getD w 0/\z.c=c0.set w (c0.getD w 0+1)/\z.d.nm=(hs.getD w "",c0.getD w 0+1)/\gZ hs c0 z.d.sn
def RAt (h:PH) (l:Nat) (R:List Row):Prop:=h[l]?=some (.lst (R.map rwV))/\∀ z∈R,h[z.r]?=some (.lst (z.c.map PV.int))
theorem RAt.ext {h h':PH} {l:Nat} {R:List Row} (t:RAt h l R) (x:Ext h h'):RAt h' l R:=⟨x _ _ t.1,fun z hz=>x _ _ (t.2 z hz)⟩
def Inc (R:List Row):Prop:=R.Pairwise fun a b=>a.d.nm.1=b.d.nm.1->a.d.nm.2 < b.d.nm.2
theorem Rr {F:List De} (pw:F.Pairwise fun a b=>a.nm.2 < b.nm.2) {d e:De} (hd:d∈F) (he:F.getLast?=some e):d=e\/d.nm.2 < e.nm.2:=by
 obtain ⟨F',rfl⟩:=List.getLast?_eq_some_iff.mp he;rcases bj.mp hd with h | h
 ·exact .inr ((List.pairwise_append.mp pw).2.2 d h e (by simp))
 ·simp at h; exact .inl h
theorem last_eq {R:List Row} (inc:Inc R) {T:List De} (mem:∀ d,d∈T ↔ d∈R.map (·.d)) (p:De->Bool) (x:Str) (hp:∀ d,p d=true->d.nm.1=x):maxD (T.filter p)=((R.map (·.d)).filter p).getLast?:=by
 have pw:((R.map (·.d)).filter p).Pairwise fun a b=>a.nm.2 < b.nm.2:=by
  rw [List.pairwise_filter,c8];exact inc.imp fun {a b} h ha hb=>h ((hp _ ha).trans (hp _ hb).symm)
 have mem':∀ d,d∈T.filter p ↔ d∈(R.map (·.d)).filter p:=fun d=>by rw [de,de,mem]
 generalize (R.map (·.d)).filter p=F at pw mem';generalize T.filter p=G at mem';cases e:maxD G with
 | none=>
  have eG:=Kf.mp e;subst eG;have:F=[]:=List.eq_nil_iff_forall_not_mem.mpr fun d hd=>by have:=(mem' d).mpr hd; simp at this
  rw [this]; rfl
 | some d=>
  obtain ⟨h1,h2⟩:=Bt e;have hF:=(mem' d).mp h1;cases e2:F.getLast? with
  | none=>
   rw [List.getLast?_eq_none_iff.mp e2] at hF;simp at hF
  | some b=>
   rcases Rr pw hF e2 with z | z
   ·rw [z]
   ·have:=h2 b ((mem' b).mpr (List.mem_of_getLast? e2));omega
def hB (x:Str) (d:De):Bool:=decide (d.nm.1=x)
def NT (hs:List Str) (R:List Row) (x:Str) (v:PV):Prop:=match (R.filter fun z=>hB x z.d).getLast? with
 | none=>v=.tup []
 | some z=>∃ S,v=sv S/\gZ hs z.c S
theorem NU {hs:List Str} (nd:hs.Nodup) (h6:hs.length<=6) {R:List Row} (inc:Inc R) (ok:∀ z∈R,dX hs z) {T:List De} (lT:T.length<=1000) (mem:∀ d,d∈T ↔ d∈R.map (·.d)) (x:Str) {l:Nat} {h:PH} (g:h[l]?=some (.lst (T.map deV))) (Q:PV->PH->Prop) (k:∀ v h',Ext h h'->NT hs R x v->Q v h'):(vY [.str x,.ref l] h).W Q:=by
 refine dZ ?_;unfold Cv;rw [aL];simp;refine IY x lT g _ fun h1 x1=>?_;have le:=last_eq inc mem (hB x) x (fun d hd=>by simpa [hB] using hd)
 have le:maxD (T.filter fun d=>decide (d.nm.1=x))=((R.map (·.d)).filter (hB x)).getLast?:=le;rw [le];have ef:((R.map (·.d)).filter (hB x)).getLast?=((R.filter fun z=>hB x z.d).getLast?).map (·.d):=by
  rw [List.filter_map,List.getLast?_map];rfl
 rw [ef];unfold NT at k;cases e:(R.filter fun z=>hB x z.d).getLast? with
 | none=>
  rw [e] at k;refine now ?_;simp [rK];exact k _ _ x1 rfl
 | some z=>
  rw [e] at k;have hz:=(de.mp (List.mem_of_getLast? e)).1;obtain ⟨lz,w,c0,hw,lc,h0,ec,en,sn⟩:=ok z hz;refine now ?_;have nn:∀ h,vIs (deV z.d) .non h=.ok (.bl false) h:=fun h=>by unfold deV; simp
  simp [rK,nn,de0,de1];refine Gw z.d.sn z.d.nm (jA sn.asc) (by have:=sn.len; omega) _ _ fun S h2 x2 aS lS lk=>?_;refine k _ _ (x1.trans x2) ⟨S,rfl,?_⟩;rw [ec];refine Kc nd lc hw rfl h0 sn aS fun y=>?_;rw [lk y,en]
theorem CD {δ:Ev} {h h1:PH} {js:List (Option Nat)} {tg:Mg} {elt:Me} {g:PH->Bool} {mi:Mi} {xs:List PV} {Q:PV->PH->Prop} (P:Nat->PV->Prop) (e:mi δ h=.ok ⟨xs,g⟩ h1) (hg:∀ h,Ext h1 h->g h=true) (hz:xs.length<=16777216)
  (step:∀ i x,xs[i]?=some x->∃ δ1,tg x (bW js δ)=some δ1/\∀ h,Ext h1 h->∀ Q:PV->PH->Prop,(∀ v h',Ext h h'->P i v->Q v h')->(elt δ1 h).W Q)
  (k:∀ l h' (vs:List PV),Ext h1 h'->h1.length<=l->vs.length=xs.length->h'[l]?=some (.lst vs)->(∀ i v,vs[i]?=some v->P i v)->Q (.ref l) h'):(bF js mi tg dS elt δ h).W Q:=by
 unfold bF;rw [e,Rs.bind_ok];refine qL (fun i h'=>Ext h1 h'/\∃ vs:List PV,vs.length=i/\h'[h1.length]?=some (.lst vs)/\∀ i v,vs[i]?=some v->P i v) xs 0 _ ⟨Ext.app _ _,[],rfl,by simp,fun i v hv=>by simp at hv⟩ (fun i x h' _ hx hi=>?_) (fun h' hi=>?_)
 ·obtain ⟨x1,vs,lv,g1,ov⟩:=hi;have hx:xs[i]?=some x:=by simpa using hx
  have hil:=(ab.mp hx).1;obtain ⟨δ1,ht,hs⟩:=step i x hx;refine ⟨hg _ x1,δ1,ht,?_⟩;have hY:dS δ1 h'=.ok true h':=rfl;rw [hY,hZ,if_pos rfl];refine hs h' x1 _ fun v h2 x2 pv=>?_;refine ⟨_,x2 _ _ g1,by omega,(x1.trans x2).setN (ao _),vs++[v],by simp [lv],dI (x2 _ _ g1),fun j w hw=>?_⟩;rcases Nat.lt_trichotomy j vs.length with z | z | z
  ·rw [dm z] at hw;exact ov j w hw
  ·rw [z,fg (ao _),Nat.sub_self] at hw;cases hw
   rw [z,lv];exact pv
  ·rw [fg (by omega)] at hw;have:=(ab.mp hw).1;simp at this;omega
 ·obtain ⟨x1,vs,lv,g1,ov⟩:=hi;rw [Nat.zero_add] at lv;exact ⟨hg _ x1,k _ _ vs x1 (ao _) lv g1 ov⟩
def stV (o:Option De):Int:=match o with | some d=>Rq d | none=>0
theorem Bu:∀ ds:List De,ds.filterMap (fun d=>if acB d.ac=true then some (deV d) else none)=(ds.filter fun d=>acB d.ac).map deV
 | []=>rfl
 | y :: rs=>by
  rw [d4,List.filter_cons];cases e:acB y.ac <;> simp [Bu rs]
theorem NV {α:Type} {hs:List α} {vs:List PV} (f:α->PV) (lv:vs.length=hs.length) (ov:∀ (i:Nat) (v:PV),vs[i]?=some v->∃ x,hs[i]?=some x/\v=f x):vs=hs.map f:=by
 apply gd;intro i;rw [aq];cases e:vs[i]? with
 | none=>
  have:hs.length<=i:=by rw [<- lv]; exact j3.mp e
  rw [mf this]; rfl
 | some v=>
  obtain ⟨x,hx,rfl⟩:=ov i v e;rw [hx]; rfl
theorem yY {hs:List Str} (h0:hs≠[]) (h6:hs.length<=6) {T:List De} (lT:T.length<=1000) (ls:∀ d∈T,d.sn.length<=1000) {lh l:Nat} {h:PH} (gh:h[lh]?=some (.lst (hs.map PV.str))) (g:h[l]?=some (.lst (T.map deV))) (Q:PV->PH->Prop)
  (k:∀ h',Ext h h'->Q (.int (lM (hs.map fun x=>stV (maxD ((T.filter fun d=>acB d.ac).filter fun d=>decide (d.nm.1=x)))))) h'):(mO [.ref lh,.ref l] h).W Q:=by
 refine dZ ?_;unfold Cu;have hc:=cU (m:=mV 1) (n:=l) (js:=[none]) (tg:=gN 0) (tst:=bT (aD vEq (aD vAt (aD vAt (mV 0) (mC (.int 2))) (mC (.int 0))) (mC (.str "settle")))) (elt:=mV 0) (δ:=[some (.ref lh),some (.ref l),none,none]) (h:=h) (h1:=h) (ys:=T) (emb:=deV)
  (fun d=>if acB d.ac=true then some (deV d) else none) (by simp) g (by omega) (fun d _=>⟨[some (deV d)],by simp [bW],fun h' _=>by
   have e:=YL d.ac;cases eb:acB d.ac with
   | true=>
    rw [eb] at e;have e:acS d.ac="settle" := of_decide_eq_true e;simp [de2,ac0,e]
   | false=>
    rw [eb] at e;have e:¬ acS d.ac="settle" := of_decide_eq_false e;simp [de2,ac0,e]⟩)
 rw [Bu T] at hc;have lst:(T.filter fun d=>acB d.ac).length<=1000:=df (jw _ _) lT;have lss:∀ d∈T.filter fun d=>acB d.ac,d.sn.length<=1000:=fun d hd=>ls d (de.mp hd).1;generalize (T.filter fun d=>acB d.ac)=Z at hc k lst lss;have x1:Ext h (h++[MO.lst (Z.map deV)]):=Ext.app _ _;have g1:(h++[MO.lst (Z.map deV)])[h.length]?=some (.lst (Z.map deV)):=aJ;rw [aL,show List.map some [PV.ref lh,PV.ref l]++cx (4 - [PV.ref lh,PV.ref l].length) none=[some (.ref lh),some (.ref l),none,none] from rfl]
 simp only [nL,hc,hZ,List.set_cons_succ,List.set_cons_zero];generalize h++[MO.lst (Z.map deV)]=hA at hc g1 x1;generalize h.length=lz at g1;clear hc;refine now ?_;rw [aL];simp only [nL];have gh1:=x1 _ _ gh;refine CD (h1:=hA) (xs:=hs.map PV.str) (g:=nE lh (hs.map PV.str)) (fun i v=>∃ x,hs[i]?=some x/\v=rK (maxD (Z.filter fun d=>decide (d.nm.1=x)))) (dU (by simp) gh1) (cT gh1) (by rw [ae]; omega) (fun i x hx=>?_) fun l3 hC vs xC bC lv gC ov=>?_
 ·rw [aq] at hx;obtain ⟨y,hy,rfl⟩:=bf.mp hx;refine ⟨[some (.str y),some (.ref lz)],by simp [bW],fun h2 x2 Q k2=>?_⟩;simp;exact IY y lst (x2 _ _ g1) _ fun h3 x3=>k2 _ h3 x3 ⟨y,hy,rfl⟩
 rw [ae] at lv;have ev:=NV _ lv ov;subst ev;simp only [List.set_cons_succ,List.set_cons_zero];clear ov lv;refine now ?_;simp only [qE,sW,gO,sV];refine CD (h1:=hC) (xs:=hs.map fun x=>rK (maxD (Z.filter fun d=>decide (d.nm.1=x)))) (g:=nE l3 _) (fun i v=>∃ x,hs[i]?=some x/\v=.int (stV (maxD (Z.filter fun d=>decide (d.nm.1=x))))) (dU (by simp) gC) (cT gC) (by rw [ae]; omega) (fun i x hx=>?_) fun l4 hD vs xD bD lv gD ov=>?_
 ·rw [aq] at hx;obtain ⟨y,hy,rfl⟩:=bf.mp hx;refine ⟨[some (rK (maxD (Z.filter fun d=>decide (d.nm.1=y))))],by simp [bW],fun h2 x2 Q k2=>?_⟩;cases e:maxD (Z.filter fun d=>decide (d.nm.1=y)) with
  | none=>
   simp [rK];exact k2 _ h2 (Ext.refl _) ⟨y,hy,by rw [e]; rfl⟩
  | some d=>
   have hd:=(de.mp (Bt e).1).1;have nn:∀ h,vIs (deV d) .non h=.ok (.bl false) h:=fun h=>by unfold deV; simp
   simp [rK,nn];exact NS d (lss d hd) h2 _ fun h3 x3=>k2 _ h3 x3 ⟨y,hy,by rw [e]; rfl⟩
 rw [ae] at lv;have ev:=NV _ lv ov;subst ev;have gD':hD[l4]?=some (.lst ((hs.map fun x=>stV (maxD (Z.filter fun d=>decide (d.nm.1=x)))).map PV.int)):=by rw [bp]; exact gD
 cases hs with
 | nil=>exact absurd rfl h0
 | cons a hs=>
  have vm:=K4 (a:=stV (maxD (Z.filter fun d=>decide (d.nm.1=a)))) (ns:=hs.map fun x=>stV (maxD (Z.filter fun d=>decide (d.nm.1=x)))) (n:=l4) (h:=hD) gD';simp only [qF,Rs.bind_ok,hZ,vm];exact k _ ((x1.trans xC).trans xD)
theorem BS {n d k:Nat} (h:k<=n):HT.sIx n d (some (k:Int))=k:=by
 show (if (k:Int) < 0 then ((k:Int)+(n:Int)).toNat else min (k:Int).toNat n)=k
 rw [if_neg (by omega)];omega
theorem NW {α:Type} {xs:List α} {n:Nat} (h:n<=xs.length):iU xs none (some (n:Int))=xs.take n:=by
 unfold iU;rw [BS h]
 show (xs.drop 0).take (n - 0)=_
 simp
theorem NX {α:Type} {xs:List α} {n:Nat} (h:n<=xs.length):iU xs (some (n:Int)) none=xs.drop n:=by
 unfold iU;rw [BS h]
 show (xs.drop n).take (xs.length - n)=_
 rw [List.take_of_length_le (by rw [List.length_drop]; omega)]
theorem Kg {h:PH} {n:Nat} {xs:List PV} (e:h[n]?=some (.lst xs)):onL sU (.ref n) [] h=.ok .non (h.set n (.lst [])):=by simp [onL,dB,e,sU]
theorem Kh {ds:List De} (l1:ds.length<=1000) {l:Nat} (c:Int) {h:PH} (g:h[l]?=some (.lst (ds.map deV))) (Q:PV->PH->Prop) (k:∀ (T:List De) (n:Nat) (h':PH),Ext h h'->h'[n]?=some (.lst (T.map deV))->(∀ d:De,d∈T ↔ d∈ds)->T.length<=ds.length+1->Q (.ref n) h'):(rB [.ref l,.int c] h).W Q:=by
 refine dZ ?_;unfold yO;rw [aL,uU];have xA:Ext h (h++[MO.lst []]):=Ext.app _ _;have ve:=qJ (xA _ _ g) (aJ (h:=h) (o:=MO.lst [])) (CB ds) rfl;have gA:=xA _ _ g
 by_cases e:ds=[]
 ·subst e;simp [ve];exact k [] _ _ (Ext.app _ _) (by have:=aJ (h:=h++[MO.lst []]) (o:=MO.lst []); simpa using this) (fun d=>n0) (by simp)
 ·have e':¬ ds.map deV=[]:=by simpa using e
  rw [decide_eq_false e'] at ve;simp [ve];generalize h++[MO.lst []]=hA at xA gA;clear ve;have hpos:0 < ds.length:=ji.mpr e;have hlv:=gP gA;rw [ae] at hlv;refine now ?_;rw [aL];simp (disch:=omega) [hlv];obtain ⟨a,ea,ha⟩:∃ a:Nat,c % (ds.length:Int)=a/\a < ds.length:=by
   have h1:=jj c (b:=(ds.length:Int)) (by omega);have h2:=jv c (b:=(ds.length:Int)) (by omega);exact ⟨(c % (ds.length:Int)).toNat,by omega,by omega⟩
  rw [ea];refine now ?_;have s1:vSl (.ref l) (some (a:Int)) none hA=.ok (.ref hA.length) (hA++[MO.lst ((ds.drop a).map deV)]):=by
   rw [IG gA]
   congr 4
   have:=NX (xs:=ds.map deV) (n:=a) (by rw [ae]; omega);rw [List.map_drop];exact this
  have x1:Ext hA (hA++[MO.lst ((ds.drop a).map deV)]):=Ext.app _ _;have g1:(hA++[MO.lst ((ds.drop a).map deV)])[hA.length]?=some (.lst ((ds.drop a).map deV)):=aJ;generalize hA++[MO.lst ((ds.drop a).map deV)]=hB at s1 x1 g1;have r1:=K1 g1;rw [<- List.map_reverse] at r1;have x2:Ext hB (hB++[MO.lst ((ds.drop a).reverse.map deV)]):=Ext.app _ _;have g2:(hB++[MO.lst ((ds.drop a).reverse.map deV)])[hB.length]?=some (.lst ((ds.drop a).reverse.map deV)):=aJ;generalize hB++[MO.lst ((ds.drop a).reverse.map deV)]=hC at r1 x2 g2;have gC:=x2 _ _ (x1 _ _ gA);have s2:vSl (.ref l) none (some (a:Int)) hC=.ok (.ref hC.length) (hC++[MO.lst ((ds.take a).map deV)]):=by
   rw [IG gC]
   congr 4
   have:=NW (xs:=ds.map deV) (n:=a) (by rw [ae]; omega);rw [List.map_take];exact this
  have x3:Ext hC (hC++[MO.lst ((ds.take a).map deV)]):=Ext.app _ _;have g3:(hC++[MO.lst ((ds.take a).map deV)])[hC.length]?=some (.lst ((ds.take a).map deV)):=aJ;generalize hC++[MO.lst ((ds.take a).map deV)]=hD at s2 x3 g3;have p1:=Bc (x3 _ _ g2) g3 (by simp; omega);rw [<- cw] at p1;have x4:Ext hD (hD++[MO.lst (((ds.drop a).reverse++ds.take a).map deV)]):=Ext.app _ _;have g4:(hD++[MO.lst (((ds.drop a).reverse++ds.take a).map deV)])[hD.length]?=some (.lst (((ds.drop a).reverse++ds.take a).map deV)):=aJ;generalize hD++[MO.lst (((ds.drop a).reverse++ds.take a).map deV)]=hE at p1 x4 g4;have gE:=x4 _ _ (x3 _ _ gC);obtain ⟨d0,e0⟩:∃ d0,ds[0]?=some d0:=⟨ds[0],dt hpos⟩;have v0:vIx (.ref l) (.int 0) hE=.ok (deV d0) hE:=by
   rw [cF gE,show atI (ds.map deV) 0=some (deV d0) from dQ (i:=0) (by rw [aq,e0]; rfl)]
   rfl
  have x5:Ext hE (hE++[MO.lst [deV d0]]):=Ext.app _ _;have g5:(hE++[MO.lst [deV d0]])[hE.length]?=some (.lst ([d0].map deV)):=aJ;have p2:=Bc (x5 _ _ g4) g5 (by simp; omega);rw [<- cw] at p2;simp only [qE,ID,UN,UP,QS,gO,qF,sV];simp [s1,r1,s2,p1,v0];rw [p2,hZ];refine k ((ds.drop a).reverse++ds.take a++[d0]) _ _ (xA.trans (x1.trans (x2.trans (x3.trans (x4.trans (x5.trans (Ext.app _ _))))))) aJ (fun d=>?_) (by simp; omega);have h0:d0∈ds:=cf e0;have hm:d∈ds ↔ d∈ds.take a\/d∈ds.drop a:=by rw [<- bj,List.take_append_drop]
  rw [bj,bj,List.mem_reverse,bc,hm];constructor
  ·rintro ((z | z) | z)
   ·exact .inr z
   ·exact .inl z
   ·exact hm.mp (z ▸ h0)
  ·rintro (z | z)
   ·exact .inl (.inr z)
   ·exact .inl (.inl z)
theorem NY:∀ ns:List Int,(∀ n∈ns,0<=n)->0<=ns.sum
 | [],_=>by simp
 | n :: ns,h=>by
  have h1:=h n ak;have h2:=NY ns fun m hm=>h m (aj _ hm);rw [List.sum_cons]; omega
theorem gZ.nn {hs:List Str} {c:List Int} {S:Seen} (a:gZ hs c S):0<=(S.map (·.2)).sum:=by
 refine NY _ fun n hn=>?_;obtain ⟨p,hp,rfl⟩:=au.mp hn;have e:=lQ (jA a.asc) hp;rw [a.lk] at e;unfold lU at e;split at e
 ·rename_i z;have:=bg e;omega
 ·cases e
theorem dX.sn {hs:List Str} {z:Row} (o:dX hs z):z.d.sn.length<=hs.length/\0<=Rq z.d:=by
 obtain ⟨w,c0,_,_,_,_,_,s⟩:=o.ex;have:=s.nn;exact ⟨s.len,by unfold Rq; omega⟩
theorem rN {h:PH} {n:Nat} {xs:List PV} (e:h[n]?=some (.lst xs)):qA [.ref n] h=.ok (.ref h.length) (h++[.lst xs]):=by simp [qA,aN,e]
theorem NZ {α:Type} {xs:List α} (nd:xs.Nodup) {i j:Nat} {a:α} (h1:xs[i]?=some a) (h2:xs[j]?=some a):i=j:=by
 obtain ⟨l1,e1⟩:=ab.mp h1;obtain ⟨l2,e2⟩:=ab.mp h2;have pw:=fb.mp nd;rcases Nat.lt_trichotomy i j with h | h | h
 ·exact absurd (e1.trans e2.symm) (pw i j l1 l2 h)
 ·exact h
 ·exact absurd (e2.trans e1.symm) (pw j i l2 l1 h)
theorem wB {δ:Ev} {h h1:PH} {js:List (Option Nat)} {tg:Mg} {elt:Me} {g:PH->Bool} {α:Type} {mi:Mi} {tst:Ev->PH->Rs Bool} {ys:List α} {emb:α->PV} {Q:PV->PH->Prop} (p:α->Bool) (f:α->PV) (e:mi δ h=.ok ⟨ys.map emb,g⟩ h1) (hg:∀ h,Ext h1 h->g h=true) (hz:ys.length<=16777216)
  (step:∀ y∈ys,∃ δ1,tg (emb y) (bW js δ)=some δ1/\(∀ h,Ext h1 h->∀ Q:Bool->PH->Prop,(∀ h',Ext h h'->Q (p y) h')->(tst δ1 h).W Q)/\∀ h,Ext h1 h->elt δ1 h=.ok (f y) h)
  (k:∀ l h',Ext h1 h'->h1.length<=l->h'[l]?=some (.lst ((ys.filter p).map f))->Q (.ref l) h'):(bF js mi tg tst elt δ h).W Q:=by
 unfold bF;rw [e,Rs.bind_ok];refine qL (fun i h'=>Ext h1 h'/\h'[h1.length]?=some (.lst (((ys.take i).filter p).map f))) (ys.map emb) 0 _ ⟨Ext.app _ _,by simp⟩ (fun i x h' _ hx hi=>?_) (fun h' hi=>?_)
 ·obtain ⟨x1,g1⟩:=hi;have hx:(ys.map emb)[i]?=some x:=by simpa using hx
  rw [aq] at hx;obtain ⟨y,hy,rfl⟩:=bf.mp hx;have hil:=(ab.mp hy).1;obtain ⟨δ1,ht,hs,he⟩:=step y (cf hy);have htk:ys.take (i+1)=ys.take i++[y]:=by rw [gg,hy]; rfl
  refine ⟨hg _ x1,δ1,ht,?_⟩;refine hs h' x1 _ fun h2 x2=>?_;cases ep:p y with
  | true=>
   rw [if_pos rfl,he h2 (x1.trans x2),hZ];refine ⟨_,x2 _ _ g1,?_,(x1.trans x2).setN (ao _),?_⟩
   ·have:=jw p (ys.take i);rw [ic] at this;rw [ae]; omega
   ·rw [dI (x2 _ _ g1),htk,List.filter_append,cw];simp [ep]
  | false=>
   rw [if_neg (by simp)];refine ⟨x1.trans x2,?_⟩;rw [x2 _ _ g1,htk,List.filter_append];simp [ep]
 ·obtain ⟨x1,g1⟩:=hi;refine ⟨hg _ x1,k _ _ x1 (ao _) ?_⟩;rw [Nat.zero_add,ae,ie] at g1;exact g1
theorem Rt {h hX:PH} {o:MO} (x:Ext h hX):Ext h (hX.set h.length o):=fun n o' e=>by
 have hn:=(ab.mp e).1;rw [a8 (by omega)];exact x n o' e
inductive Kd where
 | settle
 | back (f l:Int)
 | other
deriving DecidableEq
abbrev HD:=Int×Kd
def reach (b:HD) (n:Int):Bool:=match b.2 with
 | .back f l=>decide (f<=n/\n<=l)
 | _=>false
def hit (n:Int) (B:List HD):Option HD:=B.find? fun b=>reach b n
section
variable {α:Type} [DecidableEq α]
def run:List (α×HD)->(α->List HD)->List (α×HD×HD)
 | [],_=>[]
 | d :: L,B=>match d.2.2,hit d.2.1 (B d.1) with
  | .settle,_=>run L fun h=>if h=d.1 then [] else B h
  | _,some b=>(d.1,d.2,b) :: run L B
  | .back _ _,none=>run L fun h=>if h=d.1 then B h++[d.2] else B h
  | .other,none=>run L B
theorem O0 (d:α×HD) (L:List (α×HD)) (B:α->List HD):run (d :: L) B=match d.2.2,hit d.2.1 (B d.1) with
  | .settle,_=>run L fun h=>if h=d.1 then [] else B h
  | _,some b=>(d.1,d.2,b) :: run L B
  | .back _ _,none=>run L fun h=>if h=d.1 then B h++[d.2] else B h
  | .other,none=>run L B:=rfl
end
structure Dd where
 nm:Str×Int
 seen:Seen
 kd:Kd
 act:List PV
def dP (d:Dd):PV:=.tup [pv d.nm,sv d.seen,.tup d.act]
def word:Kd->Str
 | .settle=>"settle"
 | .back _ _=>"back"
 | .other=>"other"
def WfA:Kd->List PV->Prop
 | .settle,a=>a=[.str "settle"]
 | .back f l,a=>a=[.str "back",.int f,.int l]
 | .other,a=>∃ w r,a=.str w :: r/\w≠"settle" /\ w≠"back"
structure Wf (d:Dd):Prop where
 len:d.seen.length<=100
 act:WfA d.kd d.act
 pl:d.act.all (PV.pl 37)=true
def hdD (d:Dd):HD:=(d.nm.2,d.kd)
def tri (d:Dd):Str×HD:=(d.nm.1,hdD d)
def tot (S:Seen):Int:=(S.map (·.2)).sum
def kyL (d:Dd):List Key:=[.inl (1+tot d.seen),.inr d.nm.1,.inl d.nm.2]
theorem dP0 {d:Dd} {h:PH}:vIx (dP d) (.int 0) h=.ok (pv d.nm) h:=by unfold dP; simp
theorem dP1 {d:Dd} {h:PH}:vIx (dP d) (.int 1) h=.ok (sv d.seen) h:=by unfold dP; simp
theorem dP2 {d:Dd} {h:PH}:vIx (dP d) (.int 2) h=.ok (.tup d.act) h:=by unfold dP; simp
theorem To {p:Str×Int}:(PV.tup [.str p.1,.int p.2]).ky 6=true:=rfl
theorem tR (d:Dd) (hS:d.seen.length<=100) (h:PH) (Q:PV->PH->Prop) (k:∀ h',Ext h h'->Q (.int (1+tot d.seen)) h'):(iI [dP d] h).W Q:=by
 refine dZ ?_;have hc:=sZ (js:=[none]) (tg:=gN 0) (tst:=dS) (elt:=aD vAt (mV 0) (mC (.int 1))) (m:=aD vAt (mV 0) (mC (.int 1))) (δ:=[some (dP d)]) (h:=h) (h1:=h) (ys:=d.seen) (emb:=pv)
  (fun q=>some (.int q.2)) (by simp [dP1,Ew]) (by omega) (fun q hq=>⟨_,rfl,fun h3 _=>⟨rfl,by simp [bW,pv1]⟩⟩)
 have es:d.seen.filterMap (fun q=>some (PV.int q.2))=(d.seen.map (·.2)).map PV.int:=by rw [filterMap_some,bp]; rfl
 rw [es] at hc;have gs:(h++[MO.lst ((d.seen.map (·.2)).map PV.int)])[h.length]?=some (.lst ((d.seen.map (·.2)).map PV.int)):=aJ;change (rC [some (dP d)] h).W _;unfold rC;rw [qE,ID,WI,Rs.bind_ok,sW,gO,hc];simp only [Rs.bind_ok,qF,xU gs,JO,hZ];exact k _ (Ext.app _ _)
theorem Ru (d:Dd) (hS:d.seen.length<=100) (h:PH) (Q:PV->PH->Prop) (k:∀ h',Ext h h'->Q (tP (kyL d)) h'):(Cw [dP d] h).W Q:=by
 refine dZ ?_;unfold Gu;rw [aL];simp [dP0];refine ⟨[some (dP d),some (.str d.nm.1),some (.int d.nm.2)],by simp [pv],?_⟩;refine now ?_;simp;refine tR d hS _ _ fun h' hx=>?_
 try simp
 exact k h' hx
def ent (d:Dd):PV×PV:=(pv d.nm,dP d)
theorem Ey (p:Str×Int):∀ es:List Dd,(aX (es.map ent) (pv p)).isSome=true ↔ p∈es.map (·.nm)
 | []=>by simp [aX]
 | d :: es=>by
  rw [a9,a9,a7]
  show (aX ((pv d.nm,dP d) :: es.map ent) (pv p)).isSome=true ↔ _
  unfold aX
  by_cases e:d.nm=p
  ·rw [if_pos (by rw [e])]; simp [e]
  ·rw [if_neg (fun z=>e (tQ z)),Ey p es];constructor
   ·exact .inr
   ·rintro (z | z)
    ·exact (e z.symm).elim
    ·exact z
theorem Rv {es:List Dd} {d:Dd} (hu:∀ x∈es,x.nm=d.nm->x=d):dO (es.map ent) (pv d.nm) (dP d)=(if d.nm∈es.map (·.nm) then es else es++[d]).map ent:=by
 unfold dO;have hl:=Ey d.nm es
 by_cases e:d.nm∈es.map (·.nm)
 ·rw [if_pos e,if_pos (hl.mpr e),bp];apply dn;intro x hx
  show (if (ent x).1=pv d.nm then ((ent x).1,dP d) else ent x)=ent x
  by_cases z:(ent x).1=pv d.nm
  ·rw [if_pos z];have:=hu x hx (tQ z);subst this;rfl
  ·rw [if_neg z]
 ·rw [if_neg e,if_neg (fun z=>e (hl.mp z)),cw];rfl
theorem Rw (xs:List Dd):nH (xs.map kyL)=true:=by
 cases xs with
 | nil=>rfl
 | cons a r=>
  rw [a9];unfold nH;rw [cq];refine ⟨rfl,bu.mpr fun z hz=>?_⟩;obtain ⟨q,_,rfl⟩:=au.mp hz;rfl
theorem Ez {β:Type} (f:Dd->β) (hf:∀ a b,f a=f b->a.nm=b.nm):∀ {xs:List Dd},(xs.map (·.nm)).Nodup->(xs.map f).Nodup:=fun {xs} h=>by
 unfold List.Nodup at*;rw [c8] at*;exact h.imp fun hne e=>hne (hf _ _ e)
theorem O1 (a b:Dd) (e:kyL a=kyL b):a.nm=b.nm:=by
 unfold kyL at e;simp at e;exact Prod.ext e.2.1 e.2.2
theorem lV {h hX:PH} {o:MO} {n:Nat} (x:Ext h hX) (hn:h.length<=n):Ext h (hX.set n o):=fun m o' e=>by
 have:=(ab.mp e).1;rw [a8 (by omega)];exact x m o' e
abbrev lW (os:List Dd):Prop:=os.Pairwise (fun a b=>bL (kyL b) (kyL a)=false)
theorem CF (U ds:List Dd) (hU:∀ d∈ds,d∈U) (hlU:U.length<=63) (hw:∀ d∈ds,Wf d) (hl:ds.length<=1000) (hu:∀ d∈ds,∀ e∈ds,d.nm=e.nm->d=e) (n:Nat) (h:PH) (g:h[n]?=some (.lst (ds.map dP))) (Q:PV->PH->Prop)
  (k:∀ os l h',Ext h h'->h.length<=l->h'[l]?=some (.lst (os.map dP))->(os.map (·.nm)).Nodup->(∀ d,d∈os ↔ d∈ds)->lW os->Q (.ref l) h'):(dJ [.ref n] h).W Q:=by
 refine dZ ?_;unfold oK;rw [aL];simp;have x0:Ext h (h++[MO.dK []]):=Ext.app _ _;have g0:cP (h++[MO.dK []]) h.length=some (([]:List Dd).map ent):=IM aJ;generalize h++[MO.dK []]=hA at x0 g0;refine now ?_;rw [aL];refine sX (n:=n) (xs:=ds.map dP) (h1:=hA) (fun q δ h'=>∃ es:List Dd,Ext h h'/\cP h' h.length=some (es.map ent)/\(es.map (·.nm)).Nodup/\(∀ d,d∈es ↔ d∈ds.take q)/\es.length<=q/\∃ x2,δ=[some (.ref n),some (.ref h.length),x2]) (by simp) (x0 _ _ g) ⟨[],x0,g0,by simp,by simp,by simp,_,rfl⟩ ?_ ?_ ?_
 ·rintro q δ h' hq ⟨es,x,_⟩;exact x _ _ g
 ·rintro q y δ h' hy ⟨es,x,t,nd,mem,le,x2,rfl⟩;rw [aq] at hy;obtain ⟨d,hd,rfl⟩:=bf.mp hy;have hq':q < ds.length:=(ab.mp hd).1;have htk:ds.take (q+1)=ds.take q++[d]:=by rw [gg,hd]; rfl
  have hin:d∈ds:=cf hd;have hes:∀ e∈es,e∈ds:=fun e he=>List.mem_of_mem_take ((mem e).mp he);refine ⟨_,rfl,?_⟩;have hp:vS (.ref h.length) (pv d.nm) (dP d) h'=some (h'.set h.length (.dD (dO (es.map ent) (pv d.nm) (dP d)))):=Nu t To (by rw [ae]; omega);rw [Rv fun e he z=>hu e (hes e he) d hin z] at hp;have hh:∃ o,h'[h.length]?=some o:=let ⟨o,g,_⟩:=gU t; ⟨o,g⟩;obtain ⟨o,ho⟩:=hh;unfold rE;simp [dP0];refine ⟨_,hp,Rt x,_,IP (dI ho),?_,?_,?_⟩
  ·split
   ·exact nd
   ·rename_i z;rw [cw,jd];refine ⟨nd,by simp,fun a ha b hb e=>?_⟩;rw [List.map_singleton,bc] at hb;subst hb e;exact z (by simpa using ha)
  ·intro e;rw [htk];split
   ·rename_i z;rw [mem e,bj,bc];constructor
    ·exact .inl
    ·rintro (z' | rfl)
     ·exact z'
     ·obtain ⟨e',he',en⟩:=au.mp (show e.nm∈es.map (·.nm) by simpa using z)
      have:=hu e' (hes e' he') e hin en;subst this;exact (mem e').mp he'
   ·rw [bj,bj,mem e]
  ·split
   ·omega
   ·simp; omega
 ·rintro δ h' ⟨es,x,t,nd,mem,le,x2,rfl⟩;have hle:es.length<=63:=by
   have h1:(es.map (·.nm)).length<=(U.map (·.nm)).length:=iu nd fun p hp=>by
    obtain ⟨d,hd,rfl⟩:=au.mp hp;exact au.mpr ⟨d,hU d (List.mem_of_mem_take ((mem d).mp hd)),rfl⟩
   simp at h1;omega
  obtain ⟨o,ho,hdc,_⟩:=gU t;refine now ?_;simp [hdc,Rc t];have x1:Ext h' (h'++[MO.vw 1 h.length]):=Ext.app _ _;have ei:eM (.ref h'.length) (h'++[MO.vw 1 h.length])=some (es.map dP):=by
   rw [Eg aJ (gW x1 t),bp];rfl
  generalize h'++[MO.vw 1 h.length]=h2 at x1 ei;have mem':∀ d,d∈es ↔ d∈ds:=fun d=>by rw [mem d,ae,ie]
  refine IR (key:=kyL) (emb:=dP) (S:=shape [.inl 0,.inr "",.inl 0]) ei (by omega) (Rw es) (fun _ _=>rfl) (Ez kyL O1 nd) (fun d hd h Q kk=>Ru d (hw d ((mem' d).mp hd)).len h Q kk) fun os h3 x3 hp ho=>?_;refine k os h3.length _ ((x.trans x1).trans (x3.trans (Ext.app _ _))) (df x.len (df x1.len x3.len)) aJ ((hp.map _).nodup_iff.mpr nd) (fun d=>(hp.mem_iff).trans (mem' d)) ho
theorem vE (ds:List Dd) (hw:∀ d∈ds,Wf d) (hl:ds.length<=63) (hu:∀ d∈ds,∀ e∈ds,d.nm=e.nm->d=e) (n:Nat) (h:PH) (g:h[n]?=some (.lst (ds.map dP))) (Q:PV->PH->Prop)
  (k:∀ os l h',Ext h h'->h'[l]?=some (.lst (os.map dP))->(os.map (·.nm)).Nodup->(∀ d,d∈os ↔ d∈ds)->lW os->Q (.ref l) h'):(dJ [.ref n] h).W Q:=by
 exact CF ds ds (fun _ h=>h) hl hw (by omega) hu n h g Q fun os l h' a _ b c d e=>k os l h' a b c d e
def lk {β:Type}:List (Str×β)->Str->Option β
 | [],_=>none
 | p :: r,w=>if p.1=w then some p.2 else lk r w
def dpt {β:Type} (R:List (Str×β)) (w:Str) (m:β):List (Str×β):=if (lk R w).isSome then R.map (fun p=>if p.1=w then (p.1,m) else p) else R++[(w,m)]
def em {β:Type} (f:β->PV) (R:List (Str×β)):List (Key×PV):=R.map fun p=>(.inr p.1,f p.2)
theorem IZ {β:Type} (f:β->PV) (w:Str):∀ R:List (Str×β),aX (em f R) (.inr w)=(lk R w).map f
 | []=>rfl
 | p :: r=>by
  show aX ((nk p.1,f p.2) :: em f r) (.inr w)=_
  unfold aX lk
  by_cases e:p.1=w
  ·rw [if_pos e,if_pos (by rw [e])]; rfl
  ·rw [if_neg e,if_neg (by simpa using e)]; exact IZ f w r
theorem Tp {β:Type} (f:β->PV) (R:List (Str×β)) (w:Str) (m:β):dO (em f R) (.inr w) (f m)=em f (dpt R w m):=by
 unfold dO dpt;rw [IZ];cases lk R w with
 | none=>simp [em]
 | some z=>
  simp only [Option.map_some,jo,if_true];unfold em;rw [bp,bp];apply dn;intro p _
  by_cases e:p.1=w
  ·simp [e]
  ·simp [e]
theorem O2 {β:Type} (w:Str) (m:β) (x:Str):∀ R:List (Str×β),lk (R.map fun p=>if p.1=w then (p.1,m) else p) x=if x=w then (lk R x).map (fun _=>m) else lk R x
 | []=>by simp [lk]
 | p :: r=>by
  rw [a9];have ih:=O2 w m x r
  by_cases e:p.1=w
  ·rw [if_pos e];unfold lk;dsimp only
   by_cases z:p.1=x
   ·rw [if_pos z,if_pos z,if_pos (z.symm.trans e)]; rfl
   ·rw [if_neg z,if_neg z,ih]
  ·rw [if_neg e];unfold lk
   by_cases z:p.1=x
   ·rw [if_pos z,if_pos z,if_neg (fun q=>e (z.trans q))]
   ·rw [if_neg z,if_neg z,ih]
theorem O3 {β:Type} (w:Str) (m:β) (x:Str):∀ R:List (Str×β),lk (R++[(w,m)]) x=match lk R x with | some y=>some y | none=>if x=w then some m else none
 | []=>by
  show (if w=x then some m else none)=if x=w then some m else none
  by_cases e:w=x
  ·rw [if_pos e,if_pos e.symm]
  ·rw [if_neg e,if_neg fun z=>e z.symm]
 | p :: r=>by
  rw [List.cons_append];unfold lk
  by_cases z:p.1=x
  ·rw [if_pos z,if_pos z]
  ·rw [if_neg z,if_neg z,O3 w m x r]
theorem Gx {β:Type} (R:List (Str×β)) (w:Str) (m:β) (x:Str):lk (dpt R w m) x=if x=w then some m else lk R x:=by
 unfold dpt;cases e:lk R w with
 | none=>
  rw [if_neg (by simp),O3]
  by_cases z:x=w
  ·subst z; rw [e,if_pos rfl]
  ·rw [if_neg z];cases lk R x <;> simp [z]
 | some y=>
  rw [if_pos (by simp),O2]
  by_cases z:x=w
  ·subst z; rw [if_pos rfl,if_pos rfl,e]; rfl
  ·rw [if_neg z,if_neg z]
theorem Rx {β:Type} {R:List (Str×β)} {w:Str} {m:β}:(dpt R w m).length<=R.length+1:=by
 unfold dpt;split <;> simp
def nmL (d:Dd):List Key:=[.inr d.nm.1,.inl d.nm.2]
theorem Ry (xs:List Dd):nH (xs.map nmL)=true:=by
 cases xs with
 | nil=>rfl
 | cons a r=>
  rw [a9];unfold nH;rw [cq];refine ⟨rfl,bu.mpr fun z hz=>?_⟩;obtain ⟨q,_,rfl⟩:=au.mp hz;rfl
theorem V7 (a b:Dd) (e:nmL a=nmL b):a.nm=b.nm:=by
 unfold nmL at e;simp at e;exact Prod.ext e.1 e.2
theorem Rz (d:Dd) (h:PH) (Q:PV->PH->Prop) (k:Q (pv d.nm) h):(iZ [dP d] h).W Q:=by
 refine dZ ?_;simp [tM,dP0];exact k
abbrev Gy (n:Int) (bs:List Dd):Option Dd:=bs.find? fun b=>reach (hdD b) n
theorem O4 (n:Int) (bs:List Dd) (hb:∀ b∈bs,Wf b/\∃ f l,b.kd=.back f l) (hz:bs.length<=100) (m:Nat) (h:PH) (g:h[m]?=some (.lst (bs.map dP))) (Q:PV->PH->Prop) (k:Q (match Gy n bs with | some b=>pv b.nm | none=>.non) h):(jV [.int n,.ref m] h).W Q:=by
 refine dZ ?_;unfold oO;rw [aL];refine sX (n:=m) (xs:=bs.map dP) (h1:=h) (fun q δ h'=>h'=h/\(∀ b∈bs.take q,reach (hdD b) n=false)/\∃ x2 x3 x4 x5,δ=[some (.int n),some (.ref m),x2,x3,x4,x5]) (by simp) g ⟨rfl,by simp,_,_,_,_,rfl⟩ ?_ ?_ ?_
 ·rintro q δ h' hq ⟨rfl,_⟩;exact g
 ·rintro q y δ h' hy ⟨rfl,nr,x2,x3,x4,x5,rfl⟩;rw [aq] at hy;obtain ⟨d,hd,rfl⟩:=bf.mp hy;have hq':q < bs.length:=(ab.mp hd).1;obtain ⟨wf,f,l,ek⟩:=hb d (cf hd);have ea:d.act=[.str "back",.int f,.int l]:=by
   have:=wf.act;rw [ek] at this;exact this
  have er:reach (hdD d) n=decide (f<=n/\n<=l):=by
   unfold reach
   show (match d.kd with | .back f l=>decide (f<=n/\n<=l) | _=>false)=_
   rw [ek]
  have split1:bs=bs.take q++d :: bs.drop (q+1):=by
   have e1:bs.drop q=d :: bs.drop (q+1):=drop_cons hd;rw [<- e1,List.take_append_drop]
  refine ⟨_,rfl,?_⟩;unfold rF;rw [aL];simp [dP2,ea];refine now ?_;simp [dP0];have fin:f<=n->n<=l->Q (pv d.nm) h':=fun h1 h2=>by
   have:Gy n bs=some d:=by
    unfold Gy;rw [split1,List.find?_append,List.find?_eq_none.mpr (fun b hb=>by rw [nr b hb]; decide),List.find?_cons_of_pos (by rw [show reach (hdD d) n=decide (f<=n/\n<=l) from er]; exact decide_eq_true ⟨h1,h2⟩)]
    rfl
   rw [this] at k;exact k
  have nxt:¬ (f<=n/\n<=l)->∀ b∈bs.take (q+1),reach (hdD b) n=false:=fun z b hb=>by
   rw [gg,hd,bj] at hb;rcases hb with hb | hb
   ·exact nr b hb
   ·rw [show (some d).toList=[d] from rfl,bc] at hb
    subst hb;rw [er];exact decide_eq_false z
  split
  ·rename_i z1;split
   ·rename_i z2; exact fin z1 z2
   ·rename_i z2; exact nxt fun z=>z2 z.2
  ·rename_i z1; exact nxt fun z=>z1 z.1
 ·rintro δ h' ⟨rfl,nr,x2,x3,x4,x5,rfl⟩;rw [ae,ie] at nr;have:Gy n bs=none:=List.find?_eq_none.mpr fun b hb=>by rw [nr b hb]; decide
  rw [this] at k;refine now ?_;simp;exact k
def tkE (x:Str×HD×HD):PV×PV:=(pv (x.1,x.2.1.1),pv (x.1,x.2.2.1))
theorem CG (p:Str×Int):∀ T:List (Str×HD×HD),(aX (T.map tkE) (pv p)).isSome=true ↔ ∃ x∈T,x.1=p.1/\x.2.1.1=p.2
 | []=>by simp [aX]
 | y :: T=>by
  rw [a9]
  show (aX ((pv (y.1,y.2.1.1),pv (y.1,y.2.2.1)) :: T.map tkE) (pv p)).isSome=true ↔ _
  unfold aX
  by_cases e:(y.1,y.2.1.1)=p
  ·rw [if_pos (by rw [e])];constructor
   ·intro _; exact ⟨y,ak,by rw [<- e],by rw [<- e]⟩
   ·intro _; rfl
  ·rw [if_neg (fun z=>e (tQ z)),CG p T];constructor
   ·rintro ⟨x,hx,q⟩; exact ⟨x,aj _ hx,q⟩
   ·rintro ⟨x,hx,q1,q2⟩;rcases a7.mp hx with rfl | hx
    ·exact (e (Prod.ext q1 q2)).elim
    ·exact ⟨x,hx,q1,q2⟩
theorem RA (n:Int) (bs:List Dd):hit n (bs.map hdD)=(Gy n bs).map hdD:=by
 unfold hit Gy;rw [List.find?_map];rfl
theorem RB {d:Dd} (w:Wf d):∃ x r,d.act=.str x :: r/\(x="settle" ↔ d.kd=.settle)/\(x="back" ↔ ∃ f l,d.kd=.back f l):=by
 have h:=w.act;cases e:d.kd with
 | settle=>rw [e] at h; exact ⟨"settle",[],h,by simp,by simp; decide⟩
 | back f l=>rw [e] at h; exact ⟨"back",_,h,by simp; decide,by simp⟩
 | other=>
  rw [e] at h;obtain ⟨x,r,e1,n1,n2⟩:=h;exact ⟨x,r,e1,by simp [n1],by simp [n2]⟩
abbrev Bv (L:List Dd):Prop:=L.Pairwise (fun a b=>bL (nmL a) (nmL b)=false)
structure BOk (sl lb:Nat) (q:Nat) (h':PH) (R:List (Str×Nat)) (Bd:Str->List Dd):Prop where
 at':∀ w m,lk R w=some m->h'[m]?=some (.lst ((Bd w).map dP))/\lb < m/\m≠sl
 no:∀ w,lk R w=none->Bd w=[]
 inj:∀ w w' m,lk R w=some m->lk R w'=some m->w=w'
 back:∀ w,∀ b∈Bd w,b.nm.1=w/\Wf b/\∃ f l,b.kd=.back f l
 len:∀ w,(Bd w).length<=q
 lenR:R.length<=q
theorem BOk.get {sl lb q:Nat} {h' h2:PH} {R:List (Str×Nat)} {Bd:Str->List Dd} (b:BOk sl lb q h' R Bd) (e:Ext h' h2):BOk sl lb q h2 R Bd:=
 ⟨fun w m z=>let ⟨a,c,d⟩:=b.at' w m z; ⟨e _ _ a,c,d⟩,b.no,b.inj,b.back,b.len,b.lenR⟩
theorem BOk.up {sl lb q:Nat} {h':PH} {R:List (Str×Nat)} {Bd:Str->List Dd} (b:BOk sl lb q h' R Bd):BOk sl lb (q+1) h' R Bd:=
 ⟨b.at',b.no,b.inj,b.back,fun w=>j9 (b.len w),j9 b.lenR⟩
theorem BOk.aside {sl lb q n:Nat} {h':PH} {o:MO} {R:List (Str×Nat)} {Bd:Str->List Dd} (b:BOk sl lb q h' R Bd) (hn:n<=lb):BOk sl lb q (h'.set n o) R Bd:=
 ⟨fun w m z=>let ⟨a,c,d⟩:=b.at' w m z; ⟨by rw [a8 (by omega)]; exact a,c,d⟩,b.no,b.inj,b.back,b.len,b.lenR⟩
theorem BOk.skip {sl lb q n:Nat} {h':PH} {o:MO} {R:List (Str×Nat)} {Bd:Str->List Dd} (b:BOk sl lb q h' R Bd) (hn:∀ x,lk R x≠some n):BOk sl lb q (h'.set n o) R Bd:=
 ⟨fun w m z=>let ⟨a,c,d⟩:=b.at' w m z; ⟨by rw [a8 (fun e:n=m=>hn w (e ▸ z))]; exact a,c,d⟩,b.no,b.inj,b.back,b.len,b.lenR⟩
theorem BOk.put {sl lb q m:Nat} {h':PH} {R:List (Str×Nat)} {Bd:Str->List Dd} {w:Str} {bs:List Dd} (b:BOk sl lb q h' R Bd) (hm:h'[m]?=some (.lst (bs.map dP))) (h1:lb < m) (h2:m≠sl) (hf:∀ x,lk R x≠some m)
  (hb:∀ b∈bs,b.nm.1=w/\Wf b/\∃ f l,b.kd=.back f l) (hl:bs.length<=q+1):BOk sl lb (q+1) h' (dpt R w m) (fun x=>if x=w then bs else Bd x) where
 at':=fun x m' z=>by
  rw [Gx] at z
  by_cases e:x=w
  ·rw [if_pos e] at z ⊢;cases z
   exact ⟨hm,h1,h2⟩
  ·rw [if_neg e] at z ⊢;exact b.at' x m' z
 no:=fun x z=>by
  rw [Gx] at z
  by_cases e:x=w
  ·rw [if_pos e] at z; cases z
  ·rw [if_neg e] at z ⊢; exact b.no x z
 inj:=fun x y m' z1 z2=>by
  rw [Gx] at z1 z2
  by_cases e1:x=w <;> by_cases e2:y=w
  ·rw [e1,e2]
  ·rw [if_pos e1] at z1; rw [if_neg e2] at z2; cases z1; exact (hf y z2).elim
  ·rw [if_neg e1] at z1; rw [if_pos e2] at z2; cases z2; exact (hf x z1).elim
  ·rw [if_neg e1] at z1; rw [if_neg e2] at z2; exact b.inj x y m' z1 z2
 back:=fun x y hy=>by
  by_cases e:x=w
  ·simp only [if_pos e] at hy; rw [e]; exact hb y hy
  ·simp only [if_neg e] at hy; exact b.back x y hy
 len:=fun x=>by
  by_cases e:x=w
  ·simp only [if_pos e]; exact hl
  ·simp only [if_neg e]; exact j9 (b.len x)
 lenR:=df Rx (Nat.succ_le_succ b.lenR)
theorem BOk.grow {sl lb q m:Nat} {h':PH} {R:List (Str×Nat)} {Bd:Str->List Dd} {d:Dd} (b:BOk sl lb q h' R Bd) (hm:lk R d.nm.1=some m) (hw:Wf d) (hk:∃ f l,d.kd=.back f l):
  BOk sl lb (q+1) (h'.set m (.lst ((Bd d.nm.1++[d]).map dP))) R (fun x=>if x=d.nm.1 then Bd d.nm.1++[d] else Bd x) where
 at':=fun x m' z=>by
  obtain ⟨a,c,e⟩:=b.at' x m' z
  by_cases ew:x=d.nm.1
  ·subst ew;rw [hm] at z; cases z;rw [if_pos rfl];exact ⟨dI a,c,e⟩
  ·rw [if_neg ew,a8 (fun zz:m=m'=>ew (b.inj _ _ m' z (zz ▸ hm)))];exact ⟨a,c,e⟩
 no:=fun x z=>by
  by_cases e:x=d.nm.1
  ·rw [e,hm] at z; cases z
  ·rw [if_neg e]; exact b.no x z
 inj:=b.inj
 back:=fun x y hy=>by
  by_cases e:x=d.nm.1
  ·simp only [if_pos e] at hy;rcases bj.mp hy with hy | hy
   ·rw [e]; exact b.back _ y hy
   ·rw [bc.mp hy]; exact ⟨e.symm,hw,hk⟩
  ·simp only [if_neg e] at hy; exact b.back x y hy
 len:=fun x=>by
  by_cases e:x=d.nm.1
  ·simp only [if_pos e]; rw [fj]; exact Nat.succ_le_succ (b.len _)
  ·simp only [if_neg e]; exact j9 (b.len x)
 lenR:=j9 b.lenR
def TI (h:PH) (n sl:Nat) (L:List Dd) (q:Nat) (δ:Ev) (h':PH):Prop:=∃ T R Bd,Ext h h'/\h'[sl]?=some (.lst (L.map dP))/\cP h' h.length=some (T.map tkE)/\h'[h.length+1]?=some (.dK (em PV.ref R))/\BOk sl (h.length+1) q h' R Bd/\T.length<=q/\(∀ x∈T,(x.1,x.2.1.1)∈(L.take q).map (·.nm))/\
   run (L.map tri) (fun _=>[])=T++run ((L.drop q).map tri) (fun w=>(Bd w).map hdD)/\∃ x3 x4 x5 x6 x7,δ=[some (.ref n),some (.ref h.length),some (.ref (h.length+1)),x3,x4,x5,x6,x7]
theorem Ki (os:List Dd) (hw:∀ d∈os,Wf d) (hl:os.length<=63) (nd:(os.map (·.nm)).Nodup) (n:Nat) (h:PH) (g:h[n]?=some (.lst (os.map dP))) (Q:PV->PH->Prop)
  (k:∀ L l h',Ext h h'->L.Perm os->Bv L->cP h' l=some ((run (L.map tri) fun _=>[]).map tkE)->Q (.ref l) h'):(rG [.ref n] h).W Q:=by
 refine dZ ?_;unfold yU;rw [aL];simp;refine now ?_;rw [aL];simp;have x0:Ext h (h++[MO.dK [],MO.dK []]):=Ext.app _ _;have gt:cP (h++[MO.dK [],MO.dK []]) h.length=some (([]:List (Str×HD×HD)).map tkE):=IM (by simp);have gb:(h++[MO.dK [],MO.dK []])[h.length+1]?=some (.dK (em PV.ref [])):=by simp [em]
 generalize h++[MO.dK [],MO.dK []]=hA at x0 gt gb;refine now ?_;rw [aL];have gA:=x0 _ _ g
 -- the sort comes first
 have srt:(lK iZ true (.ref n) hA).W fun p h2=>∃ L h3,p=.ref h3.length/\h2=h3++[.lst (L.map dP)]/\Ext hA h3/\L.Perm os/\Bv L:=
  IR (key:=nmL) (emb:=dP) (S:=shape [.inr "",.inl 0]) (yI gA) (by omega) (Ry os) (fun _ _=>rfl) (Ez nmL V7 nd) (fun d hd h Q kk=>Rz d h Q (kk h (Ext.refl h))) fun L h3 x3 hp ho=>⟨L,h3,rfl,rfl,x3,hp,ho⟩
 obtain ⟨p,h2,e2,L,h3,rfl,rfl,x3,hp,hf⟩:=Ah srt;have hlA:h.length+1 < hA.length:=(ab.mp gb).1;have hl3:hA.length<=h3.length:=x3.len;have x1:Ext h (h3++[.lst (L.map dP)]):=x0.trans (x3.trans (Ext.app _ _));have gt1:=gW (x3.trans (Ext.app h3 [.lst (L.map dP)])) gt;have gb1:=(x3.trans (Ext.app h3 [.lst (L.map dP)])) _ _ gb;have gs:(h3++[.lst (L.map dP)])[h3.length]?=some (.lst (L.map dP)):=aJ;have hsl:h.length+1 < h3.length:=by omega
 generalize h3.length=sl at e2 gs hsl;generalize h3++[.lst (L.map dP)]=hB at e2 x1 gt1 gb1 gs;have hwL:∀ d∈L,Wf d:=fun d hd=>hw d (hp.mem_iff.mp hd);have ndL:(L.map (·.nm)).Nodup:=(hp.map _).nodup_iff.mpr nd;have hlL:L.length<=63:=by rw [hp.length_eq]; exact hl
 refine sX (n:=sl) (xs:=L.map dP) (h1:=hB) (TI h n sl L) ?_ gs ?_ ?_ ?_ ?_
 ·simp [e2]
 ·exact ⟨[],[],fun _=>[],x1,gs,gt1,gb1,⟨fun w m z=>(by cases z),fun _ _=>rfl,fun w w' m z=>(by cases z),fun w b hb=>(by cases hb),fun _=>cg _,cg _⟩,cg _,fun x hx=>(by cases hx),by simp,_,_,_,_,_,rfl⟩
 ·rintro q δ h' hq ⟨T,R,Bd,x,g1,_⟩;exact g1
 ·rintro q y δ h' hy ⟨T,R,Bd,x,g1,g2,g3,b,lT,nT,hr,x3,x4,x5,x6,x7,rfl⟩;rw [aq] at hy;obtain ⟨d,hdq,rfl⟩:=bf.mp hy;have hq':q < L.length:=(ab.mp hdq).1;have hdr:L.drop q=d :: L.drop (q+1):=drop_cons hdq;have htk:L.take (q+1)=L.take q++[d]:=by rw [gg,hdq]; rfl
  have wf:=hwL d (cf hdq);obtain ⟨wd,r,ea,es,eb⟩:=RB wf;rw [hdr,a9,O0] at hr;have hnew:d.nm∉(L.take q).map (·.nm):=fun z=>by
   have e1:L.map (·.nm)=(L.take q).map (·.nm)++(d :: L.drop (q+1)).map (·.nm):=by rw [<- cw,<- hdr,List.take_append_drop]
   rw [e1,jd] at ndL;exact ndL.2.2 _ z _ (by simp) rfl
  have nT1:∀ x∈T,(x.1,x.2.1.1)∈(L.take (q+1)).map (·.nm):=fun x hx=>by
   rw [htk,cw];exact dh _ (nT x hx)
  refine ⟨_,rfl,?_⟩;unfold yT;rw [aL];simp [dP0];refine ⟨[some (.ref n),some (.ref h.length),some (.ref (h.length+1)),some (dP d),some (.str d.nm.1),some (.int d.nm.2),x6,x7],by simp [pv],?_⟩;refine now ?_;rw [aL];simp [dP2,ea];refine now ?_;rw [aL];have hlen':h.length+1 < h'.length:=(ab.mp g3).1;have hsl':sl < h'.length:=(ab.mp g1).1
  by_cases c1:wd="settle"
  ·have ek:=es.mp c1;simp [c1,aL];have y1:Ext h' (h'++[MO.lst []]):=Ext.app _ _;have y2:(h'++[MO.lst []])[h'.length]?=some (.lst (([]:List Dd).map dP)):=aJ;generalize h'++[MO.lst []]=h2 at y1 y2;have g3':=y1 _ _ g3;have hput:vS (.ref (h.length+1)) (.str d.nm.1) (.ref h'.length) h2=some (h2.set (h.length+1) (.dK (em PV.ref (dpt R d.nm.1 h'.length)))):=by
    rw [IL g3' (by unfold em; rw [ae]; have:=b.lenR; omega),Tp]
   have b1:=((b.get y1).put (w:=d.nm.1) (bs:=[]) y2 hlen' (by omega) (fun x z=>by
    have:=(ab.mp (b.at' x _ z).1).1;omega) (fun b hb=>by cases hb) (cg _)).aside (n:=h.length+1) (o:=.dK (em PV.ref (dpt R d.nm.1 h'.length))) (ao _)
   have x2:Ext h (h2.set (h.length+1) (.dK (em PV.ref (dpt R d.nm.1 h'.length)))):=lV (x.trans y1) (by omega);have gsl:(h2.set (h.length+1) (.dK (em PV.ref (dpt R d.nm.1 h'.length))))[sl]?=some (.lst (L.map dP)):=eL (y1 _ _ g1) (by omega);obtain ⟨o,ho,_,hh⟩:=gU (gW y1 g2);have gtt:=hh _ (eL (n:=h.length+1) (m:=h.length) (o':=.dK (em PV.ref (dpt R d.nm.1 h'.length))) ho (by omega));refine ⟨_,hput,now ?_⟩;simp;refine ⟨T,_,_,x2,gsl,gtt,dI g3',b1,by omega,nT1,?_,_,_,_,_,_,rfl⟩;rw [hr,show (tri d).2.2=.settle from ek]
   simp only
   congr 2
   funext w
   show (if w=d.nm.1 then [] else (Bd w).map hdD)=_
   by_cases e:w=d.nm.1
   ·rw [if_pos e,if_pos e]; rfl
   ·rw [if_neg e,if_neg e]
  ·have ek:d.kd≠.settle:=fun z=>c1 (es.mpr z);simp [c1];refine now ?_;rw [aL]
   -- what the hand has so far
   have y1:Ext h' (h'++[MO.lst []]):=Ext.app _ _;have y2:(h'++[MO.lst []])[h'.length]?=some (.lst (([]:List Dd).map dP)):=aJ;have hdc:eD (.ref (h.length+1)) h'=true:=qR g3;have hget:=IK (x:=d.nm.1) (z:=.ref h'.length) (y1 _ _ g3);simp [hdc];generalize h'++[MO.lst []]=h2 at y1 y2 hget;rw [IZ] at hget;have b1:=b.get y1;have hmm:∃ m,(((lk R d.nm.1).map PV.ref).getD (.ref h'.length))=.ref m/\h2[m]?=some (.lst ((Bd d.nm.1).map dP)):=by
    cases e:lk R d.nm.1 with
    | some m=>exact ⟨m,rfl,(b1.at' _ _ e).1⟩
    | none=>exact ⟨h'.length,rfl,by rw [b.no _ e]; exact y2⟩
   obtain ⟨m,em1,em2⟩:=hmm;rw [em1] at hget;simp [hget];refine O4 d.nm.2 (Bd d.nm.1) (fun z hz=>(b.back _ z hz).2) (by have:=b.len d.nm.1; omega) m h2 em2 _ ?_;have hh:=RA d.nm.2 (Bd d.nm.1);have gsl2:=y1 _ _ g1;have g22:=gW y1 g2;have g32:=y1 _ _ g3;have xh2:=x.trans y1;cases eh:Gy d.nm.2 (Bd d.nm.1) with
   | some z=>
    rw [eh] at hh;simp only [eh];refine now ?_;have hzb:z.nm.1=d.nm.1:=(b.back _ z (List.mem_of_find?_eq_some eh)).1;have hput:vS (.ref h.length) (pv d.nm) (pv z.nm) h2=some (h2.set h.length (.dD (dO (T.map tkE) (pv d.nm) (pv z.nm)))):=Nu g22 To (by rw [ae]; omega);have eput:dO (T.map tkE) (pv d.nm) (pv z.nm)=(T++[(d.nm.1,hdD d,hdD z)]).map tkE:=by
     unfold dO;rw [if_neg (fun zz=>by
      obtain ⟨x,hx,e1,e2⟩:=(CG d.nm T).mp zz;exact hnew (by have:=nT x hx; rw [e1,e2] at this; exact this)),cw]
     congr 1
     have e3:pv z.nm=pv (d.nm.1,z.nm.2):=by rw [<- hzb]
     show [(pv d.nm,pv z.nm)]=[(pv (d.nm.1,d.nm.2),pv (d.nm.1,z.nm.2))]
     rw [e3]
    rw [eput] at hput;obtain ⟨o,ho,_,_⟩:=gU g22;have nz:iK (pv z.nm)=false:=rfl;simp [nz,dP0];refine ⟨_,hput,T++[(d.nm.1,hdD d,hdD z)],R,Bd,lV xh2 (ao _),eL gsl2 (by omega),IP (dI ho),eL g32 (by omega),(b1.aside (by omega)).up,by simp; omega,?_,?_,_,_,_,_,_,rfl⟩
    ·intro x hx;rcases bj.mp hx with hx | hx
     ·exact nT1 x hx
     ·rw [bc.mp hx,htk,cw];exact af _ (by simp [hdD])
    ·rw [hr];have e1:hit (tri d).2.1 ((Bd (tri d).1).map hdD)=some (hdD z):=hh;rw [j7]
     congr 1
     show (match d.kd,hit d.nm.2 ((Bd d.nm.1).map hdD) with | .settle,_=>_ | _,some b=>_ | .back _ _,none=>_ | .other,none=>_)=_
     rw [hh];cases ek2:d.kd with
     | settle=>exact (ek ek2).elim
     | back f l=>rfl
     | other=>rfl
   | none=>
    rw [eh] at hh;simp only [eh];refine now ?_;simp
    by_cases c2:wd="back"
    ·obtain ⟨f,l,ek2⟩:=eb.mp c2;have hdc2:eD (.ref (h.length+1)) h2=true:=qR g32;simp [c2,hdc2];have z1:Ext h2 (h2++[MO.lst []]):=Ext.app _ _;have z2:(h2++[MO.lst []])[h2.length]?=some (.lst (([]:List Dd).map dP)):=aJ;have hl2:h'.length<=h2.length:=y1.len;generalize h2++[MO.lst []]=h4 at z1 z2;have g34:=z1 _ _ g32;have hsd:=K0 (x:=d.nm.1) (z:=.ref h2.length) g34 (by unfold em; rw [ae]; have:=b.lenR; omega);rw [IZ] at hsd;have xh4:=xh2.trans z1;have run2:run (L.map tri) (fun _=>[])=T++run ((L.drop (q+1)).map tri) (fun w=>(if w=d.nm.1 then Bd d.nm.1++[d] else Bd w).map hdD):=by
      rw [hr]
      congr 1
      show (match d.kd,hit d.nm.2 ((Bd d.nm.1).map hdD) with | .settle,_=>_ | _,some b=>_ | .back _ _,none=>_ | .other,none=>_)=_
      rw [hh,ek2]
      show run _ _=run _ _
      congr 1
      funext w
      show (if w=d.nm.1 then (Bd w).map hdD++[hdD d] else (Bd w).map hdD)=_
      by_cases e:w=d.nm.1
      ·rw [if_pos e,if_pos e,e,cw]; rfl
      ·rw [if_neg e,if_neg e]
     cases e:lk R d.nm.1 with
     | some m'=>
      rw [e] at hsd;have b4:=b1.get z1;obtain ⟨q1,q2,q3⟩:=b4.at' _ _ e;simp [hsd,eY q1];have hap:=eK (p:=dP d) q1 (by rw [ae]; have:=b.len d.nm.1; omega);have b5:=b4.grow e wf ⟨f,l,ek2⟩;rw [show (Bd d.nm.1).map dP++[dP d]=(Bd d.nm.1++[d]).map dP by simp] at hap;rw [hap,hZ];obtain ⟨o,ho,_,hh2⟩:=gU (gW z1 g22);exact ⟨T,R,_,lV xh4 (by omega),eL (z1 _ _ gsl2) (by omega),hh2 _ (eL ho (by omega)),eL g34 (by omega),b5,by omega,nT1,run2,_,_,_,_,_,rfl⟩
     | none=>
      rw [e] at hsd;simp at hsd;rw [Tp] at hsd;have q1:(h4.set (h.length+1) (.dK (em PV.ref (dpt R d.nm.1 h2.length))))[h2.length]?=some (.lst (([]:List Dd).map dP)):=eL z2 (by omega);simp [hsd,eY q1];have hap:=eK (p:=dP d) q1 (by simp);rw [show (([]:List Dd).map dP++[dP d])=[d].map dP from rfl] at hap
      rw [hap,hZ];have nox:∀ x,lk R x≠some h2.length:=fun x z=>by
       have:=(ab.mp (b1.at' x _ z).1).1;omega
      have b6:=((b1.get z1).aside (n:=h.length+1) (o:=.dK (em PV.ref (dpt R d.nm.1 h2.length))) (ao _)).skip (n:=h2.length) (o:=.lst ([d].map dP)) nox;have b7:=b6.put (w:=d.nm.1) (bs:=[d]) (m:=h2.length) (dI q1) (by omega) (by omega) nox (fun y hy=>by
       rw [bc.mp hy]; exact ⟨rfl,wf,f,l,ek2⟩) (by simp)
      have eB:Bd d.nm.1=[]:=b.no _ e;rw [eB] at run2;obtain ⟨o,ho,_,hh2⟩:=gU (gW z1 g22);refine ⟨T,_,_,lV (lV xh4 (by omega)) (by omega),eL (eL (z1 _ _ gsl2) (by omega)) (by omega),hh2 _ (eL (eL ho (by omega)) (by omega)),eL (dI g34) (by omega),b7,by omega,nT1,run2,_,_,_,_,_,rfl⟩
    ·have ek2:d.kd=.other:=by
      cases z:d.kd with
      | settle=>exact (ek z).elim
      | back f l=>exact (c2 (eb.mpr ⟨f,l,z⟩)).elim
      | other=>rfl
     simp [c2];refine ⟨T,R,Bd,xh2,gsl2,g22,g32,b1.up,by omega,nT1,?_,_,_,_,_,_,rfl⟩;rw [hr]
     congr 1
     show (match d.kd,hit d.nm.2 ((Bd d.nm.1).map hdD) with | .settle,_=>_ | _,some b=>_ | .back _ _,none=>_ | .other,none=>_)=_
     rw [hh,ek2];rfl
 ·rintro δ h' ⟨T,R,Bd,x,g1,g2,g3,b,lT,nT,hr,x3,x4,x5,x6,x7,rfl⟩;refine now ?_;simp;have hr':run (L.map tri) (fun _=>[])=T:=by
   rw [hr,ae,nj]
   show T++[]=T
   rw [je]
  exact k L h.length h' x hp hf (by rw [hr']; exact g2)
theorem dY {α:Type} (c:α->Bool) (f:α->PV):∀ xs:List α,xs.filterMap (fun x=>if c x=true then some (f x) else none)=(xs.filter c).map f
 | []=>rfl
 | x :: xs=>by
  rw [d4,List.filter_cons];cases e:c x <;> simp [dY c f xs]
def TkL (L:List Dd) (p:Str×Int):Prop:=∃ x∈run (L.map tri) fun _=>[],x.1=p.1/\x.2.1.1=p.2
structure Xj (ds out L:List Dd):Prop where
 nd:(out.map (·.nm)).Nodup
 ln:(L.map (·.nm)).Nodup
 fall:Bv L
 mem:∀ d,d∈L ↔ d∈ds
 out:∀ d,d∈out ↔ d∈ds/\¬ TkL L d.nm
theorem EA (ds:List Dd) (hw:∀ d∈ds,Wf d) (hl:ds.length<=63) (hu:∀ d∈ds,∀ e∈ds,d.nm=e.nm->d=e) (n:Nat) (h:PH) (g:h[n]?=some (.lst (ds.map dP))) (Q:PV->PH->Prop)
  (k:∀ out L l h',Ext h h'->h'[l]?=some (.lst (out.map dP))->Xj ds out L->lW out->Q (.ref l) h'):(eN [.ref n] h).W Q:=by
 refine dZ ?_;unfold oP;rw [aL];simp;refine vE ds hw hl hu n h g _ fun os l h1 x1 g1 nd mem rk=>?_
 try simp
 refine now ?_;rw [aL];simp;have hlo:os.length<=ds.length:=by
  have h1:(os.map (·.nm)).length<=(ds.map (·.nm)).length:=iu nd fun p hp=>by
   obtain ⟨d,hd,rfl⟩:=au.mp hp;exact au.mpr ⟨d,(mem d).mp hd,rfl⟩
  simpa using h1
 refine Ki os (fun d hd=>hw d ((mem d).mp hd)) (by omega) nd l h1 g1 _ fun L t h2 x2 hp hf ht=>?_
 try simp
 refine now ?_;have g2:=x2 _ _ g1;have hc:=cU (js:=[none,some 2]) (tg:=gN 0) (tst:=bT (aD jQ (aD vAt (mV 0) (mC (.int 0))) (mV 1))) (elt:=mV 0) (m:=mV 1) (δ:=[some (.ref n),some (.ref l),some (.ref t)]) (h:=h2) (h1:=h2) (n:=l) (ys:=os) (emb:=dP)
  (fun d=>if (!(aX ((run (L.map tri) fun _=>[]).map tkE) (pv d.nm)).isSome)=true then some (dP d) else none) (by simp) g2 (by omega) (fun d hd=>⟨_,rfl,fun h3 hx=>by
   have hn:jQ (pv d.nm) (.ref t) h3=.ok (.bl (!(aX ((run (L.map tri) fun _=>[]).map tkE) (pv d.nm)).isSome)) h3:=JZ (gW hx ht) rfl;cases e:(aX ((run (L.map tri) fun _=>[]).map tkE) (pv d.nm)).isSome with
   | true=>rw [e] at hn; simp [bW,dP0,hn]
   | false=>rw [e] at hn; simp [bW,dP0,hn]⟩)
 rw [dY (fun d=>!(aX ((run (L.map tri) fun _=>[]).map tkE) (pv d.nm)).isSome) dP] at hc;simp [hc];have ndL:(L.map (·.nm)).Nodup:=(hp.map _).nodup_iff.mpr nd;refine k _ L _ _ ((x1.trans x2).trans (Ext.app _ _)) aJ ⟨?_,ndL,hf,fun d=>hp.mem_iff.trans (mem d),fun d=>?_⟩ ?_
 ·exact (fw.map _).nodup nd
 ·rw [de,mem d];have:=CG d.nm (run (L.map tri) fun _=>[]);unfold TkL;cases e:aX ((run (L.map tri) fun _=>[]).map tkE) (pv d.nm) with
  | none=>
   rw [e] at this;exact and_congr n0 ⟨fun _ z=>(by have q:=this.mpr z; cases q),fun _=>rfl⟩
  | some p=>
   rw [e] at this;exact and_congr n0 ⟨fun z=>(by cases z),fun z=>(z (this.mp rfl)).elim⟩
 ·exact rk.sublist fw
theorem O5 {F G:List Dd} (nF:(F.map (·.nm)).Nodup) (nG:(G.map (·.nm)).Nodup) (hF:Bv F) (hG:Bv G) (m:∀ x,x∈F ↔ x∈G):F=G:=by
 refine iy (le:=fun (a b:Dd)=>bL (nmL a) (nmL b)=false) (fun a b ha hb h1 h2=>?_) hF hG ?_
 ·have e:nmL a=nmL b:=kW rfl h1 h2;have e2:a.nm=b.nm:=by
   unfold nmL at e;simp at e;exact Prod.ext e.1 e.2
  obtain ⟨j,hj⟩:=dz.mp ha;obtain ⟨k,hk⟩:=dz.mp ((m b).mpr hb);have:=NZ nF (i:=j) (j:=k) (a:=b.nm) (by rw [aq,hj]; simp [e2]) (by rw [aq,hk]; rfl);subst this;rw [hj] at hk;exact bg hk
 ·exact (m5 (i6 _ (fun a b q e=>q (by rw [e])) nF) (i6 _ (fun a b q e=>q (by rw [e])) nG)).mpr m
def kdOf:Ac->Kd
 | .settle=>.settle
 | .back a b=>.back a b
 | .add _=>.other
def acL:Ac->List PV
 | .settle=>[.str "settle"]
 | .back a b=>[.str "back",.int a,.int b]
 | .add n=>[.str "add",.tup [.str "t",.int 1],.int n]
def dD (d:De):Dd:=⟨d.nm,d.sn,kdOf d.ac,acL d.ac⟩
theorem O6 (d:De):deV d=dP (dD d):=by
 obtain ⟨nm,sn,ac⟩:=d;cases ac <;> rfl
theorem CH (T:List De):T.map deV=(T.map dD).map dP:=by
 rw [bp];exact dn fun d _=>O6 d
theorem Xk {d:De} (l:d.sn.length<=100):Wf (dD d):=by
 refine ⟨l,?_,?_⟩
 ·obtain ⟨nm,sn,ac⟩:=d;cases ac with
  | settle=>exact rfl
  | back a b=>exact rfl
  | add n=>exact ⟨_,_,rfl,by decide +kernel,by decide +kernel⟩
 ·obtain ⟨nm,sn,ac⟩:=d;cases ac <;> rfl
theorem Tq {d:De}:(dP (dD d)).pl 39=true:=by rw [<- O6]; exact NR d
structure nI (R:List Row) (os:List Dd):Prop where
 nd:(os.map (·.nm)).Nodup
 me:∀ d,d∈os ↔ ∃ z∈R,dD z.d=d
 br:lW os
theorem yZ {xs ys:List Dd} (nx:(xs.map (·.nm)).Nodup) (ny:(ys.map (·.nm)).Nodup) (bx:lW xs) (b':lW ys) (m:∀ d,d∈xs ↔ d∈ys):xs=ys:=by
 have uq:∀ a∈xs,∀ b∈xs,a.nm=b.nm->a=b:=fun a ha b hb e=>by
  obtain ⟨j,hj⟩:=dz.mp ha;obtain ⟨k,hk⟩:=dz.mp hb;have:=NZ nx (i:=j) (j:=k) (a:=b.nm) (by rw [aq,hj]; simp [e]) (by rw [aq,hk]; rfl);subst this;rw [hj] at hk;exact bg hk
 refine iy (le:=fun (a b:Dd)=>bL (kyL b) (kyL a)=false) (fun a b ha hb h1 h2=>?_) bx b' ?_
 ·exact uq a ha b ((m b).mpr hb) (O1 a b (kW (by rfl) h2 h1))
 ·exact (m5 (i6 _ (fun a b q e=>q (by rw [e])) nx) (i6 _ (fun a b q e=>q (by rw [e])) ny)).mpr m
theorem nI.one {R:List Row} {os ps:List Dd} (a:nI R os) (b:nI R ps):os=ps:=yZ a.nd b.nd a.br b.br fun d=>(a.me d).trans (b.me d).symm
theorem Gz {R:List Row} (inc:Inc R) {z y:Row} (hz:z∈R) (hy:y∈R) (e:z.d.nm=y.d.nm):z=y:=by
 obtain ⟨i,hi⟩:=dz.mp hz;obtain ⟨j,hj⟩:=dz.mp hy;obtain ⟨l1,e1⟩:=ab.mp hi;obtain ⟨l2,e2⟩:=ab.mp hj;have pw:=fb.mp inc;rcases Nat.lt_trichotomy i j with h | h | h
 ·have:=pw i j l1 l2 h;rw [e1,e2,e] at this;exact absurd (this rfl) (Int.lt_irrefl _)
 ·subst h;exact e1.symm.trans e2
 ·have:=pw j i l2 l1 h;rw [e1,e2,e] at this;exact absurd (this rfl) (Int.lt_irrefl _)
theorem J1 {R:List Row} (inc:Inc R):((R.map fun z=>dD z.d).map (·.nm)).Nodup:=by
 unfold List.Nodup;rw [c8,c8];refine inc.imp fun {a b} h e=>?_;have e:a.d.nm=b.d.nm:=e;have:=h (congrArg ix e);rw [e] at this;omega
theorem dX.l100 {hs:List Str} (h6:hs.length<=6) {z:Row} (o:dX hs z):z.d.sn.length<=100:=by
 have:=o.sn.1;omega
theorem Xl {hs:List Str} (h6:hs.length<=6) {R:List Row} (inc:Inc R) (ok:∀ z∈R,dX hs z) {T:List De} (mem:∀ d,d∈T ↔ d∈R.map (·.d)):(∀ d∈T.map dD,Wf d)/\(∀ d∈T.map dD,∀ e∈T.map dD,d.nm=e.nm->d=e)/\∀ d,d∈T.map dD ↔ ∃ z∈R,dD z.d=d:=by
 have m:∀ d,d∈T.map dD ↔ ∃ z∈R,dD z.d=d:=fun d=>by
  constructor
  ·intro h;obtain ⟨e,he,rfl⟩:=au.mp h;obtain ⟨z,hz,rfl⟩:=au.mp ((mem e).mp he);exact ⟨z,hz,rfl⟩
  ·rintro ⟨z,hz,rfl⟩;exact au.mpr ⟨z.d,(mem z.d).mpr (au.mpr ⟨z,hz,rfl⟩),rfl⟩
 refine ⟨fun d hd=>?_,fun d hd e he h=>?_,m⟩
 ·obtain ⟨z,hz,rfl⟩:=(m d).mp hd;exact Xk ((ok z hz).l100 h6)
 ·obtain ⟨z,hz,rfl⟩:=(m d).mp hd;obtain ⟨y,hy,rfl⟩:=(m e).mp he;rw [Gz inc hz hy h]
theorem O7 {hs:List Str} (h6:hs.length<=6) {R:List Row} (inc:Inc R) (ok:∀ z∈R,dX hs z) {T:List De} (lT:T.length<=63) (mem:∀ d,d∈T ↔ d∈R.map (·.d)) {os:List Dd} (o:nI R os) {l:Nat} {h:PH} (g:h[l]?=some (.lst (T.map deV))) (Q:PV->PH->Prop)
  (k:∀ l' h',Ext h h'->h'[l']?=some (.lst (os.map dP))->Q (.ref l') h'):(dJ [.ref l] h).W Q:=by
 obtain ⟨t1,t2,t3⟩:=Xl h6 inc ok mem;rw [CH] at g;refine vE (T.map dD) t1 (by rw [ae]; exact lT) t2 l h g Q fun os' l' h' x' g' n' m' b'=>?_;have:os'=os:=nI.one (R:=R) ⟨n',fun d=>(m' d).trans (t3 d),b'⟩ o;subst this;exact k l' h' x' g'
def oR (d:De):PV:=.tup [.int (1+tot d.sn),pv d.nm]
theorem Bw (d:De) (ld:d.sn.length<=1000) (h:PH) (Q:PV->PH->Prop) (k:∀ h',Ext h h'->Q (oR d) h'):(gY [deV d] h).W Q:=by
 refine dZ ?_;change (rH [some (deV d)] h).W _;have hc:=sZ (js:=[none,none]) (tg:=gTp 2 (gCn (gN 0) (gCn (gN 1) gNl))) (tst:=dS) (elt:=mV 1) (m:=aD vAt (mV 0) (mC (.int 1))) (δ:=[some (deV d)]) (h:=h) (h1:=h) (ys:=d.sn) (emb:=pv)
  (fun q=>some (.int q.2)) (by simp [de1,Ew]) (by omega) (fun q hq=>⟨[some (.str q.1),some (.int q.2)],by simp [pv,bW],fun h3 _=>⟨rfl,by simp⟩⟩)
 have es:d.sn.filterMap (fun q=>some (PV.int q.2))=(d.sn.map (·.2)).map PV.int:=by rw [filterMap_some,bp]; rfl
 rw [es] at hc;have gs:(h++[MO.lst ((d.sn.map (·.2)).map PV.int)])[h.length]?=some (.lst ((d.sn.map (·.2)).map PV.int)):=aJ;have y5:Ext h (h++[MO.lst ((d.sn.map (·.2)).map PV.int)]):=Ext.app _ _;generalize h++[MO.lst ((d.sn.map (·.2)).map PV.int)]=h1 at hc gs y5;unfold rH;simp [hc,xU gs,de0];exact k _ y5
theorem J2 (c a:De):ltP 20 (oR c) (oR a)=some (bL (kyL (dD c)) (kyL (dD a))):=by
 obtain ⟨⟨n1,n2⟩,s1,_⟩:=c;obtain ⟨⟨m1,m2⟩,s2,_⟩:=a
 show ltL (ltP 19) [.int (1+tot s1),pv (n1,n2)] [.int (1+tot s2),pv (m1,m2)]=some (bL [.inl (1+tot s1),.inr n1,.inl n2] [.inl (1+tot s2),.inr m1,.inl m2])
 by_cases h1:1+tot s1=1+tot s2
 ·rw [h1]
  by_cases h2:n1=m1
  ·subst h2
   by_cases h3:n2=m2
   ·subst h3;simp [ltL,bL]
   ·simp [ltL,ltP,bL,pv,keyLt,h3]
  ·simp [ltL,ltP,bL,pv,keyLt,h2]
 ·have h1':¬ tot s1=tot s2:=fun e=>h1 (by rw [e]);simp [ltL,ltP,bL,keyLt,h1']
theorem Xm (Ps:List De):OkN 0 (Ps.map oR):=by
 refine ⟨by omega,fun v hv=>?_,fun v hv=>?_,fun v hv u hu=>?_⟩
 ·obtain ⟨d,_,rfl⟩:=au.mp hv;rfl
 ·obtain ⟨d,_,rfl⟩:=au.mp hv;rfl
 ·obtain ⟨d,_,rfl⟩:=au.mp hv;obtain ⟨e,_,rfl⟩:=au.mp hu;rw [J2];rfl
theorem RC (c a:De):ltN (oR c) (oR a)=bL (kyL (dD c)) (kyL (dD a)):=Ng (n:=20) (J2 c a)
def fD (M:Int) (d:Dd):Bool:=decide (1+tot d.seen<=M)
theorem J3 {hs:List Str} (h6:hs.length<=6) {R:List Row} (lR:R.length<=60) (inc:Inc R) (ok:∀ z∈R,dX hs z) {l:Nat} (M:Int) {h:PH} (g:h[l]?=some (.lst ((R.map (·.d)).map deV))) (Q:PV->PH->Prop)
  (k:∀ os l' h',nI R os->Ext h h'->h'[l']?=some (.lst ((os.filter (fD M)).map dP))->Q (.ref l') h'):(jW [.ref l,.int M] h).W Q:=by
 refine dZ ?_;change (vZ [some (.ref l),some (.int M)] h).W _;have uq:∀ a∈R.map (·.d),∀ c∈R.map (·.d),oR a=oR c->deV a=deV c:=fun a ha c hc e=>by
  obtain ⟨z,hz,rfl⟩:=au.mp ha;obtain ⟨y,hy,rfl⟩:=au.mp hc;have e1:pv z.d.nm=pv y.d.nm:=by
   have:=PV.tup.inj e;simp at this;exact this.2
  rw [Gz inc hz hy (tQ e1)]
 have l3:∀ d∈R.map (·.d),d.sn.length<=1000:=fun d hd=>by
  obtain ⟨z,hz,rfl⟩:=au.mp hd;have:=(ok z hz).l100 h6;omega
 obtain ⟨p,hC,eC,os,hB,rfl,rfl,xB,pm,pw⟩:∃ p h',iH gY false 0 (.ref l) h=.ok p h'/\∃ (os:List De) (hB:PH),p=.ref hB.length/\h'=hB++[.lst (os.map deV)]/\Ext h hB/\os.Perm (R.map (·.d))/\os.Pairwise (fun a c=>ltN (oR c) (oR a)=false):=by
  have:=Nz (key:=oR) (emb:=deV) (f:=gY) (m:=0) (xs:=R.map (·.d)) (x:=.ref l) (h:=h) (Q:=fun p h'=>∃ (os:List De) (hB:PH),p=.ref hB.length/\h'=hB++[.lst (os.map deV)]/\Ext h hB/\os.Perm (R.map (·.d))/\os.Pairwise (fun a c=>ltN (oR c) (oR a)=false)) (yI g) (by rw [ae]; omega) (Xm _) uq
   (fun d hd h Q k=>Bw d (l3 d hd) h Q k) (fun os h' x' pm pw=>⟨os,h',rfl,rfl,x',pm,pw⟩)
  exact Ah this
 have o:nI R (os.map dD):=by
  refine ⟨?_,fun d=>?_,?_⟩
  ·have n:=J1 inc;have e:(R.map fun z=>dD z.d)=(R.map (·.d)).map dD:=by rw [bp]; rfl
   rw [e] at n;exact (((pm.map dD).map (·.nm)).nodup_iff).mpr n
  ·rw [au];constructor
   ·rintro ⟨e,he,rfl⟩;obtain ⟨z,hz,rfl⟩:=au.mp (pm.mem_iff.mp he);exact ⟨z,hz,rfl⟩
   ·rintro ⟨z,hz,rfl⟩;exact ⟨z.d,pm.mem_iff.mpr (au.mpr ⟨z,hz,rfl⟩),rfl⟩
  ·unfold lW;rw [c8];exact pw.imp fun {a b} h=>by rw [RC] at h; exact h
 have gs:(hB++[MO.lst (os.map deV)])[hB.length]?=some (.lst (os.map deV)):=aJ;have x2:Ext hB (hB++[MO.lst (os.map deV)]):=Ext.app _ _;generalize hB++[MO.lst (os.map deV)]=hC at eC gs x2;have ls:os.length<=60:=by rw [pm.length_eq,ae]; exact lR
 unfold vZ;rw [qE];refine wB (ys:=os) (emb:=deV) (fun d=>fD M (dD d)) deV (dU (by simp [eC]) gs) (cT gs) (by omega) (fun d hd=>⟨_,rfl,fun h3 x3 Q3 k3=>?_,fun h3 x3=>by simp [bW]⟩) fun l4 h4 x4 _ g4=>?_
 ·simp [bW];refine Bw d (l3 d (pm.mem_iff.mp hd)) _ _ fun h5 x5=>?_;have:vIx (oR d) (.int 0) h5=.ok (.int (1+tot d.sn)) h5:=by unfold oR; simp
  simp [this];exact k3 _ x5
 ·have e:(os.filter fun d=>fD M (dD d)).map deV=((os.map dD).filter (fD M)).map dP:=by
   rw [List.filter_map,CH];rfl
  rw [e] at g4;exact k _ l4 h4 o ((xB.trans x2).trans x4) g4
def Ak (S:Seen) (nm:Str×Int):Bool:=match look S nm.1 with | some n=>decide (nm.2<=n) | none=>false
theorem Kj (S:Seen) (nm:Str×Int) (h:PH):iY [sv S,pv nm] h=.ok (.bl (Ak S nm)) h:=by
 have w:(iY [sv S,pv nm] h).W fun q h'=>q=.bl (Ak S nm)/\h'=h:=by
  refine dZ ?_;unfold yS;rw [aL];refine MX (xs:=S.map pv) (fun q δ h'=>h'=h/\look (S.drop q) nm.1=look S nm.1/\∃ x2 x3,δ=[some (sv S),some (pv nm),x2,x3]) (.inl (by simp [Ew])) ⟨rfl,rfl,_,_,rfl⟩ ?_ ?_
  ·rintro q x δ h' hx ⟨rfl,hk,x2,x3,rfl⟩;rw [aq] at hx;obtain ⟨p,hp,rfl⟩:=bf.mp hx;have hd:S.drop q=p :: S.drop (q+1):=by
    obtain ⟨hl,e⟩:=ab.mp hp;rw [j4 hl,e]
   rw [hd,fQ] at hk;refine ⟨_,by simp [pv]; rfl,?_⟩;unfold yR
   by_cases e:p.1=nm.1
   ·rw [if_pos e] at hk;simp [pv,e,Ak];rw [<- hk]
   ·rw [if_neg e] at hk;simp [pv,e];exact hk
  ·rintro δ h' ⟨rfl,hk,x2,x3,rfl⟩;refine now ?_;rw [ae,nj] at hk;simp [<- hk,look,Ak]
 obtain ⟨q,h',e,rfl,rfl⟩:=Ah w;exact e
def nM (R:List Row) (x:Str):Option Row:=(R.filter fun z=>hB x z.d).getLast?
def tS (hs:List Str) (R:List Row) (p:Str×Int) (x:Str):Bool:=match nM R x with
 | none=>false
 | some z=>decide (p.2<=z.c.getD (hs.idxOf p.1) 0)
theorem RD {hs:List Str} {R:List Row} {x:Str} {v:PV} (a:NT hs R x v):∃ S,v=sv S/\∀ p:Str×Int,p.1∈hs->1<=p.2->Ak S p=tS hs R p x:=by
 have a:match nM R x with | none=>v=.tup [] | some z=>∃ S,v=sv S/\gZ hs z.c S:=a
 cases e:nM R x with
 | none=>
  rw [e] at a;refine ⟨[],a,fun p _ _=>?_⟩;unfold tS;rw [e];rfl
 | some z=>
  rw [e] at a;obtain ⟨S,rfl,so⟩:=a;refine ⟨S,rfl,fun p h1 h2=>?_⟩;unfold Ak tS;rw [so.lk,e];unfold lU
  by_cases q:0 < z.c.getD (hs.idxOf p.1) 0
  ·rw [if_pos ⟨h1,q⟩]
  ·rw [if_neg fun w=>q w.2]
   symm
   dsimp only;rw [decide_eq_false_iff_not];omega
def allB (hs:List Str) (R:List Row) (p:Str×Int):Bool:=hs.all (tS hs R p)
theorem RF {h:PH} {a b:Nat} {rs:List Nat} (g1:h[a]?=some (.lst (rs.map PV.ref))) (g2:h[b]?=some (.lst [])):Ri (.ref a) (.ref b) h=.ok (.bl (decide (rs=[]))) h:=by
 unfold Ri eqF;cases rs with
 | nil=>rw [qI g1 g2 rfl rfl]; rfl
 | cons z R=>
  have q1:cJ (.ref a) h=some ((z :: R).map PV.ref):=by simp [cJ,aN,g1]
  have q2:cJ (.ref b) h=some []:=by simp [cJ,aN,g2]
  have q3:PV.ds ((z :: R).map PV.ref)=none:=by simp [PV.ds,PV.d]
  have n2:iJ (.ref a) (.ref b) h=none:=by
   unfold iJ;simp only [PV.d,q1,q2,q3]
  rw [n2];simp only [q1,q2];rfl
structure Lst (hs:List Str) (R:List Row) (q:Nat) (c:List Int):Prop where
 len:c.length=hs.length
 mi:∀ k n,k < hs.length->1<=n->(n<=c.getD k 0 ↔ ∀ x∈hs.take q,∃ z,nM R x=some z/\n<=z.c.getD k 0)
theorem Lst.all {hs:List Str} {R:List Row} {c:List Int} (a:Lst hs R hs.length c) {p:Str×Int} (h1:p.1∈hs) (h2:1<=p.2):decide (p.2<=c.getD (hs.idxOf p.1) 0)=allB hs R p:=by
 have m:=a.mi (hs.idxOf p.1) p.2 (gj.mpr h1) h2;rw [ie] at m;unfold allB;rw [gx,decide_eq_true_iff,m,bu];refine forall_congr' fun x=>forall_congr' fun hx=>?_;unfold tS;cases nM R x with
 | none=>simp
 | some z=>simp
def mn (n:Nat) (c f:List Int):List Int:=(ba n).map fun k=>if f.getD k 0 < c.getD k 0 then f.getD k 0 else c.getD k 0
theorem RG (n:Nat) (c f:List Int) {w:Nat} (h:w < n):(mn n c f).getD w 0=if f.getD w 0 < c.getD w 0 then f.getD w 0 else c.getD w 0:=by
 unfold mn;simp [h]
theorem atC {c:List Int} {n:Nat} (hc:c.length=n) {k:Nat} (hk:k < n):atI (c.map PV.int) (k:Int)=some (.int (c.getD k 0)):=dQ (by
 have:k < c.length:=by omega
 rw [aq];simp [this])
noncomputable def RI:Ms:=bG 2 (bF [none,some 2,some 4] (iD (aB (mCB fG (aB (mV 0) aH)) aH)) (gN 0) dS (mCB qY (aB (aD vAt (mV 1) (mV 0)) (aB (aD vAt (aD vAt (mV 2) (mUn C9 (mC (.int 1)))) (mV 0)) aH))))
theorem V8 {hs:List Str} (h6:hs.length<=6) {c f:List Int} (lc:c.length=hs.length) (lf:f.length=hs.length) {lh lm r l:Nat} {rs:List Nat} {h:PH} (gh:h[lh]?=some (.lst (hs.map PV.str))) (gl:h[l]?=some (.lst (c.map PV.int))) (gm:h[lm]?=some (.lst ((rs++[r]).map PV.ref))) (gr:h[r]?=some (.lst (f.map PV.int))) {x1 x3:Option PV} {E:FE}
  (k:∀ l' h',Ext h h'->h'[l']?=some (.lst ((mn hs.length c f).map PV.int))->E.nx [some (.ref lh),x1,some (.ref l'),x3,some (.ref lm)] h'):
  (RI [some (.ref lh),x1,some (.ref l),x3,some (.ref lm)] h).W E:=by
 have hl:=gP gh;rw [ae] at hl;have hc:=xV (js:=[none,some 2,some 4]) (tg:=gN 0) (tst:=dS) (elt:=mCB qY (aB (aD vAt (mV 1) (mV 0)) (aB (aD vAt (aD vAt (mV 2) (mUn C9 (mC (.int 1)))) (mV 0)) aH))) (ms:=aB (mCB fG (aB (mV 0) aH)) aH)
  (δ:=[some (.ref lh),x1,some (.ref l),x3,some (.ref lm)]) (h:=h) (h1:=h) (j:=hs.length) (fun i=>some (.int (if f.getD i 0 < c.getD i 0 then f.getD i 0 else c.getD i 0))) (by simp [hl]) (by omega)
  (fun i hi=>⟨_,rfl,fun h3 x3=>⟨rfl,by
   have hi':i < hs.length:=by omega
   have e0:atI ((rs++[r]).map PV.ref) (-1)=some (.ref r):=by rw [cw]; exact E2
   have v0:=cF (i:=-1) (x3 _ _ gm);rw [e0] at v0;have v1:=cF (i:=(i:Int)) (x3 _ _ gl);rw [atC lc hi'] at v1;have v2:=cF (i:=(i:Int)) (x3 _ _ gr);rw [atC lf hi'] at v2;simp [bW,v0,v1,v2]⟩⟩)
 unfold RI;rw [nL,hc,hZ];refine k _ _ (Ext.app _ _) ?_;rw [aJ];unfold mn;rw [bp]
 congr 2
 exact (filterMap_some _ _).trans (by simp)
theorem V9 {hs:List Str} (h6:hs.length<=6) {R:List Row} (lR:R.length<=1000) (ok:∀ z∈R,dX hs z) {lh lr q:Nat} {x:Str} (hx:hs[q]?=some x) {h:PH} (gh:h[lh]?=some (.lst (hs.map PV.str))) (ra:RAt h lr R) {x2 x4:Option PV} (i2:(q=0/\x2=some .non)\/∃ l c,x2=some (.ref l)/\h[l]?=some (.lst (c.map PV.int))/\Lst hs R q c) {E:FE}
  (kr:∀ l h',Ext h h'->h'[l]?=some (.lst ((cx hs.length (0:Int)).map PV.int))->Lst hs R hs.length (cx hs.length 0)->E.rt (.ref l) h')
  (kn:∀ l c x4 h',Ext h h'->h'[l]?=some (.lst (c.map PV.int))->Lst hs R (q+1) c->E.nx [some (.ref lh),some (.ref lr),some (.ref l),some (.str x),x4] h'):
  (gX [some (.ref lh),some (.ref lr),x2,some (.str x),x4] h).W E:=by
 have hq:=(ab.mp hx).1;have htk:hs.take (q+1)=hs.take q++[x]:=by rw [gg,hx]; rfl
 have hc:=cU (m:=mV 1) (n:=lr) (js:=[none,none,some 3]) (tg:=gTp 2 (gCn (gN 0) (gCn (gN 1) gNl))) (tst:=bT (aD vEq (aD vAt (aD vAt (mV 0) (mC (.int 0))) (mC (.int 0))) (mV 2))) (elt:=mV 1) (δ:=[some (.ref lh),some (.ref lr),x2,some (.str x),x4]) (h:=h) (h1:=h) (ys:=R) (emb:=rwV)
  (fun z=>if hB x z.d=true then some (.ref z.r) else none) (by simp) ra.1 (by omega) (fun z _=>⟨[some (deV z.d),some (.ref z.r),some (.str x)],by simp [bW,rwV],fun h' _=>by
   by_cases e:z.d.nm.1=x
   ·have:hB x z.d=true:=decide_eq_true e;rw [this];simp [de0,pv0,e]
   ·have:hB x z.d=false:=decide_eq_false e;rw [this];simp [de0,pv0,e]⟩)
 rw [dY (fun z:Row=>hB x z.d) (fun z=>PV.ref z.r)] at hc;have em:(R.filter fun z=>hB x z.d).map (fun z=>PV.ref z.r)=((R.filter fun z=>hB x z.d).map (·.r)).map PV.ref:=by rw [bp]; rfl
 rw [em] at hc;have x1:Ext h (h++[MO.lst (((R.filter fun z=>hB x z.d).map (·.r)).map PV.ref)]):=Ext.app _ _;have g1:(h++[MO.lst (((R.filter fun z=>hB x z.d).map (·.r)).map PV.ref)])[h.length]?=some (.lst (((R.filter fun z=>hB x z.d).map (·.r)).map PV.ref)):=aJ;unfold gX;rw [aL];simp only [nL,hc,hZ];generalize h++[MO.lst (((R.filter fun z=>hB x z.d).map (·.r)).map PV.ref)]=hA at x1 g1;generalize h.length=lm at g1;refine now ?_;rw [aL];have xE:Ext hA (hA++[MO.lst []]):=Ext.app _ _;have eE:=RF (xE _ _ g1) (aJ (h:=hA) (o:=MO.lst []));have yA:=x1.trans xE;have gA:=xE _ _ g1;simp [eE];generalize hA++[MO.lst []]=hB' at xE yA gA
 by_cases hn:(R.filter fun z=>hB x z.d)=[]
 ·have ln:nM R x=none:=by unfold nM; rw [hn]; rfl
  have hz:∀ a∈R,hB x a.d=false:=fun a ha=>by
   have:=List.filter_eq_nil_iff.mp hn a ha;simpa using this
  rw [if_pos (by simpa using hz)]
  have h2:=cU (m:=mV 0) (n:=lh) (js:=[none]) (tg:=gN 0) (tst:=dS) (elt:=mC (.int 0)) (δ:=[some (.ref lh),some (.ref lr),x2,some (.str x),some (.ref lm)]) (h:=hB') (h1:=hB') (ys:=hs) (emb:=PV.str)
   (fun _=>some (.int 0)) (by simp) (yA _ _ gh) (by omega) (fun _ _=>⟨_,rfl,fun h' _=>⟨rfl,by simp⟩⟩)
  rw [filterMap_some] at h2;rw [h2,hZ];refine kr _ _ (yA.trans (Ext.app _ _)) ?_ ⟨by simp,fun k n hk h1=>?_⟩
  ·rw [aJ]
   congr 2
   simp [List.map_const']
  ·have e0:(cx hs.length (0:Int)).getD k 0=0:=by simp [hk]
   rw [e0];constructor
   ·intro z; omega
   ·intro z;obtain ⟨y,hy,_⟩:=z x (by rw [ie]; exact cf hx);rw [ln] at hy;cases hy
 ·have hz:¬ ∀ a∈R,hB x a.d=false:=fun q=>hn (List.filter_eq_nil_iff.mpr fun a ha=>by rw [q a ha]; simp);rw [if_neg (by simpa using hz)]
  obtain ⟨z,ez⟩:∃ z,nM R x=some z:=by
   unfold nM;cases e:(R.filter fun z=>hB x z.d).getLast? with
   | none=>exact absurd (List.getLast?_eq_none_iff.mp e) hn
   | some z=>exact ⟨z,rfl⟩
  obtain ⟨ini,ei⟩:=List.getLast?_eq_some_iff.mp ez;rw [ei,cw] at gA;have gA:hB'[lm]?=some (.lst ((ini.map (·.r)++[z.r]).map PV.ref)):=gA;have mz:z∈R:=(de.mp (show z∈R.filter fun z=>hB x z.d by rw [ei]; simp)).1;have gz:=yA _ _ (ra.2 z mz);have lz:=(ok z mz).len;have fin:∀ (l:Nat) (c:List Int),hB'[l]?=some (.lst (c.map PV.int))->c.length=hs.length->(∀ k n,k < hs.length->1<=n->((n<=c.getD k 0/\n<=z.c.getD k 0) ↔ ∀ y∈hs.take (q+1),∃ z,nM R y=some z/\n<=z.c.getD k 0))->Lt RI E [some (.ref lh),some (.ref lr),some (.ref l),some (.str x),some (.ref lm)] hB':=fun l c gc lc hm=>by
   refine now ?_;refine V8 h6 lc lz (yA _ _ gh) gc gA gz fun l' h' x' g'=>?_;refine kn l' _ _ h' (yA.trans x') g' ⟨by unfold mn; simp,fun k n hk h1=>?_⟩;rw [RG _ _ _ hk,<- hm k n hk h1];split <;> omega
  refine now ?_;rw [aL]
  show (iM (bT (aD vIs (mV 2) (mC .non))) (bG 2 (aD vAt (mV 4) (mUn C9 (mC (.int 1))))) kO _ _).W { E with nx:=Lt RI E }
  have e0:atI ((ini.map (·.r)++[z.r]).map PV.ref) (-1)=some (.ref z.r):=by rw [cw]; exact E2
  have v0:=cF (i:=-1) gA;rw [e0] at v0;rcases i2 with ⟨q0,rfl⟩ | ⟨l,c,rfl,gl,ls⟩
  ·subst q0;simp [iK,v0];refine fin z.r z.c gz lz fun k n hk h1=>?_;rw [htk];simp;rw [ez];simp
  ·simp [iK];refine fin l c (yA _ _ gl) ls.len fun k n hk h1=>?_;rw [htk,ls.mi k n hk h1];constructor
   ·rintro ⟨a1,a2⟩ y hy;rcases bj.mp hy with hy | hy
    ·exact a1 y hy
    ·simp at hy;subst hy;exact ⟨z,ez,a2⟩
   ·intro a;refine ⟨fun y hy=>a y (dh _ hy),?_⟩;obtain ⟨z',e',le⟩:=a x (af _ (by simp));rw [ez] at e';cases e'
    exact le
theorem Kk {hs:List Str} (h0:hs≠[]) (h6:hs.length<=6) {R:List Row} (lR:R.length<=1000) (ok:∀ z∈R,dX hs z) {lh lr:Nat} {h:PH} (gh:h[lh]?=some (.lst (hs.map PV.str))) (ra:RAt h lr R) (Q:PV->PH->Prop)
  (k:∀ l c h',Ext h h'->h'[l]?=some (.lst (c.map PV.int))->Lst hs R hs.length c->Q (.ref l) h'):(fM [.ref lh,.ref lr] h).W Q:=by
 refine dZ ?_;unfold jU;rw [aL];simp;refine now ?_;rw [aL];refine sX (n:=lh) (xs:=hs.map PV.str) (h1:=h) (fun q δ h'=>Ext h h'/\∃ x2 x3 x4,δ=[some (.ref lh),some (.ref lr),x2,x3,x4]/\((q=0/\x2=some .non)\/∃ l c,x2=some (.ref l)/\h'[l]?=some (.lst (c.map PV.int))/\Lst hs R q c)) (by simp) gh ⟨Ext.refl _,_,_,_,rfl,.inl ⟨rfl,rfl⟩⟩ ?_ ?_ ?_
 ·rintro q δ h' _ ⟨x,_⟩;exact x _ _ gh
 ·rintro q y δ h' hy ⟨x1,x2,x3,x4,rfl,i2⟩;rw [aq] at hy;obtain ⟨x,hx,rfl⟩:=bf.mp hy;refine ⟨_,rfl,?_⟩;exact V9 h6 lR ok hx (x1 _ _ gh) (ra.ext x1) i2 (fun l h2 y2 g2 l2=>k l _ h2 (x1.trans y2) g2 l2) fun l c x4 h2 y2 g2 l2=>⟨x1.trans y2,_,_,_,rfl,.inr ⟨l,c,rfl,g2,l2⟩⟩
 ·rintro δ h' ⟨x1,x2,x3,x4,rfl,i2⟩;refine now ?_;rw [ae] at i2;rcases i2 with ⟨q0,_⟩ | ⟨l,c,rfl,gl,ls⟩
  ·exact absurd (List.length_eq_zero_iff.mp q0) h0
  ·simp;exact k l c h' x1 gl ls
noncomputable def bnd (hs:List Str) (T:List De):Int:=lM (hs.map fun x=>stV (maxD ((T.filter fun d=>acB d.ac).filter fun d=>decide (d.nm.1=x))))
theorem EB {hs:List Str} {R:List Row}:∀ {vs:List PV} (P:Nat->Str->Seen->Prop),(∀ (i:Nat) (v:PV),vs[i]?=some v->∃ x S,hs[i]?=some x/\v=sv S/\P i x S)->∃ Ss:List Seen,vs=Ss.map sv/\∀ (i:Nat) (S:Seen),Ss[i]?=some S->∃ x S',hs[i]?=some x/\sv S=sv S'/\P i x S'
 | [],_,_=>⟨[],rfl,fun i S h=>by simp at h⟩
 | v :: vs,P,h=>by
  obtain ⟨x,S,hx,rfl,hp⟩:=h 0 v rfl;cases hs with
  | nil=>simp at hx
  | cons y hs=>
   obtain ⟨Ss,e,q⟩:=EB (hs:=hs) (R:=R) (vs:=vs) (fun i=>P (i+1)) fun i u hu=>by
    obtain ⟨x',S',h1,h2,h3⟩:=h (i+1) u (by simpa using hu)
    exact ⟨x',S',by simpa using h1,h2,h3⟩
   refine ⟨S :: Ss,by rw [e]; rfl,fun i S' hi=>?_⟩;cases i with
   | zero=>
    simp at hi;subst hi;exact ⟨x,S,hx,rfl,hp⟩
   | succ i=>
    obtain ⟨x',S'',h1,h2,h3⟩:=q i S' (by simpa using hi)
    exact ⟨x',S'',by simpa using h1,h2,h3⟩
theorem V' {S T:Seen} (h:sv S=sv T):S=T:=by
 have h:S.map pv=T.map pv:=PV.tup.inj h;exact (List.map_inj_right fun a b e=>tQ e).mp h
theorem nI.ok {hs:List Str} (h6:hs.length<=6) {R:List Row} (ok:∀ z∈R,dX hs z) {os:List Dd} (o:nI R os) {d:Dd} (h:d∈os):d.seen.length<=100/\d.nm.1∈hs/\1<=d.nm.2:=by
 obtain ⟨z,hz,rfl⟩:=(o.me d).mp h;obtain ⟨w,c0,hw,lc,c1,ec,en,so⟩:=(ok z hz).ex;refine ⟨(ok z hz).l100 h6,?_,?_⟩
 ·show z.d.nm.1∈hs
  rw [en];have:hs.getD w "" = hs[w]:=by simp [hw]
  show hs.getD w "" ∈ hs
  rw [this];exact e9 hw
 ·show 1<=z.d.nm.2
  rw [en]
  show 1<=c0.getD w 0+1
  omega
theorem Va {hs:List Str} (h6:hs.length<=6) {R:List Row} (ok:∀ z∈R,dX hs z) {T:List De} (mem:∀ d,d∈T ↔ d∈R.map (·.d)):∀ d∈T,d.sn.length<=1000:=fun d hd=>by
 obtain ⟨z,hz,rfl⟩:=au.mp ((mem d).mp hd);have:=(ok z hz).l100 h6;omega
theorem nI.len {R:List Row} {os:List Dd} (o:nI R os) (inc:Inc R):os.length=R.length:=by
 have n:=J1 inc;have p:os.Perm (R.map fun z=>dD z.d):=(m5 (i6 _ (fun a b q e=>q (by rw [e])) o.nd) (i6 _ (fun a b q e=>q (by rw [e])) n)).mpr fun d=>(o.me d).trans (by rw [au]);rw [p.length_eq,ae]
def kI (hs:List Str) (R:List Row) (M:Int) (os:List Dd):List (Str×Int):=((os.filter (fD M)).map (·.nm)).filter (allB hs R)
theorem CI {hs:List Str} (nd:hs.Nodup) (h0:hs≠[]) (h6:hs.length<=6) {R:List Row} (inc:Inc R) (ok:∀ z∈R,dX hs z) (lR:R.length<=60) {T:List De} (lT:T.length<=63) (mem:∀ d,d∈T ↔ d∈R.map (·.d)) {os:List Dd} (o:nI R os) {lh l:Nat} {h:PH} (gh:h[lh]?=some (.lst (hs.map PV.str))) (g:h[l]?=some (.lst (T.map deV))) (Q:PV->PH->Prop)
  (k:∀ l' h',Ext h h'->h.length<=l'->h'[l']?=some (.lst ((kI hs R (bnd hs T) os).map pv))->Q (.ref l') h'):(oM [.ref lh,.ref l] h).W Q:=by
 refine dZ ?_;unfold Gv;rw [aL];simp;refine yY h0 h6 (by omega) (Va h6 ok mem) gh g _ fun h1 x1=>?_;have lo:=o.len inc;generalize hM:lM (hs.map fun x=>stV (maxD ((T.filter fun d=>acB d.ac).filter fun d=>decide (d.nm.1=x))))=M;have hM:bnd hs T=M:=hM;rw [hM] at k;refine now ?_;rw [aL];obtain ⟨p2,h2,e2,l2,rfl,x2,g2⟩:=Ah (O7 h6 inc ok lT mem o (x1 _ _ g) (fun p h'=>∃ l,p=.ref l/\Ext h1 h'/\h'[l]?=some (.lst (os.map dP))) fun l h' y g=>⟨l,rfl,y,g⟩);rw [nL];refine wB (ys:=os) (emb:=dP) (fD M) (fun d=>pv d.nm) (dU (by rw [qG]; simp [e2]) g2) (cT g2) (by omega) (fun d hd=>⟨_,rfl,fun h3 x3 Q3 k3=>?_,fun h3 x3=>by simp [bW,dP0]⟩) fun l3 h3 x3 _ g3=>?_
 ·simp [bW];refine tR d (o.ok h6 ok hd).1 _ _ fun h5 x5=>?_;simp;exact k3 _ x5
 refine now ?_;rw [aL,nL];have y3:=(x1.trans x2).trans x3;refine CD (fun i v=>∃ x S,hs[i]?=some x/\v=sv S/\∀ p:Str×Int,p.1∈hs->1<=p.2->Ak S p=tS hs R p x) (dU (by simp) (y3 _ _ gh)) (cT (y3 _ _ gh)) (by rw [ae]; omega) (fun i v hv=>?_) fun l4 h4 vs x4 _ lv g4 ov=>?_
 ·rw [aq] at hv;obtain ⟨x,hx,rfl⟩:=bf.mp hv;refine ⟨_,rfl,fun h5 x5 Q5 k5=>?_⟩;simp [bW];refine NU nd h6 inc ok (by omega) mem x (x5 _ _ (y3 _ _ g)) _ fun v h6' x6 dv=>?_;obtain ⟨S,eS,hS⟩:=RD dv;exact k5 v h6' x6 ⟨x,S,hx,eS,hS⟩
 refine now ?_;rw [ae] at lv;obtain ⟨Ss,rfl,oS⟩:=EB (R:=R) (fun i x S=>∀ p:Str×Int,p.1∈hs->1<=p.2->Ak S p=tS hs R p x) ov;rw [ae] at lv;rw [qE];have g3':=x4 _ _ g3;have e3:((os.filter (fD M)).map fun d=>pv d.nm)=((os.filter (fD M)).map (·.nm)).map pv:=by rw [bp]; rfl
 rw [e3] at g3';refine wB (ys:=(os.filter (fD M)).map (·.nm)) (emb:=pv) (allB hs R) pv (dU (by simp) g3') (cT g3') ?_ (fun p hp=>⟨_,rfl,fun h5 x5 Q5 k5=>?_,fun h5 x5=>by simp [bW]⟩) fun l6 h6' x6 l6' g6=>?_
 ·rw [ae];have:=jw (fD M) os;omega
 ·obtain ⟨d,hd,rfl⟩:=au.mp hp;obtain ⟨_,d2,d3⟩:=o.ok h6 ok (de.mp hd).1;have g4':=x5 _ _ g4;have hc:=cU (m:=mV 1) (n:=l4) (js:=[none,some 0]) (tg:=gN 0) (tst:=dS) (elt:=aY 2 iY (aB (mV 0) (aB (mV 1) aH))) (δ:=[some (pv d.nm),some (.ref l4)]) (h:=h5) (h1:=h5) (ys:=Ss) (emb:=sv)
   (fun S=>some (.bl (Ak S d.nm))) (by simp) g4' (by omega) (fun S hS=>⟨_,rfl,fun h7 x7=>⟨rfl,by simp [bW,Kj]⟩⟩)
  rw [filterMap_some] at hc;have eb:(Ss.map fun S=>PV.bl (Ak S d.nm))=(hs.map (tS hs R d.nm)).map PV.bl:=by
   rw [bp];refine gd fun i=>?_;rw [aq,aq];cases e:Ss[i]? with
   | none=>
    have:hs[i]?=none:=by
     rw [j3] at e ⊢;omega
    rw [this];rfl
   | some S=>
    obtain ⟨x,S',hx,es,hS⟩:=oS i S e;rw [V' es,hx];simp only [Option.map_some,Function.comp];rw [hS d.nm d2 d3]
  rw [eb] at hc;have g8:(h5++[MO.lst ((hs.map (tS hs R d.nm)).map PV.bl)])[h5.length]?=some (.lst ((hs.map (tS hs R d.nm)).map PV.bl)):=aJ;have x8:Ext h5 (h5++[MO.lst ((hs.map (tS hs R d.nm)).map PV.bl)]):=Ext.app _ _;have va:=N4 g8;have ea:(hs.map (tS hs R d.nm)).all id=allB hs R d.nm:=by rw [List.all_map]; rfl
  rw [ea] at va;have k5:=k5 _ x8;generalize h5++[MO.lst ((hs.map (tS hs R d.nm)).map PV.bl)]=h8 at hc va k5;simp [bW] at hc ⊢;rw [hc,hZ,va];simp;exact k5
 ·exact k l6 h6' ((y3.trans x4).trans x6) (df (y3.trans x4).len l6') g6
structure InF (R:List Row) (out:List Dd):Prop where
 nd:(out.map (·.nm)).Nodup
 br:lW out
 ex:∃ L:List Dd,(L.map (·.nm)).Nodup/\Bv L/\(∀ d,d∈L ↔ ∃ z∈R,dD z.d=d)/\∀ d,d∈out ↔ (∃ z∈R,dD z.d=d)/\¬ TkL L d.nm
theorem InF.one {R:List Row} {a b:List Dd} (x:InF R a) (y:InF R b):a=b:=by
 obtain ⟨F,f0,f1,f2,f3⟩:=x.ex;obtain ⟨G,g0,g1,g2,g3⟩:=y.ex;have e:=O5 f0 g0 f1 g1 fun d=>(f2 d).trans (g2 d).symm;subst e;exact yZ x.nd y.nd x.br y.br fun d=>(f3 d).trans (g3 d).symm
theorem EC {hs:List Str} (h6:hs.length<=6) {R:List Row} (inc:Inc R) (ok:∀ z∈R,dX hs z) {T:List De} (lT:T.length<=63) (mem:∀ d,d∈T ↔ d∈R.map (·.d)) {l:Nat} {h:PH} (g:h[l]?=some (.lst (T.map deV))) (Q:PV->PH->Prop)
  (k:∀ out l' h',Ext h h'->h'[l']?=some (.lst (out.map dP))->InF R out->Q (.ref l') h'):(eN [.ref l] h).W Q:=by
 obtain ⟨t1,t2,t3⟩:=Xl h6 inc ok mem;rw [CH] at g;refine EA (T.map dD) t1 (by rw [ae]; exact lT) t2 l h g Q fun out L l' h' x' g' f b'=>?_;exact k out l' h' x' g' ⟨f.nd,b',L,f.ln,f.fall,fun d=>(f.mem d).trans (t3 d),fun d=>by rw [f.out d,t3 d]⟩
theorem InF.sub {R:List Row} {out:List Dd} (x:InF R out) {d:Dd} (h:d∈out):∃ z∈R,dD z.d=d:=by
 obtain ⟨F,f0,f1,f2,f3⟩:=x.ex;exact ((f3 d).mp h).1
theorem InF.len {R:List Row} {out:List Dd} (x:InF R out):out.length<=R.length:=by
 have h1:(out.map (·.nm)).length<=(R.map fun z=>z.d.nm).length:=iu x.nd fun p hp=>by
  obtain ⟨d,hd,rfl⟩:=au.mp hp;obtain ⟨z,hz,rfl⟩:=x.sub hd;exact au.mpr ⟨z,hz,rfl⟩
 simpa using h1
theorem zA {hs:List Str} (h0:hs≠[]) (h6:hs.length<=6) {R:List Row} (inc:Inc R) (ok:∀ z∈R,dX hs z) (lR:R.length<=60) {T:List De} (lT:T.length<=63) (mem:∀ d,d∈T ↔ d∈R.map (·.d)) {out:List Dd} (o:InF R out) {lh l:Nat} {h:PH} (gh:h[lh]?=some (.lst (hs.map PV.str))) (g:h[l]?=some (.lst (T.map deV))) (Q:PV->PH->Prop)
  (k:∀ l' h',Ext h h'->h.length<=l'->h'[l']?=some (.lst ((out.filter (fD (bnd hs T))).map dP))->Q (.ref l') h'):(fP [.ref lh,.ref l] h).W Q:=by
 refine dZ ?_;unfold tN;rw [aL];simp;refine yY h0 h6 (by omega) (Va h6 ok mem) gh g _ fun h1 x1=>?_;generalize hM:lM (hs.map fun x=>stV (maxD ((T.filter fun d=>acB d.ac).filter fun d=>decide (d.nm.1=x))))=M;have hM:bnd hs T=M:=hM;rw [hM] at k;refine now ?_;rw [qE];obtain ⟨p2,h2,e2,l2,rfl,x2,g2⟩:=Ah (EC h6 inc ok lT mem (x1 _ _ g) (fun p h'=>∃ l,p=.ref l/\Ext h1 h'/\h'[l]?=some (.lst (out.map dP))) fun out' l h' y g o'=>⟨l,rfl,y,by rw [o.one o']; exact g⟩);have lo:=o.len;refine wB (ys:=out) (emb:=dP) (fD M) dP (dU (by rw [qG]; simp [e2]) g2) (cT g2) (by omega) (fun d hd=>⟨_,rfl,fun h3 x3 Q3 k3=>?_,fun h3 x3=>by simp [bW]⟩) fun l3 h3 x3 l3' g3=>?_
 ·obtain ⟨z,hz,rfl⟩:=o.sub hd;simp [bW];refine tR (dD z.d) ((ok z hz).l100 h6) _ _ fun h5 x5=>?_;simp;exact k3 _ x5
 ·exact k l3 h3 ((x1.trans x2).trans x3) (df (x1.trans x2).len l3') g3
theorem RJ {R:List Row} (inc:Inc R) {os out:List Dd} (o:nI R os) (f:InF R out) (M:Int):(os.filter (fD M)).filter (fun d=>decide (dP d∈out.map dP))=out.filter (fD M):=by
 refine yZ ?_ ?_ ?_ ?_ fun d=>?_
 ·exact ((fw.trans fw).map _).nodup o.nd
 ·exact (fw.map _).nodup f.nd
 ·exact o.br.sublist (fw.trans fw)
 ·exact f.br.sublist fw
 ·rw [de,de,de,decide_eq_true_iff];constructor
  ·rintro ⟨⟨h1,h2⟩,h3⟩;obtain ⟨e,he,ee⟩:=au.mp h3;obtain ⟨z,hz,rfl⟩:=(o.me d).mp h1;obtain ⟨y,hy,rfl⟩:=f.sub he;have e1:pv y.d.nm=pv z.d.nm:=by
    have:=PV.tup.inj ee;simp at this;exact this.1
   rw [Gz inc hy hz (tQ e1)] at he;exact ⟨he,h2⟩
  ·rintro ⟨h1,h2⟩;exact ⟨⟨(o.me d).mpr (f.sub h1),h2⟩,au.mpr ⟨d,h1,rfl⟩⟩
theorem zB (ps:List (Str×Int)):(ps.map pv).all (PV.pl 39)=true:=by
 rw [bu];intro x hx;obtain ⟨p,_,rfl⟩:=au.mp hx;rfl
theorem O8 {R:List Row} {xs:List Dd} (h:∀ d∈xs,∃ z∈R,dD z.d=d):(xs.map dP).all (PV.pl 39)=true:=by
 rw [bu];intro x hx;obtain ⟨d,hd,rfl⟩:=au.mp hx;obtain ⟨z,_,rfl⟩:=h d hd;exact Tq
theorem ED {h hX:PH} {o:MO} {n:Nat} (x:Ext h hX) (hn:h.length<=n):Ext h (hX.set n o):=fun m o' e=>by
 have:=(ab.mp e).1;rw [a8 (by omega)];exact x m o' e
theorem EE {hs:List Str} (nd:hs.Nodup) (h0:hs≠[]) (h6:hs.length<=6) {R:List Row} (inc:Inc R) (ok:∀ z∈R,dX hs z) (lR:R.length<=60) {lh lr:Nat} (c:Int) {h:PH} (gh:h[lh]?=some (.lst (hs.map PV.str))) (ra:RAt h lr R) (Q:PV->PH->Prop) (k:∀ h',Ext h h'->Q (.bl true) h'):(mR [.ref lh,.ref lr,.int c] h).W Q:=by
 refine dZ ?_;unfold Cy;rw [aL,show List.map some [PV.ref lh,PV.ref lr,PV.int c]++cx (11 - [PV.ref lh,PV.ref lr,PV.int c].length) none=[some (.ref lh),some (.ref lr),some (.int c),none,none,none,none,none,none,none,none] from rfl]
 have hc:=cU (m:=mV 1) (n:=lr) (js:=[none,none]) (tg:=gTp 2 (gCn (gN 0) (gCn (gN 1) gNl))) (tst:=dS) (elt:=mV 0) (δ:=[some (.ref lh),some (.ref lr),some (.int c),none,none,none,none,none,none,none,none]) (h:=h) (h1:=h) (ys:=R) (emb:=rwV)
  (fun z=>some (deV z.d)) (by simp) ra.1 (by omega) (fun z _=>⟨[some (deV z.d),some (.ref z.r)],by simp [bW,rwV],fun h' _=>⟨rfl,by simp⟩⟩)
 rw [filterMap_some (fun z:Row=>deV z.d) R] at hc;have x1:Ext h (h++[MO.lst (R.map fun z=>deV z.d)]):=Ext.app _ _;have g1:(h++[MO.lst (R.map fun z=>deV z.d)])[h.length]?=some (.lst ((R.map (·.d)).map deV)):=by rw [bp]; exact aJ
 generalize h++[MO.lst (R.map fun z=>deV z.d)]=hA at hc x1 g1;generalize h.length=lp at hc g1;simp only [nL,hc,hZ];refine now ?_;rw [aL];simp;refine Kh (by rw [ae]; omega) c g1 _ fun T lt hB xB gB mem lT=>?_;rw [ae] at lT;have xB':=x1.trans xB;have gp:=xB _ _ g1;clear hc g1 x1 xB;refine now ?_;rw [aL];have vl:=rN gB;have xC:Ext hB (hB++[MO.lst (T.map deV)]):=Ext.app _ _;have gC:(hB++[MO.lst (T.map deV)])[hB.length]?=some (.lst (T.map deV)):=aJ;have gB':=xC _ _ gB;generalize hB++[MO.lst (T.map deV)]=hC at vl xC gC gB';generalize hB.length=lhd at vl gC;simp [vl];have gp:=xC _ _ gp;have xC:=xB'.trans xC;clear vl gB xB';refine now ?_;rw [aL];simp;refine yY h0 h6 (by omega) (Va h6 ok mem) (xC _ _ gh) gB' _ fun hD xD=>?_;generalize hM:lM (hs.map fun x=>stV (maxD ((T.filter fun d=>acB d.ac).filter fun d=>decide (d.nm.1=x))))=M;have hM:bnd hs T=M:=hM;have x2:=xC.trans xD;refine now ?_;rw [aL];simp;refine Kk h0 h6 (by omega) ok (x2 _ _ gh) (ra.ext x2) _ fun l7 c7 hE xE g7 ls=>?_;have xE':=xD.trans xE;refine now ?_;rw [aL];obtain ⟨p8,h8,e8,os,l8,o,rfl,x8,g8⟩:=Ah (J3 h6 lR inc ok M (xE' _ _ gp) (fun p h'=>∃ os l,nI R os/\p=.ref l/\Ext hE h'/\h'[l]?=some (.lst ((os.filter (fD M)).map dP))) fun os l h' o y g=>⟨os,l,o,rfl,y,g⟩);have lo:=o.len inc;have lo2:=jw (fD M) os;have xC8:=xE'.trans x8;have gh8:=(xC.trans xC8) _ _ gh;have hc:=cU (m:=aY 2 jW (aB (mV 3) (aB (mV 6) aH))) (n:=l8) (js:=[none,some 7,some 0]) (tg:=gN 0) (tst:=bT (aD vLe (aD vAt (aD vAt (mV 0) (mC (.int 0))) (mC (.int 1))) (aD vAt (mV 1) (mMt isL oJ (mV 2) (aB (aD vAt (aD vAt (mV 0) (mC (.int 0))) (mC (.int 0))) aH))))) (elt:=aD vAt (mV 0) (mC (.int 0))) (δ:=[some (.ref lh),some (.ref lr),some (.int c),some (.ref lp),some (.ref lt),some (.ref lhd),some (.int M),some (.ref l7),none,none,none]) (h:=hE) (h1:=h8) (ys:=os.filter (fD M)) (emb:=dP)
  (fun d=>if allB hs R d.nm=true then some (pv d.nm) else none) (by rw [qG]; simp [e8]) g8 (by omega) (fun d hd=>⟨_,rfl,fun h3 x3=>by
   obtain ⟨d1,d2,d3⟩:=o.ok h6 ok (de.mp hd).1;have v1:=Bl (x3 _ _ gh8) d2;have v2:=eY (x3 _ _ gh8);have v3:=cF (i:=((hs.idxOf d.nm.1:Nat):Int)) (x3 _ _ (x8 _ _ g7));rw [atC ls.len (gj.mpr d2)] at v3;have la:=ls.all d2 d3;cases e:allB hs R d.nm with
   | true=>
    rw [e] at la;have la:=of_decide_eq_true la;simp [bW,dP0,pv0,pv1,v1,v2,v3];exact la
   | false=>
    rw [e] at la;have la:=of_decide_eq_false la;simp [bW,dP0,pv0,pv1,v1,v2,v3];exact Int.not_le.mp la⟩)
 rw [dY (fun d:Dd=>allB hs R d.nm) (fun d=>pv d.nm)] at hc;have ed:((os.filter (fD M)).filter fun d=>allB hs R d.nm).map (fun d=>pv d.nm)=(kI hs R M os).map pv:=by
  unfold kI;rw [List.filter_map,bp];rfl
 rw [ed] at hc;have x9:Ext h8 (h8++[MO.lst ((kI hs R M os).map pv)]):=Ext.app _ _;have g9:(h8++[MO.lst ((kI hs R M os).map pv)])[h8.length]?=some (.lst ((kI hs R M os).map pv)):=aJ;generalize h8++[MO.lst ((kI hs R M os).map pv)]=h9 at hc x9 g9;generalize h8.length=l9 at hc g9;simp only [nL,hc,hZ];have xC9:=xC8.trans x9;have xh9:=xC.trans xC9;have gT9:=xC9 _ _ gC;have gt9:=xC9 _ _ gB';have gp9:=xC9 _ _ gp;clear hc e8 g8 gh8 gp gC gB' g7 xD xE xE' x2;refine now ?_;rw [aL];have vh:=rN (xh9 _ _ gh);have xF:Ext h9 (h9++[MO.lst (hs.map PV.str)]):=Ext.app _ _;have gF:(h9++[MO.lst (hs.map PV.str)])[h9.length]?=some (.lst (hs.map PV.str)):=aJ;simp [vh];clear vh;generalize h9++[MO.lst (hs.map PV.str)]=hF at xF gF;refine CI nd h0 h6 inc ok lR (by omega) mem o gF (xF _ _ gT9) _ fun l10 h10 x10 b10 g10=>?_;rw [hM] at g10;refine now ?_;rw [aL];have ne:=IF g10 (x10 _ _ (xF _ _ g9)) (zB _) (zB _);rw [decide_eq_true rfl] at ne;simp [E1 g10,known,kE,ne];refine now ?_;rw [aL];have lsk:(kI hs R M os).length<=60:=by
  unfold kI;refine df (jw _ _) ?_;rw [ae];omega
 have ap:=eK (p:=.tup [.str "a",.int 1]) g10 (by rw [ae]; omega);simp [eY g10,ap];have xG:=xF.trans (ED (o:=MO.lst ((kI hs R M os).map pv++[.tup [.str "a",.int 1]])) x10 b10);generalize h10.set l10 (MO.lst ((kI hs R M os).map pv++[.tup [.str "a",.int 1]]))=hG at xG;clear ne ap g10 x10 b10 gF xF;refine now ?_;rw [aL];simp;refine EC h6 inc ok (by omega) mem (xG _ _ gt9) _ fun out l11 h11 x11 g11 fo=>?_;have x911:=xG.trans x11;refine now ?_;rw [aL];have vh:=rN (x911 _ _ (xh9 _ _ gh));have xF:Ext h11 (h11++[MO.lst (hs.map PV.str)]):=Ext.app _ _;have gF:(h11++[MO.lst (hs.map PV.str)])[h11.length]?=some (.lst (hs.map PV.str)):=aJ;simp [vh];clear vh;generalize h11++[MO.lst (hs.map PV.str)]=hF at xF gF;refine zA h0 h6 inc ok lR (by omega) mem fo gF (xF _ _ (x911 _ _ gT9)) _ fun l12 h12 x12 b12 g12=>?_;rw [hM] at g12;have xF12:=xF.trans x12;refine now ?_;rw [aL];obtain ⟨p13,h13,e13,os',l13,o',rfl,x13,g13⟩:=Ah (J3 h6 lR inc ok M (xF12 _ _ (x911 _ _ gp9)) (fun p h'=>∃ os l,nI R os/\p=.ref l/\Ext h12 h'/\h'[l]?=some (.lst ((os.filter (fD M)).map dP))) fun os l h' o y g=>⟨os,l,o,rfl,y,g⟩);rw [o'.one o] at g13;have g11':=x13 _ _ (xF12 _ _ g11);have plo:(out.map dP).all (PV.pl 39)=true:=O8 (R:=R) fun d hd=>fo.sub hd;have hc:=cU (m:=aY 2 jW (aB (mV 3) (aB (mV 6) aH))) (n:=l13) (js:=[none,some 10]) (tg:=gN 0) (tst:=bT (aD Gf (mV 0) (mV 1))) (elt:=mV 0) (δ:=[some (.ref lh),some (.ref lr),some (.int c),some (.ref lp),some (.ref lt),some (.ref lhd),some (.int M),some (.ref l7),some (.ref l9),some (.ref l12),some (.ref l11)]) (h:=h12) (h1:=h13) (ys:=os.filter (fD M)) (emb:=dP)
  (fun d=>if decide (dP d∈out.map dP)=true then some (dP d) else none) (by rw [qG]; simp [e13]) g13 (by omega) (fun d hd=>⟨_,rfl,fun h3 x3=>by
   obtain ⟨z,hz,rfl⟩:=(o.me d).mp (de.mp hd).1;have v1:Gf (dP (dD z.d)) (.ref l11) h3=.ok (.bl (decide (dP (dD z.d)∈out.map dP))) h3:=by
    rw [Nc (x3 _ _ g11')];exact QY (x3 _ _ g11') Tq plo
   cases e:decide (dP (dD z.d)∈out.map dP) with
   | true=>
    rw [e] at v1;simp [bW,v1]
   | false=>
    rw [e] at v1;simp [bW,v1]⟩)
 rw [dY (fun d:Dd=>decide (dP d∈out.map dP)) dP,RJ inc o fo M] at hc;have x14:Ext h13 (h13++[MO.lst ((out.filter (fD M)).map dP)]):=Ext.app _ _;have g14:(h13++[MO.lst ((out.filter (fD M)).map dP)])[h13.length]?=some (.lst ((out.filter (fD M)).map dP)):=aJ;generalize h13++[MO.lst ((out.filter (fD M)).map dP)]=h14 at hc x14 g14;generalize h13.length=l14 at hc g14;have x1214:=x13.trans x14;have g12':=x1214 _ _ g12;have plq:((out.filter (fD M)).map dP).all (PV.pl 39)=true:=O8 (R:=R) fun d hd=>fo.sub (de.mp hd).1;have ne:=IF g12' g14 plq plq;rw [decide_eq_true rfl] at ne;simp [E1 g12,known,kE,hc,ne];refine now ?_;rw [aL];simp [eY g12',Kg g12'];have xH:=x911.trans (xF.trans (ED (o:=MO.lst []) (x12.trans x1214) b12));generalize h14.set l12 (MO.lst [])=hH at xH;refine now ?_;have eq1:=qJ (xH _ _ gT9) (xH _ _ gt9) (CB _) (CB _);rw [decide_eq_true rfl] at eq1;simp [eq1];refine CI nd h0 h6 inc ok lR (by omega) mem o (xH _ _ (xh9 _ _ gh)) (xH _ _ gt9) _ fun l15 h15 x15 b15 g15=>?_;rw [hM] at g15;have eq2:=qJ g15 (x15 _ _ (xH _ _ g9)) (zB _) (zB _);rw [decide_eq_true rfl] at eq2;simp [eq2];exact k _ (xh9.trans (xH.trans x15))
def mixed (c k:Int):Int:=
 let n:=(c+7919*k+1)*48271 % 2147483647
 n*(n / 1009+69621) % 2147483647
@[simp] theorem Xn (c k:Int) (h:PH):rA [.int c,.int k] h=.ok (.int (mixed c k)) h:=by
 simp (disch:=omega) [rA,mFn,Ct,aV,bG,cD,mixed]
theorem Vb (way many c:Int) (h:PH) (Q:PV->PH->Prop) (k:∀ a:Ac,Q (acV a) h):(Es [.int way,.int many,.int c] h).W Q:=by
 refine dZ ?_;unfold NH;rw [aL];simp;generalize mixed c 1=N;refine now ?_;rw [aL,uU];have last:∀ x4:Option PV,Lt (cD (hW (aB (mC (.str "add")) (aB (hW (aB (mC (.str "t")) (aB (mC (.int 1)) aH))) (aB (aD kN (mV 2) (aD UB (mC (.int 10)) (mC (.int 39)))) aH))))) { nx:=fun _ h=>Q .non h,rt:=Q } [some (.int way),some (.int many),some (.int c),some (.int N),x4] h:=fun x4=>by
  refine now ?_;have p39:(0:Int) < 10 ^ (39:Int).toNat:=by decide +kernel
  simp (disch:=first | omega | exact p39)
  exact k (.add _)
 by_cases e1:way < 2
 ·simp [e1];exact k .settle
 ·simp [e1];refine now ?_;rw [aL,uU]
  by_cases e2:way=2
  ·by_cases e3:0 < many
   ·simp [e2,e3];rw [aL];simp (disch:=omega);have b1:=jj N (b:=many) (by omega);have b2:=jv N (b:=many) (by omega);generalize N % many=f at b1 b2;refine now ?_;simp (disch:=omega);exact k (.back _ _)
   ·simp [e2,e3];have:=last none;rw [e2] at this;exact this
  ·simp [e2];exact last none
theorem lX {α:Type} (xs:List α) (i j:Nat) (v d:α) (hi:i < xs.length):(xs.set i v).getD j d=if i=j then v else xs.getD j d:=by
 by_cases e:i=j
 ·subst e; simp [hi]
 ·rw [if_neg e];simp [a8 e]
theorem J4 (z:Str) (n:Int):(Txt.mul z n).length=z.length*n.toNat:=by
 have h:=PyProof.Rows.len_mul z n
 by_cases h0:n < 0
 ·rw [if_pos (by simpa using h0)] at h
  have:n.toNat=0:=by omega
  rw [this]; omega
 ·rw [if_neg (by simpa using h0)] at h
  have e:((n.toNat:Nat):Int)=n:=by omega
  have h2:((Txt.mul z n).length:Int)=((z.length*n.toNat:Nat):Int):=by rw [h,Int.natCast_mul,e]
  exact Int.ofNat.inj h2
abbrev tk:Str:="k"
theorem GA:tk.length=1:=by decide +kernel
theorem O9 {n:Int} (h0:0<=n) (h1:n<=8) (h:PH):JT (.str tk) (.int n) h=.ok (.str (Txt.mul tk n)) h:=by
 simp only [JT];rw [if_pos ⟨by rw [GA]; omega,by omega,by omega⟩]
def hnd (a b:Str) (i:Int):Str:=a++⟨#[97+i.toNat]⟩++b
theorem RK {a b:Str} {i j:Int} (hi:0<=i) (hj:0<=j) (h:hnd a b i=hnd a b j):i=j:=by
 have e:=congrArg (fun z:Str=>z.cps.toList) h;simp only [hnd,app_list] at e;have e1:=List.append_cancel_left (List.append_cancel_right e);have e2:[97+i.toNat]=[97+j.toNat]:=e1;have e3:=List.cons.inj e2;omega
theorem O' {c s:Int} (hs:1<=s/\s<=8) {i j:Nat} (hi:i < j) (hj:j < 6) (h:(c+i*s) % 26=(c+j*s) % 26):False:=by
 obtain ⟨d,rfl⟩:∃ d,j=i+d:=⟨j - i,by omega⟩;have e:((i+d:Nat):Int)*s=i*s+d*s:=by rw [Int.natCast_add,Int.add_mul]
 rw [e] at h;generalize (i:Int)*s=a at h;have e2:((d:Int)*s) % 26=0:=by omega
 have cd:d=1\/d=2\/d=3\/d=4\/d=5:=by omega
 rcases cd with rfl | rfl | rfl | rfl | rfl <;> simp at e2 <;> omega
def Al (A B:Str) (c s:Int) (q:Nat):List Str:=(ba q).map fun (i:Nat)=>hnd A B ((c+(i:Int)*s) % 26)
theorem Kl (A B:Str) (c s:Int) (q:Nat):Al A B c s (q+1)=Al A B c s q++[hnd A B ((c+(q:Int)*s) % 26)]:=by simp [Al,List.range_succ]
theorem RL (A B:Str) (c s:Int) (hs:1<=s/\s<=8) {n:Nat} (hn:n<=6):(Al A B c s n).Nodup:=by
 unfold Al;refine c8.mpr ?_;refine List.Pairwise.imp_of_mem (fun {i j} hi hj ne e=>?_) (List.nodup_range (n:=n));have h1:=ip.mp hi;have h2:=ip.mp hj;have e:=RK (jj _ (by decide)) (jj _ (by decide)) e;rcases Nat.lt_or_gt_of_ne ne with z | z
 ·exact O' hs z (by omega) e
 ·exact O' hs z (by omega) e.symm
theorem Oa (c:Int) (h:PH) (Q:PV->PH->Prop) (k:∀ (hs:List Str) (l:Nat) h',Ext h h'->h.length<=l->1<=hs.length/\hs.length<=6->hs.Nodup->h'[l]?=some (.lst (hs.map PV.str))->Q (.ref l) h'):(qZ [.int c] h).W Q:=by
 refine dZ ?_;unfold Cs;rw [aL]; simp (disch:=omega);refine now ?_;rw [aL]; simp (disch:=omega);refine now ?_;rw [aL]; simp;have x0:Ext h (h++[MO.lst []]):=Ext.app _ _;have g0:(h++[MO.lst []])[h.length]?=some (.lst (([]:List Str).map PV.str)):=aJ;generalize h++[MO.lst []]=hA at x0 g0;have ha:0<=c / 8 % (1+c % 8)/\c / 8 % (1+c % 8) < 1+c % 8:=⟨jj _ (by omega),jv _ (by omega)⟩;generalize c / 8 % (1+c % 8)=a at ha;have hb:0<=1+c % 8 - 1 - a/\1+c % 8 - 1 - a<=8/\a<=8:=by omega
 generalize eA:Txt.mul tk a=A;generalize eB:Txt.mul tk (1+c % 8 - 1 - a)=B;have lA:A.length<=8:=by rw [<- eA,J4,GA]; omega
 have lB:B.length<=8:=by rw [<- eB,J4,GA]; omega
 refine now ?_;rw [aL];refine MW (j:=1+c / 5 % 6) (fun q δ h'=>Ext h h'/\h'[h.length]?=some (.lst ((Al A B (c / 64) (1+c / 3 % 8) q).map PV.str))/\∃ x4 x5,δ=[some (.int c),some (.int (1+c % 8)),some (.int a),some (.ref h.length),x4,x5]) (by simp (disch:=omega)) (by omega) ⟨x0,g0,_,_,rfl⟩ ?_ ?_
 ·rintro q δ h' hq ⟨x1,g1,x4,x5,rfl⟩;unfold Bm;rw [aL];have hi:0<=(c / 64+(q:Int)*(1+c / 3 % 8)) % 26/\(c / 64+(q:Int)*(1+c / 3 % 8)) % 26 < 26:=⟨jj _ (by decide),jv _ (by decide)⟩;have al:=Rn hi.1 hi.2;have vi:vIx (.str NN) (.int ((c / 64+(q:Int)*(1+c / 3 % 8)) % 26)) h'=.ok (.str ⟨#[97+((c / 64+(q:Int)*(1+c / 3 % 8)) % 26).toNat]⟩) h':=by rw [QV (by rw [Kb]; omega),al]; rfl
  have es:=Kl A B (c / 64) (1+c / 3 % 8) q;have lq:(Al A B (c / 64) (1+c / 3 % 8) q).length=q:=by simp [Al]
  simp (disch:=omega) [vi];refine now ?_;have r1:=O9 (n:=a) ha.1 hb.2.2 h';have r2:=O9 (n:=1+c % 8 - 1 - a) hb.1 hb.2.1 h';rw [eA] at r1;rw [eB] at r2;have p1:∀ x:Nat,cA (.str A) (.str ⟨#[x]⟩) h'=.ok (.str (A++⟨#[x]⟩)) h':=fun x=>B1 (by show A.length+1<=_; omega);have p2:∀ x:Nat,cA (.str (A++⟨#[x]⟩)) (.str B) h'=.ok (.str (A++⟨#[x]⟩++B)) h':=fun x=>B1 (by rw [NQ]; omega);have ap:=eK (p:=PV.str (hnd A B ((c / 64+(q:Int)*(1+c / 3 % 8)) % 26))) g1 (by rw [ae,lq]; omega);unfold hnd at ap es;have il:=eY g1;generalize (c / 64+(q:Int)*(1+c / 3 % 8)) % 26=j at ap al hi es vi;simp [il,r1,r2,p1,p2,ap];refine ⟨x1.setN (ao _),?_⟩;rw [dI g1,es,cw];rfl
 ·rintro δ h' ⟨x1,g1,x4,x5,rfl⟩;refine now ?_;have hm:1<=(1+c / 5 % 6).toNat/\(1+c / 5 % 6).toNat<=6:=by omega
  generalize (1+c / 5 % 6).toNat=m at g1 hm;have lq:(Al A B (c / 64) (1+c / 3 % 8) m).length=m:=by simp [Al]
  have nd:=RL A B (c / 64) (1+c / 3 % 8) (by omega) hm.2;simp;exact k _ _ _ x1 (ao _) (by rw [lq]; exact hm) nd g1
abbrev Cnt:=List (List Int×Nat)
def aZ (C:Cnt) (w:Nat):List Int:=(C.getD w ([],0)).1
def bX (C:Cnt) (w:Nat):Nat:=(C.getD w ([],0)).2
def tpw (C:Cnt) (w:Nat):Int:=(aZ C w).getD w 0
structure vU (hs:List Str) (C:Cnt) (c:List Int):Prop where
 len:c.length=hs.length
 nn:∀ w,0<=c.getD w 0
 le:∀ w,w < hs.length->c.getD w 0<=tpw C w
structure HI (hs:List Str) (C:Cnt) (R:List Row) (la lr:Nat) (h:PH):Prop where
 ga:h[la]?=some (.lst (C.map fun p=>PV.ref p.2))
 gc:∀ p∈C,h[p.2]?=some (.lst (p.1.map PV.int))
 len:C.length=hs.length
 ra:RAt h lr R
 ok:∀ z∈R,dX hs z
 inc:Inc R
 c1:∀ p∈C,vU hs C p.1
 c2:∀ z∈R,vU hs C z.c
 nd:(C.map (·.2)).Nodup
 s1:∀ p∈C,p.2≠la/\p.2≠lr
 s2:∀ z∈R,z.r≠la/\z.r≠lr/\∀ p∈C,z.r≠p.2
 s3:la≠lr
theorem HI.ext {hs:List Str} {C:Cnt} {R:List Row} {la lr:Nat} {h h':PH} (i:HI hs C R la lr h) (x:Ext h h'):HI hs C R la lr h':=
 ⟨x _ _ i.ga,fun p hp=>x _ _ (i.gc p hp),i.len,i.ra.ext x,i.ok,i.inc,i.c1,i.c2,i.nd,i.s1,i.s2,i.s3⟩
theorem HI.at {hs:List Str} {C:Cnt} {R:List Row} {la lr:Nat} {h:PH} (i:HI hs C R la lr h) {w:Nat} (hw:w < hs.length):C[w]?=some (aZ C w,bX C w)/\(aZ C w,bX C w)∈C/\h[bX C w]?=some (.lst ((aZ C w).map PV.int))/\vU hs C (aZ C w):=by
 have hw':w < C.length:=by rw [i.len]; exact hw
 have e:C[w]?=some (aZ C w,bX C w):=by
  unfold aZ bX;simp [hw']
 have hm:=cf e;exact ⟨e,hm,i.gc _ hm,i.c1 _ hm⟩
theorem zC {C:Cnt} {w v:Nat} {c:List Int} {r:Nat} (hw:w < C.length):aZ (C.set w (c,r)) v=if w=v then c else aZ C v:=by
 unfold aZ;rw [lX _ _ _ _ _ hw];split <;> rfl
theorem RM {hs:List Str} {z:Row} (nd:hs.Nodup) (o:dX hs z) {w:Nat} (hw:w < hs.length) (e:z.d.nm.1=hs.getD w ""):z.d.nm.2=z.c.getD w 0:=by
 obtain ⟨v,c0,hv,lc,_,ec,en,_⟩:=o.ex;rw [en] at e ⊢;have e1:hs.getD v "" = hs[v]:=by simp [hv]
 have e2:hs.getD w "" = hs[w]:=by simp [hw]
 have e:hs.getD v "" = hs.getD w "" := e;rw [e1,e2] at e;have:v=w:=(List.getElem_inj nd).mp e;subst this;rw [ec,lX _ _ _ _ _ (by omega),if_pos rfl]
theorem HI.own {hs:List Str} (nd:hs.Nodup) {C:Cnt} {R:List Row} {la lr:Nat} {h:PH} (i:HI hs C R la lr h) {w:Nat} (hw:w < hs.length) {S:Seen} (so:gZ hs (aZ C w) S) (a:Ac) {h2:PH} (e2:h2=((h.set (bX C w) (.lst (((aZ C w).set w (tpw C w+1)).map PV.int)))++[MO.lst (((aZ C w).set w (tpw C w+1)).map PV.int)]).set lr (.lst ((R++[(⟨⟨(hs.getD w "",tpw C w+1),S,a⟩,(aZ C w).set w (tpw C w+1),h.length⟩:Row)]).map rwV))):
  HI hs (C.set w ((aZ C w).set w (tpw C w+1),bX C w)) (R++[⟨⟨(hs.getD w "",tpw C w+1),S,a⟩,(aZ C w).set w (tpw C w+1),h.length⟩]) la lr h2:=by
 obtain ⟨eC,mC,gC,cC⟩:=i.at hw;have hwC:w < C.length:=by rw [i.len]; exact hw
 have lcw:w < (aZ C w).length:=by rw [cC.len]; exact hw
 obtain ⟨s11,s12⟩:=i.s1 _ mC;have lref:bX C w < h.length:=(ab.mp gC).1;have llr:lr < h.length:=(ab.mp i.ra.1).1;have lla:la < h.length:=(ab.mp i.ga).1
 -- the heap
 have keep:∀ n o,n≠bX C w->n≠lr->h[n]?=some o->h2[n]?=some o:=fun n o h1 h3 ho=>by
  rw [e2,a8 (jx h3)];exact Ext.app _ _ _ _ (by rw [a8 (jx h1)]; exact ho)
 have gw:h2[bX C w]?=some (.lst (((aZ C w).set w (tpw C w+1)).map PV.int)):=by
  rw [e2,a8 (jx s12)];exact Ext.app _ _ _ _ (dI gC)
 have gn:h2[h.length]?=some (.lst (((aZ C w).set w (tpw C w+1)).map PV.int)):=by
  rw [e2,a8 (by omega)];have:=aJ (h:=h.set (bX C w) (.lst (((aZ C w).set w (tpw C w+1)).map PV.int))) (o:=MO.lst (((aZ C w).set w (tpw C w+1)).map PV.int));rw [eu] at this;exact this
 have gr:h2[lr]?=some (.lst ((R++[(⟨⟨(hs.getD w "",tpw C w+1),S,a⟩,(aZ C w).set w (tpw C w+1),h.length⟩:Row)]).map rwV)):=by
  rw [e2];exact dI (Ext.app _ _ _ _ (by rw [a8 s12]; exact i.ra.1))
 -- the tops
 have tops:∀ v,v < hs.length->tpw C v<=tpw (C.set w ((aZ C w).set w (tpw C w+1),bX C w)) v/\(v≠w->tpw (C.set w ((aZ C w).set w (tpw C w+1),bX C w)) v=tpw C v)/\tpw (C.set w ((aZ C w).set w (tpw C w+1),bX C w)) w=tpw C w+1:=fun v hv=>by
  have t1:tpw (C.set w ((aZ C w).set w (tpw C w+1),bX C w)) w=tpw C w+1:=by
   unfold tpw;rw [zC hwC,if_pos rfl,lX _ _ _ _ _ lcw,if_pos rfl]
  have t2:v≠w->tpw (C.set w ((aZ C w).set w (tpw C w+1),bX C w)) v=tpw C v:=fun z=>by
   unfold tpw;rw [zC hwC,if_neg (jx z)]
  refine ⟨?_,t2,t1⟩
  by_cases z:v=w
  ·subst z; rw [t1]; omega
  ·rw [t2 z]; exact mm _
 have up:∀ c,vU hs C c->vU hs (C.set w ((aZ C w).set w (tpw C w+1),bX C w)) c:=fun c o=>⟨o.len,o.nn,fun v hv=>Int.le_trans (o.le v hv) (tops v hv).1⟩;have new:vU hs (C.set w ((aZ C w).set w (tpw C w+1),bX C w)) ((aZ C w).set w (tpw C w+1)):=by
  have tn:=cC.nn w;have tn:0<=tpw C w:=tn;refine ⟨by rw [eu]; exact cC.len,fun v=>?_,fun v hv=>?_⟩
  ·rw [lX _ _ _ _ _ lcw];split
   ·omega
   ·exact cC.nn v
  ·rw [lX _ _ _ _ _ lcw];split
   ·rename_i z;subst z;rw [(tops w hw).2.2]; exact mm _
   ·rename_i z;rw [(tops v hv).2.1 (jx z)];exact cC.le v hv
 have memS:∀ p∈C.set w ((aZ C w).set w (tpw C w+1),bX C w),(p=((aZ C w).set w (tpw C w+1),bX C w))\/(p∈C/\p.2≠bX C w):=fun p hp=>by
  obtain ⟨j,hj,ej⟩:=List.getElem_of_mem hp;rw [eu] at hj
  by_cases z:w=j
  ·subst z;rw [List.getElem_set_self] at ej;exact .inl ej.symm
  ·rw [List.getElem_set_ne z] at ej;refine .inr ⟨by rw [<- ej]; exact e9 hj,fun y=>z ?_⟩;have h1:(C.map (·.2))[w]?=some (bX C w):=by rw [aq,eC]; rfl
   have h2:(C.map (·.2))[j]?=some (bX C w):=by rw [aq,dt hj,ej,<- y]; rfl
   exact NZ i.nd h1 h2
 have refs:(C.set w ((aZ C w).set w (tpw C w+1),bX C w)).map (·.2)=C.map (·.2):=by
  rw [List.map_set];apply gd;intro j
  by_cases z:w=j
  ·subst z;rw [ft (by rw [ae]; exact hwC),aq,eC];rfl
  ·rw [a8 z]
 have refs2:(C.set w ((aZ C w).set w (tpw C w+1),bX C w)).map (fun p=>PV.ref p.2)=C.map fun p=>PV.ref p.2:=by
  have:=congrArg (List.map PV.ref) refs;rw [bp,bp] at this;exact this
 refine ⟨?_,fun p hp=>?_,by rw [eu]; exact i.len,⟨gr,fun z hz=>?_⟩,fun z hz=>?_,?_,fun p hp=>?_,fun z hz=>?_,by rw [refs]; exact i.nd,fun p hp=>?_,fun z hz=>?_,i.s3⟩
 ·rw [refs2]; exact keep _ _ (jx s11) i.s3 i.ga
 ·rcases memS p hp with rfl | ⟨h1,h3⟩
  ·exact gw
  ·exact keep _ _ h3 (i.s1 p h1).2 (i.gc p h1)
 ·rcases bj.mp hz with y | y
  ·exact keep _ _ ((i.s2 z y).2.2 _ mC) (i.s2 z y).2.1 (i.ra.2 z y)
  ·simp at y; subst y; exact gn
 ·rcases bj.mp hz with y | y
  ·exact i.ok z y
  ·simp at y;subst y;exact ⟨by show ((aZ C w).set w (tpw C w+1)).length=_; rw [eu]; exact cC.len,w,aZ C w,hw,cC.len,cC.nn w,rfl,rfl,so⟩
 ·unfold Inc;rw [List.pairwise_append];refine ⟨i.inc,by simp,fun z hz y hy e=>?_⟩;simp at hy;subst hy;have:=RM nd (i.ok z hz) hw e;have l1:=(i.c2 z hz).le w hw
  show z.d.nm.2 < tpw C w+1
  omega
 ·rcases memS p hp with rfl | ⟨h1,h3⟩
  ·exact new
  ·exact up _ (i.c1 p h1)
 ·rcases bj.mp hz with y | y
  ·exact up _ (i.c2 z y)
  ·simp at y; subst y; exact new
 ·rcases memS p hp with rfl | ⟨h1,h3⟩
  ·exact ⟨s11,s12⟩
  ·exact i.s1 p h1
 ·rcases bj.mp hz with y | y
  ·refine ⟨(i.s2 z y).1,(i.s2 z y).2.1,fun p hp=>?_⟩;rcases memS p hp with rfl | ⟨h1,h3⟩
   ·exact fun e=>(i.s2 z y).2.2 _ mC e
   ·exact (i.s2 z y).2.2 p h1
  ·simp at y;subst y;refine ⟨by show h.length≠la; omega,by show h.length≠lr; omega,fun p hp=>?_⟩;rcases memS p hp with rfl | ⟨h1,h3⟩
   ·show h.length≠bX C w; omega
   ·have:=(ab.mp (i.gc p h1)).1
    show h.length≠p.2
    omega
def mxs (n:Nat) (c f:List Int):List Int:=(ba n).map fun k=>if f.getD k 0 > c.getD k 0 then f.getD k 0 else c.getD k 0
theorem zD (n:Nat) (c f:List Int) (w:Nat):(mxs n c f).getD w 0=if w < n then (if f.getD w 0 > c.getD w 0 then f.getD w 0 else c.getD w 0) else 0:=by
 unfold mxs
 by_cases h:w < n
 ·rw [if_pos h];simp [h]
 ·rw [if_neg h];simp [h]
theorem HI.met {hs:List Str} {C:Cnt} {R:List Row} {la lr:Nat} {h:PH} (i:HI hs C R la lr h) {w:Nat} (hw:w < hs.length) {f:List Int} (of:vU hs C f) {r:Nat} (gr:h[r]?=some (.lst ((mxs hs.length (aZ C w) f).map PV.int))) (fr:r≠la/\r≠lr/\(∀ p∈C,r≠p.2)/\∀ z∈R,z.r≠r):
  HI hs (C.set w (mxs hs.length (aZ C w) f,r)) R la lr (h.set la (.lst ((C.map fun p=>PV.ref p.2).set w (.ref r)))):=by
 obtain ⟨eC,mC,gC,cC⟩:=i.at hw;have hwC:w < C.length:=by rw [i.len]; exact hw
 have keep:∀ n o,n≠la->h[n]?=some o->(h.set la (.lst ((C.map fun p=>PV.ref p.2).set w (.ref r))))[n]?=some o:=fun n o h1 ho=>by
  rw [a8 (jx h1)]; exact ho
 have tops:∀ v,v < hs.length->tpw (C.set w (mxs hs.length (aZ C w) f,r)) v=tpw C v:=fun v hv=>by
  unfold tpw;rw [zC hwC];split
  ·rename_i z;subst z;rw [zD,if_pos hv];have:=of.le w hv;have:f.getD w 0<=(aZ C w).getD w 0:=this;rw [if_neg (by omega)]
  ·rfl
 have up:∀ c,vU hs C c->vU hs (C.set w (mxs hs.length (aZ C w) f,r)) c:=fun c o=>⟨o.len,o.nn,fun v hv=>by rw [tops v hv]; exact o.le v hv⟩;have new:vU hs (C.set w (mxs hs.length (aZ C w) f,r)) (mxs hs.length (aZ C w) f):=by
  refine ⟨by unfold mxs; simp,fun v=>?_,fun v hv=>?_⟩
  ·rw [zD];have:=cC.nn v;have:=of.nn v;split
   ·split <;> omega
   ·exact mm _
  ·rw [tops v hv,zD,if_pos hv];have:=cC.le v hv;have:=of.le v hv;split <;> omega
 have memS:∀ p∈C.set w (mxs hs.length (aZ C w) f,r),(p=(mxs hs.length (aZ C w) f,r))\/p∈C:=fun p hp=>by
  rcases List.mem_or_eq_of_mem_set hp with z | z
  ·exact .inr z
  ·exact .inl z
 refine ⟨?_,fun p hp=>?_,by rw [eu]; exact i.len,⟨keep _ _ (jx i.s3) i.ra.1,fun z hz=>keep _ _ (i.s2 z hz).1 (i.ra.2 z hz)⟩,i.ok,i.inc,fun p hp=>?_,fun z hz=>up _ (i.c2 z hz),?_,fun p hp=>?_,fun z hz=>⟨(i.s2 z hz).1,(i.s2 z hz).2.1,fun p hp=>?_⟩,i.s3⟩
 ·rw [dI i.ga,List.map_set]
 ·rcases memS p hp with rfl | z
  ·exact keep _ _ fr.1 gr
  ·exact keep _ _ (i.s1 p z).1 (i.gc p z)
 ·rcases memS p hp with rfl | z
  ·exact new
  ·exact up _ (i.c1 p z)
 ·rw [List.map_set];refine fb.mpr fun a b ha hb hab=>?_;rw [eu,ae] at ha hb;have pw:=fb.mp i.nd;have hr:∀ (j:Nat) (hj:j < (C.map (·.2)).length),(C.map (·.2))[j]≠r:=fun j hj e=>by
   rw [ae] at hj;rw [List.getElem_map] at e;exact fr.2.2.1 _ (e9 hj) e.symm
  rw [List.getElem_set,List.getElem_set];split
  ·split
   ·omega
   ·exact fun e=>hr b (by rw [ae]; exact hb) e.symm
  ·split
   ·exact fun e=>hr a (by rw [ae]; exact ha) e
   ·exact pw a b (by rw [ae]; exact ha) (by rw [ae]; exact hb) hab
 ·rcases memS p hp with rfl | z
  ·exact ⟨fr.1,fr.2.1⟩
  ·exact i.s1 p z
 ·rcases memS p hp with rfl | y
  ·exact fr.2.2.2 z hz
  ·exact (i.s2 z hz).2.2 p y
theorem YM {h:PH} {a b:Nat} {R:List Row} (g1:h[a]?=some (.lst (R.map rwV))) (g2:h[b]?=some (.lst [])):Rj (.ref a) (.ref b) h=.ok (.bl (!decide (R=[]))) h:=by
 unfold Rj eqF;cases R with
 | nil=>rw [qI g1 g2 rfl rfl]; rfl
 | cons z R=>
  have q1:cJ (.ref a) h=some ((z :: R).map rwV):=by simp [cJ,aN,g1]
  have q2:cJ (.ref b) h=some []:=by simp [cJ,aN,g2]
  have q3:PV.ds ((z :: R).map rwV)=none:=by simp [PV.ds,rwV,PV.d,deV,pv]
  have n2:iJ (.ref a) (.ref b) h=none:=by
   unfold iJ;simp only [PV.d,q1,q2,q3]
  rw [n2];simp only [q1,q2];rfl
structure HT (hs:List Str) (h:PH) (la lr:Nat) (q:Nat) (C:Cnt) (R:List Row) (h':PH):Prop where
 x:Ext h h'
 i:HI hs C R la lr h'
 l:R.length<=q
 b:h.length<=la/\h.length<=lr/\∀ p∈C,h.length<=p.2
theorem HT.ext {hs:List Str} {h:PH} {la lr q:Nat} {C:Cnt} {R:List Row} {h' h2:PH} (t:HT hs h la lr q C R h') (x:Ext h' h2):HT hs h la lr q C R h2:=⟨t.x.trans x,t.i.ext x,t.l,t.b⟩
theorem Vc {hs:List Str} (h6:hs.length<=6) {h h':PH} {la lr lh q:Nat} {C:Cnt} {R:List Row} (t:HT hs h la lr q C R h') (gh:h'[lh]?=some (.lst (hs.map PV.str))) {w:Nat} (hw:w < hs.length) {f:List Int} {rf:Nat} (of:vU hs C f) (gf:h'[rf]?=some (.lst (f.map PV.int))) (x0 x3 x4 x7 x8 x9 x10 x12:Option PV) (E:FE)
  (fin:∀ C' h2,HT hs h la lr (q+1) C' R h2->E.nx [x0,some (.ref lh),some (.ref la),x3,x4,some (.int (w:Int)),some (.ref (bX C w)),x7,x8,x9,x10,some (.ref rf),x12] h2):
  Lt (kH (bF [none,some 6,some 11] (iD (aB (mCB fG (aB (mV 1) aH)) aH)) (gN 0) dS (mCB qX (aB (aD vAt (mV 1) (mV 0)) (aB (aD vAt (mV 2) (mV 0)) aH)))) (mV 2) (mV 5)) E [x0,some (.ref lh),some (.ref la),x3,x4,some (.int (w:Int)),some (.ref (bX C w)),x7,x8,x9,x10,some (.ref rf),x12] h':=by
 refine now ?_;obtain ⟨eC,mC,gC,cC⟩:=t.i.at hw;have hlv:=gP gh;rw [ae] at hlv;have hc:=xV (js:=[none,some 6,some 11]) (tg:=gN 0) (tst:=dS) (elt:=mCB qX (aB (aD vAt (mV 1) (mV 0)) (aB (aD vAt (mV 2) (mV 0)) aH))) (δ:=[x0,some (.ref lh),some (.ref la),x3,x4,some (.int (w:Int)),some (.ref (bX C w)),x7,x8,x9,x10,some (.ref rf),x12]) (h:=h') (h1:=h') (ms:=aB (mCB fG (aB (mV 1) aH)) aH) (j:=(hs.length:Int))
  (fun k=>some (.int (if f.getD k 0 > (aZ C w).getD k 0 then f.getD k 0 else (aZ C w).getD k 0))) (by simp [hlv]) (by omega) (fun k hk=>⟨[some (.int (k:Int)),some (.ref (bX C w)),some (.ref rf)],by simp [bW],fun h2 x2=>by
   have hk':k < hs.length:=by omega
   have e1:atI ((aZ C w).map PV.int) (k:Int)=some (.int ((aZ C w).getD k 0)):=dQ (by rw [aq]; simp [cC.len,hk']);have e2:atI (f.map PV.int) (k:Int)=some (.int (f.getD k 0)):=dQ (by rw [aq]; simp [of.len,hk']);have v1:vIx (.ref (bX C w)) (.int (k:Int)) h2=.ok (.int ((aZ C w).getD k 0)) h2:=by rw [cF (x2 _ _ gC),e1]; rfl
   have v2:vIx (.ref rf) (.int (k:Int)) h2=.ok (.int (f.getD k 0)) h2:=by rw [cF (x2 _ _ gf),e2]; rfl
   generalize (aZ C w).getD k 0=u1 at v1;generalize f.getD k 0=u2 at v2;refine ⟨rfl,?_⟩;simp [v1,v2]⟩)
 have em:(ba ((hs.length:Int)).toNat).filterMap (fun k=>some (PV.int (if f.getD k 0 > (aZ C w).getD k 0 then f.getD k 0 else (aZ C w).getD k 0)))=(mxs hs.length (aZ C w) f).map PV.int:=by
  rw [i9];unfold mxs;rw [bp,filterMap_some];rfl
 rw [em] at hc;have gN':(h'++[MO.lst ((mxs hs.length (aZ C w) f).map PV.int)])[h'.length]?=some (.lst ((mxs hs.length (aZ C w) f).map PV.int)):=aJ;have xN:Ext h' (h'++[MO.lst ((mxs hs.length (aZ C w) f).map PV.int)]):=Ext.app _ _;have t1:=t.ext xN;have lC:∀ p∈C,p.2 < h'.length:=fun p hp=>(ab.mp (t.i.gc p hp)).1;have lR:∀ z∈R,z.r < h'.length:=fun z hz=>(ab.mp (t.i.ra.2 z hz)).1;have l1:la < h'.length:=(ab.mp t.i.ga).1;have l2:lr < h'.length:=(ab.mp t.i.ra.1).1;have i2:=t1.i.met hw of gN' ⟨by omega,by omega,fun p hp=>by have:=lC p hp; omega,fun z hz=>by have:=lR z hz; omega⟩;generalize h'++[MO.lst ((mxs hs.length (aZ C w) f).map PV.int)]=hA at hc gN' xN t1 i2;have pu:=Be (v:=.ref h'.length) (i:=(w:Int)) t1.i.ga (by omega) (by rw [ae,t.i.len]; omega);rw [i9] at pu;simp [hc,pu];refine fin _ _ ⟨t1.x.setN t.b.1,i2,by have:=t.l; omega,t.b.1,t.b.2.1,fun p hp=>?_⟩;rcases List.mem_or_eq_of_mem_set hp with z | z
 ·exact t.b.2.2 p z
 ·rw [z]; exact t.x.len
theorem Vd {hs:List Str} (nd:hs.Nodup) (h6:hs.length<=6) {h h':PH} {la lr lh q:Nat} {C:Cnt} {R:List Row} (t:HT hs h la lr q C R h') (hq:q<=1000) (gh:h'[lh]?=some (.lst (hs.map PV.str))) {w:Nat} (hw:w < hs.length) (c way:Int) (x0 x8 x9 x10 x11 x12:Option PV) (E:FE)
  (fin:∀ C' R' h2 y8 y9,HT hs h la lr (q+1) C' R' h2->E.nx [x0,some (.ref lh),some (.ref la),some (.ref lr),some (.int c),some (.int (w:Int)),some (.ref (bX C w)),some (.int way),y8,y9,x10,x11,x12] h2):
  (aV (bG 8 (hW (aB (aD vAt (mV 1) (mV 5)) (aB (aD cA (aD vAt (mV 6) (mV 5)) (mC (.int 1))) aH))))
   (aV (bG 9 (hW (aB (mV 8) (aB (aY 2 yN (aB (mV 1) (aB (mV 6) aH))) (aB (aY 3 Es (aB (mV 7) (aB (aD vAt (mV 6) (mV 5)) (aB (aD oB (mV 4) (mC (.int 32))) aH)))) aH)))))
   (aV (kH (aD cA (aD vAt (mV 6) (mV 5)) (mC (.int 1))) (mV 6) (mV 5))
   (Af (mMt isL (onL dE) (mV 3) (aB (hW (aB (mV 9) (aB (mCB qA (aB (mV 6) aH)) aH))) aH))))) [x0,some (.ref lh),some (.ref la),some (.ref lr),some (.int c),some (.int (w:Int)),some (.ref (bX C w)),some (.int way),x8,x9,x10,x11,x12] h').W E:=by
 obtain ⟨eC,mC,gC,cC⟩:=t.i.at hw;have e1:atI ((aZ C w).map PV.int) (w:Int)=some (.int (tpw C w)):=dQ (by rw [aq]; unfold tpw; simp [cC.len,hw]);have e2:atI (hs.map PV.str) (w:Int)=some (.str (hs.getD w "")):=dQ (by rw [aq]; simp [hw]);have vc:∀ h2,Ext h' h2->vIx (.ref (bX C w)) (.int (w:Int)) h2=.ok (.int (tpw C w)) h2:=fun h2 x2=>by rw [cF (x2 _ _ gC),e1]; rfl
 have vh:vIx (.ref lh) (.int (w:Int)) h'=.ok (.str (hs.getD w "")) h':=by rw [cF gh,e2]; rfl
 rw [aL];have vc0:=vc h' (Ext.refl _);obtain ⟨hd,ehd⟩:∃ hd,hs.getD w "" = hd:=⟨_,rfl⟩;rw [ehd] at vh;simp [vh,vc0];refine now ?_;rw [aL];simp;refine Rp nd h6 cC.len gh gC _ fun S h1 x1 so=>?_;have vc1:=vc h1 x1;simp (disch:=omega) [vc1];refine Vb way (tpw C w) (c / 32) h1 _ fun a=>?_;have t1:=t.ext x1;obtain ⟨tp,etp⟩:∃ tp,tpw C w=tp:=⟨_,rfl⟩;have own:=t1.i.own nd hw so a (h2:=_) rfl;rw [ehd,etp] at own;rw [etp] at vc1;rw [etp];have gC1:=x1 _ _ gC;have lw:w < ((aZ C w).map PV.int).length:=by rw [ae,cC.len]; exact hw
 have pu:=Be (v:=.int (tp+1)) (i:=(w:Int)) gC1 (by omega) (by omega);rw [i9,<- List.map_set] at pu;have gS:(h1.set (bX C w) (.lst (((aZ C w).set w (tp+1)).map PV.int)))[bX C w]?=some (.lst (((aZ C w).set w (tp+1)).map PV.int)):=dI gC1;have s12:=(t1.i.s1 _ mC).2;have gR:(h1.set (bX C w) (.lst (((aZ C w).set w (tp+1)).map PV.int)))[lr]?=some (.lst (R.map rwV)):=by rw [a8 s12]; exact t1.i.ra.1
 have vl:=rN gS;have gR2:=Ext.app (h1.set (bX C w) (.lst (((aZ C w).set w (tp+1)).map PV.int))) [MO.lst (((aZ C w).set w (tp+1)).map PV.int)] _ _ gR;have ap:=eK (p:=rwV ⟨⟨(hd,tp+1),S,a⟩,(aZ C w).set w (tp+1),h1.length⟩) gR2 (by have:=t.l; rw [ae]; omega);rw [eu] at vl;have ap':onL dE (.ref lr) [.tup [.tup [.tup [.str hd,.int (tp+1)],sv S,acV a],.ref h1.length]] (h1.set (bX C w) (.lst (((aZ C w).set w (tp+1)).map PV.int))++[MO.lst (((aZ C w).set w (tp+1)).map PV.int)])=_:=ap;rw [cw] at own;have xS:Ext h h1:=t1.x;have hx:Ext h ((h1.set (bX C w) (.lst (((aZ C w).set w (tp+1)).map PV.int))++[MO.lst (((aZ C w).set w (tp+1)).map PV.int)]).set lr (.lst (R.map rwV++[rwV ⟨⟨(hd,tp+1),S,a⟩,(aZ C w).set w (tp+1),h1.length⟩]))):=((xS.setN (t.b.2.2 _ mC)).trans (Ext.app _ _)).setN t.b.2.1;have il:=eY gR;generalize h1.set (bX C w) (.lst (((aZ C w).set w (tp+1)).map PV.int))=h2 at vl ap' own hx il pu;generalize h2++[MO.lst (((aZ C w).set w (tp+1)).map PV.int)]=h3 at vl ap' own hx;refine now ?_;rw [aL];simp [vc1,pu];refine now ?_;simp [il,vl,ap'];refine fin _ _ _ _ _ ⟨hx,own,by rw [fj]; have:=t.l; simp; omega,t.b.1,t.b.2.1,fun p hp=>?_⟩;rcases List.mem_or_eq_of_mem_set hp with z | z
 ·exact t.b.2.2 p z
 ·rw [z];have:=t.b.2.2 _ mC;exact this
theorem pick {α:Type} {xs:List α} {e:α->PV} {n:Nat} (hn:xs.length=n) (h0:0 < n) (i:Int):∃ x∈xs,atI (xs.map e) (i % (n:Int))=some (e x):=by
 obtain ⟨one,e1,hmem⟩:=QZ (xs:=xs.map e) (i:=i) (by intro z; rw [List.map_eq_nil_iff] at z; rw [z] at hn; simp at hn; omega);obtain ⟨p,hp,rfl⟩:=au.mp hmem;rw [ae,hn] at e1;exact ⟨p,hp,e1⟩
theorem Xo (c:Int) {n:Nat} (h:0 < n):∃ w:Nat,c % (n:Int)=w/\w < n:=by
 have h1:=jj c (b:=(n:Int)) (by omega);have h2:=jv c (b:=(n:Int)) (by omega);exact ⟨(c % (n:Int)).toNat,by omega,by omega⟩
theorem CJ (x:Str):∀ R:List Row,R.filterMap (fun z=>if z.d.nm.1=x then some (rwV z) else none)=(R.filter fun z=>decide (z.d.nm.1=x)).map rwV
 | []=>rfl
 | y :: rs=>by
  rw [d4,List.filter_cons]
  by_cases e:y.d.nm.1=x
  ·simp [e,CJ x rs]
  ·simp [e,CJ x rs]
theorem RN {hs:List Str} (nd:hs.Nodup) (h0:hs≠[]) (h6:hs.length<=6) {h h':PH} {la lr lh q:Nat} {C:Cnt} {R:List Row} (t:HT hs h la lr q C R h') (hq:q<=1000) (gh:h[lh]?=some (.lst (hs.map PV.str))) (c:Int) (x0 x5 x6 x7 x8 x9 x10 x11 x12:Option PV) (E:FE)
  (fin:∀ C' R' h2 y5 y6 y7 y8 y9 y10 y11 y12,HT hs h la lr (q+1) C' R' h2->E.nx [x0,some (.ref lh),some (.ref la),some (.ref lr),some (.int c),y5,y6,y7,y8,y9,y10,y11,y12] h2):
  (lN [x0,some (.ref lh),some (.ref la),some (.ref lr),some (.int c),x5,x6,x7,x8,x9,x10,x11,x12] h').W E:=by
 unfold lN;have hpos:0 < hs.length:=ji.mpr h0;have ghh:=t.x _ _ gh;have hlv:∀ h2,Ext h' h2->fG [.ref lh] h2=.ok (.int (hs.length:Int)) h2:=fun h2 x2=>by
  have:=gP (x2 _ _ ghh);rw [ae] at this;exact this
 have hl0:=hlv h' (Ext.refl _);obtain ⟨w,ew,hw⟩:=Xo c hpos;have va:∀ h2,Ext h' h2->∀ v:Nat,v < hs.length->vIx (.ref la) (.int (v:Int)) h2=.ok (.ref (bX C v)) h2:=fun h2 x2 v hv=>by
  rw [cF (x2 _ _ t.i.ga),show atI (C.map fun p=>PV.ref p.2) (v:Int)=some (.ref (bX C v)) from dQ (by rw [aq,(t.i.at hv).1]; rfl)]
  rfl
 have va0:=va h' (Ext.refl _) w hw;rw [aL];simp (disch:=omega) [hl0,ew];refine now ?_;rw [aL];simp [va0];refine now ?_;rw [aL];simp (disch:=omega) [hl0];generalize c / (hs.length:Int) % 8=way;refine now ?_;rw [uU]
 by_cases e5:way < 5
 ·simp [e5];exact Vd nd h6 t hq ghh hw c way x0 x8 x9 x10 x11 x12 _ fun C' R' h2 y8 y9 z=>fin C' R' h2 _ _ _ _ _ _ _ _ z
 ·simp [e5];rw [aL];obtain ⟨m,em,hm⟩:∃ m:Int,(if (hs.length:Int) - 1 > 1 then (hs.length:Int) - 1 else 1)=m/\0 < m:=⟨_,rfl,by split <;> omega⟩;obtain ⟨v,ev,hv⟩:=Xo ((w:Int)+1+c / 32 % m) hpos;have em':(if 1 < (hs.length:Int) - 1 then (hs.length:Int) - 1 else 1)=m:=em;simp (disch:=omega) [hl0,em',ev];refine now ?_;rw [aL];have va1:=va h' (Ext.refl _) v hv;simp [va1];refine now ?_;rw [aL];have vh:∀ h2,Ext h' h2->vIx (.ref lh) (.int (v:Int)) h2=.ok (.str (hs.getD v "")) h2:=fun h2 x2=>by
   rw [cF (x2 _ _ ghh),show atI (hs.map PV.str) (v:Int)=some (.str (hs.getD v "")) from dQ (by rw [aq]; simp [hv])]
   rfl
  generalize hs.getD v "" = hd at vh;have hc:=cU (m:=mV 3) (n:=lr) (js:=[none,some 1,some 10]) (tg:=gN 0) (tst:=bT (aD vEq (aD vAt (aD vAt (aD vAt (mV 0) (mC (.int 0))) (mC (.int 0))) (mC (.int 0))) (aD vAt (mV 1) (mV 2)))) (elt:=mV 0) (δ:=[x0,some (.ref lh),some (.ref la),some (.ref lr),some (.int c),some (.int (w:Int)),some (.ref (bX C w)),some (.int way),x8,x9,some (.int (v:Int)),some (.ref (bX C v)),x12]) (h:=h') (h1:=h') (ys:=R) (emb:=rwV)
   (fun z=>if z.d.nm.1=hd then some (rwV z) else none) (by simp) t.i.ra.1 (by have:=t.l; omega) (fun z _=>⟨[some (rwV z),some (.ref lh),some (.int (v:Int))],by simp [bW],fun h2 x2=>by
    have r0:vIx (rwV z) (.int 0) h2=.ok (deV z.d) h2:=by unfold rwV; simp
    by_cases e:z.d.nm.1=hd
    ·simp [r0,de0,pv0,vh h2 x2,e]
    ·simp [r0,de0,pv0,vh h2 x2,e]⟩)
  rw [CJ hd R] at hc;have memF:∀ z∈R.filter fun z=>decide (z.d.nm.1=hd),z∈R:=fun z hz=>(de.mp hz).1;generalize (R.filter fun z=>decide (z.d.nm.1=hd))=F at hc memF;have x1:Ext h' (h'++[MO.lst (F.map rwV)]):=Ext.app _ _;have g1:(h'++[MO.lst (F.map rwV)])[h'.length]?=some (.lst (F.map rwV)):=aJ;simp only [nL,hc,hZ,List.set_cons_succ,List.set_cons_zero];generalize h'++[MO.lst (F.map rwV)]=hA at hc x1 g1;generalize h'.length=lf at hc g1;clear hc;have tA:=t.ext x1;refine now ?_;rw [aL,uU];have nx:∀ (h2:PH),Ext hA h2->∀ (f:List Int) (rf:Nat),vU hs C f->h2[rf]?=some (.lst (f.map PV.int))->Lt (kH (bF [none,some 6,some 11] (iD (aB (mCB fG (aB (mV 1) aH)) aH)) (gN 0) dS (mCB qX (aB (aD vAt (mV 1) (mV 0)) (aB (aD vAt (mV 2) (mV 0)) aH)))) (mV 2) (mV 5)) E [x0,some (.ref lh),some (.ref la),some (.ref lr),some (.int c),some (.int (w:Int)),some (.ref (bX C w)),some (.int way),x8,x9,some (.int (v:Int)),some (.ref rf),some (.ref lf)] h2:=fun h2 x2 f rf of gf=>
   Vc h6 (tA.ext x2) (x2 _ _ (x1 _ _ ghh)) hw of gf _ _ _ _ _ _ _ _ E fun C' h3 z=>fin C' R h3 _ _ _ _ _ _ _ _ z
  by_cases e7:way < 7
  ·have vn:=YM (Ext.app hA [MO.lst []] _ _ g1) (aJ (h:=hA) (o:=MO.lst []));have xB:Ext hA (hA++[MO.lst []]):=Ext.app _ _;have gB:=xB _ _ g1
   by_cases eF:F=[]
   ·subst eF;simp [e7,vn];exact nx _ xB _ _ (t.i.at hv).2.2.2 (xB _ _ (x1 _ _ (t.i.at hv).2.2.1))
   ·rw [decide_eq_false eF] at vn;have hF:0 < F.length:=ji.mpr eF;obtain ⟨z,hz,ez⟩:=pick (e:=rwV) (n:=F.length) rfl hF (c / 64);have hl:=gP gB;rw [ae] at hl;have vz:vIx (.ref lf) (.int (c / 64 % (F.length:Int))) (hA++[MO.lst []])=.ok (rwV z) (hA++[MO.lst []]):=by rw [cF gB,ez]; rfl
    have r1:∀ hB,vIx (rwV z) (.int 1) hB=.ok (.ref z.r) hB:=fun hB=>by unfold rwV; simp
    simp (disch:=omega) [e7,vn,hl,vz,r1];have hzR:=memF z hz;exact nx _ xB _ _ (t.i.c2 z hzR) (xB _ _ (x1 _ _ (t.i.ra.2 z hzR)))
  ·simp [e7];exact nx _ (Ext.refl _) _ _ (t.i.at hv).2.2.2 (x1 _ _ (t.i.at hv).2.2.1)
theorem RP {δ:Ev} {h h1:PH} {js:List (Option Nat)} {tg:Mg} {elt:Me} {g:PH->Bool} {α:Type} {mi:Mi} {ys:List α} {emb:α->PV} {Q:PV->PH->Prop} (G:α->MO) (e:mi δ h=.ok ⟨ys.map emb,g⟩ h1) (hg:∀ h,Ext h1 h->g h=true) (hz:ys.length<=16777216)
  (step:∀ y∈ys,∃ δ1,tg (emb y) (bW js δ)=some δ1/\∀ h,Ext h1 h->∃ n h',elt δ1 h=.ok (.ref n) h'/\Ext h h'/\h.length<=n/\h'[n]?=some (G y))
  (k:∀ l h' (zs:List (α×Nat)),Ext h1 h'->h1.length<=l->zs.map (·.1)=ys->(zs.map (·.2)).Nodup->h'[l]?=some (.lst (zs.map fun z=>PV.ref z.2))->(∀ z∈zs,l < z.2/\h'[z.2]?=some (G z.1))->Q (.ref l) h'):(bF js mi tg dS elt δ h).W Q:=by
 unfold bF;rw [e,Rs.bind_ok];refine qL (fun i h'=>Ext h1 h'/\∃ zs:List (α×Nat),zs.map (·.1)=ys.take i/\(zs.map (·.2)).Nodup/\h'[h1.length]?=some (.lst (zs.map fun z=>PV.ref z.2))/\∀ z∈zs,h1.length < z.2/\h'[z.2]?=some (G z.1)) (ys.map emb) 0 _ ⟨Ext.app _ _,[],by simp,by simp,by simp,fun z hz=>by simp at hz⟩ (fun i x h' _ hx hi=>?_) (fun h' hi=>?_)
 ·obtain ⟨x1,zs,ez,nd,g1,oz⟩:=hi;have hx:(ys.map emb)[i]?=some x:=by simpa using hx
  rw [aq] at hx;obtain ⟨y,hy,rfl⟩:=bf.mp hx;have hil:=(ab.mp hy).1;obtain ⟨δ1,ht,hs⟩:=step y (cf hy);have htk:ys.take (i+1)=ys.take i++[y]:=by rw [gg,hy]; rfl
  refine ⟨hg _ x1,δ1,ht,?_⟩;have hY:dS δ1 h'=.ok true h':=rfl;rw [hY,hZ,if_pos rfl];obtain ⟨n,h2,e2,x2,ln,gn⟩:=hs h' x1;have lz:zs.length<=i:=by
   have:=congrArg List.length ez;rw [ae,ic] at this;omega
  have l1:h1.length < h'.length:=(ab.mp g1).1;rw [e2,hZ];refine ⟨_,x2 _ _ g1,by rw [ae]; omega,(x1.trans x2).setN (ao _),zs++[(y,n)],by rw [cw,ez,htk]; rfl,?_,by rw [dI (x2 _ _ g1),cw]; rfl,fun z hz=>?_⟩
  ·rw [cw,jd];refine ⟨nd,by simp,fun a ha b hb=>?_⟩;obtain ⟨z,hz,rfl⟩:=au.mp ha;simp at hb;subst hb;have:=(ab.mp (oz z hz).2).1;omega
  ·rcases bj.mp hz with q | q
   ·obtain ⟨a,b⟩:=oz z q;exact ⟨a,by rw [a8 (by omega)]; exact x2 _ _ b⟩
   ·simp at q;subst q;exact ⟨by omega,by rw [a8 (by omega)]; exact gn⟩
 ·obtain ⟨x1,zs,ez,nd,g1,oz⟩:=hi;rw [Nat.zero_add,ae,ie] at ez;exact ⟨hg _ x1,k _ _ zs x1 (ao _) ez nd g1 oz⟩
theorem GB {hs:List Str} (nd:hs.Nodup) (h0:hs≠[]) (h6:hs.length<=6) {cs:List Int} (lc:cs.length<=40) {ls lh:Nat} {h:PH} (gs:h[ls]?=some (.lst (cs.map PV.int))) (gh:h[lh]?=some (.lst (hs.map PV.str))) (Q:PV->PH->Prop) (k:∀ C R la lr h',Ext h h'->HI hs C R la lr h'->R.length<=40->Q (.tup [.ref lr,.ref la]) h'):(iW [.ref ls,.ref lh] h).W Q:=by
 refine dZ ?_;unfold tJ;rw [aL,show List.map some [PV.ref ls,PV.ref lh]++cx (13 - [PV.ref ls,PV.ref lh].length) none=[some (.ref ls),some (.ref lh),none,none,none,none,none,none,none,none,none,none,none] from rfl]
 simp only [nL];refine RP (h1:=h) (ys:=hs) (emb:=PV.str) (g:=nE lh (hs.map PV.str)) (fun _=>.lst ((cx hs.length (0:Int)).map PV.int)) (dU (by simp) gh) (cT gh) (by omega) (fun y _=>⟨[some (.str y),some (.ref lh)],by simp [bW],fun h2 x2=>?_⟩) fun la hA zs xA bA ez ndz gA oz=>?_
 ·have hc:=cU (m:=mV 1) (n:=lh) (js:=[none]) (tg:=gN 0) (tst:=dS) (elt:=mC (.int 0)) (δ:=[some (.str y),some (.ref lh)]) (h:=h2) (h1:=h2) (ys:=hs) (emb:=PV.str)
   (fun _=>some (.int 0)) (by simp) (x2 _ _ gh) (by omega) (fun z _=>⟨[some (.str z)],by simp [bW],fun h' _=>⟨rfl,by simp⟩⟩)
  have em:hs.filterMap (fun _=>some (PV.int 0))=(cx hs.length (0:Int)).map PV.int:=by
   rw [filterMap_some (fun _=>PV.int 0) hs,List.map_const',List.map_replicate]
  rw [em] at hc;exact ⟨_,_,hc,Ext.app _ _,ao _,aJ⟩
 simp only [List.set_cons_succ,List.set_cons_zero];refine now ?_;rw [aL];simp;have xB:Ext hA (hA++[MO.lst []]):=Ext.app _ _;have gB:(hA++[MO.lst []])[hA.length]?=some (.lst (([]:List Row).map rwV)):=aJ;have lz:zs.length=hs.length:=by rw [<- ez,ae]
 have lA:la < hA.length:=(ab.mp gA).1;have lref:∀ z∈zs,z.2 < hA.length:=fun z hz=>(ab.mp (oz z hz).2).1;have zr:∀ w,(cx hs.length (0:Int)).getD w 0=0:=fun w=>by
  by_cases hw:w < hs.length
  ·simp [hw]
  ·simp [hw]
 have tp:∀ w,tpw (zs.map fun z=>(cx hs.length (0:Int),z.2)) w=0:=fun w=>by
  unfold tpw aZ
  by_cases hw:w < zs.length
  ·have:(zs.map fun z=>(cx hs.length (0:Int),z.2)).getD w ([],0)=(cx hs.length (0:Int),(zs[w]).2):=by simp [hw]
   rw [this];exact zr w
  ·have:(zs.map fun z=>(cx hs.length (0:Int),z.2)).getD w ([],0)=([],0):=by simp [hw]
   rw [this];rfl
 have i0:HT hs h la hA.length 0 (zs.map fun z=>(cx hs.length (0:Int),z.2)) [] (hA++[MO.lst []]):=by
  refine ⟨xA.trans xB,⟨?_,fun p hp=>?_,by rw [ae]; exact lz,⟨gB,fun z hz=>by simp at hz⟩,fun z hz=>by simp at hz,f9,fun p hp=>?_,fun z hz=>by simp at hz,?_,fun p hp=>?_,fun z hz=>by simp at hz,by omega⟩,by simp,bA,xA.len,fun p hp=>?_⟩
  ·rw [bp]; exact xB _ _ gA
  ·obtain ⟨z,hz,rfl⟩:=au.mp hp;exact xB _ _ (oz z hz).2
  ·obtain ⟨z,hz,rfl⟩:=au.mp hp;exact ⟨by simp,fun w=>by rw [zr w]; exact mm _,fun w _=>by rw [zr w,tp w]; exact mm _⟩
  ·rw [bp]; exact ndz
  ·obtain ⟨z,hz,rfl⟩:=au.mp hp;have h1:=(oz z hz).1;have h2:=lref z hz;exact ⟨by show z.2≠la; omega,by show z.2≠hA.length; omega⟩
  ·obtain ⟨z,hz,rfl⟩:=au.mp hp;have h1:=(oz z hz).1
   show h.length<=z.2
   omega
 generalize (zs.map fun z=>(cx hs.length (0:Int),z.2))=C0 at i0;generalize hA++[MO.lst []]=hB at i0;generalize hA.length=lr at i0;refine now ?_;rw [aL];refine sX (n:=ls) (xs:=cs.map PV.int) (h1:=hB) (fun q δ h'=>(∃ C R,HT hs h la lr q C R h')/\∃ x4 x5 x6 x7 x8 x9 x10 x11 x12,δ=[some (.ref ls),some (.ref lh),some (.ref la),some (.ref lr),x4,x5,x6,x7,x8,x9,x10,x11,x12]) (by simp) (i0.x _ _ gs) ⟨⟨_,_,i0⟩,_,_,_,_,_,_,_,_,_,rfl⟩ ?_ ?_ ?_
 ·rintro q δ h' _ ⟨⟨C,R,t⟩,_⟩;exact t.x _ _ gs
 ·rintro q y δ h' hy ⟨⟨C,R,t⟩,x4,x5,x6,x7,x8,x9,x10,x11,x12,rfl⟩;have hq:=(ab.mp hy).1;rw [ae] at hq;rw [aq] at hy;obtain ⟨c,hc,rfl⟩:=bf.mp hy;exact ⟨_,rfl,RN nd h0 h6 t (by omega) gh c _ _ _ _ _ _ _ _ _ _ fun C' R' h2 y5 y6 y7 y8 y9 y10 y11 y12 z=>⟨⟨C',R',z⟩,_,_,_,_,_,_,_,_,_,rfl⟩⟩
 ·rintro δ h' ⟨⟨C,R,t⟩,x4,x5,x6,x7,x8,x9,x10,x11,x12,rfl⟩;refine now ?_;simp;exact k C R la lr h' t.x t.i (by have:=t.l; rw [ae] at this; omega)
theorem Ob {hs:List Str} {R:List Row} (lR:R.length<=40) (ok:∀ z∈R,dX hs z) {c:List Int} (lc:c.length=hs.length) {lr lh l:Nat} {h:PH} (ra:RAt h lr R) (gh:h[lh]?=some (.lst (hs.map PV.str))) (gc:h[l]?=some (.lst (c.map PV.int))) (Q:PV->PH->Prop) (k:∀ T n h',Ext h h'->T.Sublist R->RAt h' n T->Q (.ref n) h'):(wA [.ref lr,.ref lh,.ref l] h).W Q:=by
 refine dZ ?_;unfold Cz;rw [aL];simp;have x0:Ext h (h++[MO.lst []]):=Ext.app _ _;have g0:(h++[MO.lst []])[h.length]?=some (.lst (([]:List Row).map rwV)):=aJ;generalize h++[MO.lst []]=hA at x0 g0;refine now ?_;rw [aL];refine sX (n:=lr) (xs:=R.map rwV) (h1:=hA) (fun q δ h'=>Ext h h'/\(∃ T,T.Sublist (R.take q)/\h'[h.length]?=some (.lst (T.map rwV)))/\∃ x4 x5,δ=[some (.ref lr),some (.ref lh),some (.ref l),some (.ref h.length),x4,x5]) (by simp) (x0 _ _ ra.1) ⟨x0,⟨[],by simp,g0⟩,_,_,rfl⟩ (fun q δ h' _ i=>i.1 _ _ ra.1) ?_ ?_
 ·rintro q y δ h' hy ⟨x1,⟨T,sub,g1⟩,x4,x5,rfl⟩;rw [aq] at hy;obtain ⟨z,hz,rfl⟩:=bf.mp hy;have hzm:=cf hz;refine ⟨_,rfl,?_⟩;have tk:R.take (q+1)=R.take q++[z]:=by rw [gg,hz]; rfl
  have lT:T.length<=40:=by
   have:=sub.length_le;rw [ic] at this;omega
  unfold Bn;rw [aL];have r0:vIx (rwV z) (.int 0) h'=.ok (deV z.d) h':=by unfold rwV; simp
  simp [r0,de0];refine now ?_;rw [uU];obtain ⟨w,c0,hw,_,_,_,en,_⟩:=(ok z hzm).ex;have hm:z.d.nm.1∈hs:=by
   rw [en]
   show hs.getD w "" ∈ hs
   have:hs.getD w "" = hs[w]:=by simp [hw]
   rw [this];exact e9 hw
  have ghh:=x1 _ _ gh;have vi:=Bl ghh hm;have hi:=gj.mpr hm;generalize hs.idxOf z.d.nm.1=j at vi hi;obtain ⟨cv,ec⟩:∃ cv,c[j]?=some cv:=⟨c[j]'(by omega),dt (by omega)⟩;have vc:vIx (.ref l) (.int (j:Int)) h'=.ok (.int cv) h':=by
   rw [cF (x1 _ _ gc),show atI (c.map PV.int) (j:Int)=some (.int cv) from dQ (by rw [aq,ec]; rfl)]
   rfl
  by_cases e:z.d.nm.2<=cv
  ·have ap:=eK (p:=rwV z) g1 (by rw [ae]; omega);simp [pv1,pv0,eY ghh,vi,vc,e,eY g1,ap];refine ⟨x1.setN (ao _),T++[z],?_,by rw [dI g1,cw]; rfl⟩;rw [tk];exact sub.append (List.Sublist.refl _)
  ·simp [pv1,pv0,eY ghh,vi,vc,e];refine ⟨x1,T,?_,g1⟩;rw [tk];exact sub.trans (List.sublist_append_left _ _)
 ·rintro δ h' ⟨x1,⟨T,sub,g1⟩,x4,x5,rfl⟩;rw [ae,ie] at sub;refine now ?_;simp;exact k T _ h' x1 sub ⟨g1,fun z hz=>x1 _ _ (ra.2 z (sub.subset hz))⟩
theorem main (ns:List Int) (hl:ns.length<=63):∃ h,NJ [.fl (ns.map PV.int)] []=.ok (.bl true) h:=by
 have w:(NJ [.fl (ns.map PV.int)] []).W fun p _=>p=.bl true:=by
  refine dZ ?_;unfold NI;rw [aL];simp;refine now ?_;rw [aL,uU];have rest:∀ c:Int,Lt (aV (bG 2 (aY 1 qZ (aB (mV 1) aH)))
 (aV (DZ (aY 2 iW (aB (mSl (mV 0) (mP (mC (.int 1))) (mP (mC (.int 41)))) (aB (mV 2) aH))) (gTp 2 (gCn (gN 3) (gCn (gN 4) gNl))))
 (aV (kQ (iD (aB (mCB fG (aB (mV 2) aH)) aH)) (gN 5) CA)
 (cD (uS (aY 3 mR (aB (mV 2) (aB (mV 3) (aB (aD oB (mV 1) (mC (.int 11))) aH)))) (uS (aD vEq (aY 2 oM (aB (mV 2) (aB (iL aH) aH))) (iL aH)) (aD vEq (aY 2 fP (aB (mV 2) (aB (iL aH) aH))) (iL aH)))))))) { nx:=fun _ _=>False,rt:=fun p _=>p=.bl true } [some (.fl (ns.map PV.int)),some (.int c),none,none,none,none] []:=fun c=>by
   refine now ?_;rw [aL];simp;refine Oa c [] _ fun hs lh h1 x1 b1 hn nd gh=>?_;have h0:hs≠[]:=fun z=>by rw [z] at hn; simp at hn
   refine now ?_;rw [aL];simp;have ec:∃ cs:List Int,cs.length<=40/\iU (ns.map PV.int) (some 1) (some 41)=cs.map PV.int:=by
    refine ⟨iU ns (some 1) (some 41),?_,by rw [R1]⟩;unfold iU;rw [ic];have e1:HT.sIx ns.length 0 (some (1:Int))=min 1 ns.length:=rfl;have e2:HT.sIx ns.length ns.length (some (41:Int))=min 41 ns.length:=rfl;rw [e1,e2];omega
   obtain ⟨cs,lcs,ecs⟩:=ec;rw [ecs];have x2:Ext h1 (h1++[MO.lst (cs.map PV.int)]):=Ext.app _ _;have g2:(h1++[MO.lst (cs.map PV.int)])[h1.length]?=some (.lst (cs.map PV.int)):=aJ;generalize h1++[MO.lst (cs.map PV.int)]=h2 at x2 g2;refine GB nd h0 hn.2 lcs g2 (x2 _ _ gh) _ fun C R la lr h3 x3 hi lR=>?_;simp;have gh3:=x3 _ _ (x2 _ _ gh);refine now ?_;rw [aL];have hlv:=gP gh3;rw [ae] at hlv;refine MW (j:=(hs.length:Int)) (fun q δ h'=>Ext h3 h'/\∃ x5,δ=[some (.fl (ns.map PV.int)),some (.int c),some (.ref lh),some (.ref lr),some (.ref la),x5]) (by simp [hlv]) (by omega) ⟨Ext.refl _,_,rfl⟩ ?_ ?_
   ·rintro q δ h' hq ⟨y1,x5,rfl⟩;have hq':q < hs.length:=by omega
    have i':=hi.ext y1;obtain ⟨eC,mC,gC,cC⟩:=i'.at hq';have va:vIx (.ref la) (.int (q:Int)) h'=.ok (.ref (bX C q)) h':=by
     rw [cF i'.ga,show atI (C.map fun p=>PV.ref p.2) (q:Int)=some (.ref (bX C q)) from dQ (by rw [aq,eC]; rfl)]
     rfl
    unfold CA;rw [uU];simp [va];refine Ob lR i'.ok cC.len i'.ra (y1 _ _ gh3) gC _ fun T n h4 x4 sub ra=>?_
    try simp (disch:=omega)
    refine EE nd h0 hn.2 (i'.inc.sublist sub) (fun z hz=>i'.ok z (sub.subset hz)) (by have:=sub.length_le; omega) _ (x4 _ _ (y1 _ _ gh3)) ra _ fun h5 x5=>?_;simp;exact (y1.trans x4).trans x5
   ·rintro δ h' ⟨y1,x5,rfl⟩;have i':=hi.ext y1;refine now ?_;simp (disch:=omega);refine EE nd h0 hn.2 i'.inc i'.ok (by omega) _ (y1 _ _ gh3) i'.ra _ fun h5 x5=>?_;have gh5:=x5 _ _ (y1 _ _ gh3);simp;have o0:nI [] []:=⟨List.nodup_nil,fun d=>by simp,f9⟩;have f0:InF [] []:=⟨List.nodup_nil,f9,[],List.nodup_nil,f9,fun d=>by simp,fun d=>by simp⟩;have x6:Ext h5 (h5++[MO.lst []]):=Ext.app _ _;have g6:(h5++[MO.lst []])[h5.length]?=some (.lst (([]:List De).map deV)):=aJ;generalize h5++[MO.lst []]=h6 at x6 g6;refine CI nd h0 hn.2 (R:=[]) f9 (fun z hz=>by simp at hz) (by simp) (T:=[]) (by simp) (fun d=>by simp) o0 (x6 _ _ gh5) g6 _ fun l7 h7 x7 _ g7=>?_;have x8:Ext h7 (h7++[MO.lst []]):=Ext.app _ _;have e7:=qJ (x8 _ _ g7) (aJ (h:=h7) (o:=MO.lst [])) (zB _) rfl;have g7e:(kI hs [] (bnd hs []) []).map pv=[]:=rfl;rw [g7e,decide_eq_true rfl] at e7;simp [e7];have x9:Ext h7 (h7++[MO.lst [],MO.lst []]):=Ext.app _ _;have g9:(h7++[MO.lst [],MO.lst []])[h7.length+1]?=some (.lst (([]:List De).map deV)):=by simp
    generalize h7++[MO.lst [],MO.lst []]=h9 at x9 g9;refine zA h0 hn.2 (R:=[]) f9 (fun z hz=>by simp at hz) (by simp) (T:=[]) (by simp) (fun d=>by simp) f0 (x9 _ _ (x7 _ _ (x6 _ _ gh5))) g9 _ fun l10 h10 x10 _ g10=>?_;have x11:Ext h10 (h10++[MO.lst []]):=Ext.app _ _;have e11:=qJ (x11 _ _ g10) (aJ (h:=h10) (o:=MO.lst [])) rfl rfl;have g11e:(([]:List Dd).filter (fD (bnd hs []))).map dP=[]:=rfl;rw [g11e,decide_eq_true rfl] at e11;simp [e11]
  by_cases e:0 < ns.length
  ·obtain ⟨c,hc⟩:∃ c,atI (ns.map PV.int) 0=some (.int c):=⟨ns[0],dQ (i:=0) (by rw [aq,dt e]; rfl)⟩;simp [e,hc];exact rest c
  ·simp [e];exact rest 0
 obtain ⟨p,h,e,rfl⟩:=Ah w;exact ⟨h,e⟩
end K77
namespace K77
open PySem L2
def top (i:Nat):Stmt:=PySem.Challenge.pw_copymeet_k77_sunk_and_settled.main.body.getD i (.Pass ⟨0,0,0,0⟩)
abbrev bsL:List Str:=["range","len","sorted","tuple","list","max","sum","min","dict","all","isinstance"]
abbrev cC (w:World) (K:ag) (cl:Str->Option Addr):MC:=⟨K,cl,bsL,fun _ _ _=>False,w⟩
abbrev mS:Stmt:=top 21
theorem jB:aW ["_law_cell","_law_size","_law_at","_law_found","_law_k","_law_letter"] ["_law_cell"] (aE mS):=⟨rfl,rfl,rfl,by decide +kernel,rfl,by decide +kernel,by decide +kernel⟩
abbrev tT:Stmt:=top 22
theorem RQ:aW ["_law_hands_here","_law_counts"] ["_law_hands_here","_law_counts"] (aE tT):=⟨rfl,rfl,rfl,by decide +kernel,rfl,by decide +kernel,by decide +kernel⟩
abbrev Bx:List Str:=["_law_k","_law_hands_here","_law_counts"]
theorem GC:(Bx).Nodup:=by decide +kernel
abbrev mT:Stmt:=top 20
theorem EF:aW ["_law_cell","_law_k","_law_number"] ["_law_cell","_law_k"] (aE mT):=⟨rfl,rfl,rfl,by decide +kernel,rfl,by decide +kernel,by decide +kernel⟩
abbrev By:Stmt:=top 23
theorem GD:aW ["_law_way","_law_many","_law_cell","_law_number","_law_first"] ["_law_way","_law_many","_law_cell"] (aE By):=⟨rfl,rfl,rfl,by decide +kernel,rfl,by decide +kernel,by decide +kernel⟩
abbrev fR:Stmt:=top 24
theorem bQ:aW ["_law_script","_law_hands_here","_law_all_counts","_law_rows","_law_cell","_law_who","_law_counts","_law_way","_law_name","_law_deed","_law_other","_law_far","_law_heard"] ["_law_script","_law_hands_here"] (aE fR):=⟨rfl,rfl,rfl,by decide +kernel,rfl,by decide +kernel,by decide +kernel⟩
abbrev rO:List Str:=["_law_hand","_law_hands_here"]
theorem Am:(rO).Nodup:=by decide +kernel
abbrev rP:List Str:=["_law_hand"]
theorem An:(rP).Nodup:=by decide +kernel
abbrev rQ:List Str:=["_law_row","_law_hands_here","_law_other"]
theorem Ao:(rQ).Nodup:=by decide +kernel
abbrev rR:List Str:=["_law_k","_law_counts","_law_far"]
theorem Ap:(rR).Nodup:=by decide +kernel
abbrev jC:Stmt:=top 26
theorem Bz:aW ["_law_deeds","_law_cell","_law_at"] ["_law_deeds","_law_cell"] (aE jC):=⟨rfl,rfl,rfl,by decide +kernel,rfl,by decide +kernel,by decide +kernel⟩
abbrev dM:Stmt:=top 13
theorem CK:aW ["deed"] ["deed"] (aE dM):=⟨rfl,rfl,rfl,by decide +kernel,rfl,by decide +kernel,by decide +kernel⟩
abbrev fT:Stmt:=top 14
theorem GE:aW ["hand","deeds"] ["hand","deeds"] (aE fT):=⟨rfl,rfl,rfl,by decide +kernel,rfl,by decide +kernel,by decide +kernel⟩
abbrev rS:List Str:=["deed","hand"]
theorem Aq:(rS).Nodup:=by decide +kernel
abbrev mU:Stmt:=top 4
theorem Oc:aW ["deed"] ["deed"] (aE mU):=⟨rfl,rfl,rfl,by decide +kernel,rfl,by decide +kernel,by decide +kernel⟩
abbrev zE:List Str:=["pair"]
theorem EG:(zE).Nodup:=by decide +kernel
abbrev mW:Stmt:=top 16
theorem zF:aW ["hands","deeds","settles","lasts"] ["hands","deeds"] (aE mW):=⟨rfl,rfl,rfl,by decide +kernel,rfl,by decide +kernel,by decide +kernel⟩
abbrev zG:List Str:=["deed"]
theorem EH:(zG).Nodup:=by decide +kernel
abbrev zH:List Str:=["hand","settles"]
theorem EI:(zH).Nodup:=by decide +kernel
abbrev zI:List Str:=["deed"]
theorem EJ:(zI).Nodup:=by decide +kernel
abbrev cZ:Stmt:=top 29
theorem cN:aW ["_law_hands_here","_law_rows","_law_least","_law_hand","_law_mine"] ["_law_hands_here","_law_rows"] (aE cZ):=⟨rfl,rfl,rfl,by decide +kernel,rfl,by decide +kernel,by decide +kernel⟩
abbrev kJ:List Str:=["_law_deed","_law_counts","_law_hand"]
theorem jD:(kJ).Nodup:=by decide +kernel
abbrev kK:List Str:=["_law_other"]
theorem tU:(kK).Nodup:=by decide +kernel
abbrev kL:List Str:=["_law_k","_law_least","_law_mine"]
theorem tV:(kL).Nodup:=by decide +kernel
abbrev jE:Stmt:=top 2
theorem mX:aW ["one","other","numbers","hand","n"] ["one","other"] (aE jE):=⟨rfl,rfl,rfl,by decide +kernel,rfl,by decide +kernel,by decide +kernel⟩
abbrev fU:Stmt:=top 3
theorem GF:aW ["seen","name"] ["seen","name"] (aE fU):=⟨rfl,rfl,rfl,by decide +kernel,rfl,by decide +kernel,by decide +kernel⟩
abbrev mY:Stmt:=top 15
theorem EK:aW ["hand","deeds","last"] ["hand","deeds"] (aE mY):=⟨rfl,rfl,rfl,by decide +kernel,rfl,by decide +kernel,by decide +kernel⟩
abbrev tW:Stmt:=top 5
theorem CL:aW ["deed","hand","n"] ["deed"] (aE tW):=⟨rfl,rfl,rfl,by decide +kernel,rfl,by decide +kernel,by decide +kernel⟩
abbrev eO:Stmt:=top 6
theorem lY:aW ["deeds","by_name","deed"] ["deeds"] (aE eO):=⟨rfl,rfl,rfl,by decide +kernel,rfl,by decide +kernel,by decide +kernel⟩
abbrev jF:Stmt:=top 1
theorem tX:aW ["seen","name","hand","n"] ["seen","name"] (aE jF):=⟨rfl,rfl,rfl,by decide +kernel,rfl,by decide +kernel,by decide +kernel⟩
abbrev tY:Stmt:=top 17
theorem wC:aW ["hands","deeds","highest","low","seens"] ["hands","deeds"] (aE tY):=⟨rfl,rfl,rfl,by decide +kernel,rfl,by decide +kernel,by decide +kernel⟩
abbrev BA:List Str:=["deed","highest"]
theorem GG:(BA).Nodup:=by decide +kernel
abbrev BB:List Str:=["hand","deeds"]
theorem GH:(BB).Nodup:=by decide +kernel
abbrev BC:List Str:=["name","seens"]
theorem GI:(BC).Nodup:=by decide +kernel
abbrev BD:List Str:=["seen","name"]
theorem GJ:(BD).Nodup:=by decide +kernel
abbrev fV:Stmt:=top 8
theorem GK:aW ["deed"] ["deed"] (aE fV):=⟨rfl,rfl,rfl,by decide +kernel,rfl,by decide +kernel,by decide +kernel⟩
abbrev eP:Stmt:=top 9
theorem fE:aW ["n","backs","back","word","first","last"] ["n","backs"] (aE eP):=⟨rfl,rfl,rfl,by decide +kernel,rfl,by decide +kernel,by decide +kernel⟩
abbrev jG:Stmt:=top 10
theorem dN:aW ["deeds","taken","backs","deed","hand","n","word","by"] ["deeds"] (aE jG):=⟨rfl,rfl,rfl,by decide +kernel,rfl,by decide +kernel,by decide +kernel⟩
abbrev eQ:Stmt:=top 11
theorem lZ:aW ["deeds","ordered","taken"] ["deeds"] (aE eQ):=⟨rfl,rfl,rfl,by decide +kernel,rfl,by decide +kernel,by decide +kernel⟩
abbrev nN:List Str:=["deed","taken"]
theorem zJ:(nN).Nodup:=by decide +kernel
abbrev fW:Stmt:=top 18
theorem zK:aW ["hands","deeds","highest"] ["hands","deeds"] (aE fW):=⟨rfl,rfl,rfl,by decide +kernel,rfl,by decide +kernel,by decide +kernel⟩
abbrev rT:List Str:=["deed","highest"]
theorem Ar:(rT).Nodup:=by decide +kernel
abbrev jH:Stmt:=top 27
theorem Km:aW ["_law_deed"] ["_law_deed"] (aE jH):=⟨rfl,rfl,rfl,by decide +kernel,rfl,by decide +kernel,by decide +kernel⟩
abbrev vF:List Str:=["_law_hand","_law_n"]
theorem rV:(vF).Nodup:=by decide +kernel
abbrev mZ:Stmt:=top 28
theorem Od:aW ["_law_deeds","_law_top"] ["_law_deeds","_law_top"] (aE mZ):=⟨rfl,rfl,rfl,by decide +kernel,rfl,by decide +kernel,by decide +kernel⟩
abbrev zL:List Str:=["_law_deed","_law_top"]
theorem EL:(zL).Nodup:=by decide +kernel
abbrev nA:Stmt:=top 30
theorem dC:aW ["_law_hands_here","_law_rows","_law_cell","_law_plain","_law_deeds","_law_handed","_law_top","_law_least","_law_due","_law_found","_law_force"] ["_law_hands_here","_law_rows","_law_cell"] (aE nA):=⟨rfl,rfl,rfl,by decide +kernel,rfl,by decide +kernel,by decide +kernel⟩
abbrev zM:List Str:=["_law_deed","_law_counts"]
theorem vG:(zM).Nodup:=by decide +kernel
abbrev zN:List Str:=["_law_deed","_law_least","_law_hands_here"]
theorem EM:(zN).Nodup:=by decide +kernel
abbrev zO:List Str:=["_law_deed","_law_force"]
theorem EN:(zO).Nodup:=by decide +kernel
abbrev nB:Stmt:=top 25
theorem rW:aW ["_law_rows","_law_hands_here","_law_counts","_law_found","_law_row","_law_name"] ["_law_rows","_law_hands_here","_law_counts"] (aE nB):=⟨rfl,rfl,rfl,by decide +kernel,rfl,by decide +kernel,by decide +kernel⟩
abbrev rX:Stmt:=top 31
theorem oT:aW ["_law_script","_law_cell","_law_hands_here","_law_rows","_law_all_counts","_law_k"] ["_law_script"] (aE rX):=⟨rfl,rfl,rfl,by decide +kernel,rfl,by decide +kernel,by decide +kernel⟩
theorem mB:("range" : Str)∈bsL:=(.head _)
theorem hV:("len" : Str)∈bsL:=(.tail _ (.head _))
theorem jI:("sorted" : Str)∈bsL:=(.tail _ (.tail _ (.head _)))
theorem EO:("tuple" : Str)∈bsL:=(.tail _ (.tail _ (.tail _ (.head _))))
theorem nC:("list" : Str)∈bsL:=(.tail _ (.tail _ (.tail _ (.tail _ (.head _)))))
theorem CM:("max" : Str)∈bsL:=(.tail _ (.tail _ (.tail _ (.tail _ (.tail _ (.head _))))))
theorem Oe:("sum" : Str)∈bsL:=(.tail _ (.tail _ (.tail _ (.tail _ (.tail _ (.tail _ (.head _)))))))
theorem Of:("min" : Str)∈bsL:=(.tail _ (.tail _ (.tail _ (.tail _ (.tail _ (.tail _ (.tail _ (.head _))))))))
theorem nO:("isinstance" : Str)∈bsL:=(.tail _ (.tail _ (.tail _ (.tail _ (.tail _ (.tail _ (.tail _ (.tail _ (.tail _ (.tail _ (.head _)))))))))))
section
variable {P:Program} {w:World} {K:ag} {mg:Str->Option Value} {base:Heap} {cl:Str->Option Addr}
variable (P w K mg base cl)
abbrev ER:Prop:=∃ a fd,Def K mg "_law_hands" mS a fd ["_law_cell"]/\aU P w K mg base CX0 1 a fd ["_law_cell"] (spM (cC w K cl) 1 qZ)
abbrev J5:Prop:=∃ a fd,Def K mg "_law_seen" tT a fd ["_law_hands_here","_law_counts"]/\aU P w K mg base CX0 1 a fd ["_law_hands_here","_law_counts"] (spM (cC w K cl) 2 yN)
abbrev ES:Prop:=∃ a fd,Def K mg "_law_mixed" mT a fd ["_law_cell","_law_k"]/\aU P w K mg base CX0 1 a fd ["_law_cell","_law_k"] (spM (cC w K cl) 2 rA)
abbrev Og:Prop:=∃ a fd,Def K mg "_law_act" By a fd ["_law_way","_law_many","_law_cell"]/\aU P w K mg base CX0 2 a fd ["_law_way","_law_many","_law_cell"] (spM (cC w K cl) 3 Es)
abbrev zP:Prop:=∃ a fd,Def K mg "_law_history" fR a fd ["_law_script","_law_hands_here"]/\aU P w K mg base CX0 3 a fd ["_law_script","_law_hands_here"] (spM (cC w K cl) 2 iW)
abbrev BE:Prop:=∃ a fd,Def K mg "_law_turned" jC a fd ["_law_deeds","_law_cell"]/\aU P w K mg base CX0 1 a fd ["_law_deeds","_law_cell"] (spM (cC w K cl) 2 rB)
abbrev rY:Prop:=∃ a fd,Def K mg "number_of" dM a fd ["deed"]/\aU P w K mg base CX0 1 a fd ["deed"] (spM (cC w K cl) 1 cY)
abbrev oU:Prop:=∃ a fd,Def K mg "last_of" fT a fd ["hand","deeds"]/\aU P w K mg base CX0 4 a fd ["hand","deeds"] (spM (cC w K cl) 2 iX)
abbrev mD:Prop:=∃ a fd,Def K mg "stamp" mU a fd ["deed"]/\aU P w K mg base CX0 1 a fd ["deed"] (spM (cC w K cl) 1 iI)
abbrev rZ:Prop:=∃ a fd,Def K mg "bound" mW a fd ["hands","deeds"]/\aU P w K mg base CX0 5 a fd ["hands","deeds"] (spM (cC w K cl) 2 mO)
abbrev nQ:Prop:=∃ a fd,Def K mg "_law_met_by_all" cZ a fd ["_law_hands_here","_law_rows"]/\aU P w K mg base CX0 1 a fd ["_law_hands_here","_law_rows"] (spM (cC w K cl) 2 fM)
abbrev BF:Prop:=∃ a fd,Def K mg "joined" jE a fd ["one","other"]/\aU P w K mg base CX0 1 a fd ["one","other"] (spM (cC w K cl) 2 rD)
abbrev zQ:Prop:=∃ a fd,Def K mg "widened" fU a fd ["seen","name"]/\aU P w K mg base CX0 2 a fd ["seen","name"] (spM (cC w K cl) 2 mQ)
abbrev ET:Prop:=∃ a fd,Def K mg "known" mY a fd ["hand","deeds"]/\aU P w K mg base CX0 5 a fd ["hand","deeds"] (spM (cC w K cl) 2 vY)
abbrev J6:Prop:=∃ a fd,Def K mg "rank" tW a fd ["deed"]/\aU P w K mg base CX0 2 a fd ["deed"] (spM (cC w K cl) 1 Cw)
abbrev mE:Prop:=∃ a fd,Def K mg "in_order" eO a fd ["deeds"]/\aU P w K mg base CX0 5 a fd ["deeds"] (spM (cC w K cl) 1 dJ)
abbrev BG:Prop:=∃ a fd,Def K mg "covers" jF a fd ["seen","name"]/\aU P w K mg base CX0 1 a fd ["seen","name"] (spM (cC w K cl) 2 iY)
abbrev CN:Prop:=∃ a fd,Def K mg "sunk" tY a fd ["hands","deeds"]/\aU P w K mg base CX0 6 a fd ["hands","deeds"] (spM (cC w K cl) 2 oM)
abbrev zR:Prop:=∃ a fd,Def K mg "name_of" fV a fd ["deed"]/\aU P w K mg base CX0 1 a fd ["deed"] (spM (cC w K cl) 1 iZ)
abbrev vH:Prop:=∃ a fd,Def K mg "taker_of" eP a fd ["n","backs"]/\aU P w K mg base CX0 1 a fd ["n","backs"] (spM (cC w K cl) 2 jV)
abbrev BH:Prop:=∃ a fd,Def K mg "takers" jG a fd ["deeds"]/\aU P w K mg base CX0 4 a fd ["deeds"] (spM (cC w K cl) 1 rG)
abbrev mF:Prop:=∃ a fd,Def K mg "in_force" eQ a fd ["deeds"]/\aU P w K mg base CX0 6 a fd ["deeds"] (spM (cC w K cl) 1 eN)
abbrev oV:Prop:=∃ a fd,Def K mg "settled" fW a fd ["hands","deeds"]/\aU P w K mg base CX0 7 a fd ["hands","deeds"] (spM (cC w K cl) 2 fP)
abbrev BI:Prop:=∃ a fd,Def K mg "_law_rank" jH a fd ["_law_deed"]/\aU P w K mg base CX0 1 a fd ["_law_deed"] (spM (cC w K cl) 1 gY)
abbrev EU:Prop:=∃ a fd,Def K mg "_law_up_to" mZ a fd ["_law_deeds","_law_top"]/\aU P w K mg base CX0 4 a fd ["_law_deeds","_law_top"] (spM (cC w K cl) 2 jW)
abbrev EV:Prop:=∃ a fd,Def K mg "_law_right" nA a fd ["_law_hands_here","_law_rows","_law_cell"]/\aU P w K mg base CX0 8 a fd ["_law_hands_here","_law_rows","_law_cell"] (spM (cC w K cl) 3 mR)
abbrev EW:Prop:=∃ a fd,Def K mg "_law_taken" nB a fd ["_law_rows","_law_hands_here","_law_counts"]/\aU P w K mg base CX0 1 a fd ["_law_rows","_law_hands_here","_law_counts"] (spM (cC w K cl) 3 wA)
variable {P w K mg base cl}
theorem eR {j:Nat} {nm:Str} {st:Stmt} {f:Addr} {fd:cy} {ps:List Str} {sp:Sp} (D:Def K mg nm st f fd ps) (h:Fun K nm nm st f fd->aU P w K mg base CX0 j f fd ps sp):∃ a fd,Def K mg nm st a fd ps/\aU P w K mg base CX0 j a fd ps sp:=⟨_,_,D,h D.fn⟩
theorem Oh {f:Addr} {fd:cy} (hbn:∀ x∈bsL,mg x=none) (F:Fun K "_law_hands" "_law_hands" mS f fd):aU P w K mg base CX0 1 f fd ["_law_cell"] (spM (cC w K cl) 1 qZ):=
 cH (C:=cC w K cl) (k:=0) (N:=["_law_cell","_law_size","_law_at","_law_found","_law_k","_law_letter"]) (body:=Cs) (fun _ _ _ h=>h) hbn F jB fun cdv A outer s H E=>
 (aF (bB (i:=1) jB.nd (aR cG aI (aR fK (aA 0) aI)))
 (aF (bB (i:=2) jB.nd (aR fK (aR kB (aA 0) aI) (aA 1)))
 (aF (bB (i:=3) jB.nd (gK aG))
 (aF (nK (xR (aC (aR cG aI (aR fK (aR kB (aA 0) aI) aI)) aG) (hb:=mB)) (aO jB.nd)
  (aF (bB (i:=5) jB.nd (bE lD (aR fK (aR cG (aR kB (aA 0) aI) (aR Iu (aA 4) (aR cG aI (aR fK (aR kB (aA 0) aI) aI)))) aI)))
  (aK (B0 (Ga d7 iz i3 lG (aA 3) (aC (aR cG (aR cG (aR Ti lD (aA 2)) (aA 5)) (aR Ti lD (aR Ir (aR Ir (aA 1) aI) (aA 2)))) aG))))))
 (aK (bP (aA 3)))))))
theorem RR {f:Addr} {fd:cy} (hbn:∀ x∈bsL,mg x=none) (F:Fun K "_law_seen" "_law_seen" tT f fd):aU P w K mg base CX0 1 f fd ["_law_hands_here","_law_counts"] (spM (cC w K cl) 2 yN):=
 cH (C:=cC w K cl) (k:=0) (N:=["_law_hands_here","_law_counts"]) (body:=Gs) (fun _ _ _ h=>h) hbn F RQ fun cdv A outer s H E=>
 (aK (bP (gL Iy PyProof.Rows.Boot.«tuple» (aC (bN E5 PyProof.Rows.Boot.«sorted» (aC (cO (js:=[none,some 0,some 1]) (N:=Bx) rfl rfl (by rfl) (xR (aC (bN lE PyProof.Rows.Boot.«len» (aC (aA 0) aG) (hb:=hV)) aG) (hb:=mB)) (fun _ _ _ _=>(aO GC)) (fun _ _ _ _=>(fJ (bZ UC (bE (aA 2) (aA 0)) aI))) (fun _ _ _ _=>(iC (aC (bE (aA 1) (aA 0)) (aC (bE (aA 2) (aA 0)) aG))))) aG) (hb:=jI)) aG) (hb:=EO))))
theorem Oi {f:Addr} {fd:cy} (hbn:∀ x∈bsL,mg x=none) (F:Fun K "_law_mixed" "_law_mixed" mT f fd):aU P w K mg base CX0 1 f fd ["_law_cell","_law_k"] (spM (cC w K cl) 2 rA):=
 cH (C:=cC w K cl) (k:=0) (N:=["_law_cell","_law_k","_law_number"]) (body:=Ct) (fun _ _ _ h=>h) hbn F EF fun cdv A outer s H E=>
 (aF (bB (i:=2) EF.nd (aR fK (aR Iu (aR cG (aR cG (aA 0) (aR Iu aI (aA 1))) aI) aI) aI))
 (aK (bP (aR fK (aR Iu (aA 2) (aR cG (aR kB (aA 2) aI) aI)) aI))))
theorem Ve {f:Addr} {fd:cy} (hbn:∀ x∈bsL,mg x=none) (F:Fun K "_law_act" "_law_act" By f fd) (CO:ES P w K mg base cl):aU P w K mg base CX0 2 f fd ["_law_way","_law_many","_law_cell"] (spM (cC w K cl) 3 Es):=
 let ⟨_,_,RS,RT⟩:=CO; cH (C:=cC w K cl) (k:=1) (N:=["_law_way","_law_many","_law_cell","_law_number","_law_first"]) (body:=NH) (fun _ _ _ h=>h) hbn F GD fun cdv A outer s H E=>
 (aF (bB (i:=3) GD.nd (s_call RS RT (aC (aA 2) (aC aI aG))))
 (aF (lF (bZ Gc (aA 0) aI)
  (aK (bP (iC (aC lD aG))))
  dH)
 (aF (lF (SW.t (w_and (bZ pY (aA 0) aI) (MK (bZ UC (aA 1) aI))))
  (aF (bB (i:=4) GD.nd (aR cG aI (aR fK (aA 3) (aA 1))))
  (aK (bP (iC (aC lD (aC (aA 4) (aC (aR cG (aA 4) (aR fK (aR kB (aA 3) aI) (aR Ir (aR cG (aA 1) aI) (aA 4)))) aG)))))))
  dH)
 (aK (bP (iC (aC lD (aC (iC (aC lD (aC aI aG))) (aC (aR fK (aA 2) (aR Ww aI aI)) aG)))))))))
theorem GL {f:Addr} {fd:cy} (hbn:∀ x∈bsL,mg x=none) (F:Fun K "_law_history" "_law_history" fR f fd) (GM:J5 P w K mg base cl) (Oj:Og P w K mg base cl):aU P w K mg base CX0 3 f fd ["_law_script","_law_hands_here"] (spM (cC w K cl) 2 iW):=
 let ⟨_,_,Vf,Vg⟩:=GM; let ⟨_,_,Xp,Xq⟩:=Oj; cH (C:=cC w K cl) (k:=2) (N:=["_law_script","_law_hands_here","_law_all_counts","_law_rows","_law_cell","_law_who","_law_counts","_law_way","_law_name","_law_deed","_law_other","_law_far","_law_heard"]) (body:=tJ) (fun _ _ _ h=>h) hbn F bQ fun cdv A outer s H E=>
 (aF (fO (i:=2) bQ.nd rfl rfl (js:=[none,some 1]) (N:=rO) rfl rfl (by rfl) (cE (aA 1)) (fun _ _ _ _=>(aO Am)) (fun _ _ _ _=>fH) (fun _ _ _ _=>(cO (js:=[none]) (N:=rP) rfl rfl (by rfl) (cE (aA 1)) (fun _ _ _ _=>(aO An)) (fun _ _ _ _=>fH) (fun _ _ _ _=>aI))))
 (aF (bB (i:=3) bQ.nd (gK aG))
 (aF (nK (cE (aA 0)) (aO bQ.nd)
  (aF (bB (i:=5) bQ.nd (aR fK (aA 4) (bN lE PyProof.Rows.Boot.«len» (aC (aA 1) aG) (hb:=hV))))
  (aF (bB (i:=6) bQ.nd (bE (aA 2) (aA 5)))
  (aF (bB (i:=7) bQ.nd (aR fK (aR kB (aA 4) (bN lE PyProof.Rows.Boot.«len» (aC (aA 1) aG) (hb:=hV))) aI))
  (aK (lF (bZ Gc (aA 7) aI)
   (aF (bB (i:=8) bQ.nd (iC (aC (bE (aA 1) (aA 5)) (aC (aR cG (bE (aA 6) (aA 5)) aI) aG))))
   (aF (bB (i:=9) bQ.nd (iC (aC (aA 8) (aC (s_call Vf Vg (aC (aA 1) (aC (aA 6) aG))) (aC (s_call Xp Xq (aC (aA 7) (aC (bE (aA 6) (aA 5)) (aC (aR kB (aA 4) aI) aG)))) aG)))))
   (aF (tI (aR cG (bE (aA 6) (aA 5)) aI) (aA 6) (aA 5))
   (aK (B0 (Ga d7 iz i3 lG (aA 3) (aC (iC (aC (aA 9) (aC (gL Cc PyProof.Rows.Boot.«list» (aC (aA 6) aG) (hb:=nC)) aG))) aG)))))))
   (aF (bB (i:=10) bQ.nd (aR fK (aR cG (aR cG (aA 5) aI) (aR fK (aR kB (aA 4) aI) (bN Gp PyProof.Rows.Boot.«max» (aC aI (aC (aR Ir (bN lE PyProof.Rows.Boot.«len» (aC (aA 1) aG) (hb:=hV)) aI) aG)) (hb:=CM)))) (bN lE PyProof.Rows.Boot.«len» (aC (aA 1) aG) (hb:=hV))))
   (aF (bB (i:=11) bQ.nd (bE (aA 2) (aA 10)))
   (aF (fO (i:=12) bQ.nd rfl rfl (js:=[none,some 1,some 10]) (N:=rQ) rfl rfl (by rfl) (cE (aA 3)) (fun _ _ _ _=>(aO Ao)) (fun _ _ _ _=>(fJ (bZ pY (bE (bE (bE (aA 0) aI) aI) aI) (bE (aA 1) (aA 2))))) (fun _ _ _ _=>(aA 0)))
   (aF (lF (SW.t (w_and (bZ Gc (aA 7) aI) (MK (bZ V4 (aA 12) (gK aG)))))
    (aK (bB (i:=11) bQ.nd (bE (bE (aA 12) (aR fK (aR kB (aA 4) aI) (bN lE PyProof.Rows.Boot.«len» (aC (aA 12) aG) (hb:=hV)))) aI)))
    dH)
   (aK (tI (cO (js:=[none,some 6,some 11]) (N:=rR) rfl rfl (by rfl) (xR (aC (bN lE PyProof.Rows.Boot.«len» (aC (aA 1) aG) (hb:=hV)) aG) (hb:=mB)) (fun _ _ _ _=>(aO Ap)) (fun _ _ _ _=>fH) (fun _ _ _ _=>(bN Gp PyProof.Rows.Boot.«max» (aC (bE (aA 1) (aA 0)) (aC (bE (aA 2) (aA 0)) aG)) (hb:=CM)))) (aA 2) (aA 5)))))))))))))
 (aK (bP (iC (aC (aA 3) (aC (aA 2) aG))))))))
theorem Kn {f:Addr} {fd:cy} (hbn:∀ x∈bsL,mg x=none) (F:Fun K "_law_turned" "_law_turned" jC f fd):aU P w K mg base CX0 1 f fd ["_law_deeds","_law_cell"] (spM (cC w K cl) 2 rB):=
 cH (C:=cC w K cl) (k:=0) (N:=["_law_deeds","_law_cell","_law_at"]) (body:=yO) (fun _ _ _ h=>h) hbn F Bz fun cdv A outer s H E=>
 (aF (lF (bZ pY (aA 0) (gK aG))
  (aK (bP (gK aG)))
  dH)
 (aF (bB (i:=2) Bz.nd (aR fK (aA 1) (bN lE PyProof.Rows.Boot.«len» (aC (aA 0) aG) (hb:=hV))))
 (aK (bP (aR cG (aR cG (Re (UH (aA 0) (Ca (aA 2)) MN) (UA MT aI)) (UH (aA 0) MN (Ca (aA 2)))) (gK (aC (bE (aA 0) aI) aG)))))))
theorem CP {f:Addr} {fd:cy} (hbn:∀ x∈bsL,mg x=none) (F:Fun K "number_of" "number_of" dM f fd):aU P w K mg base CX0 1 f fd ["deed"] (spM (cC w K cl) 1 cY):=
 cH (C:=cC w K cl) (k:=0) (N:=["deed"]) (body:=lO) (fun _ _ _ h=>h) hbn F CK fun cdv A outer s H E=>
 (aK (bP (bE (bE (aA 0) aI) aI)))
theorem GN {f:Addr} {fd:cy} (hbn:∀ x∈bsL,mg x=none) (F:Fun K "last_of" "last_of" fT f fd) (mG:rY P w K mg base cl):aU P w K mg base CX0 4 f fd ["hand","deeds"] (spM (cC w K cl) 2 iX):=
 let ⟨_,_,EX,EY⟩:=mG; cH (C:=cC w K cl) (k:=3) (N:=["hand","deeds"]) (body:=tK) (fun _ _ _ h=>h) hbn F GE fun cdv A outer s H E=>
 (aK (bP (V5 EX EY (cO (js:=[none,some 0]) (N:=rS) rfl rfl (by rfl) (cE (aA 1)) (fun _ _ _ _=>(aO Aq)) (fun _ _ _ _=>(fJ (bZ pY (bE (bE (aA 0) aI) aI) (aA 1)))) (fun _ _ _ _=>(aA 0))) (hb:=CM))))
theorem Ol {f:Addr} {fd:cy} (hbn:∀ x∈bsL,mg x=none) (F:Fun K "stamp" "stamp" mU f fd):aU P w K mg base CX0 1 f fd ["deed"] (spM (cC w K cl) 1 iI):=
 cH (C:=cC w K cl) (k:=0) (N:=["deed"]) (body:=rC) (fun _ _ _ h=>h) hbn F Oc fun cdv A outer s H E=>
 (aK (bP (aR cG aI (bN Th PyProof.Rows.Boot.«sum» (aC (cO (js:=[none]) (N:=zE) rfl rfl (by rfl) (cE (bE (aA 0) aI)) (fun _ _ _ _=>(aO EG)) (fun _ _ _ _=>fH) (fun _ _ _ _=>(bE (aA 0) aI))) aG) (hb:=Oe)))))
theorem Om {f:Addr} {fd:cy} (hbn:∀ x∈bsL,mg x=none) (F:Fun K "bound" "bound" mW f fd) (fX:oU P w K mg base cl) (dF:mD P w K mg base cl):aU P w K mg base CX0 5 f fd ["hands","deeds"] (spM (cC w K cl) 2 mO):=
 let ⟨_,_,tZ,uA⟩:=fX; let ⟨_,_,jX,jY⟩:=dF; cH (C:=cC w K cl) (k:=4) (N:=["hands","deeds","settles","lasts"]) (body:=Cu) (fun _ _ _ h=>h) hbn F zF fun cdv A outer s H E=>
 (aF (bB (i:=2) zF.nd (cO (js:=[none]) (N:=zG) rfl rfl (by rfl) (cE (aA 1)) (fun _ _ _ _=>(aO EH)) (fun _ _ _ _=>(fJ (bZ pY (bE (bE (aA 0) aI) aI) lD))) (fun _ _ _ _=>(aA 0))))
 (aF (fO (i:=3) zF.nd rfl rfl (js:=[none,some 2]) (N:=zH) rfl rfl (by rfl) (cE (aA 0)) (fun _ _ _ _=>(aO EI)) (fun _ _ _ _=>fH) (fun _ _ _ _=>(s_call tZ uA (aC (aA 0) (aC (aA 1) aG)))))
 (aK (bP (bN Nv PyProof.Rows.Boot.«min» (aC (cO (js:=[none]) (N:=zI) rfl rfl (by rfl) (cE (aA 3)) (fun _ _ _ _=>(aO EJ)) (fun _ _ _ _=>fH) (fun _ _ _ _=>(Iw (bZ UE (aA 0) AZ) aI (s_call jX jY (aC (aA 0) aG))))) aG) (hb:=Of))))))
theorem As {f:Addr} {fd:cy} (hbn:∀ x∈bsL,mg x=none) (F:Fun K "_law_met_by_all" "_law_met_by_all" cZ f fd):aU P w K mg base CX0 1 f fd ["_law_hands_here","_law_rows"] (spM (cC w K cl) 2 fM):=
 cH (C:=cC w K cl) (k:=0) (N:=["_law_hands_here","_law_rows","_law_least","_law_hand","_law_mine"]) (body:=jU) (fun _ _ _ h=>h) hbn F cN fun cdv A outer s H E=>
 (aF (bB (i:=2) cN.nd AZ)
 (aF (nK (cE (aA 0)) (aO cN.nd)
  (aF (bB (i:=4) cN.nd (cO (js:=[none,none,some 3]) (N:=kJ) rfl rfl (by rfl) (cE (aA 1)) (fun _ _ _ _=>(qC (cM (aO jD) (cM (aO jD) qB)))) (fun _ _ _ _=>(fJ (bZ pY (bE (bE (aA 0) aI) aI) (aA 2)))) (fun _ _ _ _=>(aA 1))))
  (aF (lF (bZ V3 (aA 4) (gK aG))
   (aK (bP (cO (js:=[none]) (N:=kK) rfl rfl (by rfl) (cE (aA 0)) (fun _ _ _ _=>(aO tU)) (fun _ _ _ _=>fH) (fun _ _ _ _=>aI))))
   dH)
  (aF (lF (bZ UE (aA 2) AZ)
   (aK (bB (i:=2) cN.nd (bE (aA 4) (UA MT aI))))
   dH)
  (aK (bB (i:=2) cN.nd (cO (js:=[none,some 2,some 4]) (N:=kL) rfl rfl (by rfl) (xR (aC (bN lE PyProof.Rows.Boot.«len» (aC (aA 0) aG) (hb:=hV)) aG) (hb:=mB)) (fun _ _ _ _=>(aO tV)) (fun _ _ _ _=>fH) (fun _ _ _ _=>(bN Nv PyProof.Rows.Boot.«min» (aC (bE (aA 1) (aA 0)) (aC (bE (bE (aA 2) (UA MT aI)) (aA 0)) aG)) (hb:=Of))))))))))
 (aK (bP (aA 2)))))
theorem Ko {f:Addr} {fd:cy} (hbn:∀ x∈bsL,mg x=none) (F:Fun K "joined" "joined" jE f fd):aU P w K mg base CX0 1 f fd ["one","other"] (spM (cC w K cl) 2 rD):=
 cH (C:=cC w K cl) (k:=0) (N:=["one","other","numbers","hand","n"]) (body:=yQ) (fun _ _ _ h=>h) hbn F mX fun cdv A outer s H E=>
 (aF (bB (i:=2) mX.nd (gL Rf PyProof.Rows.Boot.«dict» (aC (aA 0) aG) (hb:=(.tail _ (.tail _ (.tail _ (.tail _ (.tail _ (.tail _ (.tail _ (.tail _ (.head _))))))))))))
 (aF (nK (cE (aA 1)) (qC (cM (aO mX.nd) (cM (aO mX.nd) qB)))
  (aK (tI (bN Gp PyProof.Rows.Boot.«max» (aC (aA 4) (aC (US i7 fe PySem.F.type_dict_get Tn (aA 2) (aC (aA 3) (aC (aA 4) aG))) aG)) (hb:=CM)) (aA 2) (aA 3))))
 (aK (bP (gL Iy PyProof.Rows.Boot.«tuple» (aC (bN E5 PyProof.Rows.Boot.«sorted» (aC (Tj i7 PySem.F.slot_dict_items PySem.F.type_dict_items R5 (aA 2)) aG) (hb:=jI)) aG) (hb:=EO))))))
theorem GO {f:Addr} {fd:cy} (hbn:∀ x∈bsL,mg x=none) (F:Fun K "widened" "widened" fU f fd) (zS:BF P w K mg base cl):aU P w K mg base CX0 2 f fd ["seen","name"] (spM (cC w K cl) 2 mQ):=
 let ⟨_,_,On,Oo⟩:=zS; cH (C:=cC w K cl) (k:=1) (N:=["seen","name"]) (body:=tL) (fun _ _ _ h=>h) hbn F GF fun cdv A outer s H E=>
 (aK (bP (s_call On Oo (aC (aA 0) (aC (iC (aC (aA 1) aG)) aG)))))
theorem Oq {f:Addr} {fd:cy} (hbn:∀ x∈bsL,mg x=none) (F:Fun K "known" "known" mY f fd) (fX:oU P w K mg base cl) (uB:zQ P w K mg base cl):aU P w K mg base CX0 5 f fd ["hand","deeds"] (spM (cC w K cl) 2 vY):=
 let ⟨_,_,tZ,uA⟩:=fX; let ⟨_,_,Kr,Ks⟩:=uB; cH (C:=cC w K cl) (k:=4) (N:=["hand","deeds","last"]) (body:=Cv) (fun _ _ _ h=>h) hbn F EK fun cdv A outer s H E=>
 (aF (bB (i:=2) EK.nd (s_call tZ uA (aC (aA 0) (aC (aA 1) aG))))
 (aK (bP (Iw (bZ UE (aA 2) AZ) (iC aG) (s_call Kr Ks (aC (bE (aA 2) aI) (aC (bE (aA 2) aI) aG)))))))
theorem RU {f:Addr} {fd:cy} (hbn:∀ x∈bsL,mg x=none) (F:Fun K "rank" "rank" tW f fd) (dF:mD P w K mg base cl):aU P w K mg base CX0 2 f fd ["deed"] (spM (cC w K cl) 1 Cw):=
 let ⟨_,_,jX,jY⟩:=dF; cH (C:=cC w K cl) (k:=1) (N:=["deed","hand","n"]) (body:=Gu) (fun _ _ _ h=>h) hbn F CL fun cdv A outer s H E=>
 (aF (Iz (bE (aA 0) aI) (qC (cM (aO CL.nd) (cM (aO CL.nd) qB))))
 (aK (bP (iC (aC (s_call jX jY (aC (aA 0) aG)) (aC (aA 1) (aC (aA 2) aG)))))))
theorem EZ {f:Addr} {fd:cy} (hbn:∀ x∈bsL,mg x=none) (F:Fun K "in_order" "in_order" eO f fd) (GP:J6 P w K mg base cl):aU P w K mg base CX0 5 f fd ["deeds"] (spM (cC w K cl) 1 dJ):=
 let ⟨_,_,Vh,Vi⟩:=GP; cH (C:=cC w K cl) (k:=4) (N:=["deeds","by_name","deed"]) (body:=oK) (fun _ _ _ h=>h) hbn F lY fun cdv A outer s H E=>
 (aF (bB (i:=1) lY.nd Cb)
 (aF (nK (cE (aA 0)) (aO lY.nd)
  (aK (tI (aA 2) (aA 1) (bE (aA 2) aI))))
 (aK (bP (Rb Vh Vi (Tj i7 PySem.F.slot_dict_values PySem.F.type_dict_values m_values (aA 1)) (hb:=jI))))))
theorem Kt {f:Addr} {fd:cy} (hbn:∀ x∈bsL,mg x=none) (F:Fun K "covers" "covers" jF f fd):aU P w K mg base CX0 1 f fd ["seen","name"] (spM (cC w K cl) 2 iY):=
 cH (C:=cC w K cl) (k:=0) (N:=["seen","name","hand","n"]) (body:=yS) (fun _ _ _ h=>h) hbn F tX fun cdv A outer s H E=>
 (aF (nK (cE (aA 0)) (qC (cM (aO tX.nd) (cM (aO tX.nd) qB)))
  (aK (lF (bZ pY (aA 2) (bE (aA 1) aI))
   (aK (bP (DT DV (bE (aA 1) aI) (aA 3))))
   dH)))
 (aK (bP QI)))
theorem RW {f:Addr} {fd:cy} (hbn:∀ x∈bsL,mg x=none) (F:Fun K "sunk" "sunk" tY f fd) (dF:mD P w K mg base cl) (fN:rZ P w K mg base cl) (CQ:ET P w K mg base cl) (eT:mE P w K mg base cl) (zT:BG P w K mg base cl):aU P w K mg base CX0 6 f fd ["hands","deeds"] (spM (cC w K cl) 2 oM):=
 let ⟨_,_,jX,jY⟩:=dF; let ⟨_,_,sA,sC⟩:=fN; let ⟨_,_,RX,RY⟩:=CQ; let ⟨_,_,oW,oX⟩:=eT; let ⟨_,_,Os,Ot⟩:=zT; cH (C:=cC w K cl) (k:=5) (N:=["hands","deeds","highest","low","seens"]) (body:=Gv) (fun _ _ _ h=>h) hbn F wC fun cdv A outer s H E=>
 (aF (bB (i:=2) wC.nd (s_call sA sC (aC (aA 0) (aC (aA 1) aG))))
 (aF (fO (i:=3) wC.nd rfl rfl (js:=[none,some 2]) (N:=BA) rfl rfl (by rfl) (cE (s_call oW oX (aC (aA 1) aG))) (fun _ _ _ _=>(aO GG)) (fun _ _ _ _=>(fJ (bZ DV (s_call jX jY (aC (aA 0) aG)) (aA 1)))) (fun _ _ _ _=>(bE (aA 0) aI)))
 (aF (bB (i:=4) wC.nd (cO (js:=[none,some 1]) (N:=BB) rfl rfl (by rfl) (cE (aA 0)) (fun _ _ _ _=>(aO GH)) (fun _ _ _ _=>fH) (fun _ _ _ _=>(s_call RX RY (aC (aA 0) (aC (aA 1) aG))))))
 (aK (bP (cO (js:=[none,some 4]) (N:=BC) rfl rfl (by rfl) (cE (aA 3)) (fun _ _ _ _=>(aO GI)) (fun _ _ _ _=>(fJ (Iv (bN WZ PyProof.Rows.Boot.«all» (aC (cO (js:=[none,some 0]) (N:=BD) rfl rfl (by rfl) (cE (aA 1)) (fun _ _ _ _=>(aO GJ)) (fun _ _ _ _=>fH) (fun _ _ _ _=>(s_call Os Ot (aC (aA 0) (aC (aA 1) aG))))) aG) (hb:=(.tail _ (.tail _ (.tail _ (.tail _ (.tail _ (.tail _ (.tail _ (.tail _ (.tail _ (.head _))))))))))))))) (fun _ _ _ _=>(aA 0))))))))
theorem GQ {f:Addr} {fd:cy} (hbn:∀ x∈bsL,mg x=none) (F:Fun K "name_of" "name_of" fV f fd):aU P w K mg base CX0 1 f fd ["deed"] (spM (cC w K cl) 1 iZ):=
 cH (C:=cC w K cl) (k:=0) (N:=["deed"]) (body:=tM) (fun _ _ _ h=>h) hbn F GK fun cdv A outer s H E=>
 (aK (bP (bE (aA 0) aI)))
theorem F0 {f:Addr} {fd:cy} (hbn:∀ x∈bsL,mg x=none) (F:Fun K "taker_of" "taker_of" eP f fd):aU P w K mg base CX0 1 f fd ["n","backs"] (spM (cC w K cl) 2 jV):=
 cH (C:=cC w K cl) (k:=0) (N:=["n","backs","back","word","first","last"]) (body:=oO) (fun _ _ _ h=>h) hbn F fE fun cdv A outer s H E=>
 (aF (nK (cE (aA 1)) (aO fE.nd)
  (aF (Iz (bE (aA 2) aI) (qC (cM (aO fE.nd) (cM (aO fE.nd) (cM (aO fE.nd) qB)))))
  (aK (lF (Wx DV DV (aA 4) (aA 0) (aA 5))
   (aK (bP (bE (aA 2) aI)))
   dH))))
 (aK (bP AZ)))
theorem Ku {f:Addr} {fd:cy} (hbn:∀ x∈bsL,mg x=none) (F:Fun K "takers" "takers" jG f fd) (uC:zR P w K mg base cl) (oY:vH P w K mg base cl):aU P w K mg base CX0 4 f fd ["deeds"] (spM (cC w K cl) 1 rG):=
 let ⟨_,_,Kv,Kw⟩:=uC; let ⟨_,_,GR,GS⟩:=oY; cH (C:=cC w K cl) (k:=3) (N:=["deeds","taken","backs","deed","hand","n","word","by"]) (body:=yU) (fun _ _ _ h=>h) hbn F dN fun cdv A outer s H E=>
 (aF (bB (i:=1) dN.nd Cb)
 (aF (bB (i:=2) dN.nd Cb)
 (aF (nK (cE (Nq Kv Kw (aA 0) (hb:=jI))) (aO dN.nd)
  (aF (Iz (bE (aA 3) aI) (qC (cM (aO dN.nd) (cM (aO dN.nd) qB))))
  (aF (bB (i:=6) dN.nd (bE (bE (aA 3) aI) aI))
  (aF (lF (bZ pY (aA 6) lD)
   (aF (tI (gK aG) (aA 2) (aA 4))
   (aK WC))
   dH)
  (aF (bB (i:=7) dN.nd (s_call GR GS (aC (aA 5) (aC (US i7 fe PySem.F.type_dict_get Tn (aA 2) (aC (aA 4) (aC (gK aG) aG))) aG))))
  (aK (lF (bZ QK (aA 7) AZ)
   (aK (tI (aA 7) (aA 1) (bE (aA 3) aI)))
   (aK (lF (bZ pY (aA 6) lD)
    (aK (B0 (Ga d7 iz i3 lG (US i7 lg PySem.F.type_dict_setdefault Ck (aA 2) (aC (aA 4) (aC (gK aG) aG))) (aC (aA 3) aG))))
    dH)))))))))
 (aK (bP (aA 1))))))
theorem F1 {f:Addr} {fd:cy} (hbn:∀ x∈bsL,mg x=none) (F:Fun K "in_force" "in_force" eQ f fd) (eT:mE P w K mg base cl) (zU:BH P w K mg base cl):aU P w K mg base CX0 6 f fd ["deeds"] (spM (cC w K cl) 1 eN):=
 let ⟨_,_,oW,oX⟩:=eT; let ⟨_,_,Ou,Ov⟩:=zU; cH (C:=cC w K cl) (k:=5) (N:=["deeds","ordered","taken"]) (body:=oP) (fun _ _ _ h=>h) hbn F lZ fun cdv A outer s H E=>
 (aF (bB (i:=1) lZ.nd (s_call oW oX (aC (aA 0) aG)))
 (aF (bB (i:=2) lZ.nd (s_call Ou Ov (aC (aA 1) aG)))
 (aK (bP (cO (js:=[none,some 2]) (N:=nN) rfl rfl (by rfl) (cE (aA 1)) (fun _ _ _ _=>(aO zJ)) (fun _ _ _ _=>(fJ (bZ N7 (bE (aA 0) aI) (aA 1)))) (fun _ _ _ _=>(aA 0)))))))
theorem GT {f:Addr} {fd:cy} (hbn:∀ x∈bsL,mg x=none) (F:Fun K "settled" "settled" fW f fd) (dF:mD P w K mg base cl) (fN:rZ P w K mg base cl) (eU:mF P w K mg base cl):aU P w K mg base CX0 7 f fd ["hands","deeds"] (spM (cC w K cl) 2 fP):=
 let ⟨_,_,jX,jY⟩:=dF; let ⟨_,_,sA,sC⟩:=fN; let ⟨_,_,oZ,pA⟩:=eU; cH (C:=cC w K cl) (k:=6) (N:=["hands","deeds","highest"]) (body:=tN) (fun _ _ _ h=>h) hbn F zK fun cdv A outer s H E=>
 (aF (bB (i:=2) zK.nd (s_call sA sC (aC (aA 0) (aC (aA 1) aG))))
 (aK (bP (cO (js:=[none,some 2]) (N:=rT) rfl rfl (by rfl) (cE (s_call oZ pA (aC (aA 1) aG))) (fun _ _ _ _=>(aO Ar)) (fun _ _ _ _=>(fJ (bZ DV (s_call jX jY (aC (aA 0) aG)) (aA 1)))) (fun _ _ _ _=>(aA 0))))))
theorem Kx {f:Addr} {fd:cy} (hbn:∀ x∈bsL,mg x=none) (F:Fun K "_law_rank" "_law_rank" jH f fd):aU P w K mg base CX0 1 f fd ["_law_deed"] (spM (cC w K cl) 1 gY):=
 cH (C:=cC w K cl) (k:=0) (N:=["_law_deed"]) (body:=rH) (fun _ _ _ h=>h) hbn F Km fun cdv A outer s H E=>
 (aK (bP (iC (aC (aR cG aI (bN Th PyProof.Rows.Boot.«sum» (aC (cO (js:=[none,none]) (N:=vF) rfl rfl (by rfl) (cE (bE (aA 0) aI)) (fun _ _ _ _=>(qC (cM (aO rV) (cM (aO rV) qB)))) (fun _ _ _ _=>fH) (fun _ _ _ _=>(aA 1))) aG) (hb:=Oe))) (aC (bE (aA 0) aI) aG)))))
theorem Ow {f:Addr} {fd:cy} (hbn:∀ x∈bsL,mg x=none) (F:Fun K "_law_up_to" "_law_up_to" mZ f fd) (zV:BI P w K mg base cl):aU P w K mg base CX0 4 f fd ["_law_deeds","_law_top"] (spM (cC w K cl) 2 jW):=
 let ⟨_,_,F2,F3⟩:=zV; cH (C:=cC w K cl) (k:=3) (N:=["_law_deeds","_law_top"]) (body:=vZ) (fun _ _ _ h=>h) hbn F Od fun cdv A outer s H E=>
 (aK (bP (cO (js:=[none,some 1]) (N:=zL) rfl rfl (by rfl) (cE (Ny F2 F3 (aA 0) (hb:=jI))) (fun _ _ _ _=>(aO EL)) (fun _ _ _ _=>(fJ (bZ DV (bE (s_call F2 F3 (aC (aA 0) aG)) aI) (aA 1)))) (fun _ _ _ _=>(aA 0)))))
theorem Ox {f:Addr} {fd:cy} (hbn:∀ x∈bsL,mg x=none) (F:Fun K "_law_right" "_law_right" nA f fd) (zW:BE P w K mg base cl) (fN:rZ P w K mg base cl) (jZ:nQ P w K mg base cl) (uD:CN P w K mg base cl) (eU:mF P w K mg base cl) (fY:oV P w K mg base cl) (CS:EU P w K mg base cl):aU P w K mg base CX0 8 f fd ["_law_hands_here","_law_rows","_law_cell"] (spM (cC w K cl) 3 mR):=
 let ⟨_,_,Oy,Oz⟩:=zW; let ⟨_,_,sA,sC⟩:=fN; let ⟨_,_,CT,CU⟩:=jZ; let ⟨_,_,CV,CW⟩:=uD; let ⟨_,_,oZ,pA⟩:=eU; let ⟨_,_,uE,uF⟩:=fY; let ⟨_,_,J7,J8⟩:=CS; cH (C:=cC w K cl) (k:=7) (N:=["_law_hands_here","_law_rows","_law_cell","_law_plain","_law_deeds","_law_handed","_law_top","_law_least","_law_due","_law_found","_law_force"]) (body:=Cy) (fun _ _ _ h=>h) hbn F dC fun cdv A outer s H E=>
 (aF (fO (i:=3) dC.nd rfl rfl (js:=[none,none]) (N:=zM) rfl rfl (by rfl) (cE (aA 1)) (fun _ _ _ _=>(qC (cM (aO vG) (cM (aO vG) qB)))) (fun _ _ _ _=>fH) (fun _ _ _ _=>(aA 0)))
 (aF (bB (i:=4) dC.nd (s_call Oy Oz (aC (aA 3) (aC (aA 2) aG))))
 (aF (bB (i:=5) dC.nd (gL Cc PyProof.Rows.Boot.«list» (aC (aA 4) aG) (hb:=nC)))
 (aF (bB (i:=6) dC.nd (s_call sA sC (aC (aA 0) (aC (aA 4) aG))))
 (aF (bB (i:=7) dC.nd (s_call CT CU (aC (aA 0) (aC (aA 1) aG))))
 (aF (fO (i:=8) dC.nd rfl rfl (js:=[none,some 7,some 0]) (N:=zN) rfl rfl (by rfl) (cE (s_call J7 J8 (aC (aA 3) (aC (aA 6) aG)))) (fun _ _ _ _=>(aO EM)) (fun _ _ _ _=>(fJ (bZ DV (bE (bE (aA 0) aI) aI) (bE (aA 1) (Ga d7 PySem.F.slot_list_index PySem.F.type_list_index IV (aA 2) (aC (bE (bE (aA 0) aI) aI) aG)))))) (fun _ _ _ _=>(bE (aA 0) aI)))
 (aF (bB (i:=9) dC.nd (s_call CV CW (aC (gL Cc PyProof.Rows.Boot.«list» (aC (aA 0) aG) (hb:=nC)) (aC (aA 5) aG))))
 (aF (lF (SW.t (w_or (MJ (Iv (bN qD PyProof.Rows.Boot.«isinstance» (aC (aA 9) (aC (MA (n:="list") PyProof.Rows.Boot.«list» (hb:=nC)) aG)) (hb:=nO)))) (Td (bZ UD (aA 9) (aA 8)))))
  (aK (bP QI))
  dH)
 (aF (B0 (Ga d7 iz i3 lG (aA 9) (aC (iC (aC lD (aC aI aG))) aG)))
 (aF (bB (i:=10) dC.nd (s_call oZ pA (aC (aA 4) aG)))
 (aF (bB (i:=9) dC.nd (s_call uE uF (aC (gL Cc PyProof.Rows.Boot.«list» (aC (aA 0) aG) (hb:=nC)) (aC (aA 5) aG))))
 (aF (lF (SW.t (w_or (MJ (Iv (bN qD PyProof.Rows.Boot.«isinstance» (aC (aA 9) (aC (MA (n:="list") PyProof.Rows.Boot.«list» (hb:=nC)) aG)) (hb:=nO)))) (Td (bZ UD (aA 9) (cO (js:=[none,some 10]) (N:=zO) rfl rfl (by rfl) (cE (s_call J7 J8 (aC (aA 3) (aC (aA 6) aG)))) (fun _ _ _ _=>(aO EN)) (fun _ _ _ _=>(fJ (bZ X0 (aA 0) (aA 1)))) (fun _ _ _ _=>(aA 0)))))))
  (aK (bP QI))
  dH)
 (aF (B0 (WE d7 PySem.F.slot_list_clear PySem.F.type_list_clear QP (aA 9)))
 (aK (bP (ML (DT pY (aA 5) (aA 4)) (Te (DT pY (s_call CV CW (aC (aA 0) (aC (aA 4) aG))) (aA 8)))))))))))))))))))
theorem OA {f:Addr} {fd:cy} (hbn:∀ x∈bsL,mg x=none) (F:Fun K "_law_taken" "_law_taken" nB f fd):aU P w K mg base CX0 1 f fd ["_law_rows","_law_hands_here","_law_counts"] (spM (cC w K cl) 3 wA):=
 cH (C:=cC w K cl) (k:=0) (N:=["_law_rows","_law_hands_here","_law_counts","_law_found","_law_row","_law_name"]) (body:=Cz) (fun _ _ _ h=>h) hbn F rW fun cdv A outer s H E=>
 (aF (bB (i:=3) rW.nd (gK aG))
 (aF (nK (cE (aA 0)) (aO rW.nd)
  (aF (bB (i:=5) rW.nd (bE (bE (aA 4) aI) aI))
  (aK (lF (bZ DV (bE (aA 5) aI) (bE (aA 2) (Ga d7 PySem.F.slot_list_index PySem.F.type_list_index IV (aA 1) (aC (bE (aA 5) aI) aG))))
   (aK (B0 (Ga d7 iz i3 lG (aA 3) (aC (aA 4) aG))))
   dH))))
 (aK (bP (aA 3)))))
theorem Vj {f:Addr} {fd:cy} (hbn:∀ x∈bsL,mg x=none) (F:Fun K "law" "law" rX f fd) (CY:ER P w K mg base cl) (uG:zP P w K mg base cl) (uD:CN P w K mg base cl) (fY:oV P w K mg base cl) (CZ:EV P w K mg base cl) (D0:EW P w K mg base cl):aU P w K mg base CX0 9 f fd ["_law_script"] (spM (cC w K cl) 1 NJ):=
 let ⟨_,_,RZ,S0⟩:=CY; let ⟨_,_,Ky,Kz⟩:=uG; let ⟨_,_,CV,CW⟩:=uD; let ⟨_,_,uE,uF⟩:=fY; let ⟨_,_,J9,J'⟩:=CZ; let ⟨_,_,S1,S2⟩:=D0; cH (C:=cC w K cl) (k:=8) (N:=["_law_script","_law_cell","_law_hands_here","_law_rows","_law_all_counts","_law_k"]) (body:=NI) (fun _ _ _ h=>h) hbn F oT fun cdv A outer s H E=>
 (aF (bB (i:=1) oT.nd aI)
 (aF (lF (bZ UC (bN lE PyProof.Rows.Boot.«len» (aC (aA 0) aG) (hb:=hV)) aI)
  (aK (bB (i:=1) oT.nd (bE (aA 0) aI)))
  dH)
 (aF (bB (i:=2) oT.nd (s_call RZ S0 (aC (aA 1) aG)))
 (aF (Iz (s_call Ky Kz (aC (UH (aA 0) (Ca aI) (Ca aI)) (aC (aA 2) aG))) (qC (cM (aO oT.nd) (cM (aO oT.nd) qB))))
 (aF (nK (xR (aC (bN lE PyProof.Rows.Boot.«len» (aC (aA 2) aG) (hb:=hV)) aG) (hb:=mB)) (aO oT.nd)
  (aK (lF (MJ (Iv (s_call J9 J' (aC (aA 2) (aC (s_call S1 S2 (aC (aA 3) (aC (aA 2) (aC (bE (aA 4) (aA 5)) aG)))) (aC (aR cG (aR kB (aA 1) aI) (aA 5)) aG))))))
   (aK (bP QI))
   dH)))
 (aK (bP (ML (s_call J9 J' (aC (aA 2) (aC (aA 3) (aC (aR kB (aA 1) aI) aG)))) (ML (DT pY (s_call CV CW (aC (aA 2) (aC (gK aG) aG))) (gK aG)) (Te (DT pY (s_call uE uF (aC (aA 2) (aC (gK aG) aG))) (gK aG))))))))))))
end
def spL (K:ag):Sp:=fun vs H Q _=>∃ (a:Addr) (ns:List Int),vs=[.ref a]/\M' H/\SqL K H a (ns.map V.int)/\ns.length<=63/\∀ H',Q (.bl true) H'
@[elab_as_elim] theorem D1 {P:List Value->Prop} (us:List Value) (hl:us.length=1) (h:∀ a0,P [a0]):P us:=by
 cases us with
 | nil=>cases hl
 | cons a0 us=>
  cases us with
  | nil=>exact h a0
  | cons b us=>
   simp only [dq] at hl;omega
@[elab_as_elim] theorem pB {P:List Value->Prop} (us:List Value) (hl:us.length=2) (h:∀ a0 a1,P [a0,a1]):P us:=by
 cases us with
 | nil=>cases hl
 | cons a0 us=>
  cases us with
  | nil=>cases hl
  | cons a1 us=>
   cases us with
   | nil=>exact h a0 a1
   | cons b us=>
    simp only [dq] at hl;omega
@[elab_as_elim] theorem Vk {P:List Value->Prop} (us:List Value) (hl:us.length=3) (h:∀ a0 a1 a2,P [a0,a1,a2]):P us:=by
 cases us with
 | nil=>cases hl
 | cons a0 us=>
  cases us with
  | nil=>cases hl
  | cons a1 us=>
   cases us with
   | nil=>cases hl
   | cons a2 us=>
    cases us with
    | nil=>exact h a0 a1 a2
    | cons b us=>
     simp only [dq] at hl;omega
theorem all_mk {l:PySem.W.OpenLaw} {w:World} {K:ag} {h:Heap} {mg:Str->Option Value} {fa D2 GU D3 OB uH zX mH uI D4 D5 kA zY uJ D6 GV pC zZ GW uK pD A0 pE uL A1 D7 D8 D9 OC:Addr} (X:K.In h) (G:h.Ns cb mg) (hfa:mg "law" = some (.ref fa)) (hbn:∀ x∈bsL,mg x=none)
  (S3:c3 K cb "_law_hands" = some (some (.ref D2)))
  {OD OE KA OF BJ OG:Value} {OH OI:Option Addr} {KB:Array (Option Value)}
  (S4:K.lookup D2=some ⟨OD,OH,.func (bz "_law_hands" "_law_hands" (aQ mS) (aP mS) (aE mS) .none OE KA OF OI BJ OG),KB⟩)
  (S5:bq K BJ "_law_hands" = true)
  (S6:bh K (.ref D2)=true)
  (Vl:c3 K cb "_law_seen" = some (some (.ref GU)))
  {S7 S8 OJ S9 F4 Sa:Value} {Sb Sd:Option Addr} {OK:Array (Option Value)}
  (Vm:K.lookup GU=some ⟨S7,Sb,.func (bz "_law_seen" "_law_seen" (aQ tT) (aP tT) (aE tT) .none S8 OJ S9 Sd F4 Sa),OK⟩)
  (Vn:bq K F4 "_law_seen" = true)
  (Vo:bh K (.ref GU)=true)
  (Se:c3 K cb "_law_mixed" = some (some (.ref D3)))
  {OL OM KC ON BK OO:Value} {OP OQ:Option Addr} {KD:Array (Option Value)}
  (Sf:K.lookup D3=some ⟨OL,OP,.func (bz "_law_mixed" "_law_mixed" (aQ mT) (aP mT) (aE mT) .none OM KC ON OQ BK OO),KD⟩)
  (Sg:bq K BK "_law_mixed" = true)
  (Sh:bh K (.ref D3)=true)
  (Xr:c3 K cb "_law_act" = some (some (.ref OB)))
  {Vp Vq Si Vr Ja Vs:Value} {Vt Vu:Option Addr} {Sj:Array (Option Value)}
  (Xs:K.lookup OB=some ⟨Vp,Vt,.func (bz "_law_act" "_law_act" (aQ By) (aP By) (aE By) .none Vq Si Vr Vu Ja Vs),Sj⟩)
  (Xt:bq K Ja "_law_act" = true)
  (Xu:bh K (.ref OB)=true)
  (KF:c3 K cb "_law_history" = some (some (.ref uH)))
  {GX GY F5 GZ vI Ha:Value} {Hb Hc:Option Addr} {F6:Array (Option Value)}
  (KG:K.lookup uH=some ⟨GX,Hb,.func (bz "_law_history" "_law_history" (aQ fR) (aP fR) (aE fR) .none GY F5 GZ Hc vI Ha),F6⟩)
  (KH:bq K vI "_law_history" = true)
  (KI:bh K (.ref uH)=true)
  (OR:c3 K cb "_law_turned" = some (some (.ref zX)))
  {KJ KL Hd KM A2 KN:Value} {KO KQ:Option Addr} {He:Array (Option Value)}
  (OS:K.lookup zX=some ⟨KJ,KO,.func (bz "_law_turned" "_law_turned" (aQ jC) (aP jC) (aE jC) .none KL Hd KM KQ A2 KN),He⟩)
  (OT:bq K A2 "_law_turned" = true)
  (OU:bh K (.ref zX)=true)
  (F7:c3 K cb "number_of" = some (some (.ref mH)))
  {Da Dc Au Df nR Dg:Value} {Dh Di:Option Addr} {Av:Array (Option Value)}
  (F8:K.lookup mH=some ⟨Da,Dh,.func (bz "number_of" "number_of" (aQ dM) (aP dM) (aE dM) .none Dc Au Df Di nR Dg),Av⟩)
  (F9:bq K nR "number_of" = true)
  (Fb:bh K (.ref mH)=true)
  (KR:c3 K cb "last_of" = some (some (.ref uI)))
  {Hf Hg Fc Hh vJ Hi:Value} {Hj Hk:Option Addr} {Fd:Array (Option Value)}
  (KS:K.lookup uI=some ⟨Hf,Hj,.func (bz "last_of" "last_of" (aQ fT) (aP fT) (aE fT) .none Hg Fc Hh Hk vJ Hi),Fd⟩)
  (KU:bq K vJ "last_of" = true)
  (KW:bh K (.ref uI)=true)
  (Sk:c3 K cb "stamp" = some (some (.ref D4)))
  {OV OW KY OX BL OY:Value} {OZ P0:Option Addr} {KZ:Array (Option Value)}
  (Sl:K.lookup D4=some ⟨OV,OZ,.func (bz "stamp" "stamp" (aQ mU) (aP mU) (aE mU) .none OW KY OX P0 BL OY),KZ⟩)
  (Sm:bq K BL "stamp" = true)
  (Sn:bh K (.ref D4)=true)
  (So:c3 K cb "bound" = some (some (.ref D5)))
  {P1 P2 L0 P3 BM P4:Value} {P5 P6:Option Addr} {L1:Array (Option Value)}
  (Sq:K.lookup D5=some ⟨P1,P5,.func (bz "bound" "bound" (aQ mW) (aP mW) (aE mW) .none P2 L0 P3 P6 BM P4),L1⟩)
  (Sr:bq K BM "bound" = true)
  (Su:bh K (.ref D5)=true)
  (Dj:c3 K cb "_law_met_by_all" = some (some (.ref kA)))
  {Aw Ax A3 Ay mI Az:Value} {AA AB:Option Addr} {A4:Array (Option Value)}
  (Dk:K.lookup kA=some ⟨Aw,AA,.func (bz "_law_met_by_all" "_law_met_by_all" (aQ cZ) (aP cZ) (aE cZ) .none Ax A3 Ay AB mI Az),A4⟩)
  (Dl:bq K mI "_law_met_by_all" = true)
  (Dm:bh K (.ref kA)=true)
  (P7:c3 K cb "joined" = some (some (.ref zY)))
  {L3 L4 Hl L5 A5 L6:Value} {L7 L8:Option Addr} {Hm:Array (Option Value)}
  (P8:K.lookup zY=some ⟨L3,L7,.func (bz "joined" "joined" (aQ jE) (aP jE) (aE jE) .none L4 Hl L5 L8 A5 L6),Hm⟩)
  (P9:bq K A5 "joined" = true)
  (P':bh K (.ref zY)=true)
  (L9:c3 K cb "widened" = some (some (.ref uJ)))
  {Hn Ho Fe Hq vK Hr:Value} {Hs Ht:Option Addr} {Ff:Array (Option Value)}
  (L':K.lookup uJ=some ⟨Hn,Hs,.func (bz "widened" "widened" (aQ fU) (aP fU) (aE fU) .none Ho Fe Hq Ht vK Hr),Ff⟩)
  (La:bq K vK "widened" = true)
  (Lb:bh K (.ref uJ)=true)
  (Sv:c3 K cb "known" = some (some (.ref D6)))
  {Pa Pb Lc Pc BN Pd:Value} {Pe Pf:Option Addr} {Ld:Array (Option Value)}
  (Sw:K.lookup D6=some ⟨Pa,Pe,.func (bz "known" "known" (aQ mY) (aP mY) (aE mY) .none Pb Lc Pc Pf BN Pd),Ld⟩)
  (Sx:bq K BN "known" = true)
  (Sy:bh K (.ref D6)=true)
  (Vv:c3 K cb "rank" = some (some (.ref GV)))
  {Sz SB Pg SC Fg SD:Value} {SF SH:Option Addr} {Ph:Array (Option Value)}
  (Vw:K.lookup GV=some ⟨Sz,SF,.func (bz "rank" "rank" (aQ tW) (aP tW) (aE tW) .none SB Pg SC SH Fg SD),Ph⟩)
  (Vx:bq K Fg "rank" = true)
  (Vy:bh K (.ref GV)=true)
  (Hu:c3 K cb "in_order" = some (some (.ref pC)))
  {Fh Fi Dn Fj sD Fk:Value} {Fm Fo:Option Addr} {Do:Array (Option Value)}
  (Hv:K.lookup pC=some ⟨Fh,Fm,.func (bz "in_order" "in_order" (aQ eO) (aP eO) (aE eO) .none Fi Dn Fj Fo sD Fk),Do⟩)
  (Hw:bq K sD "in_order" = true)
  (Hx:bh K (.ref pC)=true)
  (Pi:c3 K cb "covers" = some (some (.ref zZ)))
  {Le Lf Hy Lg A6 Lh:Value} {Li Lj:Option Addr} {Hz:Array (Option Value)}
  (Pj:K.lookup zZ=some ⟨Le,Li,.func (bz "covers" "covers" (aQ jF) (aP jF) (aE jF) .none Lf Hy Lg Lj A6 Lh),Hz⟩)
  (Pk:bq K A6 "covers" = true)
  (Pl:bh K (.ref zZ)=true)
  (Vz:c3 K cb "sunk" = some (some (.ref GW)))
  {SJ SK Pm SL Fp SM:Value} {SN SQ:Option Addr} {Pn:Array (Option Value)}
  (VA:K.lookup GW=some ⟨SJ,SN,.func (bz "sunk" "sunk" (aQ tY) (aP tY) (aE tY) .none SK Pm SL SQ Fp SM),Pn⟩)
  (VB:bq K Fp "sunk" = true)
  (VC:bh K (.ref GW)=true)
  (Lk:c3 K cb "name_of" = some (some (.ref uK)))
  {HA HB Fq HC vL HE:Value} {HF HG:Option Addr} {Fs:Array (Option Value)}
  (Ll:K.lookup uK=some ⟨HA,HF,.func (bz "name_of" "name_of" (aQ fV) (aP fV) (aE fV) .none HB Fq HC HG vL HE),Fs⟩)
  (Lm:bq K vL "name_of" = true)
  (Ln:bh K (.ref uK)=true)
  (HH:c3 K cb "taker_of" = some (some (.ref pD)))
  {Ft Fu Dp Fv sE Fw:Value} {Fx Fy:Option Addr} {Dq:Array (Option Value)}
  (HJ:K.lookup pD=some ⟨Ft,Fx,.func (bz "taker_of" "taker_of" (aQ eP) (aP eP) (aE eP) .none Fu Dp Fv Fy sE Fw),Dq⟩)
  (HK:bq K sE "taker_of" = true)
  (HL:bh K (.ref pD)=true)
  (Po:c3 K cb "takers" = some (some (.ref A0)))
  {Lo Lp HM Lq A7 Lr:Value} {Ls Lu:Option Addr} {HN:Array (Option Value)}
  (Pp:K.lookup A0=some ⟨Lo,Ls,.func (bz "takers" "takers" (aQ jG) (aP jG) (aE jG) .none Lp HM Lq Lu A7 Lr),HN⟩)
  (Pq:bq K A7 "takers" = true)
  (Pr:bh K (.ref A0)=true)
  (HP:c3 K cb "in_force" = some (some (.ref pE)))
  {Fz FA Dr FB sF FC:Value} {FD FF:Option Addr} {Ds:Array (Option Value)}
  (HQ:K.lookup pE=some ⟨Fz,FD,.func (bz "in_force" "in_force" (aQ eQ) (aP eQ) (aE eQ) .none FA Dr FB FF sF FC),Ds⟩)
  (HS:bq K sF "in_force" = true)
  (HU:bh K (.ref pE)=true)
  (Lv:c3 K cb "settled" = some (some (.ref uL)))
  {HV HW FG HX vM HY:Value} {HZ I0:Option Addr} {FH:Array (Option Value)}
  (Lw:K.lookup uL=some ⟨HV,HZ,.func (bz "settled" "settled" (aQ fW) (aP fW) (aE fW) .none HW FG HX I0 vM HY),FH⟩)
  (Lx:bq K vM "settled" = true)
  (Ly:bh K (.ref uL)=true)
  (Pt:c3 K cb "_law_rank" = some (some (.ref A1)))
  {Lz LA Ia LB A8 LC:Value} {LD LF:Option Addr} {Ib:Array (Option Value)}
  (Pu:K.lookup A1=some ⟨Lz,LD,.func (bz "_law_rank" "_law_rank" (aQ jH) (aP jH) (aE jH) .none LA Ia LB LF A8 LC),Ib⟩)
  (Pv:bq K A8 "_law_rank" = true)
  (Pw:bh K (.ref A1)=true)
  (SR:c3 K cb "_law_up_to" = some (some (.ref D7)))
  {Px Py LG Pz BO PB:Value} {PC PD:Option Addr} {LH:Array (Option Value)}
  (SS:K.lookup D7=some ⟨Px,PC,.func (bz "_law_up_to" "_law_up_to" (aQ mZ) (aP mZ) (aE mZ) .none Py LG Pz PD BO PB),LH⟩)
  (SU:bq K BO "_law_up_to" = true)
  (SV:bh K (.ref D7)=true)
  (SX:c3 K cb "_law_right" = some (some (.ref D8)))
  {PF PJ LI PK BP PL:Value} {PM PN:Option Addr} {LJ:Array (Option Value)}
  (SY:K.lookup D8=some ⟨PF,PM,.func (bz "_law_right" "_law_right" (aQ nA) (aP nA) (aE nA) .none PJ LI PK PN BP PL),LJ⟩)
  (SZ:bq K BP "_law_right" = true)
  (T1:bh K (.ref D8)=true)
  (T2:c3 K cb "_law_taken" = some (some (.ref D9)))
  {PP PQ LK PR BQ PU:Value} {PY PZ:Option Addr} {LL:Array (Option Value)}
  (T3:K.lookup D9=some ⟨PP,PY,.func (bz "_law_taken" "_law_taken" (aQ nB) (aP nB) (aE nB) .none PQ LK PR PZ BQ PU),LL⟩)
  (T4:bq K BQ "_law_taken" = true)
  (T5:bh K (.ref D9)=true)
  (Xv:c3 K cb "law" = some (some (.ref OC)))
  {VD Q1 Jb Q2 Dt Q4:Value} {VE Q6:Option Addr} {T6:Array (Option Value)}
  (Xw:K.lookup OC=some ⟨VD,VE,.func (bz "law" "law" (aQ rX) (aP rX) (aE rX) .none Q1 Jb Q2 Q6 Dt Q4),T6⟩)
  (Xx:bq K Dt "law" = true)
  (Xy:bh K (.ref OC)=true)
  : ∃ fd:cy,(∀ (s:Shared) (v:Value),BindsTo s fd ⟨[v],[]⟩ [("_law_script",v)])/\∀ base:Heap,K.In base->base.Ns cb mg->aU l.prog w K mg base CX0 9 fa fd ["_law_script"] (spL K):=by
 have e:=hfa.symm.trans (PySem.W.mg_of X G Xv);cases e
 refine ⟨bz "law" "law" (aQ rX) (aP rX) (aE rX) .none Q1 Jb Q2 Q6 Dt Q4,fun s v=>.of_eq rfl,fun base _ _=>?_⟩;have CY:ER l.prog w K mg base (fun z=>none):=eR (Def.mk' X G S3 S4 S5 S6 (fun _ _ _ _ _ _ us hl=>D1 us hl fun _=>rfl)) fun F=>Oh (cl:=fun z=>none) hbn F;have GM:J5 l.prog w K mg base (fun z=>none):=eR (Def.mk' X G Vl Vm Vn Vo (fun _ _ _ _ _ _ us hl=>pB us hl fun _ _=>rfl)) fun F=>RR (cl:=fun z=>none) hbn F;have CO:ES l.prog w K mg base (fun z=>none):=eR (Def.mk' X G Se Sf Sg Sh (fun _ _ _ _ _ _ us hl=>pB us hl fun _ _=>rfl)) fun F=>Oi (cl:=fun z=>none) hbn F;have Oj:Og l.prog w K mg base (fun z=>none):=eR (Def.mk' X G Xr Xs Xt Xu (fun _ _ _ _ _ _ us hl=>Vk us hl fun _ _ _=>rfl)) fun F=>Ve (cl:=fun z=>none) hbn F CO;have uG:zP l.prog w K mg base (fun z=>none):=eR (Def.mk' X G KF KG KH KI (fun _ _ _ _ _ _ us hl=>pB us hl fun _ _=>rfl)) fun F=>GL (cl:=fun z=>none) hbn F GM Oj;have zW:BE l.prog w K mg base (fun z=>none):=eR (Def.mk' X G OR OS OT OU (fun _ _ _ _ _ _ us hl=>pB us hl fun _ _=>rfl)) fun F=>Kn (cl:=fun z=>none) hbn F;have mG:rY l.prog w K mg base (fun z=>none):=eR (Def.mk' X G F7 F8 F9 Fb (fun _ _ _ _ _ _ us hl=>D1 us hl fun _=>rfl)) fun F=>CP (cl:=fun z=>none) hbn F;have fX:oU l.prog w K mg base (fun z=>none):=eR (Def.mk' X G KR KS KU KW (fun _ _ _ _ _ _ us hl=>pB us hl fun _ _=>rfl)) fun F=>GN (cl:=fun z=>none) hbn F mG;have dF:mD l.prog w K mg base (fun z=>none):=eR (Def.mk' X G Sk Sl Sm Sn (fun _ _ _ _ _ _ us hl=>D1 us hl fun _=>rfl)) fun F=>Ol (cl:=fun z=>none) hbn F;have fN:rZ l.prog w K mg base (fun z=>none):=eR (Def.mk' X G So Sq Sr Su (fun _ _ _ _ _ _ us hl=>pB us hl fun _ _=>rfl)) fun F=>Om (cl:=fun z=>none) hbn F fX dF;have jZ:nQ l.prog w K mg base (fun z=>none):=eR (Def.mk' X G Dj Dk Dl Dm (fun _ _ _ _ _ _ us hl=>pB us hl fun _ _=>rfl)) fun F=>As (cl:=fun z=>none) hbn F;have zS:BF l.prog w K mg base (fun z=>none):=eR (Def.mk' X G P7 P8 P9 P' (fun _ _ _ _ _ _ us hl=>pB us hl fun _ _=>rfl)) fun F=>Ko (cl:=fun z=>none) hbn F;have uB:zQ l.prog w K mg base (fun z=>none):=eR (Def.mk' X G L9 L' La Lb (fun _ _ _ _ _ _ us hl=>pB us hl fun _ _=>rfl)) fun F=>GO (cl:=fun z=>none) hbn F zS;have CQ:ET l.prog w K mg base (fun z=>none):=eR (Def.mk' X G Sv Sw Sx Sy (fun _ _ _ _ _ _ us hl=>pB us hl fun _ _=>rfl)) fun F=>Oq (cl:=fun z=>none) hbn F fX uB;have GP:J6 l.prog w K mg base (fun z=>none):=eR (Def.mk' X G Vv Vw Vx Vy (fun _ _ _ _ _ _ us hl=>D1 us hl fun _=>rfl)) fun F=>RU (cl:=fun z=>none) hbn F dF;have eT:mE l.prog w K mg base (fun z=>none):=eR (Def.mk' X G Hu Hv Hw Hx (fun _ _ _ _ _ _ us hl=>D1 us hl fun _=>rfl)) fun F=>EZ (cl:=fun z=>none) hbn F GP;have zT:BG l.prog w K mg base (fun z=>none):=eR (Def.mk' X G Pi Pj Pk Pl (fun _ _ _ _ _ _ us hl=>pB us hl fun _ _=>rfl)) fun F=>Kt (cl:=fun z=>none) hbn F;have uD:CN l.prog w K mg base (fun z=>none):=eR (Def.mk' X G Vz VA VB VC (fun _ _ _ _ _ _ us hl=>pB us hl fun _ _=>rfl)) fun F=>RW (cl:=fun z=>none) hbn F dF fN CQ eT zT;have uC:zR l.prog w K mg base (fun z=>none):=eR (Def.mk' X G Lk Ll Lm Ln (fun _ _ _ _ _ _ us hl=>D1 us hl fun _=>rfl)) fun F=>GQ (cl:=fun z=>none) hbn F;have oY:vH l.prog w K mg base (fun z=>none):=eR (Def.mk' X G HH HJ HK HL (fun _ _ _ _ _ _ us hl=>pB us hl fun _ _=>rfl)) fun F=>F0 (cl:=fun z=>none) hbn F;have zU:BH l.prog w K mg base (fun z=>none):=eR (Def.mk' X G Po Pp Pq Pr (fun _ _ _ _ _ _ us hl=>D1 us hl fun _=>rfl)) fun F=>Ku (cl:=fun z=>none) hbn F uC oY;have eU:mF l.prog w K mg base (fun z=>none):=eR (Def.mk' X G HP HQ HS HU (fun _ _ _ _ _ _ us hl=>D1 us hl fun _=>rfl)) fun F=>F1 (cl:=fun z=>none) hbn F eT zU;have fY:oV l.prog w K mg base (fun z=>none):=eR (Def.mk' X G Lv Lw Lx Ly (fun _ _ _ _ _ _ us hl=>pB us hl fun _ _=>rfl)) fun F=>GT (cl:=fun z=>none) hbn F dF fN eU;have zV:BI l.prog w K mg base (fun z=>none):=eR (Def.mk' X G Pt Pu Pv Pw (fun _ _ _ _ _ _ us hl=>D1 us hl fun _=>rfl)) fun F=>Kx (cl:=fun z=>none) hbn F;have CS:EU l.prog w K mg base (fun z=>none):=eR (Def.mk' X G SR SS SU SV (fun _ _ _ _ _ _ us hl=>pB us hl fun _ _=>rfl)) fun F=>Ow (cl:=fun z=>none) hbn F zV;have CZ:EV l.prog w K mg base (fun z=>none):=eR (Def.mk' X G SX SY SZ T1 (fun _ _ _ _ _ _ us hl=>Vk us hl fun _ _ _=>rfl)) fun F=>Ox (cl:=fun z=>none) hbn F zW fN jZ uD eU fY CS;have D0:EW l.prog w K mg base (fun z=>none):=eR (Def.mk' X G T2 T3 T4 T5 (fun _ _ _ _ _ _ us hl=>Vk us hl fun _ _ _=>rfl)) fun F=>OA (cl:=fun z=>none) hbn F;refine (Vj (cl:=fun z=>none) hbn (FV (st:=rX) Xw Xx Xy) CY uG uD fY CZ D0).imp fun vs H Q E hh=>?_;obtain ⟨a,ns,rfl,hO,hS,hl,hq⟩:=hh;exact UL (C:=cC w K (fun z=>none)) hO hS (main ns hl) hq
theorem walk {l:PySem.W.OpenLaw} {q:Program} {loose:List Str} {XP:(Str->Option Value)->Heap->Prop} {YP:World->Heap->Prop} {d:DefRec} {K:Params->ag} (hn:l.most=some 63) (hdf:d.params.defaults=[])
  (hY:∀ (w:World) (h:Heap),YP w h->(K w.params).In h)
  (F:∀ (w:World) (mg:Str->Option Value) (fa:Addr) (h:Heap),(K w.params).In h->h.Ns cb mg->mg d.name=some (.ref fa)->
   ∃ fd:cy,(∀ (s:Shared) (u:Value),BindsTo s fd ⟨[u],[]⟩ [("_law_script",u)])/\∀ base:Heap,(K w.params).In base->base.Ns cb mg->aU l.prog w (K w.params) mg base CX0 9 fa fd ["_law_script"] (spL (K w.params))):
  PySem.W.WalkO q loose XP YP l.row.toRowW d [] (fun f vs=>PySem.call f vs):=
 L2.walk_of (n:=63) (k:=9) (x:="_law_script") (CX:=fun _=>CX0) (sp:=fun w=>spL (K w.params)) hn (by decide) hdf ⟨rfl,by decide,by decide⟩ hY F (fun w H a ns hl hO hS=>⟨a,ns,rfl,hO,hS,hl,fun _=>rfl⟩) fun _ _ _ _ _ z=>z
end K77
open PySem PySem.W PyProof.Rows
set_option maxRecDepth 100000 in
set_option maxHeartbeats 0 in
inductive PySem.W.Fast|tw3905838844682470747|tw12382625716280302870|tw4195455731488746236|tw6730584173681577846|tw6679595605269687348|tw4034694607038659917|tw18056801434821500293|tw3370123147047105650|tw11214629782770675109
theorem PySem.Challenge.cw_copymeet_k77_sunk_and_settled_holds : PySem.Challenge.rw_copymeet_k77_sunk_and_settled.Holds := by
 w_on; o_law; k_head; (case hw=>w_witness2)
 k_fill
 refine K77.walk (l:=PySem.Challenge.rw_copymeet_k77_sunk_and_settled) rfl rfl (fun w h Y=>PySem.W.kIn_of Y) ?F
 case F=>
  intro w mg fa h KX G hmg
  have hbn:∀ x∈K77.bsL,mg x=none:=fun x hx=>by
   rcases List.mem_cons.mp hx with rfl | hx
   ·exact PySem.W.mg_none_of KX G (by k_is)
   rcases List.mem_cons.mp hx with rfl | hx
   ·exact PySem.W.mg_none_of KX G (by k_is)
   rcases List.mem_cons.mp hx with rfl | hx
   ·exact PySem.W.mg_none_of KX G (by k_is)
   rcases List.mem_cons.mp hx with rfl | hx
   ·exact PySem.W.mg_none_of KX G (by k_is)
   rcases List.mem_cons.mp hx with rfl | hx
   ·exact PySem.W.mg_none_of KX G (by k_is)
   rcases List.mem_cons.mp hx with rfl | hx
   ·exact PySem.W.mg_none_of KX G (by k_is)
   rcases List.mem_cons.mp hx with rfl | hx
   ·exact PySem.W.mg_none_of KX G (by k_is)
   rcases List.mem_cons.mp hx with rfl | hx
   ·exact PySem.W.mg_none_of KX G (by k_is)
   rcases List.mem_cons.mp hx with rfl | hx
   ·exact PySem.W.mg_none_of KX G (by k_is)
   rcases List.mem_cons.mp hx with rfl | hx
   ·exact PySem.W.mg_none_of KX G (by k_is)
   rcases List.mem_cons.mp hx with rfl | hx
   ·exact PySem.W.mg_none_of KX G (by k_is)
   cases hx
  refine' K77.all_mk KX G hmg hbn ?h0 ?h1 ?h2 ?h3 ?h4 ?h5 ?h6 ?h7 ?h8 ?h9 ?h10 ?h11 ?h12 ?h13 ?h14 ?h15 ?h16 ?h17 ?h18 ?h19 ?h20 ?h21 ?h22 ?h23 ?h24 ?h25 ?h26 ?h27 ?h28 ?h29 ?h30 ?h31 ?h32 ?h33 ?h34 ?h35 ?h36 ?h37 ?h38 ?h39 ?h40 ?h41 ?h42 ?h43 ?h44 ?h45 ?h46 ?h47 ?h48 ?h49 ?h50 ?h51 ?h52 ?h53 ?h54 ?h55 ?h56 ?h57 ?h58 ?h59 ?h60 ?h61 ?h62 ?h63 ?h64 ?h65 ?h66 ?h67 ?h68 ?h69 ?h70 ?h71 ?h72 ?h73 ?h74 ?h75 ?h76 ?h77 ?h78 ?h79 ?h80 ?h81 ?h82 ?h83 ?h84 ?h85 ?h86 ?h87 ?h88 ?h89 ?h90 ?h91 ?h92 ?h93 ?h94 ?h95 ?h96 ?h97 ?h98 ?h99 ?h100 ?h101 ?h102 ?h103 ?h104 ?h105 ?h106 ?h107 ?h108 ?h109 ?h110 ?h111
  (case h0=>k_is)
  (case h1=>k_is)
  (case h2=>k_is)
  (case h3=>k_is)
  (case h4=>k_is)
  (case h5=>k_is)
  (case h6=>k_is)
  (case h7=>k_is)
  (case h8=>k_is)
  (case h9=>k_is)
  (case h10=>k_is)
  (case h11=>k_is)
  (case h12=>k_is)
  (case h13=>k_is)
  (case h14=>k_is)
  (case h15=>k_is)
  (case h16=>k_is)
  (case h17=>k_is)
  (case h18=>k_is)
  (case h19=>k_is)
  (case h20=>k_is)
  (case h21=>k_is)
  (case h22=>k_is)
  (case h23=>k_is)
  (case h24=>k_is)
  (case h25=>k_is)
  (case h26=>k_is)
  (case h27=>k_is)
  (case h28=>k_is)
  (case h29=>k_is)
  (case h30=>k_is)
  (case h31=>k_is)
  (case h32=>k_is)
  (case h33=>k_is)
  (case h34=>k_is)
  (case h35=>k_is)
  (case h36=>k_is)
  (case h37=>k_is)
  (case h38=>k_is)
  (case h39=>k_is)
  (case h40=>k_is)
  (case h41=>k_is)
  (case h42=>k_is)
  (case h43=>k_is)
  (case h44=>k_is)
  (case h45=>k_is)
  (case h46=>k_is)
  (case h47=>k_is)
  (case h48=>k_is)
  (case h49=>k_is)
  (case h50=>k_is)
  (case h51=>k_is)
  (case h52=>k_is)
  (case h53=>k_is)
  (case h54=>k_is)
  (case h55=>k_is)
  (case h56=>k_is)
  (case h57=>k_is)
  (case h58=>k_is)
  (case h59=>k_is)
  (case h60=>k_is)
  (case h61=>k_is)
  (case h62=>k_is)
  (case h63=>k_is)
  (case h64=>k_is)
  (case h65=>k_is)
  (case h66=>k_is)
  (case h67=>k_is)
  (case h68=>k_is)
  (case h69=>k_is)
  (case h70=>k_is)
  (case h71=>k_is)
  (case h72=>k_is)
  (case h73=>k_is)
  (case h74=>k_is)
  (case h75=>k_is)
  (case h76=>k_is)
  (case h77=>k_is)
  (case h78=>k_is)
  (case h79=>k_is)
  (case h80=>k_is)
  (case h81=>k_is)
  (case h82=>k_is)
  (case h83=>k_is)
  (case h84=>k_is)
  (case h85=>k_is)
  (case h86=>k_is)
  (case h87=>k_is)
  (case h88=>k_is)
  (case h89=>k_is)
  (case h90=>k_is)
  (case h91=>k_is)
  (case h92=>k_is)
  (case h93=>k_is)
  (case h94=>k_is)
  (case h95=>k_is)
  (case h96=>k_is)
  (case h97=>k_is)
  (case h98=>k_is)
  (case h99=>k_is)
  (case h100=>k_is)
  (case h101=>k_is)
  (case h102=>k_is)
  (case h103=>k_is)
  (case h104=>k_is)
  (case h105=>k_is)
  (case h106=>k_is)
  (case h107=>k_is)
  (case h108=>k_is)
  (case h109=>k_is)
  (case h110=>k_is)
  (case h111=>k_is)
