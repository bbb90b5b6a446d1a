import PyProof.Rows.All
import Wide.All
import OpenK.AllK
import Wide.FinOn
import Lean
import PyProof.EqAt
import PyProof.EqKinds
import PyProof.TupleCall
import PyProof.Rows.SortShell
import PyProof.NeKinds
import KE.KDictOf
import PyProof.AttrMissHeap
import PyProof.WalksMore
import PyProof.MeetsDict
import KE.KDictList
import KE.KRevIter
import PyProof.DictItemsLoops
import PyProof.DictWalks
import KE.KSortTup
import KE.KDictSum
import PyProof.SumAny
import PyProof.Conv_int_bool
import PyProof.Conv_int
import KE.KRevSl
import PyProof.MeetsStr
import PyProof.StrCalls3
import PyProof.Rows.TupDisplay
import PyProof.ZipIter
import PyProof.Draws
import PySem.Challenge.RW_copymeet_k36_signs_kept
open PySem renaming wpAny_bind->aa,wpAny_pure->ab,sizeLine->aw,starEach->b0,Spec->dg,wpAny_newObj_type->dm,FuncData->dq,mainGlobals->dv,wpAny_callSpecial?_slot->d6,wpAny_call_entry->en,compareOp->fm,cellsFrom->fw,wpAny_dictEntries->f7,sizeLine_eq->gd,wpAny_holding->gp,wpAny_field->gr,binaryOp->gw,DictEntry->ie,sysModules->iz,wpAny_seqItems->i7,wpAny_dictEpoch->jj,wpAny_typeNameOfWhole_itemiter->jk,wpAny_mono->jl,wpAny_typeNameOfWhole_valiter->ju,wpAny_typeNameOfWhole_keyiter->jw,wpAny_attempt->jz,codeAny_builtin->ka,assignEach->kg,bootBuiltins->kh,attributeBase->kj,wpAny_notOrdered_dict->kn,wpAny_setField_rec->kr,wpAny_typeNameOf_itemiter->k5,wpAny_passesOwn->k7,wpAny_typeNameOf_valiter->lq,wpAny_typeNameOf_keyiter->l0,mem_of_lookup->mn,plainId_quiet->mx,wpAny_rule->m5,wpAny_setField->m6,wpAny_Call_Name_kw->m8,NameKind->m9,wpAny_typeOf->nc,foldedSetIterable->n9,wpAny_fieldsOf->oj,firstArgMember->om,wpAny_isInstance->ow
open PySem.Heap renaming get?_push_of_some->ae,get?_push_size->aj,lt_size->ak,get?_update_self->fg,size_push->gj,get?_update_other->iw,SameBut->ja
open List renaming getElem?_eq_some_iff->af,mem_append_right->ah,prefix_rfl->ai,mem_cons_of_mem->ao,append_assoc->aq,length_map->ar,getElem?_append_right->au,size_toArray->av,mem_cons_self->ax,pairwise_append->bf,getD_eq_getElem?_getD->bg,mem_append->bh,getElem?_append_left->bj,length_append->bo,length_take->bq,getElem?_map->br,mem_cons->bw,lookup_cons->b6,getElem_mem->b9,all_eq_true->cf,getElem?_set_ne->cj,take_append_drop->cm,mem_append_left->cu,mem_of_mem_take->cv,length_drop->cx,map_cons->cy,length_cons->cz,mem_singleton->c8,drop_eq_getElem_cons->di,prefix_append->dj,mem_of_mem_drop->dn,mem_map->dt,take_of_length_le->du,pairwise_iff_getElem->dz,range->d0,drop_zero->d3,getElem?_cons_succ->d7,append_nil->e7,getElem_of_mem->e9,mem_of_getElem?->fe,cons_lt_cons_iff->fi,getElem?_set_self->fj,getElem_take->fq,getElem?_eq_getElem->gf,pairwise_reverse->gh,mem_reverse->gm,reverse_perm->gq,length_reverse->gx,getElem_drop->ig,ext_getElem?->i5,getElem?_zip_eq_some->i6,nodup_cons->jc,length_set->jd,map_append->jg,nil_append->jh,getElem?_eq_none->ji,pairwise_cons->jm,set_cons_succ->jo,set_cons_zero->jq,not_mem_nil->jv,all_cons->jx,pairwise_singleton->jy,map_map->j4,find?_cons->j9,take_add_one->ll,filterMap_cons->md,any_cons->mq,map_congr_left->mz,replicate->m4,drop_of_length_le->m7,perm_append_comm->ng,all_map->nj,mem_iff_getElem?->n5,length_filter_le->n6,length_range->oa,cons_append->ou,length_pos_iff->o5,map_nil->o7,mem_filter->o9,length_nil->pe,lookup->pj
open PySem.W renaming Frag->ag,keepIn->cw,fnOf->da,codeIn->dh,findIn->d9,kia_one->fv,nsIn->gi,emptyDict->g9,instObj->j7,plainGet->ot,isFn->o6
open PyProof.Rows renaming wpS_bind->ay,wpS_pure->bu,pendingOf->de,slot_tuple_getitem->fo,wpS_forRange->gb,callWith_type1->j8,wpS_mono->kc,failedOf->km,SortKind->k6,setPending->lj
open Nat renaming le_refl->az,ne_of_lt->ba,lt_of_lt_of_le->bz,zero_le->d4,ne_of_gt->ft,lt_irrefl->fu,le_trans->gg,sub_zero->jf,le_of_lt->ki,zero_add->l9,add_sub_cancel_left->mw,lt_trans->o8
open Bool renaming false_ne_true->bp,false_eq_true->c9,and_eq_true->dr,eq_iff_iff->fb,not_eq_true'->j6,beq_eq_decide_eq->nu
open PySem.Value renaming ref->bx,none->b7
open Option.some renaming inj->b8
open List.Perm renaming append_left->cq,append_right->ix,trans->je,refl->j3
open Option renaming map_eq_some_iff->df,isSome_iff_exists->k8
open PySem.Heap.SameBut renaming update->dw
open PySem.Paired renaming length->d5
open PySem.Builtin.Dict_items renaming ownsTuple->d8,ownedTupleIsFree->oz
open PySem.Obj renaming mapSeq->fc,mapFields->j0,data_mapFields->ko,isFreed_of_fields->nq
open PySem.NameKind renaming free->fh,cell->ph
open PySem.F renaming slot_dict_itemiterator_next->f6,slot_dict_valueiterator_next->gv,slot_dict_keyiterator_next->ij,slot_dict_items->iq,plainAttrs_dict->iu,plain_extend_loop->i9,slot_list_append->jr,type_list_append->jt,plainAttrs_list->j1,type_dict_items->j2,slot_zip_next->n8
open PySem.Builtin.Tuple renaming tupleHashOf->f9,tupleExact->k9,tupleItemsOf->og
open PySem.Around renaming under_plainId->gu
open PySem.Builtin.SmallTypes renaming ownedTupleIsFree->gz,nextOf->kz,ownedTupleHandOut->oq
open PySem.Str renaming ofString->ic
open Ne renaming symm->ik
open Prod renaming fst->il
open Classical renaming propDecidable->ip
open PySem.Builtin.List renaming listExtendWith->ir
open Array renaming getElem?_eq_none->iy,getElem?_eq_getElem->i8,length_toList->mf
open False renaming elim->i3
open True renaming intro->i4
open List.Pairwise renaming nil->j5
open PySem.Builtin.Slice renaming slicePlaces->ku,sliceAdjust->oh
open Int renaming toNat_natCast->lr
open PySem.Builtin.Dict renaming updateFrom->my,showsAll->nr
open PySem.Builtin.Str renaming strSliceIndices->nh
open ForInStep renaming yield->pf
set_option Elab.async false
set_option linter.all false
set_option maxRecDepth 1000000
set_option maxHeartbeats 4000000
namespace L2
open PySem PySem.Spec PyProof.Rows
abbrev Key:=Sum Int Str
def tQ:Key->Value->Bool
 | .inl k,v=>Value.isInt k v
 | .inr x,v=>Value.isStrOf x v
def Nm (w:World):Key->Int
 | .inl k=>hashInt k
 | .inr x=>hashStr w x
theorem bO:∀ {k:Key} {v:Value},tQ k v=true->(∃ i t,k=Sum.inl i/\v=Value.int i t)\/(∃ x t,k=Sum.inr x/\v=Value.str x t)
 | .inl i,v,h=>by
  obtain ⟨t,e⟩:=Value.isInt_shape (k:=i) (v:=v) h;exact .inl ⟨i,t,rfl,e⟩
 | .inr x,v,h=>by
  obtain ⟨t,e⟩:=Value.isStrOf_shape (x:=x) (v:=v) h;exact .inr ⟨x,t,rfl,e⟩
theorem Fq (i:Int) (t:Tok):tQ (.inl i) (.int i t)=true:=by simp [tQ,Value.isInt]
theorem Fs (x:Str) (t:Tok):tQ (.inr x) (.str x t)=true:=by simp [tQ,Value.isStrOf]
theorem Np (a b:Int):decide ((Sum.inl a:Key)=Sum.inl b)=(a == b):=by
 by_cases e:a=b
 ·subst e; simp
 ·have h:¬ (Sum.inl a:Key)=Sum.inl b:=fun q=>e (Sum.inl.inj q);rw [decide_eq_false h];exact (beq_eq_false_iff_ne.mpr e).symm
theorem Nq (a b:Str):decide ((Sum.inr a:Key)=Sum.inr b)=decide (a=b):=by
 by_cases e:a=b
 ·subst e; simp
 ·have h:¬ (Sum.inr a:Key)=Sum.inr b:=fun q=>e (Sum.inr.inj q);rw [decide_eq_false h,decide_eq_false e]
theorem Nr (a:Int) (b:Str):decide ((Sum.inl a:Key)=Sum.inr b)=false:=decide_eq_false (fun q=>nomatch q)
theorem Nt (a:Str) (b:Int):decide ((Sum.inr a:Key)=Sum.inl b)=false:=decide_eq_false (fun q=>nomatch q)
def cG (prog:Program) (w:World):PySem.KeyKind prog w Key where
 is:=tQ
 hash:=Nm w
 inj:=fun v a b ha hb=>by
  rcases bO ha with ⟨i,t,rfl,rfl⟩ | ⟨x,t,rfl,rfl⟩
  ·rcases bO hb with ⟨j,u,rfl,e⟩ | ⟨y,u,rfl,e⟩
   ·injection e with e1 _; rw [e1]
   ·exact nomatch e
  ·rcases bO hb with ⟨j,u,rfl,e⟩ | ⟨y,u,rfl,e⟩
   ·exact nomatch e
   ·injection e with e1 _; rw [e1]
 byValue:=fun k v h=>by
  rcases bO h with ⟨i,t,rfl,rfl⟩ | ⟨x,t,rfl,rfl⟩ <;> rfl
 pyHash:=fun hv h=>by
  rcases bO hv with ⟨i,t,rfl,rfl⟩ | ⟨x,t,rfl,rfl⟩
  ·exact wpAny_pyHash_int h
  ·exact wpAny_pyHash_str h
 eqBool:=fun hu hv h=>by
  rcases bO hu with ⟨i,t,rfl,rfl⟩ | ⟨x,t,rfl,rfl⟩
  ·rcases bO hv with ⟨j,u,rfl,rfl⟩ | ⟨y,u,rfl,rfl⟩
   ·rw [Np] at h; exact wpAny_eqBool_int h
   ·rw [Nr] at h; exact SeqAt.EqAt.int_str i t y u _ _ _ _ h
  ·rcases bO hv with ⟨j,u,rfl,rfl⟩ | ⟨y,u,rfl,rfl⟩
   ·rw [Nt] at h; exact SeqAt.EqAt.str_int x t j u _ _ _ _ h
   ·rw [Nq] at h; exact wpAny_eqBool_str h
 «strs»:=fun k x t v h=>by
  rcases bO h with ⟨i,u,rfl,e⟩ | ⟨y,u,rfl,e⟩
  ·exact nomatch e
  ·injection e with e1 _;subst e1;cases v <;> rfl
theorem AX (prog:Program) (w:World) (i:Int) (t:Tok):(cG prog w).is (.inl i) (.int i t)=true:=Fq i t
theorem AY (prog:Program) (w:World) (x:Str) (t:Tok):(cG prog w).is (.inr x) (.str x t)=true:=Fs x t
inductive V where
 | non | bl (b:Bool) | int (i:Int) | str (x:Str) | byt (b:Array UInt8) | flt (b:UInt64) | ref (a:Addr) | ty (n:String)
 deriving DecidableEq
def RelV:V->Value->Prop
 | .non,u=>u=b7
 | .bl b,u=>u=Value.bool b
 | .int i,u=>∃ t,u=Value.int i t
 | .str x,u=>∃ t,u=Value.str x t
 | .byt b,u=>∃ t,u=Value.bytes b t
 | .flt b,u=>∃ t,u=Value.float b t
 | .ref a,u=>u=bx a
 | .ty n,u=>u=Value.type n
abbrev aN:List V->List Value->Prop:=Paired RelV
theorem aN.length {xs:List V} {us:List Value} (r:aN xs us):xs.length=us.length:=d5 r
theorem aN.get:∀ {xs:List V} {us:List Value} {i:Nat} {x:V},aN xs us->xs[i]?=some x->∃ u,us[i]?=some u/\RelV x u
 | _,_,_,_,.nil,e=>by simp at e
 | _,_,0,_,.cons r _,e=>by simp at e; subst e; exact ⟨_,rfl,r⟩
 | _,_,i+1,x,.cons _ t,e=>by
  obtain ⟨u,h1,h2⟩:=aN.get (i:=i) (x:=x) t (by simpa using e)
  exact ⟨u,by simpa using h1,h2⟩
theorem aN.set {x:V} {u:Value} (r:RelV x u):∀ {xs:List V} {us:List Value} (i:Nat),aN xs us->aN (xs.set i x) (us.set i u)
 | _,_,_,.nil=>.nil
 | _,_,0,.cons _ t=>.cons r t
 | _,_,i+1,.cons q t=>.cons q (aN.set r i t)
theorem aN.append:∀ {xs ys:List V} {us ws:List Value},aN xs us->aN ys ws->aN (xs++ys) (us++ws)
 | _,_,_,_,.nil,s=>s
 | _,_,_,_,.cons r t,s=>.cons r (aN.append t s)
theorem aN.take:∀ {xs:List V} {us:List Value} (n:Nat),aN xs us->aN (xs.take n) (us.take n)
 | _,_,0,_=>.nil
 | _,_,_+1,.nil=>.nil
 | _,_,n+1,.cons r t=>.cons r (aN.take n t)
theorem aN.drop:∀ {xs:List V} {us:List Value} (n:Nat),aN xs us->aN (xs.drop n) (us.drop n)
 | _,_,0,r=>r
 | _,_,_+1,.nil=>.nil
 | _,_,n+1,.cons _ t=>aN.drop n t
def lX:Option V->Option Value->Prop
 | some v,some u=>RelV v u
 | none,none=>True
 | _,_=>False
def KV {κ:Type}:List (κ×V)->List (κ×Value)->Prop:=Paired fun (p:κ×V) (q:κ×Value)=>p.1=q.1/\RelV p.2 q.2
def kV:Key->V
 | .inl i=>.int i
 | .inr x=>.str x
inductive HO where
 /-- a list -/
 | lst (xs:List V)
 /-- a tuple (never changes) -/
 | tup (xs:List V)
 /-- a dict whose keys are ints and texts; one whose keys are tuples of ints and texts (the empty one is both) -/
 | dK (kvs:List (Key×V)) | dT (kvs:List (List Key×V))
 /-- a set of ints: its members,its size -/
 | set (S:Int->Bool) (n:Nat)
 /-- an instance of the class at C,its dict at dx,its attributes -/
 | ins (C dx:Addr) (fs:List (Str×V))
 /-- the dict of the instance at x -/
 | own (x:Addr)
 /-- the dict of an exception -/
 | xd (fs:List (Str×V))
 /-- a bound method,f of x -/
 | met (f x:Addr)
 /-- a range object lo,lo+1,.. below hi -/
 | rng (lo hi:Int)
 /-- a thing that is known to the object (the script; a dict while a loop walks it): read,never written while it is so -/
 | frz (o:Obj) (u:HO)
 /-- a code object's table -/
 | tbl (ps:Array Value)
 /-- any other thing,by what is true of its one object (a def of one's own: SetO a S n:=HO.ext fun h=>..) -/
 | ext (φ:Heap->Prop)
abbrev Hp:=Addr->Option HO
def upd (H:Hp) (a:Addr) (o:HO):Hp:=fun b=>if b=a then some o else H b
theorem aK {H:Hp} {a:Addr} {o:HO}:upd H a o a=some o:=by unfold upd; rw [if_pos rfl]
theorem aH {H:Hp} {a b:Addr} {o:HO} (h:b≠a):upd H a o b=H b:=by unfold upd; rw [if_neg h]
theorem PR {H:Hp} {a b:Addr} {o u:HO} (h:H a=some o) (h':H b=some u) (d:o≠u):a≠b:=by
 intro e; subst e; rw [h] at h'; exact d (b8 h')
theorem cR {H:Hp} {a b:Addr} {o:HO} (h:H a=some o) (h':H b=none):a≠b:=by
 intro e; subst e; rw [h] at h'; cases h'
def nQ (h:Heap) (a:Addr) (items:Array Value):Prop:=∃ o,h.get? a=some o/\o.cls=.type "tuple" /\ (∃ n,o.data=.seq items n)/\o.dict=none
theorem nQ.is {h:Heap} {a:Addr} {items:Array Value} (x:nQ h a items):PyProof.Rows.IsTup h a items:=let ⟨o,h1,h2,h3,_⟩:=x; ⟨o,h1,h2,h3⟩
theorem nQ.lt {h:Heap} {a:Addr} {items:Array Value} (x:nQ h a items):a < h.objs.size:=let ⟨_,h1,_⟩:=x; ak h1
theorem nQ.new (h:Heap) (items:Array Value):nQ (h.push { cls:=.type "tuple",data:=.seq items 0 }) h.objs.size items:=⟨_,aj _ rfl,rfl,⟨_,rfl⟩,rfl⟩
section
variable (P:Program) (w:World)
def bP (H:Hp) (h:Heap) (a:Addr):HO->Prop
 | .lst xs=>xs.length<=aw/\∃ (its:List Value) (n:Nat),aN xs its/\h.get? a=some { cls:=.type "list",data:=.seq its.toArray n }
 | .tup xs=>xs.length<=aw/\∃ its:List Value,aN xs its/\nQ h a its.toArray
 | .dK kvs=>kvs.length<=aw/\(a == iz)=false/\∃ vs,KV kvs vs/\h.DictOf (cG P w) a vs
 | .dT kvs=>kvs.length<=aw/\(a == iz)=false/\∃ xs:List (List Key×Addr×Value),
   Paired (fun (p:List Key×V) (q:List Key×Addr×Value)=>p.1=q.1/\H q.2.1=some (.tup (p.1.map kV))/\RelV p.2 q.2.2) kvs xs/\
   ∃ o es ep,h.get? a=some o/\o.ExactDict/\o.data=.dict es ep/\es.toList=xs.map (entryOfKey (tupleKind (cG P w)))/\(xs.map (·.1)).Nodup
 | .set S n=>h.SetOf (intKind P w) a S n
 | .ins C dx fs=>H dx=some (.own a)/\fs.length<=1000/\dx≠a/\h.get? a=some (j7 C dx)/\
   ∃ mA,h.Ns1 dx mA/\(∀ f,lX (fs.lookup f) (mA f))/\PySem.Within mA (fs.map (·.1))
 | .own _=>∃ o,h.get? a=some o
 | .xd fs=>∃ mA,h.Ns1 a mA/\∀ f,lX (fs.lookup f) (mA f)
 | .rng lo hi=>∃ t u v,h.get? a=some { cls:=.type "range",data:=.fields #[.int lo t,.int hi u,.int 1 v] }
 | .frz o u=>h.get? a=some o/\bP H h a u
 | .tbl ps=>h.get? a=some { cls:=.none,data:=.fields ps }
 | .met f x=>h.get? a=some (PySem.W.methodObj (.ref f) (.ref x))
 | .ext φ=>φ h/\(∃ o,h.get? a=some o)/\∀ h1 h2:Heap,φ h1->(∀ o,h1.get? a=some o->h2.get? a=some o)->φ h2
def HOk (H:Hp) (h:Heap):Prop:=∀ a o,H a=some o->bP P w H h a o
end
section
variable {P:Program} {w:World} {H H':Hp} {h h':Heap} {a:Addr} {o:HO}
theorem bP.lt (x:bP P w H h a o):a < h.objs.size:=by
 cases o with
 | lst xs=>obtain ⟨_,_,_,_,e⟩:=x; exact ak e
 | tup xs=>obtain ⟨_,_,_,p⟩:=x; exact nQ.lt p
 | dK kvs=>obtain ⟨_,_,_,_,o,_,_,e,_⟩:=x; exact ak e
 | dT kvs=>obtain ⟨_,_,_,_,o,_,_,e,_⟩:=x; exact ak e
 | set S n=>obtain ⟨o,_,_,_,e,_⟩:=x; exact ak e
 | ins C dx fs=>obtain ⟨_,_,_,e,_⟩:=x; exact ak e
 | own y=>obtain ⟨_,e⟩:=x; exact ak e
 | xd fs=>obtain ⟨_,⟨_,_,_,e,_⟩,_⟩:=x; exact ak e
 | rng lo hi=>obtain ⟨_,_,_,e⟩:=x; exact ak e
 | frz ob u=>obtain ⟨e,_⟩:=x; exact ak e
 | tbl ps=>exact ak (show h.get? a=some _ from x)
 | met f y=>exact ak (show h.get? a=some _ from x)
 | ext φ=>obtain ⟨_,⟨_,e⟩,_⟩:=x; exact ak e
theorem Paired.mapP {α β:Type} {F G:α->β->Prop}:∀ {l₁:List α} {l₂:List β},Paired F l₁ l₂->(∀ a b,F a b->G a b)->Paired G l₁ l₂
 | _,_,.nil,_=>.nil
 | _,_,.cons r t,f=>.cons (f _ _ r) (Paired.mapP t f)
theorem bP.stay (x:bP P w H h a o) (k:∀ b u,(b=a\/H b=some (.own a))->h.get? b=some u->h'.get? b=some u)
  (ho:∀ b,H b=some (.own a)->H' b=some (.own a)) (ht:∀ b xs,H b=some (.tup xs)->H' b=some (.tup xs)):bP P w H' h' a o:=by
 induction o with
 | lst xs=>obtain ⟨z,its,n,r,e⟩:=x; exact ⟨z,its,n,r,k _ _ (.inl rfl) e⟩
 | tup xs=>obtain ⟨z,its,r,ob,e,c⟩:=x; exact ⟨z,its,r,ob,k _ _ (.inl rfl) e,c⟩
 | dK kvs=>obtain ⟨z,y,vs,r,ob,es,ep,e,c⟩:=x; exact ⟨z,y,vs,r,ob,es,ep,k _ _ (.inl rfl) e,c⟩
 | dT kvs=>
  obtain ⟨z,y,xs,r,ob,es,ep,e,c⟩:=x;exact ⟨z,y,xs,Paired.mapP r fun p q z=>⟨z.1,ht _ _ z.2.1,z.2.2⟩,ob,es,ep,k _ _ (.inl rfl) e,c⟩
 | set S n=>obtain ⟨ob,es,ep,t,e,c⟩:=x; exact ⟨ob,es,ep,t,k _ _ (.inl rfl) e,c⟩
 | ins C dx fs=>
  obtain ⟨d,z,ne,e,mA,⟨od,es,ep,e2,c⟩,r⟩:=x;exact ⟨ho _ d,z,ne,k _ _ (.inl rfl) e,mA,⟨od,es,ep,k _ _ (.inr d) e2,c⟩,r⟩
 | own y=>obtain ⟨ob,e⟩:=x; exact ⟨ob,k _ _ (.inl rfl) e⟩
 | xd fs=>obtain ⟨mA,⟨od,es,ep,e,c⟩,r⟩:=x; exact ⟨mA,⟨od,es,ep,k _ _ (.inl rfl) e,c⟩,r⟩
 | rng lo hi=>obtain ⟨t,u,v,e⟩:=x; exact ⟨t,u,v,k _ _ (.inl rfl) e⟩
 | frz ob u ih=>obtain ⟨e,q⟩:=x; exact ⟨k _ _ (.inl rfl) e,ih q⟩
 | tbl ps=>
  have e:h.get? a=some { cls:=.none,data:=.fields ps }:=x
  show h'.get? a=some { cls:=.none,data:=.fields ps }
  exact k a _ (.inl rfl) e
 | met f y=>
  have e:h.get? a=some (PySem.W.methodObj (.ref f) (.ref y)):=x
  show h'.get? a=some (PySem.W.methodObj (.ref f) (.ref y))
  exact k a _ (.inl rfl) e
 | ext φ=>obtain ⟨p,⟨o,e⟩,st⟩:=x; exact ⟨st _ _ p fun o q=>k _ _ (.inl rfl) q,⟨o,k _ _ (.inl rfl) e⟩,st⟩
theorem HOk.lt (x:HOk P w H h) (e:H a=some o):a < h.objs.size:=(x a o e).lt
theorem HOk.fresh (x:HOk P w H h) (e:h.objs.size<=a):H a=none:=by
 cases q:H a with
 | none=>rfl
 | some u=>exact absurd (bz (x.lt q) e) (fu _)
theorem HOk.kept (x:HOk P w H h) (k:∀ b u,h.get? b=some u->h'.get? b=some u):HOk P w H h':=fun a o e=>
 (x a o e).stay (fun b u _ q=>k b u q) (fun _ q=>q) fun _ _ q=>q
theorem HOk.laid (x:HOk P w H h) (k:∀ b u,h.get? b=some u->h'.get? b=some u) (hp:h.objs.size<=a) (new:bP P w (upd H a o) h' a o):HOk P w (upd H a o) h':=fun b u e=>by
 have hn:=x.fresh hp
 by_cases hb:b=a
 ·subst hb; rw [aK] at e; cases e; exact new
 ·rw [aH hb] at e;exact (x b u e).stay (fun c v _ q=>k c v q) (fun c q=>by rw [aH (cR q hn)]; exact q) fun c xs q=>by rw [aH (cR q hn)]; exact q
end
def Rd (H:Hp) (a:Addr) (u:HO):Prop:=H a=some u\/∃ o,H a=some (.frz o u)
theorem Rd.ok {P:Program} {w:World} {H:Hp} {h:Heap} {a:Addr} {u:HO} (r:Rd H a u) (x:HOk P w H h):bP P w H h a u:=by
 rcases r with r | ⟨o,r⟩
 ·exact x a u r
 ·obtain ⟨_,q⟩:=x a _ r;exact q
def Mut:Option HO->Prop
 | some (.lst _)=>True
 | some (.dK _)=>True
 | some (.dT _)=>True
 | some (.set _ _)=>True
 | some (.ins _ _ _)=>True
 | some (.ext _)=>True
 | _=>False
section
variable {P:Program} {w:World} {H:Hp} {h h':Heap} {x e:Addr} {o':HO}
theorem HOk.write (ok:HOk P w H h) (mu:Mut (H x)) (he:e=x\/H e=some (.own x)) (k:∀ b u,b≠e->h.get? b=some u->h'.get? b=some u) (heo:∃ u,h'.get? e=some u)
  (new:bP P w (upd H x o') h' x o'):HOk P w (upd H x o') h':=fun b u q=>by
 have nown:∀ c y,H c=some (.own y)->c≠x:=fun c y r z=>by subst z; rw [r] at mu; exact mu
 have ntup:∀ c xs,H c=some (.tup xs)->c≠x:=fun c xs r z=>by subst z; rw [r] at mu; exact mu
 by_cases hb:b=x
 ·subst hb; rw [aK] at q; cases q; exact new
 ·rw [aH hb] at q
  by_cases hbe:b=e
  ·have q':H b=some (.own x):=by
    rcases he with z | z
    ·exact absurd (hbe.trans z) hb
    ·rw [hbe]; exact z
   rw [q] at q'; cases q';obtain ⟨v,hv⟩:=heo;exact ⟨v,by rw [hbe]; exact hv⟩
  ·refine (ok b u q).stay (fun c v hc r=>k c v ?_ r) (fun c r=>by rw [aH (nown c b r)]; exact r) fun c xs r=>by rw [aH (ntup c xs r)]; exact r
   rcases hc with rfl | hc
   ·exact hbe
   ·rintro rfl;rcases he with z | z
    ·exact nown c b hc z
    ·rw [hc] at z; cases z; exact hb rfl
end
structure Un (fs ex:List Addr) (H H':Hp) (h h':Heap):Prop where
 keep:∀ b o,h.get? b=some o->H b=none->b∉fs->b∉ex->h'.get? b=some o
 slot:∀ b o,h.get? b=some o->H b=none->b∈fs->b∉ex->∃ sl,h'.get? b=some { o with slots:=sl }
 free:∀ b o,h.get? b=some o->H b=none->b∉ex->H' b=none
 there:∀ b o,h.get? b=some o->b∉ex->∃ o',h'.get? b=some o'
 tups:∀ b xs,H b=some (.tup xs)->H' b=some (.tup xs)
 frzs:∀ b o u,H b=some (.frz o u)->H' b=some (.frz o u)
 tbls:∀ b ps,H b=some (.tbl ps)->∃ more,H' b=some (.tbl (ps++more))
section
variable {fs fs' ex ex':List Addr} {H H1 H2:Hp} {h h1 h2 h':Heap} {a x e:Addr} {o:HO}
theorem Un.any (u:Un fs ex H H1 h h1) {b:Addr} {ob:Obj} (q:h.get? b=some ob) (n:H b=none) (hx:b∉ex):∃ sl,h1.get? b=some { ob with slots:=sl }:=by
 by_cases hb:b∈fs
 ·exact u.slot b ob q n hb hx
 ·exact ⟨ob.slots,u.keep b ob q n hb hx⟩
theorem Un.kept (k:∀ b u,h.get? b=some u->h'.get? b=some u):Un fs ex H H h h':=
 ⟨fun b ob q _ _ _=>k b ob q,fun b ob q _ _ _=>⟨ob.slots,k b ob q⟩,fun _ _ _ n _=>n,fun b ob q _=>⟨ob,k b ob q⟩,fun _ _ q=>q,fun _ _ _ q=>q,fun _ ps q=>⟨#[],by rw [q]; simp⟩⟩
theorem Un.refl:Un fs ex H H h h:=Un.kept fun _ _ q=>q
theorem Un.laid (k:∀ b u,h.get? b=some u->h'.get? b=some u) (hp:h.objs.size<=a) (hn:H a=none):Un fs ex H (upd H a o) h h' where
 keep:=fun b u q _ _ _=>k b u q
 slot:=fun b u q _ _ _=>⟨u.slots,k b u q⟩
 free:=fun b u q n _=>by rw [aH (ba (bz (ak q) hp))]; exact n
 there:=fun b u q _=>⟨u,k b u q⟩
 tups:=fun b xs q=>by rw [aH (cR q hn)]; exact q
 frzs:=fun b u xs q=>by rw [aH (cR q hn)]; exact q
 tbls:=fun b ps q=>⟨#[],by rw [aH (cR q hn),q]; simp⟩
theorem Un.write (mu:Mut (H x)) (he:e=x\/H e=some (.own x)) (k:∀ b u,b≠e->h.get? b=some u->h'.get? b=some u) (heo:∃ u,h'.get? e=some u):Un fs ex H (upd H x o) h h':=by
 have hx:∀ b,H b=none->b≠x:=fun b n z=>by subst z; rw [n] at mu; exact mu
 have hb:∀ b,H b=none->b≠e:=fun b n z=>by
  subst z;rcases he with r | r
  ·exact hx b n r
  ·rw [n] at r; cases r
 have hm:∀ b u,H b=some u->¬ Mut (some u)->b≠x:=fun b u q nm z=>by subst z; rw [q] at mu; exact nm mu
 refine ⟨fun b u q n _ _=>k b u (hb b n) q,fun b u q n _ _=>⟨u.slots,k b u (hb b n) q⟩,fun b u q n _=>by rw [aH (hx b n)]; exact n,fun b u q _=>?_,
  fun b xs q=>by rw [aH (hm b _ q fun z=>z)]; exact q,fun b u xs q=>by rw [aH (hm b _ q fun z=>z)]; exact q,fun b ps q=>⟨#[],by rw [aH (hm b _ q fun z=>z),q]; simp⟩⟩
 by_cases hbe:b=e
 ·subst hbe; exact heo
 ·exact ⟨u,k b u hbe q⟩
end
def trk (h:Heap) (H:Hp):List Addr:=(d0 h.objs.size).filter fun a=>(H a).isSome
def zM (h:Heap) (H:Hp):Heap:=PySem.W.hideAll h (trk h H)
theorem Ft (h:Heap) (H:Hp):(zM h H).objs.size=h.objs.size:=PySem.W.hideAll_size _ _
theorem GY {h:Heap} {H:Hp} {b:Addr} {o:Obj} (e:h.get? b=some o) (n:H b=none):(zM h H).get? b=some o:=
 PySem.W.hideAll_get _ e fun hm=>by
  have q:(H b).isSome=true:=(o9.mp hm).2;rw [n] at q; simp at q
theorem Kt {h:Heap} {H:Hp} {b:Addr} {o:Obj} (e:(zM h H).get? b=some o):h.get? b=some o/\H b=none:=by
 have e':h.get? b=some o:=PySem.W.of_hideAll (trk h H) e;refine ⟨e',?_⟩;cases q:H b with
 | none=>rfl
 | some x=>
  have hm:b∈trk h H:=o9.mpr ⟨List.mem_range.mpr (ak e'),by simp [q]⟩;have z:(zM h H).get? b=none:=PySem.W.hideAll_none (trk h H) hm;rw [z] at e; cases e
def Ku (g h:Heap) (L:Addr):List (Addr×Obj):=(d0 h.objs.size).filterMap fun a=>if a=L\/(g.get? a).isSome=true then none else (h.get? a).map fun o=>(a,o)
def rest (g h:Heap) (L d:Addr):List (Addr×Obj):=(Ku g h L).filter fun p=>decide (p.1≠d)
structure Mod (K:ag) (mg:Str->Option Value) (base:Heap):Prop where
 kin:K.In base
 glob:base.Ns dv mg
 blt:∃ mb,base.Ns builtinsNs mb/\∀ x:Str,x≠"__name__" -> mb x=kh x
 nolimit:base.NoLimit
structure Cx where
 prog:Program
 w:World
 K:ag
 mg:Str->Option Value
 base:Heap
 A:Around
 N:List Str
 s₀:Shared
 H₀:Hp
 env:Env
 outer:List Env
 stack:List Env
 ex:List Addr
 fn:Str->Bool
 calm:Bool
 pn:List (Addr×Obj)
 xe:Value->Shared->Prop
def frs (l:List Env):List Addr:=l.filterMap (·.frame)
abbrev Cx.fs (X:Cx):List Addr:=frs X.outer
def Vis (sc:Scope) (x:Str):Prop:=sc.names.lookup x=some .local\/sc.names.lookup x=some .cell\/sc.names.lookup x=some .free
def Loc (sc:Scope) (x:Str):Prop:=sc.names.lookup x=some .local\/sc.names.lookup x=some .cell
def Look (env:Env) (h:Heap) (m:Str->Option Value) (x:Str) (u:Value):Prop:=
 (env.kindOf x=some .local/\m x=some u)\/((env.kindOf x=some .cell\/env.kindOf x=some .free)/\∃ c,env.cells.lookup x=some c/\h.IsCell c (some u))
structure Cx.Ok (X:Cx):Prop where
 mod:Mod X.K X.mg X.base
 kind:X.env.scope.kind=.function
 glob:X.env.globals=dv
 blt:X.env.builtins=builtinsNs
 above:X.s₀.heap.objs.size<=X.env.locals
 inj:∀ x y c,X.env.cells.lookup x=some c->X.env.cells.lookup y=some c->x=y
 has:∀ x,(X.env.kindOf x=some .cell\/X.env.kindOf x=some .free)->∃ c,X.env.cells.lookup x=some c
 cab:∀ x c,X.fn x=true->X.env.cells.lookup x=some c->X.s₀.heap.objs.size<=c
 hd:X.calm=true->X.A.handled=none
 frames:X.A.frames=some X.stack
 stk:X.stack=X.outer\/(X.stack=X.env :: X.outer/\X.env.frame=some X.env.locals)
 exf:∀ b∈X.ex,b≠X.env.locals/\∀ x c,X.env.cells.lookup x=some c->c≠b
 bs:∀ b o,X.base.get? b=some o->X.s₀.heap.get? b=some o/\X.H₀ b=none
 bsz:X.base.objs.size<=X.s₀.heap.objs.size
 noex:∀ b o,X.base.get? b=some o->b∉X.ex
 exfs:∀ b∈X.ex,b∉X.fs
 funs:X.s₀.heap.FunFrames X.base X.outer
 frf:∀ b∈X.fs,X.H₀ b=none
structure Inv (X:Cx) (pins:List (Addr×Obj)) (σ:List (Option V)) (H:Hp) (s:Shared):Prop where
 ok:X.Ok
 os:s.os=X.s₀.os
 bare:AllBare s.gens
 base:Un X.fs X.ex X.H₀ H X.s₀.heap s.heap
 loc:∃ m,s.heap.Ns X.env.locals m/\∀ (i:Nat) (x:Str) (v:V),X.N[i]?=some x->σ[i]?=some (some v)->Vis X.env.scope x->∃ u,RelV v u/\Look X.env s.heap m x u
 cell:∀ x c,X.env.cells.lookup x=some c->∃ v,s.heap.IsCell c v
 free:H X.env.locals=none
 freeC:∀ x c,X.env.cells.lookup x=some c->H c=none
 pin:∀ p∈X.pn++pins,s.heap.get? p.1=some p.2/\H p.1=none/\p.1≠X.env.locals/\p.1∉X.fs/\∀ v,p.2.data≠.cell v
 hok:HOk X.prog X.w H s.heap
 len:σ.length=X.N.length
section
variable {X:Cx} {pins:List (Addr×Obj)} {σ:List (Option V)} {H H':Hp} {s:Shared} {h':Heap}
theorem Cx.Ok.nofr (ok:X.Ok) {b:Addr} {o:Obj} (e:X.base.get? b=some o):b∉X.fs:=fun hb=>by
 have:=(ok.funs.mem hb).1;rw [e] at this; cases this
theorem Inv.bs (I:Inv X pins σ H s):∀ b o,X.base.get? b=some o->s.heap.get? b=some o/\H b=none:=fun b o e=>
 ⟨I.base.keep b o (I.ok.bs b o e).1 (I.ok.bs b o e).2 (I.ok.nofr e) (I.ok.noex b o e),I.base.free b o (I.ok.bs b o e).1 (I.ok.bs b o e).2 (I.ok.noex b o e)⟩
theorem Inv.bk (I:Inv X pins σ H s):∀ b o,X.base.get? b=some o->s.heap.get? b=some o:=fun b o e=>(I.bs b o e).1
theorem Inv.mod (I:Inv X pins σ H s):Mod X.K X.mg X.base:=I.ok.mod
theorem Inv.kIn (I:Inv X pins σ H s):X.K.In s.heap:=I.ok.mod.kin.keeps I.bk
theorem Inv.lt (I:Inv X pins σ H s):X.env.locals < s.heap.objs.size:=let ⟨_,hn,_⟩:=I.loc; hn.lt
theorem Inv.sz (I:Inv X pins σ H s):X.s₀.heap.objs.size<=s.heap.objs.size:=gg I.ok.above (ki I.lt)
theorem Inv.nofs (I:Inv X pins σ H s) {a:Addr} (h:s.heap.objs.size<=a):a∉X.fs:=fun hb=>by
 obtain ⟨_,o,ho,_⟩:=I.ok.funs.mem hb;exact absurd (bz (ak ho) (gg I.sz h)) (fu _)
theorem Inv.cne (I:Inv X pins σ H s):∀ x c,X.env.cells.lookup x=some c->c≠X.env.locals:=fun x c e z=>by
 obtain ⟨v,o,ho,hd⟩:=I.cell x c e;obtain ⟨m,⟨o',es,ep,ho',hd',_⟩,_⟩:=I.loc;rw [z,ho'] at ho; cases ho; rw [hd'] at hd; cases hd
theorem Inv.funs (I:Inv X pins σ H s):s.heap.FunFrames X.base X.outer:=by
 have all:∀ (l:List Env),(∀ b∈frs l,b∈X.fs)->X.s₀.heap.FunFrames X.base l->s.heap.FunFrames X.base l:=by
  intro l
  induction l with
  | nil=>intro _ _; trivial
  | cons env r ih=>
   intro hs hl;obtain ⟨hk,⟨L,o,hf,hn,ho,hd⟩,hr⟩:=hl;have hL:L∈X.fs:=hs L (by unfold frs; rw [md,hf]; exact ax);obtain ⟨sl,e⟩:=I.base.slot L o ho (I.ok.frf L hL) hL fun z=>I.ok.exfs L z hL;exact ⟨hk,⟨L,_,hf,hn,e,hd⟩,ih (fun b hb=>hs b (by unfold frs; rw [md,hf]; exact ao _ hb)) hr⟩
 exact all X.outer (fun _ hb=>hb) I.ok.funs
theorem Inv.stack (I:Inv X pins σ H s):s.heap.FunFrames X.base X.stack:=by
 rcases I.ok.stk with e | ⟨e,hf⟩
 ·rw [e]; exact I.funs
 ·rw [e];obtain ⟨m,hn,_⟩:=I.loc;refine .cons (by rw [I.ok.kind]; decide) hf hn ?_ I.funs;exact Heap.get?_none_of_le (gg I.ok.bsz I.ok.above)
theorem Inv.stkSub (I:Inv X pins σ H s):∀ b∈frs X.stack,b∈X.env.locals :: X.fs:=fun b hb=>by
 rcases I.ok.stk with e | ⟨e,hf⟩
 ·rw [e] at hb; exact ao _ hb
 ·rw [e] at hb;unfold frs at hb;rw [md,hf] at hb;exact hb
theorem Inv.stkFree (I:Inv X pins σ H s):∀ b∈frs X.stack,H b=none:=fun b hb=>by
 rcases bw.mp (I.stkSub b hb) with e | hb
 ·rw [e]; exact I.free
 ·obtain ⟨_,o,ho,_⟩:=I.ok.funs.mem hb;exact I.base.free b o ho (I.ok.frf b hb) fun z=>I.ok.exfs b z hb
theorem Inv.step {g':Array GenState} {t':Nat} {d':Drawn} {ch:List Addr} (I:Inv X pins σ H s)
  (hch:∀ b∈ch,(b∈X.ex\/X.s₀.heap.objs.size<=b)/\b≠X.env.locals/\(∀ x c,X.env.cells.lookup x=some c->c≠b)/\∀ p∈X.pn++pins,p.1≠b)
  (keep:∀ b o,b≠X.env.locals->b∉X.fs->b∉ch->s.heap.get? b=some o->H b=none->h'.get? b=some o)
  (slot:∀ b o,b≠X.env.locals->b∈X.fs->b∉ch->s.heap.get? b=some o->H b=none->∃ sl,h'.get? b=some { o with slots:=sl }) (free:∀ b o,b∉ch->s.heap.get? b=some o->H b=none->H' b=none)
  (there:∀ b o,b∉ch->s.heap.get? b=some o->∃ o',h'.get? b=some o')
  (tups:∀ b xs,H b=some (.tup xs)->H' b=some (.tup xs)) (frzs:∀ b o u,H b=some (.frz o u)->H' b=some (.frz o u)) (tbls:∀ b ps,H b=some (.tbl ps)->∃ more,H' b=some (.tbl (ps++more)))
  (ns:∀ m,s.heap.Ns X.env.locals m->h'.Ns X.env.locals m) (hok:HOk X.prog X.w H' h') (hg:AllBare g'):
  Inv X pins σ H' { s with heap:=h',gens:=g',drawn:=d',toks:=t' }:=by
 have neL:∀ b o,X.s₀.heap.get? b=some o->b≠X.env.locals:=fun b o e=>ba (bz (ak e) I.ok.above);have neC:∀ b o,X.s₀.heap.get? b=some o->b∉X.ex->b∉ch:=fun b o e hx hb=>by
  rcases (hch b hb).1 with z | z
  ·exact hx z
  ·exact absurd (bz (ak e) z) (fu _)
 have cellK:∀ x c,X.env.cells.lookup x=some c->∀ v,s.heap.IsCell c v->h'.IsCell c v:=fun x c e v ⟨o,ho,hd⟩=>by
  have nch:c∉ch:=fun z=>(hch c z).2.2.1 x c e rfl
  by_cases hc:c∈X.fs
  ·obtain ⟨sl,q⟩:=slot c o (I.cne x c e) hc nch ho (I.freeC x c e);exact ⟨_,q,hd⟩
  ·exact ⟨o,keep c o (I.cne x c e) hc nch ho (I.freeC x c e),hd⟩
 refine ⟨I.ok,I.os,hg,⟨fun b o e n hb hx=>?_,fun b o e n hb hx=>?_,fun b o e n hx=>?_,fun b o e hx=>?_,fun b xs e=>tups b xs (I.base.tups b xs e),fun b o xs e=>frzs b o xs (I.base.frzs b o xs e),fun b ps e=>?_⟩,?_,fun x c e=>?_,?_,fun x c e=>?_,fun p hp=>?_,hok,I.len⟩
 ·exact keep b o (neL b o e) hb (neC b o e hx) (I.base.keep b o e n hb hx) (I.base.free b o e n hx)
 ·obtain ⟨sl,e1⟩:=I.base.slot b o e n hb hx;obtain ⟨sl',e2⟩:=slot b _ (neL b o e) hb (neC b o e hx) e1 (I.base.free b o e n hx);exact ⟨sl',e2⟩
 ·obtain ⟨o',e1⟩:=I.base.there b o e hx;exact free b o' (neC b o e hx) e1 (I.base.free b o e n hx)
 ·obtain ⟨o',e1⟩:=I.base.there b o e hx;exact there b o' (neC b o e hx) e1
 ·obtain ⟨m1,e1⟩:=I.base.tbls b ps e;obtain ⟨m2,e2⟩:=tbls b _ e1;exact ⟨m1++m2,by rw [e2,Array.append_assoc]⟩
 ·obtain ⟨m,hn,hl⟩:=I.loc;refine ⟨m,ns m hn,fun i x v e1 e2 e3=>?_⟩;obtain ⟨u,r,l⟩:=hl i x v e1 e2 e3;refine ⟨u,r,?_⟩;rcases l with l | ⟨k,c,e,z⟩
  ·exact .inl l
  ·exact .inr ⟨k,c,e,cellK x c e _ z⟩
 ·obtain ⟨v,z⟩:=I.cell x c e;exact ⟨v,cellK x c e v z⟩
 ·obtain ⟨m,⟨o,_,_,ho,_⟩,_⟩:=I.loc;exact free _ o (fun z=>(hch _ z).2.1 rfl) ho I.free
 ·obtain ⟨v,o,ho,hd⟩:=I.cell x c e;exact free c o (fun z=>(hch c z).2.2.1 x c e rfl) ho (I.freeC x c e)
 ·obtain ⟨e,n,ne,nf,d⟩:=I.pin p hp;have nch:p.1∉ch:=fun z=>(hch p.1 z).2.2.2 p hp rfl;exact ⟨keep p.1 p.2 ne nf nch e n,free p.1 p.2 nch e n,ne,nf,d⟩
theorem Inv.un {t':Nat} (I:Inv X pins σ H s) (u:Un X.fs [] H H' s.heap h') (hok:HOk X.prog X.w H' h'):Inv X pins σ H' { s with heap:=h',toks:=t' }:=by
 obtain ⟨m,⟨o,es,ep,ho,r⟩,_⟩:=id I.loc;obtain ⟨sl,hL⟩:=u.any ho I.free (by simp);exact I.step (g':=s.gens) (d':=s.drawn) (ch:=[]) (fun _ z=>nomatch z) (fun b o _ hb _ e n=>u.keep b o e n hb (by simp)) (fun b o _ hb _ e n=>u.slot b o e n hb (by simp)) (fun b o _ e n=>u.free b o e n (by simp)) (fun b o _ e=>u.there b o e (by simp)) u.tups u.frzs u.tbls (fun m' hm=>by
  obtain ⟨o',es',ep',ho',r'⟩:=hm;rw [ho] at ho'; cases ho';exact ⟨_,es',ep',hL,r'⟩) hok I.bare
theorem Inv.call {g':Array GenState} {t':Nat} {d':Drawn} {ch:List Addr} (I:Inv X pins σ H s) (u:Un (frs X.stack) ch H H' s.heap h') (hok:HOk X.prog X.w H' h') (hg:AllBare g')
  (hch:∀ b∈ch,(b∈X.ex\/X.s₀.heap.objs.size<=b)/\b≠X.env.locals/\(∀ x c,X.env.cells.lookup x=some c->c≠b)/\∀ p∈X.pn++pins,p.1≠b):
  Inv X pins σ H' { s with heap:=h',gens:=g',drawn:=d',toks:=t' }:=by
 obtain ⟨m,⟨o,es,ep,ho,r⟩,_⟩:=id I.loc;obtain ⟨sl,hL⟩:=u.any ho I.free fun z=>(hch _ z).2.1 rfl;exact I.step (ch:=ch) hch (fun b o hL hb hc e n=>u.keep b o e n (fun z=>(bw.mp (I.stkSub b z)).elim hL hb) hc) (fun b o _ _ hc e n=>u.any e n hc) (fun b o hc e n=>u.free b o e n hc) (fun b o hc e=>u.there b o e hc) u.tups u.frzs u.tbls (fun m' hm=>by
  obtain ⟨o',es',ep',ho',r'⟩:=hm;rw [ho] at ho'; cases ho';exact ⟨_,es',ep',hL,r'⟩) hok hg
theorem Inv.turned {t':Nat} {it:Addr} (I:Inv X pins σ H s) (k:∀ b o,b≠it->s.heap.get? b=some o->h'.get? b=some o) (hn:H it=none) (hL:it≠X.env.locals)
  (h1:it∈X.ex\/X.s₀.heap.objs.size<=it) (h2:∀ x c,X.env.cells.lookup x=some c->c≠it) (h3:∀ p∈X.pn++pins,p.1≠it):Inv X pins σ H { s with heap:=h',toks:=t' }:=by
 have nit:∀ b u,H b=some u->b≠it:=fun b u e z=>by rw [z,hn] at e; cases e
 refine I.step (g':=s.gens) (d':=s.drawn) (ch:=[it]) (fun b hb=>?_) (fun b o _ _ hc e _=>k b o (fun z=>hc (by simp [z])) e) (fun b o _ _ hc e _=>⟨o.slots,k b o (fun z=>hc (by simp [z])) e⟩) (fun _ _ _ _ n=>n)
  (fun b o hc e=>⟨o,k b o (fun z=>hc (by simp [z])) e⟩) (fun _ _ e=>e) (fun _ _ _ e=>e) (fun b ps e=>⟨#[],by rw [e]; simp⟩) (fun m hm=>?_) (fun b u e=>?_) I.bare
 ·have e:b=it:=by simpa using hb
  subst e;exact ⟨h1,hL,h2,h3⟩
 ·obtain ⟨o,es,ep,ho,r⟩:=hm;exact ⟨o,es,ep,k _ o (ik hL) ho,r⟩
 ·refine (I.hok b u e).stay (fun c v hc q=>k c v ?_ q) (fun _ q=>q) fun _ _ q=>q;rcases hc with z | z
  ·rw [z]; exact nit b u e
  ·exact nit c _ z
theorem Inv.tok (I:Inv X pins σ H s) (t:Nat):Inv X pins σ H { s with toks:=t }:=I.un (h':=s.heap) (t':=t) Un.refl I.hok
theorem Inv.kept {t':Nat} (I:Inv X pins σ H s) (k:∀ b u,s.heap.get? b=some u->h'.get? b=some u):Inv X pins σ H { s with heap:=h',toks:=t' }:=I.un (Un.kept k) (I.hok.kept k)
theorem Inv.laid {a:Addr} {o:HO} {t':Nat} (I:Inv X pins σ H s) (k:∀ b u,s.heap.get? b=some u->h'.get? b=some u) (hp:s.heap.objs.size<=a) (new:bP X.prog X.w (upd H a o) h' a o):
  Inv X pins σ (upd H a o) { s with heap:=h',toks:=t' }:=I.un (Un.laid k hp (I.hok.fresh hp)) (I.hok.laid k hp new)
theorem Inv.write {x e:Addr} {o:HO} {t':Nat} (I:Inv X pins σ H s) (mu:Mut (H x)) (he:e=x\/H e=some (.own x)) (k:∀ b u,b≠e->s.heap.get? b=some u->h'.get? b=some u) (heo:∃ u,h'.get? e=some u)
  (new:bP X.prog X.w (upd H x o) h' x o):Inv X pins σ (upd H x o) { s with heap:=h',toks:=t' }:=I.un (Un.write mu he k heo) (I.hok.write mu he k heo new)
theorem Inv.pins_of {pins':List (Addr×Obj)} (I:Inv X pins σ H s) (h:∀ p∈pins',s.heap.get? p.1=some p.2/\H p.1=none/\p.1≠X.env.locals/\p.1∉X.fs/\∀ v,p.2.data≠.cell v):Inv X pins' σ H s:=
 ⟨I.ok,I.os,I.bare,I.base,I.loc,I.cell,I.free,I.freeC,fun p hp=>(bh.mp hp).elim (fun z=>I.pin p (cu _ z)) (h p),I.hok,I.len⟩
theorem AZ {N:List Str} (hN:N.Nodup) {i j:Nat} {x:Str} (a:N[i]?=some x) (b:N[j]?=some x):i=j:=by
 obtain ⟨h1,e1⟩:=af.mp a;obtain ⟨h2,e2⟩:=af.mp b;exact (List.getElem_inj hN).mp (e1.trans e2.symm)
theorem Fu {M:Model} {A:Around} {E:Value->Shared->Prop} {i:Nat} {x:Str} {v:V} {u:Value} {Q:Unit->Shared->Prop} (I:Inv X pins σ H s) (hN:X.N.Nodup) (hi:X.N[i]?=some x) (hx:Loc X.env.scope x) (r:RelV v u)
  (h:∀ s',Inv X pins (σ.set i (some v)) H s'->(∃ a,ja a s.heap s'.heap/\(a=X.env.locals\/X.env.cells.lookup x=some a))->Q () s') (hf:X.fn x=true\/X.env.scope.names.lookup x=some .local:=by first | exact .inl rfl | exact .inr rfl | assumption):wpAny M A (storeName X.env x u) Q E s:=by
 obtain ⟨m,hn,hl⟩:=id I.loc;have hcls:(X.env.scope.kind == .class || (X.env.scope.kind == .module && X.env.locals != X.env.globals))=false:=by rw [I.ok.kind]; rfl
 have hiσ:i < σ.length:=by rw [I.len]; exact (af.mp hi).1
 have cne:=I.cne;have tracked:∀ {a:Addr} {h':Heap},(∃ o,s.heap.get? a=some o/\H a=none)->ja a s.heap h'->HOk X.prog X.w H h':=fun {a h'} ha hs b ob e=>by
  obtain ⟨_,_,hfree⟩:=ha;refine (I.hok b ob e).stay (fun c w' hc q=>(hs.2 c ?_).trans q) (fun _ q=>q) fun _ _ q=>q;rintro rfl;rcases hc with rfl | hc
  ·rw [hfree] at e; cases e
  ·rw [hfree] at hc; cases hc
 rcases hx with hk | hk
 ·refine wpAny_storeName_local hk hn (fun h' hn' hs=>?_) hcls;obtain ⟨oL,_,_,hoL,_⟩:=id hn;refine h _ ⟨I.ok,I.os,I.bare,⟨fun b o e n hb hx=>?_,fun b o e n hb hx=>?_,I.base.free,fun b o e hx=>?_,I.base.tups,I.base.frzs,I.base.tbls⟩,⟨_,hn',fun j y v' e1 e2 e3=>?_⟩,fun y c e=>?_,I.free,I.freeC,fun p hp=>?_,tracked ⟨oL,hoL,I.free⟩ hs,by simpa using I.len⟩ ⟨_,hs,.inl rfl⟩
  ·exact (hs.2 b (ba (bz (ak e) I.ok.above))).trans (I.base.keep b o e n hb hx)
  ·obtain ⟨sl,e1⟩:=I.base.slot b o e n hb hx;exact ⟨sl,(hs.2 b (ba (bz (ak e) I.ok.above))).trans e1⟩
  ·obtain ⟨o',e1⟩:=I.base.there b o e hx;exact ⟨o',(hs.2 b (ba (bz (ak e) I.ok.above))).trans e1⟩
  ·by_cases hj:j=i
   ·subst hj;rw [hi] at e1; cases e1;rw [fj hiσ] at e2;cases e2
    exact ⟨u,r,.inl ⟨hk,by simp⟩⟩
   ·rw [cj (ik hj)] at e2;obtain ⟨u',r',q⟩:=hl j y v' e1 e2 e3;refine ⟨u',r',?_⟩;rcases q with ⟨k,e⟩ | ⟨k,c,e,z⟩
    ·refine .inl ⟨k,?_⟩;have:y≠x:=fun e=>hj (AZ hN e1 (e ▸ hi));simp [this,e]
    ·exact .inr ⟨k,c,e,z.sameBut hs (cne y c e)⟩
  ·obtain ⟨w',z⟩:=I.cell y c e;exact ⟨w',z.sameBut hs (cne y c e)⟩
  ·obtain ⟨e,n,ne,nf,d⟩:=I.pin p hp;exact ⟨(hs.2 p.1 ne).trans e,n,ne,nf,d⟩
 ·have hfn:X.fn x=true:=by
   rcases hf with z | z
   ·exact z
   ·rw [z] at hk; cases hk
  obtain ⟨c,hc⟩:=I.ok.has x (.inl hk);obtain ⟨w',z⟩:=I.cell x c hc;refine wpAny_storeName_cell I.ok.kind hk hc z (fun h' hc' hs=>?_);obtain ⟨oc,hoc,hocd⟩:=id z;refine h { s with heap:=h' } ⟨I.ok,I.os,I.bare,⟨fun b o e n hb hx=>?_,fun b o e n hb hx=>?_,I.base.free,fun b o e hx=>?_,I.base.tups,I.base.frzs,I.base.tbls⟩,⟨m,hn.sameBut hs (ik (cne x c hc)),fun j y v' e1 e2 e3=>?_⟩,fun y c' e=>?_,I.free,I.freeC,fun p hp=>?_,tracked ⟨oc,hoc,I.freeC x c hc⟩ hs,by simpa using I.len⟩ ⟨c,hs,.inr hc⟩
  ·exact (hs.2 b (ba (bz (ak e) (I.ok.cab x c hfn hc)))).trans (I.base.keep b o e n hb hx)
  ·obtain ⟨sl,e1⟩:=I.base.slot b o e n hb hx;exact ⟨sl,(hs.2 b (ba (bz (ak e) (I.ok.cab x c hfn hc)))).trans e1⟩
  ·obtain ⟨o',e1⟩:=I.base.there b o e hx;exact ⟨o',(hs.2 b (ba (bz (ak e) (I.ok.cab x c hfn hc)))).trans e1⟩
  ·by_cases hj:j=i
   ·subst hj;rw [hi] at e1; cases e1;rw [fj hiσ] at e2;cases e2
    exact ⟨u,r,.inr ⟨.inl hk,c,hc,hc'⟩⟩
   ·rw [cj (ik hj)] at e2;obtain ⟨u',r',q⟩:=hl j y v' e1 e2 e3;refine ⟨u',r',?_⟩;rcases q with q | ⟨k,c',e,z'⟩
    ·exact .inl q
    ·refine .inr ⟨k,c',e,z'.sameBut hs ?_⟩;rintro rfl;exact hj (AZ hN e1 (I.ok.inj _ _ _ e hc ▸ hi))
  ·by_cases hcc:c'=c
   ·subst hcc; exact ⟨_,hc'⟩
   ·obtain ⟨w2,z2⟩:=I.cell y c' e;exact ⟨w2,z2.sameBut hs hcc⟩
  ·obtain ⟨e,n,ne,nf,d⟩:=I.pin p hp;refine ⟨(hs.2 p.1 ?_).trans e,n,ne,nf,d⟩;intro q;rw [q,hoc] at e;have q':oc=p.2:=b8 e;exact d w' (by rw [<- q']; exact hocd)
theorem B0 {M:Model} {A:Around} {E:Value->Shared->Prop} {i:Nat} {x:Str} {v:V} {u:Value} {Q:Unit->Shared->Prop} (I:Inv X pins σ H s) (hN:X.N.Nodup) (hi:X.N[i]?=some x) (hx:Loc X.env.scope x) (r:RelV v u)
  (h:∀ s',Inv X pins (σ.set i (some v)) H s'->Q () s') (hf:X.fn x=true\/X.env.scope.names.lookup x=some .local:=by first | exact .inl rfl | exact .inr rfl | assumption):wpAny M A (storeName X.env x u) Q E s:=
 Fu I hN hi hx r (fun s' I' _=>h s' I') hf
theorem Inv.call' {s':Shared} {ch:List Addr} (I:Inv X pins σ H s) (ho:s'.os=s.os) (u:Un (frs X.stack) ch H H' s.heap s'.heap) (hok:HOk X.prog X.w H' s'.heap) (hg:AllBare s'.gens)
  (hch:∀ b∈ch,(b∈X.ex\/X.s₀.heap.objs.size<=b)/\b≠X.env.locals/\(∀ x c,X.env.cells.lookup x=some c->c≠b)/\∀ p∈X.pn++pins,p.1≠b):Inv X pins σ H' s':=by
 obtain ⟨h',g',d',t',o'⟩:=s';have e:o'=s.os:=ho;subst e;exact I.call (g':=g') (t':=t') (d':=d') u hok hg hch
end
abbrev XK:=Value->Option Addr->Hp->Prop
abbrev St:=List (Option V)
abbrev VK:=V->Hp->Prop
abbrev TE:=St->Hp->VK->Prop
abbrev TT:=St->Hp->(Bool->Hp->Prop)->Prop
abbrev TA:=St->Hp->(List V->Hp->Prop)->Prop
structure Ends where
 nx:St->Hp->Prop
 rt:VK
 bk:St->Hp->Prop:=fun _ _=>False
 ct:St->Hp->Prop:=fun _ _=>False
abbrev TS:=Ends->St->Hp->Prop
def EP (X:Cx) (pins:List (Addr×Obj)) (σ:St) (Q:VK) (u:Value) (s':Shared):Prop:=∃ v H',Inv X pins σ H' s'/\RelV v u/\Q v H'
def TP (X:Cx) (pins:List (Addr×Obj)) (σ:St) (Q:Bool->Hp->Prop) (b:Bool) (s':Shared):Prop:=∃ H',Inv X pins σ H' s'/\Q b H'
def AP (X:Cx) (pins:List (Addr×Obj)) (σ:St) (Q:List V->Hp->Prop) (us:List Value) (s':Shared):Prop:=∃ vs H',Inv X pins σ H' s'/\aN vs us/\Q vs H'
def SP (X:Cx) (pins:List (Addr×Obj)) (D:Ends) (f:Flow) (s':Shared):Prop:=
 match f with
 | .next=>∃ σ' H',Inv X pins σ' H' s'/\D.nx σ' H'
 | .brk=>∃ σ' H',Inv X pins σ' H' s'/\D.bk σ' H'
 | .cont=>∃ σ' H',Inv X pins σ' H' s'/\D.ct σ' H'
 | .ret u=>∃ v σ' H',Inv X pins σ' H' s'/\RelV v u/\D.rt v H'
def PE (X:Cx) (e:Expr) (t:TE):Prop:=
 ∀ (pins:List (Addr×Obj)) (s:Shared) (σ:St) (H:Hp) (Q:VK),Inv X pins σ H s->t σ H Q->wpAny (model X.prog X.w) X.A (eval e X.env) (EP X pins σ Q) X.xe s
def PT (X:Cx) (e:Expr) (t:TT):Prop:=
 ∀ (pins:List (Addr×Obj)) (s:Shared) (σ:St) (H:Hp) (Q:Bool->Hp->Prop),Inv X pins σ H s->t σ H Q->wpAny (model X.prog X.w) X.A (isTrue e X.env (eval e X.env)) (TP X pins σ Q) X.xe s
def PW (X:Cx) (e:Expr) (t:TT):Prop:=
 ∀ (whole:Sem Value) (pins:List (Addr×Obj)) (s:Shared) (σ:St) (H:Hp) (Q:Bool->Hp->Prop),Inv X pins σ H s->t σ H Q->wpAny (model X.prog X.w) X.A (isTrue e X.env whole) (TP X pins σ Q) X.xe s
theorem PW.pt {X:Cx} {e:Expr} {t:TT} (h:PW X e t):PT X e t:=h _
def PA (X:Cx) (es:List Expr) (t:TA):Prop:=
 ∀ (pos:Pos) (pins:List (Addr×Obj)) (s:Shared) (σ:St) (H:Hp) (Q:List V->Hp->Prop),Inv X pins σ H s->t σ H Q->wpAny (model X.prog X.w) X.A (spliced (backTo pos (b0 es X.env))) (AP X pins σ Q) X.xe s
def PS (X:Cx) (st:Stmt) (t:TS):Prop:=
 ∀ (pins:List (Addr×Obj)) (s:Shared) (σ:St) (H:Hp) (D:Ends),Inv X pins σ H s->t D σ H->wpAny (model X.prog X.w) X.A (exec st X.env) (SP X pins D) X.xe s
def PSs (X:Cx) (st:List Stmt) (t:TS):Prop:=
 ∀ (pins:List (Addr×Obj)) (s:Shared) (σ:St) (H:Hp) (D:Ends),Inv X pins σ H s->t D σ H->wpAny (model X.prog X.w) X.A (execs st X.env) (SP X pins D) X.xe s
theorem thn {α:Type} {t:Sem α} {Q Q':α->Shared->Prop} {M:Model} {A:Around} {E:Value->Shared->Prop} {s:Shared} (h:wpAny M A t Q E s) (hQ:∀ a s,Q a s->Q' a s):wpAny M A t Q' E s:=jl h hQ fun _ _ x=>x
section
variable {X:Cx}
def PU (i:Nat):TE:=fun σ H Q=>∃ v,σ[i]?=some (some v)/\Q v H
def tC (v:V):TE:=fun _ H Q=>Q v H
theorem GZ {i:Nat} {x:Str} {pos:Pos} (hN:X.N[i]?=some x) (hv:Vis X.env.scope x) (hd:(x == ("__debug__" : Str))=false:=by decide) (hcd:(x == ("__classdict__" : Str))=false:=by decide):PE X (.Name x pos) (PU i):=by
 intro pins s σ H Q I h;obtain ⟨v,e,h⟩:=h;obtain ⟨m,hn,hl⟩:=I.loc;obtain ⟨u,r,l⟩:=hl i x v hN e hv;have fin:EP X pins σ Q u s:=⟨v,H,I,r,h⟩;rcases l with ⟨hk,hm⟩ | ⟨hk,c,hc,hcell⟩
 ·exact wpAny_Name (wpAny_loadName_local I.ok.kind hk hn hm fin) hd
 ·rcases hk with hk | hk
  ·exact wpAny_Name (wpAny_loadName_cell I.ok.kind hk hc hcell fin) hd
  ·exact wpAny_Name (wpAny_loadName_free I.ok.kind hk hc hcell fin hcd) hd
theorem Nu {i j pos}:PE X (.Constant (.int i) j pos) (tC (.int i)):=fun _ _ _ H _ I h=>wpAny_Constant_int ⟨.int i,H,I.tok _,⟨_,rfl⟩,h⟩
theorem PY {b j pos}:PE X (.Constant (.bool b) j pos) (tC (.bl b)):=fun _ _ _ H _ I h=>Constant_bool ⟨.bl b,H,I,rfl,h⟩
theorem Nv {x j pos}:PE X (.Constant (.str x) j pos) (tC (.str x)):=fun _ _ _ H _ I h=>Calls.Constant_str ⟨.str x,H,I.tok _,⟨_,rfl⟩,h⟩
def Gl (X:Cx) (x:Str):Prop:=X.env.kindOf x=some .globalImplicit
theorem zN {E:Value->Shared->Prop} {pins:List (Addr×Obj)} {s:Shared} {σ:St} {H:Hp} {x:Str} {u:Value} {pos:Pos} {Q:Value->Shared->Prop} (I:Inv X pins σ H s) (hg:Gl X x) (hm:X.mg x=some u) (h:Q u s)
  (hd:(x == ("__debug__" : Str))=false:=by decide):wpAny (model X.prog X.w) X.A (eval (.Name x pos) X.env) Q E s:=
 Calls.Name_function_global I.ok.kind hg (Calls.loadGlobal_global (by rw [I.ok.glob]; exact I.mod.glob.keeps I.bk) hm h) hd
theorem mT {E:Value->Shared->Prop} {pins:List (Addr×Obj)} {s:Shared} {σ:St} {H:Hp} {x:Str} {u:Value} {pos:Pos} {Q:Value->Shared->Prop} (I:Inv X pins σ H s) (hg:Gl X x) (hm:X.mg x=none) (hv:kh x=some u) (h:Q u s)
  (hn:x≠"__name__" := by decide) (hd:(x == ("__debug__" : Str))=false:=by decide):wpAny (model X.prog X.w) X.A (eval (.Name x pos) X.env) Q E s:=by
 obtain ⟨mb,h1,h2⟩:=I.mod.blt;exact Calls.Name_function_global I.ok.kind hg (Calls.loadGlobal_builtin (by rw [I.ok.glob]; exact I.mod.glob.keeps I.bk) hm (by rw [I.ok.blt]; exact h1.keeps I.bk) ((h2 x hn).trans hv) h) hd
theorem Kv {x:Str} {v:V} {u:Value} {pos:Pos} (hg:Gl X x) (hm:X.mg x=none) (hv:kh x=some u) (r:RelV v u) (hn:x≠"__name__" := by decide) (hd:(x == ("__debug__" : Str))=false:=by decide):PE X (.Name x pos) (tC v):=
 fun _ _ _ H _ I h=>mT I hg hm hv ⟨v,H,I,r,h⟩ hn hd
variable {a b:Expr} {ta tb:TE} {pos:Pos}
variable {tA tB':TT} {rest:List Expr}
def tOr (t u:TT):TT:=fun σ H Q=>t σ H fun c H1=>if c=true then Q true H1 else u σ H1 Q
def Sr (t:TT):TT:=fun σ H Q=>t σ H fun c H1=>Q (!c) H1
theorem Nw (ha:PT X a tA):PW X (.BoolOp .Or [a] pos) tA:=by
 intro wh pins s σ H Q I h;refine isTrue_or (thn (ha pins s σ H Q I h) fun c s1 e=>?_);cases c with
 | false=>exact isTrue_or_nil e
 | true=>exact e
theorem PZ (ha:PT X a tA) (hb:PW X (.BoolOp .Or (b :: rest) pos) tB'):PW X (.BoolOp .Or (a :: b :: rest) pos) (tOr tA tB'):=by
 intro wh pins s σ H Q I h;refine isTrue_or (thn (ha pins s σ H _ I h) fun c s1 ⟨H1,I1,q1⟩=>?_);cases c with
 | true=>exact ⟨H1,I1,q1⟩
 | false=>exact hb wh pins s1 σ H1 Q I1 q1
theorem Nx (ha:PT X a tA):PT X (.UnaryOp .Not a pos) (Sr tA):=by
 intro pins s σ H Q I h;exact isTrue_not (ha pins s σ H (fun c H1=>Q (!c) H1) I h)
theorem Ny {op} {t:TE} (h:PE X a t):PE X (.BoolOp op [a] pos) t:=fun pins s σ H Q I hw=>BoolOp_one (h pins s σ H Q I hw)
end
def SqL (K:ag) (H:Hp) (a:Addr) (xs:List V):Prop:=
 Rd H a (.lst xs)\/
  ∃ (o:Obj) (its:Array Value) (n:Nat),K.lookup a=some o/\o.cls=.type "list" /\ o.dict=none/\o.data=.seq its n/\its.size<=aw/\aN xs its.toList
def SqT (K:ag) (H:Hp) (a:Addr) (xs:List V):Prop:=
 Rd H a (.tup xs)\/
  ∃ (o:Obj) (its:Array Value) (n:Nat),K.lookup a=some o/\o.cls=.type "tuple" /\ o.data=.seq its n/\its.size<=aw/\aN xs its.toList/\o.dict=none
def Ss:Value->Option V
 | .none=>some .non
 | .bool b=>some (.bl b)
 | .int i _=>some (.int i)
 | .str x _=>some (.str x)
 | .bytes b _=>some (.byt b)
 | .float b _=>some (.flt b)
 | .ref a=>some (.ref a)
 | .type n=>some (.ty n)
 | _=>none
theorem RelV.abs {x:V} {u:Value} (r:RelV x u):Ss u=some x:=by
 cases x with
 | non=>cases r; rfl
 | bl _=>cases r; rfl
 | int _=>obtain ⟨t,rfl⟩:=r; rfl
 | str _=>obtain ⟨t,rfl⟩:=r; rfl
 | byt _=>obtain ⟨t,rfl⟩:=r; rfl
 | flt _=>obtain ⟨t,rfl⟩:=r; rfl
 | ref _=>cases r; rfl
 | ty _=>cases r; rfl
theorem RelV.inj {x y:V} {u:Value} (r:RelV x u) (q:RelV y u):x=y:=b8 (r.abs.symm.trans q.abs)
theorem aN.inj:∀ {xs ys:List V} {us:List Value},aN xs us->aN ys us->xs=ys
 | _,_,_,.nil,.nil=>rfl
 | _,_,_,.cons r t,.cons r' t'=>by rw [r.inj r',aN.inj t t']
section
variable {X:Cx} {pins:List (Addr×Obj)} {σ:St} {H:Hp} {s:Shared} {a:Addr} {xs ys:List V}
theorem SqL.of {K:ag} (h:H a=some (.lst xs)):SqL K H a xs:=.inl (.inl h)
theorem SqT.of {K:ag} (h:H a=some (.tup xs)):SqT K H a xs:=.inl (.inl h)
theorem Inv.list (I:Inv X pins σ H s) (h:SqL X.K H a xs):∃ its:List Value,aN xs its/\PlainL s.heap a its.toArray/\xs.length<=aw:=by
 rcases h with h | ⟨o,its,n,hk,hc,hd,hs,hz,r⟩
 ·obtain ⟨z,its,n,r,e⟩:=h.ok I.hok;exact ⟨its,r,⟨_,n,e,rfl,rfl,rfl⟩,z⟩
 ·refine ⟨its.toList,r,⟨o,n,I.kIn a o hk,hc,hd,by simpa using hs⟩,?_⟩
  have e:=r.length;simp only [mf] at e;omega
theorem Inv.tuple (I:Inv X pins σ H s) (h:SqT X.K H a xs):∃ its:List Value,aN xs its/\IsTup s.heap a its.toArray/\xs.length<=aw:=by
 rcases h with h | ⟨o,its,n,hk,hc,hs,hz,r,_⟩
 ·obtain ⟨z,its,r,p⟩:=h.ok I.hok;exact ⟨its,r,p.is,z⟩
 ·refine ⟨its.toList,r,⟨o,I.kIn a o hk,hc,n,by simpa using hs⟩,?_⟩
  have e:=r.length;simp only [mf] at e;omega
theorem Inv.list_inj (I:Inv X pins σ H s) (h:SqL X.K H a xs) (h':SqL X.K H a ys):xs=ys:=by
 obtain ⟨its,r,⟨o,n,e,_,_,d⟩,_⟩:=I.list h;obtain ⟨its',r',⟨o',n',e',_,_,d'⟩,_⟩:=I.list h';rw [e] at e'; cases e';rw [d] at d';injection d' with d1 _;have:its=its':=by simpa using congrArg Array.toList d1
 subst this;exact r.inj r'
theorem Inv.tuple_inj (I:Inv X pins σ H s) (h:SqT X.K H a xs) (h':SqT X.K H a ys):xs=ys:=by
 obtain ⟨its,r,⟨o,e,_,n,d⟩,_⟩:=I.tuple h;obtain ⟨its',r',⟨o',e',_,n',d'⟩,_⟩:=I.tuple h';rw [e] at e'; cases e';rw [d] at d';injection d' with d1 _;have:its=its':=by simpa using congrArg Array.toList d1
 subst this;exact r.inj r'
end
abbrev Cx.wish (X:Cx) (E:Value->Shared->Prop):Cx:={ X with xe:=E }
abbrev Cx.nox (X:Cx):Cx:=X.wish fun _ _=>False
theorem Cx.Ok.wish {X:Cx} (ok:X.Ok) (E:Value->Shared->Prop):(X.wish E).Ok:=
 ⟨ok.mod,ok.kind,ok.glob,ok.blt,ok.above,ok.inj,ok.has,ok.cab,ok.hd,ok.frames,ok.stk,ok.exf,ok.bs,ok.bsz,ok.noex,ok.exfs,ok.funs,ok.frf⟩
theorem Cx.Ok.unwish {X:Cx} {E:Value->Shared->Prop} (ok:(X.wish E).Ok):X.Ok:=
 ⟨ok.mod,ok.kind,ok.glob,ok.blt,ok.above,ok.inj,ok.has,ok.cab,ok.hd,ok.frames,ok.stk,ok.exf,ok.bs,ok.bsz,ok.noex,ok.exfs,ok.funs,ok.frf⟩
section
variable {X:Cx} {pins:List (Addr×Obj)} {σ:St} {H:Hp} {s:Shared} {E:Value->Shared->Prop}
theorem Inv.wish (I:Inv X pins σ H s) (E:Value->Shared->Prop):Inv (X.wish E) pins σ H s:=⟨I.ok.wish E,I.os,I.bare,I.base,I.loc,I.cell,I.free,I.freeC,I.pin,I.hok,I.len⟩
theorem Inv.unwish (I:Inv (X.wish E) pins σ H s):Inv X pins σ H s:=⟨I.ok.unwish,I.os,I.bare,I.base,I.loc,I.cell,I.free,I.freeC,I.pin,I.hok,I.len⟩
theorem SP.unwish {D:Ends} {f:Flow} {s':Shared} (h:SP (X.wish E) pins D f s'):SP X pins D f s':=by
 cases f with
 | next=>obtain ⟨σ',H',I,q⟩:=h; exact ⟨σ',H',I.unwish,q⟩
 | brk=>obtain ⟨σ',H',I,q⟩:=h; exact ⟨σ',H',I.unwish,q⟩
 | cont=>obtain ⟨σ',H',I,q⟩:=h; exact ⟨σ',H',I.unwish,q⟩
 | ret u=>obtain ⟨v,σ',H',I,r,q⟩:=h; exact ⟨v,σ',H',I.unwish,r,q⟩
theorem PSs.nox {st:List Stmt} {t:TS} (h:PSs X.nox st t):PSs X st t:=fun pins s σ H D I hw=>
 jl (h pins s σ H D (I.wish _) hw) (fun _ _ q=>q.unwish) fun _ _ z=>i3 z
end
section
variable {X:Cx} {st:Stmt} {rest:List Stmt} {t u:TS} {e:Expr} {te:TE} {pos:Pos}
def MV:TS:=fun D σ H=>D.nx σ H
def Su (t u:TS):TS:=fun D σ H=>t { D with nx:=u D } σ H
theorem Kw:PSs X [] MV:=fun _ _ σ H _ I h=>wpAny_execs_nil ⟨σ,H,I,h⟩
theorem Ha (h1:PS X st t) (h2:PSs X rest u):PSs X (st :: rest) (Su t u):=by
 intro pins s σ H D I h;refine wpAny_execs_cons (thn (h1 pins s σ H { D with nx:=u D } I h) fun f s1 q=>?_);cases f with
 | next=>
  obtain ⟨σ',H',I',q⟩:=q;exact h2 pins s1 σ' H' D I' q
 | ret v=>exact q
 | brk=>exact q
 | cont=>exact q
theorem Kx (h1:PS X st t):PSs X [st] t:=by
 intro pins s σ H D I h;refine wpAny_execs_cons (thn (h1 pins s σ H D I h) fun f s1 q=>?_);cases f with
 | next=>exact wpAny_execs_nil q
 | ret v=>exact q
 | brk=>exact q
 | cont=>exact q
theorem Ky:PS X (.Pass pos) MV:=fun _ _ σ H _ I h=>wpAny_Pass ⟨σ,H,I,h⟩
theorem Inv.quiet {pins:List (Addr×Obj)} {σ:St} {H:Hp} {s:Shared} (I:Inv X pins σ H s):interactive X.env=false:=by simp [interactive,I.ok.kind]
def Q1 (te:TE):TS:=fun D σ H=>te σ H fun _ H1=>D.nx σ H1
theorem Kz (he:PE X e te) (hs:swapsWith e none pos.line X.env=pure false:=by rfl):PS X (.Expr e pos) (Q1 te):=by
 intro pins s σ H D I h;exact wpAny_Expr_any (thn (he pins s σ H _ I h) fun v s1 ⟨x,H1,I1,r1,q1⟩=>⟨σ,H1,I1,q1⟩) I.quiet hs
def Sv (te:TE):TS:=fun D σ H=>te σ H D.rt
theorem Nz (he:PE X e te):PS X (.Return (some e) pos) (Sv te):=by
 intro pins s σ H D I h;exact wpAny_Return_some (thn (he pins s σ H _ I h) fun v s1 ⟨x,H1,I1,r1,q1⟩=>⟨x,σ,H1,I1,r1,q1⟩)
def Sw (c:TT) (t u:TS):TS:=fun D σ H=>c σ H fun b H1=>if b=true then t D σ H1 else u D σ H1
theorem Q2 {c:Expr} {a b:List Stmt} {tc:TT} (hc:PT X c tc) (ha:PSs X a t) (hb:PSs X b u):PS X (.If c a b pos) (Sw tc t u):=by
 intro pins s σ H D I h;refine wpAny_If (thn (hc pins s σ H _ I h) fun d s1 ⟨H1,I1,q1⟩=>?_);cases d with
 | true=>exact ha pins s1 σ H1 D I1 q1
 | false=>exact hb pins s1 σ H1 D I1 q1
end
abbrev TG:=V->St->Hp->(St->Hp->Prop)->Prop
abbrev TGs:=List V->St->Hp->(St->Hp->Prop)->Prop
def PG (X:Cx) (target:Expr) (t:TG):Prop:=
 ∀ (pins:List (Addr×Obj)) (s:Shared) (σ:St) (H:Hp) (v:V) (u:Value) (Q:St->Hp->Prop),Inv X pins σ H s->RelV v u->t v σ H Q->
  wpAny (model X.prog X.w) X.A (assign target X.env u) (fun _ s'=>∃ σ' H',Inv X pins σ' H' s'/\Q σ' H') X.xe s
def PGs (X:Cx) (ts:List Expr) (t:TGs):Prop:=
 ∀ (pins:List (Addr×Obj)) (s:Shared) (σ:St) (H:Hp) (vs:List V) (us:List Value) (Q:St->Hp->Prop),Inv X pins σ H s->aN vs us->t vs σ H Q->
  wpAny (model X.prog X.w) X.A (assignInOrder ((kg ts X.env).map (·.2)) us) (fun _ s'=>∃ σ' H',Inv X pins σ' H' s'/\Q σ' H') X.xe s
abbrev Sx:=V->V->V->Hp->(Hp->Prop)->Prop
def Sy (X:Cx) (t:Sx):Prop:=
 ∀ (pins:List (Addr×Obj)) (s:Shared) (σ:St) (H:Hp) (o i v:V) (ov iv u:Value) (Q:Hp->Prop),Inv X pins σ H s->RelV o ov->RelV i iv->RelV v u->t o i v H Q->
  wpAny (model X.prog X.w) X.A (setItem ov iv u) (fun _ s'=>∃ H',Inv X pins σ H' s'/\Q H') X.xe s
section
variable {X:Cx} {pos:Pos}
def MW (i:Nat):TG:=fun v σ H Q=>Q (σ.set i (some v)) H
theorem KA {i:Nat} {x:Str} (hN:X.N.Nodup) (hi:X.N[i]?=some x) (hx:Loc X.env.scope x) (hf:X.fn x=true\/X.env.scope.names.lookup x=some .local:=by first | exact .inl rfl | exact .inr rfl | assumption):PG X (.Name x pos) (MW i):=by
 intro pins s σ H v u Q I r h;exact wpAny_assign_Name (B0 I hN hi hx r (fun s' I'=>⟨_,H,I',h⟩) hf)
def Sz:TGs:=fun vs σ H Q=>vs=[]/\Q σ H
def Q3 (t:TG) (u:TGs):TGs:=fun vs σ H Q=>∃ v r,vs=v :: r/\t v σ H fun σ' H'=>u r σ' H' Q
theorem KB:PGs X [] Sz:=by
 intro pins s σ H vs us Q I r h;obtain ⟨e,h⟩:=h;subst e;cases r
 exact assignInOrder_nil ⟨σ,H,I,h⟩
theorem Hb {e:Expr} {es:List Expr} {t:TG} {u:TGs} (h1:PG X e t) (h2:PGs X es u)
  (hs:(kg (e :: es) X.env).map (·.2)=assign e X.env :: (kg es X.env).map (·.2):=by rfl):PGs X (e :: es) (Q3 t u):=by
 intro pins s σ H vs us Q I r h;obtain ⟨v,vr,e1,h⟩:=h;subst e1;cases r with
 | cons r rr=>
  rw [hs];refine assignInOrder_cons (thn (h1 pins s σ H _ _ _ I r h) fun _ s1 ⟨σ1,H1,I1,q1⟩=>?_);exact h2 pins s1 σ1 H1 _ _ Q I1 rr q1
def Q4 (K:ag) (n:Nat) (t:TGs):TG:=fun v σ H Q=>∃ a xs,v=.ref a/\SqT K H a xs/\xs.length=n/\t xs σ H Q
theorem NA {es:List Expr} {k:Nat} {t:TGs} {n:Nat} (hc:X.calm=true) (h:PGs X es t)
  (hn:(kg es X.env).length=n:=by rfl) (hst:(kg es X.env).findIdx? (·.1)=none:=by rfl):PG X (.Tuple es k pos) (Q4 X.K n t):=by
 intro pins s σ H v u Q I r hw;obtain ⟨a,xs,e1,hq,hl,hw⟩:=hw;subst e1;cases r
 obtain ⟨its,rv,ht,hz⟩:=I.tuple hq;refine assign_Tuple_tuple (I.ok.hd hc) ht (by simp [hn,<- hl,rv.length]) hst fun h' hx=>?_;have I1:Inv X pins σ H { s with heap:=h' }:=I.kept (t':=s.toks) fun b o e=>hx b o (ba (ak e)) e;exact h pins _ σ H xs _ Q I1 (by simpa using rv) hw
def Q5 (te:TE) (g:TG):TS:=fun D σ H=>te σ H fun x H1=>g x σ H1 D.nx
theorem NB {tg e:Expr} {te:TE} {g:TG} (he:PE X e te) (hg:PG X tg g) (hs:swapsWithSole [tg] e pos.line X.env=pure false:=by rfl) (hw:swappedStores [tg] e X.env=pure none:=by rfl)
  (h1:(kg [tg] X.env).map (·.2)=[assign tg X.env]:=by rfl):PS X (.Assign [tg] e pos) (Q5 te g):=by
 intro pins s σ H D I h;refine wpAny_Assign_stores (thn (he pins s σ H _ I h) fun v s1 hz=>?_) hs hw;obtain ⟨x,H1,I1,r1,q1⟩:=hz;rw [h1];exact thn (hg pins s1 σ H1 x v _ I1 r1 q1) fun _ s2 q=>q
theorem NC {i:Nat} {x:Str} {e:Expr} {te:TE} {pos':Pos} (hN:X.N.Nodup) (hi:X.N[i]?=some x) (hx:Loc X.env.scope x) (he:PE X e te) (hs:swapsWith e (some (.Name x pos')) pos.line X.env=pure false:=by rfl) (hf:X.fn x=true\/X.env.scope.names.lookup x=some .local:=by first | exact .inl rfl | exact .inr rfl | assumption):
  PS X (.Assign [.Name x pos'] e pos) (Q5 te (MW i)):=by
 intro pins s σ H D I h;refine wpAny_Assign_Name (thn (he pins s σ H _ I h) fun v s1 hz=>?_) hs;obtain ⟨y,H1,I1,r1,q1⟩:=hz;exact B0 I1 hN hi hx r1 (fun s2 I2=>⟨_,H1,I2,q1⟩) hf
end
section
variable {X:Cx} {pos:Pos}
def ND (c:TT) (tb:TS):TS:=fun D σ H=>∃ W:Nat->St->Hp->Prop,(∃ m,W m σ H)/\∀ m σ H,W m σ H->
 c σ H fun b H1=>if b=true then ∃ N:St->Hp->Prop,(∀ σ' H',N σ' H'->∃ m',m' < m/\W m' σ' H')/\tb { D with nx:=N,ct:=N,bk:=D.nx } σ H1 else D.nx σ H1
theorem Hc {c:Expr} {body:List Stmt} {tc:TT} {tb:TS} (hp:PassesOwn (model X.prog X.w) X.A X.env X.xe) (hc:PT X c tc) (hb:PSs X body tb):PS X (.While c body [] pos) (ND tc tb):=by
 intro pins s σ H D I h;obtain ⟨W,⟨m0,w0⟩,turn⟩:=h;refine wpAny_While (codeAny_whileLoop (fun n s'=>∃ σ' H',Inv X pins σ' H' s'/\W n σ' H') ?_ m0 ⟨σ,H,I,w0⟩);rintro n s1 ⟨σ1,H1,I1,w1⟩;refine k7 hp (thn (hc pins s1 σ1 H1 _ I1 (turn n σ1 H1 w1)) fun b s2 ⟨H2,I2,q2⟩=>?_);cases b with
 | true=>
  obtain ⟨N,hN,q2⟩:=q2;rw [if_pos rfl];refine k7 hp (thn (hb pins s2 σ1 H2 _ I2 q2) fun f s3 q3=>?_);cases f with
  | next=>
   obtain ⟨σ3,H3,I3,n3⟩:=q3;obtain ⟨m',hm,w3⟩:=hN σ3 H3 n3;exact ⟨m',hm,σ3,H3,I3,w3⟩
  | cont=>
   obtain ⟨σ3,H3,I3,n3⟩:=q3;obtain ⟨m',hm,w3⟩:=hN σ3 H3 n3;exact ⟨m',hm,σ3,H3,I3,w3⟩
  | brk=>exact q3
  | ret v=>exact q3
 | false=>
  rw [if_neg bp];exact wpAny_execs_nil ⟨σ1,H2,I2,q2⟩
end
structure It where
 go:Nat->Hp->Prop
 yld:Nat->Hp->V->Hp->Prop
 stop:Nat->Hp->Prop
def B1 (X:Cx) (pins:List (Addr×Obj)) (H:Hp) (b:Addr):Prop:=
 H b=none/\b≠X.env.locals/\b∉X.fs/\(b∈X.ex\/X.s₀.heap.objs.size<=b)/\(∀ x c,X.env.cells.lookup x=some c->c≠b)/\∀ p∈X.pn++pins,p.1≠b
theorem Inv.fpOk {X:Cx} {pins:List (Addr×Obj)} {σ:St} {H H':Hp} {s:Shared} {b:Addr} (I:Inv X pins σ H s) (hb:s.heap.objs.size<=b) (hn:H' b=none):B1 X pins H' b:=by
 refine ⟨hn,ft (bz I.lt hb),I.nofs hb,.inr (gg I.sz hb),fun x c e z=>?_,fun p hp z=>?_⟩
 ·obtain ⟨v,q⟩:=I.cell x c e;exact absurd (bz q.lt (by rw [z]; exact hb)) (fu _)
 ·exact absurd (bz (ak (I.pin p hp).1) (by rw [z]; exact hb)) (fu _)
structure Turn (P:Program) (w:World) (K:ag) (tg:Expr) (J:It) (fp:List Addr) (it:Addr) (tn:Nat->Heap->Prop):Prop where
 mem:it∈fp
 obj:∀ i h,tn i h->∀ b∈fp,∃ o,h.get? b=some o/\∀ v,o.data≠.cell v
 keep:∀ i h h',tn i h->(∀ b∈fp,∀ o,h.get? b=some o->h'.get? b=some o)->tn i h'
 item:∀ (X:Cx),X.prog=P->X.w=w->X.K=K->X.calm=true->∀ (i:Nat) (pins:List (Addr×Obj)) (s:Shared) (σ:St) (H:Hp) (E:Value->Shared->Prop),Inv X pins σ H s->(∀ b∈fp,B1 X pins H b)->tn i s.heap->J.go i H->
  wpAny (model P w) X.A (pyNext (.ref it)) (fun r s1=>∃ u,r=some u/\
   wpAny (model P w) X.A (letOwnedTupleGo tg (.ref it) u) (fun _ s2=>∃ x H',Inv X pins σ H' s2/\RelV x u/\J.yld i H x H'/\tn (i+1) s2.heap/\∀ b∈fp,H' b=none) E s1) E s
 done:∀ (X:Cx),X.prog=P->X.w=w->X.K=K->X.calm=true->∀ (i:Nat) (pins:List (Addr×Obj)) (s:Shared) (σ:St) (H:Hp) (E:Value->Shared->Prop),Inv X pins σ H s->(∀ b∈fp,B1 X pins H b)->tn i s.heap->J.stop i H->
  wpAny (model P w) X.A (pyNext (.ref it)) (fun r s1=>r=none/\Inv X pins σ H s1) E s
 self:∀ (A:Around) (i:Nat) (s:Shared) (Q:Value->Shared->Prop) (E:Value->Shared->Prop),tn i s.heap->Q (.ref it) s->wpAny (model P w) A (pyIter (.ref it)) Q E s
abbrev TI:=St->Hp->(It->Hp->Prop)->Prop
def PIE (X:Cx) (pins:List (Addr×Obj)) (σ:St) (tg:Expr) (R:It->Hp->Prop) (itv:Value) (s2:Shared):Prop:=
 ∃ (it:Addr) (fp:List Addr) (tn:Nat->Heap->Prop) (J:It) (H':Hp),itv=.ref it/\Inv X pins σ H' s2/\Turn X.prog X.w X.K tg J fp it tn/\tn 0 s2.heap/\(∀ b∈fp,B1 X pins H' b)/\R J H'
def PI (X:Cx) (tg iter:Expr) (wi:TI):Prop:=
 ∀ (pins:List (Addr×Obj)) (s:Shared) (σ:St) (H:Hp) (R:It->Hp->Prop),Inv X pins σ H s->wi σ H R->
  wpAny (model X.prog X.w) X.A (eval iter X.env) (fun v s1=>wpAny (model X.prog X.w) X.A (pyIter v) (PIE X pins σ tg R) X.xe s1) X.xe s
theorem Ex {M:Model} {A:Around} {E:Value->Shared->Prop} {s:Shared} {tg:Expr} {it:Addr} {u:Value} {o:Obj} {n:String} {vs:Array Value} {Q:Unit->Shared->Prop} (ho:s.heap.get? it=some o) (hc:o.cls=.type n) (hd:o.data=.fields vs)
  (hn:["enumerate","zip","dict_itemiterator","dict_reverseitemiterator","odict_iterator","itertools.zip_longest","itertools.pairwise"].contains n=false) (hQ:Q () s):wpAny M A (letOwnedTupleGo tg (.ref it) u) Q E s:=by
 unfold letOwnedTupleGo;cases tg <;> first
  | exact ab hQ
  | (cases u <;> first
    | exact ab hQ
    | (refine aa (wpAny_load ho ?_)
       rw [hc,hd]
       show wpAny M A (if (["enumerate","zip","dict_itemiterator","dict_reverseitemiterator","odict_iterator","itertools.zip_longest","itertools.pairwise"].contains n && vs[0]? == some (rawInt _))=true then _ else _) Q E s
       rw [if_neg (by intro h; rw [hn,Bool.false_and] at h; cases h)];exact ab hQ))
def Itl (K:ag) (a:Addr):It:=
 ⟨fun i H=>∃ xs x,SqL K H a xs/\xs[i]?=some x,fun i H x H'=>H'=H/\∀ xs,SqL K H a xs->xs[i]?=some x,fun i H=>∃ xs,SqL K H a xs/\xs.length<=i⟩
def Itt (K:ag) (a:Addr):It:=
 ⟨fun i H=>∃ xs x,SqT K H a xs/\xs[i]?=some x,fun i H x H'=>H'=H/\∀ xs,SqT K H a xs->xs[i]?=some x,fun i H=>∃ xs,SqT K H a xs/\xs.length<=i⟩
def Itr (lo:Int) (n:Nat):It:=⟨fun i _=>i < n,fun i H x H'=>H'=H/\x=.int (lo+i),fun i _=>n<=i⟩
theorem xY {P:Program} {w:World} {K:ag} {tg:Expr} (a it:Addr):Turn P w K tg (Itl K a) [it] it (fun i h=>h.IsListIter it a i) where
 mem:=by simp
 obj:=fun i h st b hb=>by
  have e:b=it:=by simpa using hb
  subst e;obtain ⟨o,e,c,d⟩:=st;exact ⟨o,e,fun v z=>by rw [d] at z; cases z⟩
 keep:=fun i h h' st k=>st.at fun o e=>k it (by simp) o e
 item:=by
  intro X hP hw hK hc i pins s σ H E I hf st hg;subst hP hw hK;obtain ⟨xs,x,hq,hx⟩:=hg;obtain ⟨its,rv,p,hz⟩:=I.list hq;obtain ⟨u,hu,ru⟩:=rv.get hx;obtain ⟨f0,f1,f2,f3,f4,f5⟩:=hf it (by simp);refine wpAny_pyNext_list_item st p.isList (x:=u) (by simpa using hu) fun h' st' sb=>?_
  have I1:Inv X pins σ H { s with heap:=h' }:=I.turned (t':=s.toks) (fun b o hb e=>(sb.2 b hb).trans e) f0 f1 f3 f4 f5;obtain ⟨o,e,c,d⟩:=id st';exact ⟨u,rfl,Ex (s:={ s with heap:=h' }) e c d (by decide) ⟨x,H,I1,ru,⟨rfl,fun ys hy=>by rw [I.list_inj hy hq]; exact hx⟩,st',fun b hb=>(hf b hb).1⟩⟩
 done:=by
  intro X hP hw hK hc i pins s σ H E I hf st hg;subst hP hw hK;obtain ⟨xs,hq,hx⟩:=hg;obtain ⟨its,rv,p,hz⟩:=I.list hq;obtain ⟨f0,f1,f2,f3,f4,f5⟩:=hf it (by simp);have hl:=rv.length;exact wpAny_pyNext_list_end (I.ok.hd hc) st p.isList (by simp; omega) fun h' eb=>⟨rfl,I.turned (t':=s.toks) (fun b o hb e=>eb b o hb e) f0 f1 f3 f4 f5⟩
 self:=fun _ _ _ _ _ st h=>wpAny_pyIter_listiter st h
theorem CU {P:Program} {w:World} {K:ag} {tg:Expr} (a it:Addr):Turn P w K tg (Itt K a) [it] it (fun i h=>h.IsTupleIter it a i) where
 mem:=by simp
 obj:=fun i h st b hb=>by
  have e:b=it:=by simpa using hb
  subst e;obtain ⟨o,e,c,d⟩:=st;exact ⟨o,e,fun v z=>by rw [d] at z; cases z⟩
 keep:=fun i h h' st k=>st.at fun o e=>k it (by simp) o e
 item:=by
  intro X hP hw hK hc i pins s σ H E I hf st hg;subst hP hw hK;obtain ⟨xs,x,hq,hx⟩:=hg;obtain ⟨its,rv,p,hz⟩:=I.tuple hq;obtain ⟨u,hu,ru⟩:=rv.get hx;obtain ⟨f0,f1,f2,f3,f4,f5⟩:=hf it (by simp);refine wpAny_pyNext_tuple_item st (show s.heap.IsTuple a its.toArray from p) (x:=u) (by simpa using hu) fun h' st' sb=>?_
  have I1:Inv X pins σ H { s with heap:=h' }:=I.turned (t':=s.toks) (fun b o hb e=>(sb.2 b hb).trans e) f0 f1 f3 f4 f5;obtain ⟨o,e,c,d⟩:=id st';exact ⟨u,rfl,Ex (s:={ s with heap:=h' }) e c d (by decide) ⟨x,H,I1,ru,⟨rfl,fun ys hy=>by rw [I.tuple_inj hy hq]; exact hx⟩,st',fun b hb=>(hf b hb).1⟩⟩
 done:=by
  intro X hP hw hK hc i pins s σ H E I hf st hg;subst hP hw hK;obtain ⟨xs,hq,hx⟩:=hg;obtain ⟨its,rv,p,hz⟩:=I.tuple hq;obtain ⟨f0,f1,f2,f3,f4,f5⟩:=hf it (by simp);have hl:=rv.length;exact wpAny_pyNext_tuple_end (I.ok.hd hc) st (show s.heap.IsTuple a its.toArray from p) (by simp; omega) fun h' eb=>⟨rfl,I.turned (t':=s.toks) (fun b o hb e=>eb b o hb e) f0 f1 f3 f4 f5⟩
 self:=fun _ _ _ _ _ st h=>wpAny_pyIter_tupleiter st h
theorem CV {P:Program} {w:World} {K:ag} {tg:Expr} (it:Addr) (lo:Int) (n:Nat):Turn P w K tg (Itr lo n) [it] it (fun i h=>IsRangeIter h it (lo+(i:Nat)*1) ((n:Int) - (i:Nat)) 1) where
 mem:=by simp
 obj:=fun i h st b hb=>by
  have e:b=it:=by simpa using hb
  subst e;exact ⟨_,st,fun v z=>by
   have z':Data.fields _=Data.cell v:=z;cases z'⟩
 keep:=fun i h h' st k=>k it (by simp) _ st
 item:=by
  intro X hP hw hK hc i pins s σ H E I hf st hg;subst hP hw hK;obtain ⟨f0,f1,f2,f3,f4,f5⟩:=hf it (by simp);have W:=Walks.range (prog:=X.prog) (w:=X.w) (I.ok.hd hc) it lo 1 n;refine W.item i s _ _ hg st fun v h' tk hv st' kk=>?_;obtain ⟨t,rfl⟩:=hv;have I1:Inv X pins σ H { s with heap:=h',toks:=tk }:=I.turned (fun b o hb e=>kk b o (by simpa using hb) e) f0 f1 f3 f4 f5
  refine ⟨_,rfl,Ex (s:={ s with heap:=h',toks:=tk }) (n:="range_iterator") st' rfl rfl (by decide) ⟨.int (lo+i),H,I1,⟨t,?_⟩,⟨rfl,rfl⟩,st',fun b hb=>(hf b hb).1⟩⟩;rw [Int.mul_one]
 done:=by
  intro X hP hw hK hc i pins s σ H E I hf st hg;subst hP hw hK;obtain ⟨f0,f1,f2,f3,f4,f5⟩:=hf it (by simp);exact wpAny_pyNext_range_end (I.ok.hd hc) st (by have:n<=i:=hg; omega) fun h' eb=>⟨rfl,I.turned (t':=s.toks) (fun b o hb e=>eb b o hb e) f0 f1 f3 f4 f5⟩
 self:=fun _ _ _ _ _ st h=>wpAny_pyIter_rangeiter st h
section
variable {X:Cx} {tg:Expr}
theorem B2 {pins:List (Addr×Obj)} {σ:St} {H:Hp} {s:Shared} {R:It->Hp->Prop} {E:Value->Shared->Prop} {lo hi:Int} {t u v:Tok} {tk:Nat} (I:Inv X pins σ H s) (h1:-(2 ^ 62)<=lo) (h2:lo < 2 ^ 62) (h3:-(2 ^ 62)<=hi) (h4:hi < 2 ^ 62)
  (q:R (Itr lo (hi - lo).toNat) H):wpAny (model X.prog X.w) X.A (pyIter (.ref s.heap.objs.size)) (PIE X pins σ tg R) E { s with heap:=s.heap.push { cls:=.type "range",data:=.fields #[.int lo t,.int hi u,.int 1 v] },toks:=tk }:=by
 refine wpAny_pyIter_range (IsRange.new ..) (small_one h1 h2 h3 h4) ?_;have I1:Inv X pins σ H { s with heap:=s.heap.push { cls:=.type "range",data:=.fields #[.int lo t,.int hi u,.int 1 v] },toks:=tk }:=I.kept fun b o e=>ae _ e;refine ⟨(s.heap.push { cls:=.type "range",data:=.fields #[.int lo t,.int hi u,.int 1 v] }).objs.size,[(s.heap.push { cls:=.type "range",data:=.fields #[.int lo t,.int hi u,.int 1 v] }).objs.size],_,_,H,rfl,
  I1.kept (t':=tk) fun b o e=>ae _ e,CV _ lo (hi - lo).toNat,?_,fun b hb=>?_,q⟩
 ·have e1:lo+((0:Nat):Int)*1=lo:=by simp
  have e2:(((hi - lo).toNat:Nat):Int) - ((0:Nat):Int)=Builtin.Range.rangeSize lo hi 1:=by rw [rangeSize_one]; split <;> omega
  show IsRangeIter _ _ (lo+((0:Nat):Int)*1) ((((hi - lo).toNat:Nat):Int) - ((0:Nat):Int)) 1
  rw [e1,e2];exact aj _ rfl
 ·have e:b=(s.heap.push { cls:=.type "range",data:=.fields #[.int lo t,.int hi u,.int 1 v] }).objs.size:=by simpa using hb
  subst e;exact I1.fpOk (az _) (I1.hok.fresh (az _))
def SB (wi:TI) (g:TG) (tb:TS):TS:=fun D σ H=>wi σ H fun J H1=>∃ W:Nat->Nat->St->Hp->Prop,(∃ m,W 0 m σ H1)/\∀ i m σ H,W i m σ H->
 (J.stop i H/\D.nx σ H)\/(J.go i H/\∃ N:St->Hp->Prop,(∀ σ' H',N σ' H'->∃ m',m' < m/\W (i+1) m' σ' H')/\∀ x H',J.yld i H x H'->g x σ H' fun σ2 H2=>tb { D with nx:=N,ct:=N,bk:=D.nx } σ2 H2)
def tR (fp:List Addr) (h:Heap):List (Addr×Obj):=fp.filterMap fun b=>(h.get? b).map fun o=>(b,o)
theorem iQ {fp:List Addr} {h:Heap} {b:Addr} {o:Obj} (hb:b∈fp) (e:h.get? b=some o):(b,o)∈tR fp h:=List.mem_filterMap.mpr ⟨b,hb,by rw [e]; rfl⟩
theorem Fv {fp:List Addr} {h:Heap} {p:Addr×Obj} (hp:p∈tR fp h):p.1∈fp/\h.get? p.1=some p.2:=by
 obtain ⟨b,hb,e⟩:=List.mem_filterMap.mp hp;cases q:h.get? b with
 | none=>rw [q] at e; cases e
 | some o=>
  rw [q] at e;have e':(b,o)=p:=b8 e;subst e';exact ⟨hb,q⟩
theorem Inv.pinned {pins:List (Addr×Obj)} {σ:St} {H:Hp} {s:Shared} {fp:List Addr} (I:Inv X pins σ H s) (hf:∀ b∈fp,B1 X pins H b) (ho:∀ b∈fp,∃ o,s.heap.get? b=some o/\∀ v,o.data≠.cell v):Inv X (pins++tR fp s.heap) σ H s:=
 I.pins_of fun p hp=>(bh.mp hp).elim (fun z=>I.pin p (ah _ z)) fun z=>by
  obtain ⟨hb,e⟩:=Fv z;obtain ⟨f0,f1,f2,_⟩:=hf p.1 hb;obtain ⟨o,e',d⟩:=ho p.1 hb;rw [e] at e'; cases e';exact ⟨e,f0,f1,f2,d⟩
theorem Inv.unpinned {pins pl:List (Addr×Obj)} {σ:St} {H:Hp} {s:Shared} (I:Inv X (pins++pl) σ H s):Inv X pins σ H s:=I.pins_of fun p hp=>I.pin p (ah _ (cu _ hp))
theorem NF {iter:Expr} {body:List Stmt} {wi:TI} {g:TG} {tb:TS} {pos:Pos} (hp:PassesOwn (model X.prog X.w) X.A X.env X.xe) (hc:X.calm=true) (hi:PI X tg iter wi) (hg:PG X tg g) (hb:PSs X body tb)
  (hs:∀ x,n9 iter X.env x=pure x:=by intro _; rfl):PS X (.For tg iter body [] pos) (SB wi g tb):=by
 intro pins s σ H D I h;refine wpAny_For (thn (hi pins s σ H _ I h) fun v s1 h1=>thn h1 fun itv s2 h2=>?_) hs;obtain ⟨it,fp,tn,J,H2,e,I2,T,st2,f2,W,⟨m0,w0⟩,turn⟩:=h2;subst e
 -- what stays true of the iterator's objects through the loop
 have stat:∀ {H':Hp},(∀ b∈fp,H' b=none)->∀ b∈fp,B1 X pins H' b:=fun hn b hb=>⟨hn b hb,(f2 b hb).2⟩;refine codeAny_forLoop_any (fun n s'=>∃ i σ' H',Inv X pins σ' H' s'/\tn i s'.heap/\(∀ b∈fp,H' b=none)/\W i n σ' H') ?_ m0 ⟨0,σ,H2,I2,st2,fun b hb=>(f2 b hb).1,w0⟩;rintro n s3 ⟨i,σ3,H3,I3,st3,fr3,w3⟩;rcases turn i n σ3 H3 w3 with ⟨stop,qn⟩ | ⟨go,N,hN,step⟩
 ·refine k7 hp (thn (T.done X rfl rfl rfl hc i pins s3 σ3 H3 X.xe I3 (stat fr3) st3 stop) fun r s4 ⟨hr,I4⟩=>?_);subst hr;exact wpAny_execs_nil ⟨σ3,H3,I4,qn⟩
 ·refine k7 hp (thn (T.item X rfl rfl rfl hc i pins s3 σ3 H3 X.xe I3 (stat fr3) st3 go) fun r s4 ⟨u,hr,h4⟩=>?_);subst hr;refine k7 hp (thn h4 fun _ s5 hz=>?_);obtain ⟨x,H5,I5,r5,y5,st5,fr5⟩:=hz;have I5':=I5.pinned (stat fr5) (T.obj _ _ st5);refine k7 hp (thn (hg _ s5 σ3 H5 x u _ I5' r5 (step x H5 y5)) fun _ s6 ⟨σ6,H6,I6,q6⟩=>?_);refine k7 hp (thn (hb _ s6 σ6 H6 _ I6 q6) fun f s7 q7=>?_);have again:∀ {σ7:St} {H7:Hp},Inv X (pins++tR fp s5.heap) σ7 H7 s7->N σ7 H7->∃ m,m < n/\∃ i σ' H',Inv X pins σ' H' s7/\tn i s7.heap/\(∀ b∈fp,H' b=none)/\W i m σ' H':=fun {σ7 H7} I7 n7=>by
   obtain ⟨m',hm,w7⟩:=hN σ7 H7 n7;refine ⟨m',hm,i+1,σ7,H7,I7.unpinned,T.keep _ _ _ st5 fun b hb o e=>(I7.pin (b,o) (ah _ (ah _ (iQ hb e)))).1,fun b hb=>?_,w7⟩;obtain ⟨o,e,d⟩:=T.obj _ _ st5 b hb;exact (I7.pin (b,o) (ah _ (ah _ (iQ hb e)))).2.1
  cases f with
  | next=>obtain ⟨σ7,H7,I7,n7⟩:=q7; exact again I7 n7
  | cont=>obtain ⟨σ7,H7,I7,n7⟩:=q7; exact again I7 n7
  | brk=>obtain ⟨σ7,H7,I7,q7⟩:=q7; exact ⟨σ7,H7,I7.unpinned,q7⟩
  | ret v=>obtain ⟨x7,σ7,H7,I7,r7,q7⟩:=q7; exact ⟨x7,σ7,H7,I7.unpinned,r7,q7⟩
end
abbrev R2:=V->V->Hp->VK->Prop
def OpR (X:Cx) (f:Value->Value->Sem Value) (r:R2):Prop:=
 ∀ (pins:List (Addr×Obj)) (s:Shared) (σ:St) (H:Hp) (x y:V) (v u:Value) (Q:VK),Inv X pins σ H s->RelV x v->RelV y u->r x y H Q->
  wpAny (model X.prog X.w) X.A (f v u) (EP X pins σ Q) X.xe s
def UnR (X:Cx) (f:Value->Sem Value) (r:V->Hp->VK->Prop):Prop:=
 ∀ (pins:List (Addr×Obj)) (s:Shared) (σ:St) (H:Hp) (x:V) (v:Value) (Q:VK),Inv X pins σ H s->RelV x v->r x H Q->
  wpAny (model X.prog X.w) X.A (f v) (EP X pins σ Q) X.xe s
def cJ (X:Cx) (f:Value) (r:List V->Hp->VK->Prop):Prop:=
 ∀ (pins:List (Addr×Obj)) (s:Shared) (σ:St) (H:Hp) (xs:List V) (us:List Value) (Q:VK),Inv X pins σ H s->aN xs us->r xs H Q->
  wpAny (model X.prog X.w) X.A (call f us) (EP X pins σ Q) X.xe s
def SC (X:Cx) (r:V->Hp->(Bool->Hp->Prop)->Prop):Prop:=
 ∀ (pins:List (Addr×Obj)) (s:Shared) (σ:St) (H:Hp) (x:V) (v:Value) (Q:Bool->Hp->Prop),Inv X pins σ H s->RelV x v->r x H Q->
  wpAny (model X.prog X.w) X.A (truthy v) (TP X pins σ Q) X.xe s
def tOp (r:R2) (ta tb:TE):TE:=fun σ H Q=>ta σ H fun x H1=>tb σ H1 fun y H2=>r x y H2 Q
def tUn (r:V->Hp->VK->Prop) (ta:TE):TE:=fun σ H Q=>ta σ H fun x H1=>r x H1 Q
def rI (C:Int->Int->Prop) (g:Int->Int->V):R2:=fun x y H Q=>∃ i j,x=.int i/\y=.int j/\C i j/\Q (g i j) H
def rI0 (g:Int->Int->V):R2:=fun x y H Q=>∃ i j,x=.int i/\y=.int j/\Q (g i j) H
def rU (g:Int->V):V->Hp->VK->Prop:=fun x H Q=>∃ i,x=.int i/\Q (g i) H
section
variable {X:Cx} {a b c:Expr} {ta tb tc:TE} {pos:Pos}
theorem NG (ha:PE X a ta) (hb:PE X b tb) {pins:List (Addr×Obj)} {s:Shared} {σ:St} {H:Hp} {R:V->V->Hp->Prop} (I:Inv X pins σ H s)
  (h:ta σ H fun x H1=>tb σ H1 fun y H2=>R x y H2) {Q:Value->Shared->Prop} {f:Value->Value->Sem Value}
  (hf:∀ v u s2 x y H2,Inv X pins σ H2 s2->RelV x v->RelV y u->R x y H2->wpAny (model X.prog X.w) X.A (f v u) Q X.xe s2):
  wpAny (model X.prog X.w) X.A (eval a X.env) (fun v s₁=>wpAny (model X.prog X.w) X.A (eval b X.env) (fun u s₂=>wpAny (model X.prog X.w) X.A (f v u) Q X.xe s₂) X.xe s₁) X.xe s:=by
 refine thn (ha pins s σ H _ I h) fun v s1 hz=>?_;obtain ⟨x,H1,I1,r1,q1⟩:=hz;refine thn (hb pins s1 σ H1 _ I1 q1) fun u s2 hz=>?_;obtain ⟨y,H2,I2,r2,q2⟩:=hz;exact hf v u s2 x y H2 I2 r1 r2 q2
theorem Q6 {op:Operator} {r:R2} (ho:OpR X (gw op) r) (ha:PE X a ta) (hb:PE X b tb):PE X (.BinOp a op b pos) (tOp r ta tb):=by
 intro pins s σ H Q I h;exact wpAny_BinOp (NG ha hb I h fun v u s2 x y H2 I2 rx ry q=>ho pins s2 σ H2 x y v u Q I2 rx ry q)
theorem Q7 {op:UnaryOp} {r:V->Hp->VK->Prop} (ho:UnR X (unaryOp op) r) (ha:PE X a ta):PE X (.UnaryOp op a pos) (tUn r ta):=by
 intro pins s σ H Q I h;exact UnaryOp_ (thn (ha pins s σ H _ I h) fun v s1 ⟨x,H1,I1,r1,q1⟩=>ho pins s1 σ H1 x v Q I1 r1 q1)
theorem opI {f:Value->Value->Sem Value} {C:Int->Int->Prop} {g:Int->Int->Int}
  (rule:∀ (i j:Int) (t u:Tok) (s:Shared) (Q:Value->Shared->Prop) (E:Value->Shared->Prop),C i j->Q (.int (g i j) s.toks) { s with toks:=s.toks+1 }->wpAny (model X.prog X.w) X.A (f (.int i t) (.int j u)) Q E s):
  OpR X f (rI C fun i j=>.int (g i j)):=by
 intro pins s σ H x y v u Q I rx ry h;obtain ⟨i,j,rfl,rfl,hc,q⟩:=h;obtain ⟨t,rfl⟩:=rx;obtain ⟨t',rfl⟩:=ry;exact rule i j t t' s _ _ hc ⟨.int (g i j),H,I.tok _,⟨_,rfl⟩,q⟩
theorem Q8 {f:Value->Value->Sem Value} {g:Int->Int->Int}
  (rule:∀ (i j:Int) (t u:Tok) (s:Shared) (Q:Value->Shared->Prop) (E:Value->Shared->Prop),Q (.int (g i j) s.toks) { s with toks:=s.toks+1 }->wpAny (model X.prog X.w) X.A (f (.int i t) (.int j u)) Q E s):
  OpR X f (rI0 fun i j=>.int (g i j)):=by
 intro pins s σ H x y v u Q I rx ry h;obtain ⟨i,j,rfl,rfl,q⟩:=h;obtain ⟨t,rfl⟩:=rx;obtain ⟨t',rfl⟩:=ry;exact rule i j t t' s _ _ ⟨.int (g i j),H,I.tok _,⟨_,rfl⟩,q⟩
theorem SD {f:Value->Value->Sem Value} {g:Int->Int->Bool}
  (rule:∀ (i j:Int) (t u:Tok) (s:Shared) (Q:Value->Shared->Prop) (E:Value->Shared->Prop),Q (.bool (g i j)) s->wpAny (model X.prog X.w) X.A (f (.int i t) (.int j u)) Q E s):
  OpR X f (rI0 fun i j=>.bl (g i j)):=by
 intro pins s σ H x y v u Q I rx ry h;obtain ⟨i,j,rfl,rfl,q⟩:=h;obtain ⟨t,rfl⟩:=rx;obtain ⟨t',rfl⟩:=ry;exact rule i j t t' s _ _ ⟨.bl (g i j),H,I,rfl,q⟩
def Hd (i j:Int):Prop:=0 < j/\j < 1073741824
def Fw (i j:Int):Prop:=0<=j/\j<=1000000/\i.natAbs < 2 ^ 64
def B3 (i j:Int):Prop:=(-(2 ^ 64) < i/\i < 2 ^ 64)\/(-(2 ^ 64) < j/\j < 2 ^ 64)
theorem B3.ok {i j:Int} (h:B3 i j):IntMulOk i j:=by
 rcases h with ⟨h1,h2⟩ | ⟨h1,h2⟩
 ·exact .of_left (intBits_le_64 h1 h2)
 ·exact .of_right (intBits_le_64 h1 h2)
theorem NH:OpR X (gw .Add) (rI0 fun i j=>.int (i+j)):=Q8 fun _ _ _ _ _ _ _ q=>add_int q
theorem NI:OpR X (gw .Sub) (rI0 fun i j=>.int (i - j)):=Q8 fun _ _ _ _ _ _ _ q=>sub_int q
theorem NJ:OpR X (gw .Mult) (rI B3 fun i j=>.int (i*j)):=opI fun _ _ _ _ _ _ _ hc q=>mul_int q hc.ok
theorem KC:OpR X (gw .FloorDiv) (rI Hd fun i j=>.int (i / j)):=opI fun i j _ _ _ _ _ hc q=>by
 have h1:(0:Int) < j:=hc.1;have h2:j < 1073741824:=hc.2;exact floordiv_int (by omega) (by rw [Int.fdiv_eq_ediv_of_nonneg i (by omega)]; exact q) (.inl (PyProof.noPylong_small (by omega)))
theorem NK:OpR X (gw .Mod) (rI (fun _ j=>0 < j) fun i j=>.int (i % j)):=opI fun i j _ _ _ _ _ hc q=>by
 have h1:(0:Int) < j:=hc;exact mod_int' (by omega) (by rw [Int.fmod_eq_emod_of_nonneg i (by omega)]; exact q)
theorem NL:OpR X (gw .Pow) (rI Fw fun i j=>.int (i ^ j.toNat)):=opI fun _ _ _ _ _ _ _ hc q=>pow_int_small hc.1 hc.2.1 hc.2.2 q
theorem unI {f:Value->Sem Value} {g:Int->Int}
  (rule:∀ (i:Int) (t:Tok) (s:Shared) (Q:Value->Shared->Prop) (E:Value->Shared->Prop),Q (.int (g i) s.toks) { s with toks:=s.toks+1 }->wpAny (model X.prog X.w) X.A (f (.int i t)) Q E s):
  UnR X f (rU fun i=>.int (g i)):=by
 intro pins s σ H x v Q I rx h;obtain ⟨i,rfl,q⟩:=h;obtain ⟨t,rfl⟩:=rx;exact rule i t s _ _ ⟨.int (g i),H,I.tok _,⟨_,rfl⟩,q⟩
theorem NM:UnR X (unaryOp .USub) (rU fun i=>.int (-i)):=unI fun _ _ _ _ _ q=>neg_int q
end
section
variable {X:Cx} {a b c:Expr} {ta tb tc:TE} {pos:Pos}
theorem NN {pins:List (Addr×Obj)} {σ:St} {H:Hp} {s:Shared} {Q:VK} {k k':Bool} (I:Inv X pins σ H s) (q:Q (.bl k) H) (e:k=k'):EP X pins σ Q (.bool k') s:=by
 subst e;exact ⟨.bl k,H,I,rfl,q⟩
theorem Q9:OpR X (fm .Gt) (rI0 fun i j=>.bl (decide (j < i))):=SD fun _ _ _ _ _ _ _ q=>gt_int q
theorem OpR.or {f:Value->Value->Sem Value} {r r':R2} (h:OpR X f r) (h':OpR X f r'):OpR X f (fun x y H Q=>r x y H Q\/r' x y H Q):=by
 intro pins s σ H x y v u Q I rx ry q;rcases q with q | q
 ·exact h pins s σ H x y v u Q I rx ry q
 ·exact h' pins s σ H x y v u Q I rx ry q
theorem He (b:Expr) {op:CmpOp} (h:op≠.In:=by decide) (h2:op≠.NotIn:=by decide):behindInMarks op b=false:=by
 have e1:(op == CmpOp.In)=false:=by cases op <;> first | rfl | exact absurd rfl h
 have e2:(op == CmpOp.NotIn)=false:=by cases op <;> first | rfl | exact absurd rfl h2
 cases b <;> simp [behindInMarks,e1,e2]
theorem KD {op:CmpOp} {r:R2} (ho:OpR X (fm op) r) (ha:PE X a ta) (hb:PE X b tb) (hm:behindInMarks op b=false):PE X (.Compare a [op] [b] pos) (tOp r ta tb):=by
 intro pins s σ H Q I h;exact wpAny_Compare1 (NG ha hb I h fun v u s2 x y H2 I2 rx ry q=>ho pins s2 σ H2 x y v u Q I2 rx ry q) hm
def KF (K:ag) (x:V) (H:Hp) (k:Bool):Prop:=
 match x with
 | .non=>k=false
 | .bl b=>k=b
 | .int i=>k=(i != 0)
 | .str y=>y.length<=aw/\k=((y.length:Int) != 0)
 | .byt y=>y.size<=aw/\k=((y.size:Int) != 0)
 | .ref p=>(∃ xs,SqL K H p xs/\k=!xs.isEmpty)\/(∃ xs,SqT K H p xs/\k=!xs.isEmpty)\/∃ kvs,H p=some (.dK kvs)/\k=!kvs.isEmpty
 | _=>False
theorem CW {κ:Type} {kvs:List (κ×V)} {vs:List (κ×Value)} (r:KV kvs vs):(!vs.isEmpty)=!kvs.isEmpty:=by
 cases r <;> rfl
theorem tS {xs:List V} {its:List Value} (r:aN xs its):(!its.toArray.isEmpty)=!xs.isEmpty:=by
 cases r <;> simp
theorem mU:(aw:Nat) < 2 ^ 63:=by rw [gd]; decide
theorem Hf:SC X (fun x H Q=>∃ k,KF X.K x H k/\Q k H):=by
 intro pins s σ H x v Q I rx h;obtain ⟨k,e,q⟩:=h;have hl:=mU;have hs:aw=16777216:=gd;cases x with
 | non=>
  cases rx
  have e':k=false:=e;subst e';exact truthy_none ⟨H,I,q⟩
 | bl b=>
  cases rx
  have e':k=b:=e;subst e';exact wpAny_truthy_bool ⟨H,I,q⟩
 | int i=>
  obtain ⟨t,rfl⟩:=rx;have e':k=(i != 0):=e;subst e';exact PySem.P.truthy_int ⟨H,I,q⟩
 | str y=>
  obtain ⟨t,rfl⟩:=rx;obtain ⟨hy,e'⟩:y.length<=aw/\k=((y.length:Int) != 0):=e;subst e';exact PySem.P.truthy_str (by omega) ⟨H,I.tok _,q⟩
 | byt y=>
  obtain ⟨t,rfl⟩:=rx;obtain ⟨hy,e'⟩:y.size<=aw/\k=((y.size:Int) != 0):=e;subst e';exact PySem.W.truthy_bytes (by omega) ⟨H,I.tok _,q⟩
 | ref p=>
  cases rx
  have e':(∃ xs,SqL X.K H p xs/\k=!xs.isEmpty)\/(∃ xs,SqT X.K H p xs/\k=!xs.isEmpty)\/∃ kvs,H p=some (.dK kvs)/\k=!kvs.isEmpty:=e;rcases e' with ⟨xs,hx,e'⟩ | ⟨xs,hx,e'⟩ | ⟨kvs,hx,e'⟩
  ·subst e';obtain ⟨its,r,pl,hz⟩:=I.list hx;have hlen:=r.length;exact wpAny_truthy_list pl.isList (by simp only [av]; omega) ⟨H,I.tok _,by rw [tS r]; exact q⟩
  ·subst e';obtain ⟨its,r,pl,hz⟩:=I.tuple hx;have hlen:=r.length;exact truthy_tuple pl (by simp only [av]; omega) ⟨H,I.tok _,by rw [tS r]; exact q⟩
  ·subst e';obtain ⟨hz,hS,vs,r,m⟩:kvs.length<=aw/\(p == iz)=false/\∃ vs,KV kvs vs/\s.heap.DictOf (cG X.prog X.w) p vs:=I.hok p _ hx;have hlen:kvs.length=vs.length:=d5 r;exact wpAny_truthy_dict hS m (by omega) ⟨H,I.tok _,by rw [CW r]; exact q⟩
 | _=>exact (show False from e).elim
theorem Hg (ha:PE X a ta) (he:∀ whole,isTrue a X.env whole=(do let v <- whole; standAt a.pos; holding [v] (truthy v))):
  PT X a (fun σ H Q=>ta σ H fun x H'=>∃ k,KF X.K x H' k/\Q k H'):=by
 intro pins s σ H Q I h
 exact isTrue_plain (thn (ha pins s σ H _ I h) fun v s1 ⟨x,H1,I1,r1,q1⟩=>Hf pins s1 σ H1 x v Q I1 r1 q1) (he _)
theorem CY:OpR X (gw .Add) (fun x y H Q=>∃ i j,x=.str i/\y=.str j/\i.length+j.length<=aw/\Q (.str (i++j)) H):=by
 intro pins s σ H x y v u Q I rx ry h;obtain ⟨i,j,rfl,rfl,hz,q⟩:=h;obtain ⟨t,rfl⟩:=rx;obtain ⟨t',rfl⟩:=ry;exact add_str (fun t' tk=>⟨.str (i++j),H,I.tok _,⟨_,rfl⟩,q⟩) hz
theorem vals1 {x:V} {us:List Value} (r:aN [x] us):∃ u,us=[u]/\RelV x u:=by
 cases r with
 | cons r1 r2=>cases r2; exact ⟨_,rfl,r1⟩
theorem vals2 {x y:V} {us:List Value} (r:aN [x,y] us):∃ u w',us=[u,w']/\RelV x u/\RelV y w':=by
 cases r with
 | cons r1 r2=>
  cases r2 with
  | cons r3 r4=>cases r4; exact ⟨_,_,rfl,r1,r3⟩
def SF (K:ag) (x:V) (H:Hp) (n:Nat):Prop:=
 match x with
 | .str y=>y.length<=aw/\n=y.length
 | .byt y=>y.size<=aw/\n=y.size
 | .ref p=>(∃ xs,SqL K H p xs/\n=xs.length)\/∃ xs,SqT K H p xs/\n=xs.length
 | _=>False
theorem Hh:cJ X (.builtin "len") (fun xs H Q=>∃ x n,xs=[x]/\SF X.K x H n/\Q (.int n) H):=by
 intro pins s σ H xs us Q I r h;obtain ⟨x,n,rfl,e,q⟩:=h;obtain ⟨u,rfl,rx⟩:=vals1 r;have hl:=mU;have hs:aw=16777216:=gd;cases x with
 | str y=>
  obtain ⟨t,rfl⟩:=rx;obtain ⟨hy,e'⟩:y.length<=aw/\n=y.length:=e;subst e';exact len_str (by omega) ⟨.int _,H,I.tok _,⟨_,rfl⟩,q⟩
 | byt y=>
  obtain ⟨t,rfl⟩:=rx;obtain ⟨hy,e'⟩:y.size<=aw/\n=y.size:=e;subst e';exact PySem.W.len_bytes (by omega) ⟨.int _,H,I.tok _,⟨_,rfl⟩,q⟩
 | ref p=>
  cases rx
  have e':(∃ xs,SqL X.K H p xs/\n=xs.length)\/∃ xs,SqT X.K H p xs/\n=xs.length:=e;rcases e' with ⟨xs,hx,e'⟩ | ⟨xs,hx,e'⟩
  ·subst e';obtain ⟨its,r',pl,hz⟩:=I.list hx;have hlen:=r'.length;exact Calls.call_len_list pl.isList (by simp only [av]; omega) ⟨.int xs.length,H,I.tok _,⟨_,by simp only [av]; rw [hlen]⟩,q⟩
  ·subst e';obtain ⟨its,r',pl,hz⟩:=I.tuple hx;have hlen:=r'.length;exact len_tuple pl (by simp only [av]; omega) ⟨.int xs.length,H,I.tok _,⟨_,by simp only [av]; rw [hlen]⟩,q⟩
 | _=>exact (show False from e).elim
end
structure CZ (h:Heap) (x dx C:Addr) (mA:Str->Option Value):Prop where
 obj:h.get? x=some (j7 C dx)
 ns:h.Ns1 dx mA
 ne:dx≠x
theorem Fx {h:Heap} {dx:Addr} {mA:Str->Option Value} (n:h.Ns1 dx mA):∃ od,h.get? dx=some od/\∀ name,PySem.W.lookIn name od=some (mA name):=by
 obtain ⟨o,es,ep,ho,hd,hk,_,hm⟩:=n;refine ⟨o,ho,fun name=>?_⟩;have e:=hm name;unfold nsFind findBy at e;rw [<- Array.find?_toList] at e;unfold PySem.W.lookIn;rw [hd];dsimp only;split
 ·rename_i y q;rw [q] at e;exact congrArg some e
 ·rename_i q;rw [q] at e;have a:es.toList.any (·.refKey)=false:=by
   rw [List.any_eq_false];intro y hy;obtain ⟨z,t,hkey⟩:=hk y (Array.mem_toList_iff.mp hy);simp [DictEntry.refKey,hkey]
  have a':¬ es.toList.any (·.refKey)=true:=by rw [a]; exact bp
  rw [if_neg a'];exact congrArg some e
theorem CZ.look {h:Heap} {x dx C:Addr} {mA:Str->Option Value} (I:CZ h x dx C mA):∃ od,PySem.W.InstAt h x (j7 C dx) C (some od)/\∀ name,PySem.W.lookIn name od=some (mA name):=
 let ⟨od,ho,hl⟩:=Fx I.ns
 ⟨od,⟨I.obj,rfl,rfl,ho⟩,hl⟩
section
variable {prog:Program} {w:World} {A:Around} {E:Value->Shared->Prop} {s:Shared} {K:ag} {x dx C f:Addr} {mA:Str->Option Value} {name:Str} {v:Value}
theorem get_map {expr:Bool} {Q:Value->Shared->Prop} (X:K.In s.heap) (I:CZ s.heap x dx C mA) (hg:ot K C name=true) (hh:PySem.W.hasDictIn K C=true)
  (ha:d9 K (.ref C) name=some none) (hv:mA name=some v) (hv':PySem.W.handedIn v=true) (h:Q v { s with toks:=s.toks+1 }):
  wpAny (model prog w) A (getAttr (.ref x) name expr) Q E s:=by
 obtain ⟨od,J,hl⟩:=I.look;exact PySem.W.get_value X J (PySem.W.plainGet_of hg).1 (PySem.W.findObj_own hh ha rfl (by rw [hl,hv])) hv' h
theorem Hi {pl:Sem Bool} {Q:Value×List Value->Shared->Prop} (X:K.In s.heap) (I:CZ s.heap x dx C mA) (hg:ot K C name=true)
  (hf:d9 K (.ref C) name=some (some (.ref f))) (ht:o6 K (.ref f)=true) (hv:mA name=none) (h:Q (.ref f,[.ref x]) s):
  wpAny (model prog w) A (getMethod (.ref x) name pl) Q E s:=by
 obtain ⟨od,J,hl⟩:=I.look;exact PySem.W.method_fn X J (PySem.W.plainGet_of hg).1 (PySem.W.plainGet_of hg).2 hf (beq_iff_eq.mp ht) (by show (PySem.W.lookIn name od).map (·.isSome)=some false; rw [hl,hv]; rfl) h
theorem KG {ns:List Str} {Q:Unit->Shared->Prop} (X:K.In s.heap) (I:CZ s.heap x dx C mA)
  (hs:d9 K (.ref C) "__setattr__" = some (some (.builtin "object.__setattr__"))) (hp:PySem.W.plainOver K C=true) (ht:PySem.W.takerIn K C name=some none) (hh:PySem.W.hasDictIn K C=true)
  (hw:PySem.Within mA ns) (hsz:ns.length<=aw)
  (h:∀ h',CZ h' x dx C (fun y=>if y=name then some v else mA y)->ja dx s.heap h'->Q () { s with heap:=h',toks:=s.toks+2 }):
  wpAny (model prog w) A (setAttr (.ref x) name v) Q E s:=by
 obtain ⟨od,J,hl⟩:=I.look;refine PySem.W.set_plain X J hs (PySem.W.osa_open (s:={ s with toks:=s.toks+1 }) (r:=none) X J hp ht fun b=>?_);obtain ⟨cd,hc,hd'⟩:=PySem.W.any_some hh;have hx:s.heap.get? x=some ⟨.ref C,some dx,.plain,#[]⟩:=I.obj;refine aa (ab (aa (aa (wpAny_loadPart hx (aa (PySem.W.Looks.here (s:={ s with toks:=s.toks+1 }) (PySem.W.looks_clsIn X hc) ?_))))));rw [hd'];refine ab (a:=some dx) (aa (ab (aa ?_)));refine wpAny_nsSet1 (s:={ s with toks:=s.toks+1 }) I.ns fun h' hn2 hs2=>?_;obtain ⟨oD,esD,epD,hoD,hdD,hcD⟩:=hn2.count (PySem.Within.cons name v hw);refine aa (wpAny_lookBehind hoD (by rw [hdD]; exact pastItsLine_dict (gg hcD (by rw [cz]; omega))) ?_);exact ab (h _ ⟨(hs2.2 _ (ik I.ne)).trans I.obj,hn2,I.ne⟩ hs2)
theorem Hj {R:Result->Shared->Prop} {vs:List Value} {kw:List (Str×Value)} (X:K.In s.heap) (hm:PySem.W.makesIn K C=true)
  (hi:d9 K (.ref C) "__init__" = some (some (.ref f))) (hf:PySem.W.typeIn K (.ref f)=some (.type "function"))
  (h:codeAny (model prog w) (A.under (.builtin "type.__call__" ⟨.ref C :: vs,kw⟩)) (.call (.ref f) ⟨.ref (s.heap.objs.size+1) :: vs,kw⟩) (PySem.W.InitBack (s.heap.objs.size+1) R)
   { s with heap:=(s.heap.push g9).push (j7 C s.heap.objs.size) }):
  codeAny (model prog w) A (.call (.ref C) ⟨vs,kw⟩) R s:=by
 obtain ⟨hh,g,d,t,os⟩:=s;exact PySem.W.make_core (PySem.W.makes_of X hm) (PySem.W.looks_findIn X hi) (fun self=>PySem.W.bind_fn X self hf) (.inl rfl) h
end
def iC (f:Str) (v:V):List (Str×V)->List (Str×V)
 | []=>[(f,v)]
 | (g,x) :: r=>if g=f then (g,v) :: r else (g,x) :: iC f v r
theorem rN (f g:Str) (v:V):∀ fs:List (Str×V),(iC f v fs).lookup g=if g=f then some v else fs.lookup g
 | []=>by
  show pj g [(f,v)]=_
  by_cases h:g=f
  ·have hb:(g == f)=true:=beq_iff_eq.mpr h;simp only [pj,hb,if_pos h]
  ·have hb:(g == f)=false:=beq_eq_false_iff_ne.mpr h;simp only [pj,hb,if_neg h]
 | (k,x) :: r=>by
  have ih:=rN f g v r;rw [show iC f v ((k,x) :: r)=(if k=f then (k,v) :: r else (k,x) :: iC f v r) from rfl]
  by_cases hk:k=f
  ·rw [if_pos hk]
   by_cases h:g=k
   ·have hb:(g == k)=true:=beq_iff_eq.mpr h;simp only [pj,hb,if_pos (h.trans hk)]
   ·have hb:(g == k)=false:=beq_eq_false_iff_ne.mpr h;simp only [pj,hb,if_neg (fun e:g=f=>h (e.trans hk.symm))]
  ·rw [if_neg hk]
   by_cases h:g=k
   ·have hb:(g == k)=true:=beq_iff_eq.mpr h;simp only [pj,hb,if_neg (fun e:g=f=>hk (h.symm.trans e))]
   ·have hb:(g == k)=false:=beq_eq_false_iff_ne.mpr h;simp only [pj,hb];exact ih
theorem pZ (f:Str) (v:V):∀ fs:List (Str×V),f∈(iC f v fs).map (·.1)/\∀ g,g∈fs.map (·.1)->g∈(iC f v fs).map (·.1)
 | []=>⟨by simp [iC],fun g h=>by simp at h⟩
 | (k,x) :: r=>by
  obtain ⟨i1,i2⟩:=pZ f v r;rw [show iC f v ((k,x) :: r)=(if k=f then (k,v) :: r else (k,x) :: iC f v r) from rfl]
  by_cases hk:k=f
  ·rw [if_pos hk];subst hk;exact ⟨by simp,fun g h=>by simpa using h⟩
  ·rw [if_neg hk];refine ⟨?_,fun g h=>?_⟩
   ·rw [cy];exact ao _ i1
   ·rw [cy] at h ⊢;rcases bw.mp h with e | e
    ·exact bw.mpr (.inl e)
    ·exact ao _ (i2 g e)
theorem rO (f:Str) (v:V):∀ fs:List (Str×V),(iC f v fs).length<=fs.length+1
 | []=>by simp [iC]
 | (k,x) :: r=>by
  have ih:=rO f v r;rw [show iC f v ((k,x) :: r)=(if k=f then (k,v) :: r else (k,x) :: iC f v r) from rfl]
  by_cases hk:k=f
  ·rw [if_pos hk,cz,cz]; omega
  ·rw [if_neg hk,cz,cz]; omega
theorem lX.some_of {v:V} {o:Option Value} (r:lX (some v) o):∃ u,o=some u/\RelV v u:=by
 cases o with
 | none=>exact (show False from r).elim
 | some u=>exact ⟨u,rfl,r⟩
theorem lX.none_of {o:Option Value} (r:lX none o):o=none:=by
 cases o with
 | none=>rfl
 | some u=>exact (show False from r).elim
theorem Fy {v:V} {u:Value} (r:RelV v u):PySem.W.handedIn u=true:=by
 cases v with
 | non=>cases (show u=b7 from r); rfl
 | bl b=>cases (show u=Value.bool b from r); rfl
 | int i=>obtain ⟨t,e⟩:=(show ∃ t,u=Value.int i t from r); cases e; rfl
 | str x=>obtain ⟨t,e⟩:=(show ∃ t,u=Value.str x t from r); cases e; rfl
 | byt b=>obtain ⟨t,e⟩:=(show ∃ t,u=Value.bytes b t from r); cases e; rfl
 | flt b=>obtain ⟨t,e⟩:=(show ∃ t,u=Value.float b t from r); cases e; rfl
 | ref a=>cases (show u=bx a from r); rfl
 | ty n=>cases (show u=Value.type n from r); rfl
section
variable {P:Program} {w:World} {H H':Hp} {h h':Heap} {a C dx:Addr} {fs fs':List (Str×V)}
theorem tD (hok:HOk P w H h) (e:H a=some (.ins C dx fs)):∃ mA,CZ h a dx C mA/\(∀ f,lX (fs.lookup f) (mA f))/\PySem.Within mA (fs.map (·.1))/\fs.length<=1000/\H dx=some (.own a):=by
 obtain ⟨d,z,ne,ob,mA,n,r,q⟩:=(show bP P w H h a (.ins C dx fs) from hok a _ e)
 exact ⟨mA,⟨ob,n,ne⟩,r,q,z,d⟩
end
structure Cls (K:ag) (C:Addr):Prop where
 pg:ot K C Str.empty=true
 hd:PySem.W.hasDictIn K C=true
 po:PySem.W.plainOver K C=true
 sa:d9 K (.ref C) "__setattr__" = some (some (.builtin "object.__setattr__"))
theorem Cls.get {K:ag} {C:Addr} (c:Cls K C) (f:Str):ot K C f=true:=c.pg
def jT (K:ag) (C:Addr) (f:Str):Prop:=d9 K (.ref C) f=some none
theorem jT.taker {K:ag} {C:Addr} {f:Str} (n:jT K C f):PySem.W.takerIn K C f=some none:=by
 unfold PySem.W.takerIn;rw [show d9 K (.ref C) f=some none from n]
 rfl
structure Con (K:ag) (C:Addr) (f:Str) (v:V) (u:Value):Prop where
 at_:d9 K (.ref C) f=some (some u)
 rel:RelV v u
 get:PySem.W.specialIn K u "__get__" = some none
 cp:PySem.W.copiedNames.contains f=false
structure nR (K:ag) (C:Addr) (m:Str) (f:Addr):Prop where
 at_:d9 K (.ref C) m=some (some (.ref f))
 fn:o6 K (.ref f)=true
 kp:cw K (.ref f)=true
section
variable {X:Cx} {pins:List (Addr×Obj)} {σ:St} {H:Hp} {s:Shared} {a C dx:Addr} {fs:List (Str×V)} {f:Str} {v:V} {A:Around} {E:Value->Shared->Prop}
theorem D0 {b:Bool} {Q:Value->Shared->Prop} (I:Inv X pins σ H s) (e:H a=some (.ins C dx fs)) (c:Cls X.K C) (n:jT X.K C f) (l:fs.lookup f=some v)
  (h:∀ u s',Inv X pins σ H s'->RelV v u->Q u s'):wpAny (model X.prog X.w) A (getAttr (.ref a) f b) Q E s:=by
 obtain ⟨mA,O,r,_,_,_⟩:=tD I.hok e;obtain ⟨u,hu,ru⟩:=lX.some_of (v:=v) (o:=mA f) (by rw [<- l]; exact r f);exact get_map I.kIn O (c.get f) c.hd n hu (Fy ru) (h u _ (I.tok _) ru)
theorem tT {m:Str} {g:Addr} {pl:Sem Bool} {Q:Value×List Value->Shared->Prop} (I:Inv X pins σ H s) (e:H a=some (.ins C dx fs)) (c:Cls X.K C) (k:nR X.K C m g) (l:fs.lookup m=none)
  (h:Q (.ref g,[.ref a]) s):wpAny (model X.prog X.w) A (getMethod (.ref a) m pl) Q E s:=by
 obtain ⟨mA,O,r,_,_,_⟩:=tD I.hok e;have hn:mA m=none:=lX.none_of (by rw [<- l]; exact r m);exact Hi I.kIn O (c.get m) k.at_ k.fn hn h
theorem D3 {y:V} {u:Value} {Q:Unit->Shared->Prop} (I:Inv X pins σ H s) (e:H a=some (.ins C dx fs)) (c:Cls X.K C) (n:jT X.K C f) (hl:fs.length < 1000) (ry:RelV y u)
  (h:∀ s',Inv X pins σ (upd H a (.ins C dx (iC f y fs))) s'->Q () s'):wpAny (model X.prog X.w) A (setAttr (.ref a) f u) Q E s:=by
 obtain ⟨mA,O,r,wi,_,ho⟩:=tD I.hok e;have hz:(fs.map (·.1)).length<=aw:=by rw [ar,gd]; omega
 refine KG I.kIn O c.sa c.po n.taker c.hd wi hz fun h' O' sb=>h _ ?_;have hd:∃ o,h'.get? dx=some o:=let ⟨o,_,_,e',_⟩:=O'.ns; ⟨o,e'⟩;refine I.write (x:=a) (e:=dx) (by rw [e]; exact i4) (.inr ho) (fun b q hb z=>(sb.2 b hb).trans z) hd ?_;refine ⟨by rw [aH O.ne]; exact ho,?_,O.ne,O'.obj,_,O'.ns,fun g=>?_,fun g hg=>?_⟩
 ·have:=rO f y fs; omega
 ·show lX ((iC f y fs).lookup g) (if g=f then some u else mA g)
  rw [rN]
  by_cases q:g=f
  ·rw [if_pos q,if_pos q]; exact ry
  ·rw [if_neg q,if_neg q]; exact r g
 ·by_cases q:g=f
  ·rw [q]; exact (pZ f y fs).1
  ·refine (pZ f y fs).2 g (wi g fun z=>hg ?_)
   show (if g=f then some u else mA g)=none
   rw [if_neg q]; exact z
theorem Inv.made (I:Inv X pins σ H s):Inv X pins σ (upd (upd H s.heap.objs.size (.own (s.heap.objs.size+1))) (s.heap.objs.size+1) (.ins C s.heap.objs.size []))
  { s with heap:=(s.heap.push g9).push (j7 C s.heap.objs.size) }:=by
 have e1:(s.heap.push g9).get? s.heap.objs.size=some g9:=aj s.heap rfl;have e2:((s.heap.push g9).push (j7 C s.heap.objs.size)).get? (s.heap.objs.size+1)=some (j7 C s.heap.objs.size):=by
  have:=aj (s.heap.push g9) (o:=j7 C s.heap.objs.size) rfl
  rwa [gj] at this
 have e3:(s.heap.push g9).Ns s.heap.objs.size (fun _=>none):=⟨g9,#[],_,e1,rfl,(fun e he=>absurd he (by simp)),fun _=>rfl⟩;have I1:=I.laid (a:=s.heap.objs.size) (o:=.own (s.heap.objs.size+1)) (h':=s.heap.push g9) (t':=s.toks) (fun b u q=>ae _ q) (az _) ⟨_,e1⟩;refine I1.laid (a:=s.heap.objs.size+1) (o:=.ins C s.heap.objs.size []) (t':=s.toks) (fun b u q=>ae _ q) (Nat.le_of_eq (gj _ _)) ?_;have ne:s.heap.objs.size≠s.heap.objs.size+1:=ba (Nat.lt_succ_self _);refine ⟨by rw [aH ne,aK],d4 _,ne,e2,fun _=>none,(Heap.Ns1.of_empty e3).at fun o q=>ae _ q,fun _=>i4,fun y hy=>absurd rfl hy⟩
theorem KH {prog:Program} {w:World} {env:Env} {e:Expr} {f:Str} {pos:Pos} {s:Shared} {Q:Value->Shared->Prop} (hb:kj e f env (eval e env)=eval e env)
  (h:wpAny (model prog w) A (eval e env) (fun o s₁=>wpAny (model prog w) A (getAttr o f true) Q E s₁) E s):wpAny (model prog w) A (eval (.Attribute e f pos) env) Q E s:=
 Attribute_any_ h (by rw [arm_eval_Attribute,hb])
end
def SH (K:ag) (ta:TE) (f:Str):TE:=fun σ H Q=>ta σ H fun x H1=>∃ a C dx fs v,x=.ref a/\H1 a=some (.ins C dx fs)/\Cls K C/\jT K C f/\fs.lookup f=some v/\Q v H1
def SJ (K:ag) (ta tv:TE) (f:Str):TS:=fun D σ H=>tv σ H fun y H1=>ta σ H1 fun x H2=>∃ a C dx fs,x=.ref a/\H2 a=some (.ins C dx fs)/\Cls K C/\jT K C f/\fs.length < 1000/\
 D.nx σ (upd H2 a (.ins C dx (iC f y fs)))
section
variable {X:Cx} {o e value:Expr} {f:Str} {pos pos' tpos:Pos} {ta tv:TE}
theorem NO (he:PE X e ta) (hb:kj e f X.env (eval e X.env)=eval e X.env):PE X (.Attribute e f pos) (SH X.K ta f):=by
 intro pins s σ H Q I h;refine KH hb (thn (he pins s σ H _ I h) fun u s1 hz=>?_);obtain ⟨x,H1,I1,rx,a,C,dx,fs,v,ex,ea,c,n,l,q⟩:=hz;subst ex;obtain rfl:u=bx a:=rx;exact D0 I1 ea c n l fun u' s2 I2 ru=>⟨v,H1,I2,ru,q⟩
theorem NP (ha:PE X o ta) (hv:PE X value tv) (hs:swapsWith value (some (.Attribute o f pos')) pos.line X.env=pure false):PS X (.Assign [.Attribute o f pos'] value pos) (SJ X.K ta tv f):=by
 intro pins s σ H D I h;refine plainObj_wpAny_Assign_Attribute (thn (hv pins s σ H _ I h) fun u s1 ⟨y,H1,I1,ry,q⟩=>thn (ha pins s1 σ H1 _ I1 q) fun ov s2 hz=>?_) hs;obtain ⟨x,H2,I2,rx,a,C,dx,fs,ex,ea,c,n,l,q2⟩:=hz;subst ex;obtain rfl:ov=bx a:=rx;exact D3 I2 ea c n l ry fun s3 I3=>⟨σ,_,I3,q2⟩
end
section
variable {X:Cx} {pins:List (Addr×Obj)} {σ:St} {H:Hp} {s:Shared} {A:Around} {E:Value->Shared->Prop} {Q:Value->Shared->Prop} {c:Value} {b:Bool}
inductive qA (K:ag) (H:Hp):V->Value->Prop where
 | non:qA K H .non (.type "NoneType")
 | bl (x:Bool):qA K H (.bl x) (.type "bool")
 | int (i:Int):qA K H (.int i) (.type "int")
 | str (x:Str):qA K H (.str x) (.type "str")
 | flt (x:UInt64):qA K H (.flt x) (.type "float")
 | lst {a:Addr} {xs:List V} (e:H a=some (.lst xs)):qA K H (.ref a) (.type "list")
 | frz {a:Addr} {o:Obj} {xs:List V} (e:H a=some (.frz o (.lst xs))):qA K H (.ref a) (.type "list")
 | tup {a:Addr} {xs:List V} (e:H a=some (.tup xs)):qA K H (.ref a) (.type "tuple")
 | dK {a:Addr} {kvs:List (Key×V)} (e:H a=some (.dK kvs)):qA K H (.ref a) (.type "dict")
 | dT {a:Addr} {kvs:List (List Key×V)} (e:H a=some (.dT kvs)):qA K H (.ref a) (.type "dict")
 | ins {a C dx:Addr} {fs:List (Str×V)} (e:H a=some (.ins C dx fs)) (cl:Cls K C) (ha:d9 K (.ref C) "__class__" = some (some (.builtin "object.__class__")))
   (hn:PySem.W.specialIn K (.builtin "object.__class__") "__get__" = some (some (.builtin "getset_descriptor.__get__"))) (htk:PySem.W.takesIn K (.builtin "object.__class__")=some true)
   (hm:PySem.W.mroIn K C (.type "object")=some true):qA K H (.ref a) (.ref C)
theorem Fz {x:V} {u t:Value} (I:Inv X pins σ H s) (rx:RelV x u) (ty:qA X.K H x t) (e:PySem.W.kitOne X.K t c=some b) (h:∀ tk,Q (.bool b) { s with toks:=tk }):
  wpAny (model X.prog X.w) A (call (.builtin "isinstance") [u,c]) Q E s:=by
 cases ty with
 | non=>cases (show u=b7 from rx); exact fv PySem.W.kitx_none I.kIn i4 e (fun z=>nomatch z) h
 | bl y=>cases (show u=Value.bool y from rx); exact fv PySem.W.kitx_bool I.kIn i4 e (fun z=>nomatch z) h
 | int i=>obtain ⟨t,q⟩:=(show ∃ t,u=Value.int i t from rx); cases q; exact fv PySem.W.kitx_int I.kIn i4 e (fun z=>nomatch z) h
 | str y=>obtain ⟨t,q⟩:=(show ∃ t,u=Value.str y t from rx); cases q; exact fv PySem.W.kitx_str I.kIn i4 e (fun z=>nomatch z) h
 | flt y=>obtain ⟨t,q⟩:=(show ∃ t,u=Value.float y t from rx); cases q; exact fv PySem.W.kitx_float I.kIn i4 e (fun z=>nomatch z) h
 | @lst a xs ea=>
  cases (show u=bx a from rx)
  obtain ⟨_,_,n,_,h1⟩:=(show bP X.prog X.w H s.heap a (.lst xs) from I.hok a _ ea)
  exact fv PySem.W.kitx_list I.kIn ⟨_,h1,rfl⟩ e (fun z=>nomatch z) h
 | @frz a ob xs ea=>
  cases (show u=bx a from rx)
  obtain ⟨_,_,_,n,_,h1⟩:=(show bP X.prog X.w H s.heap a (.frz ob (.lst xs)) from I.hok a _ ea)
  exact fv PySem.W.kitx_list I.kIn ⟨_,h1,rfl⟩ e (fun z=>nomatch z) h
 | @tup a xs ea=>
  cases (show u=bx a from rx)
  obtain ⟨_,_,_,p⟩:=(show bP X.prog X.w H s.heap a (.tup xs) from I.hok a _ ea)
  obtain ⟨o,h1,h2,_⟩:=p;exact fv PySem.W.kitx_tuple I.kIn ⟨o,h1,h2⟩ e (fun z=>nomatch z) h
 | @dK a kvs ea=>
  cases (show u=bx a from rx)
  obtain ⟨_,_,vs,_,p⟩:=(show bP X.prog X.w H s.heap a (.dK kvs) from I.hok a _ ea)
  obtain ⟨o,es,ep,h1,h2,_⟩:=p;exact fv PySem.W.kitx_dict I.kIn ⟨o,h1,h2.1⟩ e (fun z=>nomatch z) h
 | @dT a kvs ea=>
  cases (show u=bx a from rx)
  obtain ⟨_,_,xs,_,o,es,ep,h1,h2,_⟩:=(show bP X.prog X.w H s.heap a (.dT kvs) from I.hok a _ ea)
  exact fv PySem.W.kitx_dict I.kIn ⟨o,h1,h2.1⟩ e (fun z=>nomatch z) h
 | @ins a C dx fs ea cl ha hn htk hm=>
  cases (show u=bx a from rx)
  obtain ⟨mA,O,_⟩:=tD I.hok ea;obtain ⟨od,J,_⟩:=O.look;exact fv (PySem.W.kitx_own (cl.get _) cl.hd ha hn htk hm) I.kIn J e (fun z=>nomatch z) h
end
structure eM (k:Nat) (A:Around):Prop where
 hd:A.handled=none
 dp:A.depth+3*k+5 < recursionLimit
 un:A.units+16*k+200 < cLine
theorem eM.mono {j k:Nat} {A:Around} (r:eM k A) (h:j<=k):eM j A:=⟨r.hd,by have:=r.dp; omega,by have:=r.un; omega⟩
theorem eM.deeper {k:Nat} {A:Around} (r:eM (k+1) A) (env:Env):eM k (A.deeper env):=
 ⟨r.hd,by have:=r.dp; show A.depth+1+3*k+5 < _; omega,by have:=r.un; show A.units+3+16*k+200 < _; omega⟩
theorem eM.in1 {k:Nat} {A:Around} (r:eM (k+1) A):eM k A.in1:=
 ⟨r.hd,by have:=r.dp; show A.depth+3*k+5 < _; omega,by have:=r.un; show A.units+1+16*k+200 < _; omega⟩
theorem D4 {A:Around} {C:Addr} {us:List Value} {kw:List (Str×Value)}:(A.under (.builtin "type.__call__" ⟨.ref C :: us,kw⟩)).depth=A.depth+1:=by
 first | rfl | simp [Around.under,Code.weight,Code.isCreation,Code.isGuard,Code.isCaller,Code.frames,Code.isFrame,guardIds]
theorem D5 {A:Around} {C:Addr} {us:List Value} {kw:List (Str×Value)}:(A.under (.builtin "type.__call__" ⟨.ref C :: us,kw⟩)).units=A.units+1:=by
 first | rfl | simp [Around.under,Code.cUnits,Code.frames,Code.isFrame]
theorem eM.make {k:Nat} {A:Around} (r:eM (k+1) A) (C:Addr) (us:List Value) (kw:List (Str×Value)):eM k (A.under (.builtin "type.__call__" ⟨.ref C :: us,kw⟩)):=
 ⟨r.hd,by have:=r.dp; rw [D4]; omega,by have:=r.un; rw [D5]; omega⟩
theorem eM.depth {k:Nat} {A:Around} (r:eM k A):A.depth < recursionLimit:=by have:=r.dp; omega
theorem eM.units {k:Nat} {A:Around} (r:eM k A):A.units+64 < cLine:=by have:=r.un; omega
def NQ:TA:=fun _ H Q=>Q [] H
def MX (ta:TE) (tr:TA):TA:=fun σ H Q=>ta σ H fun x H1=>tr σ H1 fun xs H2=>Q (x :: xs) H2
section
variable {X:Cx} {e:Expr} {es:List Expr} {te:TE} {t:TA} {pos:Pos}
theorem Hk:PA X [] NQ:=fun _ _ _ _ H Q I h=>Calls.spliced_nil ⟨[],H,I,.nil,h⟩
theorem Ey (ha:PE X e te) (hr:PA X es t) (hs:b0 (e :: es) X.env=(false,eval e X.env) :: b0 es X.env:=by rfl):PA X (e :: es) (MX te t):=by
 intro pos pins s σ H Q I h;rw [hs]
 show wpAny _ _ (spliced ((false,eval e X.env) :: backTo pos (b0 es X.env))) _ _ s
 refine Calls.spliced_cons (thn (ha pins s σ H _ I h) fun u s1 hz=>?_);obtain ⟨x,H1,I1,r1,q1⟩:=hz;exact thn (hr pos pins s1 σ H1 _ I1 q1) fun us s2 ⟨xs,H2,I2,r2,q2⟩=>⟨x :: xs,H2,I2,.cons r1 r2,q2⟩
def SK (t:TA):TE:=fun σ H Q=>t σ H fun xs H1=>xs.length<=aw/\∀ p,H1 p=none->Q (.ref p) (upd H1 p (.tup xs))
def SL (t:TA):TE:=fun σ H Q=>t σ H fun xs H1=>xs.length<=aw/\∀ p,H1 p=none->Q (.ref p) (upd H1 p (.lst xs))
theorem NR {x1} (h:PA X es t):PE X (.Tuple es x1 pos) (SK t):=by
 intro pins s σ H Q I hq;refine wpAny_Tuple_spliced (thn (h pos pins s σ H _ I hq) fun us s1 ⟨xs,H1,I1,r,z,q⟩=>⟨by rw [<- r.length]; exact z,?_⟩);have hf:H1 s1.heap.objs.size=none:=I1.hok.fresh (az _);refine ⟨.ref s1.heap.objs.size,upd H1 s1.heap.objs.size (.tup xs),I1.laid (t':=s1.toks) (fun b u e=>ae _ e) (az _) ?_,rfl,q _ hf⟩;exact ⟨z,us,r,⟨_,aj _ rfl,rfl,⟨_,rfl⟩,rfl⟩⟩
theorem NS (h:PA X es t):PE X (.List es pos) (SL t):=by
 intro pins s σ H Q I hq;refine wpAny_List_spliced (thn (h pos pins s σ H _ I hq) fun us s1 ⟨xs,H1,I1,r,z,q⟩=>⟨by rw [<- r.length]; exact z,?_⟩);have hf:H1 s1.heap.objs.size=none:=I1.hok.fresh (az _);refine ⟨.ref s1.heap.objs.size,upd H1 s1.heap.objs.size (.lst xs),I1.laid (t':=s1.toks) (fun b u e=>ae _ e) (az _) ?_,rfl,q _ hf⟩;exact ⟨z,us,0,r,aj _ rfl⟩
end
abbrev Sp:=List V->Hp->VK->XK->Prop
abbrev CXT:=List Env->Hp->Shared->XK->Value->Shared->Prop
structure wW (P:Program) (w:World) (K:ag) (mg:Str->Option Value) (base:Heap) (A:Around) (outer:List Env) (s:Shared) (H:Hp):Prop where
 frames:A.frames=some outer
 mod:Mod K mg base
 bs:∀ b o,base.get? b=some o->s.heap.get? b=some o/\H b=none
 bsz:base.objs.size<=s.heap.objs.size
 funs:s.heap.FunFrames base outer
 frf:∀ b∈frs outer,H b=none
 hok:HOk P w H s.heap
 bare:AllBare s.gens
def CE (outer:List Env) (P:Program) (w:World) (H:Hp) (s:Shared) (Q:VK) (u:Value) (s':Shared):Prop:=
 ∃ v H',s'.os=s.os/\AllBare s'.gens/\Un (frs outer) [] H H' s.heap s'.heap/\HOk P w H' s'.heap/\RelV v u/\Q v H'
def CR (CX:CXT) (outer:List Env) (P:Program) (w:World) (H:Hp) (s:Shared) (Q:VK) (E:XK) (r:Result) (s':Shared):Prop:=
 match r with
 | .ok (.ret u)=>CE outer P w H s Q u s'
 | .ok _=>False
 | .error e=>CX outer H s E e s'
structure aU (P:Program) (w:World) (K:ag) (mg:Str->Option Value) (base:Heap) (CX:CXT) (k:Nat) (f:Addr) (fd:dq) (ps:List Str) (sp:Sp):Prop where
 len:∀ vs H Q E,sp vs H Q E->vs.length=ps.length
 run:∀ (A:Around) (outer:List Env) (s:Shared) (H:Hp) (args:Args) (us:List Value) (vs:List V) (Q:VK) (E:XK),eM k A->wW P w K mg base A outer s H->BindsTo s fd args (ps.zip us)->aN vs us->sp vs H Q E->
  codeAny (model P w) A (.call (.ref f) args) (CR CX outer P w H s Q E) s
theorem aU.imp {P:Program} {w:World} {K:ag} {mg:Str->Option Value} {base:Heap} {CX:CXT} {k:Nat} {f:Addr} {fd:dq} {ps:List Str} {sp sp':Sp} (F:aU P w K mg base CX k f fd ps sp)
  (h:∀ vs H Q E,sp' vs H Q E->sp vs H Q E):aU P w K mg base CX k f fd ps sp':=
 ⟨fun vs H Q E q=>F.len vs H Q E (h _ _ _ _ q),fun A outer s H args us vs Q E hr he hb hv hs=>F.run A outer s H args us vs Q E hr he hb hv (h _ _ _ _ hs)⟩
theorem wW.make {P:Program} {w:World} {K:ag} {mg:Str->Option Value} {base:Heap} {A:Around} {outer:List Env} {s:Shared} {H:Hp} (e:wW P w K mg base A outer s H) (C:Addr) (us:List Value) (kw:List (Str×Value)):
  wW P w K mg base (A.under (.builtin "type.__call__" ⟨.ref C :: us,kw⟩)) outer s H:=⟨by first | exact e.frames | (simpa [Around.under,Code.envs,Code.isFrame,pushEnvs] using e.frames),e.mod,e.bs,e.bsz,e.funs,e.frf,e.hok,e.bare⟩
theorem wW.in1 {P:Program} {w:World} {K:ag} {mg:Str->Option Value} {base:Heap} {A:Around} {outer:List Env} {s:Shared} {H:Hp} (e:wW P w K mg base A outer s H):
  wW P w K mg base A.in1 outer s H:=⟨e.frames,e.mod,e.bs,e.bsz,e.funs,e.frf,e.hok,e.bare⟩
section
variable {X:Cx} {pins:List (Addr×Obj)} {σ:St} {H:Hp} {s s':Shared}
theorem Inv.env0 (I:Inv X pins σ H s):wW X.prog X.w X.K X.mg X.base X.A X.stack s H:=
 ⟨I.ok.frames,I.ok.mod,I.bs,gg I.ok.bsz I.sz,I.stack,I.stkFree,I.hok,I.bare⟩
theorem Inv.after {Q:VK} {u:Value} (I:Inv X pins σ H s) (h:CE X.stack X.prog X.w H s Q u s'):EP X pins σ Q u s':=by
 obtain ⟨v,H',os,bare,un,hok,r,q⟩:=h;obtain ⟨hh,g,d,t,os'⟩:=s';obtain rfl:os'=s.os:=os;exact ⟨v,H',I.call (h':=hh) (g':=g) (d':=d) (t':=t) (ch:=[]) un hok bare (fun b z=>absurd z (by simp)),r,q⟩
end
def MY (sp:Sp) (dvs:List V) (E:XK) (t:TA):TE:=fun σ H Q=>t σ H fun vs H1=>sp (vs++dvs) H1 Q E
def Qa (C:Addr) (sp:Sp) (dvs:List V) (E:XK) (t:TA):TE:=fun σ H Q=>t σ H fun vs H1=>∀ x dx,H1 x=none->H1 dx=none->dx≠x->
 sp (.ref x :: (vs++dvs)) (upd (upd H1 dx (.own x)) x (.ins C dx [])) (fun v H2=>v=.non/\Q (.ref x) H2) E
def Binds (K:ag) (fd:dq) (ps:List Str) (ds:List Value):Prop:=
 ∀ (s:Shared) (us:List Value),K.In s.heap->(us++ds).length=ps.length->BindsTo s fd ⟨us,[]⟩ (ps.zip (us++ds))
theorem Binds.all {K:ag} {fd:dq} {ps:List Str} (h:∀ us:List Value,us.length=ps.length->bindArgs fd ⟨us,[]⟩=pure (ps.zip us)):Binds K fd ps []:=fun s us _ hl=>by
 rw [e7] at hl ⊢;exact .of_eq (h us hl)
def tU (CX:CXT) (X:Cx) (E:XK):Prop:=∀ (pins:List (Addr×Obj)) (σ:St) (H:Hp) (s:Shared) (e:Value) (s':Shared),Inv X pins σ H s->CX X.stack H s E e s'->X.xe e s'
section
variable {X:Cx} {CX:CXT} {k:Nat} {f C:Addr} {fd:dq} {ps:List Str} {sp:Sp} {dvs:List V} {ds:List Value} {E:XK} {x m:Str} {p pos apos:Pos} {e o:Expr} {es:List Expr} {ta:TE} {t:TA}
theorem D6 {pins:List (Addr×Obj)} {σ:St} {H:Hp} {s:Shared} {Q:VK} {us:List Value} {vs:List V} (F:aU X.prog X.w X.K X.mg X.base CX k f fd ps sp) (hr:eM k X.A) (hb:Binds X.K fd ps ds) (hd:aN dvs ds) (hx:tU CX X E)
  (I:Inv X pins σ H s) (r:aN vs us) (h:sp (vs++dvs) H Q E):wpAny (model X.prog X.w) X.A (call (.ref f) us) (EP X pins σ Q) X.xe s:=by
 have r2:aN (vs++dvs) (us++ds):=r.append hd;have hl:(us++ds).length=ps.length:=by rw [<- r2.length]; exact F.len _ _ _ _ h
 refine wpAny_call (codeAny_mono (F.run X.A X.stack s H ⟨us,[]⟩ (us++ds) (vs++dvs) Q E hr I.env0 (hb s us I.kIn hl) r2 h) fun r s' hq=>?_);cases r with
 | error e=>exact hx pins σ H s e s' I hq
 | ok fl=>
  cases fl with
  | ret u=>exact I.after hq
  | next=>exact i3 hq
  | brk=>exact i3 hq
  | cont=>exact i3 hq
theorem KI (F:aU X.prog X.w X.K X.mg X.base CX k f fd ps sp) (hr:eM k X.A) (hg:Gl X x) (hm:X.mg x=some (.ref f)) (hk:cw X.K (.ref f)=true) (hb:Binds X.K fd ps ds) (hd:aN dvs ds) (hx:tU CX X E)
  (ha:PA X (e :: es) t) (hdb:(x == ("__debug__" : Str))=false:=by decide) (he:b0 (e :: es) X.env=(false,eval e X.env) :: b0 es X.env:=by rfl) (hpl:(backTo pos (b0 es X.env)).any (·.1)=false:=by rfl):
  PE X (.Call (.Name x p) (e :: es) [] pos) (MY sp dvs E t):=by
 intro pins s σ H Q I h;refine m8 (zN I hg hm ?_ hdb);refine PySem.W.callWith_K (h₀:=X.base) I.ok.mod.kin hk (thn (ha pos pins s σ H _ I h) fun us s1 ⟨vs,H1,I1,r,q⟩=>⟨I1.kIn,?_⟩) he hpl;exact D6 F hr hb hd hx I1 r q
structure Mk (K:ag) (C f:Addr):Prop where
 makes:PySem.W.makesIn K C=true
 init:d9 K (.ref C) "__init__" = some (some (.ref f))
 fn:o6 K (.ref f)=true
 kp:cw K (.ref C)=true
theorem Hl {pins:List (Addr×Obj)} {σ:St} {H:Hp} {s:Shared} {Q:VK} {us:List Value} {vs:List V} (M:Mk X.K C f) (F:aU X.prog X.w X.K X.mg X.base CX k f fd ps sp) (hr:eM (k+1) X.A) (hb:Binds X.K fd ps ds) (hd:aN dvs ds)
  (hx:tU CX X E) (I:Inv X pins σ H s) (r:aN vs us)
  (h:∀ x dx,H x=none->H dx=none->dx≠x->sp (.ref x :: (vs++dvs)) (upd (upd H dx (.own x)) x (.ins C dx [])) (fun v H2=>v=.non/\Q (.ref x) H2) E):
  wpAny (model X.prog X.w) X.A (call (.ref C) us) (EP X pins σ Q) X.xe s:=by
 have hq:=h (s.heap.objs.size+1) s.heap.objs.size (I.hok.fresh (Nat.le_succ _)) (I.hok.fresh (az _)) (ba (Nat.lt_succ_self _));have I2:=Inv.made (C:=C) I;have r2:aN (V.ref (s.heap.objs.size+1) :: (vs++dvs)) (bx (s.heap.objs.size+1) :: (us++ds)):=.cons rfl (r.append hd);have hl:(bx (s.heap.objs.size+1) :: us++ds).length=ps.length:=by
  have e:=r2.length;rw [F.len _ _ _ _ hq] at e;exact e.symm
 refine wpAny_call (Hj (f:=f) I.kIn M.makes M.init (beq_iff_eq.mp M.fn) (codeAny_mono (F.run _ X.stack _ _ ⟨bx (s.heap.objs.size+1) :: us,[]⟩ (bx (s.heap.objs.size+1) :: (us++ds)) _ _ E (hr.make C us [])
  (I2.env0.make C us []) (hb _ (bx (s.heap.objs.size+1) :: us) I2.kIn hl) r2 hq) fun r s' hq'=>?_))
 cases r with
 | error e=>exact hx pins σ _ _ e s' I2 hq'
 | ok fl=>
  cases fl with
  | ret u=>
   obtain ⟨v,H',I3,rv,ev,q3⟩:=I2.after hq';subst ev;exact ⟨rv,⟨V.ref (s.heap.objs.size+1),H',I3,rfl,q3⟩⟩
  | next=>exact i3 hq'
  | brk=>exact i3 hq'
  | cont=>exact i3 hq'
theorem Hm (M:Mk X.K C f) (F:aU X.prog X.w X.K X.mg X.base CX k f fd ps sp) (hr:eM (k+1) X.A) (hg:Gl X x) (hm:X.mg x=some (.ref C)) (hb:Binds X.K fd ps ds) (hd:aN dvs ds) (hx:tU CX X E)
  (hdb:(x == ("__debug__" : Str))=false:=by decide):PE X (.Call (.Name x p) [] [] pos) (Qa C sp dvs E NQ):=by
 intro pins s σ H Q I h;refine m8 (zN I hg hm ?_ hdb);exact PySem.W.callWith_K0 I.kIn M.kp (Hl (us:=[]) M F hr hb hd hx I .nil h)
end
section
variable {X:Cx} {CX:CXT} {k:Nat} {f C:Addr} {fd:dq} {ps ks:List Str} {sp:Sp} {E:XK} {x m:Str} {p pos apos kpos:Pos} {e o:Expr} {es:List Expr} {kws:List Keyword} {te ta:TE} {t tk:TA} {nm:Option Str}
structure SM (K:ag) (fd:dq) (ps ks:List Str) (g:List Value->List Value->List Value) (gV:List V->List V->List V):Prop where
 to:∀ (s:Shared) (us ws:List Value),K.In s.heap->(g us ws).length=ps.length->BindsTo s fd ⟨us,ks.zip ws⟩ (ps.zip (g us ws))
 rel:∀ {vs:List V} {us:List Value} {zs:List V} {ws:List Value},aN vs us->aN zs ws->aN (gV vs zs) (g us ws)
variable {g:List Value->List Value->List Value} {gV:List V->List V->List V}
end
structure bE (N P:List Str) (sc:Scope):Prop where
 kind:sc.kind=.function
 co:sc.isCoroutine=false
 gen:sc.isGenerator=false
 nd:N.Nodup
 pre:N.take P.length=P
 par:∀ x∈P,sc.names.lookup x=some .local\/sc.names.lookup x=some .cell
 nofree:∀ y∈sc.names,y.2≠.free
theorem xZ {kindOf:Str->Option m9} {x:Str}:∀ {binds:List (Str×Value)} {m:Str->Option Value},(∀ v,(x,v)∉binds)->bindL kindOf binds m x=m x
 | [],_,_=>rfl
 | (n,v) :: r,m,h=>by
  unfold bindL;rw [xZ fun w hw=>h w (ao _ hw)];split
  ·have:x≠n:=by rintro rfl; exact h v ax
   simp [this]
  ·rfl
theorem yA {kindOf:Str->Option m9} {x:Str}:∀ {binds:List (Str×Value)} {m:Str->Option Value},(∀ v,(x,v)∉binds)->bindC kindOf binds m x=m x
 | [],_,_=>rfl
 | (n,v) :: r,m,h=>by
  unfold bindC;rw [yA fun w hw=>h w (ao _ hw)];split
  ·rfl
  ·have:x≠n:=by rintro rfl; exact h v ax
   simp [this]
theorem yB {kindOf:Str->Option m9} {x:Str} {v:Value}:∀ {P:List Str} {vs:List Value} {i:Nat} {m:Str->Option Value},P.Nodup->P[i]?=some x->vs[i]?=some v->kindOf x=some .local->
  bindL kindOf (P.zip vs) m x=some v
 | [],_,_,_,_,h,_,_=>by simp at h
 | _ :: _,[],_,_,_,_,h,_=>by simp at h
 | p :: P,w :: vs,0,m,nd,h1,h2,hk=>by
  simp at h1 h2; subst h1; subst h2
  show bindL kindOf ((p,w) :: P.zip vs) m p=_
  unfold bindL;rw [xZ fun v hv=>(jc.mp nd).1 (List.of_mem_zip hv).1,if_pos hk];simp
 | p :: P,w :: vs,i+1,m,nd,h1,h2,hk=>by
  show bindL kindOf ((p,w) :: P.zip vs) m x=_
  unfold bindL;exact yB (i:=i) (jc.mp nd).2 (by simpa using h1) (by simpa using h2) hk
theorem yC {kindOf:Str->Option m9} {x:Str} {v:Value}:∀ {P:List Str} {vs:List Value} {i:Nat} {m:Str->Option Value},P.Nodup->P[i]?=some x->vs[i]?=some v->kindOf x≠some .local->
  bindC kindOf (P.zip vs) m x=some v
 | [],_,_,_,_,h,_,_=>by simp at h
 | _ :: _,[],_,_,_,_,h,_=>by simp at h
 | p :: P,w :: vs,0,m,nd,h1,h2,hk=>by
  simp at h1 h2; subst h1; subst h2
  show bindC kindOf ((p,w) :: P.zip vs) m p=_
  unfold bindC;rw [yA fun v hv=>(jc.mp nd).1 (List.of_mem_zip hv).1,if_neg hk];simp
 | p :: P,w :: vs,i+1,m,nd,h1,h2,hk=>by
  show bindC kindOf ((p,w) :: P.zip vs) m x=_
  unfold bindC;exact yC (i:=i) (jc.mp nd).2 (by simpa using h1) (by simpa using h2) hk
def start (N:List Str) (vs:List V):St:=vs.map some++m4 (N.length - vs.length) none
def D7 (CX:CXT) (P:Program) (w:World) (K:ag) (mg:Str->Option Value) (base:Heap) (N:List Str) (qual:Str) (scope:Scope) (f:Addr) (cd:Value) (A:Around) (outer:List Env) (s:Shared) (H:Hp) (E:XK):Cx where
 prog:=P
 w:=w
 K:=K
 mg:=mg
 base:=base
 A:=A.deeper (envOfC qual scope s.heap.objs.size f cd)
 N:=N
 s₀:=s
 H₀:=H
 env:=envOfC qual scope s.heap.objs.size f cd
 outer:=outer
 stack:=envOfC qual scope s.heap.objs.size f cd :: outer
 ex:=[]
 calm:=true
 fn:=fun _=>true
 pn:=[]
 xe:=fun e s'=>wpAny (model P w) (A.deeper (envOfC qual scope s.heap.objs.size f cd)) (leaving (envOfC qual scope s.heap.objs.size f cd) e) (fun _ s''=>CX outer H s E e s'') (fun e' s''=>CX outer H s E e' s'') s'
theorem B4 {sc:Scope} {n:Nat} {x:Str} (h:sc.names.lookup x=some .cell):∃ c,(fw n sc.names []).lookup x=some c:=by
 have q:=PySem.W.cellsFrom_some sc.names n [] (.inl h);exact k8.mp q
theorem FA {CX:CXT} {P:Program} {w:World} {K:ag} {mg:Str->Option Value} {base:Heap} {N ps:List Str} {qual:Str} {scope:Scope} {f:Addr} {cd:Value} {A:Around} {outer:List Env} {s s1:Shared} {H:Hp} {E:XK} {us:List Value} {vs:List V}
  (S:bE N ps scope) (hd:A.handled=none) (e0:wW P w K mg base A outer s H) (hl:vs.length=ps.length) (r:aN vs us)
  (x:InCallC s s.heap.objs.size (bindL (envOfC qual scope s.heap.objs.size f cd).kindOf (ps.zip us) fun _=>none) (fw (s.heap.objs.size+1) scope.names []) (bindC (envOfC qual scope s.heap.objs.size f cd).kindOf (ps.zip us) fun _=>none) s1):
  Inv (D7 CX P w K mg base N qual scope f cd A outer s H E) [] (start N vs) H s1:=by
 have hpl:ps.length<=N.length:=by have:=congrArg List.length S.pre; rw [bq] at this; omega
 obtain ⟨h1,tk,rfl,hk⟩:=x.done;have noA:∀ b:Addr,b∉(D7 CX P w K mg base N qual scope f cd A outer s H E).ex:=fun b z=>absurd (show b∈([]:List Addr) from z) (by simp)
 refine ⟨⟨e0.mod,S.kind,rfl,rfl,az _,fun y z c h1 h2=>?_,fun y hy=>?_,fun y c _ h=>?_,fun _=>hd,Around.frames_deeper e0.frames,.inr ⟨rfl,rfl⟩,fun b z=>absurd z (noA b),e0.bs,e0.bsz,fun b _ _=>noA b,fun b z=>absurd z (noA b),e0.funs,e0.frf⟩,
  rfl,e0.bare,Un.kept hk,⟨_,x.toInCall.ns,fun i y v h1 h2 h3=>?_⟩,fun y c h=>⟨_,x.cell y c h⟩,e0.hok.fresh (az _),fun y c h=>?_,fun p hp=>absurd (show p∈([]:List (Addr×Obj)) from hp) (by simp),e0.hok.kept hk,?_⟩
 ·exact name_of_addr x.apart (mn h1) (mn h2)
 ·have hy:scope.names.lookup y=some .cell\/scope.names.lookup y=some .free:=hy;rcases hy with hy | hy
  ·exact B4 hy
  ·exact absurd rfl (S.nofree _ (mn hy))
 ·exact ki (x.above y c (mn h))
 ·have hi:i < vs.length:=by
   unfold start at h2
   by_cases hi:i < vs.length
   ·exact hi
   ·rw [au (by simpa using hi)] at h2
    rw [List.getElem?_replicate] at h2;split at h2 <;> cases h2
  have ha:vs[i]?=some v:=by
   unfold start at h2;rw [bj (by simpa using hi),br] at h2
   cases e:vs[i]? with
   | none=>rw [e] at h2; cases h2
   | some a=>rw [e] at h2; cases h2; rfl
  obtain ⟨u,hu,rv⟩:=r.get ha;have hp:ps[i]?=some y:=by
   rw [<- S.pre,List.getElem?_take_of_lt (by omega)]; exact h1
  have ndP:ps.Nodup:=by rw [<- S.pre]; exact S.nd.sublist (List.take_sublist _ _)
  refine ⟨u,rv,?_⟩;rcases S.par y (fe hp) with k | k
  ·exact .inl ⟨k,yB ndP hp hu k⟩
  ·obtain ⟨c,e⟩:=B4 (n:=s.heap.objs.size+1) k;refine .inr ⟨.inl k,c,e,?_⟩;have q:=x.cell y c e;rw [yC ndP hp hu (by show scope.names.lookup y≠_; rw [k]; decide)] at q;exact q
 ·exact e0.hok.fresh (ki (x.above y c (mn h)))
 ·unfold start
  show _=N.length
  rw [bo,ar,List.length_replicate];omega
theorem Qb {CX:CXT} {P:Program} {w:World} {K:ag} {mg:Str->Option Value} {base:Heap} {k:Nat} {f:Addr} {name qual:Str} {params:Arguments} {body:List Stmt} {scope:Scope} {dV kV doc pm cdv ct oc:Value} {an od:Option Addr}
  {osl:Array (Option Value)} {N ps:List Str} {sp:Sp} (lk:K.lookup f=some ⟨oc,od,.func (da name qual params body scope dV kV doc pm an cdv ct),osl⟩) (hcd:dh K cdv qual=true) (S:bE N ps scope)
  (len:∀ vs H Q E,sp vs H Q E->vs.length=ps.length)
  (hbody:∀ (A:Around) (outer:List Env) (s:Shared) (H:Hp) (vs:List V) (Q:VK) (E:XK),eM k (A.deeper (envOfC qual scope s.heap.objs.size f cdv))->sp vs H Q E->
   ∃ t,PSs (D7 CX P w K mg base N qual scope f cdv A outer s H E) body t/\t { nx:=fun _ H'=>Q .non H',rt:=Q } (start N vs) H):
  aU P w K mg base CX (k+1) f (da name qual params body scope dV kV doc pm an cdv ct) ps sp:=by
 refine ⟨len,fun A outer s H args us vs Q E hr e0 hb r hsp=>?_⟩;have hl:=len _ _ _ _ hsp;have KX:K.In s.heap:=e0.mod.kin.keeps fun b o e=>(e0.bs b o e).1;have lim:s.heap.NoLimit:=e0.mod.nolimit.keeps fun b o e=>(e0.bs b o e).1;have hkind:∀ y∈ps.zip us,scope.names.lookup y.1=some .local\/(scope.names.lookup y.1=some .cell/\((fw (s.heap.objs.size+1) scope.names []).lookup y.1).isSome=true):=fun ⟨n,v⟩ hy=>by
  rcases S.par n (List.of_mem_zip hy).1 with q | q
  ·exact .inl q
  ·exact .inr ⟨q,PySem.W.cellsFrom_some _ _ _ (.inl q)⟩
 refine codeAny_call_function hr.depth (KX _ _ lk) rfl S.co S.gen rfl (PySem.W.codeRec_of KX hcd) (hb _ _ _ _ ?_);refine wpAny_newFunctionEnv_cells S.kind hkind fun env he s1 x=>?_;subst he;refine ⟨lim.keeps x.toInCall.keep,codeAny_func ?_⟩;obtain ⟨t,ht,hq⟩:=hbody A outer s H vs Q E (hr.deeper _) hsp;have I:Inv (D7 CX P w K mg base N qual scope f cdv A outer s H E) [] (start N vs) H s1:=FA S hr.hd e0 hl r x;refine jl (ht [] s1 (start N vs) H _ I hq) (fun fl s' hs=>?_) fun e s' hs=>hs;have fin:∀ {σ':St} {H':Hp} {v:V} {u:Value},Inv (D7 CX P w K mg base N qual scope f cdv A outer s H E) [] σ' H' s'->RelV v u->Q v H'->CE outer P w H s Q u s':=
  fun {σ' H' v u} J rv q=>⟨v,H',J.os,J.bare,J.base,J.hok,rv,q⟩
 cases fl with
 | ret u=>
  obtain ⟨v,σ',H',J,rv,q⟩:=hs;exact fin J rv q
 | next=>
  obtain ⟨σ',H',J,q⟩:=hs;exact fin (v:=V.non) (u:=b7) J rfl q
 | brk=>
  obtain ⟨_,_,_,q⟩:=hs;exact i3 q
 | cont=>
  obtain ⟨_,_,_,q⟩:=hs;exact i3 q
section
variable {X:Cx} {x:Str} {p pos:Pos} {e:Expr} {es:List Expr} {t:TA} {id T:String} {r:List V->Hp->VK->Prop}
def tCB (r:List V->Hp->VK->Prop) (t:TA):TE:=fun σ H Q=>t σ H fun vs H1=>r vs H1 Q
theorem Hn (hc:cJ X (.builtin id) r) (hg:Gl X x) (hm:X.mg x=none) (hv:kh x=some (.builtin id)) (ha:PA X (e :: es) t) (hn:x≠"__name__" := by decide) (hdb:(x == ("__debug__" : Str))=false:=by decide)
  (he:b0 (e :: es) X.env=(false,eval e X.env) :: b0 es X.env:=by rfl) (hpl:(backTo pos (b0 es X.env)).any (·.1)=false:=by rfl):PE X (.Call (.Name x p) (e :: es) [] pos) (tCB r t):=by
 intro pins s σ H Q I h;refine m8 (mT I hg hm hv ?_ hn hdb);exact PyProof.Rows.callWith_builtin1 (thn (ha pos pins s σ H _ I h) fun us s1 ⟨vs,H1,I1,r1,q1⟩=>hc pins s1 σ H1 vs us Q I1 r1 q1) he hpl
theorem FB (hc:cJ X (.type T) r) (hg:Gl X x) (hm:X.mg x=none) (hv:kh x=some (.type T)) (ha:PA X (e :: es) t) (hn:x≠"__name__" := by decide) (hdb:(x == ("__debug__" : Str))=false:=by decide)
  (he:b0 (e :: es) X.env=(false,eval e X.env) :: b0 es X.env:=by rfl) (hpl:(backTo pos (b0 es X.env)).any (·.1)=false:=by rfl):PE X (.Call (.Name x p) (e :: es) [] pos) (tCB r t):=by
 intro pins s σ H Q I h;refine m8 (mT I hg hm hv ?_ hn hdb);exact j8 (thn (ha pos pins s σ H _ I h) fun us s1 ⟨vs,H1,I1,r1,q1⟩=>hc pins s1 σ H1 vs us Q I1 r1 q1) he hpl
end
end L2
namespace HT
open PySem PyProof.Rows
section
variable {prog:Program} {w:World} {A:Around} {E:Value->Shared->Prop} {s:Shared}
theorem cat_tup {t b:Addr} {vs ws:List Value} {Q:Value->Shared->Prop} (ht:IsTup s.heap t vs.toArray) (hb:IsTup s.heap b ws.toArray) (hv:vs≠[])
  (h1:ws=[]->Q (.ref t) s) (h2:ws≠[]->Q (.ref s.heap.objs.size) { s with heap:=s.heap.push { cls:=.type "tuple",data:=.seq (vs++ws).toArray } })
  (hsz:vs.length+ws.length<=aw):wpAny (model prog w) A (gw .Add (.ref t) (.ref b)) Q E s:=by
 obtain ⟨⟨cls,dd,data,sl⟩,ho,hc,n,hd⟩:=id ht;obtain ⟨⟨cls2,dd2,data2,sl2⟩,ho2,hc2,n2,hd2⟩:=id hb;simp only at hc hd hc2 hd2;subst hc hd hc2 hd2;have e:vs.toArray++ws.toArray=(vs++ws).toArray:=by simp
 by_cases hw:ws=[]
 ·exact concat_meets ⟨_,ho,rfl⟩ ⟨_,ho2,rfl⟩ noFill_tuple_add seq_tuple_add PySem.F.slot_tuple_add PySem.F.entry_tuple_add (PySem.F.args_tuple_add_2 _ _)
   (tuple_addW1 t b vs.toArray ws.toArray n n2 dd dd2 sl sl2 (by simpa using hv) (by simp [hw])) ⟨ho,ho2,h1 hw⟩
 ·refine concat_meets ⟨_,ho,rfl⟩ ⟨_,ho2,rfl⟩ noFill_tuple_add seq_tuple_add PySem.F.slot_tuple_add PySem.F.entry_tuple_add (PySem.F.args_tuple_add_2 _ _)
   (tuple_addW2 t b vs.toArray ws.toArray n n2 dd dd2 sl sl2 (by simpa using hv) (by simpa using hw) (by rw [av,av]; exact hsz)) ⟨ho,ho2,?_⟩
  rw [e];exact h2 hw
def sIx (n d:Nat):Option Int->Nat
 | none=>d
 | some v=>if v < 0 then (v+(n:Int)).toNat else min v.toNat n
theorem NT (n d:Nat) (hd:d<=n) (o:Option Int):sIx n d o<=n:=by
 cases o with
 | none=>exact hd
 | some v=>
  show (if v < 0 then (v+(n:Int)).toNat else min v.toNat n)<=n
  by_cases hv:v < 0
  ·rw [if_pos hv]; omega
  ·rw [if_neg hv]; exact Nat.min_le_right _ _
theorem Ez (v:Int) (n d:Nat):(if v < 0 then max (v+(n:Int)) 0 else min v (n:Int))=((sIx n d (some v):Nat):Int):=by
 show (if v < 0 then max (v+(n:Int)) 0 else min v (n:Int))=(((if v < 0 then (v+(n:Int)).toNat else min v.toNat n):Nat):Int)
 by_cases hv:v < 0
 ·simp only [if_pos hv]; omega
 ·simp only [if_neg hv]; omega
theorem D8 (lo hi:Option Int) (n:Nat):oh lo hi 1 (n:Int)=(((sIx n 0 lo:Nat):Int),((sIx n n hi:Nat):Int)):=by
 have h1:¬ ((1:Int) < 0):=by omega
 unfold oh;simp only [h1,if_false];refine Prod.ext ?_ ?_
 ·cases lo with
  | none=>rfl
  | some v=>exact Ez v n 0
 ·cases hi with
  | none=>rfl
  | some v=>exact Ez v n n
theorem D9 (i j:Nat):ku (i:Int) (j:Int) 1=j - i:=by
 unfold ku;have h1:(1:Int) > 0:=by omega
 simp only [h1,if_true,Int.ediv_one];split <;> omega
theorem tV {v:Value} {o:Option Int} {Q:Option Int->Shared->Prop} (p:IsPart v o) (h:Q o s):wpAny (model prog w) A (Builtin.Slice.slicePartIndex v) Q E s:=by
 cases p with
 | none=>exact slicePart_none h
 | int i t=>exact slicePart_int h
theorem sliceApplied_gen {sl:Addr} {vl vu:Value} {lo hi:Option Int} {n:Nat} {Q:Int×Int×Nat->Shared->Prop} (hs:s.heap.IsSliceOf sl vl vu .none) (pl:IsPart vl lo) (pu:IsPart vu hi)
  (h:Q (((sIx n 0 lo:Nat):Int),1,sIx n n hi - sIx n 0 lo) s):wpAny (model prog w) A (Builtin.Slice.sliceApplied (.ref sl) (pure (n:Int))) Q E s:=by
 obtain ⟨os,hos,hcs,hds⟩:=id hs;unfold Builtin.Slice.sliceApplied Builtin.Slice.sliceFields;refine aa (aa (gr hos hds (x:=vl) rfl (aa (gr hos hds (x:=vu) rfl (aa (gr hos hds (x:=.none) rfl (ab ?_)))))));refine aa (slicePart_none ?_)
 show wpAny _ _ (if ((1:Int) == 0)=true then _ else _) _ _ s
 rw [if_neg (by decide)];refine aa (tV pl (aa (tV pu (aa (ab ?_)))))
 show wpAny _ _ (match oh lo hi 1 (n:Int) with | (lo,hi)=>pure (lo,(1:Int),ku lo hi 1)) _ _ s
 rw [D8 lo hi n]
 show wpAny _ _ (pure (((sIx n 0 lo:Nat):Int),(1:Int),ku ((sIx n 0 lo:Nat):Int) ((sIx n n hi:Nat):Int) 1)) _ _ s
 rw [D9];exact ab h
theorem Ho (xs:Array Value) (i k:Nat):((d0 k).filterMap fun (m:Nat)=>xs[((i:Int)+(m:Int)*1).toNat]?).toArray=((xs.toList.drop i).take k).toArray:=by
 have e:(fun (m:Nat)=>xs[((i:Int)+(m:Int)*1).toNat]?)=fun m=>xs[i+m]?:=by
  funext m
  have:((i:Int)+(m:Int)*1).toNat=i+m:=by omega
  rw [this]
 rw [e];have:=pick_run xs i k;rw [List.filterMap_map] at this;have e2:((fun x=>xs[x]?) ∘ fun x=>i+x)=fun m=>xs[i+m]?:=rfl;rw [e2] at this;rw [this]
theorem getItem_tuple_cut {t sl:Addr} {items:Array Value} {vl vu:Value} {lo hi:Option Int} {Q:Value->Shared->Prop} (ht:IsTup s.heap t items) (hs:s.heap.IsSliceOf sl vl vu .none) (pl:IsPart vl lo) (pu:IsPart vu hi)
  (hw:¬ (sIx items.size 0 lo=0/\sIx items.size items.size hi=items.size))
  (h:Q (.ref s.heap.objs.size) { s with heap:=s.heap.push { cls:=.type "tuple",data:=.seq ((items.toList.drop (sIx items.size 0 lo)).take (sIx items.size items.size hi - sIx items.size 0 lo)).toArray } })
  (hsz:items.size<=aw):wpAny (model prog w) A (getItem (.ref t) (.ref sl)) Q E s:=by
 have htake:sizeOk (.seq ((items.toList.drop (sIx items.size 0 lo)).take (sIx items.size items.size hi - sIx items.size 0 lo)).toArray):=by
  show ((items.toList.drop (sIx items.size 0 lo)).take (sIx items.size items.size hi - sIx items.size 0 lo)).toArray.size<=aw
  rw [av,bq,cx,mf];omega
 have hj:sIx items.size items.size hi<=items.size:=NT _ _ (az _) hi;obtain ⟨os,hos,hcs,hds⟩:=id hs;have hTs:s.TypeIs (.ref sl) "slice" := ⟨os,hos,hcs⟩;unfold getItem
 try with_reducible refine gp ?_
 first | refine aa (ab ?_) | skip
 refine aa (wpAny_sequenceKey ht.typeIs (by decide) ?_);refine aa (d6 (name:=ic "__getitem__") ht.typeIs fo
  (en fo ht.typeIs entry_tuple_getitem ?_ (args_tuple_getitem _ _)))
 show wpAny _ _ (og (.ref t) >>= _) _ _ s
 refine aa (tupleItemsOf_ ht ?_);refine aa (nc hTs ?_);rw [if_pos (by decide)];refine aa (sliceApplied_gen hs pl pu ?_);have hno:¬ ((((sIx items.size 0 lo:Nat):Int) == 0 && (1:Int) == 1 && (sIx items.size items.size hi - sIx items.size 0 lo) == items.size)=true):=by
  intro q;rw [dr,dr] at q;have q1:((sIx items.size 0 lo:Nat):Int)=0:=eq_of_beq q.1.1;have q2:sIx items.size items.size hi - sIx items.size 0 lo=items.size:=eq_of_beq q.2;exact hw ⟨by omega,by omega⟩
 show wpAny _ _ (if (((sIx items.size 0 lo:Nat):Int) == 0 && (1:Int) == 1 && (sIx items.size items.size hi - sIx items.size 0 lo) == items.size)=true then _ else _) _ _ s
 rw [if_neg hno,Ho]
 first
  | exact aa (m:=k9 _) (dm (ab ⟨_,rfl,ab h⟩) htake)
  | exact aa (m:=k9 _) (dm (aa (ab (ab ⟨_,rfl,ab h⟩))) htake)
  | exact aa (aa (m:=k9 _) (dm (ab (ab ⟨_,rfl,ab h⟩)) htake))
  | exact aa (aa (m:=k9 _) (dm (ab ⟨_,rfl,ab h⟩) htake))
end
end HT
namespace L2
open PySem PySem.Spec PyProof.Rows
abbrev TO:=St->Hp->(Option Int->Hp->Prop)->Prop
def PO (X:Cx) (e:Option Expr) (t:TO):Prop:=
 ∀ (pins:List (Addr×Obj)) (s:Shared) (σ:St) (H:Hp) (Q:Option Int->Hp->Prop),Inv X pins σ H s->t σ H Q->
  wpAny (model X.prog X.w) X.A (evalPart e X.env) (fun u s'=>∃ o H',Inv X pins σ H' s'/\IsPart u o/\Q o H') X.xe s
def KJ:TO:=fun _ H Q=>Q none H
section
variable {X:Cx} {e:Expr} {te:TE} {lo hi:Option Expr} {tl th:TO} {pos p2:Pos}
theorem KL:PO X none KJ:=by
 intro pins s σ H Q I h;rw [evalPart_none];exact ab ⟨none,H,I,.none,h⟩
def SlR (X:Cx) (r:V->Option Int->Option Int->Hp->VK->Prop):Prop:=
 ∀ (pins:List (Addr×Obj)) (s:Shared) (σ:St) (H:Hp) (x:V) (v vl vu:Value) (lo hi:Option Int) (sl:Addr) (Q:VK),Inv X pins σ H s->RelV x v->s.heap.IsSliceOf sl vl vu .none->IsPart vl lo->IsPart vu hi->r x lo hi H Q->
  ∃ T id,typeLookup (.type T) "__getitem__" = pure (some (.builtin id))/\s.TypeIs v T/\wpAny (model X.prog X.w) X.A (getItem v (.ref sl)) (EP X pins σ Q) X.xe s
theorem SlR.or {r r':V->Option Int->Option Int->Hp->VK->Prop} (h:SlR X r) (h':SlR X r'):SlR X (fun x lo hi H Q=>r x lo hi H Q\/r' x lo hi H Q):=by
 intro pins s σ H x v vl vu lo hi sl Q I rx hs pl pu q;rcases q with q | q
 ·exact h pins s σ H x v vl vu lo hi sl Q I rx hs pl pu q
 ·exact h' pins s σ H x v vl vu lo hi sl Q I rx hs pl pu q
def tSl (r:V->Option Int->Option Int->Hp->VK->Prop) (te:TE) (tl th:TO):TE:=fun σ H Q=>te σ H fun x H1=>tl σ H1 fun l H2=>th σ H2 fun u H3=>r x l u H3 Q
theorem Hq {r:V->Option Int->Option Int->Hp->VK->Prop} (hr:SlR X r) (he:PE X e te) (hl:PO X lo tl) (hu:PO X hi th):PE X (.Subscript e (.Slice lo hi none p2) pos) (tSl r te tl th):=by
 intro pins s σ H Q I h;refine Subscript_ (thn (he pins s σ H _ I h) fun v s1 hz=>?_);obtain ⟨x,H1,I1,r1,q1⟩:=hz;refine wpAny_Slice (thn (hl pins s1 σ H1 _ I1 q1) fun vl s2 ⟨l,H2,I2,pl,q2⟩=>thn (hu pins s2 σ H2 _ I2 q2) fun vu s3 hz=>?_);obtain ⟨u,H3,I3,pu,q3⟩:=hz;rw [evalPart_none];refine ab ?_;have I4:Inv X pins σ H3 { s3 with heap:=s3.heap.push { cls:=.type "slice",data:=.fields #[vl,vu,.none] } }:=I3.kept (t':=s3.toks) fun b ob q=>ae _ q;obtain ⟨T,id,hT,ht,hg⟩:=hr pins { s3 with heap:=s3.heap.push { cls:=.type "slice",data:=.fields #[vl,vu,.none] } } σ H3 x v vl vu l u s3.heap.objs.size Q I4 r1 (Heap.IsSliceOf.new ..) pl pu q3
 show wpAny (model X.prog X.w) X.A (subscriptTail e (.Slice lo hi none p2) v (.ref s3.heap.objs.size)) (EP X pins σ Q) X.xe { s3 with heap:=s3.heap.push { cls:=.type "slice",data:=.fields #[vl,vu,.none] } }
 exact tail_any (ops:=[.ref s3.heap.objs.size,v]) ht hT hg (by with_unfolding_all rfl)
def B5 (xs:List V) (lo hi:Option Int):List V:=(xs.drop (HT.sIx xs.length 0 lo)).take (HT.sIx xs.length xs.length hi - HT.sIx xs.length 0 lo)
theorem rP (xs:List V) (lo hi:Option Int):(B5 xs lo hi).length<=xs.length:=by
 unfold B5;rw [bq,cx];omega
def Qc (K:ag):V->Option Int->Option Int->Hp->VK->Prop:=fun x lo hi H Q=>∃ a xs,x=.ref a/\SqT K H a xs/\
 ¬ (HT.sIx xs.length 0 lo=0/\HT.sIx xs.length xs.length hi=xs.length)/\∀ p,H p=none->Q (.ref p) (upd H p (.tup (B5 xs lo hi)))
theorem NU:SlR X (Qc X.K):=by
 intro pins s σ H x v vl vu lo hi sl Q I rx hs pl pu h;obtain ⟨a,xs,rfl,hx,hw,q⟩:=h;cases rx
 obtain ⟨its,r,ht,hz⟩:=I.tuple hx;have hlen:its.toArray.size=xs.length:=by rw [av]; exact r.length.symm
 refine ⟨"tuple",_,fo.lookup,ht.typeIs,?_⟩;refine HT.getItem_tuple_cut ht hs pl pu (by rw [hlen]; exact hw) ?_ (by rw [hlen]; exact hz);rw [hlen];refine ⟨.ref s.heap.objs.size,_,I.laid (t':=s.toks) (o:=.tup (B5 xs lo hi)) (fun b ob q=>ae _ q) (az _) ?_,rfl,q _ (I.hok.fresh (az _))⟩;exact ⟨gg (rP xs lo hi) hz,_,(r.drop (HT.sIx xs.length 0 lo)).take (HT.sIx xs.length xs.length hi - HT.sIx xs.length 0 lo),nQ.new _ _⟩
def MZ (K:ag):R2:=fun x y H Q=>∃ a b xs ys,x=.ref a/\y=.ref b/\SqT K H a xs/\SqT K H b ys/\xs≠[]/\xs.length+ys.length<=aw/\
 (ys=[]->Q (.ref a) H)/\(ys≠[]->∀ p,H p=none->Q (.ref p) (upd H p (.tup (xs++ys))))
theorem aN.nil_iff {xs:List V} {us:List Value} (r:aN xs us):us=[] ↔ xs=[]:=by
 cases r with
 | nil=>simp
 | cons _ _=>simp
theorem KM:OpR X (gw .Add) (MZ X.K):=by
 intro pins s σ H x y v u Q I rx ry h;obtain ⟨a,b,xs,ys,rfl,rfl,ha,hb,hx,hz,q1,q2⟩:=h;cases rx
 cases ry
 obtain ⟨its,r1,p1,_⟩:=I.tuple ha;obtain ⟨its2,r2,p2,_⟩:=I.tuple hb;refine HT.cat_tup p1 p2 (fun z=>hx (r1.nil_iff.mp z)) (fun z=>⟨.ref a,H,I,rfl,q1 (r2.nil_iff.mp z)⟩) (fun z=>?_) (by rw [<- r1.length,<- r2.length]; exact hz);refine ⟨.ref s.heap.objs.size,_,I.laid (t':=s.toks) (o:=.tup (xs++ys)) (fun b ob q=>ae _ q) (az _) ?_,rfl,q2 (fun w=>z (r2.nil_iff.mpr w)) _ (I.hok.fresh (az _))⟩;exact ⟨by rw [bo]; exact hz,_,r1.append r2,nQ.new _ _⟩
end
def ixN (n:Nat) (i:Int):Option Nat:=if 0<=i then (if i < n then some i.toNat else none) else if -(n:Int)<=i then some (i+n).toNat else none
def atI {α:Type} (xs:List α) (i:Int):Option α:=(ixN xs.length i).bind fun j=>xs[j]?
theorem EA {n:Nat} {i:Int} {j:Nat} (h:ixN n i=some j):seqIndex? i n=some j/\j < n/\-(n:Int)<=i/\i < n:=by
 unfold ixN at h
 by_cases h0:0<=i
 ·rw [if_pos h0] at h
  by_cases h1:i < n
  ·rw [if_pos h1] at h;have e:i.toNat=j:=b8 h;exact ⟨by rw [seqIndex_of h0 h1,e],by omega,by omega,h1⟩
  ·rw [if_neg h1] at h; cases h
 ·rw [if_neg h0] at h
  by_cases h1:-(n:Int)<=i
  ·rw [if_pos h1] at h;have e:(i+n).toNat=j:=b8 h;exact ⟨by rw [seqIndex_neg (by omega) h1,e],by omega,h1,by omega⟩
  ·rw [if_neg h1] at h; cases h
theorem zO {α:Type} {xs:List α} {i:Int} {v:α} (h:atI xs i=some v):∃ j,seqIndex? i xs.length=some j/\xs[j]?=some v/\j < xs.length/\-(xs.length:Int)<=i/\i < xs.length:=by
 unfold atI at h;cases e:ixN xs.length i with
 | none=>rw [e] at h; cases h
 | some j=>
  rw [e] at h;obtain ⟨h1,h2,h3,h4⟩:=EA e;exact ⟨j,h1,h,h2,h3,h4⟩
def EB (b:Expr):Prop:=∀ o i,subscripted b false o i=operate [o,i] (getItem o i)
def IxR (X:Cx) (r:R2):Prop:=
 ∀ (value slice:Expr) (pins:List (Addr×Obj)) (s:Shared) (σ:St) (H:Hp) (x y:V) (v u:Value) (Q:VK),Inv X pins σ H s->RelV x v->RelV y u->r x y H Q->
  subscripted slice false v u=operate [v,u] (getItem v u)->wpAny (model X.prog X.w) X.A (subscriptTail value slice v u) (EP X pins σ Q) X.xe s
def MtR (X:Cx) (id:String) (r:V->List V->Hp->VK->Prop):Prop:=
 ∀ (pins:List (Addr×Obj)) (s:Shared) (σ:St) (H:Hp) (x:V) (xs:List V) (v:Value) (us:List Value) (Q:VK),Inv X pins σ H s->RelV x v->aN xs us->r x xs H Q->
  wpAny (model X.prog X.w) X.A (call (.builtin id) (v :: us)) (EP X pins σ Q) X.xe s
section
variable {X:Cx} {a b:Expr} {ta tb:TE} {pos:Pos}
theorem IxR.or {r r':R2} (h:IxR X r) (h':IxR X r'):IxR X (fun x y H Q=>r x y H Q\/r' x y H Q):=by
 intro value slice pins s σ H x y v u Q I rx ry q hs;rcases q with q | q
 ·exact h value slice pins s σ H x y v u Q I rx ry q hs
 ·exact h' value slice pins s σ H x y v u Q I rx ry q hs
theorem Qd {r:R2} (hr:IxR X r) (ha:PE X a ta) (hb:PE X b tb) (hs:EB b):PE X (.Subscript a b pos) (tOp r ta tb):=by
 intro pins s σ H Q I h;exact Subscript_ (NG ha hb I h fun v u s2 x y H2 I2 rx ry q=>hr a b pins s2 σ H2 x y v u Q I2 rx ry q (hs _ _))
def SN (K:ag):R2:=fun x y H Q=>∃ p xs i v,x=.ref p/\y=.int i/\SqL K H p xs/\atI xs i=some v/\Q v H
def SQ (K:ag):R2:=fun x y H Q=>∃ p xs i v,x=.ref p/\y=.int i/\SqT K H p xs/\atI xs i=some v/\Q v H
def SR:R2:=fun x y H Q=>∃ z i c,x=.str z/\y=.int i/\z.length<=aw/\atI z.cps.toList i=some c/\Q (.str ⟨#[c]⟩) H
theorem KN:IxR X (SN X.K):=by
 intro value slice pins s σ H x y v u Q I rx ry h hs;obtain ⟨p,xs,i,z,rfl,rfl,hq,he,q⟩:=h;cases rx
 obtain ⟨t,rfl⟩:=ry;obtain ⟨its,r,pl,hz⟩:=I.list hq;obtain ⟨j,h1,h2,h3,h4,h5⟩:=zO he;obtain ⟨w,ew,rw'⟩:=r.get h2;have hl:=r.length;have hn:=mU;have fin:EP X pins σ Q w s:=⟨z,H,I,rw',q⟩
 by_cases h0:0<=i
 ·have hj:i.toNat=j:=by
   rw [seqIndex_of h0 h5] at h1;exact b8 h1
  exact item_listR pl.isList h0 (by omega) (by rw [hj]; simpa using ew) fin hs
 ·have hj:(i+(its.toArray.size:Int)).toNat=j:=by
   rw [seqIndex_neg (by omega) h4] at h1;rw [av,<- hl];exact b8 h1
  exact subscriptTail_builtinR (x:=w) pl.isList.typeIs slot_list_getitem.lookup
   (wpAny_getItem_list_neg (Q:=fun r s'=>r=w/\EP X pins σ Q r s') pl.isList (by omega) (by rw [av] <;> omega) (by omega) (by rw [hj]; simpa using ew) ⟨rfl,fin⟩) hs
theorem NV:IxR X (SQ X.K):=by
 intro value slice pins s σ H x y v u Q I rx ry h hs;obtain ⟨p,xs,i,z,rfl,rfl,hq,he,q⟩:=h;cases rx
 obtain ⟨t,rfl⟩:=ry;obtain ⟨its,r,pl,hz⟩:=I.tuple hq;obtain ⟨j,h1,h2,h3,h4,h5⟩:=zO he;obtain ⟨w,ew,rw'⟩:=r.get h2;have hl:=r.length;have hn:=mU;have fin:EP X pins σ Q w s:=⟨z,H,I,rw',q⟩;exact subscriptTail_builtinR (x:=w) pl.typeIs slot_tuple_getitem.lookup
  (getItem_tuple (j:=j) (Q:=fun r s'=>r=w/\EP X pins σ Q r s') pl (by omega) (by omega) (by rw [av,<- hl]; exact h1) (by simpa using ew) ⟨rfl,fin⟩) hs
theorem NW:IxR X SR:=by
 intro value slice pins s σ H x y v u Q I rx ry h hs;obtain ⟨z,i,c,rfl,rfl,hz,he,q⟩:=h;obtain ⟨t,rfl⟩:=rx;obtain ⟨t',rfl⟩:=ry;obtain ⟨j,h1,h2,h3,h4,h5⟩:=zO he;have hl:z.cps.toList.length=z.length:=by simp [Str.length]
 rw [hl] at h1 h4 h5;have hn:=mU;exact tail_any (typeIs_str s z t) slot_str_getitem.lookup (getItem_str (c:=c) (by
  have e1:decide (i < -(2 ^ 63:Int))=false:=decide_eq_false (by omega);have e2:decide (i >= 2 ^ 63)=false:=decide_eq_false (by omega);rw [e1,e2,Bool.or_false]) (by rw [h1]; simpa using h2) ⟨.str ⟨#[c]⟩,H,I.tok _,⟨_,rfl⟩,q⟩) hs
theorem Da (its:List Value) (n j:Nat) (u:Value):fc (·.setIfInBounds j u) { cls:=.type "list",data:=.seq its.toArray n }={ cls:=.type "list",data:=.seq (its.set j u).toArray n }:=by
 simp [fc]
theorem Inv.lst {pins:List (Addr×Obj)} {σ:St} {H:Hp} {s:Shared} {p:Addr} {xs:List V} (I:Inv X pins σ H s) (h:H p=some (.lst xs)):
  ∃ (its:List Value) (n:Nat),aN xs its/\s.heap.get? p=some { cls:=.type "list",data:=.seq its.toArray n }/\xs.length<=aw:=by
 obtain ⟨z,its,n,r,e⟩:=I.hok p _ h;exact ⟨its,n,r,e,z⟩
theorem Inv.lstUpd {pins:List (Addr×Obj)} {σ:St} {H:Hp} {s:Shared} {p:Addr} {xs ys:List V} {its its':List Value} {n n':Nat} {f:Obj->Obj} (I:Inv X pins σ H s) (h:H p=some (.lst xs))
  (ho:s.heap.get? p=some { cls:=.type "list",data:=.seq its.toArray n }) (hf:f { cls:=.type "list",data:=.seq its.toArray n }={ cls:=.type "list",data:=.seq its'.toArray n' }) (r:aN ys its') (hz:ys.length<=aw) (t:Nat):
  Inv X pins σ (upd H p (.lst ys)) { s with heap:=s.heap.update p f,toks:=t }:=by
 have e:(s.heap.update p f).get? p=some { cls:=.type "list",data:=.seq its'.toArray n' }:=by
  rw [fg f ho (by rw [hf] <;> rfl),hf]
 refine I.write (x:=p) (e:=p) (by rw [h]; trivial) (.inl rfl) (fun b u hb q=>(iw _ _ (ik hb)).trans q) ⟨_,e⟩ ?_;exact ⟨hz,its',n',r,e⟩
def Qe:V->V->V->Hp->(Hp->Prop)->Prop:=fun o i v H Q=>∃ p xs k j,o=.ref p/\i=.int k/\H p=some (.lst xs)/\ixN xs.length k=some j/\Q (upd H p (.lst (xs.set j v)))
theorem set_list:Sy X Qe:=by
 intro pins s σ H o i v ov iv u Q I ro ri rv h;obtain ⟨p,xs,k,j,rfl,rfl,hp,hj,q⟩:=h;cases ro
 obtain ⟨t,rfl⟩:=ri;obtain ⟨its,n,r,ho,hz⟩:=I.lst hp;obtain ⟨h1,h2,h3,h4⟩:=EA hj;have hl:=r.length;have hn:=mU;have I':Inv X pins σ (upd H p (.lst (xs.set j v))) { s with heap:=s.heap.update p (fc (·.setIfInBounds j u)) }:=
  I.lstUpd hp ho (Da its n j u) (r.set rv j) (by rw [jd]; exact hz) s.toks
 by_cases h0:0<=k
 ·have hk:k.toNat=j:=by
   rw [seqIndex_of h0 h4] at h1;exact b8 h1
  exact PySem.W.ki_setAt ho h0 (by omega) (by rw [av,<- hl]; exact h4) (by rw [hk]; exact ⟨_,I',q⟩)
 ·have hk:(k+(its.toArray.size:Int)).toNat=j:=by
   rw [seqIndex_neg (by omega) h3] at h1;rw [av,<- hl];exact b8 h1
  exact PySem.W.ki_setBack ho (by omega) (by rw [av,<- hl]; exact h3) (by omega) (by rw [hk]; exact ⟨_,I',q⟩)
theorem zP (lo hi:Option Int) (n:Nat):(sliceBounds lo hi none n).1=((HT.sIx n 0 lo:Nat):Int)/\(sliceBounds lo hi none n).2.1=((HT.sIx n n hi:Nat):Int)/\(sliceBounds lo hi none n).2.2=1:=by
 refine ⟨?_,?_,rfl⟩
 ·cases lo with
  | none=>simp [sliceBounds,HT.sIx]
  | some i=>
   simp only [sliceBounds,HT.sIx,Option.getD_none,show (1:Int) > 0 by decide,if_true]
   by_cases h:i < 0
   ·simp only [h,if_true] <;> omega
   ·simp only [h,if_false] <;> omega
 ·cases hi with
  | none=>simp [sliceBounds,HT.sIx]
  | some i=>
   simp only [sliceBounds,HT.sIx,Option.getD_none,show (1:Int) > 0 by decide,if_true]
   by_cases h:i < 0
   ·simp only [h,if_true] <;> omega
   ·simp only [h,if_false] <;> omega
theorem wX (its:List Value) (lo hi:Option Int):slicePick its.toArray lo hi none=((its.drop (HT.sIx its.length 0 lo)).take (HT.sIx its.length its.length hi - HT.sIx its.length 0 lo)).toArray:=by
 obtain ⟨h1,h2,h3⟩:=zP lo hi its.toArray.size;unfold slicePick;rw [h1,h2,h3];simp only [sliceRange_one,pick_run,av] <;> rfl
def Qf (K:ag):V->Option Int->Option Int->Hp->VK->Prop:=fun x lo hi H Q=>∃ a xs,x=.ref a/\SqL K H a xs/\∀ p,H p=none->Q (.ref p) (upd H p (.lst (B5 xs lo hi)))
theorem KO:SlR X (Qf X.K):=by
 intro pins s σ H x v vl vu lo hi sl Q I rx hs pl pu h;obtain ⟨a,xs,rfl,hx,q⟩:=h;cases rx
 obtain ⟨its,r,ht,hz⟩:=I.list hx;have hlen:=r.length;refine ⟨"list",_,slot_list_getitem.lookup,ht.isList.typeIs,?_⟩;refine wpAny_getItem_list_slice ht.isList hs pl pu .none (by simp) ?_ (by rw [av] <;> omega);rw [wX,<- hlen];refine ⟨.ref s.heap.objs.size,_,I.laid (t':=s.toks) (o:=.lst (B5 xs lo hi)) (fun b ob q=>ae _ q) (az _) ?_,rfl,q _ (I.hok.fresh (az _))⟩;exact ⟨gg (rP xs lo hi) hz,_,0,(r.drop (HT.sIx xs.length 0 lo)).take (HT.sIx xs.length xs.length hi - HT.sIx xs.length 0 lo),aj _ rfl⟩
def rQ:V->Bool
 | .non=>true
 | .bl _=>true
 | .int _=>true
 | .str _=>true
 | _=>false
def eqV:V->V->Bool
 | .non,.non=>true
 | .bl a,.bl b=>a == b
 | .bl a,.int b=>(if a then 1 else 0) == b
 | .int a,.bl b=>a == (if b then 1 else 0)
 | .int a,.int b=>a == b
 | .str a,.str b=>a == b
 | _,_=>false
theorem NX {A:Around} {s:Shared} {y x:V} {u v:Value} (ry:RelV y u) (rx:RelV x v) (fy:rQ y=true) (fx:rQ x=true):SeqAt.EqAt A s u v (eqV y x):=by
 cases y with
 | non=>
  cases ry
  cases x with
  | non=>cases rx; exact SeqAt.EqAt.same _
  | bl b=>cases rx; exact SeqAt.EqAt.none_bool b
  | int b=>obtain ⟨t,rfl⟩:=rx; exact SeqAt.EqAt.none_int b t
  | str b=>obtain ⟨t,rfl⟩:=rx; exact SeqAt.EqAt.none_str b t
  | _=>exact absurd (show false=true from fx) bp
 | bl a=>
  cases ry
  cases x with
  | non=>cases rx; exact SeqAt.EqAt.bool_none a
  | bl b=>cases rx; exact SeqAt.EqAt.bool_bool a b
  | int b=>obtain ⟨t,rfl⟩:=rx; exact SeqAt.EqAt.bool_int a b t
  | str b=>obtain ⟨t,rfl⟩:=rx; exact SeqAt.EqAt.bool_str a b t
  | _=>exact absurd (show false=true from fx) bp
 | int a=>
  obtain ⟨t',rfl⟩:=ry;cases x with
  | non=>cases rx; exact SeqAt.EqAt.int_none a t'
  | bl b=>cases rx; exact SeqAt.EqAt.int_bool a t' b
  | int b=>obtain ⟨t,rfl⟩:=rx; exact SeqAt.EqAt.int_int a t' b t
  | str b=>obtain ⟨t,rfl⟩:=rx; exact SeqAt.EqAt.int_str a t' b t
  | _=>exact absurd (show false=true from fx) bp
 | str a=>
  obtain ⟨t',rfl⟩:=ry;cases x with
  | non=>cases rx; exact SeqAt.EqAt.str_none a t'
  | bl b=>cases rx; exact SeqAt.EqAt.str_bool a t' b
  | int b=>obtain ⟨t,rfl⟩:=rx; exact SeqAt.EqAt.str_int a t' b t
  | str b=>obtain ⟨t,rfl⟩:=rx; exact SeqAt.EqAt.str_str a t' b t
  | _=>exact absurd (show false=true from fx) bp
 | _=>exact absurd (show false=true from fy) bp
def eqU (x:V) (u:Value):Bool:=match u with
 | .none=>eqV .non x
 | .bool b=>eqV (.bl b) x
 | .int i _=>eqV (.int i) x
 | .str z _=>eqV (.str z) x
 | _=>false
theorem Hr {x y:V} {u:Value} (r:RelV y u) (f:rQ y=true):eqU x u=eqV y x:=by
 cases y with
 | non=>cases r; rfl
 | bl b=>cases r; rfl
 | int i=>obtain ⟨t,rfl⟩:=r; rfl
 | str z=>obtain ⟨t,rfl⟩:=r; rfl
 | _=>exact absurd (show false=true from f) bp
theorem nS {x:V}:∀ {xs:List V} {us:List Value},aN xs us->xs.all rQ=true->us.any (eqU x)=xs.any fun y=>eqV y x
 | _,_,.nil,_=>rfl
 | y :: xs,u :: us,.cons r t,f=>by
  rw [jx,dr] at f;rw [mq,mq,Hr r f.1,nS t f.2]
theorem jU {A:Around} {s:Shared} {x:V} {v:Value} (rx:RelV x v) (fx:rQ x=true):∀ {xs:List V} {us:List Value},aN xs us->xs.all rQ=true->∀ u∈us,SeqAt.EqAt A s u v (eqU x u)
 | _,_,.nil,_=>fun u hu=>by cases hu
 | y :: xs,u :: us,.cons r t,f=>fun u' hu=>by
  rw [jx,dr] at f;rcases bw.mp hu with rfl | hu
  ·rw [Hr r f.1]; exact NX r rx f.1 fx
  ·exact jU rx fx t f.2 u' hu
def inV (x:V) (xs:List V):Bool:=xs.any fun y=>eqV y x
def rIn (K:ag) (neg:Bool):R2:=fun x y H Q=>∃ p xs,y=.ref p/\(SqL K H p xs\/SqT K H p xs)/\rQ x=true/\xs.all rQ=true/\Q (.bl (if neg then !inV x xs else inV x xs)) H
theorem FC:OpR X (fm .In) (rIn X.K false):=by
 intro pins s σ H x y v u Q I rx ry h;obtain ⟨p,xs,rfl,hq,fx,fs,q⟩:=h;cases ry
 rcases hq with hq | hq
 ·obtain ⟨its,r,pl,hz⟩:=I.list hq;refine SeqAt.in_listAt (eqU x) pl.isList (fun w hw=>jU rx fx r fs w (by simpa using hw)) ⟨.bl _,H,I,rfl,?_⟩
  rw [show its.toArray.any (eqU x)=its.any (eqU x) by simp,nS r fs];exact q
 ·obtain ⟨its,r,pl,hz⟩:=I.tuple hq;refine SeqAt.in_tupleAt (eqU x) pl (fun w hw=>jU rx fx r fs w (by simpa using hw)) ⟨.bl _,H,I,rfl,?_⟩
  rw [show its.toArray.any (eqU x)=its.any (eqU x) by simp,nS r fs];exact q
theorem zQ:OpR X (fm .NotIn) (rIn X.K true):=by
 intro pins s σ H x y v u Q I rx ry h;obtain ⟨p,xs,rfl,hq,fx,fs,q⟩:=h;cases ry
 rcases hq with hq | hq
 ·obtain ⟨its,r,pl,hz⟩:=I.list hq;refine SeqAt.notIn_listAt (eqU x) pl.isList (fun w hw=>jU rx fx r fs w (by simpa using hw)) ⟨.bl _,H,I,rfl,?_⟩
  rw [show its.toArray.any (eqU x)=its.any (eqU x) by simp,nS r fs];exact q
 ·obtain ⟨its,r,pl,hz⟩:=I.tuple hq;refine SeqAt.notIn_tupleAt (eqU x) pl (fun w hw=>jU rx fx r fs w (by simpa using hw)) ⟨.bl _,H,I,rfl,?_⟩
  rw [show its.toArray.any (eqU x)=its.any (eqU x) by simp,nS r fs];exact q
theorem zR:cJ X (.builtin "len") (fun xs H Q=>∃ p ys,xs=[.ref p]/\(SqL X.K H p ys\/SqT X.K H p ys)/\Q (.int ys.length) H):=by
 intro pins s σ H xs us Q I r h;obtain ⟨p,ys,rfl,hq,q⟩:=h;obtain ⟨u,rfl,rx⟩:=vals1 r;cases rx
 have hn:=mU;rcases hq with hq | hq
 ·obtain ⟨its,r',pl,hz⟩:=I.list hq;have hlen:=r'.length;exact Calls.call_len_list pl.isList (by simp only [av] <;> omega) ⟨.int ys.length,H,I.tok _,⟨s.toks+1,by rw [av,hlen]⟩,q⟩
 ·obtain ⟨its,r',pl,hz⟩:=I.tuple hq;have hlen:=r'.length;exact len_tuple pl (by simp only [av] <;> omega) ⟨.int ys.length,H,I.tok _,⟨s.toks+1,by rw [av,hlen]⟩,q⟩
theorem cJ.or {f:Value} {r r':List V->Hp->VK->Prop} (h:cJ X f r) (h':cJ X f r'):cJ X f (fun xs H Q=>r xs H Q\/r' xs H Q):=by
 intro pins s σ H xs us Q I rs q;rcases q with q | q
 ·exact h pins s σ H xs us Q I rs q
 ·exact h' pins s σ H xs us Q I rs q
theorem zS:cJ X (.type "list") (fun xs H Q=>∃ p ys,xs=[.ref p]/\(SqL X.K H p ys\/SqT X.K H p ys)/\∀ l,H l=none->Q (.ref l) (upd H l (.lst ys))):=by
 intro pins s σ H xs us Q I r h;obtain ⟨p,ys,rfl,hq,q⟩:=h;obtain ⟨u,rfl,rx⟩:=vals1 r;cases rx
 have fin:∀ (its:List Value),aN ys its->ys.length<=aw->∀ (h':Heap) (c':Nat),(∀ b o',s.heap.get? b=some o'->h'.get? b=some o')->
   h'.get? s.heap.objs.size=some { cls:=.type "list",dict:=none,data:=.seq its.toArray c',slots:=#[] }->EP X pins σ Q (.ref s.heap.objs.size) { s with heap:=h' }:=fun its r' hz h' c' kp e=>
  ⟨.ref s.heap.objs.size,_,I.laid (t':=s.toks) kp (az _) (show bP X.prog X.w _ h' _ (.lst ys) from ⟨hz,its,c',r',e⟩),rfl,q _ (I.hok.fresh (az _))⟩
 rcases hq with hq | hq
 ·obtain ⟨its,r',pl,hz⟩:=I.list hq;have hlen:=r'.length;obtain ⟨o,ho,hc,n,hd⟩:=pl.isList;exact call_list_seq p (.inl rfl) ho hc hd (fun h' c' kp e=>fin its r' hz h' c' kp e) (by simp only [av] <;> omega)
 ·obtain ⟨its,r',pl,hz⟩:=I.tuple hq;have hlen:=r'.length;obtain ⟨o,ho,hc,n,hd⟩:=pl;exact call_list_seq p (.inr rfl) ho hc hd (fun h' c' kp e=>fin its r' hz h' c' kp e) (by simp only [av] <;> omega)
theorem wY:cJ X (.type "tuple") (fun xs H Q=>∃ p ys,xs=[.ref p]/\((SqL X.K H p ys/\∀ l,H l=none->Q (.ref l) (upd H l (.tup ys)))\/(SqT X.K H p ys/\Q (.ref p) H))):=by
 intro pins s σ H xs us Q I r h;obtain ⟨p,ys,rfl,h⟩:=h;obtain ⟨u,rfl,rx⟩:=vals1 r;cases rx
 rcases h with ⟨hq,q⟩ | ⟨hq,q⟩
 ·obtain ⟨its,r',pl,hz⟩:=I.list hq;have hlen:=r'.length;refine call_tuple_list pl.isList (fun h' kp=>?_) (by simp only [av] <;> omega);have I1:Inv X pins σ H { s with heap:=h' }:=I.kept (t':=s.toks) kp;have I2:Inv X pins σ (upd H h'.objs.size (.tup ys)) { s with heap:=h'.push { cls:=.type "tuple",data:=.seq its.toArray } }:=
   I1.laid (t':=s.toks) (fun b o e=>ae _ e) (az _) (show bP X.prog X.w _ _ _ (.tup ys) from ⟨hz,its,r',nQ.new _ _⟩)
  exact ⟨.ref h'.objs.size,_,I2,rfl,q _ (I1.hok.fresh (az _))⟩
 ·obtain ⟨its,r',pl,hz⟩:=I.tuple hq;exact call_tuple_same pl ⟨.ref p,H,I,rfl,q⟩
def tyV (K:ag) (T:String) (x:V) (H:Hp):Prop:=match x with
 | .str _=>T="str"
 | .int _=>T="int"
 | .ref p=>(T="list" /\ ∃ xs,SqL K H p xs)\/(T="tuple" /\ ∃ o,K.lookup p=some o/\o.cls=.type "tuple" /\ o.dict=none)\/
   (T="dict" /\ ((∃ kvs,H p=some (.dK kvs))\/∃ kvs,H p=some (.dT kvs)))\/(T="set" /\ ∃ S n,H p=some (.set S n))
 | _=>False
theorem NY {pins:List (Addr×Obj)} {σ:St} {H:Hp} {s:Shared} {T:String} {x:V} {v:Value} (I:Inv X pins σ H s) (r:RelV x v) (ty:tyV X.K T x H):
  s.TypeIs v T/\∀ a,v=.ref a->∃ ob,s.heap.get? a=some ob/\ob.dict=none:=by
 cases x with
 | str z=>
  obtain ⟨t,rfl⟩:=r;cases (show T="str" from ty)
  exact ⟨typeIs_str s z t,fun _ e=>nomatch e⟩
 | int i=>
  obtain ⟨t,rfl⟩:=r;cases (show T="int" from ty)
  exact ⟨typeIs_int s i t,fun _ e=>nomatch e⟩
 | ref p=>
  cases r
  rcases ty with ⟨rfl,xs,hq⟩ | ⟨rfl,o,hk,hc,hd⟩ | ⟨rfl,hk⟩ | ⟨rfl,S,n,hk⟩
  ·obtain ⟨its,_,pl,_⟩:=I.list hq;refine ⟨pl.isList.typeIs,fun a e=>?_⟩;cases e
   obtain ⟨o,n,e,c,hd,_⟩:=pl;exact ⟨o,e,hd⟩
  ·refine ⟨⟨o,I.kIn p o hk,hc⟩,fun a e=>?_⟩;cases e
   exact ⟨o,I.kIn _ o hk,hd⟩
  ·have z:∃ o,s.heap.get? p=some o/\o.ExactDict:=by
    rcases hk with ⟨kvs,hk⟩ | ⟨kvs,hk⟩
    ·obtain ⟨_,_,_,_,o,_,_,e,ex,_⟩:=I.hok p _ hk;exact ⟨o,e,ex⟩
    ·obtain ⟨_,_,_,_,o,_,_,e,ex,_⟩:=I.hok p _ hk;exact ⟨o,e,ex⟩
   obtain ⟨o,e,ex⟩:=z;refine ⟨⟨o,e,ex.1⟩,fun a e2=>?_⟩;cases e2
   exact ⟨o,e,ex.2.1⟩
  ·obtain ⟨o,_,_,_,e,ex,_⟩:=I.hok p _ hk;refine ⟨⟨o,e,ex.1⟩,fun a e2=>?_⟩;cases e2
   exact ⟨o,e,ex.2.1⟩
 | _=>exact i3 ty
def tBM (K:ag) (T:String) (r:V->List V->Hp->VK->Prop) (to:TE) (t:TA):TE:=fun σ H Q=>to σ H fun x H1=>tyV K T x H1/\t σ H1 fun xs H2=>r x xs H2 Q
variable {o e:Expr} {es:List Expr} {to:TE} {t:TA} {name:Str} {apos cpos:Pos} {T id:String} {r:V->List V->Hp->VK->Prop}
theorem Qi (pa:PlainAttrs T) (slot:Slot T name id) (hty:typeOf (.builtin id)=pure (.type "method_descriptor")) (hm:MtR X id r) (ho:PE X o to) (ha:PA X (e :: es) t)
  (hbase:kj o name X.env (eval o X.env)=eval o X.env:=by rfl)
  (hfew:((backTo cpos (b0 (e :: es) X.env)).all (fun x=>!x.1) && (backToKw cpos (keywordEach [] X.env)).all (fun x=>x.1.isSome)
   && decide ((e :: es).length+([]:List Keyword).length+(if ([]:List Keyword).isEmpty then 0 else 1) < 30))=true:=by rfl)
  (hline:(apos.endLine == cpos.line)=true:=by rfl) (hs:b0 (e :: es) X.env=(false,eval e X.env) :: b0 es X.env:=by rfl) (hplain:(backTo cpos (b0 es X.env)).any (·.1)=false:=by rfl):
  PE X (.Call (.Attribute o name apos) (e :: es) [] cpos) (tBM X.K T r to t):=by
 intro pins s σ H Q I h;refine wpAny_Call_method_late hbase hfew hline rfl (thn (ho pins s σ H _ I h) fun v s1 hz=>?_);obtain ⟨x,H1,I1,r1,ty,q1⟩:=hz;obtain ⟨h1,h2⟩:=NY I1 r1 ty;refine ⟨T,id,pa,slot,hty,h1,h2,?_⟩;have hA:=ha cpos pins s1 σ H1 _ I1 q1;rw [hs] at hA ⊢;refine Calls.callWith_builtin (by show (false || (backTo cpos (b0 es X.env)).any (·.1))=false; rw [hplain] <;> rfl) (Calls.evalArgs_plain ?_);exact thn hA fun us s2 ⟨vs,H2,I2,r2,q2⟩=>hm pins s2 σ H2 x vs v us Q I2 r1 r2 q2
end
def MtM (X:Cx) (id:String) (r:V->List V->Hp->VK->Prop):Prop:=
 ∀ (pins:List (Addr×Obj)) (s:Shared) (σ:St) (H:Hp) (x:V) (xs:List V) (v:Value) (us:List Value) (Q:VK),Inv X pins σ H s->RelV x v->aN xs us->r x xs H Q->
  wpAny (model X.prog X.w) X.A (call (.builtin id) (v :: us)) (EP X pins σ Q) X.xe s
theorem aN.one:∀ {x:V} {us:List Value},aN [x] us->∃ u,us=[u]/\RelV x u
 | _,_,.cons r .nil=>⟨_,rfl,r⟩
section
variable {X:Cx} {pins:List (Addr×Obj)} {σ:St} {H:Hp} {s:Shared} {l b:Addr} {xs ys zs:List V}
theorem Inv.lset {its its':List Value} {n:Nat} {f:Array Value->Array Value} {t':Nat} (I:Inv X pins σ H s) (hH:H l=some (.lst xs))
  (e:s.heap.get? l=some { cls:=.type "list",data:=.seq its.toArray n }) (hf:f its.toArray=its'.toArray) (hv:aN ys its') (hz:ys.length<=aw):
  Inv X pins σ (upd H l (.lst ys)) { s with heap:=s.heap.update l (fc f),toks:=t' }:=by
 have q:=PySem.IsL.update e f;rw [hf] at q;refine I.write (x:=l) (e:=l) (by rw [hH]; exact trivial) (.inl rfl) (fun b' u hb hu=>(iw s.heap (fc f) (ik hb)).trans hu) ⟨_,q⟩ ?_;exact ⟨hz,its',_,hv,q⟩
theorem Inv.lnew {its:List Value} {t':Nat} (I:Inv X pins σ H s) (hv:aN ys its) (hz:ys.length<=aw):
  Inv X pins σ (upd H s.heap.objs.size (.lst ys)) { s with heap:=s.heap.push { cls:=.type "list",data:=.seq its.toArray },toks:=t' }:=
 I.laid (fun _ _ q=>ae _ q) (az _) ⟨hz,its,0,hv,aj _ rfl⟩
theorem Inv.fresh (I:Inv X pins σ H s):H s.heap.objs.size=none:=I.hok.fresh (az _)
theorem Inv.lstM (I:Inv X pins σ H s) (hH:H l=some (.lst xs)):xs.length<=aw/\∃ (its:List Value) (n:Nat),aN xs its/\xs.length=its.length/\s.heap.get? l=some { cls:=.type "list",data:=.seq its.toArray n }:=by
 obtain ⟨z,its,n,r,e⟩:=I.hok l _ hH;exact ⟨z,its,n,r,r.length,e⟩
end
section
variable {X:Cx}
def EC:V->List V->Hp->VK->Prop:=fun x vs H Q=>∃ l xs y,x=.ref l/\vs=[y]/\H l=some (.lst xs)/\xs.length < aw/\Q .non (upd H l (.lst (xs++[y])))
theorem yD:MtM X "list.append" EC:=by
 intro pins s σ H x vs v us Q I rx rv h;obtain ⟨l,xs,y,rfl,rfl,hH,hz,q⟩:=h;cases rx
 obtain ⟨u,rfl,ru⟩:=rv.one;obtain ⟨z,its,n,r,hl,e⟩:=I.lstM hH;refine call_meets F.slot_list_append ⟨_,e,rfl⟩ F.entry_list_append (F.args_list_append_2 _ _) (PySem.list_append l its.toArray n u (by rw [av]; omega)) ⟨e,?_⟩;refine ⟨.non,_,I.lset (its':=its++[u]) hH e (by simp) (r.append (.cons ru .nil)) ?_,rfl,q⟩;rw [bo,List.length_singleton];omega
def Qj:R2:=fun x y H Q=>∃ l b xs zs,x=.ref l/\y=.ref b/\H l=some (.lst xs)/\H b=some (.lst zs)/\xs.length+zs.length<=aw/\∀ p,H p=none->Q (.ref p) (upd H p (.lst (xs++zs)))
theorem NZ:OpR X (gw .Add) Qj:=by
 intro pins s σ H x y v u Q I rx ry h;obtain ⟨l,b,xs,zs,rfl,rfl,hH,hB,hz,q⟩:=h;cases rx
 cases ry
 obtain ⟨z,its,n,r,hl,e⟩:=I.lstM hH;obtain ⟨z2,its2,n2,r2,hl2,e2⟩:=I.lstM hB;refine PySem.P.add_list e e2 ?_ (by rw [av,av]; omega);have ea:its.toArray++its2.toArray=(its++its2).toArray:=by simp
 rw [ea];exact ⟨.ref _,_,I.lnew (t':=s.toks) (r.append r2) (by rw [bo]; omega),rfl,q _ I.fresh⟩
end
end L2
namespace Att
open PySem PySem.W PySem.Calls PyProof.Rows
theorem sO {P:Params} {h:Heap}:∀ (ns:List Int) (vs:List Value),WellAll P h vs (ns.map WData.int)->IntsAre vs ns:=by
 intro ns
 induction ns with
 | nil=>
  intro vs w;rw [o7] at w;cases w
  exact .nil
 | cons n ns ih=>
  intro vs w;rw [cy] at w;cases w with
  | cons a b=>
   cases a
   exact .cons _ _ (ih _ b)
theorem FD {l:OpenLaw} {n:Nat} (hn:l.most=some n) {P:Params} {h:Heap} {args:List WData} {vals:List Value}
  (hpre:l.row.toRowW.claim.pre args=true) (hwl:WellAll P h vals args):
  ∃ a vs ns,vals=[bx a]/\args=[WData.list (ns.map WData.int)]/\h.get? a=some { cls:=.type "list",data:=.seq vs.toArray }/\IntsAre vs ns/\ns.length<=n:=by
 have hsh:WShape.hasAll [] args [.list .int]=true:=(pre_splitW hpre).1;have hc:l.pre.holds [] { args:=args }=true:=(pre_splitW hpre).2;obtain ⟨d,r,rfl,h1,h2⟩:=hasAllW_cons hsh;obtain rfl:=hasAllW_nil h2;obtain ⟨xs,rfl,h3⟩:=hasW_list h1;obtain ⟨ns,rfl⟩:=items_int h3;have hlen:ns.length<=n:=by
  unfold OpenLaw.pre at hc;have h4:(WTm.not (.lt (.lit (.int (n:Int))) (.len (.arg 0)))).holds [] { args:=[.list (ns.map .int)] }=true:=by
   have h4:=(holds_andW hc).1;rw [hn] at h4;exact h4
  have h5:=condW_of h4 (w_not (w_lt w_lit (w_len_list (w_arg rfl))));rw [ar] at h5;refine Nat.le_of_not_lt fun q=>?_;have q':(n:Int) < ((ns.length:Nat):Int):=by omega
  first
   | (rw [decide_eq_true q'] at h5; exact absurd h5 (by decide))
   | (simp at h5; omega)
 cases hwl with
 | cons w1 w2=>
  cases w2
  cases w1 with
  | list ho hall=>exact ⟨_,_,ns,rfl,rfl,ho,sO ns _ hall,hlen⟩
theorem FF (l:OpenLaw) (args:List WData):l.row.toRowW.claim.post args (.bool true) args=true:=
 postW_of (r:=l.row.toRowW) (X:=(true == true))
  (show WShape.has [] (.bool true) .bool=true by first | rfl | decide | simp [WShape.has,WShape.arms,WShape.armsAll])
  (show (WTm.eq .res (.lit (.bool true))).value [] { args:=args,res:=some (.bool true),after:=args }=some (.bool (true == true)) from w_eq_bool (w_res rfl) w_lit) rfl
theorem attach_call {l:OpenLaw} {n:Nat} {q:Program} {loose:List Str} {XP:(Str->Option Value)->Heap->Prop} {YP:World->Heap->Prop} {d:DefRec}
  (hn:l.most=some n) (hdf:d.params.defaults=[])
  (call:∀ (w:World) (s₀ s₁:Shared) (mg mb:Str->Option Value) (fa:Addr) (o:Obj) (pm cd doc:Value) (a:Addr) (vs:List Value) (ns:List Int),
   Ground q loose [] XP w s₀ mg mb s₁.heap->YP w s₁.heap->
   s₁.heap.get? fa=some o->o.data=.func (docDef d.name d.params d.body d.scope pm cd doc)->s₁.heap.CodeRec cd d.name->mg d.name=some (.ref fa)->
   s₁.heap.get? a=some { cls:=.type "list",data:=.seq vs.toArray }->IntsAre vs ns->ns.length<=n->s₁.gens=#[]->
   codeAny (model l.prog w) callerA (.call (.ref fa) ⟨[.ref a],[]⟩) (fun r s'=>r=.ok (.ret (.bool true))/\OldK s₁.heap s'.heap/\s'.os=s₁.os/\AllBare s'.gens) s₁):
  WalkO q loose XP YP l.row.toRowW d [] (fun f vs=>PySem.call f vs):=by
 intro w s₀ s₁ mg mb G Y fa o pm cd doc dV kV ho hd hcd hD hmg hg args vals as hpre hlay hrd hwl hlo;obtain rfl:dV=.none:=Dflts.none hD hdf;obtain rfl:kV=.none:=Dflts.noKw hD;obtain ⟨a,vs,ns,rfl,rfl,hobj,hints,hlen⟩:=FD hn hpre hwl;refine enter_call (codeAny_mono (call w s₀ s₁ mg mb fa o pm cd doc a vs ns G Y ho (fd_plain hd) hcd hmg hobj hints hlen hg) fun r s' hq=>?_);obtain ⟨rfl,h2,h3,h4⟩:=hq;exact ⟨.inl ⟨.bool true,.bool true,[],rfl,fun _=>rfl,.bool true,FF l _,fun _=>⟨j5,fun _ hm=>(nomatch hm)⟩⟩,h2,h3,h4⟩
end Att
namespace L2
open PySem PySem.Spec PyProof.Rows
theorem yE:∀ {vs:List Value} {ns:List Int},IntsAre vs ns->aN (ns.map V.int) vs
 | _,_,.nil=>.nil
 | _,_,.cons n t h=>.cons ⟨t,rfl⟩ (yE h)
def Hs (H:Hp):Prop:=∀ b,H b=none\/∃ o xs,H b=some (.frz o (.lst xs))
theorem Ht {P:Program} {w:World} {K:ag} {mg mb:Str->Option Value} {CX:CXT} {k:Nat} {fa a:Addr} {fd:dq} {x:Str} {sp:Sp} {s₁:Shared} {vs:List Value} {ns:List Int}
  (KX:K.In s₁.heap) (hns:s₁.heap.Ns dv mg) (hb:s₁.heap.Ns builtinsNs mb) (hbb:∀ x:Str,x≠"__name__" -> mb x=kh x) (hlim:s₁.heap.NoLimit) (hg:s₁.gens=#[])
  (ha:s₁.heap.get? a=some { cls:=.type "list",data:=.seq vs.toArray }) (hi:IntsAre vs ns) (hl:ns.length<=aw) (hr:eM k callerA)
  (F:∀ base:Heap,K.In base->base.Ns dv mg->aU P w K mg base CX k fa fd [x] sp) (hbind:∀ (s:Shared) (u:Value),BindsTo s fd ⟨[u],[]⟩ [(x,u)])
  (hsp:∀ H:Hp,Hs H->SqL K H a (ns.map V.int)->sp [.ref a] H (fun v _=>v=.bl true) fun _ _ _=>False)
  (hCX:∀ H e s',CX [] H s₁ (fun _ _ _=>False) e s'->False):
  codeAny (model P w) callerA (.call (.ref fa) ⟨[.ref a],[]⟩) (fun r s'=>r=.ok (.ret (.bool true))/\OldK s₁.heap s'.heap/\s'.os=s₁.os/\AllBare s'.gens) s₁:=by
 have rv:=yE hi;have lenV:=hi.length
 -- from an abstract heap in which nothing but the script may be tracked
 have core:∀ H:Hp,Hs H->SqL K H a (ns.map V.int)->HOk P w H s₁.heap->(∀ b,H b≠none->b=a)->(H a≠none->K.lookup a=none)->
   codeAny (model P w) callerA (.call (.ref fa) ⟨[.ref a],[]⟩) (fun r s'=>r=.ok (.ret (.bool true))/\OldK s₁.heap s'.heap/\s'.os=s₁.os/\AllBare s'.gens) s₁:=by
  intro H hO hS hok hA hK;have base_of:∀ {b:Addr} {o:Obj},s₁.heap.get? b=some o->H b=none->(zM s₁.heap H).get? b=some o:=fun e n=>GY e n;have noA:∀ {b:Addr} {o:Obj} {es:Array ie} {ep:Nat},s₁.heap.get? b=some o->o.data=.dict es ep->H b=none:=fun {b o es ep} e d=>by
   cases q:H b with
   | none=>rfl
   | some u=>
    have e':b=a:=hA b (by rw [q]; simp);subst e';rw [ha] at e; cases e;have d':Data.seq vs.toArray _=Data.dict es ep:=d;cases d'
  have nsK:∀ {b:Addr} {m:Str->Option Value},s₁.heap.Ns b m->(zM s₁.heap H).Ns b m:=fun {b m} ⟨o,es,ep,e,d,r⟩=>⟨o,es,ep,base_of e (noA e d),d,r⟩;have hKb:K.In (zM s₁.heap H):=fun b o e=>base_of (KX b o e) (by
   cases q:H b with
   | none=>rfl
   | some u=>
    have e':b=a:=hA b (by rw [q]; simp);subst e';rw [hK (by rw [q]; simp)] at e; cases e)
  have hM:Mod K mg (zM s₁.heap H):=⟨hKb,nsK hns,⟨mb,nsK hb,hbb⟩,let ⟨mc,h1,h2⟩:=hlim; ⟨mc,nsK h1,h2⟩⟩;have e0:wW P w K mg (zM s₁.heap H) callerA [] s₁ H:=⟨rfl,hM,fun b o e=>Kt e,Nat.le_of_eq (Ft _ _),trivial,fun b hb=>absurd (show b∈([]:List Addr) from hb) (by simp),hok,.of_eq hg⟩
  refine codeAny_mono ((F _ hKb (nsK hns)).run callerA [] s₁ H ⟨[.ref a],[]⟩ [.ref a] [.ref a] _ _ hr e0 (hbind s₁ (.ref a)) (.cons rfl .nil) (hsp H hO hS)) fun r s' h=>?_;cases r with
  | error e=>exact (hCX H e s' h).elim
  | ok fl=>
   cases fl with
   | next=>exact i3 h
   | brk=>exact i3 h
   | cont=>exact i3 h
   | ret u=>
    obtain ⟨v,H',os,bare,un,hok',r',q⟩:=h;have q':v=.bl true:=q;subst q';obtain rfl:u=Value.bool true:=r';refine ⟨rfl,OldK.of_keep fun b o e=>?_,os,bare⟩;cases q:H b with
    | none=>exact un.keep b o e q (by intro z; exact absurd (show b∈([]:List Addr) from z) (by simp)) (by simp)
    | some u=>
     rcases hO b with z | ⟨ob,xs,z⟩
     ·rw [q] at z; cases z
     ·have z2:=un.frzs b ob _ z;obtain ⟨e1,_⟩:=hok b _ z;obtain ⟨e2,_⟩:=hok' b _ z2;rw [e] at e1; cases e1;exact e2
 cases hk:K.lookup a with
 | some o=>
  -- the script is one of the module's own objects
  have e:=KX a o hk;rw [ha] at e;cases e
  refine core (fun _=>none) (fun _=>.inl rfl) (.inr ⟨_,vs.toArray,_,hk,rfl,rfl,rfl,by rw [av,lenV]; exact hl,by simpa using rv⟩) (fun b u z=>by have z':(none:Option HO)=some u:=z; cases z') (fun b z=>absurd rfl z) fun z=>absurd rfl z
 | none=>
  refine core (fun b=>if b=a then some (.frz { cls:=.type "list",data:=.seq vs.toArray } (.lst (ns.map V.int))) else none) (fun b=>?_) (.inl (.inr ⟨{ cls:=.type "list",data:=.seq vs.toArray },if_pos rfl⟩)) (fun b u z=>?_) (fun b z=>?_) fun _=>hk
  ·by_cases hb:b=a
   ·exact .inr ⟨_,_,if_pos hb⟩
   ·exact .inl (if_neg hb)
  ·by_cases hb:b=a
   ·have z':=(if_pos hb).symm.trans z;cases z'
    subst hb;exact ⟨ha,by rw [ar]; exact hl,vs,_,rv,ha⟩
   ·have z':=(if_neg hb).symm.trans z;cases z'
  ·by_cases hb:b=a
   ·exact hb
   ·exact absurd (if_neg hb) z
theorem walk_of {l:PySem.W.OpenLaw} {n k:Nat} {q:Program} {loose:List Str} {XP:(Str->Option Value)->Heap->Prop} {YP:World->Heap->Prop} {d:DefRec} {K:Params->ag} {CX:World->CXT} {sp:World->Sp} {x:Str}
  (hn:l.most=some n) (hn2:n<=aw) (hdf:d.params.defaults=[]) (hr:eM k callerA)
  (hY:∀ (w:World) (h:Heap),YP w h->(K w.params).In h)
  (F:∀ (w:World) (mg:Str->Option Value) (fa:Addr) (h:Heap),(K w.params).In h->h.Ns dv mg->mg d.name=some (.ref fa)->
   ∃ fd:dq,(∀ (s:Shared) (u:Value),BindsTo s fd ⟨[u],[]⟩ [(x,u)])/\
    ∀ base:Heap,(K w.params).In base->base.Ns dv mg->aU l.prog w (K w.params) mg base (CX w) k fa fd [x] (sp w))
  (hsp:∀ (w:World) (H:Hp) (a:Addr) (ns:List Int),ns.length<=n->Hs H->SqL (K w.params) H a (ns.map V.int)->sp w [.ref a] H (fun v _=>v=.bl true) fun _ _ _=>False)
  (hCX:∀ (w:World) (H:Hp) (s:Shared) (e:Value) (s':Shared),CX w [] H s (fun _ _ _=>False) e s'->False):
  PySem.W.WalkO q loose XP YP l.row.toRowW d [] (fun f vs=>PySem.call f vs):=by
 refine Att.attach_call hn hdf fun w s₀ s₁ mg mb fa o pm cd doc a vs ns G Y ho hd hcd hmg hobj hints hlen hg=>?_;have KX:=hY w _ Y;obtain ⟨fd,hb,hF⟩:=F w mg fa _ KX G.T.g hmg;exact Ht KX G.T.g G.T.b G.T.builtins G.T.nolimit hg hobj hints (gg hlen hn2) hr hF hb (fun H hO hS=>hsp w H a ns hlen hO hS) fun H e s'=>hCX w H s₁ e s'
def inClass (s:Stmt) (j:Nat):Stmt:=match s with
 | .ClassDef _ _ _ body _ _ _ _ _ _ _=>body.getD j (.Pass ⟨0,0,0,0⟩)
 | _=>.Pass ⟨0,0,0,0⟩
def aX (s:Stmt):Arguments:=match s with
 | .FunctionDef _ a _ _ _ _ _ _ _ _=>a
 | _=>{ posonlyargs:=[],args:=[],vararg:=none,kwonlyargs:=[],kw_defaults:=[],kwarg:=none,defaults:=[] }
def aT (s:Stmt):List Stmt:=match s with
 | .FunctionDef _ _ b _ _ _ _ _ _ _=>b
 | _=>[]
def aF (s:Stmt):Scope:=match s with
 | .FunctionDef _ _ _ _ _ _ sc _ _ _=>sc
 | _=>{ kind:=.function,names:=[],isGenerator:=false,isCoroutine:=false }
abbrev CX0:CXT:=fun _ _ _ _ _ _=>False
abbrev E0:XK:=fun _ _ _=>False
theorem ED {X:Cx}:tU CX0 X E0:=fun _ _ _ _ _ _ _ h=>h.elim
structure Fun (K:ag) (x qual:Str) (st:Stmt) (f:Addr) (fd:dq):Prop where
 ex:∃ (oc:Value) (od:Option Addr) (kV doc pm:Value) (an:Option Addr) (cdv ct:Value) (osl:Array (Option Value)),
  fd=da x qual (aX st) (aT st) (aF st) .none kV doc pm an cdv ct/\K.lookup f=some ⟨oc,od,.func fd,osl⟩/\dh K cdv qual=true
 kp:cw K (.ref f)=true
section
variable {P:Program} {w:World} {K:ag} {mg:Str->Option Value} {base:Heap}
theorem Fun.ok {x qual:Str} {st:Stmt} {f:Addr} {fd:dq} {N ps:List Str} {k:Nat} {sp:Sp} (F:Fun K x qual st f fd) (S:bE N ps (aF st)) (len:∀ vs H Q E,sp vs H Q E->vs.length=ps.length)
  (hbody:∀ (cdv:Value) (A:Around) (outer:List Env) (s:Shared) (H:Hp) (vs:List V) (Q:VK) (E:XK),eM k (A.deeper (envOfC qual (aF st) s.heap.objs.size f cdv))->sp vs H Q E->
   ∃ t,PSs (D7 CX0 P w K mg base N qual (aF st) f cdv A outer s H E).nox (aT st) t/\t { nx:=fun _ H'=>Q .non H',rt:=Q } (start N vs) H):aU P w K mg base CX0 (k+1) f fd ps sp:=by
 obtain ⟨oc,od,kV,doc,pm,an,cdv,ct,osl,rfl,lk,hcd⟩:=F.ex;refine Qb lk hcd S len fun A outer s H vs Q E hr hsp=>?_;obtain ⟨t,h,q⟩:=hbody cdv A outer s H vs Q E hr hsp;exact ⟨t,h.nox,q⟩
theorem Fun.binds {x qual:Str} {st:Stmt} {f:Addr} {fd:dq} {ps:List Str} (F:Fun K x qual st f fd)
  (h:∀ (kV doc pm:Value) (an:Option Addr) (cdv ct:Value) (us:List Value),us.length=ps.length->bindArgs (da x qual (aX st) (aT st) (aF st) .none kV doc pm an cdv ct) ⟨us,[]⟩=pure (ps.zip us)):Binds K fd ps []:=by
 obtain ⟨oc,od,kV,doc,pm,an,cdv,ct,osl,rfl,lk,hcd⟩:=F.ex;exact .all (h kV doc pm an cdv ct)
theorem mW {x qual:Str} {st:Stmt} {f:Addr} {oc:Value} {od an:Option Addr} {osl:Array (Option Value)} {kV doc pm cdv ct:Value} (l:K.lookup f=some ⟨oc,od,.func (da x qual (aX st) (aT st) (aF st) .none kV doc pm an cdv ct),osl⟩)
  (c:dh K cdv qual=true) (k:cw K (.ref f)=true):Fun K x qual st f (da x qual (aX st) (aT st) (aF st) .none kV doc pm an cdv ct):=⟨⟨oc,od,kV,doc,pm,an,cdv,ct,osl,rfl,l,c⟩,k⟩
end
theorem Qk {A:Around} {k:Nat} (hr:eM k A):A.units+1 < cLine:=Nat.lt_of_le_of_lt (Nat.add_le_add_left (by decide:1<=64) _) hr.units
section
variable {X:Cx}
theorem pv (i:Nat) {x:Str} {pos:Pos} (hN:X.N[i]?=some x:=by rfl) (hv:Vis X.env.scope x:=by first | exact Or.inl rfl | exact Or.inr (Or.inl rfl) | exact Or.inr (Or.inr rfl)) (hd:(x == ("__debug__" : Str))=false:=by decide)
  (hcd:(x == ("__classdict__" : Str))=false:=by decide):PE X (.Name x pos) (PU i):=GZ hN hv hd hcd
end
theorem Hu {A B:Prop} (h:B):if false=true then A else B:=by
 rw [if_neg bp];exact h
theorem Hv {A B:Prop} (h:A):if true=true then A else B:=by
 rw [if_pos rfl];exact h
def tW (H H':Hp):Prop:=∀ b o,H b=some o->H' b=some o
section
variable {κ:Type} [DecidableEq κ]
def jQ (kvs:List (κ×V)) (k:κ):Option V:=(kvs.find? fun kv=>decide (kv.1=k)).map (·.2)
def putK (kvs:List (κ×V)) (k:κ) (v:V):List (κ×V):=
 if (kvs.any fun kv=>decide (kv.1=k))=true then kvs.map (fun kv=>if kv.1=k then (kv.1,v) else kv) else kvs++[(k,v)]
theorem nT {p:κ×V} {r:List (κ×V)} {k:κ} (e:p.1=k):jQ (p :: r) k=some p.2:=by simp [jQ,j9,e]
theorem nW {p:κ×V} {r:List (κ×V)} {k:κ} (e:¬ p.1=k):jQ (p :: r) k=jQ r k:=by simp [jQ,j9,e]
theorem tX (k:κ):∀ kvs:List (κ×V),(kvs.any fun kv=>decide (kv.1=k))=(jQ kvs k).isSome
 | []=>rfl
 | p :: r=>by
  rw [mq]
  by_cases e:p.1=k
  ·simp only [nT e,decide_eq_true e,Bool.true_or,Option.isSome_some]
  ·rw [nW e,decide_eq_false e,Bool.false_or]; exact tX k r
theorem jV (kvs:List (κ×V)) (k:κ) (v:V):(putK kvs k v).length<=kvs.length+1:=by
 unfold putK;split
 ·rw [ar]; omega
 ·rw [bo,cz,pe]; omega
theorem lX.isSome_eq {o:Option V} {u:Option Value} (r:lX o u):o.isSome=u.isSome:=by
 cases o with
 | none=>cases u with
  | none=>rfl
  | some _=>exact (show False from r).elim
 | some _=>cases u with
  | none=>exact (show False from r).elim
  | some _=>rfl
theorem KV.val {kvs:List (κ×V)} {vs:List (κ×Value)} (r:KV kvs vs) (k:κ):lX (jQ kvs k) (valueAt vs k):=by
 unfold KV at r
 induction r with
 | nil=>exact i4
 | @cons p q ps qs h t ih=>
  obtain ⟨h1,h2⟩:=h
  by_cases e:p.1=k
  ·have e':q.1=k:=h1.symm.trans e;have b:valueAt (q :: qs) k=some q.2:=by simp [valueAt,j9,e']
   rw [nT e,b]; exact h2
  ·have e':¬ q.1=k:=fun z=>e (h1.trans z);have b:valueAt (q :: qs) k=valueAt qs k:=by simp [valueAt,j9,e']
   rw [nW e,b]; exact ih
theorem KV.any {kvs:List (κ×V)} {vs:List (κ×Value)} (r:KV kvs vs) (k:κ):(kvs.any fun kv=>decide (kv.1=k))=vs.any fun kv=>decide (kv.1=k):=by
 unfold KV at r
 induction r with
 | nil=>rfl
 | cons h t ih=>rw [mq,mq,ih,h.1]
theorem KV.repl {kvs:List (κ×V)} {vs:List (κ×Value)} (r:KV kvs vs) (k:κ) {y:V} {u:Value} (ry:RelV y u):
  KV (kvs.map fun kv=>if kv.1=k then (kv.1,y) else kv) (vs.map fun kv=>if kv.1=k then (kv.1,u) else kv):=by
 unfold KV at r ⊢
 induction r with
 | nil=>exact .nil
 | @cons p q ps qs h t ih=>
  rw [cy,cy];refine .cons ?_ ih;obtain ⟨h1,h2⟩:=h
  by_cases e:p.1=k
  ·rw [if_pos e,if_pos (h1.symm.trans e)]; exact ⟨h1,ry⟩
  ·rw [if_neg e,if_neg (fun z=>e (h1.trans z))]; exact ⟨h1,h2⟩
theorem KV.put {kvs:List (κ×V)} {vs:List (κ×Value)} (r:KV kvs vs) (k:κ) {y:V} {u:Value} (ry:RelV y u):KV (putK kvs k y) (stored vs k u):=by
 unfold putK stored;rw [r.any k]
 by_cases e:(vs.any fun kv=>decide (kv.1=k))=true
 ·rw [if_pos e,if_pos e]; exact r.repl k ry
 ·rw [if_neg e,if_neg e]; exact Paired.snoc r ⟨rfl,ry⟩
theorem KV.length {kvs:List (κ×V)} {vs:List (κ×Value)} (r:KV kvs vs):kvs.length=vs.length:=d5 r
end
theorem yF {P:Program} {w:World} {k:Key} {u:Value} (r:RelV (kV k) u):(cG P w).is k u=true:=by
 cases k with
 | inl i=>obtain ⟨t,e⟩:=(show ∃ t,u=Value.int i t from r); subst e; exact AX P w i t
 | inr x=>obtain ⟨t,e⟩:=(show ∃ t,u=Value.str x t from r); subst e; exact AY P w x t
theorem yG {P:Program} {w:World}:∀ {ks:List Key} {us:List Value},aN (ks.map kV) us->ItemsAre (cG P w) ks us
 | [],_,r=>by rw [o7] at r; cases r; exact .nil
 | k :: ks,_,r=>by
  rw [cy] at r;cases r with
  | cons h t=>exact .cons (yF h) (yG t)
abbrev KT (H:Hp):List (List Key×V)->List (List Key×Addr×Value)->Prop:=Paired fun p q=>p.1=q.1/\H q.2.1=some (.tup (p.1.map kV))/\RelV p.2 q.2.2
theorem KT.val {H:Hp} {kvs:List (List Key×V)} {xs:List (List Key×Addr×Value)} (r:KT H kvs xs) (k:List Key):lX (jQ kvs k) ((atKey xs k).map (·.2)):=by
 induction r with
 | nil=>exact i4
 | @cons p q ps qs h t ih=>
  obtain ⟨h1,_,h2⟩:=h
  by_cases e:p.1=k
  ·have e':q.1=k:=h1.symm.trans e;have b:atKey (q :: qs) k=some q.2:=by simp [atKey,j9,e']
   rw [nT e,b]; exact h2
  ·have e':¬ q.1=k:=fun z=>e (h1.trans z);have b:atKey (q :: qs) k=atKey qs k:=by simp [atKey,j9,e']
   rw [nW e,b]; exact ih
theorem KT.repl {H:Hp} {kvs:List (List Key×V)} {xs:List (List Key×Addr×Value)} (r:KT H kvs xs) (k:List Key) {y:V} {u:Value} (ry:RelV y u):
  KT H (kvs.map fun kv=>if kv.1=k then (kv.1,y) else kv) (xs.map (putAt k u)):=by
 induction r with
 | nil=>exact .nil
 | @cons p q ps qs h t ih=>
  rw [cy,cy];refine .cons ?_ ih;obtain ⟨h1,h2,h3⟩:=h;unfold putAt
  by_cases e:p.1=k
  ·rw [if_pos e,if_pos (h1.symm.trans e)]; exact ⟨h1,h2,ry⟩
  ·rw [if_neg e,if_neg (fun z=>e (h1.trans z))]; exact ⟨h1,h2,h3⟩
theorem KT.put {H:Hp} {kvs:List (List Key×V)} {xs:List (List Key×Addr×Value)} (r:KT H kvs xs) (k:List Key) {b:Addr} {y:V} {u:Value} (hb:H b=some (.tup (k.map kV))) (ry:RelV y u):
  KT H (putK kvs k y) (storedH xs k b u):=by
 have e:(kvs.any fun kv=>decide (kv.1=k))=(atKey xs k).isSome:=by
  rw [tX,(r.val k).isSome_eq,Option.isSome_map]
 unfold putK storedH;rw [e]
 by_cases q:(atKey xs k).isSome=true
 ·rw [if_pos q,if_pos q]; exact r.repl k ry
 ·rw [if_neg q,if_neg q]; exact Paired.snoc r ⟨rfl,hb,ry⟩
theorem KT.keeps {H H':Hp} {kvs:List (List Key×V)} {xs:List (List Key×Addr×Value)} (r:KT H kvs xs) (ht:∀ b ys,H b=some (.tup ys)->H' b=some (.tup ys)):KT H' kvs xs:=
 Paired.mapP r fun _ _ z=>⟨z.1,ht _ _ z.2.1,z.2.2⟩
section
variable {P:Program} {w:World} {H:Hp} {h:Heap} {a:Addr}
theorem N0 {u:HO} (ok:HOk P w H h) (e:Rd H a u):bP P w H h a u:=e.ok ok
theorem tY {kvs:List (Key×V)} (ok:HOk P w H h) (e:Rd H a (.dK kvs)):kvs.length<=aw/\(a == iz)=false/\∃ vs,KV kvs vs/\h.DictOf (cG P w) a vs:=
 show bP P w H h a (.dK kvs) from N0 ok e
theorem B6 {kvs:List (Key×V)} (ok:HOk P w H h) (e:H a=some (.dK kvs)):kvs.length<=aw/\(a == iz)=false/\∃ vs,KV kvs vs/\h.DictOf (cG P w) a vs:=tY ok (.inl e)
theorem tZ {ks:List Key} (ok:HOk P w H h) (e:H a=some (.tup (ks.map kV))):(tupleKind (cG P w)).is h ks a:=by
 obtain ⟨_,its,r,o,h1,h2,⟨n,h3⟩,_⟩:=(show bP P w H h a (.tup (ks.map kV)) from ok a _ e)
 exact ⟨o,its.toArray,n,h1,h2,h3,by simpa using yG r⟩
theorem B7 {kvs:List (List Key×V)} (ok:HOk P w H h) (e:Rd H a (.dT kvs)):kvs.length<=aw/\(a == iz)=false/\
  ∃ xs,KT H kvs xs/\h.DictOfH (tupleKind (cG P w)) a xs:=by
 obtain ⟨z,y,xs,r,o,es,ep,h1,h2,h3,h4,h5⟩:=(show bP P w H h a (.dT kvs) from N0 ok e)
 refine ⟨z,y,xs,r,o,es,ep,h1,h2,h3,h4,fun x hx=>?_,h5⟩;have all:∀ {l:List (List Key×V)} {m:List (List Key×Addr×Value)},KT H l m->∀ x∈m,(tupleKind (cG P w)).is h x.1 x.2.1:=by
  intro l m q
  induction q with
  | nil=>intro x hx; exact nomatch hx
  | @cons p q ps qs hq t ih=>
   intro x hx;rcases bw.mp hx with e | hx
   ·subst e;exact tZ ok (by rw [<- hq.1]; exact hq.2.1)
   ·exact ih x hx
 exact all r x hx
theorem Ql {kvs:List (List Key×V)} (ok:HOk P w H h) (e:H a=some (.dT kvs)):kvs.length<=aw/\(a == iz)=false/\
  ∃ xs,KT H kvs xs/\h.DictOfH (tupleKind (cG P w)) a xs:=B7 ok (.inl e)
end
def qB (H:Hp) (a:Addr) (y:V) (r:Option V):Prop:=
 (∃ kvs k,Rd H a (.dK kvs)/\y=kV k/\r=jQ kvs k)\/∃ kvs k b,Rd H a (.dT kvs)/\y=.ref b/\H b=some (.tup (k.map kV))/\r=jQ kvs k
def O0 (H:Hp) (a:Addr) (y v:V) (H':Hp):Prop:=
 (∃ kvs k,H a=some (.dK kvs)/\y=kV k/\kvs.length < aw/\H'=upd H a (.dK (putK kvs k v)))\/
 ∃ kvs k b,H a=some (.dT kvs)/\y=.ref b/\H b=some (.tup (k.map kV))/\kvs.length < aw/\H'=upd H a (.dT (putK kvs k v))
theorem qB.k {H:Hp} {a:Addr} {kvs:List (Key×V)} {k:Key} (e:H a=some (.dK kvs)):qB H a (kV k) (jQ kvs k):=.inl ⟨kvs,k,.inl e,rfl,rfl⟩
theorem O0.k {H:Hp} {a:Addr} {kvs:List (Key×V)} {k:Key} {v:V} (e:H a=some (.dK kvs)) (hl:kvs.length < aw):O0 H a (kV k) v (upd H a (.dK (putK kvs k v))):=.inl ⟨kvs,k,e,rfl,hl,rfl⟩
section
variable {X:Cx} {pins:List (Addr×Obj)} {σ:St} {H:Hp} {s:Shared} {a:Addr} {y v:V} {u r:Value} {o:Option V} {A:Around} {E:Value->Shared->Prop}
theorem Inv.big (I:Inv X pins σ H s):iz < s.heap.objs.size:=by
 have h:dv < s.heap.objs.size:=(I.mod.glob.keeps I.bk).lt;exact o8 (by decide) h
theorem FG {Q:Value->Shared->Prop} (hu:A.units+1 < cLine) (I:Inv X pins σ H s) (g:qB H a y (some v)) (ry:RelV y u) (h:∀ w' s',Inv X pins σ H s'->RelV v w'->Q w' s'):
  wpAny (model X.prog X.w) A (getItem (.ref a) u) Q E s:=by
 rcases g with ⟨kvs,k,e,ey,l⟩ | ⟨kvs,k,b,e,ey,eb,l⟩
 ·subst ey;obtain ⟨z,hd,vs,rel,dd⟩:=tY I.hok e;obtain ⟨w',hw,rw'⟩:=lX.some_of (v:=v) (o:=valueAt vs k) (by rw [l]; exact rel.val k);exact wpAny_getItem_of (yF ry) dd.mapOf hw (h w' _ (I.tok _) rw')
 ·subst ey;cases (show u=bx b from ry)
  obtain ⟨z,hd,xs,rel,dd⟩:=B7 I.hok e;obtain ⟨w',hw,rw'⟩:=lX.some_of (v:=v) (o:=(atKey xs k).map (·.2)) (by rw [l]; exact rel.val k);obtain ⟨p,hp,hp2⟩:=df.mp hw;refine wpAny_getItem_heap (tupleKind_room_in1 hu) (tZ I.hok eb) dd hp ?_;rw [hp2];exact h w' _ (I.tok _) rw'
theorem SS {Q:Value->Shared->Prop} (hu:A.units+1 < cLine) (I:Inv X pins σ H s) (g:qB H a y o) (ry:RelV y u) (h:∀ s',Inv X pins σ H s'->Q (.bool o.isSome) s'):
  wpAny (model X.prog X.w) A (fm .In u (.ref a)) Q E s:=by
 rcases g with ⟨kvs,k,e,ey,l⟩ | ⟨kvs,k,b,e,ey,eb,l⟩
 ·subst ey;obtain ⟨z,hd,vs,rel,dd⟩:=tY I.hok e;refine wpAny_in_of (yF ry) hd dd.mapOf ?_;rw [<- (rel.val k).isSome_eq,<- l];exact h _ (I.tok _)
 ·subst ey;cases (show u=bx b from ry)
  obtain ⟨z,hd,xs,rel,dd⟩:=B7 I.hok e;refine wpAny_in_heap (tupleKind_room_in1 hu) (tZ I.hok eb) hd dd ?_;have q:=(rel.val k).isSome_eq;rw [Option.isSome_map] at q;rw [<- q,<- l];exact h _ (I.tok _)
theorem KQ {Q:Value->Shared->Prop} (hu:A.units+1 < cLine) (I:Inv X pins σ H s) (g:qB H a y o) (ry:RelV y u) (h:∀ s',Inv X pins σ H s'->Q (.bool (!o.isSome)) s'):
  wpAny (model X.prog X.w) A (fm .NotIn u (.ref a)) Q E s:=by
 rcases g with ⟨kvs,k,e,ey,l⟩ | ⟨kvs,k,b,e,ey,eb,l⟩
 ·subst ey;obtain ⟨z,hd,vs,rel,dd⟩:=tY I.hok e;refine wpAny_notIn_of (yF ry) hd dd.mapOf ?_;rw [<- (rel.val k).isSome_eq,<- l];exact h _ (I.tok _)
 ·subst ey;cases (show u=bx b from ry)
  obtain ⟨z,hd,xs,rel,dd⟩:=B7 I.hok e;refine wpAny_notIn_heap (tupleKind_room_in1 hu) (tZ I.hok eb) hd dd ?_;have q:=(rel.val k).isSome_eq;rw [Option.isSome_map] at q;rw [<- q,<- l];exact h _ (I.tok _)
theorem tE {h':Heap} {t':Nat} {ob:HO} (I:Inv X pins σ H s) (mu:Mut (H a)) (hs:ja a s.heap h') (he:∃ q,h'.get? a=some q) (new:bP X.prog X.w (upd H a ob) h' a ob):
  Inv X pins σ (upd H a ob) { s with heap:=h',toks:=t' }:=
 I.write (x:=a) (e:=a) mu (.inl rfl) (fun b q hb z=>(hs.2 b hb).trans z) he new
theorem Dc {P:Program} {w:World} {H':Hp} {h':Heap} {kvs:List (Key×V)} {vs:List (Key×Value)} (z:kvs.length<=aw) (hd:(a == iz)=false) (rel:KV kvs vs) (dd:h'.DictOf (cG P w) a vs):
  bP P w H' h' a (.dK kvs):=⟨z,hd,vs,rel,dd⟩
theorem FH {H':Hp} {Q:Unit->Shared->Prop} (hu:A.units+1 < cLine) (I:Inv X pins σ H s) (g:O0 H a y v H') (ry:RelV y u) (rv:RelV v r) (h:∀ s',Inv X pins σ H' s'->Q () s'):
  wpAny (model X.prog X.w) A (setItem (.ref a) u r) Q E s:=by
 rcases g with ⟨kvs,k,e,ey,l,eH⟩ | ⟨kvs,k,b,e,ey,eb,l,eH⟩
 ·subst ey eH;obtain ⟨z,hd,vs,rel,dd⟩:=B6 I.hok e;have hz:vs.length<=aw:=by rw [<- rel.length]; exact z
  have hl:(putK kvs k v).length<=aw:=by have:=jV kvs k v; omega
  refine wpAny_setItem_pairs (hsz:=hz) (yF ry) dd fun h' dd' hs=>h _ ?_;have he:∃ q,h'.get? a=some q:=let ⟨q,_,_,hq,_⟩:=dd'; ⟨q,hq⟩;exact tE I (by rw [e]; exact i4) hs he (Dc hl hd (rel.put k rv) dd')
 ·subst ey eH;cases (show u=bx b from ry)
  obtain ⟨z,hd,xs,rel,dd⟩:=Ql I.hok e;have hz:xs.length<=aw:=by rw [<- d5 rel]; exact z
  have hl:(putK kvs k v).length<=aw:=by have:=jV kvs k v; omega
  refine wpAny_setItem_heap (hsz:=hz) (tupleKind_room_in1 hu) (tZ I.hok eb) dd fun h' dd' hs=>h _ ?_;obtain ⟨q,es,ep,hq,h2,h3,h4,_,h5⟩:=dd';refine tE I (by rw [e]; exact i4) hs ⟨q,hq⟩ ⟨hl,hd,_,(rel.put k eb rv).keeps fun c ys ec=>?_,q,es,ep,hq,h2,h3,h4,h5⟩;rw [aH (PR ec e (fun z=>nomatch z))];exact ec
end
section
variable {X:Cx} {pins:List (Addr×Obj)} {σ:St} {H:Hp} {s:Shared} {a:Addr} {kvs:List (Key×V)} {k:Key} {u:Value} {A:Around} {E:Value->Shared->Prop}
theorem Qm {Q:Value->Shared->Prop} (I:Inv X pins σ H s) (e:Rd H a (.dK kvs)) (h:∀ t s',Inv X pins σ H s'->Q (.int kvs.length t) s'):wpAny (model X.prog X.w) A (call (.builtin "len") [.ref a]) Q E s:=by
 obtain ⟨z,hd,vs,rel,dd⟩:=tY I.hok e;refine call_len_dict hd dd (by rw [<- rel.length]; rw [gd] at z; omega) ?_;rw [<- rel.length];exact h _ _ (I.tok _)
end
theorem B8 {X:Cx} {pins:List (Addr×Obj)} {σ:St} {H:Hp} {s:Shared} {a:Addr} {y:V} {o:Option V} (I:Inv X pins σ H s) (g:qB H a y o):s.TypeIs (.ref a) "dict" := by
 rcases g with ⟨kvs,k,e,_,_⟩ | ⟨kvs,k,b,e,_,_,_⟩
 ·obtain ⟨_,_,vs,_,dd⟩:=tY I.hok e;exact dd.typeIs
 ·obtain ⟨_,_,xs,_,dd⟩:=B7 I.hok e;exact dd.typeIs
theorem Hw {P:Program} {w:World} {H:Hp} (h:Heap) (hb:iz < h.objs.size):bP P w H (h.push { cls:=.type "dict",data:=.dict #[] }) h.objs.size (.dK []):=
 ⟨d4 _,beq_eq_false_iff_ne.mpr (ik (ba hb)),[],.nil,Heap.DictOf.new h⟩
def O1:TE:=fun _ H Q=>∀ p,H p=none->Q (.ref p) (upd H p (.dK []))
section
variable {X:Cx} {pos:Pos}
theorem Hx:PE X (.Dict [] [] pos) O1:=fun pins s σ H Q I h=>
 wpAny_Dict_empty ⟨.ref s.heap.objs.size,_,I.laid (a:=s.heap.objs.size) (o:=.dK []) (t':=s.toks) (fun _ _ q=>ae _ q) (az _) (Hw s.heap I.big),rfl,h _ (I.hok.fresh (az _))⟩
end
def qC (kvs more:List (Key×V)):List (Key×V):=more.foldl (fun acc kv=>putK acc kv.1 kv.2) kvs
theorem KV.merge:∀ {more:List (Key×V)} {rs:List (Key×Value)} {kvs:List (Key×V)} {vs:List (Key×Value)},KV more rs->KV kvs vs->KV (qC kvs more) (merged vs rs):=by
 intro more rs kvs vs r;unfold KV at r
 induction r generalizing kvs vs with
 | nil=>intro q; exact q
 | @cons p q ps qs h t ih=>
  intro r0;have e:KV (putK kvs p.1 p.2) (stored vs q.1 q.2):=by
   have:=r0.put p.1 h.2;rw [<- h.1]; exact this
  exact ih e
theorem mE:∀ (more kvs:List (Key×V)),(qC kvs more).length<=kvs.length+more.length
 | [],kvs=>by show kvs.length<=kvs.length+0; omega
 | p :: r,kvs=>by
  have h1:=mE r (putK kvs p.1 p.2);have h2:=jV kvs p.1 p.2
  show (qC (putK kvs p.1 p.2) r).length<=_
  rw [cz]; omega
structure M1 (X:Cx) (o:Expr) (m:Str) (apos:Pos) (e:Expr) (cpos:Pos):Prop where
 base:kj o m X.env (eval o X.env)=eval o X.env
 few:((backTo cpos (b0 [e] X.env)).all (fun x=>!x.1) && (backToKw cpos (keywordEach [] X.env)).all (fun x=>x.1.isSome)
  && decide (([e]:List Expr).length+([]:List Keyword).length+(if ([]:List Keyword).isEmpty then 0 else 1) < 30))=true
 line:(apos.endLine == cpos.line)=true
 trees:backTo cpos (b0 [e] X.env)=[(false,eval e X.env)]
structure M2 (X:Cx) (o:Expr) (m:Str) (apos:Pos) (e f:Expr) (cpos:Pos):Prop where
 base:kj o m X.env (eval o X.env)=eval o X.env
 few:((backTo cpos (b0 [e,f] X.env)).all (fun x=>!x.1) && (backToKw cpos (keywordEach [] X.env)).all (fun x=>x.1.isSome)
  && decide (([e,f]:List Expr).length+([]:List Keyword).length+(if ([]:List Keyword).isEmpty then 0 else 1) < 30))=true
 line:(apos.endLine == cpos.line)=true
 trees:backTo cpos (b0 [e,f] X.env)=[(false,eval e X.env),(false,eval f X.env)]
section
variable {X:Cx} {pins:List (Addr×Obj)} {σ:St} {H:Hp} {s:Shared} {a:Addr} {kvs:List (Key×V)} {A:Around} {E:Value->Shared->Prop}
theorem Hy {Q:Value->Shared->Prop} (I:Inv X pins σ H s) (e:Rd H a (.dK kvs)) (h:∀ p s',H p=none->Inv X pins σ (upd H p (.dK kvs)) s'->Q (.ref p) s'):wpAny (model X.prog X.w) A (call (.type "dict") [.ref a]) Q E s:=by
 obtain ⟨z,hd,vs,rel,dd⟩:=tY I.hok e;refine kt_call_dict hd dd (by rw [<- rel.length]; exact z) fun h' dd' hs=>?_;refine h _ _ (I.hok.fresh (az _)) (I.laid (a:=s.heap.objs.size) (o:=.dK kvs) (t':=s.toks) (fun b q hq=>?_) (az _) (Dc z (beq_eq_false_iff_ne.mpr (ik (ba I.big))) rel dd'));exact (hs.2 b (ba (ak hq))).trans (ae _ hq)
end
section
variable {X:Cx}
theorem FI:cJ X (.builtin "len") (fun xs H Q=>∃ a kvs,xs=[V.ref a]/\H a=some (.dK kvs)/\Q (.int kvs.length) H):=by
 intro pins s σ H xs us Q I r h;obtain ⟨a,kvs,rfl,ha,q⟩:=h;obtain ⟨u,rfl,ru⟩:=vals1 r;cases ru
 exact Qm I (.inl ha) fun t s' I'=>⟨.int kvs.length,H,I',⟨t,rfl⟩,q⟩
end
def bV:Bool->Keyed->Array Keyed->Nat->Nat->Nat->StateT SortSt Sem (Option Nat):=sortPriv% PySem.Builtin.gallop
def dW (left:Bool) (key:Keyed) (arr:Array Keyed) (base i:Nat):StateT SortSt Sem (Option Bool):=do
  let x <- elem' arr (base+i)
  if left then lt' x key else return (<- lt' key x).map (!·)
def zT (left:Bool) (key:Keyed) (arr:Array Keyed) (base n lo hi:Nat):StateT SortSt Sem (Option Nat):=do
 let mut lo:=lo
 let mut hi:=hi
 for _ in [0:n] do
  if lo >= hi then break
  let m:=lo+(hi - lo) / 2
  let some more <- dW left key arr base m | return none
  if more then lo:=m+1 else hi:=m
 return some hi
def N1 (left:Bool) (key:Keyed) (arr:Array Keyed) (base n hint:Nat):StateT SortSt Sem (Option Nat):=do
 let mut lastofs:=0
 let mut ofs:=1
 let maxofs:=n - hint
 for _ in [0:n] do
  if ofs >= maxofs then break
  let some more <- dW left key arr base (hint+ofs) | return none
  if !more then break
  lastofs:=ofs
  ofs:=2*ofs+1
 zT left key arr base n (hint+lastofs+1) (hint+min ofs maxofs)
def N2 (left:Bool) (key:Keyed) (arr:Array Keyed) (base n hint:Nat):StateT SortSt Sem (Option Nat):=do
 let mut lastofs:=0
 let mut ofs:=1
 let maxofs:=hint+1
 for _ in [0:n] do
  if ofs >= maxofs then break
  let some found <- dW left key arr base (hint - ofs) | return none
  if found then break
  lastofs:=ofs
  ofs:=2*ofs+1
 zT left key arr base n (hint+1 - min ofs maxofs) (hint - lastofs)
theorem Dd (left:Bool) (key:Keyed) (arr:Array Keyed) (base n hint:Nat):bV left key arr base n hint=(do
 let some right <- dW left key arr base hint | return none
 if right then N1 left key arr base n hint else N2 left key arr base n hint):=rfl
section
variable {M:Model} {A:Around} {E:Value->Shared->Prop} {s:Shared}
variable {left:Bool} {key:Keyed} {arr:Array Keyed} {base n hint:Nat} {bey:Nat->Bool} {st:SortSt} {Q:Option Nat->SortSt->Prop}
theorem eU {lo hi:Nat} (hb:∀ i,i < n->∀ Q':Option Bool->SortSt->Prop,Q' (some (bey i)) st->wpS M A E s (dW left key arr base i) Q' st)
  (mono:∀ i j,i<=j->j < n->bey j=true->bey i=true) (h1:lo<=hi) (h2:hi<=n) (h3:∀ i,i < lo->bey i=true) (h4:∀ i,hi<=i->i < n->bey i=false)
  (k:∀ r,r<=n->(∀ i,i < r->bey i=true)->(∀ i,r<=i->i < n->bey i=false)->Q (some r) st):
  wpS M A E s (zT left key arr base n lo hi) Q st:=by
 unfold zT;refine ay (gb (fun i c st'=>st'=st/\∃ lo hi,c=(none,lo,hi)/\lo<=hi/\hi<=n/\hi - lo<=n - i/\(∀ i,i < lo->bey i=true)/\∀ i,hi<=i->i < n->bey i=false) (fun i c st' _ hi=>?_) (fun c st'=>?_) ⟨rfl,lo,hi,rfl,h1,h2,by omega,h3,h4⟩)
 ·rintro ⟨rfl,lo,hi,rfl,a1,a2,a3,a4,a5⟩;dsimp only
  by_cases c:lo >= hi
  ·rw [if_pos c];refine bu (bu (k hi a2 (fun i q=>a4 i (by omega)) a5))
  ·rw [if_neg c];refine ay (hb (lo+(hi - lo) / 2) (by omega) _ ?_);dsimp only;cases e:bey (lo+(hi - lo) / 2) with
   | true=>
    rw [if_pos rfl];exact bu ⟨rfl,_,_,rfl,by omega,a2,by omega,fun i q=>mono i _ (by omega) (by omega) e,a5⟩
   | false=>
    rw [if_neg (by decide)];refine bu ⟨rfl,_,_,rfl,by omega,by omega,by omega,a4,fun i q1 q2=>?_⟩;cases e2:bey i with
    | false=>rfl
    | true=>rw [mono _ i q1 q2 e2] at e; cases e
 ·rintro ⟨rfl,lo,hi,rfl,a1,a2,a3,a4,a5⟩;dsimp only;exact bu (k hi a2 (fun i q=>a4 i (by omega)) a5)
theorem gD (hb:∀ i,i < n->∀ Q':Option Bool->SortSt->Prop,Q' (some (bey i)) st->wpS M A E s (dW left key arr base i) Q' st)
  (mono:∀ i j,i<=j->j < n->bey j=true->bey i=true) (hh:hint < n)
  (k:∀ r,r<=n->(∀ i,i < r->bey i=true)->(∀ i,r<=i->i < n->bey i=false)->Q (some r) st):
  wpS M A E s (bV left key arr base n hint) Q st:=by
 have anti:∀ i j,i<=j->j < n->bey i=false->bey j=false:=fun i j h1 h2 h3=>by
  cases e:bey j with
  | false=>rfl
  | true=>rw [mono i j h1 h2 e] at h3; cases h3
 rw [Dd];refine ay (hb hint hh _ ?_);dsimp only;cases e:bey hint with
 | true=>
  rw [if_pos rfl];unfold N1;refine ay (gb (fun i c st'=>st'=st/\∃ la of,c=(none,la,of)/\la < of/\i < of/\hint+la < n/\bey (hint+la)=true) (fun i c st' _ hi=>?_) (fun c st'=>?_) ⟨rfl,0,1,rfl,by omega,by omega,hh,e⟩)
  ·rintro ⟨rfl,la,of,rfl,a1,a2,a3,a4⟩;dsimp only
   by_cases c:of >= n - hint
   ·rw [if_pos c];refine bu ?_;dsimp only;exact eU hb mono (by omega) (by omega) (fun i q=>mono i _ (by omega) a3 a4) (fun i q1 q2=>by omega) k
   ·rw [if_neg c];refine ay (hb (hint+of) (by omega) _ ?_);dsimp only;cases e2:bey (hint+of) with
    | true=>
     rw [if_neg (by decide)];exact bu ⟨rfl,_,_,rfl,by omega,by omega,by omega,e2⟩
    | false=>
     rw [if_pos (by decide)];refine bu ?_;dsimp only;exact eU hb mono (by omega) (by omega) (fun i q=>mono i _ (by omega) a3 a4) (fun i q1 q2=>anti _ i (by omega) q2 e2) k
  ·rintro ⟨rfl,la,of,rfl,a1,a2,a3,a4⟩;dsimp only;exact eU hb mono (by omega) (by omega) (fun i q=>mono i _ (by omega) a3 a4) (fun i q1 q2=>by omega) k
 | false=>
  rw [if_neg (by decide)];unfold N2;refine ay (gb (fun i c st'=>st'=st/\∃ la of,c=(none,la,of)/\la < of/\i < of/\la<=hint/\bey (hint - la)=false) (fun i c st' _ hi=>?_) (fun c st'=>?_) ⟨rfl,0,1,rfl,by omega,by omega,by omega,e⟩)
  ·rintro ⟨rfl,la,of,rfl,a1,a2,a3,a4⟩;dsimp only
   by_cases c:of >= hint+1
   ·rw [if_pos c];refine bu ?_;dsimp only;exact eU hb mono (by omega) (by omega) (fun i q=>by omega) (fun i q1 q2=>anti _ i (by omega) q2 a4) k
   ·rw [if_neg c];refine ay (hb (hint - of) (by omega) _ ?_);dsimp only;cases e2:bey (hint - of) with
    | true=>
     rw [if_pos rfl];refine bu ?_;dsimp only;exact eU hb mono (by omega) (by omega) (fun i q=>mono i (hint - of) (by omega) (by omega) e2) (fun i q1 q2=>anti _ i (by omega) q2 a4) k
    | false=>
     rw [if_neg (by decide)];exact bu ⟨rfl,_,_,rfl,by omega,by omega,by omega,e2⟩
  ·rintro ⟨rfl,la,of,rfl,a1,a2,a3,a4⟩;dsimp only;exact eU hb mono (by omega) (by omega) (fun i q=>by omega) (fun i q1 q2=>anti _ i (by omega) q2 a4) k
end
def uA:Array Keyed->Array Keyed->StateT SortSt Sem (Array Keyed):=sortPriv% PySem.Builtin.mergeLo
abbrev qD (g:Nat) (st:SortSt):SortSt:=SortSt.mk' (kindOf st) (arrOf st) (de st) g (km st)
def bY (g:Nat):StateT SortSt Sem Unit:=modify (qD g)
def dI (a b:Array Keyed) (out:Array Keyed) (ia ib:Nat):=out++a.extract ia a.size++b.extract ib b.size
def iR (a b:Array Keyed) (out:Array Keyed) (ia ib:Nat):=out++b.extract ib b.size++a.extract ia a.size
theorem B9 (a b:Array Keyed):uA a b=(do
 rule "list.sort.merge-lo"
 let total:=a.size+b.size
 let mut out:Array Keyed:=#[<- elem' b 0]
 let mut ia:=0
 let mut ib:=1
 if ib == b.size then return dI a b out ia ib
 if ia+1 == a.size then return iR a b out ia ib
 let mut minGallop:=gallopOf (<- get)
 for _ in [0:total] do
  let mut acount:=0
  let mut bcount:=0
  for _ in [0:total] do
   let some bWins <- lt' (<- elem' b ib) (<- elem' a ia) | return dI a b out ia ib
   if bWins then
    out:=out.push (<- elem' b ib); ib:=ib+1; bcount:=bcount+1; acount:=0
    if ib == b.size then return dI a b out ia ib
    if bcount >= minGallop then break
   else
    out:=out.push (<- elem' a ia); ia:=ia+1; acount:=acount+1; bcount:=0
    if ia+1 == a.size then return iR a b out ia ib
    if acount >= minGallop then break
  rule "list.sort.gallop"
  minGallop:=minGallop+1
  for _ in [0:total] do
   if minGallop > 1 then minGallop:=minGallop - 1
   bY minGallop
   let some k <- bV false (<- elem' b ib) a ia (a.size - ia) 0 | return dI a b out ia ib
   acount:=k
   if k > 0 then
    out:=out++a.extract ia (ia+k); ia:=ia+k
    if ia+1 == a.size then return iR a b out ia ib
    if ia == a.size then return dI a b out ia ib
   out:=out.push (<- elem' b ib); ib:=ib+1
   if ib == b.size then return dI a b out ia ib
   let some k <- bV true (<- elem' a ia) b ib (b.size - ib) 0 | return dI a b out ia ib
   bcount:=k
   if k > 0 then
    out:=out++b.extract ib (ib+k); ib:=ib+k
    if ib == b.size then return dI a b out ia ib
   out:=out.push (<- elem' a ia); ia:=ia+1
   if ia+1 == a.size then return iR a b out ia ib
   if acount < 7 && bcount < 7 then break
  minGallop:=minGallop+1
  bY minGallop
 unsupported "internal:list.sort.merge-bound"):=rfl
structure Ask (M:Model) (A:Around) (E:Value->Shared->Prop) (s:Shared) (κ:k6) (pr:Nat->Keyed) (n:Nat) (lt:Nat->Nat->Bool):Prop where
 tr:∀ i j k,i < n->j < n->k < n->lt j i=false->lt k j=false->lt k i=false
 as:∀ i j,i < n->j < n->lt i j=true->lt j i=false
 run:∀ (st:SortSt) i j,kindOf st=κ->i < n->j < n->∀ Q:Option Bool->SortSt->Prop,Q (some (lt i j)) st->wpS M A E s (lt' (pr i) (pr j)) Q st
def arr (pr:Nat->Keyed) (l:List Nat):Array Keyed:=(l.map pr).toArray
theorem cS (pr:Nat->Keyed) (l:List Nat):(arr pr l).size=l.length:=by simp [arr]
theorem fL (pr:Nat->Keyed) (l:List Nat) (i:Nat):(arr pr l).push (pr i)=arr pr (l++[i]):=by simp [arr]
theorem dH (pr:Nat->Keyed) (l m:List Nat):arr pr l++arr pr m=arr pr (l++m):=by simp [arr]
theorem cP (pr:Nat->Keyed) (l:List Nat) (i j:Nat):(arr pr l).extract i j=arr pr ((l.drop i).take (j - i)):=by
 unfold arr;rw [List.extract_toArray,List.map_take,List.map_drop]
theorem aO {M:Model} {A:Around} {E:Value->Shared->Prop} {s:Shared} {pr:Nat->Keyed} {l:List Nat} {i:Nat} {st:SortSt} {Q:Keyed->SortSt->Prop} (hi:i < l.length) (h:Q (pr (l.getD i 0)) st):wpS M A E s (elem' (arr pr l) i) Q st:=by
 rw [elem'_eq];have e:(arr pr l)[i]?=some (pr (l.getD i 0)):=by simp [arr,hi]
 rw [e];exact bu h
structure MI (lt:Nat->Nat->Bool) (la lb lo:List Nat) (ia ib:Nat):Prop where
 perm:(lo++(la.drop ia++lb.drop ib)).Perm (la++lb)
 srt:lo.Pairwise fun i j=>lt j i=false
 low:∀ o∈lo,∀ x∈la.drop ia++lb.drop ib,lt x o=false
structure Two (lt:Nat->Nat->Bool) (n:Nat) (la lb:List Nat):Prop where
 sa:la.Pairwise fun i j=>lt j i=false
 sb:lb.Pairwise fun i j=>lt j i=false
 na:∀ x∈la,x < n
 nb:∀ x∈lb,x < n
def Mgd (pr:Nat->Keyed) (lt:Nat->Nat->Bool) (la lb:List Nat) (out:Array Keyed):Prop:=∃ lo:List Nat,out=arr pr lo/\lo.Perm (la++lb)/\lo.Pairwise fun i j=>lt j i=false
section
variable {lt:Nat->Nat->Bool} {n:Nat} {la lb lo:List Nat} {ia ib:Nat}
theorem dC {R:Nat->Nat->Prop} {l:List Nat} (h:l.Pairwise R) (k:Nat):(l.drop k).Pairwise R:=h.sublist (List.drop_sublist k l)
theorem B' {R:Nat->Nat->Prop} {l:List Nat} (h:l.Pairwise R) (i k:Nat):∀ x∈(l.drop i).take k,∀ y∈l.drop (i+k),R x y:=fun x hx y hy=>by
 have hd:=dC h i;rw [<- cm k (l.drop i)] at hd;rw [<- List.drop_drop] at hy;exact (bf.mp hd).2.2 x hx y hy
theorem iS (l:List Nat) (i k:Nat):l.drop i=(l.drop i).take k++l.drop (i+k):=by
 rw [<- List.drop_drop,cm]
theorem MI.pushA (m:MI lt la lb lo ia ib) (t:Two lt n la lb) {k:Nat} (h:∀ x∈(la.drop ia).take k,∀ y∈lb.drop ib,lt y x=false):MI lt la lb (lo++(la.drop ia).take k) (ia+k) ib:=by
 have sub:∀ x∈(la.drop ia).take k,x∈la.drop ia:=fun x hx=>cv hx;have sub2:∀ x∈la.drop (ia+k),x∈la.drop ia:=fun x hx=>by rw [iS la ia k]; exact ah _ hx
 refine ⟨?_,?_,?_⟩
 ·refine je ?_ m.perm;rw [aq];refine cq _ ?_;rw [<- aq,<- iS]
 ·rw [bf];exact ⟨m.srt,(dC t.sa ia).sublist (List.take_sublist k _),fun o ho x hx=>m.low o ho x (cu _ (sub x hx))⟩
 ·intro o ho x hx;rcases bh.mp ho with q | q
  ·refine m.low o q x ?_;rcases bh.mp hx with z | z
   ·exact cu _ (sub2 x z)
   ·exact ah _ z
  ·rcases bh.mp hx with z | z
   ·exact B' t.sa ia k o q x z
   ·exact h o q x z
theorem MI.pushB (m:MI lt la lb lo ia ib) (t:Two lt n la lb) {k:Nat} (h:∀ x∈(lb.drop ib).take k,∀ y∈la.drop ia,lt y x=false):MI lt la lb (lo++(lb.drop ib).take k) ia (ib+k):=by
 have sub:∀ x∈(lb.drop ib).take k,x∈lb.drop ib:=fun x hx=>cv hx;have sub2:∀ x∈lb.drop (ib+k),x∈lb.drop ib:=fun x hx=>by rw [iS lb ib k]; exact ah _ hx
 refine ⟨?_,?_,?_⟩
 ·refine je ?_ m.perm;rw [aq];refine cq _ ?_;refine (List.perm_append_comm_assoc _ _ _).trans ?_;rw [<- iS]
 ·rw [bf];exact ⟨m.srt,(dC t.sb ib).sublist (List.take_sublist k _),fun o ho x hx=>m.low o ho x (ah _ (sub x hx))⟩
 ·intro o ho x hx;rcases bh.mp ho with q | q
  ·refine m.low o q x ?_;rcases bh.mp hx with z | z
   ·exact cu _ z
   ·exact ah _ (sub2 x z)
  ·rcases bh.mp hx with z | z
   ·exact h o q x z
   ·exact B' t.sb ib k o q x z
theorem cK {l:List Nat} {i:Nat} (h:i < l.length):(l.drop i).take 1=[l.getD i 0]:=by
 rw [di h,List.take_succ_cons,List.take_zero,bg,gf h];rfl
theorem MI.done {pr:Nat->Keyed} (m:MI lt la lb lo ia ib) (t:Two lt n la lb) (h:ia=la.length\/ib=lb.length):Mgd pr lt la lb (dI (arr pr la) (arr pr lb) (arr pr lo) ia ib):=by
 refine ⟨lo++la.drop ia++lb.drop ib,?_,by rw [aq]; exact m.perm,?_⟩
 ·unfold dI;rw [cP,cP,dH,dH,cS,cS,du (by rw [cx]; omega),du (by rw [cx]; omega)]
 ·rw [aq,bf];refine ⟨m.srt,?_,m.low⟩;rw [bf];refine ⟨dC t.sa _,dC t.sb _,fun x hx y hy=>?_⟩;rcases h with h | h
  ·rw [h] at hx; simp at hx
  ·rw [h] at hy; simp at hy
theorem MI.last {pr:Nat->Keyed} (m:MI lt la lb lo ia ib) (t:Two lt n la lb) (h:ia+1=la.length) (top:∀ x∈lb,lt (la.getD ia 0) x=false):Mgd pr lt la lb (iR (arr pr la) (arr pr lb) (arr pr lo) ia ib):=by
 have ed:la.drop ia=[la.getD ia 0]:=by
  rw [<- cK (by omega),du (by rw [cx]; omega)]
 refine ⟨lo++lb.drop ib++la.drop ia,?_,?_,?_⟩
 ·unfold iR;rw [cP,cP,dH,dH,cS,cS,du (by rw [cx]; omega),du (by rw [cx]; omega)]
 ·refine je ?_ m.perm;rw [aq];exact cq _ ng
 ·rw [aq,bf];refine ⟨m.srt,?_,fun o ho x hx=>m.low o ho x (by rcases bh.mp hx with z | z; exact ah _ z; exact cu _ z)⟩;rw [bf];refine ⟨dC t.sb _,dC t.sa _,fun x hx y hy=>?_⟩;rw [ed] at hy;simp at hy;rw [hy];have:=top x (dn hx);simpa using this
end
section
variable {M:Model} {A:Around} {E:Value->Shared->Prop} {s:Shared} {κ:k6} {pr:Nat->Keyed} {n:Nat} {lt:Nat->Nat->Bool}
def Sg (st st':SortSt):Prop:=kindOf st'=kindOf st/\arrOf st'=arrOf st/\de st'=de st/\km st'=km st
theorem Sg.refl (st:SortSt):Sg st st:=⟨rfl,rfl,rfl,rfl⟩
theorem iT {g:Nat} {st:SortSt} {Q:Unit->SortSt->Prop} (h:Q () (qD g st)):wpS M A E s (bY g) Q st:=wpS_modify h
theorem fZ {x:String} {st:SortSt} {Q:Unit->SortSt->Prop} (h:Q () st):wpS M A E s (liftM (rule x):StateT SortSt Sem Unit) Q st:=wpS_lift (m5 ⟨rfl,h⟩)
theorem FJ (O:Ask M A E s κ pr n lt) {l:List Nat} (sl:l.Pairwise fun i j=>lt j i=false) (nl:∀ x∈l,x < n) {y i:Nat} (hy:y < n) (hi:i < l.length) {st:SortSt} (hk:kindOf st=κ) {Q:Option Nat->SortSt->Prop}
  (k:∀ r,i+r<=l.length->(∀ x∈(l.drop i).take r,lt y x=false)->(∀ x∈l.drop (i+r),lt y x=true)->Q (some r) st):wpS M A E s (bV false (pr y) (arr pr l) i (l.length - i) 0) Q st:=by
 have at':∀ j,j < l.length->l.getD j 0∈l:=fun j hj=>by
  have:l.getD j 0=l[j]:=by simp [hj]
  rw [this]; exact b9 hj
 refine gD (bey:=fun j=>!lt y (l.getD (i+j) 0)) (fun j hj Q' hq=>?_) (fun a b h1 h2 h3=>?_) (by omega) (fun r h1 h2 h3=>k r (by omega) (fun x hx=>?_) (fun x hx=>?_))
 ·unfold dW;refine ay (aO (by omega) ?_);rw [if_neg (by decide)];refine ay (O.run st _ _ hk hy (nl _ (at' _ (by omega))) _ ?_);exact bu hq
 ·rw [j6] at h3 ⊢
  by_cases e:a=b
  ·subst e; exact h3
  ·have q:=dz.mp sl (i+a) (i+b) (by omega) (by omega) (by omega);have e1:l.getD (i+a) 0=l[i+a]:=by simp [show i+a < l.length by omega]
   have e2:l.getD (i+b) 0=l[i+b]:=by simp [show i+b < l.length by omega]
   rw [e2] at h3;rw [e1];exact O.tr _ _ _ (nl _ (b9 _)) (nl _ (b9 _)) hy q h3
 ·obtain ⟨j,hj,rfl⟩:=e9 hx;rw [bq,cx] at hj;have:=h2 j (by omega);rw [j6] at this;rw [fq,ig];simpa [show i+j < l.length by omega] using this
 ·obtain ⟨j,hj,rfl⟩:=e9 hx;rw [cx] at hj;have:=h3 (r+j) (by omega) (by omega);rw [Bool.not_eq_false'] at this;rw [ig];have e:i+(r+j)=i+r+j:=by omega
  rw [e] at this;simpa [show i+r+j < l.length by omega] using this
theorem Ba (O:Ask M A E s κ pr n lt) {l:List Nat} (sl:l.Pairwise fun i j=>lt j i=false) (nl:∀ x∈l,x < n) {y i c:Nat} (hy:y < n) (hc:i+c<=l.length) {hint:Nat} (hi:hint < c) {st:SortSt} (hk:kindOf st=κ) {Q:Option Nat->SortSt->Prop}
  (k:∀ r,r<=c->(∀ x∈(l.drop i).take r,lt x y=true)->(∀ j,r<=j->j < c->lt (l.getD (i+j) 0) y=false)->Q (some r) st):wpS M A E s (bV true (pr y) (arr pr l) i c hint) Q st:=by
 have at':∀ j,j < l.length->l.getD j 0∈l:=fun j hj=>by
  have:l.getD j 0=l[j]:=by simp [hj]
  rw [this]; exact b9 hj
 refine gD (bey:=fun j=>lt (l.getD (i+j) 0) y) (fun j hj Q' hq=>?_) (fun a b h1 h2 h3=>?_) hi (fun r h1 h2 h3=>k r h1 (fun x hx=>?_) h3)
 ·unfold dW;refine ay (aO (by omega) ?_);rw [if_pos rfl];exact O.run st _ _ hk (nl _ (at' _ (by omega))) hy _ hq
 ·by_cases e:a=b
  ·subst e; exact h3
  ·have q:=dz.mp sl (i+a) (i+b) (by omega) (by omega) (by omega);have e1:l.getD (i+a) 0=l[i+a]:=by simp [show i+a < l.length by omega]
   have e2:l.getD (i+b) 0=l[i+b]:=by simp [show i+b < l.length by omega]
   show lt (l.getD (i+a) 0) y=true
   have h3:lt (l.getD (i+b) 0) y=true:=h3;rw [e2] at h3;rw [e1];cases z:lt l[i+a] y with
   | true=>rfl
   | false=>
    have:=O.tr y _ _ hy (nl _ (b9 _)) (nl _ (b9 _)) z q;rw [this] at h3;cases h3
 ·obtain ⟨j,hj,rfl⟩:=e9 hx;rw [bq,cx] at hj;have:lt (l.getD (i+j) 0) y=true:=h2 j (by omega);rw [fq,ig];simpa [show i+j < l.length by omega] using this
end
def KR (a b:Array Keyed) (na nb g ac bc ia:Nat) (out:Array Keyed) (ib:Nat):StateT SortSt Sem (ForInStep (Option (Array Keyed)×Array Keyed×Nat×Nat×Nat×Nat×Nat)):=do
 let z <- elem' a ia
 if ia+1+1 == na then pure (.done (some (iR a b (out.push z) (ia+1) ib),out.push z,ia+1,ib,g,ac,bc))
 else if ac < 7 && bc < 7 then pure (.done (none,out.push z,ia+1,ib,g,ac,bc))
 else pure (.yield (none,out.push z,ia+1,ib,g,ac,bc))
def KS (a b:Array Keyed) (na nb g ac bc ib:Nat) (out:Array Keyed) (ia:Nat):StateT SortSt Sem (ForInStep (Option (Array Keyed)×Array Keyed×Nat×Nat×Nat×Nat×Nat)):=do
 let z <- elem' b ib
 if ib+1 == nb then pure (.done (some (dI a b (out.push z) ia (ib+1)),out.push z,ia,ib+1,g,ac,bc))
 else
  let some k <- bV true (<- elem' a ia) b (ib+1) (nb - (ib+1)) 0 | pure (.done (some (dI a b (out.push z) ia (ib+1)),out.push z,ia,ib+1,g,ac,bc))
  if k > 0 then
   if ib+1+k == nb then pure (.done (some (dI a b (out.push z++b.extract (ib+1) (ib+1+k)) ia (ib+1+k)),out.push z++b.extract (ib+1) (ib+1+k),ia,ib+1+k,g,ac,k))
   else KR a b na nb g ac k ia (out.push z++b.extract (ib+1) (ib+1+k)) (ib+1+k)
  else KR a b na nb g ac k ia (out.push z) (ib+1)
def Qn (a b:Array Keyed) (na nb:Nat) (out:Array Keyed) (ia ib ac bc g:Nat):StateT SortSt Sem (ForInStep (Option (Array Keyed)×Array Keyed×Nat×Nat×Nat×Nat×Nat)):=do
 bY g
 let some k <- bV false (<- elem' b ib) a ia (na - ia) 0 | pure (.done (some (dI a b out ia ib),out,ia,ib,g,ac,bc))
 if k > 0 then
  if ia+k+1 == na then pure (.done (some (iR a b (out++a.extract ia (ia+k)) (ia+k) ib),out++a.extract ia (ia+k),ia+k,ib,g,k,bc))
  else if ia+k == na then pure (.done (some (dI a b (out++a.extract ia (ia+k)) (ia+k) ib),out++a.extract ia (ia+k),ia+k,ib,g,k,bc))
  else KS a b na nb g k bc ib (out++a.extract ia (ia+k)) (ia+k)
 else KS a b na nb g k bc ib out ia
def Ig (pr:Nat->Keyed) (lt:Nat->Nat->Bool) (la lb:List Nat) (st:SortSt) (p:Nat) (c:Option (Array Keyed)×Array Keyed×Nat×Nat×Nat×Nat×Nat) (st':SortSt):Prop:=Sg st st'/\∃ lo ia ib g ac bc,c=(none,arr pr lo,ia,ib,g,ac,bc)/\MI lt la lb lo ia ib/\ia+1 < la.length/\ib < lb.length/\p<=ia+ib
def Qg (pr:Nat->Keyed) (lt:Nat->Nat->Bool) (la lb:List Nat) (st:SortSt) (p:Nat) (c:Option (Array Keyed)×Array Keyed×Nat×Nat×Nat×Nat×Nat) (st':SortSt):Prop:=(Sg st st'/\∃ r d,c=(some r,d)/\Mgd pr lt la lb r)\/Ig pr lt la lb st p c st'
def Rg (pr:Nat->Keyed) (lt:Nat->Nat->Bool) (la lb:List Nat) (st:SortSt) (p:Nat) (r:ForInStep (Option (Array Keyed)×Array Keyed×Nat×Nat×Nat×Nat×Nat)) (st':SortSt):Prop:=match r with
 | .done c=>Qg pr lt la lb st p c st'
 | .yield c=>Ig pr lt la lb st p c st'
section
variable {M:Model} {A:Around} {E:Value->Shared->Prop} {s:Shared} {κ:k6} {pr:Nat->Keyed} {n:Nat} {lt:Nat->Nat->Bool} {la lb:List Nat}
theorem aP {l:List Nat} {i:Nat} (h:i < l.length):l.getD i 0∈l:=by
 have:l.getD i 0=l[i]:=by simp [h]
 rw [this]; exact b9 h
theorem nX (O:Ask M A E s κ pr n lt) {l:List Nat} (sl:l.Pairwise fun i j=>lt j i=false) (nl:∀ x∈l,x < n) {x i:Nat} (hx:x < n) (hi:i < l.length) (h:lt (l.getD i 0) x=false):∀ y∈l.drop i,lt y x=false:=fun y hy=>by
 have hd:=dC sl i;rw [di hi] at hd hy;have e:l.getD i 0=l[i]:=by simp [hi]
 rw [e] at h;rcases bw.mp hy with rfl | q
 ·exact h
 ·exact O.tr _ _ _ hx (nl _ (b9 hi)) (nl _ (dn q)) h ((jm.mp hd).1 y q)
theorem Two.pa (O:Ask M A E s κ pr n lt) (t:Two lt n la lb) {lo:List Nat} {ia ib:Nat} (m:MI lt la lb lo ia ib) (ha:ia < la.length) (hb:ib < lb.length) (e:lt (lb.getD ib 0) (la.getD ia 0)=false):MI lt la lb (lo++[la.getD ia 0]) (ia+1) ib:=by
 have:=m.pushA t (k:=1) fun x hx=>by
  rw [cK ha] at hx;simp at hx;rw [hx];have:=nX O t.sb t.nb (t.na _ (aP ha)) hb e;simpa using this
 rwa [cK ha] at this
theorem Two.pb (O:Ask M A E s κ pr n lt) (t:Two lt n la lb) {lo:List Nat} {ia ib:Nat} (m:MI lt la lb lo ia ib) (ha:ia < la.length) (hb:ib < lb.length) (e:lt (lb.getD ib 0) (la.getD ia 0)=true):MI lt la lb (lo++[lb.getD ib 0]) ia (ib+1):=by
 have:=m.pushB t (k:=1) fun x hx=>by
  rw [cK hb] at hx;simp at hx;rw [hx];have:=nX O t.sa t.na (t.nb _ (aP hb)) ha (O.as _ _ (t.nb _ (aP hb)) (t.na _ (aP ha)) e);simpa using this
 rwa [cK hb] at this
theorem Bb (O:Ask M A E s κ pr n lt) (t:Two lt n la lb) (top:∀ x∈lb,lt (la.getD (la.length - 1) 0) x=false) {st st3:SortSt} (sg:Sg st st3) {lo:List Nat} {ia ib p:Nat} (m:MI lt la lb lo ia ib) (ha:ia+1 < la.length) (hb:ib < lb.length) (h:∀ y∈lb.drop ib,lt y (la.getD ia 0)=false) (pg:p<=ia+ib) (g ac bc:Nat):wpS M A E s (KR (arr pr la) (arr pr lb) la.length lb.length g ac bc ia (arr pr lo) ib) (Rg pr lt la lb st p) st3:=by
 unfold KR;refine ay (aO (by omega) ?_);have m':MI lt la lb (lo++[la.getD ia 0]) (ia+1) ib:=by
  have:=m.pushA t (k:=1) fun x hx=>by
   rw [cK (by omega)] at hx;simp at hx;rw [hx];simpa using h
  rwa [cK (by omega)] at this
 rw [fL]
 by_cases c3:(ia+1+1 == la.length)=true
 ·rw [if_pos c3];rw [beq_iff_eq] at c3;refine bu (.inl ⟨sg,_,_,rfl,m'.last t c3 ?_⟩);have:ia+1=la.length - 1:=by omega
  rw [this]; exact top
 rw [if_neg c3];rw [beq_iff_eq] at c3
 by_cases c4:(decide (ac < 7) && decide (bc < 7))=true
 ·rw [if_pos c4];exact bu (.inr ⟨sg,_,_,_,_,_,_,rfl,m',by omega,hb,by omega⟩)
 ·rw [if_neg c4];exact bu ⟨sg,_,_,_,_,_,_,rfl,m',by omega,hb,by omega⟩
theorem Bc (O:Ask M A E s κ pr n lt) (t:Two lt n la lb) (top:∀ x∈lb,lt (la.getD (la.length - 1) 0) x=false) {st st3:SortSt} (hk:kindOf st=κ) (sg:Sg st st3) {lo:List Nat} {ia ib p:Nat} (m:MI lt la lb lo ia ib) (ha:ia+1 < la.length) (hb:ib < lb.length) (h:∀ x∈la.drop ia,lt (lb.getD ib 0) x=true) (pg:p<=ia+ib) (g ac bc:Nat):wpS M A E s (KS (arr pr la) (arr pr lb) la.length lb.length g ac bc ib (arr pr lo) ia) (Rg pr lt la lb st p) st3:=by
 unfold KS;refine ay (aO hb ?_);have hm:la.getD ia 0∈la.drop ia:=by
  have e:la.getD ia 0=la[ia]:=by simp [show ia < la.length by omega]
  rw [e,di (show ia < la.length by omega)];exact ax
 have m':=t.pb O m (by omega) hb (h _ hm);rw [fL]
 by_cases c3:(ib+1 == lb.length)=true
 ·rw [if_pos c3];rw [beq_iff_eq] at c3;exact bu (.inl ⟨sg,_,_,rfl,m'.done t (.inr c3)⟩)
 rw [if_neg c3];rw [beq_iff_eq] at c3;have hx:la.getD ia 0 < n:=t.na _ (aP (by omega));refine ay (aO (by omega) (ay (Ba O t.sb t.nb hx (by omega) (by omega) (sg.1.trans hk) fun r a1 a2 a3=>?_)));dsimp only;have rest:∀ y∈lb.drop (ib+1+r),lt y (la.getD ia 0)=false:=fun y hy=>by
  obtain ⟨j,hj,rfl⟩:=e9 hy;rw [cx] at hj;have:=a3 (r+j) (by omega) (by omega);rw [show ib+1+(r+j)=ib+1+r+j by omega] at this;rw [ig];simpa [show ib+1+r+j < lb.length by omega] using this
 by_cases c5:r > 0
 ·rw [if_pos c5,cP,dH,show ib+1+r - (ib+1)=r by omega];have m2:=m'.pushB t (k:=r) fun x hx'=>by
   have hxn:=t.nb x (dn (cv hx'));exact nX O t.sa t.na hxn (by omega) (O.as _ _ hxn hx (a2 x hx'))
  by_cases c6:(ib+1+r == lb.length)=true
  ·rw [if_pos c6];rw [beq_iff_eq] at c6;exact bu (.inl ⟨sg,_,_,rfl,m2.done t (.inr c6)⟩)
  rw [if_neg c6];rw [beq_iff_eq] at c6;exact Bb O t top sg m2 ha (by omega) rest (by omega) _ _ _
 ·rw [if_neg c5];obtain rfl:r=0:=by omega
  exact Bb O t top sg m' ha (by omega) rest (by omega) _ _ _
theorem Bd (O:Ask M A E s κ pr n lt) (t:Two lt n la lb) (top:∀ x∈lb,lt (la.getD (la.length - 1) 0) x=false) {st st3:SortSt} (hk:kindOf st=κ) (sg:Sg st st3) {lo:List Nat} {ia ib p:Nat} (m:MI lt la lb lo ia ib) (ha:ia+1 < la.length) (hb:ib < lb.length) (pg:p<=ia+ib) (ac bc g:Nat):wpS M A E s (Qn (arr pr la) (arr pr lb) la.length lb.length (arr pr lo) ia ib ac bc g) (Rg pr lt la lb st p) st3:=by
 unfold Qn;refine ay (iT (ay (aO hb (ay (FJ (i:=ia) (st:=qD g st3) O t.sa t.na (t.nb _ (aP hb)) (by omega) (sg.1.trans hk) fun r a1 a2 a3=>?_)))));dsimp only;have sg':Sg st (qD g st3):=sg
 by_cases c5:r > 0
 ·rw [if_pos c5,cP,dH,show ia+r - ia=r by omega];have m':=m.pushA t (k:=r) fun x hx=>nX O t.sb t.nb (t.na x (dn (cv hx))) hb (a2 x hx)
  by_cases c6:(ia+r+1 == la.length)=true
  ·rw [if_pos c6];rw [beq_iff_eq] at c6;refine bu (.inl ⟨sg',_,_,rfl,m'.last t c6 ?_⟩);have:ia+r=la.length - 1:=by omega
   rw [this]; exact top
  rw [if_neg c6];rw [beq_iff_eq] at c6
  by_cases c7:(ia+r == la.length)=true
  ·rw [if_pos c7];rw [beq_iff_eq] at c7;exact bu (.inl ⟨sg',_,_,rfl,m'.done t (.inl c7)⟩)
  rw [if_neg c7];rw [beq_iff_eq] at c7;exact Bc O t top hk sg' m' (by omega) hb a3 (by omega) _ _ _
 ·rw [if_neg c5];obtain rfl:r=0:=by omega
  exact Bc O t top hk sg' m ha hb a3 pg _ _ _
theorem Be (O:Ask M A E s κ pr n lt) (t:Two lt n la lb) (h1:0 < la.length) (h2:0 < lb.length) (first:lt (lb.getD 0 0) (la.getD 0 0)=true) (top:∀ x∈lb,lt (la.getD (la.length - 1) 0) x=false) {st:SortSt} (hk:kindOf st=κ) {Q:Array Keyed->SortSt->Prop}
  (k:∀ out st',Sg st st'->Mgd pr lt la lb out->Q out st'):wpS M A E s (uA (arr pr la) (arr pr lb)) Q st:=by
 have m0:MI lt la lb [] 0 0:=⟨by simp,j5,fun o ho=>by simp at ho⟩;have m1:=t.pb O m0 h1 h2 first
 have lst:∀ {lo:List Nat} {ia ib:Nat},MI lt la lb lo ia ib->ia+1=la.length->Mgd pr lt la lb (iR (arr pr la) (arr pr lb) (arr pr lo) ia ib):=fun {lo ia ib} m h=>m.last t h (by
  have:ia=la.length - 1:=by omega
  rw [this]; exact top)
 rw [B9,cS,cS];refine ay (fZ ?_);refine ay (aO h2 ?_);dsimp only
 by_cases c1:(1 == lb.length)=true
 ·rw [if_pos c1];rw [beq_iff_eq] at c1;exact bu (k _ _ (Sg.refl _) (m1.done t (.inr c1)))
 rw [if_neg c1];rw [beq_iff_eq] at c1
 by_cases c2:(0+1 == la.length)=true
 ·rw [if_pos c2];rw [beq_iff_eq] at c2;exact bu (k _ _ (Sg.refl _) (lst m1 c2))
 rw [if_neg c2];rw [beq_iff_eq] at c2;refine ay (wpS_get ?_);refine ay (kc (gb (fun i c st'=>Sg st st'/\∃ lo ia ib g,c=(none,arr pr lo,ia,ib,g)/\MI lt la lb lo ia ib/\ia+1 < la.length/\ib < lb.length/\i+1<=ia+ib) (Q:=fun c st'=>Sg st st'/\∃ r d,c=(some r,d)/\Mgd pr lt la lb r) (fun i c st' _ hi=>?_) (fun c st'=>?_) ⟨Sg.refl _,[lb.getD 0 0],0,1,_,rfl,m1,by omega,by omega,by omega⟩) fun c st' hq=>?_)
 ·rintro ⟨sg,lo,ia,ib,g,rfl,m,ha,hb,pg⟩;dsimp only;refine ay (kc (gb (fun j c st''=>Sg st st''/\∃ lo ia ib ac bc,c=(none,arr pr lo,ia,ib,ac,bc)/\MI lt la lb lo ia ib/\ia+1 < la.length/\ib < lb.length/\i+1+j<=ia+ib) (Q:=fun c st''=>Sg st st''/\((∃ r d,c=(some r,d)/\Mgd pr lt la lb r)\/∃ lo ia ib ac bc,c=(none,arr pr lo,ia,ib,ac,bc)/\MI lt la lb lo ia ib/\ia+1 < la.length/\ib < lb.length/\i+2<=ia+ib)) (fun j c st'' _ hj=>?_) (fun c st''=>?_) ⟨sg,lo,ia,ib,0,0,rfl,m,ha,hb,by omega⟩) fun c st'' hq=>?_)
  ·rintro ⟨sg,lo,ia,ib,ac,bc,rfl,m,ha,hb,pg⟩;dsimp only;refine ay (aO hb (ay (aO (by omega) (ay (O.run st'' _ _ (sg.1.trans hk) (t.nb _ (aP hb)) (t.na _ (aP (by omega))) _ ?_)))));dsimp only;cases e:lt (lb.getD ib 0) (la.getD ia 0) with
   | true=>
    rw [if_pos rfl];refine ay (aO hb ?_);have m':=t.pb O m (by omega) hb e;rw [fL]
    by_cases c3:(ib+1 == lb.length)=true
    ·rw [if_pos c3];rw [beq_iff_eq] at c3;exact bu ⟨sg,.inl ⟨_,_,rfl,m'.done t (.inr c3)⟩⟩
    rw [if_neg c3];rw [beq_iff_eq] at c3
    by_cases c4:bc+1 >= g
    ·rw [if_pos c4];exact bu ⟨sg,.inr ⟨_,_,_,_,_,rfl,m',ha,by omega,by omega⟩⟩
    ·rw [if_neg c4];exact bu ⟨sg,_,_,_,_,_,rfl,m',ha,by omega,by omega⟩
   | false=>
    rw [if_neg (by decide)];refine ay (aO (by omega) ?_);have m':=t.pa O m (by omega) hb e;rw [fL]
    by_cases c3:(ia+1+1 == la.length)=true
    ·rw [if_pos c3];rw [beq_iff_eq] at c3;exact bu ⟨sg,.inl ⟨_,_,rfl,lst m' c3⟩⟩
    rw [if_neg c3];rw [beq_iff_eq] at c3
    by_cases c4:ac+1 >= g
    ·rw [if_pos c4];exact bu ⟨sg,.inr ⟨_,_,_,_,_,rfl,m',by omega,hb,by omega⟩⟩
    ·rw [if_neg c4];exact bu ⟨sg,_,_,_,_,_,rfl,m',by omega,hb,by omega⟩
  ·rintro ⟨sg,lo,ia,ib,ac,bc,rfl,m,ha,hb,pg⟩;exact ⟨sg,.inr ⟨_,_,_,_,_,rfl,m,ha,hb,by omega⟩⟩
  ·obtain ⟨sg,⟨r,d,rfl,mg⟩ | ⟨lo,ia,ib,ac,bc,rfl,m,ha,hb,pg⟩⟩:=hq
   ·exact bu ⟨sg,_,_,rfl,mg⟩
   dsimp only;refine ay (fZ ?_);refine ay (kc (gb (fun j c st''=>Ig pr lt la lb st (i+2) c st'') (Q:=Qg pr lt la lb st (i+2)) (fun j c st'' _ hj=>?_) (fun c st'' h=>.inr h) ⟨sg,lo,ia,ib,_,ac,bc,rfl,m,ha,hb,pg⟩) fun c st'' hq=>?_)
   ·rintro ⟨sg,lo,ia,ib,g,ac,bc,rfl,m,ha,hb,pg⟩;dsimp only
    by_cases cg:g > 1
    ·rw [if_pos cg];exact kc (Bd O t top hk sg m ha hb pg ac bc (g - 1)) fun r _ h=>by cases r <;> exact h
    ·rw [if_neg cg];exact kc (Bd O t top hk sg m ha hb pg ac bc g) fun r _ h=>by cases r <;> exact h
   ·rcases hq with ⟨sg,r,d,rfl,mg⟩ | ⟨sg,lo,ia,ib,g,ac,bc,rfl,m,ha,hb,pg⟩
    ·exact bu ⟨sg,_,_,rfl,mg⟩
    ·dsimp only;exact ay (iT (bu ⟨sg,_,_,_,_,rfl,m,ha,hb,by omega⟩))
 ·rintro ⟨sg,lo,ia,ib,g,rfl,m,ha,hb,pg⟩;omega
 ·obtain ⟨sg,r,d,rfl,mg⟩:=hq;exact bu (k _ _ sg mg)
end
def uB:Array Keyed->Array Keyed->StateT SortSt Sem (Array Keyed):=sortPriv% PySem.Builtin.mergeHi
def dJ (a b:Array Keyed) (out:Array Keyed) (na nb:Nat):=a.extract 0 na++b.extract 0 nb++out.reverse
def gR (a b:Array Keyed) (out:Array Keyed) (na nb:Nat):=b.extract 0 nb++a.extract 0 na++out.reverse
theorem Bf (a b:Array Keyed):uB a b=(do
 rule "list.sort.merge-hi"
 let total:=a.size+b.size
 let mut na:=a.size - 1
 let mut nb:=b.size
 let mut out:Array Keyed:=#[<- elem' a na]
 if na == 0 then return dJ a b out na nb
 if nb == 1 then return gR a b out na nb
 let mut minGallop:=gallopOf (<- get)
 for _ in [0:total] do
  let mut acount:=0
  let mut bcount:=0
  for _ in [0:total] do
   let some aWins <- lt' (<- elem' b (nb - 1)) (<- elem' a (na - 1)) | return dJ a b out na nb
   if aWins then
    na:=na - 1; out:=out.push (<- elem' a na); acount:=acount+1; bcount:=0
    if na == 0 then return dJ a b out na nb
    if acount >= minGallop then break
   else
    nb:=nb - 1; out:=out.push (<- elem' b nb); bcount:=bcount+1; acount:=0
    if nb == 1 then return gR a b out na nb
    if bcount >= minGallop then break
  rule "list.sort.gallop"
  minGallop:=minGallop+1
  for _ in [0:total] do
   if minGallop > 1 then minGallop:=minGallop - 1
   bY minGallop
   let some at_ <- bV false (<- elem' b (nb - 1)) a 0 na (na - 1) | return dJ a b out na nb
   let k:=na - at_
   acount:=k
   if k > 0 then
    out:=out++(a.extract at_ na).reverse; na:=at_
    if na == 0 then return dJ a b out na nb
   nb:=nb - 1; out:=out.push (<- elem' b nb)
   if nb == 1 then return gR a b out na nb
   let some at_ <- bV true (<- elem' a (na - 1)) b 0 nb (nb - 1) | return dJ a b out na nb
   let k:=nb - at_
   bcount:=k
   if k > 0 then
    out:=out++(b.extract at_ nb).reverse; nb:=at_
    if nb == 1 then return gR a b out na nb
    if nb == 0 then return dJ a b out na nb
   na:=na - 1; out:=out.push (<- elem' a na)
   if na == 0 then return dJ a b out na nb
   if acount < 7 && bcount < 7 then break
  minGallop:=minGallop+1
  bY minGallop
 unsupported "internal:list.sort.merge-bound"):=rfl
abbrev D2:=Option (Array Keyed)×Nat×Nat×Array Keyed×Nat×Nat×Nat
def KU (a b:Array Keyed) (g ac bc na nb:Nat) (out:Array Keyed):StateT SortSt Sem (ForInStep D2):=do
 let z <- elem' a (na - 1)
 if na - 1 == 0 then pure (.done (some (dJ a b (out.push z) (na - 1) nb),na - 1,nb,out.push z,g,ac,bc))
 else if ac < 7 && bc < 7 then pure (.done (none,na - 1,nb,out.push z,g,ac,bc))
 else pure (.yield (none,na - 1,nb,out.push z,g,ac,bc))
def KW (a b:Array Keyed) (g ac bc nb na:Nat) (out:Array Keyed):StateT SortSt Sem (ForInStep D2):=do
 let z <- elem' b (nb - 1)
 if nb - 1 == 1 then pure (.done (some (gR a b (out.push z) na (nb - 1)),na,nb - 1,out.push z,g,ac,bc))
 else
  let some at_ <- bV true (<- elem' a (na - 1)) b 0 (nb - 1) (nb - 1 - 1) | pure (.done (some (dJ a b (out.push z) na (nb - 1)),na,nb - 1,out.push z,g,ac,bc))
  if nb - 1 - at_ > 0 then
   if at_ == 1 then pure (.done (some (gR a b (out.push z++(b.extract at_ (nb - 1)).reverse) na at_),na,at_,out.push z++(b.extract at_ (nb - 1)).reverse,g,ac,nb - 1 - at_))
   else if at_ == 0 then pure (.done (some (dJ a b (out.push z++(b.extract at_ (nb - 1)).reverse) na at_),na,at_,out.push z++(b.extract at_ (nb - 1)).reverse,g,ac,nb - 1 - at_))
   else KU a b g ac (nb - 1 - at_) na at_ (out.push z++(b.extract at_ (nb - 1)).reverse)
  else KU a b g ac (nb - 1 - at_) na (nb - 1) (out.push z)
def Qo (a b:Array Keyed) (out:Array Keyed) (na nb ac bc g:Nat):StateT SortSt Sem (ForInStep D2):=do
 bY g
 let some at_ <- bV false (<- elem' b (nb - 1)) a 0 na (na - 1) | pure (.done (some (dJ a b out na nb),na,nb,out,g,ac,bc))
 if na - at_ > 0 then
  if at_ == 0 then pure (.done (some (dJ a b (out++(a.extract at_ na).reverse) at_ nb),at_,nb,out++(a.extract at_ na).reverse,g,na - at_,bc))
  else KW a b g (na - at_) bc nb at_ (out++(a.extract at_ na).reverse)
 else KW a b g (na - at_) bc nb na out
theorem tF (pr:Nat->Keyed) (l:List Nat):(arr pr l).reverse=arr pr l.reverse:=by simp [arr]
structure MH (lt:Nat->Nat->Bool) (la lb lo:List Nat) (na nb:Nat):Prop where
 perm:(la.take na++(lb.take nb++lo)).Perm (la++lb)
 srt:lo.Pairwise fun i j=>lt i j=false
 hi:∀ o∈lo,∀ x∈la.take na++lb.take nb,lt o x=false
section
variable {lt:Nat->Nat->Bool} {n:Nat} {la lb lo:List Nat} {na nb k:Nat}
theorem dM {l:List Nat} {i k:Nat} (h:i<=k):l.take k=l.take i++(l.take k).drop i:=by
 have:=cm i (l.take k);rw [List.take_take,Nat.min_eq_left h] at this;exact this.symm
theorem dX {R:Nat->Nat->Prop} {l:List Nat} (h:l.Pairwise R) (k:Nat):(l.take k).Pairwise R:=h.sublist (List.take_sublist k l)
theorem EE {R:Nat->Nat->Prop} {l:List Nat} (h:l.Pairwise R) {i k:Nat} (hi:i<=k):∀ x∈(l.take k).drop i,∀ y∈l.take i,R y x:=fun x hx y hy=>by
 have ht:=dX h k;rw [dM hi] at ht;exact (bf.mp ht).2.2 y hy x hx
theorem MH.pushA (m:MH lt la lb lo na nb) (t:Two lt n la lb) (hk:k<=na) (h:∀ x∈(la.take na).drop k,∀ y∈lb.take nb,lt x y=false):MH lt la lb (lo++((la.take na).drop k).reverse) k nb:=by
 have sub:∀ x∈(la.take na).drop k,x∈la.take na:=fun x hx=>dn hx;have sub2:∀ x∈la.take k,x∈la.take na:=fun x hx=>by rw [dM hk]; exact cu _ hx
 refine ⟨?_,?_,?_⟩
 ·refine je ?_ m.perm
  conv=>rhs; rw [dM (l:=la) hk,aq]
  refine cq _ ?_;have p1:(lb.take nb++(lo++((la.take na).drop k).reverse)).Perm ((lb.take nb++lo)++(la.take na).drop k):=by
   rw [<- aq];exact cq _ (gq _)
  exact p1.trans ng
 ·rw [bf];refine ⟨m.srt,?_,fun o ho x hx=>m.hi o ho x (cu _ (sub x (gm.mp hx)))⟩;rw [gh];exact (dX t.sa na).sublist (List.drop_sublist k _)
 ·intro o ho x hx;rcases bh.mp ho with q | q
  ·refine m.hi o q x ?_;rcases bh.mp hx with z | z
   ·exact cu _ (sub2 x z)
   ·exact ah _ z
  ·have q:=gm.mp q;rcases bh.mp hx with z | z
   ·exact EE t.sa hk o q x z
   ·exact h o q x z
theorem MH.pushB (m:MH lt la lb lo na nb) (t:Two lt n la lb) (hk:k<=nb) (h:∀ x∈(lb.take nb).drop k,∀ y∈la.take na,lt x y=false):MH lt la lb (lo++((lb.take nb).drop k).reverse) na k:=by
 have sub:∀ x∈(lb.take nb).drop k,x∈lb.take nb:=fun x hx=>dn hx;have sub2:∀ x∈lb.take k,x∈lb.take nb:=fun x hx=>by rw [dM hk]; exact cu _ hx
 refine ⟨?_,?_,?_⟩
 ·refine je (cq _ ?_) m.perm;have p1:(lb.take k++(lo++((lb.take nb).drop k).reverse)).Perm (lb.take k++((lb.take nb).drop k++lo)):=by
   refine cq _ ?_;exact (cq _ (gq _)).trans ng
  refine p1.trans ?_;rw [<- aq,<- dM hk]
 ·rw [bf];refine ⟨m.srt,?_,fun o ho x hx=>m.hi o ho x (ah _ (sub x (gm.mp hx)))⟩;rw [gh];exact (dX t.sb nb).sublist (List.drop_sublist k _)
 ·intro o ho x hx;rcases bh.mp ho with q | q
  ·refine m.hi o q x ?_;rcases bh.mp hx with z | z
   ·exact cu _ z
   ·exact ah _ (sub2 x z)
  ·have q:=gm.mp q;rcases bh.mp hx with z | z
   ·exact h o q x z
   ·exact EE t.sb hk o q x z
theorem iD {l:List Nat} {i:Nat} (h0:0 < i) (h:i<=l.length):(l.take i).drop (i - 1)=[l.getD (i - 1) 0]:=by
 have hl:(l.take i).length=i:=by rw [bq]; omega
 rw [di (by omega),m7 (by omega),fq,bg,gf (show i - 1 < l.length by omega)];rfl
theorem MH.done {pr:Nat->Keyed} (m:MH lt la lb lo na nb) (t:Two lt n la lb) (h:na=0\/nb=0):Mgd pr lt la lb (dJ (arr pr la) (arr pr lb) (arr pr lo) na nb):=by
 refine ⟨la.take na++lb.take nb++lo.reverse,?_,?_,?_⟩
 ·unfold dJ;rw [cP,cP,tF,dH,dH,d3,d3,jf,jf]
 ·refine je ?_ m.perm;rw [aq];exact cq _ (cq _ (gq _))
 ·rw [bf];refine ⟨?_,by rw [gh]; exact m.srt,fun x hx y hy=>m.hi y (gm.mp hy) x hx⟩;rw [bf];refine ⟨dX t.sa _,dX t.sb _,fun x hx y hy=>?_⟩;rcases h with h | h
  ·rw [h] at hx; simp at hx
  ·rw [h] at hy; simp at hy
theorem MH.first {pr:Nat->Keyed} (m:MH lt la lb lo na nb) (t:Two lt n la lb) (h:nb=1) (hb:0 < lb.length) (low:∀ x∈la,lt x (lb.getD 0 0)=false):Mgd pr lt la lb (gR (arr pr la) (arr pr lb) (arr pr lo) na nb):=by
 subst h;have ed:lb.take 1=[lb.getD 0 0]:=by
  have:=cK (l:=lb) (i:=0) hb
  rwa [d3] at this
 refine ⟨lb.take 1++la.take na++lo.reverse,?_,?_,?_⟩
 ·unfold gR;rw [cP,cP,tF,dH,dH,d3,d3,jf,jf]
 ·refine je ?_ m.perm;refine (cq _ (gq _)).trans ?_;rw [<- aq];exact ix _ ng
 ·rw [bf];refine ⟨?_,by rw [gh]; exact m.srt,fun x hx y hy=>m.hi y (gm.mp hy) x (by rcases bh.mp hx with z | z; exact ah _ z; exact cu _ z)⟩;rw [bf];refine ⟨dX t.sb _,dX t.sa _,fun x hx y hy=>?_⟩;rw [ed] at hx;simp at hx;rw [hx];have:=low y (cv hy);simpa using this
end
section
variable {M:Model} {A:Around} {E:Value->Shared->Prop} {s:Shared} {κ:k6} {pr:Nat->Keyed} {n:Nat} {lt:Nat->Nat->Bool} {la lb:List Nat}
theorem De (O:Ask M A E s κ pr n lt) {l:List Nat} (sl:l.Pairwise fun i j=>lt j i=false) (nl:∀ x∈l,x < n) {y c:Nat} (hy:y < n) (h0:0 < c) (hc:c<=l.length) {st:SortSt} (hk:kindOf st=κ) {Q:Option Nat->SortSt->Prop}
  (k:∀ r,r<=c->(0 < r->lt y (l.getD (r - 1) 0)=false)->(∀ x∈(l.take c).drop r,lt y x=true)->Q (some r) st):wpS M A E s (bV false (pr y) (arr pr l) 0 c (c - 1)) Q st:=by
 refine gD (bey:=fun j=>!lt y (l.getD (0+j) 0)) (fun j hj Q' hq=>?_) (fun a b h1 h2 h3=>?_) (by omega) (fun r h1 h2 h3=>k r h1 (fun hr=>?_) (fun x hx=>?_))
 ·unfold dW;refine ay (aO (by omega) ?_);rw [if_neg (by decide)];refine ay (O.run st _ _ hk hy (nl _ (aP (by omega))) _ ?_);exact bu hq
 ·rw [j6] at h3 ⊢
  by_cases e:a=b
  ·subst e; exact h3
  ·have q:=dz.mp sl (0+a) (0+b) (by omega) (by omega) (by omega);have e1:l.getD (0+a) 0=l[0+a]:=by simp [show a < l.length by omega]
   have e2:l.getD (0+b) 0=l[0+b]:=by simp [show b < l.length by omega]
   rw [e2] at h3;rw [e1];exact O.tr _ _ _ (nl _ (b9 _)) (nl _ (b9 _)) hy q h3
 ·have:=h2 (r - 1) (by omega);rw [j6,l9] at this;exact this
 ·obtain ⟨j,hj,rfl⟩:=e9 hx;rw [cx,bq] at hj;have:=h3 (r+j) (by omega) (by omega);rw [Bool.not_eq_false',l9] at this;rw [ig,fq];simpa [show r+j < l.length by omega] using this
theorem FK (O:Ask M A E s κ pr n lt) {l:List Nat} (sl:l.Pairwise fun i j=>lt j i=false) (nl:∀ x∈l,x < n) {y c:Nat} (hy:y < n) (h0:0 < c) (hc:c<=l.length) {st:SortSt} (hk:kindOf st=κ) {Q:Option Nat->SortSt->Prop}
  (k:∀ r,r<=c->(∀ x∈l.take r,lt x y=true)->(∀ x∈(l.take c).drop r,lt x y=false)->Q (some r) st):wpS M A E s (bV true (pr y) (arr pr l) 0 c (c - 1)) Q st:=by
 refine Ba O sl nl hy (i:=0) (by omega) (by omega) hk fun r h1 h2 h3=>k r h1 (fun x hx=>h2 x (by rw [d3]; exact hx)) fun x hx=>?_;obtain ⟨j,hj,rfl⟩:=e9 hx;rw [cx,bq] at hj;have:=h3 (r+j) (by omega) (by omega);rw [l9] at this;rw [ig,fq];simpa [show r+j < l.length by omega] using this
theorem nY (O:Ask M A E s κ pr n lt) {l:List Nat} (sl:l.Pairwise fun i j=>lt j i=false) (nl:∀ x∈l,x < n) {x i:Nat} (hx:x < n) (h0:0 < i) (hi:i<=l.length) (h:lt x (l.getD (i - 1) 0)=false):∀ y∈l.take i,lt x y=false:=fun y hy=>by
 have e:l.getD (i - 1) 0=l[i - 1]:=by simp [show i - 1 < l.length by omega]
 obtain ⟨j,hj,rfl⟩:=e9 hy;rw [bq] at hj;rw [fq];rw [e] at h
 by_cases z:j=i - 1
 ·subst z; exact h
 ·have q:=dz.mp sl j (i - 1) (by omega) (by omega) (by omega);exact O.tr _ _ _ (nl _ (b9 _)) (nl _ (b9 _)) hx q h
theorem Two.qa (O:Ask M A E s κ pr n lt) (t:Two lt n la lb) {lo:List Nat} {na nb:Nat} (m:MH lt la lb lo na nb) (ha:0 < na) (ha':na<=la.length) (h:∀ y∈lb.take nb,lt (la.getD (na - 1) 0) y=false):MH lt la lb (lo++[la.getD (na - 1) 0]) (na - 1) nb:=by
 have:=m.pushA t (k:=na - 1) (by omega) fun x hx=>by
  rw [iD ha ha'] at hx;simp at hx;rw [hx];simpa using h
 rwa [iD ha ha',List.reverse_singleton] at this
theorem Two.qb (O:Ask M A E s κ pr n lt) (t:Two lt n la lb) {lo:List Nat} {na nb:Nat} (m:MH lt la lb lo na nb) (hb:0 < nb) (hb':nb<=lb.length) (h:∀ y∈la.take na,lt (lb.getD (nb - 1) 0) y=false):MH lt la lb (lo++[lb.getD (nb - 1) 0]) na (nb - 1):=by
 have:=m.pushB t (k:=nb - 1) (by omega) fun x hx=>by
  rw [iD hb hb'] at hx;simp at hx;rw [hx];simpa using h
 rwa [iD hb hb',List.reverse_singleton] at this
def Ih (pr:Nat->Keyed) (lt:Nat->Nat->Bool) (la lb:List Nat) (st:SortSt) (p:Nat) (c:D2) (st':SortSt):Prop:=Sg st st'/\∃ lo na nb g ac bc,c=(none,na,nb,arr pr lo,g,ac,bc)/\MH lt la lb lo na nb/\(0 < na/\na<=la.length)/\(1 < nb/\nb<=lb.length)/\p+(na+nb)<=la.length+lb.length
def Qh (pr:Nat->Keyed) (lt:Nat->Nat->Bool) (la lb:List Nat) (st:SortSt) (p:Nat) (c:D2) (st':SortSt):Prop:=(Sg st st'/\∃ r d,c=(some r,d)/\Mgd pr lt la lb r)\/Ih pr lt la lb st p c st'
def Rh (pr:Nat->Keyed) (lt:Nat->Nat->Bool) (la lb:List Nat) (st:SortSt) (p:Nat) (r:ForInStep D2) (st':SortSt):Prop:=match r with
 | .done c=>Qh pr lt la lb st p c st'
 | .yield c=>Ih pr lt la lb st p c st'
theorem Bg (O:Ask M A E s κ pr n lt) (t:Two lt n la lb) {st st3:SortSt} (sg:Sg st st3) {lo:List Nat} {na nb p:Nat} (m:MH lt la lb lo na nb) (ha:0 < na/\na<=la.length) (hb:1 < nb/\nb<=lb.length) (h:∀ y∈lb.take nb,lt (la.getD (na - 1) 0) y=false) (pg:p+(na+nb)<=la.length+lb.length) (g ac bc:Nat):wpS M A E s (KU (arr pr la) (arr pr lb) g ac bc na nb (arr pr lo)) (Rh pr lt la lb st p) st3:=by
 unfold KU;refine ay (aO (by omega) ?_);have m':=t.qa O m ha.1 ha.2 h;rw [fL]
 by_cases c3:(na - 1 == 0)=true
 ·rw [if_pos c3];rw [beq_iff_eq] at c3;exact bu (.inl ⟨sg,_,_,rfl,m'.done t (.inl c3)⟩)
 rw [if_neg c3];rw [beq_iff_eq] at c3
 by_cases c4:(decide (ac < 7) && decide (bc < 7))=true
 ·rw [if_pos c4];exact bu (.inr ⟨sg,_,_,_,_,_,_,rfl,m',by omega,hb,by omega⟩)
 ·rw [if_neg c4];exact bu ⟨sg,_,_,_,_,_,_,rfl,m',by omega,hb,by omega⟩
theorem Bh (O:Ask M A E s κ pr n lt) (t:Two lt n la lb) (low:∀ x∈la,lt x (lb.getD 0 0)=false) {st st3:SortSt} (hk:kindOf st=κ) (sg:Sg st st3) {lo:List Nat} {na nb p:Nat} (m:MH lt la lb lo na nb) (ha:0 < na/\na<=la.length) (hb:1 < nb/\nb<=lb.length) (h:lt (lb.getD (nb - 1) 0) (la.getD (na - 1) 0)=false) (pg:p+(na+nb)<=la.length+lb.length) (g ac bc:Nat):wpS M A E s (KW (arr pr la) (arr pr lb) g ac bc nb na (arr pr lo)) (Rh pr lt la lb st p) st3:=by
 unfold KW;refine ay (aO (by omega) ?_);have hy:lb.getD (nb - 1) 0 < n:=t.nb _ (aP (by omega));have m':=t.qb O m (by omega) hb.2 (nY O t.sa t.na hy ha.1 ha.2 h);rw [fL]
 by_cases c3:(nb - 1 == 1)=true
 ·rw [if_pos c3];rw [beq_iff_eq] at c3;exact bu (.inl ⟨sg,_,_,rfl,m'.first t c3 (by omega) low⟩)
 rw [if_neg c3];rw [beq_iff_eq] at c3;have hx:la.getD (na - 1) 0 < n:=t.na _ (aP (by omega));refine ay (aO (by omega) (ay (FK O t.sb t.nb hx (by omega) (by omega) (sg.1.trans hk) fun r a1 a2 a3=>?_)));dsimp only;have rest:∀ y∈lb.take r,lt (la.getD (na - 1) 0) y=false:=fun y hy'=>O.as _ _ (t.nb y (cv hy')) hx (a2 y hy')
 by_cases c5:nb - 1 - r > 0
 ·rw [if_pos c5,cP,tF,dH];have ed:(lb.drop r).take (nb - 1 - r)=(lb.take (nb - 1)).drop r:=by rw [List.drop_take]
  rw [ed];have m2:=m'.pushB t (k:=r) (by omega) fun x hx'=>by
   have hxn:=t.nb x (cv (dn hx'));exact nY O t.sa t.na hxn ha.1 ha.2 (a3 x hx')
  by_cases c6:(r == 1)=true
  ·rw [if_pos c6];rw [beq_iff_eq] at c6;exact bu (.inl ⟨sg,_,_,rfl,m2.first t c6 (by omega) low⟩)
  rw [if_neg c6];rw [beq_iff_eq] at c6
  by_cases c7:(r == 0)=true
  ·rw [if_pos c7];rw [beq_iff_eq] at c7;exact bu (.inl ⟨sg,_,_,rfl,m2.done t (.inr c7)⟩)
  rw [if_neg c7];rw [beq_iff_eq] at c7;exact Bg O t sg m2 ha (by omega) rest (by omega) _ _ _
 ·rw [if_neg c5];obtain rfl:r=nb - 1:=by omega
  exact Bg O t sg m' ha (by omega) rest (by omega) _ _ _
theorem Bi (O:Ask M A E s κ pr n lt) (t:Two lt n la lb) (low:∀ x∈la,lt x (lb.getD 0 0)=false) {st st3:SortSt} (hk:kindOf st=κ) (sg:Sg st st3) {lo:List Nat} {na nb p:Nat} (m:MH lt la lb lo na nb) (ha:0 < na/\na<=la.length) (hb:1 < nb/\nb<=lb.length) (pg:p+(na+nb)<=la.length+lb.length) (ac bc g:Nat):wpS M A E s (Qo (arr pr la) (arr pr lb) (arr pr lo) na nb ac bc g) (Rh pr lt la lb st p) st3:=by
 unfold Qo;have hy:lb.getD (nb - 1) 0 < n:=t.nb _ (aP (by omega));have sg':Sg st (qD g st3):=sg;refine ay (iT (ay (aO (by omega) (ay (De (st:=qD g st3) O t.sa t.na hy ha.1 ha.2 (sg.1.trans hk) fun r a1 a2 a3=>?_)))));dsimp only
 by_cases c5:na - r > 0
 ·rw [if_pos c5,cP,tF,dH];have ed:(la.drop r).take (na - r)=(la.take na).drop r:=by rw [List.drop_take]
  rw [ed];have m':=m.pushA t (k:=r) (by omega) fun x hx'=>by
   have hxn:=t.na x (cv (dn hx'));exact nY O t.sb t.nb hxn (by omega) hb.2 (O.as _ _ hy hxn (a3 x hx'))
  by_cases c6:(r == 0)=true
  ·rw [if_pos c6];rw [beq_iff_eq] at c6;exact bu (.inl ⟨sg',_,_,rfl,m'.done t (.inl c6)⟩)
  rw [if_neg c6];rw [beq_iff_eq] at c6;exact Bh O t low hk sg' m' (by omega) hb (a2 (by omega)) (by omega) _ _ _
 ·rw [if_neg c5];obtain rfl:r=na:=by omega
  exact Bh O t low hk sg' m ha hb (a2 (by omega)) pg _ _ _
theorem Bj (O:Ask M A E s κ pr n lt) (t:Two lt n la lb) (h1:0 < la.length) (h2:0 < lb.length) (low:∀ x∈la,lt x (lb.getD 0 0)=false) (top:∀ x∈lb,lt (la.getD (la.length - 1) 0) x=false) {st:SortSt} (hk:kindOf st=κ) {Q:Array Keyed->SortSt->Prop}
  (k:∀ out st',Sg st st'->Mgd pr lt la lb out->Q out st'):wpS M A E s (uB (arr pr la) (arr pr lb)) Q st:=by
 have m0:MH lt la lb [] la.length lb.length:=⟨by simp,j5,fun o ho=>by simp at ho⟩;have m1:=t.qa O m0 h1 (az _) (fun y hy=>top y (cv hy));rw [Bf,cS,cS];refine ay (fZ ?_);refine ay (aO (by omega) ?_);dsimp only
 by_cases c1:(la.length - 1 == 0)=true
 ·rw [if_pos c1];rw [beq_iff_eq] at c1;exact bu (k _ _ (Sg.refl _) (m1.done t (.inl c1)))
 rw [if_neg c1];rw [beq_iff_eq] at c1
 by_cases c2:(lb.length == 1)=true
 ·rw [if_pos c2];rw [beq_iff_eq] at c2;exact bu (k _ _ (Sg.refl _) (m1.first t c2 h2 low))
 rw [if_neg c2];rw [beq_iff_eq] at c2;refine ay (wpS_get ?_);refine ay (kc (gb (fun i c st'=>Sg st st'/\∃ lo na nb g,c=(none,na,nb,arr pr lo,g)/\MH lt la lb lo na nb/\(0 < na/\na<=la.length)/\(1 < nb/\nb<=lb.length)/\i+1+(na+nb)<=la.length+lb.length) (Q:=fun c st'=>Sg st st'/\∃ r d,c=(some r,d)/\Mgd pr lt la lb r) (fun i c st' _ hi=>?_) (fun c st'=>?_) ⟨Sg.refl _,[la.getD (la.length - 1) 0],_,_,_,rfl,m1,by omega,by omega,by omega⟩) fun c st' hq=>?_)
 ·rintro ⟨sg,lo,na,nb,g,rfl,m,ha,hb,pg⟩;dsimp only;refine ay (kc (gb (fun j c st''=>Sg st st''/\∃ lo na nb ac bc,c=(none,na,nb,arr pr lo,ac,bc)/\MH lt la lb lo na nb/\(0 < na/\na<=la.length)/\(1 < nb/\nb<=lb.length)/\i+1+j+(na+nb)<=la.length+lb.length) (Q:=fun c st''=>Sg st st''/\((∃ r d,c=(some r,d)/\Mgd pr lt la lb r)\/∃ lo na nb ac bc,c=(none,na,nb,arr pr lo,ac,bc)/\MH lt la lb lo na nb/\(0 < na/\na<=la.length)/\(1 < nb/\nb<=lb.length)/\i+2+(na+nb)<=la.length+lb.length)) (fun j c st'' _ hj=>?_) (fun c st''=>?_) ⟨sg,lo,na,nb,0,0,rfl,m,ha,hb,by omega⟩) fun c st'' hq=>?_)
  ·rintro ⟨sg,lo,na,nb,ac,bc,rfl,m,ha,hb,pg⟩;dsimp only;have hx:la.getD (na - 1) 0 < n:=t.na _ (aP (by omega));have hy:lb.getD (nb - 1) 0 < n:=t.nb _ (aP (by omega));refine ay (aO (by omega) (ay (aO (by omega) (ay (O.run st'' _ _ (sg.1.trans hk) hy hx _ ?_)))));dsimp only;cases e:lt (lb.getD (nb - 1) 0) (la.getD (na - 1) 0) with
   | true=>
    rw [if_pos rfl];refine ay (aO (by omega) ?_);have m':=t.qa O m ha.1 ha.2 (nY O t.sb t.nb hx (by omega) hb.2 (O.as _ _ hy hx e));rw [fL]
    by_cases c3:(na - 1 == 0)=true
    ·rw [if_pos c3];rw [beq_iff_eq] at c3;exact bu ⟨sg,.inl ⟨_,_,rfl,m'.done t (.inl c3)⟩⟩
    rw [if_neg c3];rw [beq_iff_eq] at c3
    by_cases c4:ac+1 >= g
    ·rw [if_pos c4];exact bu ⟨sg,.inr ⟨_,_,_,_,_,rfl,m',by omega,hb,by omega⟩⟩
    ·rw [if_neg c4];exact bu ⟨sg,_,_,_,_,_,rfl,m',by omega,hb,by omega⟩
   | false=>
    rw [if_neg (by decide)];refine ay (aO (by omega) ?_);have m':=t.qb O m (by omega) hb.2 (nY O t.sa t.na hy ha.1 ha.2 e);rw [fL]
    by_cases c3:(nb - 1 == 1)=true
    ·rw [if_pos c3];rw [beq_iff_eq] at c3;exact bu ⟨sg,.inl ⟨_,_,rfl,m'.first t c3 h2 low⟩⟩
    rw [if_neg c3];rw [beq_iff_eq] at c3
    by_cases c4:bc+1 >= g
    ·rw [if_pos c4];exact bu ⟨sg,.inr ⟨_,_,_,_,_,rfl,m',ha,by omega,by omega⟩⟩
    ·rw [if_neg c4];exact bu ⟨sg,_,_,_,_,_,rfl,m',ha,by omega,by omega⟩
  ·rintro ⟨sg,lo,na,nb,ac,bc,rfl,m,ha,hb,pg⟩;exact ⟨sg,.inr ⟨_,_,_,_,_,rfl,m,ha,hb,by omega⟩⟩
  ·obtain ⟨sg,⟨r,d,rfl,mg⟩ | ⟨lo,na,nb,ac,bc,rfl,m,ha,hb,pg⟩⟩:=hq
   ·exact bu ⟨sg,_,_,rfl,mg⟩
   dsimp only;refine ay (fZ ?_);refine ay (kc (gb (fun j c st''=>Ih pr lt la lb st (i+2) c st'') (Q:=Qh pr lt la lb st (i+2)) (fun j c st'' _ hj=>?_) (fun c st'' h=>.inr h) ⟨sg,lo,na,nb,_,ac,bc,rfl,m,ha,hb,pg⟩) fun c st'' hq=>?_)
   ·rintro ⟨sg,lo,na,nb,g,ac,bc,rfl,m,ha,hb,pg⟩;dsimp only
    by_cases cg:g > 1
    ·rw [if_pos cg];exact kc (Bi O t low hk sg m ha hb pg ac bc (g - 1)) fun r _ h=>by cases r <;> exact h
    ·rw [if_neg cg];exact kc (Bi O t low hk sg m ha hb pg ac bc g) fun r _ h=>by cases r <;> exact h
   ·rcases hq with ⟨sg,r,d,rfl,mg⟩ | ⟨sg,lo,na,nb,g,ac,bc,rfl,m,ha,hb,pg⟩
    ·exact bu ⟨sg,_,_,rfl,mg⟩
    ·dsimp only;exact ay (iT (bu ⟨sg,_,_,_,_,rfl,m,ha,hb,by omega⟩))
 ·rintro ⟨sg,lo,na,nb,g,rfl,m,ha,hb,pg⟩;omega
 ·obtain ⟨sg,r,d,rfl,mg⟩:=hq;exact bu (k _ _ sg mg)
end
theorem Bk (i:Nat):mergeAt' i=(do
 let s <- get
 let (some (sa,na,power),some (sb,nb,_)):=((de s)[i]?,(de s)[i+1]?) | unsupported "internal:list.sort.pending"
 set (lj s (((de s).setIfInBounds i (sa,na+nb,power)).eraseIdxIfInBounds (i+1)))
 let some k <- bV false (<- elem' (arrOf s) sb) (arrOf s) sa na 0 | return false
 let (sa,na):=(sa+k,na - k)
 if na == 0 then return true
 let some nb <- bV true (<- elem' (arrOf s) (sa+na - 1)) (arrOf s) sb nb (nb - 1) | return false
 if nb == 0 then return true
 let x:=(arrOf s).extract sa sb
 let y:=(arrOf s).extract sb (sb+nb)
 let merged <- if na<=nb then uA x y else uB x y
 modify fun s=>setArr s (merged.toList.zipIdx.foldl (fun a (p,j)=>a.setIfInBounds (sa+j) p) (arrOf s))
 return (km (<- get)).isNone):=rfl
section
variable {M:Model} {A:Around} {E:Value->Shared->Prop} {s:Shared} {κ:k6} {pr:Nat->Keyed} {n:Nat} {lt:Nat->Nat->Bool}
theorem tG {X S Y:List Nat} {j:Nat} (h:j < S.length):(X++(S++Y)).getD (X.length+j) 0=S.getD j 0:=by
 rw [bg,au (by omega),mw,bj h,bg]
theorem Df (O:Ask M A E s κ pr n lt) {X S Y:List Nat} (sl:S.Pairwise fun i j=>lt j i=false) (nl:∀ x∈S,x < n) {y hint:Nat} (hy:y < n) (hh:hint < S.length) {st:SortSt} (hk:kindOf st=κ) {Q:Option Nat->SortSt->Prop}
  (k:∀ r,r<=S.length->(∀ x∈S.take r,lt y x=false)->(∀ x∈S.drop r,lt y x=true)->Q (some r) st):wpS M A E s (bV false (pr y) (arr pr (X++(S++Y))) X.length S.length hint) Q st:=by
 refine gD (bey:=fun j=>!lt y (S.getD j 0)) (fun j hj Q' hq=>?_) (fun a b h1 h2 h3=>?_) hh (fun r h1 h2 h3=>k r h1 (fun x hx=>?_) (fun x hx=>?_))
 ·unfold dW;refine ay (aO (by rw [bo,bo]; omega) ?_);rw [if_neg (by decide),tG hj];refine ay (O.run st _ _ hk hy (nl _ (aP hj)) _ ?_);exact bu hq
 ·rw [j6] at h3 ⊢
  by_cases e:a=b
  ·subst e; exact h3
  ·have q:=dz.mp sl a b (by omega) (by omega) (by omega);have e1:S.getD a 0=S[a]:=by simp [show a < S.length by omega]
   have e2:S.getD b 0=S[b]:=by simp [show b < S.length by omega]
   rw [e2] at h3;rw [e1];exact O.tr _ _ _ (nl _ (b9 _)) (nl _ (b9 _)) hy q h3
 ·obtain ⟨j,hj,rfl⟩:=e9 hx;rw [bq] at hj;have:=h2 j (by omega);rw [j6] at this;rw [fq];simpa [show j < S.length by omega] using this
 ·obtain ⟨j,hj,rfl⟩:=e9 hx;rw [cx] at hj;have:=h3 (r+j) (by omega) (by omega);rw [Bool.not_eq_false'] at this;rw [ig];simpa [show r+j < S.length by omega] using this
theorem FL (O:Ask M A E s κ pr n lt) {X S Y P:List Nat} {o:Nat} (hP:P=X++(S++Y)) (ho:o=X.length) (sl:S.Pairwise fun i j=>lt j i=false) (nl:∀ x∈S,x < n) {y hint:Nat} (hy:y < n) (hh:hint < S.length) {st:SortSt} (hk:kindOf st=κ) {Q:Option Nat->SortSt->Prop}
  (k:∀ r,r<=S.length->(∀ x∈S.take r,lt x y=true)->(∀ x∈S.drop r,lt x y=false)->Q (some r) st):wpS M A E s (bV true (pr y) (arr pr P) o S.length hint) Q st:=by
 subst hP ho;refine gD (bey:=fun j=>lt (S.getD j 0) y) (fun j hj Q' hq=>?_) (fun a b h1 h2 h3=>?_) hh (fun r h1 h2 h3=>k r h1 (fun x hx=>?_) (fun x hx=>?_))
 ·unfold dW;refine ay (aO (by rw [bo,bo]; omega) ?_);rw [if_pos rfl,tG hj];exact O.run st _ _ hk (nl _ (aP hj)) hy _ hq
 ·by_cases e:a=b
  ·subst e; exact h3
  ·have q:=dz.mp sl a b (by omega) (by omega) (by omega);have e1:S.getD a 0=S[a]:=by simp [show a < S.length by omega]
   have e2:S.getD b 0=S[b]:=by simp [show b < S.length by omega]
   show lt (S.getD a 0) y=true
   have h3:lt (S.getD b 0) y=true:=h3;rw [e2] at h3;rw [e1];cases z:lt S[a] y with
   | true=>rfl
   | false=>
    have:=O.tr y _ _ hy (nl _ (b9 _)) (nl _ (b9 _)) z q;rw [this] at h3;cases h3
 ·obtain ⟨j,hj,rfl⟩:=e9 hx;rw [bq] at hj;have:lt (S.getD j 0) y=true:=h2 j (by omega);rw [fq];simpa [show j < S.length by omega] using this
 ·obtain ⟨j,hj,rfl⟩:=e9 hx;rw [cx] at hj;have:lt (S.getD (r+j) 0) y=false:=h3 (r+j) (by omega) (by omega);rw [ig];simpa [show r+j < S.length by omega] using this
theorem Hz (pr:Nat->Keyed):∀ (W X D Y:List Nat),D.length=W.length->(W.map pr).zipIdx.foldl (fun (a:Array Keyed) (p:Keyed×Nat)=>a.setIfInBounds (X.length+p.2) p.1) (arr pr (X++(D++Y)))=arr pr (X++(W++Y))
 | W,X,D,Y,h=>by
  have gen:∀ (W D:List Nat) (X:List Nat) (c:Nat) (o:Nat),D.length=W.length->X.length=o+c->((W.map pr).zipIdx c).foldl (fun (a:Array Keyed) (p:Keyed×Nat)=>a.setIfInBounds (o+p.2) p.1) (arr pr (X++(D++Y)))=arr pr (X++(W++Y)):=by
   intro W
   induction W with
   | nil=>intro D X c o h1 h2; simp at h1; subst h1; rfl
   | cons w W ih=>
    intro D X c o h1 h2;cases D with
    | nil=>simp at h1
    | cons d D=>
     rw [cy,List.zipIdx_cons,List.foldl_cons];have e:(arr pr (X++(d :: D++Y))).setIfInBounds (o+c) (pr w)=arr pr ((X++[w])++(D++Y)):=by
      unfold arr;rw [List.setIfInBounds_toArray]
      congr 1
      rw [<- h2,jg,List.set_append_right _ _ (by simp)];simp
     have e':(arr pr (X++(d :: D++Y))).setIfInBounds (o+(pr w,c).2) (pr w,c).1=arr pr ((X++[w])++(D++Y)):=e;rw [e',ih D (X++[w]) (c+1) o (by simpa using h1) (by simp; omega)]
     simp
  exact gen W D X 0 X.length h rfl
theorem KY {st st':SortSt} {Q:PUnit->SortSt->Prop} (h:Q ⟨⟩ st'):wpS M A E s (set st':StateT SortSt Sem PUnit) Q st:=by
 unfold wpS;rw [StateT.run_set];exact ab ⟨rfl,h⟩
def Srt (lt:Nat->Nat->Bool) (l:List Nat):Prop:=l.Pairwise fun i j=>lt j i=false
theorem EF {X U Z:List Nat} {r c:Nat} (h:r+c<=U.length):((X++(U++Z)).drop (X.length+r)).take c=(U.drop r).take c:=by
 rw [List.drop_append,m7 (by omega),jh,mw,List.drop_append,List.take_append];have e:c - (U.drop r).length=0:=by rw [cx]; omega
 rw [e,List.take_zero,e7]
theorem Bl (O:Ask M A E s κ pr n lt) {X U V Y:List Nat} (sU:Srt lt U) (sV:Srt lt V) (nU:∀ x∈U,x < n) (nV:∀ x∈V,x < n) (lU:0 < U.length) (lV:0 < V.length) {st:SortSt} (hk:kindOf st=κ) (hf:km st=none) (ha:arrOf st=arr pr (X++(U++(V++Y)))) {i w w':Nat} (p1:(de st)[i]?=some (X.length,U.length,w)) (p2:(de st)[i+1]?=some (X.length+U.length,V.length,w')) {Q:Bool->SortSt->Prop}
  (k:∀ W st',W.Perm (U++V)->Srt lt W->arrOf st'=arr pr (X++(W++Y))->de st'=((de st).setIfInBounds i (X.length,U.length+V.length,w)).eraseIdxIfInBounds (i+1)->kindOf st'=κ->km st'=none->Q true st'):wpS M A E s (mergeAt' i) Q st:=by
 rw [Bk]
 refine ay (wpS_get ?_)
 rw [p1,p2,ha]
 dsimp only
 refine ay (KY ?_)
 have k1:kindOf (lj st (((de st).setIfInBounds i (X.length,U.length+V.length,w)).eraseIdxIfInBounds (i+1)))=κ:=hk
 have f1:km (lj st (((de st).setIfInBounds i (X.length,U.length+V.length,w)).eraseIdxIfInBounds (i+1)))=none:=hf
 have q1:de (lj st (((de st).setIfInBounds i (X.length,U.length+V.length,w)).eraseIdxIfInBounds (i+1)))=((de st).setIfInBounds i (X.length,U.length+V.length,w)).eraseIdxIfInBounds (i+1):=rfl
 have a0:arrOf (lj st (((de st).setIfInBounds i (X.length,U.length+V.length,w)).eraseIdxIfInBounds (i+1)))=arr pr (X++(U++(V++Y))):=ha
 generalize lj st (((de st).setIfInBounds i (X.length,U.length+V.length,w)).eraseIdxIfInBounds (i+1))=st1 at k1 f1 q1 a0
 have v0:V.getD 0 0∈V:=aP lV
 have zU:U.getD (U.length - 1) 0∈U:=aP (by omega)
 have eV:(X++(U++(V++Y))).getD (X.length+U.length) 0=V.getD 0 0:=by
  have:=tG (X:=X++U) (S:=V) (Y:=Y) (j:=0) lV
  rwa [Nat.add_zero,bo,aq] at this
 refine ay (aO (by simp; omega) ?_)
 rw [eV]
 refine ay (Df O (S:=U) sU nU (nV _ v0) lU k1 fun r a1 a2 a3=>?_)
 dsimp only
 have join:∀ x∈U,lt (V.getD 0 0) x=false->∀ y∈V,lt y x=false:=fun x hx h=>by
  have:=nX O sV nV (i:=0) (nU x hx) lV h
  rwa [d3] at this
 by_cases c1:(U.length - r == 0)=true
 ·rw [if_pos c1]
  rw [beq_iff_eq] at c1
  refine bu (k (U++V) st1 (j3 _) ?_ (by rw [a0,aq]) q1 k1 f1)
  unfold Srt
  rw [bf]
  refine ⟨sU,sV,fun x hx=>join x hx (a2 x ?_)⟩
  rw [du (by omega)]
  exact hx
 rw [if_neg c1]
 rw [beq_iff_eq] at c1
 have eZ:(X++(U++(V++Y))).getD (X.length+r+(U.length - r) - 1) 0=U.getD (U.length - 1) 0:=by
  rw [show X.length+r+(U.length - r) - 1=X.length+(U.length - 1) by omega]
  exact tG (by omega)
 refine ay (aO (by simp; omega) ?_)
 rw [eZ]
 refine ay (FL O (X:=X++U) (S:=V) (Y:=Y) (by rw [aq]) (by rw [bo]) sV nV (nU _ zU) (by omega) k1 fun nb b1 b2 b3=>?_)
 dsimp only
 have upz:∀ x∈U,lt (U.getD (U.length - 1) 0) x=false:=fun x hx=>by
  obtain ⟨j,hj,rfl⟩:=e9 hx
  have e:U.getD (U.length - 1) 0=U[U.length - 1]:=by simp [show U.length - 1 < U.length by omega]
  rw [e]
  by_cases z:j=U.length - 1
  ·subst z
   cases q:lt U[U.length - 1] U[U.length - 1] with
   | false=>rfl
   | true=>have:=O.as _ _ (nU _ (b9 _)) (nU _ (b9 _)) q; rw [q] at this; exact this
  ·exact dz.mp sU j (U.length - 1) hj (by omega) (by omega)
 by_cases c2:(nb == 0)=true
 ·rw [if_pos c2]
  rw [beq_iff_eq] at c2
  subst c2
  refine bu (k (U++V) st1 (j3 _) ?_ (by rw [a0,aq]) q1 k1 f1)
  unfold Srt
  rw [bf]
  refine ⟨sU,sV,fun x hx y hy=>?_⟩
  exact O.tr _ _ _ (nU x hx) (nU _ zU) (nV y hy) (upz x hx) (b3 y (by rw [d3]; exact hy))
 rw [if_neg c2]
 rw [beq_iff_eq] at c2
 have ex:(arr pr (X++(U++(V++Y)))).extract (X.length+r) (X.length+U.length)=arr pr (U.drop r):=by
  rw [cP,show X.length+U.length - (X.length+r)=U.length - r by omega,EF (by omega),du (by rw [cx]; omega)]
 have ey:(arr pr (X++(U++(V++Y)))).extract (X.length+U.length) (X.length+U.length+nb)=arr pr (V.take nb):=by
  have:=EF (X:=X++U) (U:=V) (Z:=Y) (r:=0) (c:=nb) (by omega)
  rw [cP,mw]
  rw [aq,bo,Nat.add_zero,d3] at this
  rw [this]
 rw [ex,ey]
 have t:Two lt n (U.drop r) (V.take nb):=⟨dC sU r,dX sV nb,fun x hx=>nU x (dn hx),fun x hx=>nV x (cv hx)⟩
 have l1:0 < (U.drop r).length:=by rw [cx]; omega
 have l2:0 < (V.take nb).length:=by rw [bq]; omega
 have g1:(V.take nb).getD 0 0=V.getD 0 0:=by
  rw [bg,List.getElem?_take,if_pos (by omega),bg]
 have g2:(U.drop r).getD ((U.drop r).length - 1) 0=U.getD (U.length - 1) 0:=by
  rw [bg,List.getElem?_drop,cx,bg]
  congr 2
  omega
 have top:∀ x∈V.take nb,lt ((U.drop r).getD ((U.drop r).length - 1) 0) x=false:=fun x hx=>by
  rw [g2]
  exact O.as _ _ (t.nb x hx) (nU _ zU) (b2 x hx)
 have low:∀ x∈U.drop r,lt x ((V.take nb).getD 0 0)=false:=fun x hx=>by
  rw [g1]
  exact O.as _ _ (nV _ v0) (t.na x hx) (a3 x hx)
 have first:lt ((V.take nb).getD 0 0) ((U.drop r).getD 0 0)=true:=by
  rw [g1]
  exact a3 _ (aP l1)
 have fin:∀ out st2,Sg st1 st2->Mgd pr lt (U.drop r) (V.take nb) out->wpS M A E s (do
   modify fun s=>setArr s (out.toList.zipIdx.foldl (fun a (p,j)=>a.setIfInBounds (X.length+r+j) p) (arrOf s))
   return (km (<- get)).isNone) Q st2:=fun out st2 sg mg=>by
  obtain ⟨W0,rfl,pW,sW⟩:=mg
  refine ay (wpS_modify (ay (wpS_get ?_)))
  have eW:=Hz pr W0 (X++U.take r) (U.drop r++V.take nb) (V.drop nb++Y) pW.length_eq.symm
  have eP:(X++U.take r)++((U.drop r++V.take nb)++(V.drop nb++Y))=X++(U++(V++Y)):=by
   conv=>rhs; rw [<- cm r U,<- cm nb V]
   simp only [aq]
  have eL:(X++U.take r).length=X.length+r:=by rw [bo,bq]; omega
  rw [eP,eL] at eW
  have eA:arrOf st2=arr pr (X++(U++(V++Y))):=sg.2.1.trans a0
  have eT:(arr pr W0).toList=W0.map pr:=by simp [arr]
  have ef:km (setArr st2 ((arr pr W0).toList.zipIdx.foldl (fun a (x:Keyed×Nat)=>a.setIfInBounds (X.length+r+x.2) x.1) (arrOf st2)))=none:=sg.2.2.2.trans f1
  show wpS M A E s (pure (km (setArr st2 ((arr pr W0).toList.zipIdx.foldl (fun a (x:Keyed×Nat)=>a.setIfInBounds (X.length+r+x.2) x.1) (arrOf st2)))).isNone) Q (setArr st2 ((arr pr W0).toList.zipIdx.foldl (fun a (x:Keyed×Nat)=>a.setIfInBounds (X.length+r+x.2) x.1) (arrOf st2)))
  rw [ef]
  have pw:(U.take r++(W0++V.drop nb)).Perm (U++V):=by
   conv=>rhs; rw [<- cm r U,<- cm nb V,aq]
   refine cq _ ?_
   rw [<- aq]
   exact ix _ pW
  have memW:∀ x∈W0,x∈U.drop r\/x∈V.take nb:=fun x hx=>bh.mp (pW.mem_iff.mp hx)
  refine bu (k (U.take r++(W0++V.drop nb)) _ pw ?_ ?_ (sg.2.2.1.trans q1) (sg.1.trans k1) ef)
  ·unfold Srt
   have lowU:∀ x∈U.take r,∀ y∈U.drop r,lt y x=false:=fun x hx y hy=>by
    have:=sU
    unfold Srt at this
    rw [<- cm r U] at this
    exact (bf.mp this).2.2 x hx y hy
   have lowV:∀ x∈V.take nb,∀ y∈V.drop nb,lt y x=false:=fun x hx y hy=>by
    have:=sV
    unfold Srt at this
    rw [<- cm nb V] at this
    exact (bf.mp this).2.2 x hx y hy
   have UV:∀ x∈U.take r,∀ y∈V,lt y x=false:=fun x hx=>join x (cv hx) (a2 x hx)
   rw [bf]
   refine ⟨dX sU r,?_,fun x hx y hy=>?_⟩
   ·rw [bf]
    refine ⟨sW,dC sV nb,fun x hx y hy=>?_⟩
    rcases memW x hx with q | q
    ·have hxU:=dn q
     exact O.tr _ _ _ (nU x hxU) (nU _ zU) (nV y (dn hy)) (upz x hxU) (b3 y hy)
    ·exact lowV x q y hy
   ·rcases bh.mp hy with q | q
    ·rcases memW y q with z | z
     ·exact lowU x hx y z
     ·exact UV x hx y (cv z)
    ·exact UV x hx y (dn q)
  ·show (arr pr W0).toList.zipIdx.foldl (fun a (x:Keyed×Nat)=>a.setIfInBounds (X.length+r+x.2) x.1) (arrOf st2)=_
   rw [eA,eT,eW]
   congr 1
   simp only [aq]
 by_cases c3:U.length - r<=nb
 ·rw [if_pos c3]
  exact ay (Be O t l1 l2 first top k1 fin)
 ·rw [if_neg c3]
  exact ay (Bj O t l1 l2 low top k1 fin)
end
def HA (lo nrem n:Nat):StateT SortSt Sem (Option Nat):=do
 let mut n:=n
 for _ in [n:nrem] do
  let some smaller <- ltAt' (lo+n) (lo+n - 1) | return none
  if smaller then break
  n:=n+1
 return some n
def HB (lo nrem n:Nat):StateT SortSt Sem (Option Nat):=do
 reverseSlice' lo (lo+n)
 HA lo nrem n
def Dg (lo nrem n:Nat):StateT SortSt Sem (Option Nat):=do
 rule "list.sort.descending-run"
 let mut n:=n+1
 let mut neq:=0
 for _ in [n:nrem] do
  let some smaller <- ltAt' (lo+n) (lo+n - 1) | return none
  if smaller then
   if neq > 0 then reverseSlice' (lo+n - (neq+1)) (lo+n)
   neq:=0
  else
   let some larger <- ltAt' (lo+n - 1) (lo+n) | return none
   if larger then break
   neq:=neq+1
  n:=n+1
 if neq > 0 then reverseSlice' (lo+n - (neq+1)) (lo+n)
 HB lo nrem n
theorem zV (lo nrem:Nat):countRun' lo nrem=(do
 let mut n:=1
 for _ in [1:nrem] do
  let some smaller <- ltAt' (lo+n) (lo+n - 1) | return none
  if smaller then break
  n:=n+1
 if n == nrem then return some n
 if n > 1 then
  let some rose <- ltAt' lo (lo+n - 1) | return none
  if rose then return some n
  reverseSlice' lo (lo+n)
 Dg lo nrem n):=rfl
section
variable {M:Model} {A:Around} {E:Value->Shared->Prop} {s:Shared} {κ:k6} {pr:Nat->Keyed} {n:Nat} {lt:Nat->Nat->Bool}
theorem zW {X Z:List Nat} (j:Nat):(X++Z).getD (X.length+j) 0=Z.getD j 0:=by
 rw [bg,au (by omega),mw,bg]
structure Tl (pr:Nat->Keyed) (κ:k6) (X Z:List Nat) (pd:Array (Nat×Nat×Nat)) (st:SortSt):Prop where
 a:arrOf st=arr pr (X++Z)
 k:kindOf st=κ
 p:de st=pd
 f:km st=none
theorem lF (O:Ask M A E s κ pr n lt) {X Z:List Nat} {pd:Array (Nat×Nat×Nat)} {st:SortSt} (T:Tl pr κ X Z pd st) (nZ:∀ x∈Z,x < n) {i j:Nat} (hi:i < Z.length) (hj:j < Z.length) {Q:Option Bool->SortSt->Prop} (h:Q (some (lt (Z.getD i 0) (Z.getD j 0))) st):wpS M A E s (ltAt' (X.length+i) (X.length+j)) Q st:=by
 rw [ltAt'_eq];refine ay (wpS_get ?_);rw [T.a];refine ay (aO (by simp; omega) (ay (aO (by simp; omega) ?_)));rw [zW,zW];exact O.run st _ _ T.k (nZ _ (aP hi)) (nZ _ (aP hj)) _ h
theorem Dh (pr:Nat->Keyed) (X B Y:List Nat):mirror (arr pr (X++(B++Y))) X.length (X.length+B.length) ((X.length+B.length - X.length) / 2)=arr pr (X++(B.reverse++Y)):=by
 apply Array.ext_getElem?;intro k;have g:∀ (l:List Nat) (k:Nat),(arr pr l)[k]?=(l[k]?).map pr:=fun l k=>by simp [arr]
 rw [getElem?_mirror_all (by rw [cS]; simp),g,g,g];split
 ·rename_i h;rw [au (by omega),bj (by omega),au (by omega),bj (by rw [gx]; omega),List.getElem?_reverse (by omega)]
  congr 2
  omega
 ·rename_i h
  by_cases c:k < X.length
  ·rw [bj c,bj c]
  ·rw [au (by omega),au (by omega),au (by omega),au (by rw [gx]; omega),gx]
theorem zX {X Z B Y D:List Nat} {pd:Array (Nat×Nat×Nat)} {st:SortSt} (T:Tl pr κ X Z pd st) (e:Z=D++(B++Y)) {i j:Nat} (hi:i=X.length+D.length) (hj:j=X.length+D.length+B.length) {Q:Unit->SortSt->Prop} (h:∀ st',Tl pr κ X (D++(B.reverse++Y)) pd st'->Q () st'):wpS M A E s (reverseSlice' i j) Q st:=by
 rw [reverseSlice'_eq];refine wpS_modify (h _ ⟨?_,T.k,T.p,T.f⟩)
 show mirror (arrOf st) i j ((j - i) / 2)=_
 have:=Dh pr (X++D) B Y;rw [bo,aq,aq] at this;rw [T.a,e,hi,hj,this]
def Dsc (lt:Nat->Nat->Bool) (l:List Nat):Prop:=l.Pairwise fun i j=>lt i j=false
theorem Dsc.rev {l:List Nat} (h:Dsc lt l):Srt lt l.reverse:=by
 unfold Srt;rw [gh];exact h
theorem Srt.rev {l:List Nat} (h:Srt lt l):Dsc lt l.reverse:=by
 unfold Dsc;rw [gh];exact h
theorem take_one {Z:List Nat} {m:Nat} (h:m < Z.length):Z.take (m+1)=Z.take m++[Z.getD m 0]:=by
 rw [ll,bg,gf h];rfl
theorem yH {Z:List Nat} {m:Nat} (h0:0 < m) (h:m<=Z.length):∃ l,Z.take m=l++[Z.getD (m - 1) 0]:=⟨Z.take (m - 1),by
 have:=take_one (Z:=Z) (m:=m - 1) (by omega)
 rwa [show m - 1+1=m by omega] at this⟩
theorem Srt.more (O:Ask M A E s κ pr n lt) {Z:List Nat} (nZ:∀ x∈Z,x < n) {m:Nat} (h0:0 < m) (hm:m < Z.length) (h:Srt lt (Z.take m)) (e:lt (Z.getD m 0) (Z.getD (m - 1) 0)=false):Srt lt (Z.take (m+1)):=by
 obtain ⟨l,el⟩:=yH (Z:=Z) h0 (by omega);have n1:∀ x∈Z.take m,x < n:=fun x hx=>nZ x (cv hx);have ny:Z.getD m 0 < n:=nZ _ (aP hm);rw [take_one hm];unfold Srt at h ⊢;rw [bf];refine ⟨h,by simp,fun x hx y hy=>?_⟩;simp at hy;have hy:y=Z.getD m 0:=by simpa using hy
 rw [hy];have hx0:=n1 x hx;rw [el] at h hx n1;rcases bh.mp hx with q | q
 ·have:=(bf.mp h).2.2 x q (Z.getD (m - 1) 0) (by simp);exact O.tr _ _ _ hx0 (n1 _ (by simp)) ny this e
 ·have q:x=Z.getD (m - 1) 0:=by simpa using q
  rw [q]; exact e
theorem FM (O:Ask M A E s κ pr n lt) {X Z:List Nat} {pd:Array (Nat×Nat×Nat)} {st:SortSt} (T:Tl pr κ X Z pd st) (nZ:∀ x∈Z,x < n) {m:Nat} (h0:0 < m) (hm:m<=Z.length) (hs:Srt lt (Z.take m)) {Q:Option Nat->SortSt->Prop}
  (k:∀ r,0 < r->r<=Z.length->Srt lt (Z.take r)->Q (some r) st):wpS M A E s (HA X.length Z.length m) Q st:=by
 unfold HA;refine ay (kc (gb (fun i c st'=>st'=st/\c=(none,i)/\Srt lt (Z.take i)) (Q:=fun c st'=>st'=st/\∃ r,c=(none,r)/\0 < r/\r<=Z.length/\Srt lt (Z.take r)) (fun i c st' h1 h2=>?_) (fun c st'=>?_) ⟨rfl,rfl,hs⟩) fun c st' hq=>?_)
 ·rintro ⟨rfl,rfl,hs⟩;dsimp only;rw [show X.length+i - 1=X.length+(i - 1) by omega];refine ay (lF O T nZ h2 (by omega) ?_);dsimp only;cases e:lt (Z.getD i 0) (Z.getD (i - 1) 0) with
  | true=>
   rw [if_pos rfl];exact bu ⟨rfl,i,rfl,by omega,by omega,hs⟩
  | false=>
   rw [if_neg (by decide)];exact bu ⟨rfl,rfl,hs.more O nZ (by omega) h2 e⟩
 ·rintro ⟨rfl,rfl,hs⟩;exact ⟨rfl,_,rfl,by omega,by omega,hs⟩
 ·obtain ⟨rfl,r,rfl,a1,a2,a3⟩:=hq;exact bu (k r a1 a2 a3)
theorem yI (O:Ask M A E s κ pr n lt) {X Z:List Nat} {pd:Array (Nat×Nat×Nat)} {st:SortSt} (T:Tl pr κ X Z pd st) (nZ:∀ x∈Z,x < n) {m:Nat} (h0:0 < m) (hm:m<=Z.length) (hs:Dsc lt (Z.take m)) {Q:Option Nat->SortSt->Prop}
  (k:∀ r Z' st',0 < r->r<=Z'.length->Z'.Perm Z->Srt lt (Z'.take r)->Tl pr κ X Z' pd st'->Q (some r) st'):wpS M A E s (HB X.length Z.length m) Q st:=by
 unfold HB;have lm:(Z.take m).length=m:=by rw [bq]; omega
 refine ay (zX T (D:=[]) (B:=Z.take m) (Y:=Z.drop m) (by rw [jh,cm]) (by simp) (by simp [lm]) fun st' T'=>?_);rw [jh] at T';have pz:((Z.take m).reverse++Z.drop m).Perm Z:=by
  have:=ix (Z.drop m) (gq (Z.take m))
  rwa [cm] at this
 have lz:=pz.length_eq;have et:((Z.take m).reverse++Z.drop m).take m=(Z.take m).reverse:=by
  rw [List.take_append,du (by rw [gx]; omega),gx,lm,Nat.sub_self,List.take_zero,e7]
 rw [<- lz];refine FM O T' (fun x hx=>nZ x (pz.mem_iff.mp hx)) h0 (by omega) (by rw [et]; exact hs.rev) fun r a1 a2 a3=>k r _ st' a1 a2 pz a3 T'
theorem Ask.irr (O:Ask M A E s κ pr n lt) {x:Nat} (h:x < n):lt x x=false:=by
 cases e:lt x x with
 | false=>rfl
 | true=>have:=O.as x x h h e; rw [e] at this; exact this
theorem Dsc.last (O:Ask M A E s κ pr n lt) {Z:List Nat} (nZ:∀ x∈Z,x < n) {m:Nat} (h0:0 < m) (hm:m<=Z.length) (h:Dsc lt (Z.take m)):∀ x∈Z.take m,lt x (Z.getD (m - 1) 0)=false:=fun x hx=>by
 obtain ⟨l,el⟩:=yH (Z:=Z) h0 hm;unfold Dsc at h;rw [el] at h hx;rcases bh.mp hx with q | q
 ·exact (bf.mp h).2.2 x q _ (by simp)
 ·have q:x=Z.getD (m - 1) 0:=by simpa using q
  rw [q];exact O.irr (nZ _ (aP (by omega)))
theorem Dsc.more (O:Ask M A E s κ pr n lt) {Z:List Nat} (nZ:∀ x∈Z,x < n) {m:Nat} (hm:m < Z.length) (h:Dsc lt (Z.take m)) (e:∀ x∈Z.take m,lt x (Z.getD m 0)=false):Dsc lt (Z.take (m+1)):=by
 rw [take_one hm];unfold Dsc at h ⊢;rw [bf];refine ⟨h,by simp,fun x hx y hy=>?_⟩;have hy:y=Z.getD m 0:=by simpa using hy
 rw [hy];exact e x hx
def ER (lt:Nat->Nat->Bool) (Z:List Nat) (m q:Nat):Prop:=∀ x∈(Z.take m).drop (m - (q+1)),∀ y∈(Z.take m).drop (m - (q+1)),lt x y=false
theorem Bm (O:Ask M A E s κ pr n lt) {X Z:List Nat} {pd:Array (Nat×Nat×Nat)} {st:SortSt} (T:Tl pr κ X Z pd st) {m q:Nat} (hq:q < m) (hm:m<=Z.length) (hd:Dsc lt (Z.take m)) (er:ER lt Z m q) {Q:Unit->SortSt->Prop}
  (k:∀ Z' st',Z'.Perm Z->Dsc lt (Z'.take m)->(∀ x,x∈Z'.take m ↔ x∈Z.take m)->(∀ j,m<=j->Z'.getD j 0=Z.getD j 0)->Tl pr κ X Z' pd st'->Q () st'):wpS M A E s (reverseSlice' (X.length+m - (q+1)) (X.length+m)) Q st:=by
 have lm:(Z.take m).length=m:=by rw [bq]; omega
 obtain ⟨D,eD⟩:∃ D,D=Z.take (m - (q+1)):=⟨_,rfl⟩;obtain ⟨B,eB⟩:∃ B,B=(Z.take m).drop (m - (q+1)):=⟨_,rfl⟩;have e1:Z.take m=D++B:=by rw [eD,eB]; exact dM (by omega)
 have lD:D.length=m - (q+1):=by rw [eD,bq]; omega
 have lB:B.length=q+1:=by rw [eB,cx,lm]; omega
 have e2:Z=D++(B++Z.drop m):=by rw [<- aq,<- e1,cm]
 unfold ER at er;rw [<- eB] at er;refine zX T (D:=D) (B:=B) (Y:=Z.drop m) e2 (by omega) (by omega) fun st' T'=>?_;have et:(D++(B.reverse++Z.drop m)).take m=D++B.reverse:=by
  rw [<- aq,List.take_append,du (by simp; omega)];simp;omega
 refine k _ st' ?_ ?_ (fun x=>?_) (fun j hj=>?_) T'
 ·conv=>rhs; rw [e2]
  exact cq _ (ix _ (gq _))
 ·rw [et];rw [e1] at hd;unfold Dsc at hd ⊢;obtain ⟨a1,a2,a3⟩:=bf.mp hd;rw [bf];refine ⟨a1,?_,fun x hx y hy=>a3 x hx y (gm.mp hy)⟩;exact dz.mpr fun i j hi hj _=>er _ (gm.mp (b9 hi)) _ (gm.mp (b9 hj))
 ·rw [et,e1,bh,bh,gm]
 ·rw [bg,bg]
  congr 1
  conv=>rhs; rw [e2]
  rw [<- aq,<- aq,au (by simp; omega),au (by simp; omega)];simp
theorem uC (O:Ask M A E s κ pr n lt) {X Z:List Nat} {pd:Array (Nat×Nat×Nat)} {st:SortSt} (T:Tl pr κ X Z pd st) (nZ:∀ x∈Z,x < n) {m:Nat} (hm:m < Z.length) (hs:Dsc lt (Z.take (m+1))) {Q:Option Nat->SortSt->Prop}
  (k:∀ r Z' st',0 < r->r<=Z'.length->Z'.Perm Z->Srt lt (Z'.take r)->Tl pr κ X Z' pd st'->Q (some r) st'):wpS M A E s (Dg X.length Z.length m) Q st:=by
 unfold Dg;have er0:∀ (Z':List Nat) (i:Nat),(∀ x∈Z',x < n)->0 < i->i<=Z'.length->ER lt Z' i 0:=fun Z' i nz h0 hi=>by
  unfold ER;rw [iD h0 hi];intro x hx y hy;have hx:x=Z'.getD (i - 1) 0:=by simpa using hx
  have hy:y=Z'.getD (i - 1) 0:=by simpa using hy
  rw [hx,hy];exact O.irr (nz _ (aP (by omega)))
 refine ay (fZ ?_);refine ay (kc (gb (fun i c st'=>∃ Z' q,c=(none,i,q)/\Z'.Perm Z/\Tl pr κ X Z' pd st'/\Dsc lt (Z'.take i)/\q < i/\ER lt Z' i q) (Q:=fun c st'=>∃ Z' i q,c=(none,i,q)/\i<=Z.length/\Z'.Perm Z/\Tl pr κ X Z' pd st'/\Dsc lt (Z'.take i)/\q < i/\ER lt Z' i q) (fun i c st' h1 h2=>?_) (fun c st'=>?_) ⟨Z,0,rfl,j3 _,T,hs,by omega,er0 Z _ nZ (by omega) (by omega)⟩) fun c st' hq=>?_)
 ·rintro ⟨Z',q,rfl,pz,T',ds,hq,er⟩;have lz:=pz.length_eq;have nz:∀ x∈Z',x < n:=fun x hx=>nZ x (pz.mem_iff.mp hx);have low:=ds.last O nz (by omega) (by omega);have ny:Z'.getD i 0 < n:=nz _ (aP (by omega));have nv:Z'.getD (i - 1) 0 < n:=nz _ (aP (by omega));dsimp only;rw [show X.length+i - 1=X.length+(i - 1) by omega];refine ay (lF O T' nz (by omega) (by omega) ?_);dsimp only;cases e:lt (Z'.getD i 0) (Z'.getD (i - 1) 0) with
  | true=>
   rw [if_pos rfl];have lows:∀ x∈Z'.take i,lt x (Z'.getD i 0)=false:=fun x hx=>O.tr _ _ _ ny nv (nz x (cv hx)) (O.as _ _ ny nv e) (low x hx)
   by_cases c:q > 0
   ·rw [if_pos c];refine ay (Bm O T' hq (by omega) ds er fun Z2 st2 p2 d2 m2 g2 T2=>?_);have l2:=p2.length_eq;have nz2:∀ x∈Z2,x < n:=fun x hx=>nz x (p2.mem_iff.mp hx);refine bu ⟨Z2,0,rfl,p2.trans pz,T2,d2.more O nz2 (by omega) (fun x hx=>by rw [g2 i (az _)]; exact lows x ((m2 x).mp hx)),by omega,er0 Z2 _ nz2 (by omega) (by omega)⟩
   ·rw [if_neg c];exact bu ⟨Z',0,rfl,pz,T',ds.more O nz (by omega) lows,by omega,er0 Z' _ nz (by omega) (by omega)⟩
  | false=>
   rw [if_neg (by decide)];refine ay (lF O T' nz (by omega) (by omega) ?_);dsimp only;cases e2:lt (Z'.getD (i - 1) 0) (Z'.getD i 0) with
   | true=>
    rw [if_pos rfl];exact bu ⟨Z',i,q,rfl,by omega,pz,T',ds,hq,er⟩
   | false=>
    rw [if_neg (by decide)];have lows:∀ x∈Z'.take i,lt x (Z'.getD i 0)=false:=fun x hx=>O.tr _ _ _ ny nv (nz x (cv hx)) e2 (low x hx);refine bu ⟨Z',q+1,rfl,pz,T',ds.more O nz (by omega) lows,by omega,?_⟩;have lt':(Z'.take i).length=i:=by rw [bq]; omega
    have ed:(Z'.take (i+1)).drop (i+1 - (q+1+1))=(Z'.take i).drop (i - (q+1))++[Z'.getD i 0]:=by
     rw [take_one (by omega),show i+1 - (q+1+1)=i - (q+1) by omega,List.drop_append_of_le_length (by omega)]
    have vin:Z'.getD (i - 1) 0∈(Z'.take i).drop (i - (q+1)):=by
     have e3:(Z'.take i).drop (i - 1)=[Z'.getD (i - 1) 0]:=iD (by omega) (by omega);have:Z'.getD (i - 1) 0∈(Z'.take i).drop (i - 1):=by rw [e3]; simp
     rw [show i - 1=(i - (q+1))+q by omega,<- List.drop_drop] at this;rw [show (i - (q+1))+q=i - 1 by omega] at this;exact dn this
    have sub:∀ x∈(Z'.take i).drop (i - (q+1)),x∈Z'.take i:=fun x hx=>dn hx;intro x hx y hy;rw [ed] at hx hy;rcases bh.mp hx with a | a
    ·rcases bh.mp hy with b | b
     ·exact er x a y b
     ·have b:y=Z'.getD i 0:=by simpa using b
      rw [b]; exact lows x (sub x a)
    ·have a:x=Z'.getD i 0:=by simpa using a
     rw [a];rcases bh.mp hy with b | b
     ·exact O.tr _ _ _ (nz y (cv (sub y b))) nv ny (er _ vin y b) e
     ·have b:y=Z'.getD i 0:=by simpa using b
      rw [b]; exact O.irr ny
 ·rintro ⟨Z',q,rfl,pz,T',ds,hq,er⟩;exact ⟨Z',_,q,rfl,by omega,pz,T',ds,hq,er⟩
 ·obtain ⟨Z',i,q,rfl,hi,pz,T',ds,hq,er⟩:=hq;have lz:=pz.length_eq;have nz:∀ x∈Z',x < n:=fun x hx=>nZ x (pz.mem_iff.mp hx);dsimp only
  by_cases c:q > 0
  ·rw [if_pos c];refine ay (Bm O T' hq (by omega) ds er fun Z2 st2 p2 d2 m2 g2 T2=>?_);have l2:=p2.length_eq;rw [<- lz,<- l2];exact yI O T2 (fun x hx=>nz x (p2.mem_iff.mp hx)) (by omega) (by omega) d2 fun r Z3 st3 b1 b2 b3 b4 b5=>k r Z3 st3 b1 b2 (b3.trans (p2.trans pz)) b4 b5
  ·rw [if_neg c];rw [<- lz];exact yI O T' nz (by omega) (by omega) ds fun r Z3 st3 b1 b2 b3 b4 b5=>k r Z3 st3 b1 b2 (b3.trans pz) b4 b5
theorem wZ (O:Ask M A E s κ pr n lt) {X Z:List Nat} {pd:Array (Nat×Nat×Nat)} {st:SortSt} (T:Tl pr κ X Z pd st) (nZ:∀ x∈Z,x < n) (h0:0 < Z.length) {Q:Option Nat->SortSt->Prop}
  (k:∀ r Z' st',0 < r->r<=Z'.length->Z'.Perm Z->Srt lt (Z'.take r)->Tl pr κ X Z' pd st'->Q (some r) st'):wpS M A E s (countRun' X.length Z.length) Q st:=by
 rw [zV];have s1:Srt lt (Z.take 1):=by
  have:=cK (l:=Z) (i:=0) h0;rw [d3] at this;rw [this];exact jy _ _
 refine ay (kc (gb (fun i c st'=>st'=st/\c=(none,i)/\Srt lt (Z.take i)) (Q:=fun c st'=>st'=st/\∃ r,c=(none,r)/\0 < r/\r<=Z.length/\Srt lt (Z.take r)/\(r < Z.length->lt (Z.getD r 0) (Z.getD (r - 1) 0)=true)) (fun i c st' h1 h2=>?_) (fun c st'=>?_) ⟨rfl,rfl,s1⟩) fun c st' hq=>?_)
 ·rintro ⟨rfl,rfl,hs⟩;dsimp only;rw [show X.length+i - 1=X.length+(i - 1) by omega];refine ay (lF O T nZ h2 (by omega) ?_);dsimp only;cases e:lt (Z.getD i 0) (Z.getD (i - 1) 0) with
  | true=>
   rw [if_pos rfl];exact bu ⟨rfl,i,rfl,by omega,by omega,hs,fun _=>e⟩
  | false=>
   rw [if_neg (by decide)];exact bu ⟨rfl,rfl,hs.more O nZ (by omega) h2 e⟩
 ·rintro ⟨rfl,rfl,hs⟩;exact ⟨rfl,_,rfl,by omega,by omega,hs,fun q=>by omega⟩
 ·obtain ⟨rfl,r,rfl,a1,a2,a3,a4⟩:=hq;dsimp only
  by_cases c1:(r == Z.length)=true
  ·rw [if_pos c1];exact bu (k r Z st' a1 a2 (j3 _) a3 T)
  rw [if_neg c1];rw [beq_iff_eq] at c1;have e:=a4 (by omega);have ny:Z.getD r 0 < n:=nZ _ (aP (by omega));have nv:Z.getD (r - 1) 0 < n:=nZ _ (aP (by omega));have n0:Z.getD 0 0 < n:=nZ _ (aP h0)
  by_cases c2:r > 1
  ·rw [if_pos c2];rw [show X.length+r - 1=X.length+(r - 1) by omega];have w:=lF (M:=M) (A:=A) (E:=E) (s:=s) O T nZ (i:=0) (j:=r - 1) h0 (by omega) (Q:=fun b st2=>b=some (lt (Z.getD 0 0) (Z.getD (r - 1) 0))/\st2=st') ⟨rfl,rfl⟩;rw [Nat.add_zero] at w;refine ay (kc w fun b st2 hb=>?_);obtain ⟨rfl,rfl⟩:=hb;dsimp only;cases e2:lt (Z.getD 0 0) (Z.getD (r - 1) 0) with
   | true=>
    rw [if_pos rfl];exact bu (k r Z st2 a1 a2 (j3 _) a3 T)
   | false=>
    rw [if_neg (by decide)];have lm:(Z.take r).length=r:=by rw [bq]; omega
    refine ay (zX T (D:=[]) (B:=Z.take r) (Y:=Z.drop r) (by rw [jh,cm]) (by simp) (by simp [lm]) fun st3 T3=>?_);rw [jh] at T3;have pz:((Z.take r).reverse++Z.drop r).Perm Z:=by
     have:=ix (Z.drop r) (gq (Z.take r))
     rwa [cm] at this
    have lz:=pz.length_eq;have nz:∀ x∈(Z.take r).reverse++Z.drop r,x < n:=fun x hx=>nZ x (pz.mem_iff.mp hx);have et:((Z.take r).reverse++Z.drop r).take r=(Z.take r).reverse:=by
     rw [List.take_append,du (by rw [gx]; omega),gx,lm,Nat.sub_self,List.take_zero,e7]
    have eg:((Z.take r).reverse++Z.drop r).getD r 0=Z.getD r 0:=by
     have:=zW (X:=(Z.take r).reverse) (Z:=Z.drop r) 0;rw [gx,lm,Nat.add_zero] at this;rw [this,bg,List.getElem?_drop,bg,Nat.add_zero]
    have d1:Dsc lt (((Z.take r).reverse++Z.drop r).take (r+1)):=by
     refine Dsc.more O nz (by omega) (by rw [et]; exact a3.rev) fun x hx=>?_;rw [et] at hx;rw [eg];have hx:=gm.mp hx;have nx:=nZ x (cv hx);have g0:lt x (Z.getD 0 0)=false:=by
      have s0:=a3;unfold Srt at s0;have hc:=di (l:=Z.take r) (i:=0) (by omega);have e0:(Z.take r)[0]'(by omega)=Z.getD 0 0:=by rw [fq]; simp [h0]
      rw [d3,e0] at hc;rw [hc] at s0 hx;rcases bw.mp hx with q | q
      ·rw [q]; exact O.irr n0
      ·exact (jm.mp s0).1 x q
     exact O.tr _ _ _ ny nv nx (O.as _ _ ny nv e) (O.tr _ _ _ nv n0 nx e2 g0)
    rw [<- lz];exact uC O T3 nz (by omega) d1 fun q Z3 st3 b1 b2 b3 b4 b5=>k q Z3 st3 b1 b2 (b3.trans pz) b4 b5
  ·rw [if_neg c2];obtain rfl:r=1:=by omega
   have d1:Dsc lt (Z.take (1+1)):=by
    refine Dsc.more O nZ (by omega) (by rw [show Z.take 1=[Z.getD 0 0] by have:=cK (l:=Z) (i:=0) h0; rwa [d3] at this]; exact jy _ _) fun x hx=>?_;rw [show Z.take 1=[Z.getD 0 0] by have:=cK (l:=Z) (i:=0) h0; rwa [d3] at this] at hx;have hx:x=Z.getD 0 0:=by simpa using hx
    rw [hx];exact O.as _ _ ny n0 e
   exact uC O T nZ (by omega) d1 k
end
section
variable {M:Model} {A:Around} {E:Value->Shared->Prop} {s:Shared} {κ:k6} {pr:Nat->Keyed} {n:Nat} {lt:Nat->Nat->Bool}
theorem Di (P B Y:List Nat) (y:Nat):bubble (arr pr (P++(B++y :: Y))) (P.length+B.length) B.length=arr pr (P++(y :: (B++Y))):=by
 apply Array.ext_getElem?;intro i;rw [getElem?_bubble (by rw [cS]; simp) _ (by omega)];have g:∀ (l:List Nat) (i:Nat),(arr pr l)[i]?=(l[i]?).map pr:=fun l i=>by simp [arr]
 simp only [g,Nat.add_sub_cancel]
 by_cases h1:i=P.length
 ·rw [if_pos h1,h1]
  congr 1
  rw [au (by omega),au (by omega),au (by omega)];simp
 rw [if_neg h1]
 by_cases h2:P.length < i/\i<=P.length+B.length
 ·rw [if_pos h2]
  congr 1
  rw [au (by omega),bj (by omega),au (by omega),show i - P.length=(i - 1 - P.length)+1 by omega,d7,bj (by omega)]
 rw [if_neg h2]
 congr 1
 by_cases h3:i < P.length
 ·rw [bj h3,bj h3]
 ·rw [au (by omega),au (by omega),au (by omega),show i - P.length=(i - P.length - 1)+1 by omega,d7,au (by omega),show i - P.length - 1+1 - B.length=(i - P.length - 1 - B.length)+1 by omega,d7]
theorem EG {Z:List Nat} {l k x:Nat} (hk:k<=Z.length) (h:x∈(Z.take k).drop l):∃ i,l<=i/\i < k/\x=Z.getD i 0:=by
 obtain ⟨i,hi,rfl⟩:=List.mem_iff_getElem.mp h;rw [cx,bq] at hi;refine ⟨l+i,by omega,by omega,?_⟩;rw [ig,fq,bg,gf (by omega)];rfl
theorem Srt.at (O:Ask M A E s κ pr n lt) {Z:List Nat} (nZ:∀ x∈Z,x < n) {k:Nat} (hk:k<=Z.length) (h:Srt lt (Z.take k)) {i j:Nat} (hij:i<=j) (hj:j < k):lt (Z.getD j 0) (Z.getD i 0)=false:=by
 by_cases c:i=j
 ·rw [c]; exact O.irr (nZ _ (aP (by omega)))
 ·have lm:(Z.take k).length=k:=by rw [bq]; omega
  have:=dz.mp h i j (by omega) (by omega) (by omega);rw [fq,fq] at this;have ei:Z.getD i 0=Z[i]'(by omega):=by simp [show i < Z.length by omega]
  have ej:Z.getD j 0=Z[j]'(by omega):=by simp [show j < Z.length by omega]
  rw [ei,ej];exact this
theorem sP (O:Ask M A E s κ pr n lt) {X Z:List Nat} {pd:Array (Nat×Nat×Nat)} {st:SortSt} (T:Tl pr κ X Z pd st) (nZ:∀ x∈Z,x < n) {m ok:Nat} (hm:m<=Z.length) (hok:ok<=m) (hs:Srt lt (Z.take ok)) {Q:Bool->SortSt->Prop}
  (k:∀ Z' st',Z'.Perm Z->Srt lt (Z'.take m)->Tl pr κ X Z' pd st'->Q true st'):wpS M A E s (binarySort' X.length m ok) Q st:=by
 rw [binarySort'_eq]
 refine ay (kc (gb (I:=fun k c st'=>c=(none,())/\∃ Z',Z'.Perm Z/\Tl pr κ X Z' pd st'/\Srt lt (Z'.take (min k m)))
  (Q:=fun c st'=>c=(none,())/\∃ Z',Z'.Perm Z/\Tl pr κ X Z' pd st'/\Srt lt (Z'.take m)) ?step ?fin ?init) ?post)
 case post=>
  rintro c st' ⟨rfl,Z',p,T',h⟩
  exact bu (k Z' st' p h T')
 case init=>
  refine ⟨rfl,Z,j3 _,T,?_⟩
  by_cases h1:ok=0
  ·by_cases h2:m=0
   ·rw [h2,Nat.min_zero,List.take_zero]; exact j5
   ·rw [show min (max ok 1) m=1 by omega]
    have:=cK (l:=Z) (i:=0) (by omega)
    rw [d3] at this
    rw [this]
    exact jy _ _
  ·rwa [show min (max ok 1) m=ok by omega]
 case fin=>
  rintro c st' ⟨hc,Z',p,T',h⟩
  refine ⟨hc,Z',p,T',?_⟩
  rwa [show min (max (max ok 1) m) m=m by omega] at h
 case step=>
  rintro k c st' hak hkn ⟨rfl,Z',p,T',hs'⟩
  rw [show min k m=k by omega] at hs'
  have lz:=p.length_eq
  have nz:∀ x∈Z',x < n:=fun x hx=>nZ x (p.mem_iff.mp hx)
  have gn:∀ i,i < Z'.length->Z'.getD i 0 < n:=fun i hi=>nz _ (aP hi)
  refine ay (kc (gb (I:=fun x c st''=>st''=st'/\∃ l r,c=(none,l,r)/\l<=r/\r<=k/\r - l<=k - x/\
    (∀ i,i < l->lt (Z'.getD k 0) (Z'.getD i 0)=false)/\(∀ i,r<=i->i < k->lt (Z'.getD k 0) (Z'.getD i 0)=true))
   (Q:=fun c st''=>st''=st'/\∃ l r,c=(none,l,r)/\l<=k/\
    (∀ i,i < l->lt (Z'.getD k 0) (Z'.getD i 0)=false)/\(∀ i,l<=i->i < k->lt (Z'.getD k 0) (Z'.getD i 0)=true)) ?istep ?ifin ?iinit) ?ipost)
  case iinit=>exact ⟨rfl,0,k,rfl,by omega,by omega,by omega,fun i hi=>by omega,fun i h1 h2=>by omega⟩
  case ifin=>
   rintro c st'' ⟨rfl,l,r,rfl,hlr,hrk,hm,hlo,hhi⟩
   have:l=r:=by omega
   subst this
   exact ⟨rfl,l,l,rfl,hrk,hlo,hhi⟩
  case istep=>
   rintro x c st'' _ hxk ⟨rfl,l,r,rfl,hlr,hrk,hm,hlo,hhi⟩
   dsimp only
   by_cases hge:l >= r
   ·rw [if_pos hge]
    have:l=r:=by omega
    subst this
    exact bu ⟨rfl,l,l,rfl,hrk,hlo,hhi⟩
   ·rw [if_neg hge]
    refine ay (lF O T' nz (by omega) (by omega) ?_)
    dsimp only
    cases e:lt (Z'.getD k 0) (Z'.getD ((l+r) / 2) 0) with
    | true=>
     rw [if_pos rfl]
     refine bu ⟨rfl,l,(l+r) / 2,rfl,by omega,by omega,by omega,hlo,fun i h1 h2=>?_⟩
     cases e2:lt (Z'.getD k 0) (Z'.getD i 0) with
     | true=>rfl
     | false=>
      have:=O.tr _ _ _ (gn ((l+r) / 2) (by omega)) (gn i (by omega)) (gn k (by omega)) (hs'.at O nz (by omega) h1 h2) e2
      rw [e] at this; exact absurd this (by decide)
    | false=>
     rw [if_neg (by decide)]
     refine bu ⟨rfl,(l+r) / 2+1,r,rfl,by omega,by omega,by omega,fun i h1=>?_,hhi⟩
     exact O.tr _ _ _ (gn i (by omega)) (gn ((l+r) / 2) (by omega)) (gn k (by omega)) (hs'.at O nz (by omega) (by omega) (by omega)) e
  case ipost=>
   rintro c st'' ⟨rfl,l,r,rfl,hlk,hlo,hhi⟩
   show wpS _ _ _ _ (do moveDown' (X.length+k) (X.length+l); pure (pf (none,()))) _ _
   rw [moveDown'_eq]
   obtain ⟨D,eD⟩:∃ D,D=Z'.take l:=⟨_,rfl⟩
   obtain ⟨B,eB⟩:∃ B,B=(Z'.take k).drop l:=⟨_,rfl⟩
   have lD:D.length=l:=by rw [eD,bq]; omega
   have lB:B.length=k - l:=by rw [eB,cx,bq]; omega
   have et:Z'.take k=D++B:=by rw [eD,eB]; exact dM hlk
   have ez:Z'=D++(B++(Z'.getD k 0 :: Z'.drop (k+1))):=by
    conv=>lhs; rw [<- cm k Z',et,aq]
    rw [di (by omega)]
    simp [show k < Z'.length by omega]
   have eb:bubble (arr pr (X++Z')) (X.length+k) (X.length+k - (X.length+l))=arr pr (X++(D++(Z'.getD k 0 :: (B++Z'.drop (k+1))))):=by
    have:=Di (pr:=pr) (X++D) B (Z'.drop (k+1)) (Z'.getD k 0)
    rw [bo,lD,lB,aq,aq,<- ez,show X.length+l+(k - l)=X.length+k by omega] at this
    rw [show X.length+k - (X.length+l)=k - l by omega]
    exact this
   refine ay (wpS_modify (bu ⟨rfl,D++(Z'.getD k 0 :: (B++Z'.drop (k+1))),?_,⟨?_,T'.k,T'.p,T'.f⟩,?_⟩))
   ·refine je ?_ p
    conv=>rhs; rw [ez]
    exact cq _ (List.perm_middle.symm)
   ·rw [<- eb,<- T'.a]
   ·rw [show min (k+1) m=k+1 by omega]
    have et2:(D++(Z'.getD k 0 :: (B++Z'.drop (k+1)))).take (k+1)=D++(Z'.getD k 0 :: B):=by
     rw [show D++(Z'.getD k 0 :: (B++Z'.drop (k+1)))=(D++(Z'.getD k 0 :: B))++Z'.drop (k+1) by simp]
     rw [List.take_append_of_le_length (by simp; omega),du (by simp; omega)]
    rw [et2]
    rw [et] at hs'
    unfold Srt at hs' ⊢
    obtain ⟨a1,a2,a3⟩:=bf.mp hs'
    refine bf.mpr ⟨a1,jm.mpr ⟨fun x hx=>?_,a2⟩,fun x hx y hy=>?_⟩
    ·rw [eB] at hx
     obtain ⟨i,i1,i2,rfl⟩:=EG (by omega) hx
     exact O.as _ _ (gn k (by omega)) (gn i (by omega)) (hhi i i1 i2)
    ·rcases bw.mp hy with rfl | hy
     ·rw [eD] at hx
      obtain ⟨i,i1,i2,rfl⟩:=EG (l:=0) (Z:=Z') (k:=l) (x:=x) (by omega) (by rwa [d3])
      exact hlo i i2
     ·exact a3 x hx y hy
end
def eN:Nat->List (List Nat×Nat)->List (Nat×Nat×Nat)
 | _,[]=>[]
 | b,(u,w) :: r=>(b,u.length,w) :: eN (b+u.length) r
def aL (g:List (List Nat×Nat)):List Nat:=(g.map il).flatten
theorem qE (g h:List (List Nat×Nat)):aL (g++h)=aL g++aL h:=by simp [aL]
theorem gE (u:List Nat×Nat) (h:List (List Nat×Nat)):aL (u :: h)=u.1++aL h:=by simp [aL]
theorem qF:aL []=[]:=rfl
theorem gA:∀ (b:Nat) (g:List (List Nat×Nat)),(eN b g).length=g.length
 | _,[]=>rfl
 | b,(u,w) :: r=>by show (eN _ r).length+1=_; rw [gA]; rfl
theorem dO:∀ (b:Nat) (g h:List (List Nat×Nat)),eN b (g++h)=eN b g++eN (b+(aL g).length) h
 | b,[],h=>rfl
 | b,(u,w) :: r,h=>by
  show (b,u.length,w) :: eN (b+u.length) (r++h)=_
  rw [dO,gE,bo,<- Nat.add_assoc];rfl
theorem KZ {α:Type} (l r:List α) (a b:α):(l++a :: r).set l.length b=l++b :: r:=by simp
theorem FN {α:Type} (l r:List α) (a b:α):(l++a :: b :: r).eraseIdx (l.length+1)=l++a :: r:=by
 rw [List.eraseIdx_append_of_length_le (by omega)];simp
theorem Bn {α:Type} (l:List α) (a:α) (f:α->α):(l++[a]).modify l.length f=l++[f a]:=by
 apply i5;intro i;rw [List.getElem?_modify]
 by_cases h:l.length=i
 ·subst h; simp
 ·simp only [if_neg h]
  by_cases h2:i < l.length
  ·rw [bj h2,bj h2]; simp
  ·rw [ji (by simp; omega),ji (by simp; omega)]; rfl
structure Rn (pr:Nat->Keyed) (κ:k6) (lt:Nat->Nat->Bool) (n:Nat) (g:List (List Nat×Nat)) (R:List Nat) (st:SortSt):Prop where
 a:arrOf st=arr pr (aL g++R)
 k:kindOf st=κ
 f:km st=none
 p:(de st).toList=eN 0 g
 s:∀ u∈g,Srt lt u.1/\0 < u.1.length
 q:(aL g++R).Perm (d0 n)
section
variable {M:Model} {A:Around} {E:Value->Shared->Prop} {s:Shared} {κ:k6} {pr:Nat->Keyed} {n:Nat} {lt:Nat->Nat->Bool}
theorem Rn.sz {g:List (List Nat×Nat)} {R:List Nat} {st:SortSt} (h:Rn pr κ lt n g R st):(de st).size=g.length:=by
 rw [<- mf,h.p,gA]
theorem Rn.lo {g:List (List Nat×Nat)} {R:List Nat} {st:SortSt} (h:Rn pr κ lt n g R st):∀ x∈aL g++R,x < n:=fun x hx=>by
 have:=h.q.mem_iff.mp hx;simpa using this
theorem Rn.len {g:List (List Nat×Nat)} {R:List Nat} {st:SortSt} (h:Rn pr κ lt n g R st):(aL g).length+R.length=n:=by
 have:=h.q.length_eq;simpa using this
theorem Rn.at {S S':List (List Nat×Nat)} {u:List Nat×Nat} {R:List Nat} {st:SortSt} (h:Rn pr κ lt n (S++u :: S') R st):(de st)[S.length]?=some ((aL S).length,u.1.length,u.2):=by
 rw [<- Array.getElem?_toList,h.p,dO,l9,au (by rw [gA]; omega),gA,Nat.sub_self];rfl
theorem oA (O:Ask M A E s κ pr n lt) {S S':List (List Nat×Nat)} {u v:List Nat×Nat} {R:List Nat} {st:SortSt} (h:Rn pr κ lt n (S++u :: v :: S') R st) {Q:Bool->SortSt->Prop}
  (k:∀ W st',W.length=u.1.length+v.1.length->Rn pr κ lt n (S++(W,u.2) :: S') R st'->Q true st'):wpS M A E s (mergeAt' S.length) Q st:=by
 have su:=h.s u (by simp);have sv:=h.s v (by simp);have ef:aL (S++u :: v :: S')++R=aL S++(u.1++(v.1++(aL S'++R))):=by simp [aL]
 have hl:=h.lo;rw [ef] at hl;have p2:(de st)[S.length+1]?=some ((aL S).length+u.1.length,v.1.length,v.2):=by
  have h':Rn pr κ lt n ((S++[u])++v :: S') R st:=by rw [aq]; exact h
  have:=h'.at
  rw [bo,qE,bo] at this;simpa [aL] using this
 refine Bl O su.1 sv.1 (fun x hx=>hl x (by simp [hx])) (fun x hx=>hl x (by simp [hx])) su.2 sv.2 h.k h.f (X:=aL S) (Y:=aL S'++R) (by rw [h.a,ef]) h.at p2 fun W st' w1 w2 w3 w4 w5 w6=>k W st' (by rw [w1.length_eq,bo]) ?_;have lw:W.length=u.1.length+v.1.length:=by rw [w1.length_eq,bo]
 have ew:aL (S++(W,u.2) :: S')++R=aL S++(W++(aL S'++R)):=by simp [aL]
 refine ⟨by rw [w3,ew],w5,w6,?_,fun z hz=>?_,?_⟩
 ·rw [w4,Array.toList_eraseIdxIfInBounds,Array.toList_setIfInBounds,h.p,dO,dO]
  show (((eN 0 S++(_ :: _ :: _)).set S.length _).eraseIdx (S.length+1))=_
  have lp:=gA 0 S;rw [<- lp,KZ,FN]
  show eN 0 S++(_ :: eN _ S')=eN 0 S++(_ :: eN _ S')
  rw [l9,lw,Nat.add_assoc]
 ·rcases bh.mp hz with a | a
  ·exact h.s z (by simp [a])
  ·rcases bw.mp a with rfl | a
   ·exact ⟨w2,by show 0 < W.length; omega⟩
   ·exact h.s z (by simp [a])
 ·have:=h.q;rw [ef] at this;rw [ew];refine je (cq _ ?_) this;have:=ix (aL S'++R) w1
  rwa [aq u.1] at this
theorem HC {α:Type} {g:List α} {i:Nat} (h:i+1 < g.length):∃ S u v S',g=S++u :: v :: S'/\S.length=i:=by
 refine ⟨g.take i,g[i],g[i+1],g.drop (i+2),?_,by rw [bq]; omega⟩
 conv=>lhs; rw [<- cm i g,di (by omega),di (by omega)]
def qG (size lo n:Nat):StateT SortSt Sem (ForInStep (Option Unit×Nat)):=do
 match (de (<- get)).back? with
 | some (s1,n1,_)=>
  let pw:=power' size (2*s1+n1) (2*s1+n1+n1+n) size
  let r <- forIn [0:size] ((none:Option Unit),()) fun _ _=>do
   let p:=de (<- get)
   match (if p.size > 1 then p[p.size - 2]? else none) with
   | some (_,_,older)=>
    if older<=pw then pure (.done (none,())) else do
     let b <- mergeAt' (p.size - 2)
     if !b then pure (.done (some (),())) else pure (.yield (none,()))
   | _=>pure (.done (none,()))
  match r.1 with
  | some a=>pure (.done (some a,lo))
  | none=>do
   modify fun s=>lj s ((de s).modify ((de s).size - 1) fun (st,len,_)=>(st,len,pw))
   modify fun s=>lj s ((de s).push (lo,n,0))
   pure (.yield (none,lo+n))
 | _=>do
  modify fun s=>lj s ((de s).push (lo,n,0))
  pure (.yield (none,lo+n))
def zY (size minrun lo:Nat):StateT SortSt Sem (ForInStep (Option Unit×Nat)):=
 if lo >= size then pure (.done (none,lo)) else do
  match (<- countRun' lo (size - lo)) with
  | some found=>
   if found < minrun then do
    rule "list.sort.binary-insertion"
    let b <- binarySort' lo (min (size - lo) minrun) found
    if !b then pure (.done (some (),lo)) else qG size lo (min (size - lo) minrun)
   else qG size lo found
  | _=>pure (.done (some (),lo))
def HE (size:Nat):StateT SortSt Sem Unit:=do
 for _ in [0:size] do
  let p:=de (<- get)
  if p.size<=1 then break
  let i:=p.size - 2
  let before:=if i > 0 then p[i - 1]?.map (·.2.1) else none
  let i:=if before.any (· < (p[i+1]?.elim 0 (·.2.1))) then i - 1 else i
  if !(<- mergeAt' i) then return
theorem zZ:sortRuns'=(do
 let size:=(arrOf (<- get)).size
 let r <- forIn [0:size] ((none:Option Unit),0) fun _ c=>zY size (minRun' size size 0) c.2
 match r.1 with
 | some a=>pure a
 | none=>HE size):=by
 rw [sortRuns'_eq]
 refine bind_congr fun st=>?_
 dsimp only
 refine congr (congrArg _ (congrArg _ (funext fun x=>funext fun c=>?_))) (funext fun r=>?_)
 ·unfold zY
  by_cases h:c.2 >= (arrOf st).size
  ·rw [if_pos h,if_pos h]
  ·rw [if_neg h,if_neg h]
   refine bind_congr fun o=>?_
   cases o with
   | none=>rfl
   | some f=>
    dsimp only
    by_cases h2:f < minRun' (arrOf st).size (arrOf st).size 0
    ·rw [if_pos h2,if_pos h2]
     refine bind_congr fun _=>?_
     refine bind_congr fun b=>?_
     cases b
     ·rfl
     ·unfold qG
      refine bind_congr fun st2=>?_
      cases e:(de st2).back? with
      | none=>rfl
      | some t=>
       obtain ⟨a1,a2,a3⟩:=t
       dsimp only
       refine bind_congr fun r=>?_
       obtain ⟨r1,r2⟩:=r
       cases r1 <;> rfl
    ·rw [if_neg h2,if_neg h2]
     unfold qG
     refine bind_congr fun st2=>?_
     cases e:(de st2).back? with
      | none=>rfl
      | some t=>
       obtain ⟨a1,a2,a3⟩:=t
       dsimp only
       refine bind_congr fun r=>?_
       obtain ⟨r1,r2⟩:=r
       cases r1 <;> rfl
 ·obtain ⟨r1,r2⟩:=r
  cases r1
  ·rfl
  ·rfl
end
section
variable {M:Model} {A:Around} {E:Value->Shared->Prop} {s:Shared} {κ:k6} {pr:Nat->Keyed} {n:Nat} {lt:Nat->Nat->Bool}
theorem Rn.push {g:List (List Nat×Nat)} {Z:List Nat} {st:SortSt} (h:Rn pr κ lt n g Z st) {m:Nat} (h0:0 < m) (hm:m<=Z.length) (hs:Srt lt (Z.take m)):Rn pr κ lt n (g++[(Z.take m,0)]) (Z.drop m) (lj st ((de st).push ((aL g).length,m,0))):=by
 have lm:(Z.take m).length=m:=by rw [bq]; omega
 have ef:aL (g++[(Z.take m,0)])++Z.drop m=aL g++Z:=by
  rw [qE,gE,qF,e7,aq,cm]
 refine ⟨by rw [ef]; exact h.a,h.k,h.f,?_,fun u hu=>?_,by rw [ef]; exact h.q⟩
 ·show ((de st).push _).toList=_
  rw [Array.toList_push,h.p,dO,l9]
  show _=eN 0 g++[(_,(Z.take m).length,0)]
  rw [lm]
 ·rcases bh.mp hu with a | a
  ·exact h.s u a
  ·have a:u=(Z.take m,0):=by simpa using a
   rw [a];exact ⟨hs,by show 0 < (Z.take m).length; omega⟩
theorem Rn.pow {S:List (List Nat×Nat)} {u:List Nat×Nat} {Z:List Nat} {st:SortSt} (h:Rn pr κ lt n (S++[u]) Z st) (pw:Nat):Rn pr κ lt n (S++[(u.1,pw)]) Z (lj st ((de st).modify ((de st).size - 1) fun x=>(x.1,x.2.1,pw))):=by
 have ef:aL (S++[(u.1,pw)])=aL (S++[u]):=by simp [aL]
 have hz:=h.sz;rw [bo] at hz;refine ⟨by rw [ef]; exact h.a,h.k,h.f,?_,fun v hv=>?_,by rw [ef]; exact h.q⟩
 ·show ((de st).modify _ _).toList=_
  rw [Array.toList_modify,h.p,dO,dO,hz]
  show (eN 0 S++[_]).modify S.length _=eN 0 S++[_]
  have:=Bn (eN 0 S) (0+(aL S).length,u.1.length,u.2) (fun x=>(x.1,x.2.1,pw));rw [gA] at this;exact this
 ·rcases bh.mp hv with a | a
  ·exact h.s v (by simp [a])
  ·have a:v=(u.1,pw):=by simpa using a
   rw [a];exact h.s u (by simp)
theorem EH {α:Type} {g:List α} (h:g≠[]):∃ S u,g=S++[u]:=⟨g.dropLast,g.getLast h,(List.dropLast_concat_getLast h).symm⟩
theorem uD (O:Ask M A E s κ pr n lt) {g:List (List Nat×Nat)} {Z:List Nat} {st:SortSt} (h:Rn pr κ lt n g Z st) {m:Nat} (h0:0 < m) (hm:m<=Z.length) (hs:Srt lt (Z.take m)) {Q:ForInStep (Option Unit×Nat)->SortSt->Prop}
  (k:∀ g' st',(aL g').length=(aL g).length+m->Rn pr κ lt n g' (Z.drop m) st'->Q (.yield (none,(aL g).length+m)) st'):wpS M A E s (qG n (aL g).length m) Q st:=by
 unfold qG
 have lm:(Z.take m).length=m:=by rw [bq]; omega
 have fin:∀ g' st',(aL g').length=(aL g).length->Rn pr κ lt n g' Z st'->wpS M A E s (do
   modify fun s=>lj s ((de s).push ((aL g).length,m,0))
   pure (.yield (none,(aL g).length+m))) Q st':=fun g' st' e r=>by
  refine ay (wpS_modify (bu ?_))
  refine k (g'++[(Z.take m,0)]) _ ?_ ?_
  ·rw [qE,gE,qF,e7,bo,e,lm]
  ·rw [<- e]; exact r.push h0 hm hs
 refine ay (wpS_get ?_)
 by_cases hg:g=[]
 ·have hb:(de st).back?=none:=by
   rw [<- Array.getLast?_toList,h.p,hg]; rfl
  rw [hb]
  exact fin g st rfl h
 ·obtain ⟨S,u,eg⟩:=EH hg
  have hb:(de st).back?=some ((aL S).length,u.1.length,u.2):=by
   rw [<- Array.getLast?_toList,h.p,eg,dO,l9]
   show (eN 0 S++[_]).getLast?=_
   rw [List.getLast?_concat]
  rw [hb]
  dsimp only
  generalize power' n (2*(aL S).length+u.1.length) (2*(aL S).length+u.1.length+u.1.length+m) n=pw
  refine ay (kc (gb (fun i c st'=>c=(none,())/\∃ g',g'≠[]/\(aL g').length=(aL g).length/\Rn pr κ lt n g' Z st') (Q:=fun c st'=>c=(none,())/\∃ g',g'≠[]/\(aL g').length=(aL g).length/\Rn pr κ lt n g' Z st') (fun i c st' h1 h2=>?_) (fun c st' hq=>hq) ⟨rfl,g,hg,rfl,h⟩) fun c st' hq=>?_)
  ·rintro ⟨rfl,g',hn,e,r⟩
   refine ay (wpS_get ?_)
   rw [r.sz]
   by_cases c:g'.length > 1
   ·rw [if_pos c]
    obtain ⟨S2,u2,v2,S3,eg2,l2⟩:=HC (g:=g') (i:=g'.length - 2) (by omega)
    have l3:S3=[]:=by
     have:=congrArg List.length eg2
     simp at this
     exact List.length_eq_zero_iff.mp (by omega)
    subst l3
    rw [<- l2]
    have ra:Rn pr κ lt n (S2++u2 :: v2 :: []) Z st':=eg2 ▸ r
    rw [ra.at]
    dsimp only
    by_cases c2:u2.2<=pw
    ·rw [if_pos c2]
     exact bu ⟨rfl,g',hn,e,r⟩
    ·rw [if_neg c2]
     refine ay (oA O ra fun W st2 lw r2=>?_)
     refine bu ⟨rfl,_,by simp,?_,r2⟩
     rw [<- e,eg2]
     simp [aL]
     omega
   ·rw [if_neg c]
    exact bu ⟨rfl,g',hn,e,r⟩
  ·obtain ⟨rfl,g',hn,e,r⟩:=hq
   dsimp only
   obtain ⟨S2,u2,rfl⟩:=EH hn
   refine ay (wpS_modify ?_)
   exact fin _ _ (by rw [<- e]; simp [aL]) (r.pow pw)
theorem Dj (O:Ask M A E s κ pr n lt) (mr:Nat) {g:List (List Nat×Nat)} {Z:List Nat} {st:SortSt} (h:Rn pr κ lt n g Z st) {Q:ForInStep (Option Unit×Nat)->SortSt->Prop}
  (k0:(aL g).length=n->Q (.done (none,(aL g).length)) st)
  (k:∀ g' Z' st',(aL g).length < (aL g').length->Rn pr κ lt n g' Z' st'->Q (.yield (none,(aL g').length)) st'):wpS M A E s (zY n mr (aL g).length) Q st:=by
 unfold zY;have hl:=h.len
 by_cases c:(aL g).length >= n
 ·rw [if_pos c];exact bu (k0 (by omega))
 rw [if_neg c];have T:Tl pr κ (aL g) Z (de st) st:=⟨h.a,h.k,rfl,h.f⟩;have nZ:∀ x∈Z,x < n:=fun x hx=>h.lo x (ah _ hx);have ez:n - (aL g).length=Z.length:=by omega
 rw [ez];have up:∀ Z' st',Z'.Perm Z->Tl pr κ (aL g) Z' (de st) st'->Rn pr κ lt n g Z' st':=fun Z' st' p T'=>⟨T'.a,T'.k,T'.f,by rw [T'.p]; exact h.p,h.s,(cq _ p).trans h.q⟩;refine ay (wZ O T nZ (by omega) fun r Z' st' a1 a2 a3 a4 a5=>?_);dsimp only;have lz:=a3.length_eq
 by_cases c2:r < mr
 ·rw [if_pos c2];refine ay (fZ ?_);refine ay (sP O a5 (fun x hx=>nZ x (a3.mem_iff.mp hx)) (m:=min Z.length mr) (by omega) (by omega) a4 fun Z2 st2 b1 b2 b3=>?_);have l2:=b1.length_eq;exact uD O (up Z2 st2 (b1.trans a3) b3) (by omega) (by omega) b2 fun g' st3 c1 c2=>c1 ▸ k g' _ st3 (by omega) c2
 ·rw [if_neg c2];exact uD O (up Z' st' a3 a5) a1 a2 a4 fun g' st3 c1 c2=>c1 ▸ k g' _ st3 (by omega) c2
theorem Rn.few {g:List (List Nat×Nat)} {R:List Nat} {st:SortSt} (h:Rn pr κ lt n g R st):g.length<=n:=by
 have:∀ g:List (List Nat×Nat),(∀ u∈g,0 < u.1.length)->g.length<=(aL g).length:=by
  intro g
  induction g with
  | nil=>intro _; exact az _
  | cons u r ih=>
   intro hu;rw [gE,bo,cz];have:=ih fun v hv=>hu v (ao _ hv);have:=hu u (ax ..);omega
 have:=this g fun u hu=>(h.s u hu).2;have:=h.len;omega
theorem FO (O:Ask M A E s κ pr n lt) {g:List (List Nat×Nat)} {st:SortSt} (h:Rn pr κ lt n g [] st) {Q:Unit->SortSt->Prop}
  (k:∀ W st',W.Perm (d0 n)->Srt lt W->arrOf st'=arr pr W->km st'=none->Q () st'):wpS M A E s (HE n) Q st:=by
 unfold HE;refine ay (kc (gb (fun i c st'=>c=(none,())/\∃ g',(g'.length<=1\/g'.length+i<=n)/\Rn pr κ lt n g' [] st') (Q:=fun c st'=>c=(none,())/\∃ g',g'.length<=1/\Rn pr κ lt n g' [] st') (fun i c st' h1 h2=>?_) (fun c st'=>?_) ⟨rfl,g,.inr h.few,h⟩) fun c st' hq=>?_)
 ·rintro ⟨rfl,g',hx,r⟩;refine ay (wpS_get ?_);dsimp only;rw [r.sz]
  by_cases c:g'.length<=1
  ·rw [if_pos c];exact bu ⟨rfl,g',c,r⟩
  ·rw [if_neg c];generalize ei:(if Option.any _ _=true then g'.length - 2 - 1 else g'.length - 2)=j;have hj:j+1 < g'.length:=by
    have hb:∀ b:Bool,(if b=true then g'.length - 2 - 1 else g'.length - 2)+1 < g'.length:=fun b=>by
     cases b
     ·rw [if_neg (by decide)]; omega
     ·rw [if_pos rfl]; omega
    rw [<- ei];exact hb _
   obtain ⟨S,u,v,S',rfl,rfl⟩:=HC hj;refine ay (oA O r fun W st2 lw r2=>?_);refine bu ⟨rfl,_,?_,r2⟩;simp at hx c ⊢;omega
 ·rintro ⟨rfl,g',hx,r⟩;exact ⟨rfl,g',by omega,r⟩
 ·obtain ⟨rfl,g',hx,r⟩:=hq;refine bu ?_;have ra:=r.a;have rq:=r.q;rw [e7] at ra rq;refine k (aL g') st' rq ?_ ra r.f
  match g',hx,r with
  | [],_,_=>exact j5
  | [u],_,r=>
   rw [gE,qF,e7];exact (r.s u (by simp)).1
theorem xB (O:Ask M A E s κ pr n lt) {st:SortSt} (ha:arrOf st=arr pr (d0 n)) (hk:kindOf st=κ) (hp:de st=#[]) (hf:km st=none) {Q:Unit->SortSt->Prop}
  (k:∀ W st',W.Perm (d0 n)->Srt lt W->arrOf st'=arr pr W->km st'=none->Q () st'):wpS M A E s sortRuns' Q st:=by
 rw [zZ];refine ay (wpS_get ?_);dsimp only;rw [ha,cS,oa];have r0:Rn pr κ lt n [] (d0 n) st:=⟨ha,hk,hf,by rw [hp]; rfl,fun u hu=>absurd hu (by simp),j3 _⟩;refine ay (kc (gb (fun i c st'=>∃ g R,c=(none,(aL g).length)/\i<=(aL g).length/\Rn pr κ lt n g R st') (Q:=fun c st'=>∃ g,c.1=none/\Rn pr κ lt n g [] st') (fun i c st' h1 h2=>?_) (fun c st'=>?_) ⟨[],_,rfl,d4 _,r0⟩) fun c st' hq=>?_)
 ·rintro ⟨g,R,rfl,hi,r⟩;have hl:=r.len;refine Dj O _ r (fun e=>?_) fun g' Z' st2 e r2=>?_
  ·obtain rfl:R=[]:=List.length_eq_zero_iff.mp (by omega);exact ⟨g,rfl,r⟩
  ·exact ⟨g',Z',rfl,by omega,r2⟩
 ·rintro ⟨g,R,rfl,hi,r⟩;have hl:=r.len;obtain rfl:R=[]:=List.length_eq_zero_iff.mp (by omega);exact ⟨g,rfl,r⟩
 ·obtain ⟨g,e,r⟩:=hq;rw [e];exact FO O r k
end
section
variable {prog:Program} {w:World} {A:Around} {E:Value->Shared->Prop} {s:Shared} {ks vs:List Value} {κ:k6}
theorem HF (hl:ks.length=vs.length) (lt:Nat->Nat->Bool)
  (tr:∀ i j k,i < vs.length->j < vs.length->k < vs.length->lt j i=false->lt k j=false->lt k i=false) (as:∀ i j,i < vs.length->j < vs.length->lt i j=true->lt j i=false)
  (hlt:∀ i j,i < vs.length->j < vs.length->∀ Q:Bool->Shared->Prop,Q (lt i j) s->wpAny (model prog w) A (keyLt' κ (ks.getD i b7) (ks.getD j b7)) Q (fun _ _=>False) s):
  wpAny (model prog w) A ((sortRuns').run (SortSt.mk' κ (ks.toArray.zip vs.toArray) #[] 7 none)) (fun r s'=>s'=s/\∃ p:List Nat,p.Perm (d0 vs.length)/\p.Pairwise (fun i j=>lt j i=false)/\(arrOf r.2).map (·.2)=(p.map fun i=>vs.getD i b7).toArray/\km r.2=none) E s:=by
 have O:Ask (model prog w) A E s κ (fun i=>(ks.getD i b7,vs.getD i b7)) vs.length lt:=⟨tr,as,fun st i j hk hi hj Q q=>by
  rw [lt'_eq];refine ay (wpS_get ?_);rw [hk];refine ay (wpS_lift (jz (jl (hlt i j hi hj (fun b s'=>b=lt i j/\s'=s) ⟨rfl,rfl⟩) (fun b s' hb=>?_) fun _ _ f=>f.elim)));obtain ⟨rfl,rfl⟩:=hb;exact ⟨rfl,bu q⟩⟩
 have ea:ks.toArray.zip vs.toArray=arr (fun i=>(ks.getD i b7,vs.getD i b7)) (d0 vs.length):=by
  apply Array.toList_inj.mp;apply i5;intro i;unfold arr
  by_cases hi:i < vs.length
  ·have hi':i < ks.length:=by omega
   simp [hi,hi',i6]
  ·have hi':¬ i < ks.length:=by omega
   simp [hi,hi'];omega
 refine xB O (st:=SortSt.mk' κ (ks.toArray.zip vs.toArray) #[] 7 none) ea rfl rfl rfl (Q:=fun _ st'=>∃ p:List Nat,p.Perm (d0 vs.length)/\p.Pairwise (fun i j=>lt j i=false)/\(arrOf st').map (·.2)=(p.map fun i=>vs.getD i b7).toArray/\km st'=none) fun W st' w1 w2 w3 w4=>⟨W,w1,w2,?_,w4⟩;rw [w3];unfold arr;simp
end
section
variable {prog:Program} {w:World} {A:Around} {R:Result->Shared->Prop} {s:Shared}
def EI (ifs:List Expr) (env:Env):Sem Bool:=forIn ifs true fun c r=>if r=true then do let ok <- isTrue c env (eval c env); pure (pf ok) else pure (pf r)
theorem A0 {elt target iter:Expr} {ifs:List Expr} {scope:Scope} {pos:Pos} {it acc:Value} {env:Env} (I:Nat->Shared->Prop)
  (turn:∀ n s,I n s->wpAny (model prog w) A (pyNext it) (fun r s₁=>match r with
   | none=>R (.ok .next) s₁
   | some v=>wpAny (model prog w) A (letOwnedTupleGo target it v) (fun _ s₁'=>wpAny (model prog w) A (assign target env v) (fun _ s₂=>
     wpAny (model prog w) A (EI ifs env) (fun ok s₃=>
      if ok=true then wpAny (model prog w) A (eval elt env) (fun x s₄=>
       wpAny (model prog w) A (call (.builtin "list.append") [acc,x]) (fun _ s₅=>∃ m,m < n/\I m s₅) (fun _ _=>False) s₄) (fun _ _=>False) s₃
      else ∃ m,m < n/\I m s₃) (fun _ _=>False) s₂) (fun _ _=>False) s₁') (fun _ _=>False) s₁) (fun _ _=>False) s)
  (n:Nat) (h:I n s):
  codeAny (model prog w) A (.compLoop (.ListComp elt [⟨target,iter,ifs,0⟩] scope pos) 0 it acc env) R s:=by
 refine codeAny_loop rfl I (fun n s hI=>?_) n h
 show wpAny _ A ((compTurn (.ListComp elt [⟨target,iter,ifs,0⟩] scope pos) 0 it acc env).onRaise (fun x=>do noteFrame x env; theTreesLotGoes x)) _ _ s
 refine wpAny_noted ?_;rw [compTurn_list];refine aa (wpAny_standAt (aa (jl (turn n s hI) (fun r s₁ h₁=>?_) fun _ _ h'=>h'.elim)));cases r with
 | none=>exact ab h₁
 | some v=>
  refine aa (jl h₁ (fun _ s₁' h₁'=>?_) fun _ _ h'=>h'.elim);refine aa (jl h₁' (fun _ s₂ h₂=>aa (jl h₂ (fun ok s₃ h₃=>?_) fun _ _ h'=>h'.elim)) fun _ _ h'=>h'.elim);cases ok with
  | false=>exact ab ⟨rfl,h₃⟩
  | true=>
   exact aa (aa (jl h₃ (fun x s₄ h₄=>aa (jl h₄ (fun _ s₅ h₅=>ab (ab ⟨rfl,h₅⟩)) fun _ _ h'=>h'.elim)) fun _ _ h'=>h'.elim))
end
def gF (cells:List (Str×Addr)):List (Str×m9)->List (Str×Addr)->List (Str×Addr)
 | [],cs=>cs
 | (n,k) :: r,cs=>gF cells r (if (k == fh)=true then (n,(cells.lookup n).getD 0) :: cs else cs)
theorem xC {scope:Scope} {env:Env} (h:∀ y∈scope.names,y.2=fh->∃ c,env.cells.lookup y.1=some c):closureFor scope env=pure (gF env.cells scope.names []):=by
 have go:∀ (names:List (Str×m9)) (cs:List (Str×Addr)),(∀ y∈names,y.2=fh->∃ c,env.cells.lookup y.1=some c)->
   (forIn names cs fun (x:Str×m9) (r:List (Str×Addr))=>match x with
    | (name,kind)=>if (kind == fh)=true then (do let y <- cellOf env name; pure (pf ((name,y) :: r))) else (pure (pf r):Sem _))=(pure (gF env.cells names cs):Sem _):=by
  intro names
  induction names with
  | nil=>intro cs _; rfl
  | cons y r ih=>
   intro cs hy
   obtain ⟨n,k⟩:=y
   rw [List.forIn_cons]
   have ih':=fun cs'=>ih cs' fun y hm=>hy y (ao _ hm)
   by_cases hk:(k == fh)=true
   ·obtain ⟨c,hc⟩:=hy (n,k) ax (by simpa using hk)
    have e1:cellOf env n=pure c:=by unfold cellOf; rw [show env.cells.lookup n=some c from hc]
    have e2:gF env.cells ((n,k) :: r) cs=gF env.cells r ((n,c) :: cs):=by
     show gF env.cells r (if (k == fh)=true then _ else _)=_
     rw [if_pos hk,show env.cells.lookup n=some c from hc]; rfl
    rw [e2,<- ih' ((n,c) :: cs)]
    simp only [hk,if_true,e1,pure_bind]
   ·have e2:gF env.cells ((n,k) :: r) cs=gF env.cells r cs:=by
     show gF env.cells r (if (k == fh)=true then _ else _)=_
     rw [if_neg hk]
    rw [e2,<- ih' cs]
    simp only [hk,if_false,pure_bind]
    try rfl
 have:=go scope.names [] h
 unfold closureFor
 simpa using this
theorem rR {cells:List (Str×Addr)} {x:Str} {c:Addr}:∀ (names:List (Str×m9)) (cs:List (Str×Addr)),(gF cells names cs).lookup x=some c->cs.lookup x=some c\/(∃ y∈names,y.1=x/\y.2=fh/\c=(cells.lookup x).getD 0)
 | [],_,h=>.inl h
 | (n,k) :: r,cs,h=>by
  rcases rR r _ h with h1 | ⟨y,hy,e⟩
  ·by_cases hk:(k == fh)=true
   ·rw [if_pos hk] at h1
    by_cases hx:x=n
    ·subst hx;simp only [b6,beq_self_eq_true] at h1;exact .inr ⟨(x,k),ax,rfl,by simpa using hk,(b8 h1).symm⟩
    ·have:(x == n)=false:=by simpa using hx
     simp only [b6,this] at h1;exact .inl h1
   ·rw [if_neg hk] at h1;exact .inl h1
  ·exact .inr ⟨y,ao _ hy,e⟩
theorem uE {cells:List (Str×Addr)} {x:Str}:∀ (names:List (Str×m9)) (cs:List (Str×Addr)),((∃ c,cs.lookup x=some c)\/∃ y∈names,y.1=x/\y.2=fh)->∃ c,(gF cells names cs).lookup x=some c
 | [],_,h=>by
  rcases h with h | ⟨y,hy,_⟩
  ·exact h
  ·cases hy
 | (n,k) :: r,cs,h=>by
  refine uE r _ ?_;rcases h with ⟨c,h⟩ | ⟨y,hy,e1,e2⟩
  ·left
   by_cases hk:(k == fh)=true
   ·rw [if_pos hk]
    by_cases hx:x=n
    ·subst hx; simp [b6]
    ·have:(x == n)=false:=by simpa using hx
     exact ⟨c,by simp only [b6,this]; exact h⟩
   ·rw [if_neg hk]; exact ⟨c,h⟩
  ·rcases bw.mp hy with rfl | hy
   ·left;have hk:(k == fh)=true:=by simpa using e2
    rw [if_pos hk];have hx:n=x:=e1;subst hx;simp [b6]
   ·exact .inr ⟨y,hy,e1,e2⟩
def uF (os:Scope) (oN:List Str) (sc:Scope) (N:List Str) (js:List (Option Nat)):Bool:=
 (match sc.kind with | .function=>true | _=>false) && sc.names.all (fun y=>match y.2 with
  | .cell=>(match sc.names.lookup y.1 with | some .cell=>true | _=>false)
  | _=>true) &&
 sc.names.all (fun y=>match y.2 with
  | .local=>(match sc.names.lookup y.1 with | some .local=>true | _=>false)
  | .free=>(match sc.names.lookup y.1,os.names.lookup y.1 with | some .free,some .cell=>true | some .free,some .free=>true | _,_=>false)
  | _=>true) &&
 js.length == N.length && (js.zip N).all (fun p=>match p.1 with
  | none=>true
  | some j=>(match oN[j]? with | some x=>decide (x=p.2) | none=>false) && (match sc.names.lookup p.2 with | some .free=>true | _=>false))
structure O2 (os:Scope) (oN:List Str) (sc:Scope) (N:List Str) (js:List (Option Nat)):Prop where
 kind:sc.kind=.function
 own:∀ y∈sc.names,y.2=.cell->sc.names.lookup y.1=some .cell
 nm:∀ y∈sc.names,y.2=.local->sc.names.lookup y.1=some .local
 fr:∀ y∈sc.names,y.2=.free->os.names.lookup y.1=some .cell\/os.names.lookup y.1=some .free
 len:js.length=N.length
 cap:∀ (i j:Nat),js[i]?=some (some j)->∃ x,N[i]?=some x/\oN[j]?=some x/\sc.names.lookup x=some .free
theorem FP {os:Scope} {oN:List Str} {sc:Scope} {N:List Str} {js:List (Option Nat)} (h:uF os oN sc N js=true):O2 os oN sc N js:=by
 unfold uF at h;simp only [dr] at h;obtain ⟨⟨⟨⟨h1,h2⟩,h3⟩,h4⟩,h5⟩:=h;refine ⟨?_,fun y hy e=>?_,fun y hy e=>?_,fun y hy e=>?_,by simpa using h4,fun i j e=>?_⟩
 ·cases hk:sc.kind <;> rw [hk] at h1 <;> first | rfl | exact absurd h1 bp
 ·have:=cf.mp h2 y hy;rw [e] at this;dsimp only at this;cases hl:sc.names.lookup y.1 with
  | none=>rw [hl] at this; exact absurd this bp
  | some k=>cases k <;> rw [hl] at this <;> first | rfl | exact absurd this bp
 ·have:=cf.mp h3 y hy;rw [e] at this;dsimp only at this;cases hl:sc.names.lookup y.1 with
  | none=>rw [hl] at this; exact absurd this bp
  | some k=>cases k <;> rw [hl] at this <;> first | rfl | exact absurd this bp
 ·have:=cf.mp h3 y hy;rw [e] at this;dsimp only at this;cases hl:sc.names.lookup y.1 with
  | none=>rw [hl] at this; exact absurd this bp
  | some k=>
   rw [hl] at this;cases ho:os.names.lookup y.1 with
   | none=>rw [ho] at this; cases k <;> exact absurd this bp
   | some k'=>rw [ho] at this; cases k <;> cases k' <;> first | exact .inl rfl | exact .inr rfl | exact absurd this bp
 ·have hlen:js.length=N.length:=by simpa using h4
  obtain ⟨hi,ej⟩:=af.mp e;have hN:i < N.length:=by omega
  have hz:(js.zip N)[i]?=some (some j,N[i]):=by
   rw [i6];exact ⟨e,by simp [hN]⟩
  have:=cf.mp h5 _ (fe hz);simp only [dr] at this;obtain ⟨t1,t2⟩:=this;refine ⟨N[i],by simp [hN],?_,?_⟩
  ·cases ho:oN[j]? with
   | none=>rw [ho] at t1; exact absurd t1 bp
   | some x=>rw [ho] at t1; rw [of_decide_eq_true t1]
  ·cases hl:sc.names.lookup N[i] with
   | none=>rw [hl] at t2; exact absurd t2 bp
   | some k=>rw [hl] at t2; cases k <;> first | rfl | exact absurd t2 bp
theorem cU {κ:Type} {x:Str} {k:κ}:∀ {l:List (Str×κ)},l.lookup x=some k->(x,k)∈l
 | [],h=>by simp at h
 | (n,v) :: r,h=>by
  by_cases hx:x=n
  ·subst hx;simp only [b6,beq_self_eq_true] at h;cases h
   exact ax
  ·have:(x == n)=false:=by simpa using hx
   simp only [b6,this] at h;exact ao _ (cU h)
theorem jW {sc:Scope} {env:Env}:∀ {names:List (Str×m9)} {x:Str} {k:m9},(names.map fun (n,k)=>if (k == fh && env.scope.kind == .function && env.kindOf n == some .cell) then (n,ph) else (n,k)).lookup x=some k->
  names.lookup x=some k\/(k=.cell/\names.lookup x=some .free)
 | [],_,_,h=>by simp at h
 | (n,q) :: r,x,k,h=>by
  have ih:=@jW sc env r x k
  by_cases hc:(q == fh && env.scope.kind == .function && env.kindOf n == some .cell)=true
  ·simp only [cy] at h;rw [if_pos hc] at h;have hq:q=.free:=by
    simp only [dr] at hc;simpa using hc.1.1
   by_cases hx:x=n
   ·subst hx;simp only [b6,beq_self_eq_true] at h ⊢;exact .inr ⟨(b8 h).symm,by rw [hq]⟩
   ·have e:(x == n)=false:=by simpa using hx
    simp only [b6,e] at h ⊢;exact ih h
  ·simp only [cy] at h;rw [if_neg hc] at h
   by_cases hx:x=n
   ·subst hx;simp only [b6,beq_self_eq_true] at h ⊢;exact .inl h
   ·have e:(x == n)=false:=by simpa using hx
    simp only [b6,e] at h ⊢;exact ih h
theorem oB {env:Env}:∀ {names:List (Str×m9)} {x:Str},names.lookup x=some .free->
  (names.map fun (n,k)=>if (k == fh && env.scope.kind == .function && env.kindOf n == some .cell) then (n,ph) else (n,k)).lookup x=some .free\/
  (names.map fun (n,k)=>if (k == fh && env.scope.kind == .function && env.kindOf n == some .cell) then (n,ph) else (n,k)).lookup x=some .cell
 | [],_,h=>by simp at h
 | (n,q) :: r,x,h=>by
  have ih:=@oB env r x
  by_cases hc:(q == fh && env.scope.kind == .function && env.kindOf n == some .cell)=true
  ·simp only [cy];rw [if_pos hc]
   by_cases hx:x=n
   ·subst hx;simp only [b6,beq_self_eq_true]
    first | exact .inr rfl | exact .inr trivial
   ·have e:(x == n)=false:=by simpa using hx
    simp only [b6,e] at h ⊢;exact ih h
  ·simp only [cy];rw [if_neg hc]
   by_cases hx:x=n
   ·subst hx;simp only [b6,beq_self_eq_true] at h ⊢;exact .inl h
   ·have e:(x == n)=false:=by simpa using hx
    simp only [b6,e] at h ⊢;exact ih h
theorem bD:∀ (names:List (Str×m9)) (n:Nat) (acc:List (Str×Addr)),fw n names acc=fw n names []++acc
 | [],_,_=>rfl
 | (x,k) :: r,n,acc=>by
  unfold fw;split
  ·rw [bD r _ ((x,n) :: acc),bD r _ [(x,n)],aq];rfl
  ·exact bD r n acc
theorem iU {x:Str} {c:Addr}:∀ {names:List (Str×m9)} {n:Nat},(x,c)∈fw n names []->(x,ph)∈names
 | [],_,h=>by cases h
 | (y,k) :: r,n,h=>by
  unfold fw at h;split at h
  ·rename_i hk;rw [bD,bh] at h;rcases h with h | h
   ·exact ao _ (iU h)
   ·have e:=c8.mp h;have ex:x=y:=congrArg il e;have ek:k=.cell:=by simpa using hk
    rw [ex,ek];exact ax
  ·exact ao _ (iU h)
theorem rS {α:Type} {x:Str} {c:α}:∀ {l:List (Str×α)},(x,c)∈l->∃ d,l.lookup x=some d
 | (y,d) :: r,h=>by
  by_cases e:x=y
  ·subst e; exact ⟨d,by simp [b6]⟩
  ·have z:(x == y)=false:=by simpa using e
   rcases bw.mp h with q | q
   ·exact absurd (congrArg il q) e
   ·obtain ⟨d',hd⟩:=rS q;exact ⟨d',by simp only [b6,z]; exact hd⟩
theorem fH {x:Str}:∀ {names:List (Str×m9)} {n:Nat},(x,ph)∈names->∃ c,(fw n names []).lookup x=some c
 | (y,k) :: r,n,h=>by
  have go:∃ c,(x,c)∈fw n ((y,k) :: r) []:=by
   rcases bw.mp h with q | q
   ·have ex:x=y:=congrArg il q;have ek:k=.cell:=(congrArg Prod.snd q).symm;refine ⟨n,?_⟩;unfold fw;rw [if_pos (by rw [ek]; rfl),bD,ex];exact ah _ ax
   ·unfold fw;split
    ·obtain ⟨c,hc⟩:=fH (n:=n+1) q;rw [bD];exact ⟨c,cu _ (mem_of_lookup hc)⟩
    ·obtain ⟨c,hc⟩:=fH (n:=n) q;exact ⟨c,mem_of_lookup hc⟩
  obtain ⟨c,hc⟩:=go;exact rS hc
theorem oC {α:Type} {x:Str}:∀ {l r:List (Str×α)},(l++r).lookup x=(l.lookup x).or (r.lookup x)
 | [],_=>by simp
 | (y,d) :: l,r=>by
  have ih:=oC (x:=x) (l:=l) (r:=r);cases e:x == y with
  | true=>simp [b6,e]
  | false=>simp only [ou,b6,e]; exact ih
theorem qH {M:Model} {A:Around} {E:Value->Shared->Prop} {s:Shared} {scope:Scope} {globals:Addr} {closure:List (Str×Addr)} {qual:Str} {func:Option Addr} {code:Value} {outer:Env} {builtins:Addr} {Q:Env->Shared->Prop}
  (hQ:Q (newEnv scope s.heap.objs.size globals (fw (s.heap.objs.size+1) scope.names closure) qual func code (some outer) builtins) { s with heap:=pushCells (s.heap.push { cls:=.type "dict",data:=.dict #[] }) scope.names }):
  wpAny M A (newFunctionEnv scope globals closure [] qual func code (some outer) builtins) Q E s:=by
 simp only [newFunctionEnv,Option.isSome_some,if_true];refine aa (wpAny_alloc ?_);refine aa (wpAny_layCells _ (fun name kind cells=>by cases hkc:kind == ph <;> simp [hkc]) _ _ _ _ ?_);rw [show ({ s with heap:=s.heap.push { cls:=.type "dict",data:=.dict #[] } }:Shared).heap.objs.size=s.heap.objs.size+1 from gj ..]
 rw [List.forIn_nil];exact aa (ab (ab hQ))
def Cx.comp (X:Cx) (sc:Scope) (N:List Str) (C:Addr) (fp:List Addr) (s₀:Shared) (H₀:Hp):Cx:=
 { X with N:=N,s₀:=s₀,H₀:=H₀,env:=compEnvC sc (fw (C+1) sc.names (gF X.env.cells sc.names [])) C X.env,outer:=X.stack,ex:=fp,fn:=fun x=>(match sc.names.lookup x with | some .cell=>true | _=>false),pn:=[],xe:=fun _ _=>False }
def HG:St->Nat->Option V
 | [],_=>none
 | x :: _,0=>x
 | _ :: r,n+1=>HG r n
theorem Bo:∀ {σ:St} {i:Nat} {v:V},HG σ i=some v->σ[i]?=some (some v)
 | [],_,_,h=>by cases h
 | x :: _,0,v,h=>by
  have h':x=some v:=h;simp [h']
 | _ :: r,n+1,v,h=>by
  rw [d7];exact Bo (σ:=r) (i:=n) h
def iV (js:List (Option Nat)) (σ:St):St:=js.map fun o=>match o with
 | none=>none
 | some j=>HG σ j
theorem L0 {js:List (Option Nat)} {σ:St} {i:Nat} {v:V} (h:(iV js σ)[i]?=some (some v)):∃ j,js[i]?=some (some j)/\σ[j]?=some (some v):=by
 unfold iV at h;rw [br] at h;cases e:js[i]? with
 | none=>rw [e] at h; cases h
 | some o=>
  rw [e] at h;cases o with
  | none=>cases h
  | some j=>exact ⟨j,rfl,Bo (b8 h)⟩
def PTs (X:Cx) (ifs:List Expr) (t:TT):Prop:=
 ∀ (pins:List (Addr×Obj)) (s:Shared) (σ:St) (H:Hp) (Q:Bool->Hp->Prop),Inv X pins σ H s->t σ H Q->wpAny (model X.prog X.w) X.A (EI ifs X.env) (TP X pins σ Q) X.xe s
def Qp:TT:=fun _ H Q=>Q true H
theorem L1 {X:Cx}:PTs X [] Qp:=fun _ _ _ H _ I h=>wpAny_tests_nil ⟨H,I,h⟩
theorem L3 {X:Cx} {c:Expr} {t:TT} (h:PT X c t):PTs X [c] t:=fun pins s σ H Q I q=>wpAny_tests_one (h pins s σ H Q I q)
def N3 (js:List (Option Nat)) (g:TG) (tt:TT) (te:TE) (σ:St) (acc:Addr) (x:V) (H:Hp) (N:Hp->Prop):Prop:=g x (iV js σ) H fun σ2 H4=>tt σ2 H4 fun b H5=>
   if b=true then te σ2 H5 fun v H6=>∃ ys,H6 acc=some (.lst ys)/\ys.length < aw/\N (upd H6 acc (.lst (ys++[v]))) else N H5
def HH (js:List (Option Nat)) (wi:TI) (g:TG) (tt:TT) (te:TE):TE:=fun σ H Q=>wi σ H fun J H1=>∀ acc,H1 acc=none->
 ∃ W:Nat->Nat->Hp->Prop,(∃ m,W 0 m (upd H1 acc (.lst [])))/\∀ i m H2,W i m H2->
  (J.stop i H2/\Q (.ref acc) H2)\/(J.go i H2/\∃ N:Hp->Prop,(∀ H',N H'->∃ m',m' < m/\W (i+1) m' H')/\∀ x H3,J.yld i H2 x H3->N3 js g tt te σ acc x H3 N)
section
variable {X:Cx} {elt iter tg:Expr} {ifs:List Expr} {sc:Scope} {pos:Pos} {os:Scope} {oN N:List Str} {js:List (Option Nat)} {wi:TI} {g:TG} {tt:TT} {te:TE}
structure Off (X:Cx) (pins:List (Addr×Obj)) (H:Hp) (C:Addr) (s:Shared):Prop where
 ns:∃ m,s.heap.Ns C m
 none:H C=none
 loc:C≠X.env.locals
 new:X.s₀.heap.objs.size<=C
 cells:∀ x c,X.env.cells.lookup x=some c->c≠C
 pins:∀ p∈X.pn++pins,p.1≠C
theorem Off.go {pins:List (Addr×Obj)} {σ:St} {H:Hp} {C:Addr} {s:Shared} {h':Heap} (o:Off X pins H C s) (I:Inv X pins σ H s) (hs:ja C s.heap h'):Inv X pins σ H { s with heap:=h' }:=
 I.turned (t':=s.toks) (fun b ob hb e=>(hs.2 b hb).trans e) o.none o.loc (.inr o.new) o.cells o.pins
theorem FQ {use:Option (Value->Sem Unit)} {Q0:Value->Shared->Prop} (hc:X.calm=true) (hes:X.env.scope=os) (heN:X.N=oN) (ok:uF os oN sc N js=true) (hi:PI X tg iter wi)
  (hg:∀ C fp s₀ H₀,PG (X.comp sc N C fp s₀ H₀) tg g) (ht:∀ C fp s₀ H₀,PTs (X.comp sc N C fp s₀ H₀) ifs tt) (he:∀ C fp s₀ H₀,PE (X.comp sc N C fp s₀ H₀) elt te)
  {pins:List (Addr×Obj)} {s:Shared} {σ:St} {H:Hp} {Q:VK} (I:Inv X pins σ H s) (h:HH js wi g tt te σ H Q)
  (hfin:∀ acc C s6 H6,Inv X pins σ H6 s6->Off X pins H6 C s6->Q (.ref acc) H6->compPost (model X.prog X.w) X.A X.xe use Q0 (.ref acc) C (.ok .next) s6)
  (hs:∀ x,n9 iter X.env x=pure x:=by intro _; rfl):
  wpAny (model X.prog X.w) X.A (comprehension (.ListComp elt [⟨tg,iter,ifs,0⟩] sc pos) sc X.env (firstIterPos [⟨tg,iter,ifs,0⟩] pos) (newList []) false (eval iter X.env) use) Q0 X.xe s:=by
 have S:=FP ok;subst hes heN;have hcl:∀ y∈sc.names,y.2=fh->∃ c,X.env.cells.lookup y.1=some c:=fun y hy e=>I.ok.has y.1 (S.fr y hy e);have clsub:∀ x c,(gF X.env.cells sc.names []).lookup x=some c->X.env.cells.lookup x=some c:=fun x c e=>by
  rcases rR _ _ e with z | ⟨y,hy,e1,e2,e3⟩
  ·cases z
  ·obtain ⟨d,hd⟩:=hcl y hy e2;rw [e1] at hd;rw [hd] at e3;rw [hd,e3]; rfl
 refine wpAny_comprehension_free (use:=use) rfl hs (xC hcl) S.kind S.nm (thn (hi pins s σ H _ I h) fun v s1 h1=>thn h1 fun itv s2 h2=>?_);obtain ⟨it,fp,tn,J,H2,e,I2,T,st2,f2,q⟩:=h2;subst e;obtain ⟨W,⟨m0,w0⟩,turn⟩:=q s2.heap.objs.size I2.fresh;refine dm (qH ?_);have I3:Inv X pins σ (upd H2 s2.heap.objs.size (.lst [])) { s2 with heap:=s2.heap.push { cls:=.type "list",data:=.seq ([]:List Value).toArray },toks:=s2.toks }:=I2.lnew (its:=[]) (ys:=[]) .nil (d4 _);generalize hH3:upd H2 s2.heap.objs.size (HO.lst [])=H3 at w0 I3;generalize hs3:({ s2 with heap:=s2.heap.push { cls:=.type "list",data:=.seq ([]:List Value).toArray },toks:=s2.toks }:Shared)=s3 at I3;have es3:({ s2 with heap:=s2.heap.push { cls:=.type "list",dict:=none,data:=.seq ([]:List Value).toArray } }:Shared)=s3:=hs3;have eh3:s2.heap.push { cls:=.type "list",dict:=none,data:=.seq ([]:List Value).toArray }=s3.heap:=by rw [<- es3]
 (try rw [eh3])
 have hC:∀ b o,s3.heap.get? b=some o->b≠s3.heap.objs.size:=fun b o e=>ba (ak e);have old:∀ b o,s3.heap.get? b=some o->(pushCells (s3.heap.push { cls:=.type "dict",data:=.dict #[] }) sc.names).get? b=some o:=fun b o e=>pushCells_keeps _ _ b o (ae _ e);have hns₁:(pushCells (s3.heap.push { cls:=.type "dict",data:=.dict #[] }) sc.names).Ns s3.heap.objs.size (fun _=>none):=(Heap.Ns.new s3.heap (.type "dict")).keeps (pushCells_keeps _ _);have cok:=cellsFrom_ok sc.names (s3.heap.push { cls:=.type "dict",data:=.dict #[] }) (s3.heap.objs.size+1) [] ⟨fun _ _ hm=>(nomatch hm),j5⟩ (by rw [gj]; exact az _);rw [gj] at cok;generalize pushCells (s3.heap.push { cls:=.type "dict",data:=.dict #[] }) sc.names=h₁ at old hns₁ cok ⊢;have cl1:∀ {x c},(fw (s3.heap.objs.size+1) sc.names (gF X.env.cells sc.names [])).lookup x=some c->((x,c)∈fw (s3.heap.objs.size+1) sc.names []/\h₁.IsCell c none/\s3.heap.objs.size+1<=c)\/(X.env.cells.lookup x=some c/\c < s3.heap.objs.size):=fun {x c} e=>by
  rw [bD,oC] at e;cases eo:(fw (s3.heap.objs.size+1) sc.names []).lookup x with
  | some d=>
   rw [eo] at e;cases e
   have:=mem_of_lookup eo;exact .inl ⟨this,cok.empty x c this⟩
  | none=>
   rw [eo] at e;have e:=clsub x c e;obtain ⟨v,z⟩:=I3.cell x c e;exact .inr ⟨e,z.lt⟩
 have cl2:∀ {x c},sc.names.lookup x=some .free->(gF X.env.cells sc.names []).lookup x=some c->(fw (s3.heap.objs.size+1) sc.names (gF X.env.cells sc.names [])).lookup x=some c:=fun {x c} hf e=>by
  rw [bD,oC];cases eo:(fw (s3.heap.objs.size+1) sc.names []).lookup x with
  | some d=>
   have:=S.own _ (iU (mem_of_lookup eo)) rfl;rw [hf] at this;cases this
  | none=>exact e
 have st3:tn 0 s3.heap:=T.keep 0 _ _ st2 fun b hb o e=>by
  rw [<- eh3]; exact ae _ e
 have fobj:∀ b∈fp,∃ o,s3.heap.get? b=some o/\∀ v,o.data≠.cell v:=T.obj 0 _ st3;have f3:∀ b∈fp,B1 X pins H3 b:=fun b hb=>by
  obtain ⟨o,ho,_⟩:=T.obj 0 _ st2 b hb;refine ⟨?_,(f2 b hb).2⟩;rw [<- hH3,aH (ba (ak ho))];exact (f2 b hb).1
 -- the block's context
 have Xok:(X.comp sc N s3.heap.objs.size fp s3 H3).Ok:=by
  refine ⟨I.ok.mod,S.kind,I.ok.glob,I.ok.blt,az _,fun x y c e1 e2=>?_,fun x hx=>?_,fun x c z e=>?_,I.ok.hd,I.ok.frames,.inl rfl,fun b hb=>?_,I3.bs,
   gg I.ok.bsz I3.sz,fun b o e hb=>?_,fun b hb hf=>?_,I3.stack,I3.stkFree⟩
  ·rcases cl1 e1 with ⟨m1,_,g1⟩ | ⟨z1,g1⟩ <;> rcases cl1 e2 with ⟨m2,_,g2⟩ | ⟨z2,g2⟩
   ·exact name_of_addr cok.apart m1 m2
   ·exact absurd (bz g2 (Nat.le_of_succ_le g1)) (fu _)
   ·exact absurd (bz g1 (Nat.le_of_succ_le g2)) (fu _)
   ·exact I.ok.inj x y c z1 z2
  ·have fr:sc.names.lookup x=some .free->∃ c,(fw (s3.heap.objs.size+1) sc.names (gF X.env.cells sc.names [])).lookup x=some c:=fun hf=>
    let ⟨c,hc⟩:=uE (cells:=X.env.cells) (x:=x) sc.names [] (.inr ⟨_,cU hf,rfl,rfl⟩)
    ⟨c,cl2 hf hc⟩
   have fin:∀ {k},(relabel sc X.env).names.lookup x=some k->(k=.cell\/k=.free)->∃ c,(fw (s3.heap.objs.size+1) sc.names (gF X.env.cells sc.names [])).lookup x=some c:=fun {k} e hk=>by
    rcases jW (sc:=sc) e with z | ⟨_,z⟩
    ·rcases hk with rfl | rfl
     ·obtain ⟨c,hc⟩:=fH (n:=s3.heap.objs.size+1) (cU z);exact ⟨c,by rw [bD,oC,hc]; rfl⟩
     ·exact fr z
    ·exact fr z
   rcases hx with hx | hx
   ·exact fin hx (.inl rfl)
   ·exact fin hx (.inr rfl)
  ·have z:sc.names.lookup x=some .cell:=by
    have z:(match sc.names.lookup x with | some .cell=>true | _=>false)=true:=z
    split at z
    ·assumption
    ·cases z
   have e:(fw (s3.heap.objs.size+1) sc.names (gF X.env.cells sc.names [])).lookup x=some c:=e;obtain ⟨d,hd⟩:=fH (n:=s3.heap.objs.size+1) (cU z);rw [bD,oC,hd] at e;cases e
   exact Nat.le_of_succ_le (cok.empty x c (mem_of_lookup hd)).2
  ·obtain ⟨o,ho,_⟩:=fobj b hb;refine ⟨hC b o ho,fun x c e=>?_⟩;rcases cl1 e with ⟨_,_,g1⟩ | ⟨z1,_⟩
   ·exact ft (bz (ak ho) (Nat.le_of_succ_le g1))
   ·exact (f3 b hb).2.2.2.2.1 x c z1
  ·rcases (f3 b hb).2.2.2.1 with z | z
   ·exact I.ok.noex b o e z
   ·exact absurd (bz (ak e) (gg I.ok.bsz z)) (fu _)
  ·rcases bw.mp (I3.stkSub b hf) with z | z
   ·exact (f3 b hb).2.1 z
   ·exact (f3 b hb).2.2.1 z
 -- what the block takes from around it
 have capt:∀ (i:Nat) (x:Str) (v:V),N[i]?=some x->(iV js σ)[i]?=some (some v)->∃ u c o,RelV v u/\((compEnvC sc (fw (s3.heap.objs.size+1) sc.names (gF X.env.cells sc.names [])) s3.heap.objs.size X.env).kindOf x=some .cell\/(compEnvC sc (fw (s3.heap.objs.size+1) sc.names (gF X.env.cells sc.names [])) s3.heap.objs.size X.env).kindOf x=some .free)/\
   (fw (s3.heap.objs.size+1) sc.names (gF X.env.cells sc.names [])).lookup x=some c/\s3.heap.get? c=some o/\o.data=.cell (some u)/\H3 c=none/\c∉fp:=by
  intro i x v hN hv;obtain ⟨j,hj,hσ⟩:=L0 hv;obtain ⟨x',hx',ho,hf⟩:=S.cap i j hj;rw [hN] at hx'; cases hx';obtain ⟨m,hn,hl⟩:=I3.loc;have hvis:Vis X.env.scope x:=by
   rcases S.fr _ (cU hf) rfl with z | z
   ·exact .inr (.inl z)
   ·exact .inr (.inr z)
  obtain ⟨u,r,l⟩:=hl j x v ho hσ hvis;obtain ⟨c,hcl'⟩:=uE (cells:=X.env.cells) (x:=x) sc.names [] (.inr ⟨_,cU hf,rfl,rfl⟩);have hcx:=clsub x c hcl';have hcell:s3.heap.IsCell c (some u):=by
   rcases l with ⟨k,_⟩ | ⟨_,c',e,z⟩
   ·exfalso;rcases S.fr _ (cU hf) rfl with z | z
    ·have k':X.env.scope.names.lookup x=some .local:=k;rw [z] at k'; cases k'
    ·have k':X.env.scope.names.lookup x=some .local:=k;rw [z] at k'; cases k'
   ·rw [hcx] at e; cases e; exact z
  obtain ⟨o,ho',hd⟩:=hcell;refine ⟨u,c,o,r,?_,cl2 hf hcl',ho',hd,I3.freeC x c hcx,fun hb=>(f3 c hb).2.2.2.2.1 x c hcx rfl⟩;exact (oB (env:=X.env) hf).symm
 -- at any state of the block,its names as at its start
 have recap:∀ {pins':List (Addr×Obj)} {σ8:St} {H8:Hp} {s8:Shared},Inv (X.comp sc N s3.heap.objs.size fp s3 H3) pins' σ8 H8 s8->Inv (X.comp sc N s3.heap.objs.size fp s3 H3) [] (iV js σ) H8 s8:=fun {pins' σ8 H8 s8} I8=>by
  refine ⟨I8.ok,I8.os,I8.bare,I8.base,?_,I8.cell,I8.free,I8.freeC,fun p hp=>by simp [Cx.comp] at hp,I8.hok,?_⟩
  ·obtain ⟨m,hn,_⟩:=I8.loc;refine ⟨m,hn,fun i x v hN hv _=>?_⟩;obtain ⟨u,c,o,r,k,hl,ho,hd,hn3,hnf⟩:=capt i x v hN hv;refine ⟨u,r,.inr ⟨k,c,hl,?_⟩⟩;obtain ⟨sl,e⟩:=I8.base.any ho hn3 hnf;exact ⟨_,e,hd⟩
  ·show (iV js σ).length=N.length
   unfold iV;rw [ar,S.len]
 have I4:Inv (X.comp sc N s3.heap.objs.size fp s3 H3) [] (iV js σ) H3 { s3 with heap:=h₁ }:=by
  refine ⟨Xok,rfl,I3.bare,Un.kept old,⟨_,hns₁,fun i x v hN hv _=>?_⟩,fun x c e=>?_,I3.fresh,fun x c e=>?_,fun p hp=>by simp [Cx.comp] at hp,I3.hok.kept old,?_⟩
  ·obtain ⟨u,c,o,r,k,hl,ho,hd,_,_⟩:=capt i x v hN hv;exact ⟨u,r,.inr ⟨k,c,hl,o,old c o ho,hd⟩⟩
  ·rcases cl1 e with ⟨_,g1,_⟩ | ⟨z1,_⟩
   ·exact ⟨_,g1⟩
   ·obtain ⟨v,o,ho,hd⟩:=I3.cell x c z1;exact ⟨v,o,old c o ho,hd⟩
  ·rcases cl1 e with ⟨_,_,g1⟩ | ⟨z1,_⟩
   ·exact I3.hok.fresh (by omega)
   ·exact I3.freeC x c z1
  ·show (iV js σ).length=N.length
   unfold iV;rw [ar,S.len]
 have st4:tn 0 h₁:=T.keep 0 _ _ st3 fun b hb o e=>old b o e;have fpok:∀ {H':Hp},(∀ b∈fp,H' b=none)->∀ b∈fp,B1 (X.comp sc N s3.heap.objs.size fp s3 H3) [] H' b:=fun {H'} hn b hb=>
  ⟨hn b hb,(Xok.exf b hb).1,Xok.exfs b hb,.inl hb,(Xok.exf b hb).2,fun p hp=>by simp [Cx.comp] at hp⟩
 have fin:∀ (s6:Shared) (H6:Hp),Inv (X.comp sc N s3.heap.objs.size fp s3 H3) [] (iV js σ) H6 s6->Q (.ref s2.heap.objs.size) H6->compPost (model X.prog X.w) X.A X.xe use Q0 (.ref s2.heap.objs.size) s3.heap.objs.size (.ok .next) s6:=fun s6 H6 I6 q6=>by
  have I7:Inv X pins σ H6 s6:=I3.call' (ch:=fp) I6.os I6.base I6.hok I6.bare fun b hb=>⟨(f3 b hb).2.2.2.1,(f3 b hb).2.1,(f3 b hb).2.2.2.2.1,(f3 b hb).2.2.2.2.2⟩;refine hfin _ _ _ _ I7 ⟨let ⟨m,hn,_⟩:=I6.loc; ⟨m,hn⟩,I6.free,ft I3.lt,I3.sz,fun x c e=>?_,fun p hp=>?_⟩ q6
  ·obtain ⟨v,z⟩:=I3.cell x c e;exact ba z.lt
  ·exact ba (ak (I3.pin p hp).1)
 have loop:codeAny (model X.prog X.w) X.A (.compLoop (.ListComp elt [⟨tg,iter,ifs,0⟩] sc pos) 0 (.ref it) (.ref s2.heap.objs.size) (compEnvC sc (fw (s3.heap.objs.size+1) sc.names (gF X.env.cells sc.names [])) s3.heap.objs.size X.env))
   (compPost (model X.prog X.w) X.A X.xe use Q0 (.ref s2.heap.objs.size) s3.heap.objs.size) { s3 with heap:=h₁ }:=by
  refine A0 (fun n s'=>∃ i H',Inv (X.comp sc N s3.heap.objs.size fp s3 H3) [] (iV js σ) H' s'/\tn i s'.heap/\(∀ b∈fp,H' b=none)/\W i n H') ?_ m0 ⟨0,H3,I4,st4,fun b hb=>(f3 b hb).1,w0⟩;rintro n s5 ⟨i,H5,I5,st5,fr5,w5⟩;rcases turn i n H5 w5 with ⟨stop,qn⟩ | ⟨go,Nn,hN,step⟩
  ·refine thn (T.done (X.comp sc N s3.heap.objs.size fp s3 H3) rfl rfl rfl hc i [] s5 (iV js σ) H5 (fun _ _=>False) I5 (fpok fr5) st5 stop) fun r s6 ⟨hr,I6⟩=>?_;subst hr;exact fin s6 H5 I6 qn
  ·refine thn (T.item (X.comp sc N s3.heap.objs.size fp s3 H3) rfl rfl rfl hc i [] s5 (iV js σ) H5 (fun _ _=>False) I5 (fpok fr5) st5 go) fun r s6 ⟨u,hr,h6⟩=>?_;subst hr;refine thn h6 fun _ s7 hz=>?_;obtain ⟨x,H7,I7,r7,y7,st7,fr7⟩:=hz;have I7':=I7.pinned (fpok fr7) (T.obj _ _ st7);refine thn (hg _ _ _ _ _ s7 _ H7 x u _ I7' r7 (step x H7 y7)) fun _ s8 ⟨σ8,H8,I8,q8⟩=>?_;refine thn (ht _ _ _ _ _ s8 σ8 H8 _ I8 q8) fun b s9 ⟨H9,I9,q9⟩=>?_;have again:∀ {σ':St} {H':Hp} {s':Shared},Inv (X.comp sc N s3.heap.objs.size fp s3 H3) ([]++tR fp s7.heap) σ' H' s'->Nn H'->∃ m,m < n/\∃ i H',Inv (X.comp sc N s3.heap.objs.size fp s3 H3) [] (iV js σ) H' s'/\tn i s'.heap/\(∀ b∈fp,H' b=none)/\W i m H':=fun {σ' H' s'} I' n'=>by
    obtain ⟨m',hm,w'⟩:=hN H' n';refine ⟨m',hm,i+1,H',recap I',T.keep _ _ _ st7 fun b hb o e=>(I'.pin (b,o) (ah _ (ah _ (iQ hb e)))).1,fun b hb=>?_,w'⟩;obtain ⟨o,e,d⟩:=T.obj _ _ st7 b hb;exact (I'.pin (b,o) (ah _ (ah _ (iQ hb e)))).2.1
   cases b with
   | false=>exact again I9 q9
   | true=>
    refine thn (he _ _ _ _ _ s9 σ8 H9 _ I9 q9) fun u' s10 ⟨v,H10,I10,rv,ys,hacc,hz,n10⟩=>?_;refine thn (yD (X:=X.comp sc N s3.heap.objs.size fp s3 H3) _ s10 σ8 H10 (.ref s2.heap.objs.size) [v] (.ref s2.heap.objs.size) [u'] (fun _ H'=>Nn H') I10 rfl (.cons rv .nil) ⟨_,ys,v,rfl,rfl,hacc,hz,n10⟩) fun _ s11 ⟨_,H11,I11,_,n11⟩=>?_;exact again I11 n11
 exact codeAny_compStart_list loop (T.self X.A 0 _ _ _ st4 loop)
theorem L4 (hc:X.calm=true) (hes:X.env.scope=os) (heN:X.N=oN) (ok:uF os oN sc N js=true) (hi:PI X tg iter wi)
  (hg:∀ C fp s₀ H₀,PG (X.comp sc N C fp s₀ H₀) tg g) (ht:∀ C fp s₀ H₀,PTs (X.comp sc N C fp s₀ H₀) ifs tt) (he:∀ C fp s₀ H₀,PE (X.comp sc N C fp s₀ H₀) elt te)
  (hs:∀ x,n9 iter X.env x=pure x:=by intro _; rfl):PE X (.ListComp elt [⟨tg,iter,ifs,0⟩] sc pos) (HH js wi g tt te):=by
 intro pins s σ H Q I h;rw [eval_ListComp];refine FQ (use:=none) hc hes heN ok hi hg ht he I h (fun acc C s6 H6 I6 o q=>?_) hs;exact ⟨o.ns.choose,o.ns.choose_spec,fun h' hs'=>⟨.ref acc,H6,o.go I6 hs',rfl,q⟩⟩
end
section
variable {X:Cx}
def Qq:V->Option Int->Option Int->Hp->VK->Prop:=fun x lo hi H Q=>∃ z,x=.str z/\z.length<=aw/\Q (.str (Txt.slice z lo hi)) H
theorem part_of {v:Value} {o:Option Int} (h:IsPart v o):∃ p:Option (Int×Tok),v=partValue p/\p.map (·.1)=o:=by
 cases h with
 | none=>exact ⟨none,rfl,rfl⟩
 | int i t=>exact ⟨some (i,t),rfl,rfl⟩
theorem O3:SlR X Qq:=by
 intro pins s σ H x v vl vu lo hi sl Q I rx hs pl pu h;obtain ⟨z,rfl,hz,q⟩:=h;obtain ⟨t,rfl⟩:=rx;obtain ⟨l,rfl,rfl⟩:=part_of pl;obtain ⟨u,rfl,rfl⟩:=part_of pu;obtain ⟨o,ho,hc,hd⟩:=hs;refine ⟨"str",_,PySem.F.slot_str_getitem.lookup,typeIs_str s z t,?_⟩;refine wpAny_getItem_str_slice (l:=l) (u:=u) (st:=none) ⟨o,ho,hc,hd⟩ rfl ?_;have e:sliceMade z t l u none=if ((1:Int) == 1 && (nh (l.map (·.1)) (u.map (·.1)) 1 z.length).length == z.length)=true then Made.val (.str z t) else Made.str ⟨((nh (l.map (·.1)) (u.map (·.1)) 1 z.length).filterMap (z.cps[·]?)).toArray⟩:=rfl;have hle:=Txt.slice_le z (l.map (·.1)) (u.map (·.1));unfold Txt.slice at q hle;rw [e]
 by_cases hc':((1:Int) == 1 && (nh (l.map (·.1)) (u.map (·.1)) 1 z.length).length == z.length)=true
 ·rw [if_pos hc'] at q ⊢;exact ⟨.str z,H,I,⟨t,rfl⟩,q⟩
 ·rw [if_neg hc'] at q hle ⊢;exact ⟨gg hle hz,.str _,H,I.tok _,⟨_,rfl⟩,q⟩
theorem gT {es:List Expr} {k:Nat} {t:TGs} {n:Nat} {pos:Pos} (K:ag) (hK:X.K=K) (hc:X.calm=true) (h:PGs X es t)
  (hn:(kg es X.env).length=n:=by rfl) (hst:(kg es X.env).findIdx? (·.1)=none:=by rfl):PG X (.Tuple es k pos) (Q4 K n t):=by subst hK; exact NA hc h hn hst
end
section
variable {X:Cx} {e a b:Expr} {t t' ta tb:TE} {pos:Pos}
theorem PE.imp (h:PE X e t) (i:∀ σ H Q,t' σ H Q->t σ H Q):PE X e t':=fun pins s σ H Q I q=>h pins s σ H Q I (i σ H Q q)
theorem PT.imp {t t':TT} (h:PT X e t) (i:∀ σ H Q,t' σ H Q->t σ H Q):PT X e t':=fun pins s σ H Q I q=>h pins s σ H Q I (i σ H Q q)
theorem OpR.imp {f:Value->Value->Sem Value} {r r':R2} (h:OpR X f r) (i:∀ x y H Q,r' x y H Q->r x y H Q):OpR X f r':=fun pins s σ H x y v u Q I rx ry q=>h pins s σ H x y v u Q I rx ry (i x y H Q q)
theorem cJ.imp {f:Value} {r r':List V->Hp->VK->Prop} (h:cJ X f r) (i:∀ xs H Q,r' xs H Q->r xs H Q):cJ X f r':=fun pins s σ H xs us Q I rx q=>h pins s σ H xs us Q I rx (i xs H Q q)
def Qr (K:ag):R2:=fun x y H Q=>match x,y with
 | .int i,.int j=>Q (.int (i+j)) H
 | .str i,.str j=>i.length+j.length<=aw/\Q (.str (i++j)) H
 | .ref _,.ref _=>Qj x y H Q\/MZ K x y H Q
 | _,_=>False
theorem L5 (K:ag) (hK:X.K=K):OpR X (gw .Add) (Qr K):=by
 subst hK;refine (NH.or (CY.or (NZ.or KM))).imp fun x y H Q h=>?_;cases x <;> cases y <;> first
  | exact .inl ⟨_,_,rfl,rfl,h⟩
  | exact .inr (.inl ⟨_,_,rfl,rfl,h.1,h.2⟩)
  | exact .inr (.inr h)
  | exact h.elim
def yJ (C:Int->Int->Prop) (f:Int->Int->Int):R2:=fun x y H Q=>match x,y with
 | .int i,.int j=>C i j/\Q (.int (f i j)) H
 | _,_=>False
def HI (f:Int->Int->Int):R2:=fun x y H Q=>match x,y with
 | .int i,.int j=>Q (.int (f i j)) H
 | _,_=>False
theorem tH {f:Value->Value->Sem Value} {C:Int->Int->Prop} {g:Int->Int->Int} (h:OpR X f (rI C fun i j=>.int (g i j))):OpR X f (yJ C g):=
 h.imp fun x y H Q q=>by cases x <;> cases y <;> first | exact ⟨_,_,rfl,rfl,q.1,q.2⟩ | exact q.elim
theorem HJ {f:Value->Value->Sem Value} {g:Int->Int->Int} (h:OpR X f (rI0 fun i j=>.int (g i j))):OpR X f (HI g):=
 h.imp fun x y H Q q=>by cases x <;> cases y <;> first | exact ⟨_,_,rfl,rfl,q⟩ | exact q.elim
theorem L6:OpR X (gw .Sub) (HI fun i j=>i - j):=HJ NI
theorem L7:OpR X (gw .Mult) (yJ B3 fun i j=>i*j):=tH NJ
theorem L8:OpR X (gw .FloorDiv) (yJ Hd fun i j=>i / j):=tH KC
theorem L9:OpR X (gw .Mod) (yJ (fun _ j=>0 < j) fun i j=>i % j):=tH NK
theorem L':OpR X (gw .Pow) (yJ Fw fun i j=>i ^ j.toNat):=tH NL
def HK (f:Int->Int->Bool) (g:List Nat->List Nat->Bool):R2:=fun x y H Q=>match x,y with
 | .int i,.int j=>Q (.bl (f i j)) H
 | .str i,.str j=>Q (.bl (g i.cps.toList j.cps.toList)) H
 | _,_=>False
theorem La {f:Value->Value->Sem Value} {p:Int->Int->Bool} {g:List Nat->List Nat->Bool} (h1:OpR X f (rI0 fun i j=>.bl (p i j)))
  (h2:OpR X f (fun x y H Q=>∃ i j,x=.str i/\y=.str j/\Q (.bl (g i.cps.toList j.cps.toList)) H)):OpR X f (HK p g):=
 (h1.or h2).imp fun x y H Q q=>by cases x <;> cases y <;> first | exact .inl ⟨_,_,rfl,rfl,q⟩ | exact .inr ⟨_,_,rfl,rfl,q⟩ | exact q.elim
theorem O4:OpR X (fm .Gt) (HK (fun i j=>decide (j < i)) fun i j=>decide (j < i)):=La Q9 fun pins s σ H x y v u Q I rx ry h=>by
 obtain ⟨i,j,rfl,rfl,q⟩:=h;obtain ⟨t,rfl⟩:=rx;obtain ⟨t',rfl⟩:=ry;exact PySem.P.gt_str (NN I q rfl)
end
structure TR (t:TE):Prop where
 go:∀ σ H (Q Q':VK),(∀ v H1,Q v H1->Q' v H1)->t σ H Q->t σ H Q'
section
variable {X:Cx} {e a b:Expr} {t t' ta tb:TE} {pos:Pos}
theorem Qs {x:V} {Q:Bool->Prop} (h:match x with | .bl c=>Q c | _=>False):∃ c,x=.bl c/\Q c:=by
 cases x <;> first | exact ⟨_,rfl,h⟩ | exact h.elim
def SU (ta tb:TE):TE:=fun σ H Q=>ta σ H fun x H1=>match x with
 | .bl c=>if c=true then tb σ H1 Q else Q (.bl false) H1
 | _=>False
theorem Lb {rest:List Expr} (ha:PE X a ta) (hb:PE X (.BoolOp .And (b :: rest) pos) tb):PE X (.BoolOp .And (a :: b :: rest) pos) (SU ta tb):=by
 intro pins s σ H Q I h;refine BoolOp_and (thn (ha pins s σ H _ I h) fun v s1 hz=>?_);obtain ⟨x,H1,I1,r1,q1⟩:=hz;obtain ⟨c,rfl,q1⟩:=Qs q1;cases r1
 refine wpAny_truthy_bool ?_;cases c with
 | true=>exact hb pins s1 σ H1 Q I1 q1
 | false=>exact ⟨.bl false,H1,I1,rfl,q1⟩
theorem Lc (hu:X.A.units+1 < cLine):IxR X (fun x y H Q=>∃ p v,x=.ref p/\qB H p y (some v)/\Q v H):=by
 intro value slice pins s σ H x y v u Q I rx ry h hs;obtain ⟨p,w,rfl,g,q⟩:=h;cases rx
 have hT:=B8 I g;unfold subscriptTail;refine aa ?_;rw [getitemInPython_of_ne hT.not_modules];refine aa (wpAny_specialOf hT PySem.F.slot_dict_getitem.lookup ?_);have fin:wpAny (model X.prog X.w) X.A (subscripted slice false (.ref p) u) (fun r s₃=>wpAny (model X.prog X.w) X.A (letTemporaryGo value (.ref p) r >>= fun _=>pure r) (EP X pins σ Q) X.xe s₃) X.xe s:=by
  rw [hs];exact wpAny_operating (FG hu I g ry fun w' s3 I3 rw'=>aa (wpAny_letTemporaryGo (ab ⟨w,H,I3,rw',q⟩)))
 first
  | exact ab (aa fin)
  | exact aa (ab (aa fin))
  | exact aa fin
def Qt (K:ag):R2:=fun x y H Q=>match x with
 | .str z=>(match y with
  | .int i=>z.length<=aw/\∃ c,atI z.cps.toList i=some c/\Q (.str ⟨#[c]⟩) H
  | _=>False)
 | .ref p=>(∃ xs i v,y=.int i/\(SqL K H p xs\/SqT K H p xs)/\atI xs i=some v/\Q v H)\/∃ v,qB H p y (some v)/\Q v H
 | _=>False
theorem IxR.imp {r r':R2} (h:IxR X r) (i:∀ x y H Q,r' x y H Q->r x y H Q):IxR X r':=fun a b pins s σ H x y v u Q I rx ry q hs=>h a b pins s σ H x y v u Q I rx ry (i x y H Q q) hs
theorem ixC (hu:X.A.units+1 < cLine) (K:ag) (hK:X.K=K):IxR X (Qt K):=by
 subst hK;refine (KN.or (NV.or (NW.or (Lc hu)))).imp fun x y H Q h=>?_;cases x with
 | str z=>
  cases y with
  | int i=>obtain ⟨h1,c,h2,h3⟩:=h; exact .inr (.inr (.inl ⟨z,i,c,rfl,rfl,h1,h2,h3⟩))
  | _=>exact h.elim
 | ref p=>
  rcases h with ⟨xs,i,v,rfl,hs | hs,ha,hq⟩ | ⟨v,g,hq⟩
  ·exact .inl ⟨p,xs,i,v,rfl,rfl,hs,ha,hq⟩
  ·exact .inr (.inl ⟨p,xs,i,v,rfl,rfl,hs,ha,hq⟩)
  ·exact .inr (.inr (.inr ⟨p,v,rfl,g,hq⟩))
 | _=>exact h.elim
theorem O5 (hu:X.A.units+1 < cLine) (K:ag) (hK:X.K=K):OpR X (fm .In) (fun x y H Q=>rIn K false x y H Q\/∃ a o,y=.ref a/\qB H a x o/\Q (.bl o.isSome) H):=by
 subst hK;refine FC.or fun pins s σ H x y v u Q I rx ry h=>?_;obtain ⟨a,o,rfl,g,q⟩:=h;cases ry
 exact SS hu I g rx fun s' I'=>⟨.bl o.isSome,H,I',rfl,q⟩
theorem FS (hu:X.A.units+1 < cLine) (K:ag) (hK:X.K=K):OpR X (fm .NotIn) (fun x y H Q=>rIn K true x y H Q\/∃ a o,y=.ref a/\qB H a x o/\Q (.bl (!o.isSome)) H):=by
 subst hK;refine zQ.or fun pins s σ H x y v u Q I rx ry h=>?_;obtain ⟨a,o,rfl,g,q⟩:=h;cases ry
 exact KQ hu I g rx fun s' I'=>⟨.bl (!o.isSome),H,I',rfl,q⟩
def Qu (K:ag):List V->Hp->VK->Prop:=fun xs H Q=>match xs with
 | [.str y]=>y.length<=aw/\Q (.int y.length) H
 | [.ref p]=>(∃ xs,(SqL K H p xs\/SqT K H p xs)/\Q (.int xs.length) H)\/∃ kvs,H p=some (.dK kvs)/\Q (.int kvs.length) H
 | _=>False
theorem FT (K:ag) (hK:X.K=K):cJ X (.builtin "len") (Qu K):=by
 subst hK;intro pins s σ H xs us Q I r h
 match xs,h with
 | [.str y],h=>exact Hh pins s σ H _ us Q I r ⟨_,_,rfl,⟨h.1,rfl⟩,h.2⟩
 | [.ref p],h=>
  rcases h with ⟨ys,hs,q⟩ | ⟨kvs,hs,q⟩
  ·exact zR pins s σ H _ us Q I r ⟨p,ys,rfl,hs,q⟩
  ·exact FI pins s σ H _ us Q I r ⟨p,kvs,rfl,hs,q⟩
theorem Dk (K:ag) (hK:X.K=K):cJ X (.type "list") (fun xs H Q=>∃ p ys,xs=[.ref p]/\(SqL K H p ys\/SqT K H p ys)/\∀ l,H l=none->Q (.ref l) (upd H l (.lst ys))):=by subst hK; exact zS
theorem Bp (K:ag) (hK:X.K=K):cJ X (.type "tuple") (fun xs H Q=>∃ p ys,xs=[.ref p]/\((SqL K H p ys/\∀ l,H l=none->Q (.ref l) (upd H l (.tup ys)))\/(SqT K H p ys/\Q (.ref p) H))):=by subst hK; exact wY
def Qv (ta:TA):TI:=fun σ H R=>ta σ H fun vs H1=>match vs with
 | [.int j]=>(-(2 ^ 62)<=j/\j < 2 ^ 62)/\R (Itr 0 j.toNat) H1
 | _=>False
def Qw (ta:TA):TI:=fun σ H R=>ta σ H fun vs H1=>match vs with
 | [.int i,.int j]=>(-(2 ^ 62)<=i/\i < 2 ^ 62/\-(2 ^ 62)<=j/\j < 2 ^ 62)/\R (Itr i (j - i).toNat) H1
 | _=>False
theorem Ld {vs:List V} {Q:Int->Prop} (h:match vs with | [.int i]=>Q i | _=>False):∃ i,vs=[.int i]/\Q i:=by
 split at h
 · exact ⟨_,rfl,h⟩
 · exact h.elim
theorem pr1 {x:Expr} {ta:TA} {tg:Expr} {p pos:Pos} (hg:Gl X "range") (hm:X.mg "range" = none) (ha:PA X [x] ta) (hs:b0 [x] X.env=[(false,eval x X.env)]:=by rfl):PI X tg (.Call (.Name "range" p) [x] [] pos) (Qv ta):=by
 intro pins s σ H R I h;refine Call_ (mT I hg hm boot_range (j8 (thn (ha pos pins s σ H _ I h) fun us s1 hz=>?_) hs rfl));obtain ⟨vs,H1,I1,r1,q1⟩:=hz;obtain ⟨j,rfl,⟨h1,h2⟩,q⟩:=Ld q1;obtain ⟨u,rfl,t,rfl⟩:=vals1 r1;exact call_range_1 (B2 I1 (by omega) (by omega) h1 h2 (by simpa using q))
theorem HL {vs:List V} {Q:Int->Int->Prop} (h:match vs with | [.int i,.int j]=>Q i j | _=>False):∃ i j,vs=[.int i,.int j]/\Q i j:=by
 split at h
 ·exact ⟨_,_,rfl,h⟩
 ·exact h.elim
theorem pr2 {x y:Expr} {ta:TA} {tg:Expr} {p pos:Pos} (hg:Gl X "range") (hm:X.mg "range" = none) (ha:PA X [x,y] ta) (hs:b0 [x,y] X.env=[(false,eval x X.env),(false,eval y X.env)]:=by rfl) (hs2:b0 [y] X.env=[(false,eval y X.env)]:=by rfl):
  PI X tg (.Call (.Name "range" p) [x,y] [] pos) (Qw ta):=by
 intro pins s σ H R I h;refine Call_ (mT I hg hm boot_range (j8 (thn (ha pos pins s σ H _ I h) fun us s1 hz=>?_) (by rw [hs,hs2]) (by rw [hs2]; rfl)));obtain ⟨vs,H1,I1,r1,q1⟩:=hz;obtain ⟨i,j,e,⟨h1,h2,h3,h4⟩,q⟩:=HL (Q:=fun i j=>(-(2 ^ 62)<=i/\i < 2 ^ 62/\-(2 ^ 62)<=j/\j < 2 ^ 62)/\R (Itr i (j - i).toNat) H1) q1;subst e;obtain ⟨u,w',rfl,⟨t,rfl⟩,⟨t',rfl⟩⟩:=vals2 r1;exact call_range_2 (B2 I1 h1 h2 h3 h4 q)
def Qx (t:TE):TO:=fun σ H Q=>t σ H fun x H1=>match x with
 | .int i=>Q (some i) H1
 | _=>False
theorem HM {x:Expr} {te:TE} (h:PE X x te):PO X (some x) (Qx te):=by
 intro pins s σ H Q I hw;rw [evalPart_some];refine thn (h pins s σ H _ I hw) fun u s1 hz=>?_;obtain ⟨x,H1,I1,r1,q1⟩:=hz;cases x with
 | int i=>
  obtain ⟨t,rfl⟩:=r1;exact ⟨some i,H1,I1,.int i t,q1⟩
 | _=>exact q1.elim
end
structure Def (K:ag) (mg:Str->Option Value) (x:Str) (st:Stmt) (f:Addr) (fd:dq) (ps:List Str):Prop where
 fn:Fun K x x st f fd
 mg:mg x=some (.ref f)
 bd:Binds K fd ps []
section
variable {X:Cx}
theorem Qy {x:Str} {st:Stmt} {f:Addr} {fd:dq} {ps:List Str} {k:Nat} {sp:Sp} {e:Expr} {es:List Expr} {t:TA} {p pos:Pos} (D:Def X.K X.mg x st f fd ps) (G:aU X.prog X.w X.K X.mg X.base CX0 k f fd ps sp) (hr:eM k X.A) (ha:PA X (e :: es) t)
  (hg:Gl X x:=by rfl) (hdb:(x == ("__debug__" : Str))=false:=by decide) (he:b0 (e :: es) X.env=(false,eval e X.env) :: b0 es X.env:=by rfl) (hpl:(backTo pos (b0 es X.env)).any (·.1)=false:=by rfl):
  PE X (.Call (.Name x p) (e :: es) [] pos) (MY sp [] E0 t):=KI G hr hg D.mg D.fn.kp D.bd .nil ED ha hdb he hpl
end
theorem A1 {α:Type} {xs:List α} {i:Nat} {v:α} (h:xs[i]?=some v):atI xs (i:Int)=some v:=by
 have h1:=(af.mp h).1;unfold atI ixN;rw [if_pos (by omega),if_pos (by omega)];simpa using h
theorem tW.upd {H:Hp} {a:Addr} {o:HO} (h:H a=none):tW H (upd H a o):=fun b u e=>by
 rw [aH (cR e h)]; exact e
theorem Def.mk' {K:ag} {mg:Str->Option Value} {h:Heap} {x:Str} {st:Stmt} {f:Addr} {ps:List Str} {oc:Value} {od an:Option Addr} {osl:Array (Option Value)} {kV doc pm cdv ct:Value} (X:K.In h) (G:h.Ns dv mg)
  (a:gi K dv x=some (some (.ref f))) (l:K.lookup f=some ⟨oc,od,.func (da x x (aX st) (aT st) (aF st) .none kV doc pm an cdv ct),osl⟩)
  (c:dh K cdv x=true) (k:cw K (.ref f)=true)
  (b:∀ (kV doc pm:Value) (an:Option Addr) (cdv ct:Value) (us:List Value),us.length=ps.length->bindArgs (da x x (aX st) (aT st) (aF st) .none kV doc pm an cdv ct) ⟨us,[]⟩=pure (ps.zip us)):
  Def K mg x st f (da x x (aX st) (aT st) (aF st) .none kV doc pm an cdv ct) ps:=
 ⟨mW l c k,PySem.W.mg_of X G a,(mW (st:=st) l c k).binds b⟩
end L2
namespace L2
open PySem PySem.Spec PyProof.Rows PySem.SeqAt
inductive D where
 | non | bl (b:Bool) | int (i:Int) | str (x:Str) | tup (xs:List D)
mutual
def D.depth:D->Nat
 | .tup xs=>D.depths xs+1
 | _=>0
def D.depths:List D->Nat
 | []=>0
 | x :: xs=>max (D.depth x) (D.depths xs)
end
theorem D.depths_le:∀ {xs:List D} {i:Nat} {d:D},xs[i]?=some d->d.depth<=D.depths xs
 | [],_,_,h=>by simp at h
 | x :: xs,0,d,h=>by
  have:x=d:=by simpa using h
  subst this
  show x.depth<=max x.depth (D.depths xs)
  omega
 | x :: xs,i+1,d,h=>by
  have:=D.depths_le (xs:=xs) (i:=i) (d:=d) (by simpa using h)
  show d.depth<=max x.depth (D.depths xs)
  omega
mutual
/-- the value x is the datum,in the heap H -/
def Rep (K:ag) (H:Hp):D->V->Prop
 | .non,v=>v=.non
 | .bl b,v=>v=.bl b
 | .int i,v=>v=.int i
 | .str x,v=>v=.str x
 | .tup ds,v=>∃ a vs,v=.ref a/\SqT K H a vs/\fR K H ds vs
def fR (K:ag) (H:Hp):List D->List V->Prop
 | [],[]=>True
 | d :: ds,v :: vs=>Rep K H d v/\fR K H ds vs
 | [],_ :: _=>False
 | _ :: _,[]=>False
end
mutual
/-- == -/
def eqD:D->D->Bool
 | .non,.non=>true
 | .bl a,.bl b=>a == b
 | .bl a,.int b=>(if a then 1 else 0) == b
 | .int a,.bl b=>a == (if b then 1 else 0)
 | .int a,.int b=>a == b
 | .str a,.str b=>a == b
 | .tup xs,.tup ys=>fW xs ys
 | _,_=>false
def fW:List D->List D->Bool
 | [],[]=>true
 | x :: xs,y :: ys=>eqD x y && fW xs ys
 | [],_ :: _=>false
 | _ :: _,[]=>false
end
mutual
/-- < (none: an error) -/
def ltD:D->D->Option Bool
 | .int a,.int b=>some (decide (a < b))
 | .str a,.str b=>some (decide (a.cps.toList < b.cps.toList))
 | .tup xs,.tup ys=>oE xs ys
 | _,_=>none
def oE:List D->List D->Option Bool
 | [],[]=>some false
 | [],_ :: _=>some true
 | _ :: _,[]=>some false
 | x :: xs,y :: ys=>if eqD x y=true then oE xs ys else ltD x y
end
mutual
theorem uG:∀ d:D,eqD d d=true
 | .non=>rfl
 | .bl b=>by simp [eqD]
 | .int i=>by simp [eqD]
 | .str x=>by simp [eqD]
 | .tup xs=>by simp only [eqD]; exact yK xs
theorem yK:∀ ds:List D,fW ds ds=true
 | []=>rfl
 | d :: ds=>by simp only [fW,uG d,yK ds,Bool.and_self]
end
def iW (H H':Hp):Prop:=∀ a xs,Rd H a (.tup xs)->Rd H' a (.tup xs)
theorem iW.refl (H:Hp):iW H H:=fun _ _ h=>h
theorem iW.trans {H H1 H2:Hp} (a:iW H H1) (b:iW H1 H2):iW H H2:=fun c xs h=>b c xs (a c xs h)
theorem iW.same {H H':Hp} (s:tW H H'):iW H H':=fun a xs h=>by
 rcases h with h | ⟨o,h⟩
 ·exact .inl (s _ _ h)
 ·exact .inr ⟨o,s _ _ h⟩
def rT:Option HO->Prop
 | some (.tup _)=>False
 | some (.frz _ _)=>False
 | _=>True
theorem iW.upd {H:Hp} {p:Addr} {o:HO} (h:rT (H p)):iW H (upd H p o):=fun a xs q=>by
 have ne:a≠p:=by
  rintro rfl;rcases q with q | ⟨ob,q⟩
  ·rw [q] at h; exact h
  ·rw [q] at h; exact h
 rcases q with q | ⟨ob,q⟩
 ·exact .inl (by rw [aH ne]; exact q)
 ·exact .inr ⟨ob,by rw [aH ne]; exact q⟩
theorem iW.sq {K:ag} {H H':Hp} {a:Addr} {xs:List V} (t:iW H H') (h:SqT K H a xs):SqT K H' a xs:=by
 rcases h with h | h
 ·exact .inl (t a xs h)
 ·exact .inr h
section
variable {K:ag} {H H':Hp}
mutual
theorem Rep.tp (t:iW H H'):∀ {d:D} {v:V},Rep K H d v->Rep K H' d v
 | .non,_,h=>h
 | .bl _,_,h=>h
 | .int _,_,h=>h
 | .str _,_,h=>h
 | .tup ds,_,⟨a,vs,e,q,r⟩=>⟨a,vs,e,t.sq q,fR.tp t r⟩
theorem fR.tp (t:iW H H'):∀ {ds:List D} {vs:List V},fR K H ds vs->fR K H' ds vs
 | [],[],_=>trivial
 | _ :: _,_ :: _,⟨h,r⟩=>⟨Rep.tp t h,fR.tp t r⟩
 | [],_ :: _,h=>h.elim
 | _ :: _,[],h=>h.elim
end
theorem fR.length:∀ {ds:List D} {vs:List V},fR K H ds vs->ds.length=vs.length
 | [],[],_=>rfl
 | _ :: _,_ :: _,⟨_,r⟩=>by simp [fR.length r]
 | [],_ :: _,h=>h.elim
 | _ :: _,[],h=>h.elim
theorem fR.get:∀ {ds:List D} {vs:List V} {i:Nat} {v:V},fR K H ds vs->vs[i]?=some v->∃ d,ds[i]?=some d/\Rep K H d v
 | [],[],_,_,_,e=>by simp at e
 | d :: _,w :: _,0,v,⟨h,_⟩,e=>by
  have:w=v:=by simpa using e
  subst this;exact ⟨d,rfl,h⟩
 | _ :: ds,_ :: vs,i+1,v,⟨_,r⟩,e=>by
  obtain ⟨d,h1,h2⟩:=fR.get (ds:=ds) (vs:=vs) (i:=i) (v:=v) r (by simpa using e)
  exact ⟨d,by simpa using h1,h2⟩
 | [],_ :: _,_,_,h,_=>h.elim
 | _ :: _,[],_,_,h,_=>h.elim
theorem fR.at:∀ {ds:List D} {vs:List V} {i:Nat} {d:D},fR K H ds vs->ds[i]?=some d->∃ v,vs[i]?=some v/\Rep K H d v
 | [],[],_,_,_,e=>by simp at e
 | d :: _,w :: _,0,d',⟨h,_⟩,e=>by
  have:d=d':=by simpa using e
  subst this;exact ⟨w,rfl,h⟩
 | _ :: ds,_ :: vs,i+1,d,⟨_,r⟩,e=>by
  obtain ⟨v,h1,h2⟩:=fR.at (ds:=ds) (vs:=vs) (i:=i) (d:=d) r (by simpa using e)
  exact ⟨v,by simpa using h1,h2⟩
 | [],_ :: _,_,_,h,_=>h.elim
 | _ :: _,[],_,_,h,_=>h.elim
end
section
variable {X:Cx} {pins:List (Addr×Obj)} {σ:St} {H:Hp} {s:Shared}
theorem iX {A:Around} {s:Shared} {v u:Value} {b:Bool} (h:RcAt A s v u b) (hs:v=u->b=true) (hf:∀ f t,v≠.float f t):EqAt A s v u b:=fun prog w E Q hq=>by
 unfold eqBool;refine gp ?_;refine wpAny_ite_split (fun hab=>?_) (fun _=>?_)
 ·have e:=hs (eq_of_beq hab);subst e;exact aa (m5 (ab hq))
 ·cases v <;> first | exact absurd rfl (hf _ _) | exact aa (h prog w E _ (wpAny_truthy_bool hq)) | (cases u <;> exact aa (h prog w E _ (wpAny_truthy_bool hq)))
theorem yL {K:ag} {H:Hp} {d:D} {x:V} {v:Value} (h:Rep K H d x) (r:RelV x v):∀ f t,v≠.float f t:=fun f t e=>by
 subst e;cases d with
 | non=>cases h; cases r
 | bl b=>cases h; cases r
 | int b=>cases h; obtain ⟨_,z⟩:=r; cases z
 | str b=>cases h; obtain ⟨_,z⟩:=r; cases z
 | tup ds=>obtain ⟨_,_,rfl,_⟩:=h; cases r
theorem tI (I:Inv X pins σ H s):∀ (n:Nat) (d e:D) (v:V),d.depth<=n->Rep X.K H d v->Rep X.K H e v->d=e
 | n,.non,e,v,_,h,h'=>by
  cases h
  cases e <;> first | (obtain ⟨_,_,z,_⟩:=h'; exact absurd z (by intro q; cases q)) | rfl | exact absurd h' (by intro z; cases z)
 | n,.bl b,e,v,_,h,h'=>by
  cases h
  cases e <;> first | (obtain ⟨_,_,z,_⟩:=h'; exact absurd z (by intro q; cases q)) | (cases h'; rfl) | exact absurd h' (by intro z; cases z)
 | n,.int i,e,v,_,h,h'=>by
  cases h
  cases e <;> first | (obtain ⟨_,_,z,_⟩:=h'; exact absurd z (by intro q; cases q)) | (cases h'; rfl) | exact absurd h' (by intro z; cases z)
 | n,.str x,e,v,_,h,h'=>by
  cases h
  cases e <;> first | (obtain ⟨_,_,z,_⟩:=h'; exact absurd z (by intro q; cases q)) | (cases h'; rfl) | exact absurd h' (by intro z; cases z)
 | 0,.tup ds,e,v,hd,h,h'=>absurd hd (by show ¬ D.depths ds+1<=0; omega)
 | n+1,.tup ds,e,v,hd,h,h'=>by
  obtain ⟨a,vs,rfl,q,r⟩:=h;cases e with
  | tup es=>
   obtain ⟨a',vs',ea,q',r'⟩:=h';cases ea
   have:=I.tuple_inj q q';subst this;have hd':D.depths ds+1<=n+1:=hd;have:ds=es:=by
    apply i5;intro i;cases hi:ds[i]? with
    | none=>
     have h1:=r.length;have h2:=r'.length;have:ds.length<=i:=List.getElem?_eq_none_iff.mp hi;exact (List.getElem?_eq_none_iff.mpr (by omega)).symm
    | some d=>
     obtain ⟨v,hv,hr⟩:=r.at hi;obtain ⟨e,he,hr'⟩:=r'.get hv;rw [he,tI I n d e v (by have:=D.depths_le hi; omega) hr hr']
   rw [this]
  | _=>cases h'
theorem oF {xs ys:List D}:((d0 (min xs.length ys.length)).all (fun j=>match xs[j]?,ys[j]? with | some x,some y=>eqD x y | _,_=>false) && xs.length == ys.length)=fW xs ys:=by
 induction xs generalizing ys with
 | nil=>
  cases ys with
  | nil=>rfl
  | cons y ys=>simp [fW]
 | cons x xs ih=>
  cases ys with
  | nil=>simp [fW]
  | cons y ys=>
   have:=ih (ys:=ys);have e:min (x :: xs).length (y :: ys).length=min xs.length ys.length+1:=by simp only [cz]; omega
   rw [e,List.range_succ_eq_map,jx,nj];simp only [List.getElem?_cons_zero,Function.comp_def,d7,cz,fW];rw [<- this];have e2:(xs.length+1 == ys.length+1)=(xs.length == ys.length):=by simp
   rw [e2,Bool.and_assoc]
theorem Qz (I:Inv X pins σ H s):∀ (n:Nat) (d e:D) (A:Around) (x y:V) (v u:Value),d.depth<=n->A.units+n < cLine->Rep X.K H d x->Rep X.K H e y->RelV x v->RelV y u->RcAt A s v u (eqD d e):=by
 intro n
 induction n with
 | zero=>
  intro d e A x y v u hd hu hx hy rx ry;cases d with
  | tup ds=>exact absurd hd (by show ¬ D.depths ds+1<=0; omega)
  | non=>
   cases hx; cases rx;cases e with
   | non=>cases hy; cases ry; exact RcAt.none_none
   | bl b=>cases hy; cases ry; exact RcAt.none_bool b
   | int b=>cases hy; obtain ⟨t,rfl⟩:=ry; exact RcAt.none_int b t
   | str b=>cases hy; obtain ⟨t,rfl⟩:=ry; exact RcAt.none_str b t
   | tup es=>obtain ⟨a,vs,rfl,q,r⟩:=hy; cases ry; obtain ⟨its,_,p,_⟩:=I.tuple q; exact RcAt.none_tuple p (by omega)
  | bl a=>
   cases hx; cases rx;cases e with
   | non=>cases hy; cases ry; exact RcAt.bool_none a
   | bl b=>cases hy; cases ry; exact RcAt.bool_bool a b
   | int b=>cases hy; obtain ⟨t,rfl⟩:=ry; exact RcAt.bool_int a b t
   | str b=>cases hy; obtain ⟨t,rfl⟩:=ry; exact RcAt.bool_str a b t
   | tup es=>obtain ⟨a',vs,rfl,q,r⟩:=hy; cases ry; obtain ⟨its,_,p,_⟩:=I.tuple q; exact RcAt.bool_tuple a p (by omega)
  | int a=>
   cases hx; obtain ⟨t',rfl⟩:=rx;cases e with
   | non=>cases hy; cases ry; exact RcAt.int_none a t'
   | bl b=>cases hy; cases ry; exact RcAt.int_bool a t' b
   | int b=>cases hy; obtain ⟨t,rfl⟩:=ry; exact RcAt.int_int a t' b t
   | str b=>cases hy; obtain ⟨t,rfl⟩:=ry; exact RcAt.int_str a t' b t
   | tup es=>obtain ⟨a',vs,rfl,q,r⟩:=hy; cases ry; obtain ⟨its,_,p,_⟩:=I.tuple q; exact RcAt.int_tuple a t' p (by omega)
  | str a=>
   cases hx; obtain ⟨t',rfl⟩:=rx;cases e with
   | non=>cases hy; cases ry; exact RcAt.str_none a t'
   | bl b=>cases hy; cases ry; exact RcAt.str_bool a t' b
   | int b=>cases hy; obtain ⟨t,rfl⟩:=ry; exact RcAt.str_int a t' b t
   | str b=>cases hy; obtain ⟨t,rfl⟩:=ry; exact RcAt.str_str a t' b t
   | tup es=>obtain ⟨a',vs,rfl,q,r⟩:=hy; cases ry; obtain ⟨its,_,p,_⟩:=I.tuple q; exact RcAt.str_tuple a t' p (by omega)
 | succ n ih=>
  intro d e A x y v u hd hu hx hy rx ry
  by_cases h0:d.depth<=n
  ·exact ih d e A x y v u h0 (by omega) hx hy rx ry
  ·cases d with
   | non=>exact absurd (show D.depth .non<=n from d4 n) h0
   | bl b=>exact absurd (show D.depth (.bl b)<=n from d4 n) h0
   | int b=>exact absurd (show D.depth (.int b)<=n from d4 n) h0
   | str b=>exact absurd (show D.depth (.str b)<=n from d4 n) h0
   | tup ds=>
    have hds:D.depths ds<=n:=by have:D.depths ds+1<=n+1:=hd; omega
    obtain ⟨a,vs,rfl,q,r⟩:=hx;cases rx
    obtain ⟨its,rv,p,_⟩:=I.tuple q;cases e with
    | non=>cases hy; cases ry; exact RcAt.tuple_none p (by omega)
    | bl b=>cases hy; cases ry; exact RcAt.tuple_bool b p (by omega)
    | int b=>cases hy; obtain ⟨t,rfl⟩:=ry; exact RcAt.tuple_int b t p (by omega)
    | str b=>cases hy; obtain ⟨t,rfl⟩:=ry; exact RcAt.tuple_str b t p (by omega)
    | tup es=>
     obtain ⟨a',vs',rfl,q',r'⟩:=hy;cases ry
     obtain ⟨its',rv',p',_⟩:=I.tuple q';have l1:=r.length;have l2:=r'.length;have l3:=rv.length;have l4:=rv'.length;have key:=RcAt.tuples (A:=A) (e:=fun j=>match ds[j]?,es[j]? with | some x,some y=>eqD x y | _,_=>false) p p' (by omega) (fun j h1 h2=>by
      have h1':j < ds.length:=by simp at h1; omega
      have h2':j < es.length:=by simp at h2; omega
      have g1:ds[j]?=some ds[j]:=by simp [h1']
      have g2:es[j]?=some es[j]:=by simp [h2']
      obtain ⟨xv,hxv,hrx⟩:=r.at g1;obtain ⟨yv,hyv,hry⟩:=r'.at g2;obtain ⟨xu,hxu,hru⟩:=rv.get hxv;obtain ⟨yu,hyu,hru'⟩:=rv'.get hyv;have e1:its.toArray[j]=xu:=by
       have:its[j]?=some xu:=hxu;simpa using (af.mp this).2
      have e2:its'.toArray[j]=yu:=by
       have:its'[j]?=some yu:=hyu;simpa using (af.mp this).2
      rw [e1,e2];simp only [g1,g2];have hdj:=D.depths_le g1;refine iX (ih ds[j] es[j] A.in1 xv yv xu yu (by omega) (by show A.units+1+n < cLine; omega) hrx hry hru hru') (fun ev=>by
      subst ev;have exy:xv=yv:=RelV.inj hru hru';subst exy;rw [tI I n ds[j] es[j] xv (by omega) hrx hry];exact uG _) (yL hrx hru))
     have sz:((d0 (min its.toArray.size its'.toArray.size)).all (fun j=>match ds[j]?,es[j]? with | some x,some y=>eqD x y | _,_=>false) && its.toArray.size == its'.toArray.size)=eqD (.tup ds) (.tup es):=by
      have a1:its.toArray.size=ds.length:=by simp; omega
      have a2:its'.toArray.size=es.length:=by simp; omega
      rw [a1,a2];simp only [eqD];exact oF
     rw [<- sz];exact key
theorem O6 (I:Inv X pins σ H s) {n:Nat} {d e:D} {A:Around} {x y:V} {v u:Value} (hd:d.depth<=n) (hu:A.units+n < cLine) (hx:Rep X.K H d x) (hy:Rep X.K H e y) (rx:RelV x v) (ry:RelV y u):EqAt A s v u (eqD d e):=
 iX (Qz I n d e A x y v u hd hu hx hy rx ry) (fun ev=>by
  subst ev;have exy:x=y:=RelV.inj rx ry;subst exy;rw [tI I n d e x hd hx hy];exact uG _) (yL hx rx)
theorem O7 (I:Inv X pins σ H s):∀ (n:Nat) (d e:D) (A:Around) (x y:V) (v u:Value),d.depth<=n->A.units+n < cLine->Rep X.K H d x->Rep X.K H e y->RelV x v->RelV y u->RcNeAt A s v u (!eqD d e):=by
 intro n
 induction n with
 | zero=>
  intro d e A x y v u hd hu hx hy rx ry;cases d with
  | tup ds=>exact absurd hd (by show ¬ D.depths ds+1<=0; omega)
  | non=>
   cases hx; cases rx;cases e with
   | non=>cases hy; cases ry; exact RcNeAt.none_none
   | bl b=>cases hy; cases ry; exact RcNeAt.none_bool b
   | int b=>cases hy; obtain ⟨t,rfl⟩:=ry; exact RcNeAt.none_int b t
   | str b=>cases hy; obtain ⟨t,rfl⟩:=ry; exact RcNeAt.none_str b t
   | tup es=>obtain ⟨a,vs,rfl,q,r⟩:=hy; cases ry; obtain ⟨its,_,p,_⟩:=I.tuple q; exact RcNeAt.none_tuple p (by omega)
  | bl a=>
   cases hx; cases rx;cases e with
   | non=>cases hy; cases ry; exact RcNeAt.bool_none a
   | bl b=>cases hy; cases ry; exact RcNeAt.bool_bool a b
   | int b=>cases hy; obtain ⟨t,rfl⟩:=ry; exact RcNeAt.bool_int a b t
   | str b=>cases hy; obtain ⟨t,rfl⟩:=ry; exact RcNeAt.bool_str a b t
   | tup es=>obtain ⟨a',vs,rfl,q,r⟩:=hy; cases ry; obtain ⟨its,_,p,_⟩:=I.tuple q; exact RcNeAt.bool_tuple a p (by omega)
  | int a=>
   cases hx; obtain ⟨t',rfl⟩:=rx;cases e with
   | non=>cases hy; cases ry; exact RcNeAt.int_none a t'
   | bl b=>cases hy; cases ry; exact RcNeAt.int_bool a t' b
   | int b=>cases hy; obtain ⟨t,rfl⟩:=ry; exact RcNeAt.int_int a t' b t
   | str b=>cases hy; obtain ⟨t,rfl⟩:=ry; exact RcNeAt.int_str a t' b t
   | tup es=>obtain ⟨a',vs,rfl,q,r⟩:=hy; cases ry; obtain ⟨its,_,p,_⟩:=I.tuple q; exact RcNeAt.int_tuple a t' p (by omega)
  | str a=>
   cases hx; obtain ⟨t',rfl⟩:=rx;cases e with
   | non=>cases hy; cases ry; exact RcNeAt.str_none a t'
   | bl b=>cases hy; cases ry; exact RcNeAt.str_bool a t' b
   | int b=>cases hy; obtain ⟨t,rfl⟩:=ry; exact RcNeAt.str_int a t' b t
   | str b=>cases hy; obtain ⟨t,rfl⟩:=ry; exact RcNeAt.str_str a t' b t
   | tup es=>obtain ⟨a',vs,rfl,q,r⟩:=hy; cases ry; obtain ⟨its,_,p,_⟩:=I.tuple q; exact RcNeAt.str_tuple a t' p (by omega)
 | succ n ih=>
  intro d e A x y v u hd hu hx hy rx ry
  by_cases h0:d.depth<=n
  ·exact ih d e A x y v u h0 (by omega) hx hy rx ry
  ·cases d with
   | non=>exact absurd (show D.depth .non<=n from d4 n) h0
   | bl b=>exact absurd (show D.depth (.bl b)<=n from d4 n) h0
   | int b=>exact absurd (show D.depth (.int b)<=n from d4 n) h0
   | str b=>exact absurd (show D.depth (.str b)<=n from d4 n) h0
   | tup ds=>
    have hds:D.depths ds<=n:=by have:D.depths ds+1<=n+1:=hd; omega
    obtain ⟨a,vs,rfl,q,r⟩:=hx;cases rx
    obtain ⟨its,rv,p,_⟩:=I.tuple q;cases e with
    | non=>cases hy; cases ry; exact RcNeAt.tuple_none p (by omega)
    | bl b=>cases hy; cases ry; exact RcNeAt.tuple_bool b p (by omega)
    | int b=>cases hy; obtain ⟨t,rfl⟩:=ry; exact RcNeAt.tuple_int b t p (by omega)
    | str b=>cases hy; obtain ⟨t,rfl⟩:=ry; exact RcNeAt.tuple_str b t p (by omega)
    | tup es=>
     obtain ⟨a',vs',rfl,q',r'⟩:=hy;cases ry
     obtain ⟨its',rv',p',_⟩:=I.tuple q';have l1:=r.length;have l2:=r'.length;have l3:=rv.length;have l4:=rv'.length;have key:=RcNeAt.tuples (A:=A) (e:=fun j=>match ds[j]?,es[j]? with | some x,some y=>eqD x y | _,_=>false) p p' (by omega) (fun j h1 h2=>by
      have h1':j < ds.length:=by simp at h1; omega
      have h2':j < es.length:=by simp at h2; omega
      have g1:ds[j]?=some ds[j]:=by simp [h1']
      have g2:es[j]?=some es[j]:=by simp [h2']
      obtain ⟨xv,hxv,hrx⟩:=r.at g1;obtain ⟨yv,hyv,hry⟩:=r'.at g2;obtain ⟨xu,hxu,hru⟩:=rv.get hxv;obtain ⟨yu,hyu,hru'⟩:=rv'.get hyv;have e1:its.toArray[j]=xu:=by
       have:its[j]?=some xu:=hxu;simpa using (af.mp this).2
      have e2:its'.toArray[j]=yu:=by
       have:its'[j]?=some yu:=hyu;simpa using (af.mp this).2
      rw [e1,e2];simp only [g1,g2];have hdj:=D.depths_le g1;exact O6 I (n:=n) (by omega) (by show A.units+1+n < cLine; omega) hrx hry hru hru')
     have sz:(!((d0 (min its.toArray.size its'.toArray.size)).all (fun j=>match ds[j]?,es[j]? with | some x,some y=>eqD x y | _,_=>false) && its.toArray.size == its'.toArray.size))=(!eqD (.tup ds) (.tup es)):=by
      have a1:its.toArray.size=ds.length:=by simp; omega
      have a2:its'.toArray.size=es.length:=by simp; omega
      rw [a1,a2];simp only [eqD];rw [oF]
     rw [<- sz];exact key
def SV (K:ag):R2:=fun x y H Q=>∃ d e,Rep K H d x/\Rep K H e y/\d.depth<=40/\Q (.bl (eqD d e)) H
def SX (K:ag):R2:=fun x y H Q=>∃ d e,Rep K H d x/\Rep K H e y/\d.depth<=40/\Q (.bl (!eqD d e)) H
theorem O8 (hu:X.A.units+64 < cLine) (K:ag) (hK:X.K=K):OpR X (fm .Eq) (SV K):=by
 subst hK;intro pins s σ H x y v u Q I rx ry h;obtain ⟨d,e,hx,hy,hd,q⟩:=h;exact Qz I 40 d e X.A x y v u hd (by omega) hx hy rx ry X.prog X.w X.xe _ ⟨.bl _,H,I,rfl,q⟩
theorem O9 (hu:X.A.units+64 < cLine) (K:ag) (hK:X.K=K):OpR X (fm .NotEq) (SX K):=by
 subst hK;intro pins s σ H x y v u Q I rx ry h;obtain ⟨d,e,hx,hy,hd,q⟩:=h;exact O7 I 40 d e X.A x y v u hd (by omega) hx hy rx ry X.prog X.w X.xe _ ⟨.bl _,H,I,rfl,q⟩
def FU (K:ag) (H:Hp) (ds:List D) (v:V):Prop:=∃ a vs,v=.ref a/\SqL K H a vs/\fR K H ds vs
theorem yM {xs ys:List D} (h:xs.length=ys.length):(d0 xs.length).all (fun j=>match xs[j]?,ys[j]? with | some x,some y=>eqD x y | _,_=>false)=fW xs ys:=by
 have:=oF (xs:=xs) (ys:=ys);rw [h,Nat.min_self,beq_self_eq_true,Bool.and_true] at this;rw [h];exact this
theorem Bq {xs ys:List D} (h:fW xs ys=true):xs.length=ys.length:=by
 rw [<- oF,dr] at h;exact eq_of_beq h.2
theorem uH {I:Inv X pins σ H s} {A:Around} {ds es:List D} {vs vs':List V} {its its':List Value} (r:fR X.K H ds vs) (r':fR X.K H es vs') (rv:aN vs its) (rv':aN vs' its') (hd:D.depths ds<=40) (hu:A.units+42 < cLine):
  ∀ j (h1:j < its.toArray.size) (h2:j < its'.toArray.size),EqAt A.in1 s its.toArray[j] its'.toArray[j] (match ds[j]?,es[j]? with | some x,some y=>eqD x y | _,_=>false):=fun j h1 h2=>by
 have l1:=r.length;have l2:=r'.length;have l3:=rv.length;have l4:=rv'.length;have h1':j < ds.length:=by simp at h1; omega
 have h2':j < es.length:=by simp at h2; omega
 have g1:ds[j]?=some ds[j]:=by simp [h1']
 have g2:es[j]?=some es[j]:=by simp [h2']
 obtain ⟨xv,hxv,hrx⟩:=r.at g1;obtain ⟨yv,hyv,hry⟩:=r'.at g2;obtain ⟨xu,hxu,hru⟩:=rv.get hxv;obtain ⟨yu,hyu,hru'⟩:=rv'.get hyv;have e1:its.toArray[j]=xu:=by simpa using (af.mp hxu).2
 have e2:its'.toArray[j]=yu:=by simpa using (af.mp hyu).2
 rw [e1,e2];simp only [g1,g2];have hdj:=D.depths_le g1;exact O6 I (n:=40) (by omega) (by show A.units+1+40 < cLine; omega) hrx hry hru hru'
def SY (K:ag):R2:=fun x y H Q=>∃ ds es,FU K H ds x/\FU K H es y/\D.depths ds<=40/\Q (.bl (fW ds es)) H
def SZ (K:ag):R2:=fun x y H Q=>∃ ds es,FU K H ds x/\FU K H es y/\D.depths ds<=40/\Q (.bl (!fW ds es)) H
theorem Oa (hu:X.A.units+64 < cLine) (K:ag) (hK:X.K=K):OpR X (fm .Eq) (SY K):=by
 subst hK;intro pins s σ H x y v u Q I rx ry h;obtain ⟨ds,es,⟨a,vs,rfl,q,r⟩,⟨b,vs',rfl,q',r'⟩,hd,k⟩:=h;cases rx; cases ry;obtain ⟨its,rv,p,_⟩:=I.list q;obtain ⟨its',rv',p',_⟩:=I.list q';have l1:=r.length;have l2:=r'.length;have l3:=rv.length;have l4:=rv'.length
 by_cases hl:ds.length=es.length
 ·refine eq_listAt p.isList p'.isList (by simp; omega) (by omega) (uH (I:=I) r r' rv rv' hd (by omega)) ⟨.bl _,H,I,rfl,?_⟩;have e1:its.toArray.size=ds.length:=by simp; omega
  rw [e1,yM hl];exact k
 ·refine eq_list_lengthsAt p.isList p'.isList (by simp; omega) (by omega) ⟨.bl false,H,I,rfl,?_⟩;have e:fW ds es=false:=by
   cases h:fW ds es with
   | false=>rfl
   | true=>exact absurd (Bq h) hl
  rw [e] at k;exact k
theorem Ob (hu:X.A.units+64 < cLine) (K:ag) (hK:X.K=K):OpR X (fm .NotEq) (SZ K):=by
 subst hK;intro pins s σ H x y v u Q I rx ry h;obtain ⟨ds,es,⟨a,vs,rfl,q,r⟩,⟨b,vs',rfl,q',r'⟩,hd,k⟩:=h;cases rx; cases ry;obtain ⟨its,rv,p,_⟩:=I.list q;obtain ⟨its',rv',p',_⟩:=I.list q';have l1:=r.length;have l2:=r'.length;have l3:=rv.length;have l4:=rv'.length
 by_cases hl:ds.length=es.length
 ·refine RcNeAt.lists p.isList p'.isList (by simp; omega) (by omega) (uH (I:=I) r r' rv rv' hd (by omega)) X.prog X.w X.xe _ ⟨.bl _,H,I,rfl,?_⟩;have e1:its.toArray.size=ds.length:=by simp; omega
  rw [e1,yM hl];exact k
 ·refine RcNeAt.lists_lengths p.isList p'.isList (by simp; omega) (by omega) X.prog X.w X.xe _ ⟨.bl true,H,I,rfl,?_⟩;have e:fW ds es=false:=by
   cases h:fW ds es with
   | false=>rfl
   | true=>exact absurd (Bq h) hl
  rw [e] at k;exact k
def QA (K:ag) (neg:Bool):R2:=fun x y H Q=>∃ d p ds vs,y=.ref p/\(SqL K H p vs\/SqT K H p vs)/\Rep K H d x/\fR K H ds vs/\D.depths ds<=40/\Q (.bl (if neg then !ds.any (fun e=>eqD e d) else ds.any (fun e=>eqD e d))) H
noncomputable def isD (K:ag) (H:Hp) (d:D) (u:Value):Bool:=@decide (∃ e x,RelV x u/\Rep K H e x/\e.depth<=40/\eqD e d=true) (ip _)
theorem HN (I:Inv X pins σ H s) {d e:D} {x:V} {u:Value} (r:RelV x u) (h:Rep X.K H e x) (hd:e.depth<=40):isD X.K H d u=eqD e d:=by
 unfold isD;cases q:eqD e d with
 | true=>exact @decide_eq_true _ (ip _) ⟨e,x,r,h,hd,q⟩
 | false=>
  refine @decide_eq_false _ (ip _) ?_;rintro ⟨e',x',r',h',hd',q'⟩;have ex:x'=x:=RelV.inj r' r;subst ex;rw [tI I 40 e' e x' hd' h' h] at q';rw [q] at q';cases q'
theorem oG (I:Inv X pins σ H s) {d:D}:∀ {ds:List D} {vs:List V} {us:List Value},fR X.K H ds vs->aN vs us->D.depths ds<=40->us.any (isD X.K H d)=ds.any fun e=>eqD e d
 | [],[],_,_,.nil,_=>rfl
 | e :: ds,_ :: _,_,⟨h,r⟩,.cons rv rvs,hd=>by
  have h1:e.depth<=40/\D.depths ds<=40:=by
   have:max e.depth (D.depths ds)<=40:=hd;omega
  rw [mq,mq,HN I rv h h1.1,oG I r rvs h1.2]
 | [],_ :: _,_,h,_,_=>h.elim
 | _ :: _,[],_,h,_,_=>h.elim
theorem oH (I:Inv X pins σ H s) {A:Around} {d:D} {x:V} {v:Value} (hx:Rep X.K H d x) (rx:RelV x v) (hu:A.units+42 < cLine):∀ {ds:List D} {vs:List V} {us:List Value},fR X.K H ds vs->aN vs us->D.depths ds<=40->∀ u∈us,EqAt A.in1 s u v (isD X.K H d u)
 | [],[],_,_,.nil,_=>fun u hu=>by cases hu
 | e :: ds,_ :: _,_,⟨h,r⟩,.cons rv rvs,hd=>fun u hm=>by
  have h1:e.depth<=40/\D.depths ds<=40:=by
   have:max e.depth (D.depths ds)<=40:=hd;omega
  rcases bw.mp hm with rfl | hm
  ·rw [HN I rv h h1.1];exact O6 I (n:=40) h1.1 (by show A.units+1+40 < cLine; omega) h hx rv rx
  ·exact oH I hx rx hu r rvs h1.2 u hm
 | [],_ :: _,_,h,_,_=>h.elim
 | _ :: _,[],_,h,_,_=>h.elim
theorem Oc (hu:X.A.units+64 < cLine) (K:ag) (hK:X.K=K):OpR X (fm .In) (QA K false):=by
 subst hK;intro pins s σ H x y v u Q I rx ry h;obtain ⟨d,p,ds,vs,rfl,hq,hx,hr,hd,k⟩:=h;cases ry
 rcases hq with hq | hq
 ·obtain ⟨its,r,pl,hz⟩:=I.list hq;refine SeqAt.in_listAt (isD X.K H d) pl.isList (fun w hw=>oH I hx rx (by omega) hr r hd w (by simpa using hw)) ⟨.bl _,H,I,rfl,?_⟩
  rw [show its.toArray.any (isD X.K H d)=its.any (isD X.K H d) by simp,oG I hr r hd];exact k
 ·obtain ⟨its,r,pl,hz⟩:=I.tuple hq;refine SeqAt.in_tupleAt (isD X.K H d) pl (fun w hw=>oH I hx rx (by omega) hr r hd w (by simpa using hw)) ⟨.bl _,H,I,rfl,?_⟩
  rw [show its.toArray.any (isD X.K H d)=its.any (isD X.K H d) by simp,oG I hr r hd];exact k
theorem FV (hu:X.A.units+64 < cLine) (K:ag) (hK:X.K=K):OpR X (fm .NotIn) (QA K true):=by
 subst hK;intro pins s σ H x y v u Q I rx ry h;obtain ⟨d,p,ds,vs,rfl,hq,hx,hr,hd,k⟩:=h;cases ry
 rcases hq with hq | hq
 ·obtain ⟨its,r,pl,hz⟩:=I.list hq;refine SeqAt.notIn_listAt (isD X.K H d) pl.isList (fun w hw=>oH I hx rx (by omega) hr r hd w (by simpa using hw)) ⟨.bl _,H,I,rfl,?_⟩
  rw [show its.toArray.any (isD X.K H d)=its.any (isD X.K H d) by simp,oG I hr r hd];exact k
 ·obtain ⟨its,r,pl,hz⟩:=I.tuple hq;refine SeqAt.notIn_tupleAt (isD X.K H d) pl (fun w hw=>oH I hx rx (by omega) hr r hd w (by simpa using hw)) ⟨.bl _,H,I,rfl,?_⟩
  rw [show its.toArray.any (isD X.K H d)=its.any (isD X.K H d) by simp,oG I hr r hd];exact k
end
end L2
namespace L2
open PySem
def keyLt:Sum Int Str->Sum Int Str->Bool
 | .inl a,.inl b=>decide (a < b)
 | .inr a,.inr b=>decide (a.cps.toList < b.cps.toList)
 | _,_=>false
def QB:List (Sum Int Str)->List (Sum Int Str)->Bool
 | [],[]=>false
 | [],_ :: _=>true
 | _ :: _,[]=>false
 | x :: xs,y :: ys=>if x=y then QB xs ys else keyLt x y
def QC:Sum Int Str->Bool
 | .inl _=>true
 | .inr _=>false
abbrev shape (ks:List (Sum Int Str)):List Bool:=ks.map QC
theorem Le {a b:Str} (h:a.cps.toList=b.cps.toList):a=b:=by
 cases a; cases b
 congr
 exact Array.toList_inj.mp h
end L2
namespace L2
open PySem PySem.W PyProof.Rows
section
variable (lt:Nat->Nat->Bool)
abbrev pa' (p:Array Nat) (i:Nat):Nat:=p.getD i 0
def NIc (p:Array Nat) (k:Nat):Prop:=∀ i j,i<=j->j < k->lt (pa' p i) (pa' p j)=false
end
structure T1 (lt:Nat->Nat->Bool) (p:Array Nat) (n f:Nat) (r:Array Nat×Nat×Nat):Prop where
 perm:r.1.Perm p
 lo:n<=r.2.1
 hi:r.2.1<=n+f
 q:r.2.2+1<=r.2.1
 ni:NIc lt r.1 r.2.1
 eq:∀ i j,r.2.1 - (r.2.2+1)<=i->i < r.2.1->r.2.1 - (r.2.2+1)<=j->j < r.2.1->lt (pa' r.1 i) (pa' r.1 j)=false
section
variable {lt:Nat->Nat->Bool} (tr:∀ i j k,lt j i=false->lt k j=false->lt k i=false) (as:∀ i j,lt i j=true->lt j i=false)
include tr as
end
end L2
namespace L2
open PySem PySem.Spec PyProof.Rows PySem.SeqAt PySem.W
section
variable {n:Nat} (hn:0 < n)
include hn
end
def qI (H:Hp) (ps:List (Addr×List V)):Hp:=fun b=>match ps.lookup b with
 | some xs=>some (.tup xs)
 | none=>H b
theorem jX {κ:Type} {x:Addr} {k:κ}:∀ {l:List (Addr×κ)},l.lookup x=some k->(x,k)∈l
 | [],h=>by simp at h
 | (n,v) :: r,h=>by
  by_cases hx:x=n
  ·subst hx;simp only [b6,beq_self_eq_true] at h;cases h
   exact ax
  ·have:(x == n)=false:=by simpa using hx
   simp only [b6,this] at h;exact ao _ (jX h)
theorem oI {κ:Type} {x:Addr}:∀ {l:List (Addr×κ)},(∀ p∈l,p.1≠x)->l.lookup x=none
 | [],_=>rfl
 | (n,v) :: r,h=>by
  have hx:(x == n)=false:=by
   have:=h (n,v) ax;simpa using fun e:x=n=>this e.symm
  simp only [b6,hx];exact oI fun p hp=>h p (ao _ hp)
theorem oJ {H:Hp} {ps:List (Addr×List V)} {b:Addr} (h:∀ p∈ps,p.1≠b):qI H ps b=H b:=by
 unfold qI; rw [oI h]
theorem uI {H:Hp}:∀ {ps:List (Addr×List V)} {j:Nat} {a:Addr} {xs:List V},(ps.map (·.1)).Nodup->ps[j]?=some (a,xs)->qI H ps a=some (.tup xs)
 | [],_,_,_,_,h=>by simp at h
 | (n,v) :: r,0,a,xs,_,h=>by
  simp at h;obtain ⟨rfl,rfl⟩:=h;unfold qI;simp [b6]
 | (n,v) :: r,j+1,a,xs,nd,h=>by
  have nd':(n :: r.map (·.1)).Nodup:=nd;obtain ⟨n1,n2⟩:=jc.mp nd';have h':r[j]?=some (a,xs):=by simpa using h
  have ne:(a == n)=false:=by
   have:a∈r.map (·.1):=dt.mpr ⟨_,fe h',rfl⟩;simpa using fun e:a=n=>n1 (e ▸ this)
  have ih:=uI (H:=H) n2 h';unfold qI at ih ⊢;simp only [b6,ne];exact ih
section
variable {X:Cx} {pins:List (Addr×Obj)} {σ:St} {H:Hp} {s:Shared} {h':Heap}
theorem Inv.laidT {ps:List (Addr×List V)} {t':Nat} (I:Inv X pins σ H s) (k:∀ b u,s.heap.get? b=some u->h'.get? b=some u) (hp:∀ p∈ps,s.heap.objs.size<=p.1) (new:∀ p∈ps,p.2.length<=aw/\∃ its:List Value,aN p.2 its/\nQ h' p.1 its.toArray):
  Inv X pins σ (qI H ps) { s with heap:=h',toks:=t' }:=by
 have nb:∀ b,b < s.heap.objs.size->∀ p∈ps,p.1≠b:=fun b hb p hp' e=>fu _ (bz hb (e ▸ hp p hp'));have old:∀ b,b < s.heap.objs.size->qI H ps b=H b:=fun b hb=>oJ (nb b hb);refine I.un ⟨fun b u q _ _ _=>k b u q,fun b u q _ _ _=>⟨u.slots,k b u q⟩,fun b u q n _=>(old b (ak q)).trans n,fun b u q _=>⟨u,k b u q⟩,fun b xs q=>(old b (I.hok.lt q)).trans q,fun b u xs q=>(old b (I.hok.lt q)).trans q,fun b ps' q=>⟨#[],by rw [old b (I.hok.lt q),q]; simp⟩⟩ ?_;intro b u e;unfold qI at e;cases q:ps.lookup b with
 | some xs=>
  rw [q] at e;cases e
  obtain ⟨z,its,r,p⟩:=new _ (jX q);exact ⟨z,its,r,p⟩
 | none=>
  rw [q] at e;have hb:=I.hok.lt e;exact (I.hok b u e).stay (fun c v _ q=>k c v q) (fun c q=>(old c (I.hok.lt q)).trans q) fun c xs q=>(old c (I.hok.lt q)).trans q
theorem lH (I:Inv X pins σ H s) {ps:List (Addr×List V)} (hp:∀ p∈ps,s.heap.objs.size<=p.1):tW H (qI H ps):=fun b o e=>by
 have nb:∀ p∈ps,p.1≠b:=fun p hp' z=>fu _ (bz (I.hok.lt e) (z ▸ hp p hp'));rw [oJ nb];exact e
end
section
variable {X:Cx}
theorem FW {α:Type} {xs:List α} {d:α} {p:List Nat} (h:p.Perm (d0 xs.length)):(p.map fun i=>xs.getD i d).Perm xs:=by
 have e:(d0 xs.length).map (fun i=>xs.getD i d)=xs:=by
  apply i5;intro i
  by_cases hi:i < xs.length
  ·simp [hi]
  ·simp [hi]
 have:=h.map fun i=>xs.getD i d
 rwa [e] at this
theorem yN {vs:List V} {us:List Value} (r:aN vs us):∀ {p:List Nat},(∀ i∈p,i < vs.length)->aN (p.map fun i=>vs.getD i .non) (p.map fun i=>us.getD i b7)
 | [],_=>.nil
 | i :: p,h=>by
  have hi:=h i ax;have g:vs[i]?=some (vs.getD i .non):=by simp [hi]
  obtain ⟨u,hu,hr⟩:=r.get g;have e:us.getD i b7=u:=by simp [bg,hu]
  refine .cons ?_ (yN r fun j hj=>h j (ao _ hj))
  show RelV (vs.getD i .non) (us.getD i b7)
  rw [e];exact hr
end
end L2
namespace L2
open PySem PySem.Spec PyProof.Rows
theorem xD:typeLookup (.type "tuple") "keys" = pure none:=by rw [typeLookup_type,builtinLookup_eq_fast]; kernel_rfl
theorem fI:entryFor table "dict.update.loop" = some Builtin.«dict.update.loop»:=entryFor_of_tree (by kernel_rfl)
theorem bQ:plainId "dict.update.loop" = true:=by decide +kernel
theorem xE {prog:Program} {w:World} {A:Around} {E:Value->Shared->Prop} {s:Shared} {a:Addr} {o:Obj} {xs:Array Value} {k:Nat} {Q:Option Value->Shared->Prop}
  (hx:s.heap.get? a=some o) (hc:o.cls=.type "tuple") (hdat:o.data=.seq xs k) (hd:o.dict=none) (hA:A.handled=none)
  (h:∀ h' tk,(∀ b u,s.heap.get? b=some u->h'.get? b=some u)->Q none { s with heap:=h',toks:=tk }):wpAny (model prog w) A (getAttr? (.ref a) "keys") Q E s:=by
 obtain ⟨c,dct,dat,sl⟩:=o;simp only at hc hdat hd;subst hc hdat hd;obtain ⟨hp,g,d,tk,os⟩:=s;have hT:∀ tk',(⟨hp,g,d,tk',os⟩:Shared).TypeIs (.ref a) "tuple" := fun _=>⟨_,hx,rfl⟩;have f1:=sub_AttributeError;have f3:=F.slot_tuple_getattribute.lookup;have f4:=F.slot_tuple_getattribute.bind (.ref a);have f5:=am_tuple_getattr_none;unfold getAttr? getAttrBy? getAttrBy
 repeat (any_goals (first | assumption | exact hT _ | ((with_reducible show wpAny _ _ (call (Value.builtin "tuple.__getattribute__") _ _) _ _ _); refine call_meets F.slot_tuple_getattribute (hT _) am_entry_tuple_getattribute (F.args_tuple_getattribute_2 _ _) (meets_getattribute_miss_tuple a xs k sl "keys" _ xD (by decide) (by size_fits)) ⟨hx,hA,fun h' tk' e hx'=>?_⟩) | wp_step))
 obtain ⟨t',u',he⟩:=hx'.there
 show wpAny _ _ (getattributeRaised _ _ _ _ _ _ _) _ _ _
 unfold getattributeRaised
 repeat (any_goals (first | assumption | wp_step))
 exact h _ _ hx'.of.keeps
section
variable {prog:Program} {w:World} {K:Type} [DecidableEq K] {knd:KeyKind prog w K} {A:Around} {R:Result->Shared->Prop}
theorem Dl {I d:Addr} {fp wr:List Addr} {n:Nat} {P:Nat->Value->Prop} {St:Nat->Heap->Prop} (W:Walks prog w A.in1 I fp wr n P St) (hd:d∉fp) (ps:List (Addr×K×Value×Value)) (hn:ps.length=n)
  (hP:∀ i v,P i v->∃ p,ps[i]?=some p/\v=.ref p.1) (hT:∀ p∈ps,p.1∉wr/\p.1≠d) (hk:∀ p∈ps,knd.is p.2.1 p.2.2.1=true) (res:Value):
  ∀ (m i:Nat) (s:Shared) (kvs:List (K×Value)),n - i=m->i<=n->St i s.heap->s.heap.DictOf knd d kvs->kvs.length+n<=aw+i->(∀ p∈ps,IsTup s.heap p.1 #[p.2.2.1,p.2.2.2])->
  (∀ h' tk,h'.DictOf knd d (merged kvs ((ps.drop i).map fun p=>(p.2.1,p.2.2.2)))->(∀ b o,b≠d->b∉wr->s.heap.get? b=some o->h'.get? b=some o)->R (.ok (.ret res)) { s with heap:=h',toks:=tk })->
  codeAny (model prog w) A (.builtin "dict.update.loop" ⟨[.ref d,.ref I,rawInt i,res],[]⟩) R s:=by
 have hdw:d∉wr:=fun h=>hd (W.sub _ h);intro m
 induction m with
 | zero=>
  intro i s kvs hm hi hst hdt hz hit hR;have hin:i=n:=by omega
  subst hin;refine ka fI ?_;rw [gu bQ _]
  show wpAny _ A.in1 (pyNext (.ref I) >>= _) _ _ s
  refine aa (W.done s _ _ hst fun h' tk hk'=>?_)
  show wpAny _ A.in1 (Builtin.Dict.addKeywords d [] >>= _) _ _ _
  have hfin:=hR h' tk (by
   rw [m7 (by omega)];obtain ⟨o,es,ep,h1,h2⟩:=hdt;exact ⟨o,es,ep,hk' d _ hdw h1,h2⟩) fun b o _ hb e=>hk' b o hb e
  exact aa (ab (ab hfin))
 | succ m ih=>
  intro i s kvs hm hi hst hdt hz hit hR;have hlt:i < n:=by omega
  refine ka fI ?_;rw [gu bQ _]
  show wpAny _ A.in1 (pyNext (.ref I) >>= _) _ _ s
  refine aa (W.item i s _ _ hlt hst fun v h' tk hPv hst' hk'=>?_);obtain ⟨p,hp,rfl⟩:=hP i v hPv;have hpm:=fe hp;obtain ⟨ob,hb1,hb2,nn,hb3⟩:=hit p hpm;have hb1':=hk' _ _ (hT p hpm).1 hb1;have hTy:({ s with heap:=h',toks:=tk }:Shared).TypeIs (.ref p.1) "tuple" := ⟨ob,hb1',hb2⟩;have hdt':h'.DictOf knd d kvs:=by
   obtain ⟨o,es,ep,h1,h2⟩:=hdt;exact ⟨o,es,ep,hk' d _ hdw h1,h2⟩
  refine aa (gp (aa (wpAny_tryCatch ?_)));unfold Builtin.Dict.pairItems;refine aa (nc hTy ?_);rw [if_pos (by decide)];refine aa (i7 hb1' hb3 (ab ?_))
  show wpAny _ _ (holding [p.2.2.1,p.2.2.2] (dictSet d p.2.2.1 p.2.2.2)) _ _ _
  refine gp (wpAny_dictSet_pairs (hk p hpm) hdt' (hsz:=by omega) fun h2 hd2 hs2=>?_);refine ab ⟨mx bQ _,?_⟩;have st2:St (i+1) h2:=W.frame (i+1) h' h2 hst' fun b hb o e=>(hs2.2 b (fun z=>hd (z ▸ hb))).trans e;refine ih (i+1) _ (stored kvs p.2.1 p.2.2.2) (by omega) hlt st2 hd2 ?_ (fun q hq=>?_) fun h3 tk3 hd3 hk3=>?_
  ·have:=stored_length_le kvs p.2.1 p.2.2.2;omega
  ·obtain ⟨ob',c1,c2⟩:=hit q hq;exact ⟨ob',(hs2.2 _ (hT q hq).2).trans (hk' _ _ (hT q hq).1 c1),c2⟩
  ·refine hR h3 tk3 ?_ fun b o hb hw e=>hk3 b o hb hw ((hs2.2 b hb).trans (hk' b o hw e));have hdr:ps.drop i=p :: ps.drop (i+1):=by
    obtain ⟨hl,e⟩:=af.mp hp;rw [di hl,e]
   rw [hdr];exact hd3
theorem sQ {E:Value->Shared->Prop} {s:Shared} {a:Addr} {o:Obj} {k:Nat} {ps:List (Addr×K×Value×Value)} {Q:Value->Shared->Prop} (hA:A.handled=none) (hx:s.heap.get? a=some o) (hc:o.cls=.type "tuple") (hdat:o.data=.seq (ps.map fun p=>bx p.1).toArray k) (hd:o.dict=none)
  (hk:∀ p∈ps,knd.is p.2.1 p.2.2.1=true) (hit:∀ p∈ps,IsTup s.heap p.1 #[p.2.2.1,p.2.2.2]) (hz:ps.length<=aw)
  (h:∀ h' tk,h'.DictOf knd s.heap.objs.size (merged [] (ps.map fun p=>(p.2.1,p.2.2.2)))->(∀ b u,s.heap.get? b=some u->h'.get? b=some u)->Q (.ref s.heap.objs.size) { s with heap:=h',toks:=tk }):
  wpAny (model prog w) A (call (.type "dict") [.ref a]) Q E s:=by
 refine callType_codes (Q₁:=fun obj s₁=>obj=.ref s.heap.objs.size/\s₁={ s with heap:=s.heap.push { cls:=.type "dict",data:=.dict #[] } }) F.kt_called_dict (F.kt_typeCall_dict_1 _) F.entry_dict_init (kt_code_dict_new _ ⟨rfl,rfl⟩) ?_;rintro obj s₁ ⟨rfl,rfl⟩;have hnew:(s.heap.push { cls:=.type "dict",data:=.dict #[] }).DictOf knd s.heap.objs.size []:=Heap.DictOf.new s.heap;have up:∀ b u,s.heap.get? b=some u->(s.heap.push { cls:=.type "dict",data:=.dict #[] }).get? b=some u:=fun b u e=>ae _ e;have hTa:({ s with heap:=s.heap.push { cls:=.type "dict",data:=.dict #[] } }:Shared).TypeIs (.ref a) "tuple" := ⟨o,up _ _ hx,hc⟩;refine ⟨hnew.typeIs,F.args_dict_init_2 _ _,?_⟩;unfold Builtin.«dict.__init__»;refine aa ?_; unfold Builtin.Dict.selfAndRest;refine aa (kn hnew.typeIs (show wpAny _ _ (pure (s.heap.objs.size,[bx a])) _ _ _ from ab ?_))
 show wpAny _ _ (my "dict.__init__" s.heap.objs.size (.ref a) [] .none) _ _ _
 unfold my;refine aa (nc hTa ?_);rw [if_pos (by decide)];refine aa (xE (up _ _ hx) hc hdat hd hA fun h1 tk1 kp1=>?_);rw [if_pos (by rfl)];refine aa (m5 ?_);have ha1:IsTup h1 a (ps.map fun p=>bx p.1).toArray:=⟨o,kp1 _ _ (up _ _ hx),hc,k,hdat⟩;refine aa (wpAny_pyIter_tuple (show ({ s with heap:=h1,toks:=tk1 }:Shared).heap.IsTuple a _ from ha1) (ab ⟨mx bQ _,?_⟩))
 have lt0:s.heap.objs.size < h1.objs.size:=by
  have:=kp1 s.heap.objs.size _ (aj s.heap rfl);exact ak this
 have hlt:∀ b u,s.heap.get? b=some u->b < s.heap.objs.size:=fun b u e=>ak e;have ha0:=hlt _ _ hx;refine Dl (knd:=knd) (fp:=[h1.objs.size,a]) (wr:=[h1.objs.size]) (n:=(ps.map fun p=>bx p.1).toArray.size) (Walks.tuple (A:=A.in1.in1) hA h1.objs.size a (ba (o8 ha0 lt0)) (ps.map fun p=>bx p.1).toArray) ?_ ps (by simp) (fun i v e=>?_) (fun p hp=>?_) hk .none _ 0 _ [] (jf _) (d4 _) ?_ ?_ (by simpa using hz) (fun p hp=>?_) fun h' tk dd kk=>?_
 ·intro z;rcases bw.mp z with z | z
  ·exact ba lt0 z
  ·exact ba ha0 (c8.mp z).symm
 ·have e':(ps.map fun p=>bx p.1)[i]?=some v:=by simpa using e
  rw [br] at e';obtain ⟨p,hp,rfl⟩:=df.mp e';exact ⟨p,hp,rfl⟩
 ·obtain ⟨ob,e,_⟩:=hit p hp;have h0:=hlt _ _ e;exact ⟨fun z=>ba (o8 h0 lt0) (c8.mp z),ba h0⟩
 ·refine ⟨⟨_,aj _ rfl,rfl,rfl⟩,?_⟩;obtain ⟨ob,e,r⟩:=ha1;exact ⟨ob,ae _ e,r⟩
 ·obtain ⟨oo,es,ep,e,r⟩:=hnew;exact ⟨oo,es,ep,ae _ (kp1 _ _ e),r⟩
 ·obtain ⟨ob,e,r⟩:=hit p hp;exact ⟨ob,ae _ (kp1 _ _ (up _ _ e)),r⟩
 ·refine ⟨rfl,h h' tk (by simpa using dd) fun b u e=>?_⟩
  have h0:=hlt _ _ e;exact kk b u (ba h0) (fun z=>ba (o8 h0 lt0) (c8.mp z)) (ae _ (kp1 _ _ (up _ _ e)))
end
section
variable {prog:Program} {w:World} {A:Around} {E:Value->Shared->Prop} {s:Shared} {v dc it:Addr} {oc:Obj} {es:Array ie} {ep:Nat}
theorem FX {Q:Value->Shared->Prop} (hv:s.heap.IsValuesView v dc) (h1:s.heap.get? dc=some oc) (h2:oc.data=.dict es ep)
  (q:Q (.ref s.heap.objs.size) { s with heap:=s.heap.push { cls:=.type "dict_valueiterator",data:=.fields #[.ref dc,.int 0 0,.int es.size 0,.int ep 0] } }):wpAny (model prog w) A (pyIter (.ref v)) Q E s:=by
 obtain ⟨ov,g1,g2,g3⟩:=id hv;refine wpAny_pyIter_slot hv.typeIs F.slot_dict_values_iter (en F.slot_dict_values_iter hv.typeIs F.entry_dict_values_iter (show wpAny _ _ (Builtin.«dict_values.__iter__» _) _ _ _ from ?_) (F.args_dict_values_iter_1 _))
 unfold Builtin.«dict_values.__iter__»;refine aa (ab (aa ?_)); unfold Builtin.Dict_items.dictOf;refine aa (gr g1 g3 (x:=.ref dc) rfl (ab (aa ?_))); unfold Builtin.Dict_items.newIterator;refine aa (f7 h1 h2 (aa (jj h1 h2 ?_)));rw [show d8 "dict_valueiterator" = false by decide]; simp only [c9,if_false];refine dm (ab ⟨_,rfl,"dict_valueiterator",_,⟨_,aj _ rfl,rfl⟩,gv.lookup,(by simpa [rawInt] using q)⟩)
theorem HP {i:Nat} {Q:Option Value->Shared->Prop} (hI:s.heap.IsValIter it dc i es.size ep) (h1:s.heap.get? dc=some oc) (h2:oc.data=.dict es ep) (hlt:i < es.size)
  (q:∀ h',h'.IsValIter it dc (i+1) es.size ep->ja it s.heap h'->Q (some es[i].val) { s with heap:=h' }):wpAny (model prog w) A (pyNext (.ref it)) Q E s:=by
 obtain ⟨oi,g1,g2,g3⟩:=id hI;unfold pyNext;refine aa (jz (d6 (name:=ic "__next__") hI.typeIs gv (en gv hI.typeIs F.entry_dict_valueiterator_next ?_ (F.args_dict_valueiterator_next_1 _))));refine aa (ab (aa (aa ?_)))
 first | refine aa (ju hI.typeIs (ab ?_)) | refine aa (lq hI.typeIs (ab ?_))
 refine aa (oj g1 g3 ?_);rw [show d8 "dict_valueiterator" = false by decide]; simp only [c9,if_false]
 show wpAny _ _ (if (bx dc == b7)=true then _ else _) _ _ s
 rw [if_neg (show ¬ ((bx dc == b7)=true) from bp)]
 refine aa (ab (aa (f7 h1 h2 ?_)));rw [if_neg (show ¬ _ by simp)];refine aa (ab (aa (jj h1 h2 ?_)));rw [if_neg (show ¬ _ by simp)];refine ab ?_;simp only [show ¬ ((i:Int) < 0) by omega,if_false,lr,i8 hlt];refine aa ?_
 first | refine aa (ju hI.typeIs (ab ?_)) | refine aa (lq hI.typeIs (ab ?_))
 refine aa (wpAny_isOneOf_valiter hI.typeIs (show wpAny _ _ (setField (.ref it) 1 (rawInt ((i:Int)+1)) >>= _) _ _ s from aa (m6 g1 g3 (by simp) ?_)))
 have hI':(s.heap.update it (j0 (·.setIfInBounds 1 (rawInt ((i:Int)+1))))).IsValIter it dc (i+1) es.size ep:=
  ⟨_,fg _ g1 (nq (ko g3 _)),(Obj.cls_mapFields ..).trans g2,by rw [ko g3]; simp [rawInt]⟩
 have ty':({ s with heap:=s.heap.update it (j0 (·.setIfInBounds 1 (rawInt ((i:Int)+1)))) }:Shared).TypeIs (.ref it) "dict_valueiterator" := hI'.typeIs;refine aa (gp (aa (wpAny_isOneOf_valiter ty' (aa (wpAny_isOneOf_valiter ty' ?_)))))
 show wpAny _ _ (pure es[i].val) _ _ _
 exact ab (ab ⟨_,rfl,ab (q _ hI' (dw ..))⟩)
theorem HQ {i:Nat} {Q:Option Value->Shared->Prop} (hh:A.handled=none) (hI:s.heap.IsValIter it dc i es.size ep) (h1:s.heap.get? dc=some oc) (h2:oc.data=.dict es ep) (hge:es.size<=i)
  (q:∀ h',Heap.ExtBut it s.heap h'->Q none { s with heap:=h' }):wpAny (model prog w) A (pyNext (.ref it)) Q E s:=by
 obtain ⟨oi,g1,g2,g3⟩:=id hI;unfold pyNext;refine aa (jz (d6 (name:=ic "__next__") hI.typeIs gv (en gv hI.typeIs F.entry_dict_valueiterator_next ?_ (F.args_dict_valueiterator_next_1 _))));refine aa (ab (aa (aa ?_)))
 first | refine aa (ju hI.typeIs (ab ?_)) | refine aa (lq hI.typeIs (ab ?_))
 refine aa (oj g1 g3 ?_);rw [show d8 "dict_valueiterator" = false by decide]; simp only [c9,if_false]
 show wpAny _ _ (if (bx dc == b7)=true then _ else _) _ _ s
 rw [if_neg (show ¬ ((bx dc == b7)=true) from bp)]
 refine aa (ab (aa (f7 h1 h2 ?_)));rw [if_neg (show ¬ _ by simp)];refine aa (ab (aa (jj h1 h2 ?_)));rw [if_neg (show ¬ _ by simp)];refine ab ?_;simp only [show ¬ ((i:Int) < 0) by omega,if_false,lr,iy hge];refine aa ?_
 first | refine aa (ju hI.typeIs (ab ?_)) | refine aa (lq hI.typeIs (ab ?_))
 refine (show wpAny _ _ (setField (.ref it) 0 .none >>= _) _ _ s from aa (m6 g1 g3 (by simp) ?_))
 refine (show wpAny _ _ (newExc (.type "StopIteration") [] >>= _) _ _ _ from aa ?_); simp only [newExc,newTuple]
 refine aa (dm (aa (m:=om _ _) (wpAny_of_eq (a:=b7) (by first | rfl | (simp only [om]; rfl)) (dm ?_ (by size_fits)))) (by size_fits))
 simp only [raiseNew];refine aa (wpAny_handled ?_); rw [show A.in1.handled=none from hh]
 refine aa (ab (wpAny_throw ?_)); refine aa (ow (T:="StopIteration") (b:=true) ⟨_,aj _ rfl,rfl⟩ isSubtype_stop ?_);exact ab (q _ (((dw ..).extBut.push _).push _))
theorem Dm (hh:A.handled=none) (I dc:Addr) (hne:dc≠I) (oc:Obj) (es:Array ie) (ep:Nat) (h2:oc.data=.dict es ep):
  Walks prog w A I [I,dc] [I] es.size (fun i v=>∃ e,es[i]?=some e/\v=e.val) (fun i h=>h.IsValIter I dc i es.size ep/\h.get? dc=some oc) where
 sub:=fun b hb=>by rw [c8.mp hb]; exact ax
 frame:=fun _ _ _ st hk=>⟨let ⟨o,e,r⟩:=st.1; ⟨o,hk I ax o e,r⟩,hk dc (ao _ ax) _ st.2⟩
 item:=fun i s Q E hi st hQ=>HP st.1 st.2 h2 hi fun h' hit' hs'=>hQ _ h' s.toks ⟨es[i],by simp [hi],rfl⟩ ⟨hit',(hs'.2 dc hne).trans st.2⟩ fun b o hb e=>(hs'.2 b fun z=>hb (by rw [z]; exact ax)).trans e
 done:=fun s Q E st hQ=>HQ hh st.1 st.2 h2 (az _) fun h' he'=>hQ h' s.toks fun b o hb e=>he' b o (fun z=>hb (by rw [z]; exact ax)) e
 self:=fun _ _ _ _ st hQ=>wpAny_pyIter_valiter st.1 hQ
theorem HS {r:Addr} (h2:oc.data=.dict es ep):PySem.W.KdlSrc prog w "dict_values" r dc es.size (fun i v=>∃ e,es[i]?=some e/\v=e.val) (fun h=>h.IsValuesView r dc/\h.get? dc=some oc) where
 type:=fun _ hm=>hm.1.typeIs
 there:=fun _ hm=>⟨let ⟨_,ho,_⟩:=hm.1; ak ho,ak hm.2⟩
 keep:=fun _ _ hm hk=>⟨let ⟨o,ho,x⟩:=hm.1; ⟨o,hk r (.inl rfl) o ho,x⟩,hk dc (.inr rfl) _ hm.2⟩
 notList:=by decide
 notTuple:=by decide
 hint:=fun _ _ _ _ hm hq=>PySem.W.kdl_hint_values hm.1.typeIs hq
 iter:=fun _ _ hh hm=>⟨_,_,(fun _ _ hq=>FX hm.1 hm.2 h2 hq),Dm hh _ dc (ba (ak hm.2)) oc es ep h2,⟨⟨_,aj _ rfl,rfl,rfl⟩,ae _ hm.2⟩⟩
end
section
variable {prog:Program} {w:World} {A:Around} {E:Value->Shared->Prop} {s:Shared} {v dc it:Addr} {oc:Obj} {es:Array ie} {ep:Nat} {ok ov:Value}
theorem uJ {Q:Value->Shared->Prop} (hv:s.heap.IsItemsView v dc) (h1:s.heap.get? dc=some oc) (h2:oc.data=.dict es ep)
  (q:Q (.ref s.heap.objs.size) { s with heap:=s.heap.push { cls:=.type "dict_itemiterator",data:=.fields #[.none,.bool false,.ref dc,.int 0 0,.int es.size 0,.int ep 0,.none,.none] } }):wpAny (model prog w) A (pyIter (.ref v)) Q E s:=by
 obtain ⟨ov,g1,g2,g3⟩:=id hv;refine wpAny_pyIter_slot hv.typeIs F.slot_dict_items_iter (en F.slot_dict_items_iter hv.typeIs F.entry_dict_items_iter (show wpAny _ _ (Builtin.«dict_items.__iter__» _) _ _ _ from ?_) (F.args_dict_items_iter_1 _))
 unfold Builtin.«dict_items.__iter__»;refine aa (ab (aa ?_)); unfold Builtin.Dict_items.dictOf;refine aa (gr g1 g3 (x:=.ref dc) rfl (ab (aa ?_))); unfold Builtin.Dict_items.newIterator;refine aa (f7 h1 h2 (aa (jj h1 h2 ?_)));rw [show d8 "dict_itemiterator" = true by decide]; simp only [if_true,Builtin.Dict_items.ownedTupleFields,ou,jh,c9,if_false];refine dm (ab ⟨_,rfl,"dict_itemiterator",_,⟨_,aj _ rfl,rfl⟩,f6.lookup,(by simpa [rawInt] using q)⟩)
theorem uK:entryFor table "dict_itemiterator.__iter__" = some Builtin.«dict_keyiterator.__iter__»:=entryFor_alias (id:="dict_itemiterator.__iter__") (id':="dict_keyiterator.__iter__") (by first | rfl | decide +kernel) (by first | rfl | decide +kernel) (by decide +kernel) (by rfl)
theorem Br (dc:Addr) (hd:(dc == iz)=false):MeetsIn prog w (Builtin.«dict.items» ⟨[.ref dc],[]⟩) (fun _ R s=>s.TypeIs (.ref dc) "dict" /\
   R (.ok (.ret (.ref s.heap.objs.size))) { s with heap:=s.heap.push { cls:=.type "dict_items",data:=.fields #[.ref dc] } }):=
 .of_wp fun A R s ⟨hT,h⟩=>by
  refine aa ?_; unfold Builtin.Dict.noArgs;refine aa (kn hT (show wpAny _ _ (pure dc) _ _ s from ab (show wpAny _ _ (nr dc >>= _) _ _ s from ?_)))
  unfold nr; rw [if_neg (show ¬ _ from by rw [hd]; decide)]
  refine aa (ab (aa (dm (ab ⟨_,rfl,h⟩))))
end
structure TOk (bt:Bool) (t:SetTable):Prop where
 dum:t.dummies=#[]
 led:bt=false->t.led=true
 ris:t.plain=true->t.place.toList.Pairwise (· < ·)
end L2
namespace L2
open PySem PySem.Spec PyProof.Rows PySem.SeqAt PySem.W
def fU (b:Bool) (n i:Nat):Nat:=if b then n - 1 - i else i
def Bs (b:Bool) (n:Nat) (p:List Nat):List Nat:=katRev b (p.map (fU b n))
theorem jY {α:Type} (b:Bool) {l:List α} {d:α} {i:Nat} (hi:i < l.length):(katRev b l).getD i d=l.getD (fU b l.length i) d:=by
 cases b with
 | false=>rfl
 | true=>
  show l.reverse.getD i d=l.getD (l.length - 1 - i) d
  rw [bg,bg,List.getElem?_reverse hi]
theorem gG {b:Bool} {n i:Nat} (h:i < n):fU b n i < n:=by
 unfold fU; split <;> omega
theorem Dn {b:Bool} {n:Nat} {p:List Nat} (h:p.Perm (d0 n)):(Bs b n p).Perm (d0 n):=by
 cases b with
 | false=>
  have e:Bs false n p=p:=by
   show p.map (fun i=>fU false n i)=p
   have:(fun i=>fU false n i)=id:=by funext i; rfl
   rw [this,List.map_id]
  rw [e]; exact h
 | true=>
  have e:(d0 n).map (fU true n)=(d0 n).reverse:=by
   apply List.ext_getElem
   ·simp
   ·intro i h1 h2;simp [fU]
  show ((p.map (fU true n)).reverse).Perm _
  refine (gq _).trans ((h.map _).trans ?_);rw [e];exact gq _
theorem Do {b:Bool} {n:Nat} {p:List Nat} {lt:Nat->Nat->Bool} (h:p.Pairwise (fun i j=>lt (fU b n j) (fU b n i)=false)):(Bs b n p).Pairwise (fun i j=>(if b then lt i j else lt j i)=false):=by
 have h1:(p.map (fU b n)).Pairwise (fun i j=>lt j i=false):=List.pairwise_map.mpr h;cases b with
 | false=>exact h1
 | true=>
  show ((p.map (fU true n)).reverse).Pairwise _
  rw [gh];exact h1
theorem FY {b:Bool} {vs:List Value} {p:List Nat} (h:∀ i∈p,i < vs.length):katRev b (p.map fun i=>(katRev b vs).getD i b7)=(Bs b vs.length p).map fun i=>vs.getD i b7:=by
 have e:(p.map fun i=>(katRev b vs).getD i b7)=(p.map (fU b vs.length)).map fun i=>vs.getD i b7:=by
  rw [j4];exact mz fun i hi=>jY b (h i hi)
 rw [e];unfold Bs katRev;split
 ·rw [List.map_reverse]
 ·rfl
theorem Dp {α:Type} (b:Bool) (l:List α):katRev b (katRev b l)=l:=by
 unfold katRev; split <;> simp
theorem range_getD (vs:List Value):((d0 vs.length).map fun i=>vs.getD i b7)=vs:=by
 apply i5;intro i
 by_cases hi:i < vs.length
 ·simp [hi]
 ·simp [hi]
section
variable {prog:Program} {w:World} {A:Around} {E:Value->Shared->Prop} {s:Shared} {a kS:Addr} {b:Bool} {vs ks:List Value}
theorem N4 {st:SortSt} {e e1:Nat} {out:List Value} {P:PySem.Fin->Shared->Prop} (hout:(arrOf st).map (·.2)=out.toArray) (hz:out.length < 1000000) (hkz:ks.length < 1000000) (hf:km st=none) (hka:kS≠a)
  (gk:s.heap.get? kS=some (seqObj "list" ks.toArray e)) (ga:s.heap.get? a=some (seqObj "list" #[] e1))
  (h:∀ (h':Heap) (c:Nat),(∀ x o,x≠a->x≠kS->s.heap.get? x=some o->h'.get? x=some o)->h'.get? a=some (seqObj "list" (katRev b out).toArray c)->(∃ o,h'.get? kS=some o)->P (.done (.ret .none)) { s with heap:=h' }):
  wpAny (model prog w) A (ksk_tail a b e1 (.ref kS) st) P E s:=by
 have w1:=dw s.heap kS (fc fun _=>(#[]:Array Value));obtain ⟨ck,hck⟩:∃ ck,(s.heap.update kS (fc fun _=>(#[]:Array Value))).get? kS=some (seqObj "list" #[] ck):=⟨_,get?_update_seq gk fun _=>#[]⟩;have ga1:=(w1.2 a hka.symm).trans ga;have w2:=dw (s.heap.update kS (fc fun _=>(#[]:Array Value))) a (fc fun _=>(katRev b out).toArray);obtain ⟨c2,hc2⟩:∃ c2,((s.heap.update kS (fc fun _=>(#[]:Array Value))).update a (fc fun _=>(katRev b out).toArray)).get? a=some (seqObj "list" (katRev b out).toArray c2):=⟨_,get?_update_seq ga1 fun _=>(katRev b out).toArray⟩;have hsz:(katRev b out).toArray.size=out.length:=by rw [av,kat_len]
 unfold ksk_tail
 try dsimp only
 rw [hout,kat_outs];refine aa (listUpdate_at gk rfl ?_ (by rw [av,gd]; omega) (d4 _));refine aa (wpAny_letGo (aa (seqEpoch_at ga1 rfl ?_)));refine aa (listUpdate_at ga1 rfl ?_ (d4 _) (gg (Nat.le_of_eq hsz) (by rw [gd]; omega)));rw [hf];simp only [bne_self_eq_false,c9,if_false];exact ab (h _ c2 (fun x o h1 h2 q=>(w2.2 x h1).trans ((w1.2 x h2).trans q)) hc2 ⟨_,(w2.2 kS hka).trans hck⟩)
theorem T4 {e e1:Nat} {κ:k6} {P:PySem.Fin->Shared->Prop} (lt:Nat->Nat->Bool) (hl:ks.length=vs.length) (h64:vs.length < 1000000) (hka:kS≠a)
  (tr:∀ i j k,i < vs.length->j < vs.length->k < vs.length->lt j i=false->lt k j=false->lt k i=false) (as:∀ i j,i < vs.length->j < vs.length->lt i j=true->lt j i=false)
  (gk:s.heap.get? kS=some (seqObj "list" ks.toArray e)) (ga:s.heap.get? a=some (seqObj "list" #[] e1))
  (hk:2<=vs.length->∀ (Q:k6->Shared->Prop) E',Q κ s->wpAny (model prog w) A (keyKind' ks.toArray) Q E' s)
  (hlt:∀ i j,i < vs.length->j < vs.length->∀ Q:Bool->Shared->Prop,Q (lt i j) s->wpAny (model prog w) A (keyLt' κ (ks.getD i b7) (ks.getD j b7)) Q (fun _ _=>False) s)
  (h:∀ (p:List Nat) (h':Heap) (c:Nat),p.Perm (d0 vs.length)->p.Pairwise (fun i j=>(if b then lt i j else lt j i)=false)->(∀ x o,x≠a->x≠kS->s.heap.get? x=some o->h'.get? x=some o)->
   h'.get? a=some (seqObj "list" (p.map fun i=>vs.getD i b7).toArray c)->(∃ o,h'.get? kS=some o)->P (.done (.ret .none)) { s with heap:=h' }):
  wpAny (model prog w) A (ksk_end a b vs.toArray e1 (.ref kS) ks.toArray) P E s:=by
 have skip:∀ t:Sem PySem.Fin,wpAny (model prog w) A t P E s->wpAny (model prog w) A (if b=true then (do let _ <- rule "list.sort.reverse"; t) else t) P E s:=fun t ht=>by
  split
  ·exact aa (m5 ht)
  ·exact ht
 have hlr:(katRev b ks).length=(katRev b vs).length:=by rw [kat_len,kat_len,hl]
 unfold ksk_end
 try dsimp only
 refine skip _ ?_
 rw [kat_pairs b hl]
 by_cases h2:vs.toArray.size < 2
 ·rw [if_pos h2,if_pos h2]
  rw [av] at h2
  refine aa (ab ?_)
  rw [StateT.run_pure]
  refine aa (ab ?_)
  try dsimp only
  refine N4 (st:=SortSt.mk' general' ((katRev b ks).toArray.zip (katRev b vs).toArray) #[] 7 none) (out:=katRev b vs) (ks:=ks) ?_ (by rw [kat_len]; exact h64) (by omega) rfl hka gk ga fun h' c k1 k2 k3=>?_
  ·show ((katRev b ks).toArray.zip (katRev b vs).toArray).map (·.2)=(katRev b vs).toArray
   apply Array.toList_inj.mp
   rw [Array.toList_map,ksk_zip]
   show (List.zip _ _).map Prod.snd=_
   rw [List.map_snd_zip (by rw [hlr]; exact az _)]
  ·rw [Dp] at k2
   refine h (d0 vs.length) h' c (j3 _) ?_ k1 (by rw [range_getD]; exact k2) k3
   rw [dz]
   intro i j hi hj hij
   simp only [oa] at hi hj
   omega
 ·rw [if_neg h2,if_neg h2]
  rw [av] at h2
  refine aa (hk (by omega) _ _ ?_)
  refine aa (jl (HF (ks:=katRev b ks) (vs:=katRev b vs) (E:=E) (κ:=κ) hlr (fun i j=>lt (fU b vs.length i) (fU b vs.length j))
   (by rw [kat_len]; exact fun i j k hi hj hk=>tr _ _ _ (gG hi) (gG hj) (gG hk)) (by rw [kat_len]; exact fun i j hi hj=>as _ _ (gG hi) (gG hj)) (by
    rw [kat_len]
    intro i j hi hj C hC
    rw [jY b (by omega),jY b (by omega),hl]
    exact hlt _ _ (gG hi) (gG hj) C hC)) ?_ fun _ _ x=>x)
  rintro ⟨⟨⟩,st'⟩ s' ⟨rfl,p,c1,c2,hout,hf⟩
  try dsimp only
  rw [kat_len] at c1
  have hin:∀ i∈p,i < vs.length:=fun i hi=>by simpa using c1.mem_iff.mp hi
  refine N4 (ks:=ks) hout (by rw [ar,c1.length_eq,oa]; exact h64) (by omega) hf hka gk ga fun h' c k1 k2 k3=>?_
  rw [FY hin] at k2
  exact h _ h' c (Dn c1) (Do c2) k1 k2 k3
theorem Dq {f:Value} {n:Nat} {κ:k6} {P:PySem.Fin->Shared->Prop} (ho:s.heap.get? a=some (seqObj "list" vs.toArray n)) (h64:vs.length < 1000000) (J:Addr->Nat->List Value->Nat->Shared->Prop)
  (h0:∀ (kS e1:Nat) (h':Heap),(∀ x o,x≠a->s.heap.get? x=some o->h'.get? x=some o)->s.heap.objs.size<=kS->h'.get? a=some (seqObj "list" #[] e1)->h'.get? kS=some (seqObj "list" #[] 0)->J kS e1 [] 0 { s with heap:=h' })
  (hget:∀ kS e1 ks e s',J kS e1 ks e s'->kS≠a/\s'.heap.get? a=some (seqObj "list" #[] e1)/\s'.heap.get? kS=some (seqObj "list" ks.toArray e))
  (turn:∀ kS e1 ks e s' x,vs[ks.length]?=some x->J kS e1 ks e s'->wpAny (model prog w) A (call f [x]) (fun v s''=>s''.heap.get? kS=some (seqObj "list" ks.toArray e)/\∀ (h':Heap) e',ja kS s''.heap h'->h'.get? kS=some (seqObj "list" (ks++[v]).toArray e')->J kS e1 (ks++[v]) e' { s'' with heap:=h' }) (fun _ _=>False) s')
  (fin:∀ kS e1 ks e s',ks.length=vs.length->J kS e1 ks e s'->∃ lt:Nat->Nat->Bool,(∀ i j k,i < vs.length->j < vs.length->k < vs.length->lt j i=false->lt k j=false->lt k i=false)/\(∀ i j,i < vs.length->j < vs.length->lt i j=true->lt j i=false)/\
   (2<=vs.length->∀ (Q:k6->Shared->Prop) E',Q κ s'->wpAny (model prog w) A (keyKind' ks.toArray) Q E' s')/\
   (∀ i j,i < vs.length->j < vs.length->∀ Q:Bool->Shared->Prop,Q (lt i j) s'->wpAny (model prog w) A (keyLt' κ (ks.getD i b7) (ks.getD j b7)) Q (fun _ _=>False) s')/\
   ∀ (p:List Nat) (h':Heap) (c:Nat),p.Perm (d0 vs.length)->p.Pairwise (fun i j=>(if b then lt i j else lt j i)=false)->(∀ x o,x≠a->x≠kS->s'.heap.get? x=some o->h'.get? x=some o)->
   h'.get? a=some (seqObj "list" (p.map fun i=>vs.getD i b7).toArray c)->(∃ o,h'.get? kS=some o)->P (.done (.ret .none)) { s' with heap:=h' }):
  wpAny (model prog w) A (ksk_tree a f b) P E s:=by
 have ha:a < s.heap.objs.size:=ak ho;have w1:=dw s.heap a (fc fun _=>(#[]:Array Value));obtain ⟨e1,ho1⟩:∃ e1,(s.heap.update a (fc fun _=>(#[]:Array Value))).get? a=some (seqObj "list" #[] e1):=⟨_,get?_update_seq ho fun _=>#[]⟩;unfold ksk_tree;refine aa (listItems_at ho rfl (aa (listUpdate_at ho rfl ?_ (by rw [av,gd]; omega) (d4 _))));refine aa (seqEpoch_at ho1 rfl (aa (wpAny_newTuple ?_ (by show vs.length<=_; rw [gd]; omega))));refine aa (wpAny_newList (gp ?_) (d4 _));have hk1:((s.heap.update a (fc fun _=>(#[]:Array Value))).push (seqObj "tuple" vs.toArray 0)).objs.size=s.heap.objs.size+1:=by rw [size_push',Heap.size_update]
 have J0:=h0 ((s.heap.update a (fc fun _=>(#[]:Array Value))).push (seqObj "tuple" vs.toArray 0)).objs.size e1 (((s.heap.update a (fc fun _=>(#[]:Array Value))).push (seqObj "tuple" vs.toArray 0)).push (seqObj "list" #[] 0))
  (fun x o hx q=>ae _ (ae _ ((w1.2 x hx).trans q))) (by rw [hk1]; exact Nat.le_succ _) (ae _ (ae _ ho1)) (aj _ rfl)
 show wpAny (model prog w) A (ksk_rest a f b vs.toArray e1 (.ref ((s.heap.update a (fc fun _=>(#[]:Array Value))).push (seqObj "tuple" vs.toArray 0)).objs.size)) P E { s with heap:=((s.heap.update a (fc fun _=>(#[]:Array Value))).push (seqObj "tuple" vs.toArray 0)).push (seqObj "list" #[] 0) }
 generalize ((s.heap.update a (fc fun _=>(#[]:Array Value))).push (seqObj "tuple" vs.toArray 0)).objs.size=kS at J0
 revert J0
 generalize ({ s with heap:=((s.heap.update a (fc fun _=>(#[]:Array Value))).push (seqObj "tuple" vs.toArray 0)).push (seqObj "list" #[] 0) }:Shared)=s0;intro J0;unfold ksk_rest;refine aa (m5 ?_)
 first
  | rw [List.forIn_toArray]
  | (rw [<- Array.forIn_toList]; simp only [List.toList_toArray])
 refine aa (ksk_fold (fun i s'=>∃ ks e,ks.length=i/\J kS e1 ks e s') vs 0 s0 ⟨[],0,rfl,J0⟩ ?step ?done)
 case step=>
  rintro j x s' hx ⟨ks,e,hl,hJ⟩;have hj:j < vs.length:=(af.mp hx).1;have hl':ks.length=j:=by omega
  refine aa (jz (jl (turn kS e1 ks e s' x (by rw [hl']; exact hx) hJ) (fun v s'' q=>?_) fun _ _ z=>z.elim));obtain ⟨gk,nxt⟩:=q
  try dsimp only
  have w2:=dw s''.heap kS (fc (·.push v));obtain ⟨c2,hc2⟩:∃ c2,(s''.heap.update kS (fc (·.push v))).get? kS=some (seqObj "list" (ks.toArray.push v) c2):=⟨_,get?_update_seq gk (·.push v)⟩;refine aa (listUpdate_at gk rfl ?_ (by rw [av,gd]; omega) (gg (Nat.le_of_eq (Array.size_push ..)) (by rw [av,gd]; omega)));refine ab ⟨rfl,ks++[v],c2,by simp; omega,nxt _ c2 w2 ?_⟩;rw [hc2];simp
 case done=>
  rintro s' ⟨ks,e,hl,hJ⟩;have hl':ks.length=vs.length:=by omega
  obtain ⟨hka,ga,gk⟩:=hget kS e1 ks e s' hJ;obtain ⟨lt,tr,as,hk,hlt,h⟩:=fin kS e1 ks e s' hl' hJ
  try dsimp only
  refine aa (listItems_at gk rfl ?_);exact T4 (κ:=κ) lt hl' h64 hka tr as gk ga hk hlt h
end
end L2
namespace L2
open PySem PySem.Spec PyProof.Rows PySem.SeqAt
inductive PV where
 | non | bl (b:Bool) | int (i:Int) | str (x:Str) | tup (xs:List PV) | ref (n:Nat) | ty (n:String) | fl (xs:List PV)
mutual
def PV.beq:PV->PV->Bool
 | .non,.non=>true
 | .bl a,.bl b=>a == b
 | .int a,.int b=>a == b
 | .str a,.str b=>a == b
 | .tup a,.tup b=>PV.beqs a b
 | .ref a,.ref b=>a == b
 | .ty a,.ty b=>a == b
 | .fl a,.fl b=>PV.beqs a b
 | _,_=>false
def PV.beqs:List PV->List PV->Bool
 | [],[]=>true
 | x :: xs,y :: ys=>PV.beq x y && PV.beqs xs ys
 | _,_=>false
end
mutual
theorem PV.beq_self:∀ x:PV,PV.beq x x=true
 | .non=>rfl
 | .bl a=>by simp [PV.beq]
 | .int a=>by simp [PV.beq]
 | .str a=>by simp [PV.beq]
 | .tup a=>by simp only [PV.beq]; exact PV.beqs_self a
 | .ref a=>by simp [PV.beq]
 | .ty a=>by simp [PV.beq]
 | .fl a=>by simp only [PV.beq]; exact PV.beqs_self a
theorem PV.beqs_self:∀ x:List PV,PV.beqs x x=true
 | []=>rfl
 | x :: xs=>by simp only [PV.beqs,PV.beq_self x,PV.beqs_self xs,Bool.and_self]
end
mutual
theorem PV.beq_eq:∀ {x y:PV},PV.beq x y=true->x=y
 | .non,y,h=>by cases y <;> first | rfl | (simp [PV.beq] at h)
 | .bl a,y,h=>by cases y <;> first | (simp [PV.beq] at h; rw [h]) | (simp [PV.beq] at h)
 | .int a,y,h=>by cases y <;> first | (simp [PV.beq] at h; rw [h]) | (simp [PV.beq] at h)
 | .str a,y,h=>by cases y <;> first | (simp [PV.beq] at h; rw [h]) | (simp [PV.beq] at h)
 | .tup a,y,h=>by
  cases y with
  | tup b=>simp only [PV.beq] at h; rw [PV.beqs_eq h]
  | _=>simp [PV.beq] at h
 | .ref a,y,h=>by cases y <;> first | (simp [PV.beq] at h; rw [h]) | (simp [PV.beq] at h)
 | .ty a,y,h=>by cases y <;> first | (simp [PV.beq] at h; rw [h]) | (simp [PV.beq] at h)
 | .fl a,y,h=>by
  cases y with
  | fl b=>simp only [PV.beq] at h; rw [PV.beqs_eq h]
  | _=>simp [PV.beq] at h
theorem PV.beqs_eq:∀ {x y:List PV},PV.beqs x y=true->x=y
 | [],y,h=>by cases y <;> first | rfl | (simp [PV.beqs] at h)
 | x :: xs,y,h=>by
  cases y with
  | nil=>simp [PV.beqs] at h
  | cons y ys=>
   simp only [PV.beqs,dr] at h;rw [PV.beq_eq h.1,PV.beqs_eq h.2]
end
instance:DecidableEq PV:=fun x y=>match h:PV.beq x y with
 | true=>isTrue (PV.beq_eq h)
 | false=>isFalse fun e=>by rw [e,PV.beq_self] at h; cases h
def PV.ky:Nat->PV->Bool
 | _,.int _=>true
 | _,.str _=>true
 | n+1,.tup xs=>xs.all (PV.ky n)
 | _,_=>false
section
variable (w:World)
mutual
def hsh:PV->Int
 | .int i=>Nm w (.inl i)
 | .str x=>Nm w (.inr x)
 | .tup xs=>reduceHash (f9 (sR xs))
 | _=>0
def sR:List PV->List Int
 | []=>[]
 | x :: xs=>hsh x :: sR xs
end
end
mutual
def drw:PV->Nat
 | .tup xs=>Bt xs+1
 | _=>1
def Bt:List PV->Nat
 | []=>0
 | x :: xs=>drw x+Bt xs
end
mutual
/-- the raw value is the key -/
def HR (h:Heap):PV->Value->Prop
 | .int i,v=>∃ t,v=.int i t
 | .str x,v=>∃ t,v=.str x t
 | .tup ps,v=>∃ a its,v=.ref a/\IsTup h a its.toArray/\HRs h ps its
 | _,_=>False
def HRs (h:Heap):List PV->List Value->Prop
 | [],[]=>True
 | p :: ps,v :: vs=>HR h p v/\HRs h ps vs
 | [],_ :: _=>False
 | _ :: _,[]=>False
end
theorem HRs.length {h:Heap}:∀ {ps:List PV} {vs:List Value},HRs h ps vs->ps.length=vs.length
 | [],[],_=>rfl
 | _ :: _,_ :: _,r=>congrArg (·+1) (HRs.length r.2)
 | [],_ :: _,r=>r.elim
 | _ :: _,[],r=>r.elim
theorem HRs.at {h:Heap}:∀ {ps:List PV} {vs:List Value} {j:Nat} {p:PV},HRs h ps vs->ps[j]?=some p->∃ v,vs[j]?=some v/\HR h p v
 | [],[],_,_,_,e=>by simp at e
 | q :: _,v :: _,0,p,r,e=>by
  have:q=p:=by simpa using e
  subst this;exact ⟨v,rfl,r.1⟩
 | _ :: ps,_ :: vs,j+1,p,r,e=>by
  obtain ⟨v,h1,h2⟩:=HRs.at (ps:=ps) (vs:=vs) (j:=j) (p:=p) r.2 (by simpa using e)
  exact ⟨v,by simpa using h1,h2⟩
 | [],_ :: _,_,_,r,_=>r.elim
 | _ :: _,[],_,_,r,_=>r.elim
theorem FZ {h:Heap} {a:Addr} {x y:Array Value} (p:IsTup h a x) (q:IsTup h a y):x=y:=by
 obtain ⟨o,ho,_,n,hd⟩:=p;obtain ⟨o',ho',_,n',hd'⟩:=q;obtain rfl:o=o':=b8 (ho.symm.trans ho');rw [hd] at hd';injection hd'
mutual
theorem HR.one {h:Heap}:∀ {p q:PV} {v:Value},HR h p v->HR h q v->p=q
 | .int i,q,v,r,r'=>by
  obtain ⟨t,rfl⟩:=r;cases q with
  | int j=>obtain ⟨t',e⟩:=r'; injection e with e; rw [e]
  | str j=>obtain ⟨t',e⟩:=r'; cases e
  | tup j=>obtain ⟨_,_,e,_⟩:=r'; cases e
  | _=>exact r'.elim
 | .str i,q,v,r,r'=>by
  obtain ⟨t,rfl⟩:=r;cases q with
  | int j=>obtain ⟨t',e⟩:=r'; cases e
  | str j=>obtain ⟨t',e⟩:=r'; injection e with e; rw [e]
  | tup j=>obtain ⟨_,_,e,_⟩:=r'; cases e
  | _=>exact r'.elim
 | .tup ps,q,v,r,r'=>by
  obtain ⟨a,its,rfl,p,rs⟩:=r;cases q with
  | int j=>obtain ⟨t',e⟩:=r'; cases e
  | str j=>obtain ⟨t',e⟩:=r'; cases e
  | tup qs=>
   obtain ⟨b,its',e,p',rs'⟩:=r';cases e
   have:its=its':=by simpa using congrArg Array.toList (FZ p p')
   subst this;rw [HRs.one rs rs']
  | _=>exact r'.elim
 | .non,_,_,r,_=>r.elim
 | .bl _,_,_,r,_=>r.elim
 | .ref _,_,_,r,_=>r.elim
 | .ty _,_,_,r,_=>r.elim
 | .fl _,_,_,r,_=>r.elim
theorem HRs.one {h:Heap}:∀ {ps qs:List PV} {vs:List Value},HRs h ps vs->HRs h qs vs->ps=qs
 | [],[],[],_,_=>rfl
 | p :: ps,q :: qs,v :: vs,r,r'=>by rw [HR.one r.1 r'.1,HRs.one r.2 r'.2]
 | [],_ :: _,[],_,r=>r.elim
 | [],_,_ :: _,r,_=>r.elim
 | _ :: _,_,[],r,_=>r.elim
 | _ :: _,[],_ :: _,_,r=>r.elim
end
theorem Dr {h h':Heap} {a d:Addr} {o:Obj} {es ep} {x:Array Value} (p:IsTup h a x) (ho:h.get? d=some o) (hd:o.data=.dict es ep) (hs:ja d h h'):IsTup h' a x:=by
 obtain ⟨q,hq,hc,n,hdt⟩:=p;have ne:a≠d:=by
  rintro rfl;obtain rfl:q=o:=b8 (hq.symm.trans ho);rw [hd] at hdt;cases hdt
 exact ⟨q,(hs.2 a ne).trans hq,hc,n,hdt⟩
mutual
theorem HR.keep {h h':Heap} (k:∀ a x,IsTup h a x->IsTup h' a x):∀ {p:PV} {v:Value},HR h p v->HR h' p v
 | .int i,v,r=>r
 | .str i,v,r=>r
 | .tup ps,v,⟨a,its,e,p,rs⟩=>⟨a,its,e,k _ _ p,HRs.keep k rs⟩
 | .non,_,r=>r.elim
 | .bl _,_,r=>r.elim
 | .ref _,_,r=>r.elim
 | .ty _,_,r=>r.elim
 | .fl _,_,r=>r.elim
theorem HRs.keep {h h':Heap} (k:∀ a x,IsTup h a x->IsTup h' a x):∀ {ps:List PV} {vs:List Value},HRs h ps vs->HRs h' ps vs
 | [],[],_=>trivial
 | _ :: _,_ :: _,r=>⟨HR.keep k r.1,HRs.keep k r.2⟩
 | [],_ :: _,r=>r.elim
 | _ :: _,[],r=>r.elim
end
section
variable {prog:Program} {w:World}
theorem HU:∀ (n:Nat) {A:Around} {E:Value->Shared->Prop} {s:Shared} {p:PV} {v:Value} {Q:Int->Shared->Prop},p.ky n=true->A.units+n < cLine->HR s.heap p v->Q (hsh w p) { s with toks:=s.toks+drw p }->
  wpAny (model prog w) A (pyHash v) Q E s:=by
 intro n
 induction n with
 | zero=>
  intro A E s p v Q hk hu r h;cases p with
  | int i=>obtain ⟨t,rfl⟩:=r; exact wpAny_pyHash_int h
  | str i=>obtain ⟨t,rfl⟩:=r; exact wpAny_pyHash_str h
  | _=>cases hk
 | succ n ih=>
  intro A E s p v Q hk hu r h;cases p with
  | int i=>obtain ⟨t,rfl⟩:=r; exact wpAny_pyHash_int h
  | str i=>obtain ⟨t,rfl⟩:=r; exact wpAny_pyHash_str h
  | tup ps=>
   obtain ⟨a,its,rfl,⟨o,ho,hc,m,hd⟩,rs⟩:=r;have hk':∀ q∈ps,q.ky n=true:=cf.mp hk;have hT:s.TypeIs (.ref a) "tuple" := ⟨o,ho,hc⟩;unfold pyHash; unfold pyHashByItsType;refine aa (wpAny_cRoomFor_or (.inr (show A.units < cLine by omega)) (aa (wpAny_specialOf hT F.slot_tuple_hash.lookup ?_)))
   show wpAny _ _ (if ((some (Value.builtin "tuple.__hash__"):Option Value) == some b7)=true then _ else _) Q E s
   rw [if_neg (show ¬ _ from by rw [beq_builtin_none]; decide)]
   refine aa (wpAny_specialOf hT F.slot_tuple_hash.lookup (show wpAny _ _ (callSpecialIfBoundUnlessNone? (.ref a) "__hash__" _ >>= _) Q E s from ?_))
   refine aa (wpAny_callSpecialIfBoundUnlessNone?_slot hT F.slot_tuple_hash (en F.slot_tuple_hash hT F.entry_tuple_hash (show wpAny _ _ (og (.ref a) >>= _) _ _ s from ?_) (F.args_tuple_hash_1 _)))
   refine aa (wpAny_tupleItemsOf ho hd (aa ?_)); rw [<- Array.forIn_toList];refine wpAny_forIn_list _ (fun rest (b:Array Int) s'=>∃ left,HRs s.heap left rest/\(∀ q∈left,q.ky n=true)/\b.toList++sR w left=sR w ps/\s'.heap=s.heap/\s'={ s with toks:=s'.toks }/\s'.toks+Bt left=s.toks+Bt ps) _ ?turn ?stop _ _ ⟨ps,rs,hk',rfl,rfl,rfl,rfl⟩
   case turn=>
    rintro x rest b s' ⟨left,rl,kl,eb,eh,es,et⟩;cases left with
    | nil=>exact rl.elim
    | cons q left=>
     have r1:HR s'.heap q x:=by rw [eh]; exact rl.1
     refine aa (ih (kl q ax) (show A.units+1+n < cLine by omega) r1 (ab ?_));refine ⟨left,rl.2,fun z hz=>kl z (ao _ hz),?_,eh,?_,?_⟩
     ·rw [<- eb]; simp [sR]
     ·rw [es]
     ·rw [<- et]
      show s'.toks+drw q+Bt left=s'.toks+(drw q+Bt left)
      omega
   case stop=>
    rintro b s' ⟨left,rl,kl,eb,eh,es,et⟩;cases left with
    | cons q left=>exact rl.elim
    | nil=>
     have eb':b.toList=sR w ps:=by rw [<- eb]; simp [sR]
     have et':s'.toks=s.toks+Bt ps:=et
     show wpAny _ _ (retInt (f9 b.toList)) _ _ _
     rw [eb',es];refine wpAny_ret_mkInt ?_
     show wpAny _ _ (if (decide (-(2:Int) ^ 63<=f9 (sR w ps)) && decide (f9 (sR w ps) < 2 ^ 63))=true then _ else _) Q E _
     have h':Q (reduceHash (f9 (sR w ps))) { s with toks:=s.toks+(Bt ps+1) }:=h;unfold reduceHash at h';rw [et']
     by_cases hr:(decide (-(2:Int) ^ 63<=f9 (sR w ps)) && decide (f9 (sR w ps) < 2 ^ 63))=true
     ·rw [if_pos hr] at h' ⊢;exact ab (by simpa [Nat.add_assoc] using h')
     ·rw [if_neg hr] at h' ⊢;exact aa (m5 (ab (by simpa [Nat.add_assoc] using h')))
  | _=>cases hk
theorem Od:∀ (n:Nat) {A:Around} {s:Shared} {p q:PV} {v u:Value},p.ky n=true->q.ky n=true->A.units+n < cLine->HR s.heap p v->HR s.heap q u->RcAt A s v u (decide (p=q)):=by
 intro n
 induction n with
 | zero=>
  intro A s p q v u hp hq hu r r';cases p with
  | int i=>
   obtain ⟨t,rfl⟩:=r;cases q with
   | int j=>obtain ⟨t',rfl⟩:=r'; have:=RcAt.int_int (A:=A) (s:=s) i t j t'; rwa [show decide (PV.int i=PV.int j)=(i == j) by simp [nu]]
   | str j=>obtain ⟨t',rfl⟩:=r'; exact RcAt.int_str i t j t'
   | _=>cases hq
  | str i=>
   obtain ⟨t,rfl⟩:=r;cases q with
   | int j=>obtain ⟨t',rfl⟩:=r'; exact RcAt.str_int i t j t'
   | str j=>obtain ⟨t',rfl⟩:=r'; have:=RcAt.str_str (A:=A) (s:=s) i t j t'; rwa [show decide (PV.str i=PV.str j)=(i == j) by simp [nu]]
   | _=>cases hq
  | _=>cases hp
 | succ n ih=>
  intro A s p q v u hp hq hu r r';cases p with
  | int i=>
   obtain ⟨t,rfl⟩:=r;cases q with
   | int j=>obtain ⟨t',rfl⟩:=r'; have:=RcAt.int_int (A:=A) (s:=s) i t j t'; rwa [show decide (PV.int i=PV.int j)=(i == j) by simp [nu]]
   | str j=>obtain ⟨t',rfl⟩:=r'; exact RcAt.int_str i t j t'
   | tup js=>obtain ⟨b,its,rfl,p',_⟩:=r'; exact RcAt.int_tuple i t p' (by omega)
   | _=>cases hq
  | str i=>
   obtain ⟨t,rfl⟩:=r;cases q with
   | int j=>obtain ⟨t',rfl⟩:=r'; exact RcAt.str_int i t j t'
   | str j=>obtain ⟨t',rfl⟩:=r'; have:=RcAt.str_str (A:=A) (s:=s) i t j t'; rwa [show decide (PV.str i=PV.str j)=(i == j) by simp [nu]]
   | tup js=>obtain ⟨b,its,rfl,p',_⟩:=r'; exact RcAt.str_tuple i t p' (by omega)
   | _=>cases hq
  | tup ps=>
   obtain ⟨a,its,rfl,ta,rs⟩:=r;cases q with
   | int j=>obtain ⟨t',rfl⟩:=r'; exact RcAt.tuple_int j t' ta (by omega)
   | str j=>obtain ⟨t',rfl⟩:=r'; exact RcAt.tuple_str j t' ta (by omega)
   | tup qs=>
    obtain ⟨b,its',rfl,tb,rs'⟩:=r';have kp:∀ z∈ps,z.ky n=true:=cf.mp hp;have kq:∀ z∈qs,z.ky n=true:=cf.mp hq;have l1:=rs.length;have l2:=rs'.length;have key:=RcAt.tuples (A:=A) (e:=fun j=>match ps[j]?,qs[j]? with | some x,some y=>decide (x=y) | _,_=>false) ta tb (by omega) (fun j h1 h2=>by
     have h1':j < ps.length:=by simp at h1; omega
     have h2':j < qs.length:=by simp at h2; omega
     have g1:ps[j]?=some ps[j]:=by simp [h1']
     have g2:qs[j]?=some qs[j]:=by simp [h2']
     obtain ⟨xu,hxu,hru⟩:=rs.at g1;obtain ⟨yu,hyu,hru'⟩:=rs'.at g2;have e1:its.toArray[j]=xu:=by simpa using (af.mp hxu).2
     have e2:its'.toArray[j]=yu:=by simpa using (af.mp hyu).2
     rw [e1,e2];simp only [g1,g2];refine iX (ih (kp _ (b9 h1')) (kq _ (b9 h2')) (show A.units+1+n < cLine by omega) hru hru') (fun ev=>?_) (fun f t e=>?_)
     ·subst ev;rw [HR.one hru hru'];exact decide_eq_true rfl
     ·subst e;generalize ps[j]=z at hru;cases z with
      | int i=>obtain ⟨_,e⟩:=hru; cases e
      | str i=>obtain ⟨_,e⟩:=hru; cases e
      | tup i=>obtain ⟨_,_,e,_⟩:=hru; cases e
      | _=>exact hru.elim)
    have sz:((d0 (min its.toArray.size its'.toArray.size)).all (fun j=>match ps[j]?,qs[j]? with | some x,some y=>decide (x=y) | _,_=>false) && its.toArray.size == its'.toArray.size)=decide (PV.tup ps=PV.tup qs):=by
     have a1:its.toArray.size=ps.length:=by simp; omega
     have a2:its'.toArray.size=qs.length:=by simp; omega
     rw [a1,a2,fb];simp only [dr,cf,List.mem_range,beq_iff_eq,decide_eq_true_eq,PV.tup.injEq];constructor
     ·rintro ⟨hall,hlen⟩;apply List.ext_getElem hlen;intro i hi hi';have:=hall i (by omega);simpa [hi,hi'] using this
     ·rintro rfl;refine ⟨fun x hx=>?_,rfl⟩;have:x < ps.length:=by omega
      simp [this]
    rw [<- sz];exact key
   | _=>cases hq
  | _=>cases hp
theorem HR.noflt {h:Heap} {p:PV} {v:Value} (r:HR h p v):∀ f t,v≠.float f t:=fun f t e=>by
 subst e;cases p with
 | int i=>obtain ⟨_,e⟩:=r; cases e
 | str i=>obtain ⟨_,e⟩:=r; cases e
 | tup i=>obtain ⟨_,_,e,_⟩:=r; cases e
 | _=>exact r.elim
theorem Ds {n:Nat} {A:Around} {s:Shared} {p q:PV} {v u:Value} (hp:p.ky n=true) (hq:q.ky n=true) (hu:A.units+n < cLine) (r:HR s.heap p v) (r':HR s.heap q u):EqAt A s v u (decide (p=q)):=
 iX (Od n hp hq hu r r') (fun ev=>by subst ev; rw [HR.one r r']; exact decide_eq_true rfl) r.noflt
theorem G0:∀ (n m:Nat) {A:Around} {E:Value->Shared->Prop} {s:Shared} {p:PV} {v:Value} {Q:Bool->Shared->Prop},p.ky n=true->n<=m->HR s.heap p v->Q true s->wpAny (model prog w) A (eqIsQuiet m v) Q E s:=by
 intro n
 induction n with
 | zero=>
  intro m A E s p v Q hk hm r h;cases p with
  | int i=>obtain ⟨t,rfl⟩:=r; rw [eqIsQuiet_byValue _ rfl]; exact ab h
  | str i=>obtain ⟨t,rfl⟩:=r; rw [eqIsQuiet_byValue _ rfl]; exact ab h
  | _=>cases hk
 | succ n ih=>
  intro m A E s p v Q hk hm r h;cases p with
  | int i=>obtain ⟨t,rfl⟩:=r; rw [eqIsQuiet_byValue _ rfl]; exact ab h
  | str i=>obtain ⟨t,rfl⟩:=r; rw [eqIsQuiet_byValue _ rfl]; exact ab h
  | tup ps=>
   obtain ⟨a,its,rfl,⟨o,ho,hc,m',hd⟩,rs⟩:=r;have hk':∀ q∈ps,q.ky n=true:=cf.mp hk;have hT:s.TypeIs (.ref a) "tuple" := ⟨o,ho,hc⟩;obtain ⟨m,rfl⟩:∃ j,m=j+1:=⟨m - 1,by omega⟩;unfold eqIsQuiet;refine aa (wpAny_specialOf hT F.slot_tuple_eq.lookup (show wpAny _ _ (isInstance (.ref a) (.type "tuple") >>= _) _ _ s from ?_))
   refine aa (ow hT isSubtype_tuple_tuple ?_); simp only [Bool.not_true,c9,if_false];refine aa (i7 ho hd (aa (show wpAny _ _ (forIn its.toArray _ _) _ _ s from ?_))); rw [<- Array.forIn_toList]
   refine wpAny_forIn_list _ (fun rest r s'=>r.1=none/\s'=s/\∃ left,HRs s.heap left rest/\∀ q∈left,q.ky n=true) _ ?_ ?_ _ _ ⟨rfl,rfl,ps,rs,hk'⟩
   ·rintro v rest r s' ⟨hr,rfl,left,rl,kl⟩;cases left with
    | nil=>exact rl.elim
    | cons q left=>
     refine aa (ih m (kl q ax) (by omega) rl.1 ?_); simp only [Bool.not_true,c9,if_false];exact ab ⟨rfl,rfl,left,rl.2,fun z hz=>kl z (ao _ hz)⟩
   ·rintro ⟨r1,r2⟩ s' ⟨hr,rfl,_⟩; simp only at hr; subst hr;exact ab h
  | _=>cases hk
def rV (prog:Program) (w:World):HeapKind prog w PV where
 is:=fun h p a=>p.ky 6=true/\HR h p (.ref a)
 hash:=hsh w
 draws:=drw
 room:=fun A=>A.units+6 < cLine
 inj:=fun x y=>HR.one x.2 y.2
 keeps:=fun x ho hd hs=>⟨x.1,HR.keep (fun a it p=>Dr p ho hd hs) x.2⟩
 pyHash:=fun hu x h=>HU 6 x.1 hu x.2 h
 eqBool:=fun hu x y h=>Ds x.1 y.1 hu x.2 y.2 _ _ _ _ h
 quiet:=fun x h=>G0 6 8 x.1 (by omega) x.2 h
end
def dDO (w:World) (a:Addr) (ks:List (PV×Addr×V)):HO:=.ext fun h=>ks.length<=aw/\(a == iz)=false/\∃ xs:List (PV×Addr×Value),
 Paired (fun (p:PV×Addr×V) (q:PV×Addr×Value)=>p.1=q.1/\p.2.1=q.2.1/\RelV p.2.2 q.2.2) ks xs/\
 ∃ o es ep,h.get? a=some o/\o.ExactDict/\o.data=.dict es ep/\es.toList=xs.map (fun x=>(⟨hsh w x.1,.ref x.2.1,x.2.2⟩:ie))/\(xs.map (·.1)).Nodup
def Bu (kd:Nat) (v d:Addr):HO:=.ext fun h=>match kd with
 | 0=>h.IsItemsView v d
 | 1=>h.IsValuesView v d
 | _=>∃ o,h.get? v=some o/\o.cls=.type "dict_keys" /\ o.data=.fields #[.ref d]
end L2
namespace L2
open PySem PySem.Spec PyProof.Rows
inductive MO where
 | lst (xs:List PV)
 | dK (kvs:List (Key×PV))
 | ins (C:Str) (fs:List (Str×PV))
 | dD (kvs:List (PV×PV))
 | vw (kd d:Nat)
 | fz (o:MO)
abbrev PH:=List MO
abbrev Ev:=List (Option PV)
structure PX where
 cls:Str
 fs:List (Str×PV)
inductive Rs (α:Type) where
 | ok (a:α) (h:PH)
 | exc (x:PX) (h:PH)
 | bad
inductive Fl where
 | nx (δ:Ev) (h:PH)
 | rt (p:PV) (h:PH)
 | bk (δ:Ev) (h:PH)
 | ct (δ:Ev) (h:PH)
 | exc (x:PX) (h:PH)
 | bad
abbrev Me:=Ev->PH->Rs PV
abbrev Ms:=Ev->PH->Fl
abbrev Fn:=List PV->PH->Rs PV
def Rs.bind {α β:Type} (r:Rs α) (f:α->PH->Rs β):Rs β:=match r with
 | .ok a h=>f a h
 | .exc x h=>.exc x h
 | .bad=>.bad
@[simp] theorem Rs.bind_ok {α β:Type} (a:α) (h:PH) (f:α->PH->Rs β):(Rs.ok a h).bind f=f a h:=rfl
@[simp] theorem Rs.bind_exc {α β:Type} (x:PX) (h:PH) (f:α->PH->Rs β):(Rs.exc x h:Rs α).bind f=.exc x h:=rfl
@[simp] theorem Rs.bind_bad {α β:Type} (f:α->PH->Rs β):(Rs.bad:Rs α).bind f=.bad:=rfl
structure MC where
 K:ag
 cl:Str->Option Addr
 bs:List Str
 ex:List Addr->Hp->PX->Prop
 w:World
def SqF (K:ag) (H:Hp) (a:Addr) (xs:List V):Prop:=
 (∃ o,H a=some (.frz o (.lst xs)))\/
  ∃ (o:Obj) (its:Array Value) (n:Nat),K.lookup a=some o/\o.cls=.type "list" /\ o.dict=none/\o.data=.seq its n/\its.size<=aw/\aN xs its.toList
theorem SqF.sq {K:ag} {H:Hp} {a:Addr} {xs:List V} (h:SqF K H a xs):SqL K H a xs:=by
 rcases h with ⟨o,h⟩ | h
 ·exact .inl (.inr ⟨o,h⟩)
 ·exact .inr h
def Kp (H H':Hp):Prop:=iW H H'/\∀ a o u,H a=some (.frz o u)->H' a=some (.frz o u)
theorem Kp.refl (H:Hp):Kp H H:=⟨iW.refl H,fun _ _ _ h=>h⟩
theorem Kp.trans {H H1 H2:Hp} (a:Kp H H1) (b:Kp H1 H2):Kp H H2:=⟨a.1.trans b.1,fun c o u h=>b.2 c o u (a.2 c o u h)⟩
theorem Kp.same {H H':Hp} (s:tW H H'):Kp H H':=⟨iW.same s,fun _ _ _ h=>s _ _ h⟩
theorem Kp.new {H:Hp} {a:Addr} {o:HO} (h:H a=none):Kp H (upd H a o):=Kp.same (tW.upd h)
theorem Kp.upd {H:Hp} {p:Addr} {o:HO} (h:rT (H p)):Kp H (upd H p o):=⟨iW.upd h,fun a ob u q=>by
 have ne:a≠p:=by
  rintro rfl;rw [q] at h; exact h
 rw [aH ne]; exact q⟩
theorem Kp.lst {H:Hp} {p:Addr} {o:HO} {xs:List V} (h:H p=some (.lst xs)):Kp H (L2.upd H p o):=Kp.upd (by rw [h]; trivial)
theorem Kp.dK {H:Hp} {p:Addr} {o:HO} {xs:List (Key×V)} (h:H p=some (.dK xs)):Kp H (L2.upd H p o):=Kp.upd (by rw [h]; trivial)
theorem Kp.sq {K:ag} {H H':Hp} {a:Addr} {xs:List V} (t:Kp H H') (h:SqT K H a xs):SqT K H' a xs:=t.1.sq h
theorem Kp.sf {K:ag} {H H':Hp} {a:Addr} {xs:List V} (t:Kp H H') (h:SqF K H a xs):SqF K H' a xs:=by
 rcases h with ⟨o,h⟩ | h
 ·exact .inl ⟨o,t.2 _ _ _ h⟩
 ·exact .inr h
section
variable (C:MC) (φ:List Addr) (H:Hp)
mutual
def RV:PV->V->Prop
 | .non,v=>v=.non
 | .bl b,v=>v=.bl b
 | .int i,v=>v=.int i
 | .str x,v=>v=.str x
 | .ty n,v=>v=.ty n
 | .tup ps,v=>∃ a vs,v=.ref a/\SqT C.K H a vs/\RVs ps vs
 | .ref n,v=>∃ a,v=.ref a/\φ[n]?=some a
 | .fl ps,v=>∃ a vs,v=.ref a/\SqF C.K H a vs/\RVs ps vs
def RVs:List PV->List V->Prop
 | [],[]=>True
 | p :: ps,v :: vs=>RV p v/\RVs ps vs
 | [],_ :: _=>False
 | _ :: _,[]=>False
end
def RKv {κ:Type}:List (κ×PV)->List (κ×V)->Prop:=Paired fun p q=>p.1=q.1/\RV C φ H p.2 q.2
def RKd:List (PV×PV)->List (PV×Addr×V)->Prop:=Paired fun p q=>p.1=q.1/\p.1.ky 6=true/\RV C φ H p.1 (.ref q.2.1)/\RV C φ H p.2 q.2.2
def RO (a:Addr):MO->Prop
 | .lst ps=>∃ vs,H a=some (.lst vs)/\RVs C φ H ps vs
 | .dK kvs=>∃ ks,H a=some (.dK ks)/\RKv C φ H kvs ks
 | .ins n fs=>∃ c dx ks,C.cl n=some c/\H a=some (.ins c dx ks)/\RKv C φ H fs ks
 | .dD kvs=>∃ ks,H a=some (dDO C.w a ks)/\RKd C φ H kvs ks
 | .vw kd d=>∃ b,φ[d]?=some b/\H a=some (Bu kd a b)
 | .fz (.dK kvs)=>∃ ob ks,H a=some (.frz ob (.dK ks))/\RKv C φ H kvs ks
 | .fz (.dD kvs)=>∃ ob ks,H a=some (.frz ob (dDO C.w a ks))/\RKd C φ H kvs ks
 | .fz _=>False
structure RH (h:PH):Prop where
 len:φ.length=h.length
 nd:φ.Nodup
 at':∀ (n:Nat) (a:Addr) (o:MO),φ[n]?=some a->h[n]?=some o->RO C φ H a o
def RE (δ:Ev) (σ:St):Prop:=δ.length=σ.length/\∀ (i:Nat) (p:PV),δ[i]?=some (some p)->∃ v,σ[i]?=some (some v)/\RV C φ H p v
end
section
variable {C:MC} {φ φ':List Addr} {H H':Hp}
theorem fX {α:Type} {l l':List α} (p:l<+:l') {n:Nat} {a:α} (h:l[n]?=some a):l'[n]?=some a:=by
 obtain ⟨t,rfl⟩:=p;have:=(af.mp h).1;rw [bj this];exact h
def Kq (H H':Hp):Prop:=iW H H'/\∀ a o xs,H a=some (.frz o (.lst xs))->H' a=some (.frz o (.lst xs))
theorem Kp.q (t:Kp H H'):Kq H H':=⟨t.1,fun a o xs h=>t.2 a o _ h⟩
theorem Kq.sq {K:ag} {a:Addr} {xs:List V} (t:Kq H H') (h:SqT K H a xs):SqT K H' a xs:=t.1.sq h
theorem Kq.sf {K:ag} {a:Addr} {xs:List V} (t:Kq H H') (h:SqF K H a xs):SqF K H' a xs:=by
 rcases h with ⟨o,h⟩ | h
 ·exact .inl ⟨o,t.2 _ _ _ h⟩
 ·exact .inr h
mutual
theorem RV.monoQ (p:φ<+:φ') (t:Kq H H'):∀ {x:PV} {v:V},RV C φ H x v->RV C φ' H' x v
 | .non,_,h=>h
 | .bl _,_,h=>h
 | .int _,_,h=>h
 | .str _,_,h=>h
 | .ty _,_,h=>h
 | .tup _,_,⟨a,vs,e,q,r⟩=>⟨a,vs,e,t.sq q,RVs.monoQ p t r⟩
 | .ref _,_,⟨a,e,q⟩=>⟨a,e,fX p q⟩
 | .fl _,_,⟨a,vs,e,q,r⟩=>⟨a,vs,e,t.sf q,RVs.monoQ p t r⟩
theorem RVs.monoQ (p:φ<+:φ') (t:Kq H H'):∀ {xs:List PV} {vs:List V},RVs C φ H xs vs->RVs C φ' H' xs vs
 | [],[],_=>trivial
 | _ :: _,_ :: _,⟨h,r⟩=>⟨RV.monoQ p t h,RVs.monoQ p t r⟩
 | [],_ :: _,h=>h.elim
 | _ :: _,[],h=>h.elim
end
theorem RV.mono (p:φ<+:φ') (t:Kp H H') {x:PV} {v:V} (h:RV C φ H x v):RV C φ' H' x v:=RV.monoQ p t.q h
theorem RVs.mono (p:φ<+:φ') (t:Kp H H') {xs:List PV} {vs:List V} (h:RVs C φ H xs vs):RVs C φ' H' xs vs:=RVs.monoQ p t.q h
theorem RVs.length:∀ {xs:List PV} {vs:List V},RVs C φ H xs vs->xs.length=vs.length
 | [],[],_=>rfl
 | _ :: _,_ :: _,⟨_,r⟩=>by simp [RVs.length r]
 | [],_ :: _,h=>h.elim
 | _ :: _,[],h=>h.elim
theorem RVs.get:∀ {xs:List PV} {vs:List V} {i:Nat} {v:V},RVs C φ H xs vs->vs[i]?=some v->∃ x,xs[i]?=some x/\RV C φ H x v
 | [],[],_,_,_,e=>by simp at e
 | x :: _,w :: _,0,v,⟨h,_⟩,e=>by
  have:w=v:=by simpa using e
  subst this;exact ⟨x,rfl,h⟩
 | _ :: xs,_ :: vs,i+1,v,⟨_,r⟩,e=>by
  obtain ⟨x,h1,h2⟩:=RVs.get (xs:=xs) (vs:=vs) (i:=i) (v:=v) r (by simpa using e)
  exact ⟨x,by simpa using h1,h2⟩
 | [],_ :: _,_,_,h,_=>h.elim
 | _ :: _,[],_,_,h,_=>h.elim
theorem RVs.at:∀ {xs:List PV} {vs:List V} {i:Nat} {x:PV},RVs C φ H xs vs->xs[i]?=some x->∃ v,vs[i]?=some v/\RV C φ H x v
 | [],[],_,_,_,e=>by simp at e
 | x :: _,w :: _,0,x',⟨h,_⟩,e=>by
  have:x=x':=by simpa using e
  subst this;exact ⟨w,rfl,h⟩
 | _ :: xs,_ :: vs,i+1,x,⟨_,r⟩,e=>by
  obtain ⟨v,h1,h2⟩:=RVs.at (xs:=xs) (vs:=vs) (i:=i) (x:=x) r (by simpa using e)
  exact ⟨v,by simpa using h1,h2⟩
 | [],_ :: _,_,_,h,_=>h.elim
 | _ :: _,[],_,_,h,_=>h.elim
theorem RVs.append:∀ {xs ys:List PV} {vs us:List V},RVs C φ H xs vs->RVs C φ H ys us->RVs C φ H (xs++ys) (vs++us)
 | [],_,[],_,_,h=>h
 | _ :: _,_,_ :: _,_,⟨h,r⟩,h'=>⟨h,RVs.append r h'⟩
 | [],_,_ :: _,_,h,_=>h.elim
 | _ :: _,_,[],_,h,_=>h.elim
theorem RVs.snoc {xs:List PV} {vs:List V} {x:PV} {v:V} (r:RVs C φ H xs vs) (h:RV C φ H x v):RVs C φ H (xs++[x]) (vs++[v]):=r.append ⟨h,trivial⟩
theorem RVs.drop:∀ {xs:List PV} {vs:List V} (n:Nat),RVs C φ H xs vs->RVs C φ H (xs.drop n) (vs.drop n)
 | _,_,0,h=>h
 | [],[],_+1,_=>trivial
 | _ :: _,_ :: _,n+1,⟨_,r⟩=>RVs.drop n r
 | [],_ :: _,_+1,h=>h.elim
 | _ :: _,[],_+1,h=>h.elim
theorem RVs.take:∀ {xs:List PV} {vs:List V} (n:Nat),RVs C φ H xs vs->RVs C φ H (xs.take n) (vs.take n)
 | [],[],0,_=>trivial
 | _ :: _,_ :: _,0,_=>trivial
 | [],[],_+1,_=>trivial
 | _ :: _,_ :: _,n+1,⟨h,r⟩=>⟨h,RVs.take n r⟩
 | [],_ :: _,_,h=>h.elim
 | _ :: _,[],_,h=>h.elim
theorem RVs.set {x:PV} {v:V} (h:RV C φ H x v):∀ {xs:List PV} {vs:List V} (n:Nat),RVs C φ H xs vs->RVs C φ H (xs.set n x) (vs.set n v)
 | [],[],_,_=>trivial
 | _ :: _,_ :: _,0,⟨_,r⟩=>⟨h,r⟩
 | _ :: _,_ :: _,n+1,⟨q,r⟩=>⟨q,RVs.set h n r⟩
 | [],_ :: _,_,h=>h.elim
 | _ :: _,[],_,h=>h.elim
theorem RKv.monoQ {κ:Type} (p:φ<+:φ') (t:Kq H H') {x:List (κ×PV)} {v:List (κ×V)} (h:RKv C φ H x v):RKv C φ' H' x v:=Paired.mapP h fun _ _ q=>⟨q.1,q.2.monoQ p t⟩
theorem RKd.monoQ (p:φ<+:φ') (t:Kq H H') {x:List (PV×PV)} {v:List (PV×Addr×V)} (h:RKd C φ H x v):RKd C φ' H' x v:=Paired.mapP h fun _ _ q=>⟨q.1,q.2.1,q.2.2.1.monoQ p t,q.2.2.2.monoQ p t⟩
theorem RKv.mono {κ:Type} (p:φ<+:φ') (t:Kp H H') {x:List (κ×PV)} {v:List (κ×V)} (h:RKv C φ H x v):RKv C φ' H' x v:=Paired.mapP h fun _ _ q=>⟨q.1,q.2.mono p t⟩
theorem RKd.mono (p:φ<+:φ') (t:Kp H H') {x:List (PV×PV)} {v:List (PV×Addr×V)} (h:RKd C φ H x v):RKd C φ' H' x v:=Paired.mapP h fun _ _ q=>⟨q.1,q.2.1,q.2.2.1.mono p t,q.2.2.2.mono p t⟩
theorem RE.mono (p:φ<+:φ') (t:Kp H H') {δ:Ev} {σ:St} (h:RE C φ H δ σ):RE C φ' H' δ σ:=⟨h.1,fun i x e=>let ⟨v,q,r⟩:=h.2 i x e; ⟨v,q,r.mono p t⟩⟩
theorem RE.set {δ:Ev} {σ:St} {x:PV} {v:V} (h:RE C φ H δ σ) (r:RV C φ H x v) (i:Nat):RE C φ H (δ.set i (some x)) (σ.set i (some v)):=by
 refine ⟨by rw [jd,jd]; exact h.1,fun j p e=>?_⟩
 by_cases hj:i=j
 ·subst hj
  by_cases hl:i < δ.length
  ·rw [fj hl] at e;cases e
   exact ⟨v,by rw [fj (by rw [<- h.1]; exact hl)],r⟩
  ·rw [ji (by rw [jd]; omega)] at e;cases e
 ·rw [cj hj] at e;rw [cj hj];exact h.2 j p e
theorem RO.stayQ {a:Addr} {o:MO} (p:φ<+:φ') (t:Kq H H') (e:H' a=H a) (h:RO C φ H a o):RO C φ' H' a o:=by
 cases o with
 | lst ps=>obtain ⟨vs,q,r⟩:=h; exact ⟨vs,e.trans q,r.monoQ p t⟩
 | dK ps=>obtain ⟨vs,q,r⟩:=h; exact ⟨vs,e.trans q,r.monoQ p t⟩
 | ins n fs=>obtain ⟨c,dx,ks,hc,q,r⟩:=h; exact ⟨c,dx,ks,hc,e.trans q,r.monoQ p t⟩
 | dD kvs=>obtain ⟨ks,q,r⟩:=h; exact ⟨ks,e.trans q,r.monoQ p t⟩
 | vw kd d=>obtain ⟨b,hb,q⟩:=h; exact ⟨b,fX p hb,e.trans q⟩
 | fz o=>
  cases o with
  | dK kvs=>obtain ⟨ob,ks,q,r⟩:=h; exact ⟨ob,ks,e.trans q,r.monoQ p t⟩
  | dD kvs=>obtain ⟨ob,ks,q,r⟩:=h; exact ⟨ob,ks,e.trans q,r.monoQ p t⟩
  | _=>exact h.elim
theorem RO.stay {a:Addr} {o:MO} (p:φ<+:φ') (t:Kp H H') (e:H' a=H a) (h:RO C φ H a o):RO C φ' H' a o:=h.stayQ p t.q e
theorem RO.some {a:Addr} {o:MO} (h:RO C φ H a o):∃ u,H a=some u:=by
 cases o with
 | lst ps=>obtain ⟨vs,q,r⟩:=h; exact ⟨_,q⟩
 | dK ps=>obtain ⟨vs,q,r⟩:=h; exact ⟨_,q⟩
 | ins n fs=>obtain ⟨c,dx,ks,hc,q,r⟩:=h; exact ⟨_,q⟩
 | dD kvs=>obtain ⟨ks,q,r⟩:=h; exact ⟨_,q⟩
 | vw kd d=>obtain ⟨b,hb,q⟩:=h; exact ⟨_,q⟩
 | fz o=>
  cases o with
  | dK kvs=>obtain ⟨ob,ks,q,r⟩:=h; exact ⟨_,q⟩
  | dD kvs=>obtain ⟨ob,ks,q,r⟩:=h; exact ⟨_,q⟩
  | _=>exact h.elim
theorem RH.get {h:PH} (r:RH C φ H h) {n:Nat} {o:MO} (e:h[n]?=some o):∃ a,φ[n]?=some a/\RO C φ H a o:=by
 have hn:=(af.mp e).1;have:n < φ.length:=by rw [r.len]; exact hn
 exact ⟨φ[n],by simp [this],r.at' n _ o (by simp [this]) e⟩
theorem RH.tracked {h:PH} (r:RH C φ H h) {n:Nat} {a:Addr} (e:φ[n]?=some a):∃ u,H a=some u:=by
 have hn:=(af.mp e).1;have:n < h.length:=by rw [<- r.len]; exact hn
 exact (r.at' n a h[n] e (by simp [this])).some
theorem RH.aside {h:PH} (r:RH C φ H h) {a:Addr} {o:HO} (e:H a=none):RH C φ (upd H a o) h:=
 ⟨r.len,r.nd,fun n b ob h1 h2=>by
  have q:=r.at' n b ob h1 h2;obtain ⟨u,hu⟩:=q.some;exact q.stay (ai) (Kp.new e) (aH (cR hu e))⟩
theorem RH.new {h:PH} (r:RH C φ H h) {a:Addr} {u:HO} {o:MO} (e:H a=none) (q:RO C (φ++[a]) (upd H a u) a o):RH C (φ++[a]) (upd H a u) (h++[o]):=by
 refine ⟨by simp [r.len],?_,fun n b ob h1 h2=>?_⟩
 ·rw [List.nodup_append];refine ⟨r.nd,by simp,fun x hx y hy z=>?_⟩;rw [c8] at hy;subst hy z;obtain ⟨n,hn⟩:=n5.mp hx;obtain ⟨u',hu⟩:=r.tracked hn;rw [e] at hu; cases hu
 ·by_cases hn:n < φ.length
  ·rw [bj hn] at h1;rw [bj (by rw [<- r.len]; exact hn)] at h2;have q':=r.at' n b ob h1 h2;obtain ⟨u',hu⟩:=q'.some;exact q'.stay (dj _ _) (Kp.new e) (aH (cR hu e))
  ·have hn':n=φ.length:=by
    have:=(af.mp h1).1;simp at this;omega
   subst hn';rw [au (az _),Nat.sub_self] at h1;rw [r.len,au (az _),Nat.sub_self] at h2;cases h1
   cases h2
   exact q
theorem RH.write {h:PH} (r:RH C φ H h) {n:Nat} {a:Addr} {u:HO} {o:MO} (e:φ[n]?=some a) (t:rT (H a)) (q:RO C φ (upd H a u) a o):RH C φ (upd H a u) (h.set n o):=by
 refine ⟨by rw [jd]; exact r.len,r.nd,fun m b ob h1 h2=>?_⟩
 by_cases hm:n=m
 ·subst hm;rw [e] at h1; cases h1;have hl:n < h.length:=by rw [<- r.len]; exact (af.mp e).1
  rw [fj hl] at h2;cases h2
  exact q
 ·rw [cj hm] at h2;have hb:b≠a:=fun z=>by
   subst z;exact hm ((List.getElem?_inj (af.mp e).1 r.nd).mp (e.trans h1.symm))
  exact (r.at' m b ob h1 h2).stay ai (Kp.upd t) (aH hb)
end
section
variable (C:MC) (φ:List Addr) (H:Hp)
def post (r:Rs PV) (Q:VK):Prop:=match r with
 | .ok p h=>∀ φ' v H',φ<+:φ'->Kp H H'->RH C φ' H' h->RV C φ' H' p v->Q v H'
 | .exc x h=>∀ φ' H',φ<+:φ'->Kp H H'->RH C φ' H' h->C.ex φ' H' x
 | .bad=>False
def bW (r:Rs Bool) (Q:Bool->Hp->Prop):Prop:=match r with
 | .ok b h=>∀ φ' H',φ<+:φ'->Kp H H'->RH C φ' H' h->Q b H'
 | .exc x h=>∀ φ' H',φ<+:φ'->Kp H H'->RH C φ' H' h->C.ex φ' H' x
 | .bad=>False
def postA (r:Rs (List PV)) (Q:List V->Hp->Prop):Prop:=match r with
 | .ok ps h=>∀ φ' vs H',φ<+:φ'->Kp H H'->RH C φ' H' h->RVs C φ' H' ps vs->Q vs H'
 | .exc x h=>∀ φ' H',φ<+:φ'->Kp H H'->RH C φ' H' h->C.ex φ' H' x
 | .bad=>False
def bT (r:Fl) (D:Ends):Prop:=match r with
 | .nx δ h=>∀ φ' σ H',φ<+:φ'->Kp H H'->RH C φ' H' h->RE C φ' H' δ σ->D.nx σ H'
 | .rt p h=>∀ φ' v H',φ<+:φ'->Kp H H'->RH C φ' H' h->RV C φ' H' p v->D.rt v H'
 | .bk δ h=>∀ φ' σ H',φ<+:φ'->Kp H H'->RH C φ' H' h->RE C φ' H' δ σ->D.bk σ H'
 | .ct δ h=>∀ φ' σ H',φ<+:φ'->Kp H H'->RH C φ' H' h->RE C φ' H' δ σ->D.ct σ H'
 | .exc x h=>∀ φ' H',φ<+:φ'->Kp H H'->RH C φ' H' h->C.ex φ' H' x
 | .bad=>False
end
section
variable {C:MC} {φ φ1:List Addr} {H H1:Hp}
theorem post.weak {r:Rs PV} {Q:VK} (p:φ<+:φ1) (t:Kp H H1) (h:post C φ H r Q):post C φ1 H1 r Q:=by
 cases r with
 | ok a h'=>exact fun φ' v H' p' t'=>h φ' v H' (p.trans p') (t.trans t')
 | exc a h'=>exact fun φ' H' p' t'=>h φ' H' (p.trans p') (t.trans t')
 | bad=>exact h
theorem bW.weak {r:Rs Bool} {Q:Bool->Hp->Prop} (p:φ<+:φ1) (t:Kp H H1) (h:bW C φ H r Q):bW C φ1 H1 r Q:=by
 cases r with
 | ok a h'=>exact fun φ' H' p' t'=>h φ' H' (p.trans p') (t.trans t')
 | exc a h'=>exact fun φ' H' p' t'=>h φ' H' (p.trans p') (t.trans t')
 | bad=>exact h
theorem postA.weak {r:Rs (List PV)} {Q:List V->Hp->Prop} (p:φ<+:φ1) (t:Kp H H1) (h:postA C φ H r Q):postA C φ1 H1 r Q:=by
 cases r with
 | ok a h'=>exact fun φ' v H' p' t'=>h φ' v H' (p.trans p') (t.trans t')
 | exc a h'=>exact fun φ' H' p' t'=>h φ' H' (p.trans p') (t.trans t')
 | bad=>exact h
theorem bT.weak {r:Fl} {D:Ends} (p:φ<+:φ1) (t:Kp H H1) (h:bT C φ H r D):bT C φ1 H1 r D:=by
 cases r with
 | nx a h'=>exact fun φ' v H' p' t'=>h φ' v H' (p.trans p') (t.trans t')
 | rt a h'=>exact fun φ' v H' p' t'=>h φ' v H' (p.trans p') (t.trans t')
 | bk a h'=>exact fun φ' v H' p' t'=>h φ' v H' (p.trans p') (t.trans t')
 | ct a h'=>exact fun φ' v H' p' t'=>h φ' v H' (p.trans p') (t.trans t')
 | exc a h'=>exact fun φ' H' p' t'=>h φ' H' (p.trans p') (t.trans t')
 | bad=>exact h
theorem post.imp {r:Rs PV} {Q Q':VK} (h:post C φ H r Q) (i:∀ v H',Q v H'->Q' v H'):post C φ H r Q':=by
 cases r with
 | ok a h'=>exact fun φ' v H' p t rh rv=>i v H' (h φ' v H' p t rh rv)
 | exc a h'=>exact h
 | bad=>exact h
theorem post.bind {r:Rs PV} {f:PV->PH->Rs PV} {Q:VK} (h:post C φ H (r.bind f) Q):post C φ H r fun v H1=>∃ φ1 p h1,φ<+:φ1/\Kp H H1/\RH C φ1 H1 h1/\RV C φ1 H1 p v/\post C φ1 H1 (f p h1) Q:=by
 cases r with
 | ok a h'=>exact fun φ' v H' p t rh rv=>⟨φ',a,h',p,t,rh,rv,post.weak p t h⟩
 | exc a h'=>exact h
 | bad=>exact h
theorem post.bindB {r:Rs PV} {f:PV->PH->Rs Bool} {Q:Bool->Hp->Prop} (h:bW C φ H (r.bind f) Q):post C φ H r fun v H1=>∃ φ1 p h1,φ<+:φ1/\Kp H H1/\RH C φ1 H1 h1/\RV C φ1 H1 p v/\bW C φ1 H1 (f p h1) Q:=by
 cases r with
 | ok a h'=>exact fun φ' v H' p t rh rv=>⟨φ',a,h',p,t,rh,rv,bW.weak p t h⟩
 | exc a h'=>exact h
 | bad=>exact h
theorem bW.bind {r:Rs Bool} {f:Bool->PH->Rs PV} {Q:VK} (h:post C φ H (r.bind f) Q):bW C φ H r fun b H1=>∃ φ1 h1,φ<+:φ1/\Kp H H1/\RH C φ1 H1 h1/\post C φ1 H1 (f b h1) Q:=by
 cases r with
 | ok a h'=>exact fun φ' H' p t rh=>⟨φ',h',p,t,rh,post.weak p t h⟩
 | exc a h'=>exact h
 | bad=>exact h
theorem bW.bindB {r:Rs Bool} {f:Bool->PH->Rs Bool} {Q:Bool->Hp->Prop} (h:bW C φ H (r.bind f) Q):bW C φ H r fun b H1=>∃ φ1 h1,φ<+:φ1/\Kp H H1/\RH C φ1 H1 h1/\bW C φ1 H1 (f b h1) Q:=by
 cases r with
 | ok a h'=>exact fun φ' H' p t rh=>⟨φ',h',p,t,rh,bW.weak p t h⟩
 | exc a h'=>exact h
 | bad=>exact h
theorem postA.bind {r:Rs (List PV)} {f:List PV->PH->Rs PV} {Q:VK} (h:post C φ H (r.bind f) Q):postA C φ H r fun vs H1=>∃ φ1 ps h1,φ<+:φ1/\Kp H H1/\RH C φ1 H1 h1/\RVs C φ1 H1 ps vs/\post C φ1 H1 (f ps h1) Q:=by
 cases r with
 | ok a h'=>exact fun φ' v H' p t rh rv=>⟨φ',a,h',p,t,rh,rv,post.weak p t h⟩
 | exc a h'=>exact h
 | bad=>exact h
theorem postA.bindA {r:Rs (List PV)} {f:List PV->PH->Rs (List PV)} {Q:List V->Hp->Prop} (h:postA C φ H (r.bind f) Q):postA C φ H r fun vs H1=>∃ φ1 ps h1,φ<+:φ1/\Kp H H1/\RH C φ1 H1 h1/\RVs C φ1 H1 ps vs/\postA C φ1 H1 (f ps h1) Q:=by
 cases r with
 | ok a h'=>exact fun φ' v H' p t rh rv=>⟨φ',a,h',p,t,rh,rv,postA.weak p t h⟩
 | exc a h'=>exact h
 | bad=>exact h
theorem post.bindA {r:Rs PV} {f:PV->PH->Rs (List PV)} {Q:List V->Hp->Prop} (h:postA C φ H (r.bind f) Q):post C φ H r fun v H1=>∃ φ1 p h1,φ<+:φ1/\Kp H H1/\RH C φ1 H1 h1/\RV C φ1 H1 p v/\postA C φ1 H1 (f p h1) Q:=by
 cases r with
 | ok a h'=>exact fun φ' v H' p t rh rv=>⟨φ',a,h',p,t,rh,rv,postA.weak p t h⟩
 | exc a h'=>exact h
 | bad=>exact h
theorem post.val {p:PV} {v:V} {h:PH} {Q:VK} (q:post C φ H (.ok p h) Q) (rh:RH C φ H h) (rv:RV C φ H p v):Q v H:=q φ v H ai (Kp.refl H) rh rv
end
end L2
namespace L2
open PySem PySem.Spec PyProof.Rows
structure Cxt (C:MC) (k:Nat) (X:Cx):Prop where
 K:X.K=C.K
 calm:X.calm=true
 room:eM k X.A
 bn:∀ x∈C.bs,X.mg x=none
 w:X.w=C.w
theorem Cxt.hu {C:MC} {k:Nat} {X:Cx} (c:Cxt C k X):X.A.units+1 < cLine:=Qk c.room
theorem Cxt.hu64 {C:MC} {k:Nat} {X:Cx} (c:Cxt C k X):X.A.units+64 < cLine:=c.room.units
theorem Cxt.comp {C:MC} {k:Nat} {X:Cx} (c:Cxt C k X) (sc:Scope) (N:List Str) (a:Addr) (fp:List Addr) (s:Shared) (H:Hp):Cxt C k (X.comp sc N a fp s H):=⟨c.K,c.calm,c.room,c.bn,c.w⟩
section
variable (C:MC)
def rd (m:Me):TE:=fun σ H Q=>∃ φ δ h,RH C φ H h/\RE C φ H δ σ/\post C φ H (m δ h) Q
def rdB (m:Ev->PH->Rs Bool):TT:=fun σ H Q=>∃ φ δ h,RH C φ H h/\RE C φ H δ σ/\bW C φ H (m δ h) Q
def rdA (m:Ev->PH->Rs (List PV)):TA:=fun σ H Q=>∃ φ δ h,RH C φ H h/\RE C φ H δ σ/\postA C φ H (m δ h) Q
def rdS (m:Ms):TS:=fun D σ H=>∃ φ δ h,RH C φ H h/\RE C φ H δ σ/\bT C φ H (m δ h) D
def r2 (g:PV->PV->PH->Rs PV):R2:=fun x y H Q=>∃ φ h p q,RH C φ H h/\RV C φ H p x/\RV C φ H q y/\post C φ H (g p q h) Q
def r1 (g:PV->PH->Rs PV):V->Hp->VK->Prop:=fun x H Q=>∃ φ h p,RH C φ H h/\RV C φ H p x/\post C φ H (g p h) Q
def rL (g:List PV->PH->Rs PV):List V->Hp->VK->Prop:=fun xs H Q=>∃ φ h ps,RH C φ H h/\RVs C φ H ps xs/\post C φ H (g ps h) Q
end
variable {C:MC} {k:Nat} {X:Cx}
def SE (C:MC) (k:Nat) (X:Cx) (e:Expr) (m:Me):Prop:=Cxt C k X->PE X e (rd C m)
def ST (C:MC) (k:Nat) (X:Cx) (e:Expr) (m:Ev->PH->Rs Bool):Prop:=Cxt C k X->PT X e (rdB C m)
def SA (C:MC) (k:Nat) (X:Cx) (es:List Expr) (m:Ev->PH->Rs (List PV)):Prop:=Cxt C k X->PA X es (rdA C m)
def SSt (C:MC) (k:Nat) (X:Cx) (st:Stmt) (m:Ms):Prop:=Cxt C k X->PS X st (rdS C m)
def SSs (C:MC) (k:Nat) (X:Cx) (st:List Stmt) (m:Ms):Prop:=Cxt C k X->PSs X st (rdS C m)
def OpS (C:MC) (k:Nat) (X:Cx) (f:Value->Value->Sem Value) (g:PV->PV->PH->Rs PV):Prop:=Cxt C k X->OpR X f (r2 C g)
def UnS (C:MC) (k:Nat) (X:Cx) (f:Value->Sem Value) (g:PV->PH->Rs PV):Prop:=Cxt C k X->UnR X f (r1 C g)
def mF (C:MC) (k:Nat) (X:Cx) (f:Value) (g:List PV->PH->Rs PV):Prop:=Cxt C k X->cJ X f (rL C g)
def lY:Ev->Nat->Option PV
 | [],_=>none
 | x :: _,0=>x
 | _ :: r,n+1=>lY r n
@[simp] theorem Px (x:Option PV) (r:Ev):lY (x :: r) 0=x:=(rfl)
@[simp] theorem Py (x:Option PV) (r:Ev) (n:Nat):lY (x :: r) (n+1)=lY r n:=(rfl)
theorem uL:∀ {δ:Ev} {i:Nat} {p:PV},lY δ i=some p->δ[i]?=some (some p)
 | [],_,_,h=>by cases h
 | x :: _,0,p,h=>by
  have h':x=some p:=h;simp [h']
 | _ :: r,n+1,p,h=>by
  rw [d7];exact uL (δ:=r) (i:=n) h
def mV (i:Nat):Me:=fun δ h=>match lY δ i with
 | some p=>.ok p h
 | none=>.bad
def mC (p:PV):Me:=fun _ h=>.ok p h
theorem aC (i:Nat) {x:Str} {pos:Pos} (hN:X.N[i]?=some x:=by rfl) (hv:Vis X.env.scope x:=by first | exact Or.inl rfl | exact Or.inr (Or.inl rfl) | exact Or.inr (Or.inr rfl)) (hd:(x == ("__debug__" : Str))=false:=by decide)
  (hcd:(x == ("__classdict__" : Str))=false:=by decide):SE C k X (.Name x pos) (mV i):=fun _=>by
 refine (GZ hN hv hd hcd).imp fun σ H Q h=>?_;obtain ⟨φ,δ,h,rh,re,p⟩:=h;unfold mV at p;cases e:lY δ i with
 | none=>rw [e] at p; exact p.elim
 | some x=>
  rw [e] at p;obtain ⟨v,hv,rv⟩:=re.2 i x (uL e);exact ⟨v,hv,p.val rh rv⟩
theorem aI {i j pos}:SE C k X (.Constant (.int i) j pos) (mC (.int i)):=fun _=>Nu.imp fun σ H Q ⟨φ,δ,h,rh,re,p⟩=>p.val rh rfl
theorem Lf {i j pos}:SE C k X (.Constant (.bool i) j pos) (mC (.bl i)):=fun _=>PY.imp fun σ H Q ⟨φ,δ,h,rh,re,p⟩=>p.val rh rfl
theorem jZ {i j pos}:SE C k X (.Constant (.str i) j pos) (mC (.str i)):=fun _=>Nv.imp fun σ H Q ⟨φ,δ,h,rh,re,p⟩=>p.val rh rfl
theorem HV {x:Str} {n:String} {pos:Pos} (hv:kh x=some (.type n)) (hb:x∈C.bs:=by decide) (hg:Gl X x:=by rfl) (hn:x≠"__name__" := by decide) (hd:(x == ("__debug__" : Str))=false:=by decide):SE C k X (.Name x pos) (mC (.ty n)):=fun c=>
 (Kv (v:=.ty n) hg (c.bn x hb) hv rfl hn hd).imp fun σ H Q ⟨φ,δ,h,rh,re,p⟩=>p.val rh rfl
def aD (g:PV->PV->PH->Rs PV) (ma mb:Me):Me:=fun δ h=>(ma δ h).bind fun x h1=>(mb δ h1).bind fun y h2=>g x y h2
theorem EJ {g:PV->PV->PH->Rs PV} {ma mb:Me} {σ:St} {H:Hp} {Q:VK} (h:rd C (aD g ma mb) σ H Q):tOp (r2 C g) (rd C ma) (rd C mb) σ H Q:=by
 obtain ⟨φ,δ,h,rh,re,p⟩:=h;refine ⟨φ,δ,h,rh,re,(post.bind p).imp ?_⟩;rintro v H1 ⟨φ1,x,h1,p1,t1,rh1,rv1,q1⟩;refine ⟨φ1,δ,h1,rh1,re.mono p1 t1,(post.bind q1).imp ?_⟩;rintro u H2 ⟨φ2,y,h2,p2,t2,rh2,rv2,q2⟩;exact ⟨φ2,h2,x,y,rh2,rv1.mono p2 t2,rv2,q2⟩
section
variable {a b e:Expr} {ma mb:Me} {g:PV->PV->PH->Rs PV} {pos:Pos}
theorem aM {op:Operator} (ho:OpS C k X (gw op) g) (ha:SE C k X a ma) (hb:SE C k X b mb):SE C k X (.BinOp a op b pos) (aD g ma mb):=fun c=>
 (Q6 (ho c) (ha c) (hb c)).imp fun σ H Q h=>EJ h
theorem HW {op:CmpOp} (ho:OpS C k X (fm op) g) (ha:SE C k X a ma) (hb:SE C k X b mb) (hm:behindInMarks op b=false:=by first | exact He _ | rfl):SE C k X (.Compare a [op] [b] pos) (aD g ma mb):=fun c=>
 (KD (ho c) (ha c) (hb c) hm).imp fun σ H Q h=>EJ h
def mUn (g:PV->PH->Rs PV) (ma:Me):Me:=fun δ h=>(ma δ h).bind g
theorem T5 {op:UnaryOp} {g:PV->PH->Rs PV} (ho:UnS C k X (unaryOp op) g) (ha:SE C k X a ma):SE C k X (.UnaryOp op a pos) (mUn g ma):=fun c=>
 (Q7 (ho c) (ha c)).imp fun σ H Q h=>by
  obtain ⟨φ,δ,h,rh,re,p⟩:=h;refine ⟨φ,δ,h,rh,re,(post.bind p).imp ?_⟩;rintro v H1 ⟨φ1,x,h1,p1,t1,rh1,rv1,q1⟩;exact ⟨φ1,h1,x,rh1,rv1,q1⟩
end
def aS (h:PH) (n:Nat):Option (List PV):=match h[n]? with
 | some (.lst xs)=>some xs
 | _=>none
theorem cD {φ:List Addr} {H:Hp} {h:PH} {n:Nat} {xs:List PV} (rh:RH C φ H h) (e:aS h n=some xs):∃ a vs,φ[n]?=some a/\SqL C.K H a vs/\RVs C φ H xs vs:=by
 unfold aS at e;cases q:h[n]? with
 | none=>rw [q] at e; cases e
 | some o=>
  rw [q] at e;obtain ⟨a,ha,ro⟩:=rh.get q;cases o with
  | lst ys=>cases e; obtain ⟨vs,q',r⟩:=ro; exact ⟨a,vs,ha,SqL.of q',r⟩
  | _=>cases e
def eO (h:PH) (n:Nat):Option (List PV):=match h[n]? with
 | some (.lst xs)=>some xs
 | _=>none
theorem iE {h:PH} {n:Nat} {xs:List PV} (e:eO h n=some xs):h[n]?=some (.lst xs):=by
 unfold eO at e;cases q:h[n]? with
 | none=>rw [q] at e; cases e
 | some o=>
  rw [q] at e;cases o with
  | lst ys=>cases e; rfl
  | _=>cases e
def rW (x:PV) (h:PH):Option (List PV):=match x with
 | .ref n=>aS h n
 | .fl xs=>some xs
 | _=>none
theorem Bv {φ:List Addr} {H:Hp} {h:PH} {x:PV} {v:V} {xs:List PV} (rh:RH C φ H h) (rv:RV C φ H x v) (e:rW x h=some xs):∃ a vs,v=.ref a/\SqL C.K H a vs/\RVs C φ H xs vs:=by
 cases x with
 | ref n=>
  obtain ⟨a,rfl,ha⟩:=rv;obtain ⟨a2,vs,ha2,sa,ra⟩:=cD rh e;rw [ha] at ha2; cases ha2;exact ⟨a,vs,rfl,sa,ra⟩
 | fl ys=>
  cases e
  obtain ⟨a,vs,rfl,sa,ra⟩:=rv;exact ⟨a,vs,rfl,sa.sq,ra⟩
 | _=>cases e
def N5:List PV->Bool
 | []=>true
 | _ :: _=>false
def HX:PV->PV->PH->Rs PV:=fun x y h=>match x,y with
 | .int i,.int j=>.ok (.int (i+j)) h
 | .str i,.str j=>if i.length+j.length<=aw then .ok (.str (i++j)) h else .bad
 | .tup xs,.tup ys=>if N5 xs=false/\xs.length+ys.length<=aw then .ok (.tup (xs++ys)) h else .bad
 | .ref a,.ref b=>match eO h a,eO h b with
  | some xs,some ys=>if xs.length+ys.length<=aw then .ok (.ref h.length) (h++[.lst (xs++ys)]) else .bad
  | _,_=>.bad
 | _,_=>.bad
theorem post.ite {φ:List Addr} {H:Hp} {c:Prop} [Decidable c] {r:Rs PV} {Q:VK} (h:post C φ H (if c then r else .bad) Q):c/\post C φ H r Q:=by
 by_cases hc:c
 ·rw [if_pos hc] at h; exact ⟨hc,h⟩
 ·rw [if_neg hc] at h; exact h.elim
theorem post.lnew {φ:List Addr} {H:Hp} {h:PH} {xs:List PV} {vs:List V} {Q:VK} (q:post C φ H (.ok (.ref h.length) (h++[.lst xs])) Q) (rh:RH C φ H h) (r:RVs C φ H xs vs) {p:Addr} (hp:H p=none):Q (.ref p) (upd H p (.lst vs)):=
 q (φ++[p]) (.ref p) _ (dj _ _) (Kp.new hp) (rh.new hp ⟨vs,aK,r.mono (dj _ _) (Kp.new hp)⟩) ⟨p,rfl,by rw [<- rh.len]; simp⟩
theorem post.tnew {φ:List Addr} {H:Hp} {h:PH} {xs:List PV} {vs:List V} {Q:VK} (q:post C φ H (.ok (.tup xs) h) Q) (rh:RH C φ H h) (r:RVs C φ H xs vs) {p:Addr} (hp:H p=none):Q (.ref p) (upd H p (.tup vs)):=
 q φ (.ref p) _ ai (Kp.new hp) (rh.aside hp) ⟨p,vs,rfl,SqT.of aK,r.mono ai (Kp.new hp)⟩
theorem post.lset {φ:List Addr} {H:Hp} {h:PH} {n:Nat} {a:Addr} {p:PV} {v:V} {xs:List PV} {ws vs:List V} {Q:VK} (q:post C φ H (.ok p (h.set n (.lst xs))) Q) (rh:RH C φ H h) (e:φ[n]?=some a) (hl:H a=some (.lst ws)) (r:RVs C φ H xs vs) (rv:RV C φ H p v):Q v (upd H a (.lst vs)):=
 q φ v _ ai (Kp.lst hl) (rh.write e (by rw [hl]; trivial) ⟨vs,aK,r.mono ai (Kp.lst hl)⟩) (rv.mono ai (Kp.lst hl))
theorem HY {xs:List PV} {vs:List V} {φ:List Addr} {H:Hp} (r:RVs C φ H xs vs) (h:N5 xs=false):vs≠[]:=by
 cases xs with
 | nil=>cases h
 | cons x xs=>
  cases vs with
  | nil=>exact r.elim
  | cons=>intro z; cases z
theorem QD:OpS C k X (gw .Add) HX:=fun c=>(L5 C.K c.K).imp fun x y H Q h=>by
 obtain ⟨φ,h,p,q,rh,rx,ry,po⟩:=h;unfold HX at po;cases p with
 | int i=>
  cases q with
  | int j=>cases rx; cases ry; exact po.val rh rfl
  | _=>exact po.elim
 | str i=>
  cases q with
  | str j=>cases rx; cases ry; exact ⟨po.ite.1,po.ite.2.val rh rfl⟩
  | _=>exact po.elim
 | tup xs=>
  cases q with
  | tup ys=>
   obtain ⟨a,vs,rfl,sa,ra⟩:=rx;obtain ⟨b,us,rfl,sb,rb⟩:=ry;obtain ⟨⟨h1,h2⟩,po⟩:=po.ite;refine .inr ⟨a,b,vs,us,rfl,rfl,sa,sb,HY ra h1,by rw [<- ra.length,<- rb.length]; exact h2,fun z=>?_,fun z p hp=>po.tnew rh (ra.append rb) hp⟩;subst z;have e:ys=[]:=List.eq_nil_of_length_eq_zero rb.length;subst e;exact po.val rh ⟨a,vs,rfl,sa,by rw [e7]; exact ra⟩
  | _=>exact po.elim
 | ref n=>
  cases q with
  | ref m=>
   obtain ⟨a,rfl,ha⟩:=rx;obtain ⟨b,rfl,hb⟩:=ry;dsimp only at po;cases e1:eO h n with
   | none=>rw [e1] at po; exact po.elim
   | some xs=>
    cases e2:eO h m with
    | none=>rw [e1,e2] at po; exact po.elim
    | some ys=>
     rw [e1,e2] at po;obtain ⟨vs,h1,r1⟩:=rh.at' n a _ ha (iE e1);obtain ⟨us,h2,r2⟩:=rh.at' m b _ hb (iE e2);obtain ⟨hz,po⟩:=po.ite;exact .inl ⟨a,b,vs,us,rfl,rfl,h1,h2,by rw [<- r1.length,<- r2.length]; exact hz,fun p hp=>po.lnew rh (r1.append r2) hp⟩
  | _=>exact po.elim
 | _=>exact po.elim
def vInt (P:Int->Int->Prop) [∀ i j,Decidable (P i j)] (f:Int->Int->Int):PV->PV->PH->Rs PV:=fun x y h=>match x,y with
 | .int i,.int j=>if P i j then .ok (.int (f i j)) h else .bad
 | _,_=>.bad
theorem EK {f:Value->Value->Sem Value} {P:Int->Int->Prop} [∀ i j,Decidable (P i j)] {g:Int->Int->Int} (ho:OpR X f (yJ P g)):OpS C k X f (vInt P g):=fun c=>ho.imp fun x y H Q h=>by
 obtain ⟨φ,h,p,q,rh,rx,ry,po⟩:=h;unfold vInt at po;cases p with
 | int i=>
  cases q with
  | int j=>cases rx; cases ry; exact ⟨po.ite.1,po.ite.2.val rh rfl⟩
  | _=>exact po.elim
 | _=>exact po.elim
noncomputable instance (i j:Int):Decidable (B3 i j):=ip _
noncomputable instance (i j:Int):Decidable (Hd i j):=ip _
noncomputable instance (i j:Int):Decidable (Fw i j):=ip _
def Dt:PV->PV->PH->Rs PV:=fun x y h=>match x,y with
 | .int i,.int j=>.ok (.int (i - j)) h
 | _,_=>.bad
theorem HZ:OpS C k X (gw .Sub) Dt:=fun c=>L6.imp fun x y H Q h=>by
 obtain ⟨φ,h,p,q,rh,rx,ry,po⟩:=h;unfold Dt at po;cases p with
 | int i=>
  cases q with
  | int j=>cases rx; cases ry; exact po.val rh rfl
  | _=>exact po.elim
 | _=>exact po.elim
noncomputable abbrev oK:=vInt B3 fun i j=>i*j
noncomputable abbrev iF:=vInt Hd fun i j=>i / j
abbrev dU:=vInt (fun _ j=>0 < j) fun i j=>i % j
noncomputable abbrev Oe:=vInt Fw fun i j=>i ^ j.toNat
theorem rX:OpS C k X (gw .Mult) oK:=EK L7
theorem kA:OpS C k X (gw .FloorDiv) iF:=EK L8
theorem eQ:OpS C k X (gw .Mod) dU:=EK L9
theorem QE:OpS C k X (gw .Pow) Oe:=EK L'
def I0:PV->PH->Rs PV:=fun x h=>match x with
 | .int i=>.ok (.int (-i)) h
 | _=>.bad
end L2
namespace L2
open PySem PySem.Spec PyProof.Rows
variable {C:MC} {k:Nat} {X:Cx}
def Bw (f:Int->Int->Bool) (g:List Nat->List Nat->Bool):PV->PV->PH->Rs PV:=fun x y h=>match x,y with
 | .int i,.int j=>.ok (.bl (f i j)) h
 | .str i,.str j=>.ok (.bl (g i.cps.toList j.cps.toList)) h
 | _,_=>.bad
theorem QF {f:Value->Value->Sem Value} {p:Int->Int->Bool} {g:List Nat->List Nat->Bool} (ho:OpR X f (HK p g)):OpS C k X f (Bw p g):=fun c=>ho.imp fun x y H Q h=>by
 obtain ⟨φ,h,p,q,rh,rx,ry,po⟩:=h;unfold Bw at po;cases p with
 | int i=>
  cases q with
  | int j=>cases rx; cases ry; exact po.val rh rfl
  | _=>exact po.elim
 | str i=>
  cases q with
  | str j=>cases rx; cases ry; exact po.val rh rfl
  | _=>exact po.elim
 | _=>exact po.elim
abbrev vLt:=Bw (fun i j=>decide (i < j)) fun i j=>decide (i < j)
abbrev vGt:=Bw (fun i j=>decide (j < i)) fun i j=>decide (j < i)
abbrev vLe:=Bw (fun i j=>decide (i<=j)) fun i j=>!decide (j < i)
abbrev vGe:=Bw (fun i j=>decide (j<=i)) fun i j=>!decide (i < j)
theorem QG:OpS C k X (fm .Gt) vGt:=QF O4
mutual
def PV.d:PV->Option D
 | .non=>some .non
 | .bl b=>some (.bl b)
 | .int i=>some (.int i)
 | .str x=>some (.str x)
 | .tup xs=>match PV.ds xs with
  | some ds=>some (.tup ds)
  | none=>none
 | .ref _=>none
 | .ty _=>none
 | .fl _=>none
def PV.ds:List PV->Option (List D)
 | []=>some []
 | x :: xs=>match PV.d x,PV.ds xs with
  | some d,some ds=>some (d :: ds)
  | _,_=>none
end
section
variable {φ:List Addr} {H:Hp}
mutual
theorem RV.rep:∀ {x:PV} {d:D} {v:V},RV C φ H x v->x.d=some d->Rep C.K H d v
 | .non,_,_,h,e=>by cases e; exact h
 | .bl _,_,_,h,e=>by cases e; exact h
 | .int _,_,_,h,e=>by cases e; exact h
 | .str _,_,_,h,e=>by cases e; exact h
 | .tup xs,d,v,⟨a,vs,e1,q,r⟩,e=>by
  unfold PV.d at e;cases e2:PV.ds xs with
  | none=>rw [e2] at e; cases e
  | some ds=>
   rw [e2] at e;cases e
   exact ⟨a,vs,e1,q,RVs.reps r e2⟩
 | .ref _,_,_,_,e=>by cases e
 | .ty _,_,_,_,e=>by cases e
 | .fl _,_,_,_,e=>by cases e
theorem RVs.reps:∀ {xs:List PV} {ds:List D} {vs:List V},RVs C φ H xs vs->PV.ds xs=some ds->fR C.K H ds vs
 | [],_,[],_,e=>by cases e; trivial
 | x :: xs,_,v :: vs,⟨h,r⟩,e=>by
  unfold PV.ds at e;cases e1:PV.d x with
  | none=>rw [e1] at e; cases e
  | some d=>
   cases e2:PV.ds xs with
   | none=>rw [e1,e2] at e; cases e
   | some ds=>
    rw [e1,e2] at e;cases e
    exact ⟨RV.rep h e1,RVs.reps r e2⟩
 | [],_,_ :: _,h,_=>h.elim
 | _ :: _,_,[],h,_=>h.elim
end
end
def A2 (x y:PV) (h:PH):Option Bool:=match x.d,y.d with
 | some d,some e=>if d.depth<=40 then some (eqD d e) else none
 | _,_=>match rW x h,rW y h with
   | some xs,some ys=>match PV.ds xs,PV.ds ys with
    | some ds,some es=>if D.depths ds<=40 then some (fW ds es) else none
    | _,_=>none
   | _,_=>none
def ofB (o:Option Bool) (h:PH):Rs PV:=match o with
 | some b=>.ok (.bl b) h
 | none=>.bad
def vEq:PV->PV->PH->Rs PV:=fun x y h=>ofB (A2 x y h) h
def vNe:PV->PV->PH->Rs PV:=fun x y h=>ofB ((A2 x y h).map not) h
theorem uM {φ:List Addr} {H:Hp} {h:PH} {p q:PV} {x y:V} {b:Bool} (rh:RH C φ H h) (rx:RV C φ H p x) (ry:RV C φ H q y) (e:A2 p q h=some b):
  (∃ d e,Rep C.K H d x/\Rep C.K H e y/\d.depth<=40/\b=eqD d e)\/(∃ ds es,FU C.K H ds x/\FU C.K H es y/\D.depths ds<=40/\b=fW ds es):=by
 unfold A2 at e;split at e
 ·rename_i d e' h1 h2;split at e
  ·rename_i hd;cases e
   exact .inl ⟨d,e',rx.rep h1,ry.rep h2,hd,rfl⟩
  ·cases e
 ·split at e
  ·rename_i xs ys h1 h2;split at e
   ·rename_i ds es h3 h4;split at e
    ·rename_i hd;cases e
     obtain ⟨a',vs,rfl,sa,ra⟩:=Bv rh rx h1;obtain ⟨b'',us,rfl,sb,rb⟩:=Bv rh ry h2;exact .inr ⟨ds,es,⟨a',vs,rfl,sa,ra.reps h3⟩,⟨b'',us,rfl,sb,rb.reps h4⟩,hd,rfl⟩
    ·cases e
   ·cases e
  ·cases e
theorem post.ofB {φ:List Addr} {H:Hp} {h:PH} {o:Option Bool} {Q:VK} (q:post C φ H (ofB o h) Q):∃ b,o=some b/\post C φ H (.ok (.bl b) h) Q:=by
 cases o with
 | none=>exact q.elim
 | some b=>exact ⟨b,rfl,q⟩
theorem Du:OpS C k X (fm .Eq) vEq:=fun c=>((O8 c.hu64 C.K c.K).or (Oa c.hu64 C.K c.K)).imp fun x y H Q h=>by
 obtain ⟨φ,h,p,q,rh,rx,ry,po⟩:=h;obtain ⟨b,e,po⟩:=po.ofB;rcases uM rh rx ry e with ⟨d,e',h1,h2,h3,rfl⟩ | ⟨d,e',h1,h2,h3,rfl⟩
 ·exact .inl ⟨d,e',h1,h2,h3,po.val rh rfl⟩
 ·exact .inr ⟨d,e',h1,h2,h3,po.val rh rfl⟩
theorem Lg:OpS C k X (fm .NotEq) vNe:=fun c=>((O9 c.hu64 C.K c.K).or (Ob c.hu64 C.K c.K)).imp fun x y H Q h=>by
 obtain ⟨φ,h,p,q,rh,rx,ry,po⟩:=h;obtain ⟨b,e,po⟩:=po.ofB;cases e0:A2 p q h with
 | none=>rw [e0] at e; cases e
 | some b'=>
  rw [e0] at e;cases e
  rcases uM rh rx ry e0 with ⟨d,e',h1,h2,h3,rfl⟩ | ⟨d,e',h1,h2,h3,rfl⟩
  ·exact .inl ⟨d,e',h1,h2,h3,po.val rh rfl⟩
  ·exact .inr ⟨d,e',h1,h2,h3,po.val rh rfl⟩
def Dv:PV->Option Key
 | .int i=>some (.inl i)
 | .str x=>some (.inr x)
 | _=>none
def cE {κ:Type} [DecidableEq κ]:List (κ×PV)->κ->Option PV
 | [],_=>none
 | (a,p) :: r,b=>if a=b then some p else cE r b
def G1 (h:PH) (n:Nat) (x:PV):Option (Option PV):=match h[n]? with
 | some (.dK kvs)=>match Dv x with
  | some key=>some (cE kvs key)
  | none=>none
 | _=>none
def uN (x:PV) (ys:List PV):Option Bool:=match x.d,PV.ds ys with
 | some d,some ds=>if D.depths ds<=40 then some (ds.any fun e=>eqD e d) else none
 | _,_=>none
def Dw (x y:PV) (h:PH):Option Bool:=match y with
 | .tup ys=>uN x ys
 | .ref n=>match aS h n with
  | some ys=>uN x ys
  | none=>(G1 h n x).map Option.isSome
 | .fl ys=>uN x ys
 | _=>none
def vIn:PV->PV->PH->Rs PV:=fun x y h=>ofB (Dw x y h) h
def uO:PV->PV->PH->Rs PV:=fun x y h=>ofB ((Dw x y h).map not) h
theorem Dx {φ:List Addr} {H:Hp} {x:PV} {v:V} {key:Key} (r:RV C φ H x v) (e:Dv x=some key):v=kV key:=by
 cases x <;> first | (cases e; exact r) | cases e
theorem yO {φ:List Addr} {H:Hp} {κ:Type} [DecidableEq κ] {kvs:List (κ×PV)} {ks:List (κ×V)} (r:RKv C φ H kvs ks) (a:κ):match cE kvs a,jQ ks a with
  | some p,some v=>RV C φ H p v
  | none,none=>True
  | _,_=>False:=by
 unfold RKv at r
 induction r with
 | nil=>trivial
 | @cons p q ps qs h t ih=>
  obtain ⟨h1,h2⟩:=h;obtain ⟨pk,pv⟩:=p
  by_cases e:pk=a
  ·have e':q.1=a:=h1.symm.trans e;rw [nT e'];unfold cE;rw [if_pos e];exact h2
  ·have e':¬ q.1=a:=fun z=>e (h1.trans z);rw [nW e'];unfold cE;rw [if_neg e];exact ih
theorem uP {φ:List Addr} {H:Hp} {h:PH} {n:Nat} {a:Addr} {x:PV} {v:V} {o:Option PV} (rh:RH C φ H h) (ha:φ[n]?=some a) (rv:RV C φ H x v) (e:G1 h n x=some o):
  ∃ o',qB H a v o'/\o.isSome=o'.isSome/\∀ p,o=some p->∃ w,o'=some w/\RV C φ H p w:=by
 unfold G1 at e;split at e
 ·rename_i kvs hk;split at e
  ·rename_i key hkey;cases e
   obtain ⟨ks,hH,rk⟩:=rh.at' n a _ ha hk;have q:=yO rk key;rw [Dx rv hkey];refine ⟨jQ ks key,qB.k hH,?_,fun p hp=>?_⟩
   ·cases e1:cE kvs key <;> cases e2:jQ ks key <;> rw [e1,e2] at q <;> first | rfl | exact q.elim
   ·rw [hp] at q;cases e2:jQ ks key with
    | none=>rw [e2] at q; exact q.elim
    | some w=>rw [e2] at q; exact ⟨w,rfl,q⟩
  ·cases e
 ·cases e
theorem uQ {φ:List Addr} {H:Hp} {h:PH} {p q:PV} {x y:V} {b:Bool} (rh:RH C φ H h) (rx:RV C φ H p x) (ry:RV C φ H q y) (e:Dw p q h=some b):
  (∃ d a ds vs,y=.ref a/\(SqL C.K H a vs\/SqT C.K H a vs)/\Rep C.K H d x/\fR C.K H ds vs/\D.depths ds<=40/\b=ds.any fun e=>eqD e d)\/∃ a o,y=.ref a/\qB H a x o/\b=o.isSome:=by
 have go:∀ {a:Addr} {vs:List V} {ys:List PV},(SqL C.K H a vs\/SqT C.K H a vs)->RVs C φ H ys vs->uN p ys=some b->∃ d a' ds vs,V.ref a=.ref a'/\(SqL C.K H a' vs\/SqT C.K H a' vs)/\Rep C.K H d x/\fR C.K H ds vs/\D.depths ds<=40/\b=ds.any fun e=>eqD e d:=by
  intro a vs ys hs hr he;unfold uN at he;split at he
  ·rename_i d ds h1 h2;split at he
   ·rename_i hd;cases he
    exact ⟨d,a,ds,vs,rfl,hs,rx.rep h1,hr.reps h2,hd,rfl⟩
   ·cases he
  ·cases he
 unfold Dw at e;split at e
 ·obtain ⟨a,vs,rfl,sa,ra⟩:=ry;exact .inl (go (.inr sa) ra e)
 ·rename_i n;obtain ⟨a,rfl,ha⟩:=ry;split at e
  ·rename_i ys hl;obtain ⟨a2,vs,ha2,sa,ra⟩:=cD rh hl;rw [ha] at ha2; cases ha2;exact .inl (go (.inl sa) ra e)
  ·cases e':G1 h n p with
   | none=>rw [e'] at e; cases e
   | some o=>
    rw [e'] at e;cases e
    obtain ⟨o',g,i,_⟩:=uP rh ha rx e';exact .inr ⟨a,o',rfl,g,i⟩
 ·obtain ⟨a,vs,rfl,sa,ra⟩:=ry;exact .inl (go (.inl sa.sq) ra e)
 ·cases e
theorem T6:OpS C k X (fm .In) vIn:=fun c=>((Oc c.hu64 C.K c.K).or (O5 c.hu C.K c.K)).imp fun x y H Q h=>by
 obtain ⟨φ,h,p,q,rh,rx,ry,po⟩:=h;obtain ⟨b,e,po⟩:=po.ofB;rcases uQ rh rx ry e with ⟨d,a,ds,vs,rfl,h1,h2,h3,h4,rfl⟩ | ⟨a,o,rfl,g,rfl⟩
 ·exact .inl ⟨d,a,ds,vs,rfl,h1,h2,h3,h4,po.val rh rfl⟩
 ·exact .inr (.inr ⟨a,o,rfl,g,po.val rh rfl⟩)
theorem Lh:OpS C k X (fm .NotIn) uO:=fun c=>((FV c.hu64 C.K c.K).or (FS c.hu C.K c.K)).imp fun x y H Q h=>by
 obtain ⟨φ,h,p,q,rh,rx,ry,po⟩:=h;obtain ⟨b,e,po⟩:=po.ofB;cases e':Dw p q h with
 | none=>rw [e'] at e; cases e
 | some b'=>
  rw [e'] at e;cases e
  rcases uQ rh rx ry e' with ⟨d,a,ds,vs,rfl,h1,h2,h3,h4,rfl⟩ | ⟨a,o,rfl,g,rfl⟩
  ·exact .inl ⟨d,a,ds,vs,rfl,h1,h2,h3,h4,po.val rh rfl⟩
  ·exact .inr (.inr ⟨a,o,rfl,g,po.val rh rfl⟩)
def qJ:PV->Bool
 | .non=>true
 | _=>false
def vIs:PV->PV->PH->Rs PV:=fun x y h=>match y with
 | .non=>.ok (.bl (qJ x)) h
 | .bl b=>match x with
  | .bl a=>.ok (.bl (a == b)) h
  | _=>.bad
 | _=>.bad
def Ia:PV->PV->PH->Rs PV:=fun x y h=>match y with
 | .non=>.ok (.bl (!qJ x)) h
 | .bl b=>match x with
  | .bl a=>.ok (.bl (!(a == b))) h
  | _=>.bad
 | _=>.bad
def tru (x:PV) (h:PH):Rs Bool:=match x with
 | .non=>.ok false h
 | .bl b=>.ok b h
 | .int i=>.ok (i != 0) h
 | .str y=>if y.length<=aw then .ok ((y.length:Int) != 0) h else .bad
 | .tup xs=>.ok (!xs.isEmpty) h
 | .ref n=>match aS h n with
  | some xs=>.ok (!xs.isEmpty) h
  | none=>match h[n]? with
   | some (.dK kvs)=>.ok (!kvs.isEmpty) h
   | _=>.bad
 | .fl xs=>.ok (!xs.isEmpty) h
 | .ty _=>.bad
theorem RVs.isEmpty {φ:List Addr} {H:Hp} {xs:List PV} {vs:List V} (r:RVs C φ H xs vs):(!vs.isEmpty)=!xs.isEmpty:=by
 cases xs <;> cases vs <;> first | rfl | exact r.elim
theorem bW.ite {φ:List Addr} {H:Hp} {c:Prop} [Decidable c] {r:Rs Bool} {Q:Bool->Hp->Prop} (h:bW C φ H (if c then r else .bad) Q):c/\bW C φ H r Q:=by
 by_cases hc:c
 ·rw [if_pos hc] at h; exact ⟨hc,h⟩
 ·rw [if_neg hc] at h; exact h.elim
theorem bW.val {φ:List Addr} {H:Hp} {b:Bool} {h:PH} {Q:Bool->Hp->Prop} (q:bW C φ H (.ok b h) Q) (rh:RH C φ H h):Q b H:=q φ H ai (Kp.refl H) rh
theorem G2 {φ:List Addr} {H:Hp} {h:PH} {p:PV} {v:V} {Q:Bool->Hp->Prop} (rh:RH C φ H h) (rv:RV C φ H p v) (po:bW C φ H (tru p h) Q):∃ b,KF C.K v H b/\Q b H:=by
 unfold tru at po;cases p with
 | non=>cases rv; exact ⟨_,rfl,po.val rh⟩
 | bl b=>cases rv; exact ⟨_,rfl,po.val rh⟩
 | int i=>cases rv; exact ⟨_,rfl,po.val rh⟩
 | str y=>cases rv; exact ⟨_,⟨po.ite.1,rfl⟩,po.ite.2.val rh⟩
 | tup xs=>
  obtain ⟨a,vs,rfl,sa,ra⟩:=rv;exact ⟨_,.inr (.inl ⟨vs,sa,rfl⟩),by rw [ra.isEmpty]; exact po.val rh⟩
 | ref n=>
  obtain ⟨a,rfl,ha⟩:=rv;dsimp only at po;cases e:aS h n with
  | some xs=>
   rw [e] at po;obtain ⟨a2,vs,ha2,sa,ra⟩:=cD rh e;rw [ha] at ha2; cases ha2;exact ⟨_,.inl ⟨vs,sa,rfl⟩,by rw [ra.isEmpty]; exact po.val rh⟩
  | none=>
   rw [e] at po;dsimp only at po;split at po
   ·rename_i kvs hk;obtain ⟨ks,hH,rk⟩:=rh.at' n a _ ha hk;refine ⟨_,.inr (.inr ⟨ks,hH,rfl⟩),?_⟩;have:(!ks.isEmpty)=!kvs.isEmpty:=by cases rk <;> rfl
    rw [this];exact po.val rh
   ·exact po.elim
 | fl xs=>
  obtain ⟨a,vs,rfl,sa,ra⟩:=rv;exact ⟨_,.inl ⟨vs,sa.sq,rfl⟩,by rw [ra.isEmpty]; exact po.val rh⟩
 | ty n=>exact po.elim
end L2
namespace L2
open PySem PySem.Spec PyProof.Rows
variable {C:MC} {k:Nat} {X:Cx}
def cH (m:Me):Ev->PH->Rs Bool:=fun δ h=>(m δ h).bind tru
theorem Ib {m:Me} {σ:St} {H:Hp} {Q:Bool->Hp->Prop} (h:rdB C (cH m) σ H Q):rd C m σ H fun v H1=>∃ b,KF C.K v H1 b/\Q b H1:=by
 obtain ⟨φ,δ,h,rh,re,p⟩:=h;refine ⟨φ,δ,h,rh,re,(post.bindB p).imp ?_⟩;rintro v H1 ⟨φ1,x,h1,p1,t1,rh1,rv1,q1⟩;exact G2 rh1 rv1 q1
section
variable {a b e c':Expr} {ma mb mc m:Me} {g g':PV->PV->PH->Rs PV} {pos:Pos} {ta tb:Ev->PH->Rs Bool}
theorem Ic (h:SE C k X e m) (he:∀ whole,isTrue e X.env whole=(do let v <- whole; standAt e.pos; holding [v] (truthy v)):=by intro _; rfl):ST C k X e (cH m):=fun c=>
 (Hg (h c) he).imp fun σ H Q q=>by rw [c.K]; exact Ib q
theorem iG {op:CmpOp} (ho:OpS C k X (fm op) g) (ha:SE C k X a ma) (hb:SE C k X b mb) (hm:behindInMarks op b=false:=by first | exact He _ | rfl):ST C k X (.Compare a [op] [b] pos) (cH (aD g ma mb)):=fun c=>by
 intro pins s σ H Q I h;have h:=EJ (Ib h);refine wpAny_isTrue_Compare1 (thn (ha c pins s σ H _ I h) fun v s1 ⟨x,H1,I1,r1,q1⟩=>thn (hb c pins s1 σ H1 _ I1 q1) fun u s2 ⟨y,H2,I2,r2,q2⟩=>
  thn (ho c pins s2 σ H2 x y v u _ I2 r1 r2 q2) fun w s3 ⟨z,H3,I3,r3,q3⟩=>?_) hm
 rw [<- c.K] at q3;exact Hf pins s3 σ H3 z w Q I3 r3 q3
def N6 (z:PV) (h:PH):Rs PV:=match z with
 | .bl b=>.ok (.bl b) h
 | _=>.bad
def TU (g g':PV->PV->PH->Rs PV) (ma mb mc:Me):Me:=fun δ h=>(ma δ h).bind fun x h1=>(mb δ h1).bind fun y h2=>(g x y h2).bind fun z h3=>match z with
 | .bl true=>(mc δ h3).bind fun w h4=>(g' y w h4).bind N6
 | .bl false=>.ok (.bl false) h3
 | _=>.bad
def uR (t:Ev->PH->Rs Bool):Ev->PH->Rs Bool:=fun δ h=>(t δ h).bind fun b h1=>.ok (!b) h1
def TC (ta tb:Ev->PH->Rs Bool):Ev->PH->Rs Bool:=fun δ h=>(ta δ h).bind fun b h1=>match b with
 | true=>tb δ h1
 | false=>.ok false h1
def A3 (ta tb:Ev->PH->Rs Bool):Ev->PH->Rs Bool:=fun δ h=>(ta δ h).bind fun b h1=>match b with
 | true=>.ok true h1
 | false=>tb δ h1
theorem bW.imp {φ:List Addr} {H:Hp} {r:Rs Bool} {Q Q':Bool->Hp->Prop} (h:bW C φ H r Q) (i:∀ v H',Q v H'->Q' v H'):bW C φ H r Q':=by
 cases r with
 | ok a h'=>exact fun φ' H' p t rh=>i a H' (h φ' H' p t rh)
 | exc a h'=>exact h
 | bad=>exact h
theorem N7 (h:ST C k X e ta):ST C k X (.UnaryOp .Not e pos) (uR ta):=fun c=>(Nx (h c)).imp fun σ H Q q=>by
 obtain ⟨φ,δ,h,rh,re,p⟩:=q;refine ⟨φ,δ,h,rh,re,(bW.bindB p).imp ?_⟩;rintro b H1 ⟨φ1,h1,p1,t1,rh1,q1⟩;exact q1.val rh1
def SW (C:MC) (k:Nat) (X:Cx) (e:Expr) (m:Ev->PH->Rs Bool):Prop:=Cxt C k X->PW X e (rdB C m)
theorem SW.t (h:SW C k X e ta):ST C k X e ta:=fun c=>(h c).pt
theorem PW.imp {t t':TT} (h:PW X e t) (i:∀ σ H Q,t' σ H Q->t σ H Q):PW X e t':=fun w pins s σ H Q I q=>h w pins s σ H Q I (i σ H Q q)
theorem N8 (ha:ST C k X a ta):SW C k X (.BoolOp .Or [a] pos) ta:=fun c=>Nw (ha c)
theorem w_or {rest:List Expr} (ha:ST C k X a ta) (hb:SW C k X (.BoolOp .Or (b :: rest) pos) tb):SW C k X (.BoolOp .Or (a :: b :: rest) pos) (A3 ta tb):=fun c=>PW.imp (PZ (ha c) (hb c)) fun σ H Q q=>by
 obtain ⟨φ,δ,h,rh,re,p⟩:=q;refine ⟨φ,δ,h,rh,re,(bW.bindB p).imp ?_⟩;rintro b H1 ⟨φ1,h1,p1,t1,rh1,q1⟩;cases b with
 | true=>exact Hv (q1.val rh1)
 | false=>exact Hu ⟨φ1,δ,h1,rh1,re.mono p1 t1,q1⟩
def uS (ma mb:Me):Me:=fun δ h=>(ma δ h).bind fun x h1=>match x with
 | .bl true=>mb δ h1
 | .bl false=>.ok (.bl false) h1
 | _=>.bad
theorem QH {op} (h:SE C k X a ma):SE C k X (.BoolOp op [a] pos) ma:=fun c=>Ny (h c)
theorem N9 {rest:List Expr} (ha:SE C k X a ma) (hb:SE C k X (.BoolOp .And (b :: rest) pos) mb):SE C k X (.BoolOp .And (a :: b :: rest) pos) (uS ma mb):=fun c=>(Lb (ha c) (hb c)).imp fun σ H Q q=>by
 obtain ⟨φ,δ,h,rh,re,p⟩:=q;refine ⟨φ,δ,h,rh,re,(post.bind p).imp ?_⟩;rintro v H1 ⟨φ1,x,h1,p1,t1,rh1,rv,q1⟩;cases x with
 | bl b=>
  cases rv
  cases b with
  | true=>exact Hv ⟨φ1,δ,h1,rh1,re.mono p1 t1,q1⟩
  | false=>exact Hu (q1.val rh1 rfl)
 | _=>exact q1.elim
end
theorem RVs.atI {φ:List Addr} {H:Hp} {xs:List PV} {vs:List V} {i:Int} {x:PV} (r:RVs C φ H xs vs) (e:L2.atI xs i=some x):∃ v,L2.atI vs i=some v/\RV C φ H x v:=by
 unfold L2.atI at e ⊢;rw [<- r.length];cases q:ixN xs.length i with
 | none=>rw [q] at e; cases e
 | some j=>
  rw [q] at e;exact r.at e
def ofO (o:Option PV) (h:PH):Rs PV:=match o with
 | some p=>.ok p h
 | none=>.bad
def vIx:PV->PV->PH->Rs PV:=fun x y h=>match x with
 | .str z=>(match y with
  | .int i=>if z.length<=aw then ofO ((atI z.cps.toList i).map fun c=>.str ⟨#[c]⟩) h else .bad
  | _=>.bad)
 | .tup xs=>(match y with
  | .int i=>ofO (atI xs i) h
  | _=>.bad)
 | .fl xs=>(match y with
  | .int i=>ofO (atI xs i) h
  | _=>.bad)
 | .ref n=>(match aS h n with
  | some xs=>(match y with
   | .int i=>ofO (atI xs i) h
   | _=>.bad)
  | none=>(match G1 h n y with
   | some o=>ofO o h
   | none=>.bad))
 | _=>.bad
theorem post.ofO {φ:List Addr} {H:Hp} {h:PH} {o:Option PV} {Q:VK} (q:post C φ H (ofO o h) Q):∃ p,o=some p/\post C φ H (.ok p h) Q:=by
 cases o with
 | none=>exact q.elim
 | some b=>exact ⟨b,rfl,q⟩
theorem QI {x y:V} {H:Hp} {Q:VK} (h:r2 C vIx x y H Q):Qt C.K x y H Q:=by
 obtain ⟨φ,h,p,q,rh,rx,ry,po⟩:=h;unfold vIx at po;cases p with
 | str z=>
  cases rx
  cases q with
  | int i=>
   cases ry
   obtain ⟨hz,po⟩:=po.ite;obtain ⟨p,e,po⟩:=po.ofO;cases e':atI z.cps.toList i with
   | none=>rw [e'] at e; cases e
   | some c=>rw [e'] at e; cases e; exact ⟨hz,c,e',po.val rh rfl⟩
  | _=>exact po.elim
 | tup xs=>
  obtain ⟨a,vs,rfl,sa,ra⟩:=rx;cases q with
  | int i=>
   cases ry
   obtain ⟨p,e,po⟩:=po.ofO;obtain ⟨v,hv,rv⟩:=ra.atI e;exact .inl ⟨vs,i,v,rfl,.inr sa,hv,po.val rh rv⟩
  | _=>exact po.elim
 | fl xs=>
  obtain ⟨a,vs,rfl,sa,ra⟩:=rx;cases q with
  | int i=>
   cases ry
   obtain ⟨p,e,po⟩:=po.ofO;obtain ⟨v,hv,rv⟩:=ra.atI e;exact .inl ⟨vs,i,v,rfl,.inl sa.sq,hv,po.val rh rv⟩
  | _=>exact po.elim
 | ref n=>
  obtain ⟨a,rfl,ha⟩:=rx;dsimp only at po;cases e:aS h n with
  | some xs=>
   rw [e] at po;obtain ⟨a2,vs,ha2,sa,ra⟩:=cD rh e;rw [ha] at ha2; cases ha2;cases q with
   | int i=>
    cases ry
    obtain ⟨p,e,po⟩:=po.ofO;obtain ⟨v,hv,rv⟩:=ra.atI e;exact .inl ⟨vs,i,v,rfl,.inl sa,hv,po.val rh rv⟩
   | _=>exact po.elim
  | none=>
   rw [e] at po;dsimp only at po;cases e':G1 h n q with
   | none=>rw [e'] at po; exact po.elim
   | some o=>
    rw [e'] at po;obtain ⟨p,eo,po⟩:=po.ofO;obtain ⟨o',g,_,hp⟩:=uP rh ha ry e';obtain ⟨w,rfl,rw'⟩:=hp p eo;exact .inr ⟨w,g,po.val rh rw'⟩
 | _=>exact po.elim
theorem lZ {prog:Program} {w:World} {A:Around} {E:Value->Shared->Prop} {s:Shared} {t sl:Addr} {items:Array Value} {vl vu:Value} {lo hi:Option Int} {Q:Value->Shared->Prop} (ht:IsTup s.heap t items) (hs:s.heap.IsSliceOf sl vl vu .none) (pl:IsPart vl lo) (pu:IsPart vu hi)
  (hw:HT.sIx items.size 0 lo=0/\HT.sIx items.size items.size hi=items.size) (h:Q (.ref t) s):wpAny (model prog w) A (getItem (.ref t) (.ref sl)) Q E s:=by
 obtain ⟨os,hos,hcs,hds⟩:=id hs;have hTs:s.TypeIs (.ref sl) "slice" := ⟨os,hos,hcs⟩;unfold getItem
 try with_reducible refine gp ?_
 first | refine aa (ab ?_) | skip
 refine aa (wpAny_sequenceKey ht.typeIs (by decide) ?_);refine aa (d6 (name:=ic "__getitem__") ht.typeIs fo
  (en fo ht.typeIs entry_tuple_getitem ?_ (args_tuple_getitem _ _)))
 show wpAny _ _ (og (.ref t) >>= _) _ _ s
 refine aa (tupleItemsOf_ ht ?_);refine aa (nc hTs ?_);rw [if_pos (by decide)];refine aa (HT.sliceApplied_gen hs pl pu ?_);have hno:((((HT.sIx items.size 0 lo:Nat):Int) == 0 && (1:Int) == 1 && (HT.sIx items.size items.size hi - HT.sIx items.size 0 lo) == items.size)=true):=by
  rw [hw.1,hw.2]; simp
 show wpAny _ _ (if (((HT.sIx items.size 0 lo:Nat):Int) == 0 && (1:Int) == 1 && (HT.sIx items.size items.size hi - HT.sIx items.size 0 lo) == items.size)=true then _ else _) _ _ s
 rw [if_pos hno];refine aa ?_;unfold Builtin.Tuple.tupleIsExact;refine aa (nc ht.typeIs (ab ?_));rw [if_pos (by decide)];refine aa (m5 ?_);exact ab ⟨_,rfl,ab h⟩
end L2
namespace L2
open PySem PySem.Spec PyProof.Rows
variable {C:MC} {k:Nat} {X:Cx}
def gZ {α:Type} (xs:List α) (lo hi:Option Int):List α:=(xs.drop (HT.sIx xs.length 0 lo)).take (HT.sIx xs.length xs.length hi - HT.sIx xs.length 0 lo)
theorem RVs.cut {φ:List Addr} {H:Hp} {xs:List PV} {vs:List V} (r:RVs C φ H xs vs) (lo hi:Option Int):RVs C φ H (gZ xs lo hi) (B5 vs lo hi):=by
 unfold gZ B5;rw [<- r.length];exact (r.drop _).take _
def vSl:PV->Option Int->Option Int->PH->Rs PV:=fun x lo hi h=>match x with
 | .str z=>if z.length<=aw then .ok (.str (Txt.slice z lo hi)) h else .bad
 | .tup xs=>.ok (.tup (gZ xs lo hi)) h
 | .ref n=>match aS h n with
  | some xs=>.ok (.ref h.length) (h++[.lst (gZ xs lo hi)])
  | none=>.bad
 | .fl xs=>.ok (.ref h.length) (h++[.lst (gZ xs lo hi)])
 | _=>.bad
def QJ (K:ag):V->Option Int->Option Int->Hp->VK->Prop:=fun x lo hi H Q=>∃ a xs,x=.ref a/\SqT K H a xs/\(HT.sIx xs.length 0 lo=0/\HT.sIx xs.length xs.length hi=xs.length)/\Q (.ref a) H
theorem Ie:SlR X (QJ X.K):=by
 intro pins s σ H x v vl vu lo hi sl Q I rx hs pl pu h;obtain ⟨a,xs,rfl,hx,hw,q⟩:=h;cases rx
 obtain ⟨its,r,ht,hz⟩:=I.tuple hx;have hlen:its.toArray.size=xs.length:=by rw [av]; exact r.length.symm
 refine ⟨"tuple",_,fo.lookup,ht.typeIs,?_⟩;exact lZ ht hs pl pu (by rw [hlen]; exact hw) ⟨.ref a,H,I,rfl,q⟩
theorem SlR.imp {r r':V->Option Int->Option Int->Hp->VK->Prop} (h:SlR X r) (i:∀ x lo hi H Q,r' x lo hi H Q->r x lo hi H Q):SlR X r':=fun pins s σ H x v vl vu lo hi sl Q I rx hs pl pu q=>h pins s σ H x v vl vu lo hi sl Q I rx hs pl pu (i x lo hi H Q q)
def r3 (C:MC) (g:PV->Option Int->Option Int->PH->Rs PV):V->Option Int->Option Int->Hp->VK->Prop:=fun x lo hi H Q=>∃ φ h p,RH C φ H h/\RV C φ H p x/\post C φ H (g p lo hi h) Q
theorem Of (hK:X.K=C.K):SlR X (r3 C vSl):=by
 have e:SlR X (fun x lo hi H Q=>Qq x lo hi H Q\/Qc C.K x lo hi H Q\/Qf C.K x lo hi H Q\/QJ C.K x lo hi H Q):=by rw [<- hK]; exact O3.or (NU.or (KO.or Ie))
 refine e.imp fun x lo hi H Q h=>?_;obtain ⟨φ,h,p,rh,rv,po⟩:=h;unfold vSl at po;cases p with
 | str z=>cases rv; exact .inl ⟨z,rfl,po.ite.1,po.ite.2.val rh rfl⟩
 | tup xs=>
  obtain ⟨a,vs,rfl,sa,ra⟩:=rv
  by_cases hw:HT.sIx vs.length 0 lo=0/\HT.sIx vs.length vs.length hi=vs.length
  ·refine .inr (.inr (.inr ⟨a,vs,rfl,sa,hw,po.val rh ⟨a,vs,rfl,sa,?_⟩⟩));have e:gZ xs lo hi=xs:=by
    unfold gZ;rw [ra.length,hw.1,hw.2,d3,jf,<- ra.length,List.take_length]
   rw [e];exact ra
  ·exact .inr (.inl ⟨a,vs,rfl,sa,hw,fun p hp=>po.tnew rh (ra.cut lo hi) hp⟩)
 | ref n=>
  obtain ⟨a,rfl,ha⟩:=rv;dsimp only at po;cases e:aS h n with
  | none=>rw [e] at po; exact po.elim
  | some xs=>
   rw [e] at po;obtain ⟨a2,vs,ha2,sa,ra⟩:=cD rh e;rw [ha] at ha2; cases ha2;exact .inr (.inr (.inl ⟨a,vs,rfl,sa,fun p hp=>po.lnew rh (ra.cut lo hi) hp⟩))
 | fl xs=>
  obtain ⟨a,vs,rfl,sa,ra⟩:=rv;exact .inr (.inr (.inl ⟨a,vs,rfl,sa.sq,fun p hp=>po.lnew rh (ra.cut lo hi) hp⟩))
 | _=>exact po.elim
abbrev Mo:=Ev->PH->Rs (Option Int)
def rY (C:MC) (φ:List Addr) (H:Hp) (r:Rs (Option Int)) (Q:Option Int->Hp->Prop):Prop:=match r with
 | .ok b h=>∀ φ' H',φ<+:φ'->Kp H H'->RH C φ' H' h->Q b H'
 | .exc x h=>∀ φ' H',φ<+:φ'->Kp H H'->RH C φ' H' h->C.ex φ' H' x
 | .bad=>False
def rdO (C:MC) (m:Mo):TO:=fun σ H Q=>∃ φ δ h,RH C φ H h/\RE C φ H δ σ/\rY C φ H (m δ h) Q
def SO (C:MC) (k:Nat) (X:Cx) (e:Option Expr) (m:Mo):Prop:=Cxt C k X->PO X e (rdO C m)
def Ii:Mo:=fun _ h=>.ok none h
def mP (m:Me):Mo:=fun δ h=>(m δ h).bind fun x h1=>match x with
 | .int i=>.ok (some i) h1
 | _=>.bad
theorem Og:SO C k X none Ii:=fun c pins s σ H Q I h=>by
 obtain ⟨φ,δ,h,rh,re,p⟩:=h;exact KL pins s σ H Q I (p φ H ai (Kp.refl H) rh)
theorem Oh {e:Expr} {m:Me} (h:SE C k X e m):SO C k X (some e) (mP m):=fun c pins s σ H Q I q=>by
 refine HM (h c) pins s σ H Q I ?_;obtain ⟨φ,δ,h,rh,re,p⟩:=q;refine ⟨φ,δ,h,rh,re,?_⟩;unfold mP at p;cases e':m δ h with
 | ok x h1=>
  rw [e'] at p;intro φ' v H' p' t' rh' rv';cases x with
  | int i=>cases rv'; exact p φ' H' p' t' rh'
  | _=>exact p.elim
 | exc x h1=>rw [e'] at p; exact p
 | bad=>rw [e'] at p; exact p
def mSl (me:Me) (ml mh:Mo):Me:=fun δ h=>(me δ h).bind fun x h1=>(ml δ h1).bind fun l h2=>(mh δ h2).bind fun u h3=>vSl x l u h3
theorem rY.bind {φ:List Addr} {H:Hp} {r:Rs (Option Int)} {f:Option Int->PH->Rs PV} {Q:VK} (h:post C φ H (r.bind f) Q):rY C φ H r fun b H1=>∃ φ1 h1,φ<+:φ1/\Kp H H1/\RH C φ1 H1 h1/\post C φ1 H1 (f b h1) Q:=by
 cases r with
 | ok a h'=>exact fun φ' H' p t rh=>⟨φ',h',p,t,rh,post.weak p t h⟩
 | exc a h'=>exact h
 | bad=>exact h
theorem rY.imp {φ:List Addr} {H:Hp} {r:Rs (Option Int)} {Q Q':Option Int->Hp->Prop} (h:rY C φ H r Q) (i:∀ v H',Q v H'->Q' v H'):rY C φ H r Q':=by
 cases r with
 | ok a h'=>exact fun φ' H' p t rh=>i a H' (h φ' H' p t rh)
 | exc a h'=>exact h
 | bad=>exact h
theorem T7 {e:Expr} {lo hi:Option Expr} {me:Me} {ml mh:Mo} {p2 pos:Pos} (he:SE C k X e me) (hl:SO C k X lo ml) (hh:SO C k X hi mh):SE C k X (.Subscript e (.Slice lo hi none p2) pos) (mSl me ml mh):=fun c=>
 (Hq (Of c.K) (he c) (hl c) (hh c)).imp fun σ H Q h=>by
  obtain ⟨φ,δ,h,rh,re,p⟩:=h;refine ⟨φ,δ,h,rh,re,(post.bind p).imp ?_⟩;rintro v H1 ⟨φ1,x,h1,p1,t1,rh1,rv1,q1⟩;refine ⟨φ1,δ,h1,rh1,re.mono p1 t1,(rY.bind q1).imp ?_⟩;rintro l H2 ⟨φ2,h2,p2,t2,rh2,q2⟩;refine ⟨φ2,δ,h2,rh2,re.mono (p1.trans p2) (t1.trans t2),(rY.bind q2).imp ?_⟩;rintro u H3 ⟨φ3,h3,p3,t3,rh3,q3⟩;exact ⟨φ3,h3,x,rh3,rv1.mono (p2.trans p3) (t2.trans t3),q3⟩
abbrev Ma:=Ev->PH->Rs (List PV)
def aE:Ma:=fun _ h=>.ok [] h
def aA (m:Me) (ms:Ma):Ma:=fun δ h=>(m δ h).bind fun x h1=>(ms δ h1).bind fun xs h2=>.ok (x :: xs) h2
theorem PA.imp {es:List Expr} {t t':TA} (h:PA X es t) (i:∀ σ H Q,t' σ H Q->t σ H Q):PA X es t':=fun pos pins s σ H Q I q=>h pos pins s σ H Q I (i σ H Q q)
theorem aJ:SA C k X [] aE:=fun c=>Hk.imp fun σ H Q h=>by
 obtain ⟨φ,δ,h,rh,re,p⟩:=h;exact p φ [] H ai (Kp.refl H) rh trivial
theorem postA.imp {φ:List Addr} {H:Hp} {r:Rs (List PV)} {Q Q':List V->Hp->Prop} (h:postA C φ H r Q) (i:∀ v H',Q v H'->Q' v H'):postA C φ H r Q':=by
 cases r with
 | ok a h'=>exact fun φ' v H' p t rh rv=>i v H' (h φ' v H' p t rh rv)
 | exc a h'=>exact h
 | bad=>exact h
theorem aB {e:Expr} {es:List Expr} {m:Me} {ms:Ma} (he:SE C k X e m) (hs:SA C k X es ms) (hh:b0 (e :: es) X.env=(false,eval e X.env) :: b0 es X.env:=by rfl):SA C k X (e :: es) (aA m ms):=fun c=>(Ey (he c) (hs c) hh).imp fun σ H Q h=>by
 obtain ⟨φ,δ,h,rh,re,p⟩:=h;refine ⟨φ,δ,h,rh,re,(post.bindA p).imp ?_⟩;rintro v H1 ⟨φ1,x,h1,p1,t1,rh1,rv1,q1⟩;refine ⟨φ1,δ,h1,rh1,re.mono p1 t1,(postA.bindA q1).imp ?_⟩;rintro vs H2 ⟨φ2,xs,h2,p2,t2,rh2,rv2,q2⟩;exact q2 φ2 (v :: vs) H2 ai (Kp.refl H2) rh2 ⟨rv1.mono p2 t2,rv2⟩
def bG (ms:Ma):Me:=fun δ h=>(ms δ h).bind fun xs h1=>if xs.length<=aw then .ok (.tup xs) h1 else .bad
def fY (ms:Ma):Me:=fun δ h=>(ms δ h).bind fun xs h1=>if xs.length<=aw then .ok (.ref h1.length) (h1++[.lst xs]) else .bad
theorem bX {es:List Expr} {ms:Ma} {x1} {pos:Pos} (hs:SA C k X es ms):SE C k X (.Tuple es x1 pos) (bG ms):=fun c=>(NR (hs c)).imp fun σ H Q h=>by
 obtain ⟨φ,δ,h,rh,re,p⟩:=h;refine ⟨φ,δ,h,rh,re,(postA.bind p).imp ?_⟩;rintro vs H1 ⟨φ1,xs,h1,p1,t1,rh1,rv1,q1⟩;exact ⟨by rw [<- rv1.length]; exact q1.ite.1,fun p hp=>q1.ite.2.tnew rh1 rv1 hp⟩
theorem mG {es:List Expr} {ms:Ma} {pos:Pos} (hs:SA C k X es ms):SE C k X (.List es pos) (fY ms):=fun c=>(NS (hs c)).imp fun σ H Q h=>by
 obtain ⟨φ,δ,h,rh,re,p⟩:=h;refine ⟨φ,δ,h,rh,re,(postA.bind p).imp ?_⟩;rintro vs H1 ⟨φ1,xs,h1,p1,t1,rh1,rv1,q1⟩;exact ⟨by rw [<- rv1.length]; exact q1.ite.1,fun p hp=>q1.ite.2.lnew rh1 rv1 hp⟩
def A4:Me:=fun _ h=>.ok (.ref h.length) (h++[.dK []])
theorem EL {pos:Pos}:SE C k X (.Dict [] [] pos) A4:=fun c=>Hx.imp fun σ H Q h=>by
 obtain ⟨φ,δ,h,rh,re,p⟩:=h;intro a ha;exact p (φ++[a]) (.ref a) _ (dj _ _) (Kp.new ha) (rh.new ha ⟨[],aK,.nil⟩) ⟨a,rfl,by rw [<- rh.len]; simp⟩
def mCB (g:List PV->PH->Rs PV) (ms:Ma):Me:=fun δ h=>(ms δ h).bind g
theorem N' {g:List PV->PH->Rs PV} {ms:Ma} {σ:St} {H:Hp} {Q:VK} (h:rd C (mCB g ms) σ H Q):tCB (rL C g) (rdA C ms) σ H Q:=by
 obtain ⟨φ,δ,h,rh,re,p⟩:=h;refine ⟨φ,δ,h,rh,re,(postA.bind p).imp ?_⟩;rintro vs H1 ⟨φ1,xs,h1,p1,t1,rh1,rv1,q1⟩;exact ⟨φ1,h1,xs,rh1,rv1,q1⟩
section
variable {x:Str} {p pos:Pos} {e:Expr} {es:List Expr} {ms:Ma} {id T:String} {g:List PV->PH->Rs PV}
theorem iY (hc:mF C k X (.builtin id) g) (hv:kh x=some (.builtin id)) (ha:SA C k X (e :: es) ms) (hb:x∈C.bs:=by decide) (hg:Gl X x:=by rfl) (hn:x≠"__name__" := by decide) (hdb:(x == ("__debug__" : Str))=false:=by decide)
  (he:b0 (e :: es) X.env=(false,eval e X.env) :: b0 es X.env:=by rfl) (hpl:(backTo pos (b0 es X.env)).any (·.1)=false:=by rfl):SE C k X (.Call (.Name x p) (e :: es) [] pos) (mCB g ms):=fun c=>
 (Hn (hc c) hg (c.bn x hb) hv (ha c) hn hdb he hpl).imp fun σ H Q h=>N' h
theorem kB (hc:mF C k X (.type T) g) (hv:kh x=some (.type T)) (ha:SA C k X (e :: es) ms) (hb:x∈C.bs:=by decide) (hg:Gl X x:=by rfl) (hn:x≠"__name__" := by decide) (hdb:(x == ("__debug__" : Str))=false:=by decide)
  (he:b0 (e :: es) X.env=(false,eval e X.env) :: b0 es X.env:=by rfl) (hpl:(backTo pos (b0 es X.env)).any (·.1)=false:=by rfl):SE C k X (.Call (.Name x p) (e :: es) [] pos) (mCB g ms):=fun c=>
 (FB (hc c) hg (c.bn x hb) hv (ha c) hn hdb he hpl).imp fun σ H Q h=>N' h
def spM (C:MC) (n:Nat) (f:Fn):Sp:=fun vs H Q _=>∃ φ h ps,RH C φ H h/\RVs C φ H ps vs/\ps.length=n/\post C φ H (f ps h) Q
def cQ (n:Nat) (f:Fn) (ms:Ma):Me:=fun δ h=>(ms δ h).bind fun ps h1=>if ps.length=n then f ps h1 else .bad
theorem s_call {st:Stmt} {a:Addr} {fd:dq} {ps:List Str} {j n:Nat} {f:Fn} (D:Def C.K X.mg x st a fd ps) (G:aU X.prog X.w C.K X.mg X.base CX0 j a fd ps (spM C n f)) (ha:SA C k X (e :: es) ms) (hj:j<=k:=by decide)
  (hg:Gl X x:=by rfl) (hdb:(x == ("__debug__" : Str))=false:=by decide) (he:b0 (e :: es) X.env=(false,eval e X.env) :: b0 es X.env:=by rfl) (hpl:(backTo pos (b0 es X.env)).any (·.1)=false:=by rfl):
  SE C k X (.Call (.Name x p) (e :: es) [] pos) (cQ n f ms):=fun c=>by
 have e1:=c.K;have D':Def X.K X.mg x st a fd ps:=by rw [e1]; exact D
 have G':aU X.prog X.w X.K X.mg X.base CX0 j a fd ps (spM C n f):=by rw [e1]; exact G
 refine (Qy D' G' (c.room.mono hj) (ha c) hg hdb he hpl).imp fun σ H Q h=>?_;obtain ⟨φ,δ,h,rh,re,p⟩:=h;refine ⟨φ,δ,h,rh,re,(postA.bind p).imp ?_⟩;rintro vs H1 ⟨φ1,xs,h1,p1,t1,rh1,rv1,q1⟩;refine ⟨φ1,h1,xs,rh1,by rw [e7]; exact rv1,q1.ite.1,q1.ite.2⟩
end
def mX:List PV->PH->Rs PV:=fun xs h=>match xs with
 | [.str y]=>if y.length<=aw then .ok (.int y.length) h else .bad
 | [.tup ys]=>.ok (.int ys.length) h
 | [.fl ys]=>.ok (.int ys.length) h
 | [.ref n]=>match aS h n with
  | some ys=>.ok (.int ys.length) h
  | none=>match h[n]? with
   | some (.dK kvs)=>.ok (.int kvs.length) h
   | _=>.bad
 | _=>.bad
theorem RVs.one {φ:List Addr} {H:Hp} {x:PV} {vs:List V} (r:RVs C φ H [x] vs):∃ v,vs=[v]/\RV C φ H x v:=by
 match vs,r with
 | [v],⟨h,_⟩=>exact ⟨v,rfl,h⟩
 | [],h=>exact h.elim
 | _ :: _ :: _,⟨_,h⟩=>exact h.elim
theorem RVs.two {φ:List Addr} {H:Hp} {x y:PV} {vs:List V} (r:RVs C φ H [x,y] vs):∃ v w,vs=[v,w]/\RV C φ H x v/\RV C φ H y w:=by
 match vs,r with
 | [v,w],⟨h,h',_⟩=>exact ⟨v,w,rfl,h,h'⟩
 | [],h=>exact h.elim
 | [_],⟨_,h⟩=>exact h.elim
 | _ :: _ :: _ :: _,⟨_,_,h⟩=>exact h.elim
theorem Bx:mF C k X (.builtin "len") mX:=fun c=>(FT C.K c.K).imp fun vs H Q h=>by
 obtain ⟨φ,h,ps,rh,rv,po⟩:=h;unfold mX at po;split at po
 ·obtain ⟨v,rfl,rx⟩:=rv.one;cases rx
  exact ⟨po.ite.1,po.ite.2.val rh rfl⟩
 ·obtain ⟨v,rfl,rx⟩:=rv.one;obtain ⟨a,vs,rfl,sa,ra⟩:=rx;exact .inl ⟨vs,.inr sa,by rw [<- ra.length]; exact po.val rh rfl⟩
 ·obtain ⟨v,rfl,rx⟩:=rv.one;obtain ⟨a,vs,rfl,sa,ra⟩:=rx;exact .inl ⟨vs,.inl sa.sq,by rw [<- ra.length]; exact po.val rh rfl⟩
 ·rename_i n;obtain ⟨v,rfl,rx⟩:=rv.one;obtain ⟨a,rfl,ha⟩:=rx;split at po
  ·rename_i ys e;obtain ⟨a2,vs,ha2,sa,ra⟩:=cD rh e;rw [ha] at ha2; cases ha2;exact .inl ⟨vs,.inl sa,by rw [<- ra.length]; exact po.val rh rfl⟩
  ·split at po
   ·rename_i kvs hk;obtain ⟨ks,hH,rk⟩:=rh.at' n a _ ha hk;refine .inr ⟨ks,hH,?_⟩;have:ks.length=kvs.length:=(d5 rk).symm;rw [this];exact po.val rh rfl
   ·exact po.elim
 ·exact po.elim
def uT:List PV->PH->Rs PV:=fun xs h=>match xs with
 | [.tup ys]=>.ok (.tup ys) h
 | [.fl ys]=>.ok (.tup ys) h
 | [.ref n]=>match aS h n with
  | some ys=>.ok (.tup ys) h
  | none=>.bad
 | _=>.bad
theorem Li:mF C k X (.type "tuple") uT:=fun c=>(Bp C.K c.K).imp fun vs H Q h=>by
 obtain ⟨φ,h,ps,rh,rv,po⟩:=h;unfold uT at po;split at po
 ·obtain ⟨v,rfl,rx⟩:=rv.one;obtain ⟨a,vs,rfl,sa,ra⟩:=rx;exact ⟨a,vs,rfl,.inr ⟨sa,po.val rh ⟨a,vs,rfl,sa,ra⟩⟩⟩
 ·obtain ⟨v,rfl,rx⟩:=rv.one;obtain ⟨a,vs,rfl,sa,ra⟩:=rx;exact ⟨a,vs,rfl,.inl ⟨sa.sq,fun p hp=>po.tnew rh ra hp⟩⟩
 ·rename_i n;obtain ⟨v,rfl,rx⟩:=rv.one;obtain ⟨a,rfl,ha⟩:=rx;split at po
  ·rename_i ys e;obtain ⟨a2,vs,ha2,sa,ra⟩:=cD rh e;rw [ha] at ha2; cases ha2;exact ⟨a,vs,rfl,.inl ⟨sa,fun p hp=>po.tnew rh ra hp⟩⟩
  ·exact po.elim
 ·exact po.elim
def By:List PV->PH->Rs PV:=fun xs h=>match xs with
 | [.tup ys]=>.ok (.ref h.length) (h++[.lst ys])
 | [.fl ys]=>.ok (.ref h.length) (h++[.lst ys])
 | [.ref n]=>match aS h n with
  | some ys=>.ok (.ref h.length) (h++[.lst ys])
  | none=>.bad
 | _=>.bad
theorem Oi:mF C k X (.type "list") By:=fun c=>(Dk C.K c.K).imp fun vs H Q h=>by
 obtain ⟨φ,h,ps,rh,rv,po⟩:=h;unfold By at po;split at po
 ·obtain ⟨v,rfl,rx⟩:=rv.one;obtain ⟨a,vs,rfl,sa,ra⟩:=rx;exact ⟨a,vs,rfl,.inr sa,fun p hp=>po.lnew rh ra hp⟩
 ·obtain ⟨v,rfl,rx⟩:=rv.one;obtain ⟨a,vs,rfl,sa,ra⟩:=rx;exact ⟨a,vs,rfl,.inl sa.sq,fun p hp=>po.lnew rh ra hp⟩
 ·rename_i n;obtain ⟨v,rfl,rx⟩:=rv.one;obtain ⟨a,rfl,ha⟩:=rx;split at po
  ·rename_i ys e;obtain ⟨a2,vs,ha2,sa,ra⟩:=cD rh e;rw [ha] at ha2; cases ha2;exact ⟨a,vs,rfl,.inl sa,fun p hp=>po.lnew rh ra hp⟩
  ·exact po.elim
 ·exact po.elim
def QK:List PV->PH->Rs PV:=fun xs h=>match xs with
 | [.int i,.int j]=>.ok (.int (if j > i then j else i)) h
 | _=>.bad
end L2
namespace L2
open PySem PySem.Spec PyProof.Rows
variable {C:MC} {k:Nat} {X:Cx}
def Rs.fl {α:Type} (r:Rs α) (f:α->PH->Fl):Fl:=match r with
 | .ok a h=>f a h
 | .exc x h=>.exc x h
 | .bad=>.bad
@[simp] theorem Rs.fl_ok {α:Type} (a:α) (h:PH) (f:α->PH->Fl):(Rs.ok a h).fl f=f a h:=(rfl)
@[simp] theorem Rs.fl_exc {α:Type} (x:PX) (h:PH) (f:α->PH->Fl):(Rs.exc x h:Rs α).fl f=.exc x h:=(rfl)
@[simp] theorem Rs.fl_bad {α:Type} (f:α->PH->Fl):(Rs.bad:Rs α).fl f=.bad:=(rfl)
section
variable {φ:List Addr} {H:Hp}
theorem post.fl {r:Rs PV} {f:PV->PH->Fl} {D:Ends} (h:bT C φ H (r.fl f) D):post C φ H r fun v H1=>∃ φ1 p h1,φ<+:φ1/\Kp H H1/\RH C φ1 H1 h1/\RV C φ1 H1 p v/\bT C φ1 H1 (f p h1) D:=by
 cases r with
 | ok a h'=>exact fun φ' v H' p t rh rv=>⟨φ',a,h',p,t,rh,rv,bT.weak p t h⟩
 | exc a h'=>exact h
 | bad=>exact h
theorem bW.fl {r:Rs Bool} {f:Bool->PH->Fl} {D:Ends} (h:bT C φ H (r.fl f) D):bW C φ H r fun b H1=>∃ φ1 h1,φ<+:φ1/\Kp H H1/\RH C φ1 H1 h1/\bT C φ1 H1 (f b h1) D:=by
 cases r with
 | ok a h'=>exact fun φ' H' p t rh=>⟨φ',h',p,t,rh,bT.weak p t h⟩
 | exc a h'=>exact h
 | bad=>exact h
theorem bT.nx {δ:Ev} {h:PH} {D:Ends} {σ:St} (q:bT C φ H (.nx δ h) D) (rh:RH C φ H h) (re:RE C φ H δ σ):D.nx σ H:=q φ σ H ai (Kp.refl H) rh re
theorem bT.rt {p:PV} {h:PH} {D:Ends} {v:V} (q:bT C φ H (.rt p h) D) (rh:RH C φ H h) (rv:RV C φ H p v):D.rt v H:=q φ v H ai (Kp.refl H) rh rv
end
abbrev Mg:=PV->Ev->Option Ev
abbrev Mgs:=List PV->Ev->Option Ev
def rdG (C:MC) (t:Mg):TG:=fun v σ H Q=>∃ φ δ h p δ',RH C φ H h/\RE C φ H δ σ/\RV C φ H p v/\t p δ=some δ'/\∀ σ',RE C φ H δ' σ'->Q σ' H
def T8 (C:MC) (t:Mgs):TGs:=fun vs σ H Q=>∃ φ δ h ps δ',RH C φ H h/\RE C φ H δ σ/\RVs C φ H ps vs/\t ps δ=some δ'/\∀ σ',RE C φ H δ' σ'->Q σ' H
def SG (C:MC) (k:Nat) (X:Cx) (e:Expr) (t:Mg):Prop:=Cxt C k X->PG X e (rdG C t)
def SGs (C:MC) (k:Nat) (X:Cx) (es:List Expr) (t:Mgs):Prop:=Cxt C k X->PGs X es (T8 C t)
def gN (i:Nat):Mg:=fun p δ=>some (δ.set i (some p))
def gNl:Mgs:=fun ps δ=>match ps with
 | []=>some δ
 | _ :: _=>none
def gCn (t:Mg) (u:Mgs):Mgs:=fun ps δ=>match ps with
 | p :: r=>(t p δ).bind (u r)
 | []=>none
def gTp (n:Nat) (u:Mgs):Mg:=fun p δ=>match p with
 | .tup ps=>if ps.length=n then u ps δ else none
 | _=>none
theorem PG.imp {e:Expr} {t t':TG} (h:PG X e t) (i:∀ v σ H Q,t' v σ H Q->t v σ H Q):PG X e t':=fun pins s σ H v u Q I r q=>h pins s σ H v u Q I r (i v σ H Q q)
theorem PGs.imp {es:List Expr} {t t':TGs} (h:PGs X es t) (i:∀ v σ H Q,t' v σ H Q->t v σ H Q):PGs X es t':=fun pins s σ H v u Q I r q=>h pins s σ H v u Q I r (i v σ H Q q)
theorem aW {i:Nat} {x:Str} {pos:Pos} (hN:X.N.Nodup) (hi:X.N[i]?=some x:=by rfl) (hx:Loc X.env.scope x:=by first | exact Or.inl rfl | exact Or.inr rfl) (hf:X.fn x=true\/X.env.scope.names.lookup x=some .local:=by first | exact .inl rfl | exact .inr rfl):SG C k X (.Name x pos) (gN i):=fun c=>
 (KA hN hi hx hf).imp fun v σ H Q h=>by
  obtain ⟨φ,δ,h,p,δ',rh,re,rv,e,q⟩:=h;cases e
  exact q _ (re.set rv i)
theorem oM:SGs C k X [] gNl:=fun c=>KB.imp fun v σ H Q h=>by
 obtain ⟨φ,δ,h,ps,δ',rh,re,rv,e,q⟩:=h;cases ps with
 | nil=>
  cases e
  cases v with
  | nil=>exact ⟨rfl,q σ re⟩
  | cons=>exact rv.elim
 | cons=>cases e
theorem bU {e:Expr} {es:List Expr} {t:Mg} {u:Mgs} (h1:SG C k X e t) (h2:SGs C k X es u) (hs:(kg (e :: es) X.env).map (·.2)=assign e X.env :: (kg es X.env).map (·.2):=by rfl):SGs C k X (e :: es) (gCn t u):=fun c=>
 (Hb (h1 c) (h2 c) hs).imp fun vs σ H Q h=>by
  obtain ⟨φ,δ,h,ps,δ',rh,re,rv,e,q⟩:=h;cases ps with
  | nil=>cases e
  | cons p r=>
   cases vs with
   | nil=>exact rv.elim
   | cons v vs=>
    obtain ⟨δ1,e1,e2⟩:=Option.bind_eq_some_iff.mp (show (t p δ).bind (u r)=some δ' from e)
    exact ⟨v,vs,rfl,φ,δ,h,p,δ1,rh,re,rv.1,e1,fun σ' re'=>⟨φ,δ1,h,r,δ',rh,re',rv.2,e2,q⟩⟩
theorem oO {es:List Expr} {j:Nat} {u:Mgs} {n:Nat} {pos:Pos} (h:SGs C k X es u) (hn:(kg es X.env).length=n:=by rfl) (hst:(kg es X.env).findIdx? (·.1)=none:=by rfl):SG C k X (.Tuple es j pos) (gTp n u):=fun c=>
 (gT C.K c.K c.calm (h c) hn hst).imp fun v σ H Q h=>by
  obtain ⟨φ,δ,h,p,δ',rh,re,rv,e,q⟩:=h;cases p with
  | tup ps=>
   obtain ⟨a,vs,rfl,sa,ra⟩:=rv
   by_cases hl:ps.length=n
   ·have e':u ps δ=some δ':=by
     have:(if ps.length=n then u ps δ else none)=some δ':=e;rw [if_pos hl] at this;exact this
    exact ⟨a,vs,rfl,sa,by rw [<- ra.length]; exact hl,φ,δ,h,ps,δ',rh,re,ra,e',q⟩
   ·have:(if ps.length=n then u ps δ else none)=some δ':=e;rw [if_neg hl] at this;cases this
  | _=>cases e
theorem PS.imp {st:Stmt} {t t':TS} (h:PS X st t) (i:∀ D σ H,t' D σ H->t D σ H):PS X st t':=fun pins s σ H D I q=>h pins s σ H D I (i D σ H q)
theorem PSs.imp {st:List Stmt} {t t':TS} (h:PSs X st t) (i:∀ D σ H,t' D σ H->t D σ H):PSs X st t':=fun pins s σ H D I q=>h pins s σ H D I (i D σ H q)
def aR (a b:Ms):Ms:=fun δ h=>match a δ h with
 | .nx δ1 h1=>b δ1 h1
 | r=>r
def kC:Ms:=fun δ h=>.nx δ h
def T9:Ms:=fun δ h=>.bk δ h
def Ta:Ms:=fun δ h=>.ct δ h
def bF (i:Nat) (m:Me):Ms:=fun δ h=>(m δ h).fl fun p h1=>.nx (δ.set i (some p)) h1
def uU (m:Me) (t:Mg):Ms:=fun δ h=>(m δ h).fl fun p h1=>match t p δ with
 | some δ'=>.nx δ' h1
 | none=>.bad
def uV (m:Me):Ms:=fun δ h=>(m δ h).fl fun _ h1=>.nx δ h1
def dY (m:Me):Ms:=fun δ h=>(m δ h).fl fun p h1=>.rt p h1
def QL:Ms:=fun _ h=>.rt .non h
def jR (t:Ev->PH->Rs Bool) (a b:Ms):Ms:=fun δ h=>(t δ h).fl fun c h1=>match c with
 | true=>a δ h1
 | false=>b δ h1
section
variable {st:Stmt} {rest:List Stmt} {a b:Ms} {e:Expr} {m:Me} {pos:Pos}
theorem kD:SSs C k X [] kC:=fun c=>Kw.imp fun D σ H h=>by
 obtain ⟨φ,δ,h,rh,re,p⟩:=h;exact p.nx rh re
theorem Oj {φ:List Addr} {H:Hp} {r:Fl} {b:Ms} {D:Ends} (h:bT C φ H (match r with | .nx δ1 h1=>b δ1 h1 | r=>r) D):bT C φ H r { D with nx:=rdS C b D }:=by
 cases r with
 | nx δ h'=>exact fun φ' σ H' p t rh re=>⟨φ',δ,h',rh,re,bT.weak p t h⟩
 | rt p h'=>exact h
 | bk δ h'=>exact h
 | ct δ h'=>exact h
 | exc x h'=>exact h
 | bad=>exact h
theorem aG (h1:SSt C k X st a) (h2:SSs C k X rest b):SSs C k X (st :: rest) (aR a b):=fun c=>(Ha (h1 c) (h2 c)).imp fun D σ H h=>by
 obtain ⟨φ,δ,h,rh,re,p⟩:=h;exact ⟨φ,δ,h,rh,re,Oj p⟩
theorem aQ (h1:SSt C k X st a):SSs C k X [st] a:=fun c=>Kx (h1 c)
theorem Ol:SSt C k X (.Pass pos) kC:=fun c=>Ky.imp fun D σ H h=>by
 obtain ⟨φ,δ,h,rh,re,p⟩:=h;exact p.nx rh re
theorem aY {i:Nat} {x:Str} {pos':Pos} (hN:X.N.Nodup) (he:SE C k X e m) (hi:X.N[i]?=some x:=by rfl) (hx:Loc X.env.scope x:=by first | exact Or.inl rfl | exact Or.inr rfl) (hs:swapsWith e (some (.Name x pos')) pos.line X.env=pure false:=by rfl)
  (hf:X.fn x=true\/X.env.scope.names.lookup x=some .local:=by first | exact .inl rfl | exact .inr rfl):SSt C k X (.Assign [.Name x pos'] e pos) (bF i m):=fun c=>(NC hN hi hx (he c) hs hf).imp fun D σ H h=>by
 obtain ⟨φ,δ,h,rh,re,p⟩:=h;refine ⟨φ,δ,h,rh,re,(post.fl p).imp ?_⟩;rintro v H1 ⟨φ1,x,h1,p1,t1,rh1,rv1,q1⟩;exact q1.nx rh1 ((re.mono p1 t1).set rv1 i)
theorem uW {tg:Expr} {t:Mg} (he:SE C k X e m) (hg:SG C k X tg t) (hs:swapsWithSole [tg] e pos.line X.env=pure false:=by rfl) (hw:swappedStores [tg] e X.env=pure none:=by rfl)
  (h1:(kg [tg] X.env).map (·.2)=[assign tg X.env]:=by rfl):SSt C k X (.Assign [tg] e pos) (uU m t):=fun c=>(NB (he c) (hg c) hs hw h1).imp fun D σ H h=>by
 obtain ⟨φ,δ,h,rh,re,p⟩:=h;refine ⟨φ,δ,h,rh,re,(post.fl p).imp ?_⟩;rintro v H1 ⟨φ1,x,h1,p1,t1,rh1,rv1,q1⟩;cases et:t x δ with
 | none=>rw [et] at q1; exact q1.elim
 | some δ'=>
  rw [et] at q1;exact ⟨φ1,δ,h1,x,δ',rh1,re.mono p1 t1,rv1,et,fun σ' re'=>q1.nx rh1 re'⟩
theorem yP (he:SE C k X e m) (hs:swapsWith e none pos.line X.env=pure false:=by rfl):SSt C k X (.Expr e pos) (uV m):=fun c=>(Kz (he c) hs).imp fun D σ H h=>by
 obtain ⟨φ,δ,h,rh,re,p⟩:=h;refine ⟨φ,δ,h,rh,re,(post.fl p).imp ?_⟩;rintro v H1 ⟨φ1,x,h1,p1,t1,rh1,rv1,q1⟩;exact q1.nx rh1 (re.mono p1 t1)
theorem eR (he:SE C k X e m):SSt C k X (.Return (some e) pos) (dY m):=fun c=>(Nz (he c)).imp fun D σ H h=>by
 obtain ⟨φ,δ,h,rh,re,p⟩:=h;refine ⟨φ,δ,h,rh,re,(post.fl p).imp ?_⟩;rintro v H1 ⟨φ1,x,h1,p1,t1,rh1,rv1,q1⟩;exact q1.rt rh1 rv1
theorem xF {cnd:Expr} {as bs:List Stmt} {t:Ev->PH->Rs Bool} (hc:ST C k X cnd t) (ha:SSs C k X as a) (hb:SSs C k X bs b):SSt C k X (.If cnd as bs pos) (jR t a b):=fun c=>(Q2 (hc c) (ha c) (hb c)).imp fun D σ H h=>by
 obtain ⟨φ,δ,h,rh,re,p⟩:=h;refine ⟨φ,δ,h,rh,re,(bW.fl p).imp ?_⟩;rintro d H1 ⟨φ1,h1,p1,t1,rh1,q1⟩;cases d with
 | true=>exact Hv ⟨φ1,δ,h1,rh1,re.mono p1 t1,q1⟩
 | false=>exact Hu ⟨φ1,δ,h1,rh1,re.mono p1 t1,q1⟩
end
structure Wk where
 xs:List PV
 g:PH->Bool
def G3 (C:MC) (J:It) (w:Wk) (φ0:List Addr) (H0:Hp):Prop:=∀ φ H h,φ0<+:φ->Kp H0 H->RH C φ H h->w.g h=true->∀ i:Nat,
 (i < w.xs.length->J.go i H/\∀ x H',J.yld i H x H'->(∃ p,w.xs[i]?=some p/\RV C φ H' p x)/\Kp H H'/\RH C φ H' h)/\(w.xs.length<=i->J.stop i H)
abbrev Mi:=Ev->PH->Rs Wk
def dZ (C:MC) (φ:List Addr) (H:Hp) (r:Rs Wk) (R:It->Hp->Prop):Prop:=match r with
 | .ok w h=>∀ φ' H' J,φ<+:φ'->Kp H H'->RH C φ' H' h->G3 C J w φ' H'->R J H'
 | .exc x h=>∀ φ' H',φ<+:φ'->Kp H H'->RH C φ' H' h->C.ex φ' H' x
 | .bad=>False
def rdI (C:MC) (m:Mi):TI:=fun σ H R=>∃ φ δ h,RH C φ H h/\RE C φ H δ σ/\dZ C φ H (m δ h) R
def SI (C:MC) (k:Nat) (X:Cx) (tg iter:Expr) (m:Mi):Prop:=Cxt C k X->PI X tg iter (rdI C m)
def uX (n:Nat) (xs:List PV) (h':PH):Bool:=match aS h' n with
 | some ys=>PV.beqs ys xs
 | none=>false
def ofSeq (x:PV) (h:PH):Rs Wk:=match x with
 | .tup xs=>.ok ⟨xs,fun _=>true⟩ h
 | .ref n=>match aS h n with
  | some xs=>.ok ⟨xs,uX n xs⟩ h
  | none=>.bad
 | .fl xs=>.ok ⟨xs,fun _=>true⟩ h
 | _=>.bad
def fM (m:Me):Mi:=fun δ h=>(m δ h).bind ofSeq
theorem EM {tg iter:Expr} {m:Me} (h:SE C k X iter m):SI C k X tg iter (fM m):=fun c=>by
 intro pins s σ H R I q;obtain ⟨φ,δ,hh,rh,re,p⟩:=q;have key:rd C m σ H fun v H1=>∃ φ1 x h1,φ<+:φ1/\Kp H H1/\RH C φ1 H1 h1/\RV C φ1 H1 x v/\dZ C φ1 H1 (ofSeq x h1) R:=by
  refine ⟨φ,δ,hh,rh,re,?_⟩;unfold fM at p;cases e:m δ hh with
  | ok x h1=>
   rw [e] at p;intro φ' v H' p' t' rh' rv';refine ⟨φ',x,h1,p',t',rh',rv',?_⟩
   show dZ C φ' H' (ofSeq x h1) R
   have p0:dZ C φ H (ofSeq x h1) R:=p;cases e2:ofSeq x h1 with
   | ok w h2=>rw [e2] at p0; exact fun φ2 H2 J p2 t2=>p0 φ2 H2 J (p'.trans p2) (t'.trans t2)
   | exc z h2=>rw [e2] at p0; exact fun φ2 H2 p2 t2=>p0 φ2 H2 (p'.trans p2) (t'.trans t2)
   | bad=>rw [e2] at p0; exact p0
  | exc x h1=>rw [e] at p; exact p
  | bad=>rw [e] at p; exact p
 refine thn (h c pins s σ H _ I key) fun v s1 hz=>?_;obtain ⟨x,H1,I1,r1,φ1,x',h1,p1,t1,rh1,rv1,q1⟩:=hz;unfold ofSeq at q1;cases x' with
 | tup xs=>
  obtain ⟨a,vs,rfl,sa,ra⟩:=rv1;cases r1
  rw [<- c.K] at sa;obtain ⟨its,rv,p,hz⟩:=I1.tuple sa;refine wpAny_pyIter_tuple (show s1.heap.IsTuple a its.toArray from p) ?_
  refine ⟨s1.heap.objs.size,[s1.heap.objs.size],_,_,H1,rfl,I1.kept (t':=s1.toks) fun b o e=>ae _ e,CU a _,⟨_,aj _ rfl,rfl,rfl⟩,fun b hb=>?_,?_⟩
  ·have e:b=s1.heap.objs.size:=by simpa using hb
   subst e;exact I1.fpOk (az _) (I1.hok.fresh (az _))
  ·refine q1 φ1 H1 (Itt X.K a) ai (Kp.refl H1) rh1 fun φ2 H2 h2 p2 t2 rh2 _ i=>⟨fun hi=>?_,fun hi=>⟨vs,t2.sq sa,by rw [<- ra.length]; exact hi⟩⟩;have hi':i < vs.length:=by rw [<- ra.length]; exact hi
   refine ⟨⟨vs,vs[i],t2.sq sa,by simp [hi']⟩,fun x H' y=>?_⟩;obtain ⟨e,y⟩:=y;subst e;obtain ⟨x2,e2,r2⟩:=ra.get (y vs (t2.sq sa));exact ⟨⟨x2,e2,r2.mono p2 t2⟩,Kp.refl _,rh2⟩
 | ref n=>
  obtain ⟨a,rfl,ha⟩:=rv1;cases r1
  dsimp only at q1;cases e:aS h1 n with
  | none=>rw [e] at q1; exact q1.elim
  | some xs=>
   rw [e] at q1;obtain ⟨a2,vs,ha2,sa,ra⟩:=cD rh1 e;rw [ha] at ha2; cases ha2;have sa':SqL X.K H1 a vs:=by rw [c.K]; exact sa
   obtain ⟨its,rv,p,hz⟩:=I1.list sa';refine wpAny_pyIter_list p.isList ?_;refine ⟨s1.heap.objs.size,[s1.heap.objs.size],_,_,H1,rfl,I1.kept (t':=s1.toks) fun b o e=>ae _ e,xY a _,⟨_,aj _ rfl,rfl,rfl⟩,fun b hb=>?_,?_⟩
   ·have e:b=s1.heap.objs.size:=by simpa using hb
    subst e;exact I1.fpOk (az _) (I1.hok.fresh (az _))
   ·refine q1 φ1 H1 (Itl X.K a) ai (Kp.refl H1) rh1 fun φ2 H2 h2 p2 t2 rh2 hg i=>?_;have hg:(match aS h2 n with | some ys=>PV.beqs ys xs | none=>false)=true:=hg
    cases e2:aS h2 n with
    | none=>rw [e2] at hg; cases hg
    | some ys=>
     rw [e2] at hg;have hxy:=PV.beqs_eq hg;subst hxy;obtain ⟨a3,us,ha3,su,ru⟩:=cD rh2 e2;rw [fX p2 ha] at ha3; cases ha3;rw [<- c.K] at su;refine ⟨fun hi=>?_,fun hi=>⟨us,su,by rw [<- ru.length]; exact hi⟩⟩;have hi':i < us.length:=by rw [<- ru.length]; exact hi
     refine ⟨⟨us,us[i],su,by simp [hi']⟩,fun x H' y=>?_⟩;obtain ⟨e,y⟩:=y;subst e;obtain ⟨x2,e2,r2⟩:=ru.get (y us su);exact ⟨⟨x2,e2,r2⟩,Kp.refl _,rh2⟩
 | fl xs=>
  obtain ⟨a,vs,rfl,sa,ra⟩:=rv1;cases r1
  rw [<- c.K] at sa;obtain ⟨its,rv,p,hz⟩:=I1.list sa.sq;refine wpAny_pyIter_list p.isList ?_;refine ⟨s1.heap.objs.size,[s1.heap.objs.size],_,_,H1,rfl,I1.kept (t':=s1.toks) fun b o e=>ae _ e,xY a _,⟨_,aj _ rfl,rfl,rfl⟩,fun b hb=>?_,?_⟩
  ·have e:b=s1.heap.objs.size:=by simpa using hb
   subst e;exact I1.fpOk (az _) (I1.hok.fresh (az _))
  ·refine q1 φ1 H1 (Itl X.K a) ai (Kp.refl H1) rh1 fun φ2 H2 h2 p2 t2 rh2 _ i=>⟨fun hi=>?_,fun hi=>⟨vs,(t2.sf sa).sq,by rw [<- ra.length]; exact hi⟩⟩;have hi':i < vs.length:=by rw [<- ra.length]; exact hi
   refine ⟨⟨vs,vs[i],(t2.sf sa).sq,by simp [hi']⟩,fun x H' y=>?_⟩;obtain ⟨e,y⟩:=y;subst e;obtain ⟨x2,e2,r2⟩:=ra.get (y vs (t2.sf sa).sq);exact ⟨⟨x2,e2,r2.mono p2 t2⟩,Kp.refl _,rh2⟩
 | _=>exact q1.elim
def upTo (lo:Int):Nat->List PV
 | 0=>[]
 | n+1=>.int lo :: upTo (lo+1) n
theorem cV:∀ (n:Nat) (lo:Int),(upTo lo n).length=n
 | 0,_=>rfl
 | n+1,lo=>by simp [upTo,cV n]
theorem oP:∀ (n:Nat) (lo:Int) (i:Nat),i < n->(upTo lo n)[i]?=some (.int (lo+i))
 | 0,_,_,h=>by omega
 | n+1,lo,0,_=>by simp [upTo]
 | n+1,lo,i+1,h=>by
  simp only [upTo,d7];rw [oP n (lo+1) i (by omega)]
  congr 2
  omega
open Classical in
noncomputable def EN:List PV->PH->Rs Wk:=fun xs h=>match xs with
 | [.int j]=>if -(2 ^ 62)<=j/\j < 2 ^ 62 then .ok ⟨upTo 0 j.toNat,fun _=>true⟩ h else .bad
 | _=>.bad
open Classical in
noncomputable def Ij:List PV->PH->Rs Wk:=fun xs h=>match xs with
 | [.int i,.int j]=>if -(2 ^ 62)<=i/\i < 2 ^ 62/\-(2 ^ 62)<=j/\j < 2 ^ 62 then .ok ⟨upTo i (j - i).toNat,fun _=>true⟩ h else .bad
 | _=>.bad
noncomputable def mH (ms:Ma):Mi:=fun δ h=>(ms δ h).bind EN
noncomputable def EO (ms:Ma):Mi:=fun δ h=>(ms δ h).bind Ij
theorem Ik (lo:Int) (n:Nat) (φ:List Addr) (H:Hp):G3 C (Itr lo n) ⟨upTo lo n,fun _=>true⟩ φ H:=fun φ2 H2 h2 p2 t2 rh2 _ i=>by
 refine ⟨fun hi=>?_,fun hi=>?_⟩
 ·have hi':i < n:=by rw [<- cV n lo]; exact hi
  refine ⟨hi',fun x H' y=>?_⟩;obtain ⟨e,y⟩:=y;subst e y;exact ⟨⟨.int (lo+i),oP n lo i hi',rfl⟩,Kp.refl _,rh2⟩
 ·have:(upTo lo n).length<=i:=hi;rw [cV] at this;exact this
theorem postA.bindI {φ:List Addr} {H:Hp} {r:Rs (List PV)} {f:List PV->PH->Rs Wk} {R:It->Hp->Prop} (h:dZ C φ H (r.bind f) R):postA C φ H r fun vs H1=>∃ φ1 ps h1,φ<+:φ1/\Kp H H1/\RH C φ1 H1 h1/\RVs C φ1 H1 ps vs/\dZ C φ1 H1 (f ps h1) R:=by
 cases r with
 | ok a h'=>
  intro φ' v H' p' t' rh rv;refine ⟨φ',a,h',p',t',rh,rv,?_⟩;have p0:dZ C φ H (f a h') R:=h;cases e2:f a h' with
  | ok w h2=>rw [e2] at p0; exact fun φ2 H2 J p2 t2=>p0 φ2 H2 J (p'.trans p2) (t'.trans t2)
  | exc z h2=>rw [e2] at p0; exact fun φ2 H2 p2 t2=>p0 φ2 H2 (p'.trans p2) (t'.trans t2)
  | bad=>rw [e2] at p0; exact p0
 | exc a h'=>exact h
 | bad=>exact h
theorem PI.imp {tg iter:Expr} {t t':TI} (h:PI X tg iter t) (i:∀ σ H R,t' σ H R->t σ H R):PI X tg iter t':=fun pins s σ H R I q=>h pins s σ H R I (i σ H R q)
theorem A5 {x:Expr} {ms:Ma} {tg:Expr} {p pos:Pos} (ha:SA C k X [x] ms) (hb:("range" : Str)∈C.bs:=by decide) (hg:Gl X "range" := by rfl) (hs:b0 [x] X.env=[(false,eval x X.env)]:=by rfl):SI C k X tg (.Call (.Name "range" p) [x] [] pos) (mH ms):=fun c=>
 (pr1 hg (c.bn _ hb) (ha c) hs).imp fun σ H R h=>by
  obtain ⟨φ,δ,h,rh,re,p⟩:=h;refine ⟨φ,δ,h,rh,re,(postA.bindI p).imp ?_⟩;rintro vs H1 ⟨φ1,xs,h1,p1,t1,rh1,rv1,q1⟩;unfold EN at q1;split at q1
  ·obtain ⟨v,rfl,rx⟩:=rv1.one;cases rx
   rename_i j
   by_cases hj:-(2 ^ 62)<=j/\j < 2 ^ 62
   ·rw [if_pos hj] at q1;exact ⟨hj,q1 φ1 H1 _ ai (Kp.refl _) rh1 (Ik 0 j.toNat φ1 H1)⟩
   ·rw [if_neg hj] at q1; exact q1.elim
  ·exact q1.elim
theorem Om {x y:Expr} {ms:Ma} {tg:Expr} {p pos:Pos} (ha:SA C k X [x,y] ms) (hb:("range" : Str)∈C.bs:=by decide) (hg:Gl X "range" := by rfl) (hs:b0 [x,y] X.env=[(false,eval x X.env),(false,eval y X.env)]:=by rfl) (hs2:b0 [y] X.env=[(false,eval y X.env)]:=by rfl):
  SI C k X tg (.Call (.Name "range" p) [x,y] [] pos) (EO ms):=fun c=>
 (pr2 hg (c.bn _ hb) (ha c) hs hs2).imp fun σ H R h=>by
  obtain ⟨φ,δ,h,rh,re,p⟩:=h;refine ⟨φ,δ,h,rh,re,(postA.bindI p).imp ?_⟩;rintro vs H1 ⟨φ1,xs,h1,p1,t1,rh1,rv1,q1⟩;unfold Ij at q1;split at q1
  ·obtain ⟨v,w,rfl,rx,ry⟩:=rv1.two;cases rx; cases ry;rename_i i j
   by_cases hj:-(2 ^ 62)<=i/\i < 2 ^ 62/\-(2 ^ 62)<=j/\j < 2 ^ 62
   ·rw [if_pos hj] at q1;exact ⟨hj,q1 φ1 H1 _ ai (Kp.refl _) rh1 (Ik i (j - i).toNat φ1 H1)⟩
   ·rw [if_neg hj] at q1; exact q1.elim
  ·exact q1.elim
def fV (g:PH->Bool) (tg:Mg) (body:Ms):List PV->Ev->PH->Fl
 | [],δ,h=>if g h=true then .nx δ h else .bad
 | x :: xs,δ,h=>if g h=true then (match tg x δ with
  | none=>.bad
  | some δ1=>match body δ1 h with
   | .nx δ2 h2=>fV g tg body xs δ2 h2
   | .ct δ2 h2=>fV g tg body xs δ2 h2
   | .bk δ2 h2=>.nx δ2 h2
   | r=>r) else .bad
def hU (mi:Mi) (tg:Mg) (body:Ms):Ms:=fun δ h=>(mi δ h).fl fun w h1=>fV w.g tg body w.xs δ h1
theorem dZ.fl {φ:List Addr} {H:Hp} {r:Rs Wk} {f:Wk->PH->Fl} {D:Ends} (h:bT C φ H (r.fl f) D):dZ C φ H r fun J H1=>∃ φ1 w h1,φ<+:φ1/\Kp H H1/\RH C φ1 H1 h1/\G3 C J w φ1 H1/\bT C φ1 H1 (f w h1) D:=by
 cases r with
 | ok a h'=>exact fun φ' H' J p t rh wk=>⟨φ',a,h',p,t,rh,wk,bT.weak p t h⟩
 | exc a h'=>exact h
 | bad=>exact h
theorem dZ.imp {φ:List Addr} {H:Hp} {r:Rs Wk} {Q Q':It->Hp->Prop} (h:dZ C φ H r Q) (i:∀ v H',Q v H'->Q' v H'):dZ C φ H r Q':=by
 cases r with
 | ok a h'=>exact fun φ' H' J p t rh wk=>i J H' (h φ' H' J p t rh wk)
 | exc a h'=>exact h
 | bad=>exact h
theorem drop_cons {α:Type} {xs:List α} {i:Nat} {p:α} (h:xs[i]?=some p):xs.drop i=p :: xs.drop (i+1):=by
 obtain ⟨h1,h2⟩:=af.mp h;rw [di h1,h2]
theorem Lj {J:It} {w:Wk} {φ0:List Addr} {H0:Hp} {tg:Mg} {body:Ms} {D:Ends} {σ:St} {δ:Ev} {h:PH} (wk:G3 C J w φ0 H0) (rh:RH C φ0 H0 h) (re:RE C φ0 H0 δ σ) (p:bT C φ0 H0 (fV w.g tg body w.xs δ h) D):
  ∃ W:Nat->Nat->St->Hp->Prop,(∃ m,W 0 m σ H0)/\∀ i m σ H,W i m σ H->
   (J.stop i H/\D.nx σ H)\/(J.go i H/\∃ N:St->Hp->Prop,(∀ σ' H',N σ' H'->∃ m',m' < m/\W (i+1) m' σ' H')/\∀ x H',J.yld i H x H'->rdG C tg x σ H' fun σ2 H2=>rdS C body { D with nx:=N,ct:=N,bk:=D.nx } σ2 H2):=by
 refine ⟨fun i m σ H=>m=w.xs.length - i/\i<=w.xs.length/\∃ φ δ h,φ0<+:φ/\Kp H0 H/\RH C φ H h/\RE C φ H δ σ/\bT C φ H (fV w.g tg body (w.xs.drop i) δ h) D,
  ⟨w.xs.length,by simp,d4 _,φ0,δ,h,ai,Kp.refl _,rh,re,by rw [d3]; exact p⟩,?_⟩
 rintro i m σ H ⟨rfl,hi,φ,δ,h,pp,tt,rh,re,p⟩
 by_cases hlt:i < w.xs.length
 ·have hd:w.xs.drop i=w.xs[i] :: w.xs.drop (i+1):=drop_cons (by simp [hlt]);rw [hd] at p;unfold fV at p
  by_cases hg:w.g h=true
  ·rw [if_pos hg] at p;obtain ⟨go,step⟩:=(wk φ H h pp tt rh hg i).1 hlt;refine .inr ⟨go,fun σ' H'=>∃ φ δ h,φ0<+:φ/\Kp H0 H'/\RH C φ H' h/\RE C φ H' δ σ'/\bT C φ H' (fV w.g tg body (w.xs.drop (i+1)) δ h) D,fun σ' H' ⟨φ',δ',h',q⟩=>⟨w.xs.length - (i+1),by omega,rfl,hlt,φ',δ',h',q⟩,fun x H' y=>?_⟩;obtain ⟨⟨q,eq,rv⟩,t1,rh1⟩:=step x H' y;have eq':w.xs[i]=q:=by
    have:w.xs[i]?=some w.xs[i]:=by simp [hlt]
    rw [this] at eq;exact b8 eq
   rw [eq'] at p;cases et:tg q δ with
   | none=>rw [et] at p; exact p.elim
   | some δ1=>
    rw [et] at p;dsimp only at p;refine ⟨φ,δ,h,q,δ1,rh1,re.mono ai t1,rv,et,fun σ2 re2=>⟨φ,δ1,h,rh1,re2,?_⟩⟩;have p:=bT.weak ai t1 p;cases eb:body δ1 h with
    | nx δ2 h2=>rw [eb] at p; exact fun φ3 σ3 H3 p3 t3 rh3 re3=>⟨φ3,δ2,h2,pp.trans p3,(tt.trans t1).trans t3,rh3,re3,bT.weak p3 t3 p⟩
    | ct δ2 h2=>rw [eb] at p; exact fun φ3 σ3 H3 p3 t3 rh3 re3=>⟨φ3,δ2,h2,pp.trans p3,(tt.trans t1).trans t3,rh3,re3,bT.weak p3 t3 p⟩
    | bk δ2 h2=>rw [eb] at p; exact p
    | rt z h2=>rw [eb] at p; exact p
    | exc z h2=>rw [eb] at p; exact p
    | bad=>rw [eb] at p; exact p
  ·rw [if_neg hg] at p;exact p.elim
 ·have e:i=w.xs.length:=by omega
  subst e;rw [List.drop_length] at p;unfold fV at p
  by_cases hg:w.g h=true
  ·rw [if_pos hg] at p;exact .inl ⟨(wk φ H h pp tt rh hg _).2 (az _),p.nx rh re⟩
  ·rw [if_neg hg] at p;exact p.elim
theorem rZ {tg iter:Expr} {body:List Stmt} {mi:Mi} {t:Mg} {mb:Ms} {pos:Pos} (hi:SI C k X tg iter mi) (hg:SG C k X tg t) (hb:SSs C k X body mb) (hp:PassesOwn (model X.prog X.w) X.A X.env X.xe:=by exact PassesOwn.never)
  (hs:∀ x,n9 iter X.env x=pure x:=by intro _; rfl):SSt C k X (.For tg iter body [] pos) (hU mi t mb):=fun c=>(NF hp c.calm (hi c) (hg c) (hb c) hs).imp fun D σ H h=>by
 obtain ⟨φ,δ,h,rh,re,p⟩:=h;refine ⟨φ,δ,h,rh,re,(dZ.fl p).imp ?_⟩;rintro J H1 ⟨φ1,w,h1,p1,t1,rh1,wk,q1⟩;exact Lj wk rh1 (re.mono p1 t1) q1
def Bz (t:Ev->PH->Rs Bool) (body:Ms):Nat->Ev->PH->Fl
 | 0,_,_=>.bad
 | n+1,δ,h=>(t δ h).fl fun b h1=>match b with
  | false=>.nx δ h1
  | true=>match body δ h1 with
   | .nx δ2 h2=>Bz t body n δ2 h2
   | .ct δ2 h2=>Bz t body n δ2 h2
   | .bk δ2 h2=>.nx δ2 h2
   | r=>r
def Il (n:Nat) (t:Ev->PH->Rs Bool) (body:Ms):Ms:=Bz t body n
theorem Lk {n:Nat} {cnd:Expr} {body:List Stmt} {t:Ev->PH->Rs Bool} {mb:Ms} {pos:Pos} (hc:ST C k X cnd t) (hb:SSs C k X body mb) (hp:PassesOwn (model X.prog X.w) X.A X.env X.xe:=by exact PassesOwn.never):SSt C k X (.While cnd body [] pos) (Il n t mb):=fun c=>
 (Hc hp (hc c) (hb c)).imp fun D σ H h=>by
  refine ⟨fun m σ H=>∃ φ δ h,RH C φ H h/\RE C φ H δ σ/\bT C φ H (Bz t mb m δ h) D,⟨n,h⟩,?_⟩;rintro m σ H ⟨φ,δ,h,rh,re,p⟩;cases m with
  | zero=>exact p.elim
  | succ m=>
   refine ⟨φ,δ,h,rh,re,(bW.fl p).imp ?_⟩;rintro b H1 ⟨φ1,h1,p1,t1,rh1,q1⟩;cases b with
   | false=>exact Hu (q1.nx rh1 (re.mono p1 t1))
   | true=>
    refine Hv ⟨fun σ' H'=>∃ φ δ h,RH C φ H' h/\RE C φ H' δ σ'/\bT C φ H' (Bz t mb m δ h) D,fun σ' H' q=>⟨m,Nat.lt_succ_self m,q⟩,φ1,δ,h1,rh1,re.mono p1 t1,?_⟩;dsimp only at q1;cases eb:mb δ h1 with
    | nx δ2 h2=>rw [eb] at q1; exact fun φ3 σ3 H3 p3 t3 rh3 re3=>⟨φ3,δ2,h2,rh3,re3,bT.weak p3 t3 q1⟩
    | ct δ2 h2=>rw [eb] at q1; exact fun φ3 σ3 H3 p3 t3 rh3 re3=>⟨φ3,δ2,h2,rh3,re3,bT.weak p3 t3 q1⟩
    | bk δ2 h2=>rw [eb] at q1; exact q1
    | rt z h2=>rw [eb] at q1; exact q1
    | exc z h2=>rw [eb] at q1; exact q1
    | bad=>rw [eb] at q1; exact q1
end L2
namespace L2
open PySem PySem.Spec PyProof.Rows
variable {C:MC} {k:Nat} {X:Cx}
def kE (js:List (Option Nat)) (δ:Ev):Ev:=js.map fun o=>match o with
 | none=>none
 | some j=>lY δ j
theorem ES:∀ {σ:St} {i:Nat} {v:V},σ[i]?=some (some v)->HG σ i=some v
 | [],_,_,h=>by simp at h
 | x :: _,0,v,h=>by
  have:x=some v:=by simpa using h
  exact this
 | _ :: r,n+1,v,h=>ES (σ:=r) (i:=n) (by simpa using h)
theorem RE.cap {φ:List Addr} {H:Hp} {δ:Ev} {σ:St} (re:RE C φ H δ σ) (js:List (Option Nat)):RE C φ H (kE js δ) (iV js σ):=by
 refine ⟨by simp [kE,iV],fun i p e=>?_⟩;unfold kE at e;unfold iV;rw [br] at e ⊢;cases q:js[i]? with
 | none=>rw [q] at e; cases e
 | some o=>
  rw [q] at e;cases o with
  | none=>cases e
  | some j=>
   obtain ⟨v,hv,rv⟩:=re.2 j p (uL (b8 e));exact ⟨v,by show some (HG σ j)=_; rw [ES hv],rv⟩
def jL (g:PH->Bool) (tg:Mg) (tst:Ev->PH->Rs Bool) (elt:Me) (δ0:Ev) (n:Nat):List PV->PH->Rs PV
 | [],h=>if g h=true then .ok (.ref n) h else .bad
 | x :: xs,h=>if g h=true then (match tg x δ0 with
  | none=>.bad
  | some δ1=>(tst δ1 h).bind fun b h1=>match b with
   | false=>jL g tg tst elt δ0 n xs h1
   | true=>(elt δ1 h1).bind fun p h2=>match eO h2 n with
    | some ys=>if ys.length < aw then jL g tg tst elt δ0 n xs (h2.set n (.lst (ys++[p]))) else .bad
    | none=>.bad) else .bad
def fN (js:List (Option Nat)) (mi:Mi) (tg:Mg) (tst:Ev->PH->Rs Bool) (elt:Me):Me:=fun δ h=>(mi δ h).bind fun w h1=>jL w.g tg tst elt (kE js δ) h1.length w.xs (h1++[.lst []])
def Ll:Ev->PH->Rs Bool:=fun _ h=>.ok true h
def STs (C:MC) (k:Nat) (X:Cx) (es:List Expr) (m:Ev->PH->Rs Bool):Prop:=Cxt C k X->PTs X es (rdB C m)
theorem On:STs C k X [] Ll:=fun c pins s σ H Q I h=>by
 obtain ⟨φ,δ,h,rh,re,p⟩:=h;exact L1 pins s σ H Q I (p.val rh)
theorem Dy {e:Expr} {m:Ev->PH->Rs Bool} (h:ST C k X e m):STs C k X [e] m:=fun c=>L3 (h c)
theorem dZ.bind {φ:List Addr} {H:Hp} {r:Rs Wk} {f:Wk->PH->Rs PV} {Q:VK} (h:post C φ H (r.bind f) Q):dZ C φ H r fun J H1=>∃ φ1 w h1,φ<+:φ1/\Kp H H1/\RH C φ1 H1 h1/\G3 C J w φ1 H1/\post C φ1 H1 (f w h1) Q:=by
 cases r with
 | ok a h'=>exact fun φ' H' J p t rh wk=>⟨φ',a,h',p,t,rh,wk,post.weak p t h⟩
 | exc a h'=>exact h
 | bad=>exact h
theorem Im {J:It} {w:Wk} {φ0:List Addr} {H0:Hp} {tg:Mg} {tst:Ev->PH->Rs Bool} {elt:Me} {Q:VK} {σ:St} {δ:Ev} {h:PH} {js:List (Option Nat)} (wk:G3 C J w φ0 H0) (rh:RH C φ0 H0 h) (re:RE C φ0 H0 δ σ)
  (p:post C φ0 H0 (jL w.g tg tst elt (kE js δ) h.length w.xs (h++[.lst []])) Q) (acc:Addr) (hacc:H0 acc=none):
  ∃ W:Nat->Nat->Hp->Prop,(∃ m,W 0 m (upd H0 acc (.lst [])))/\∀ i m H2,W i m H2->
   (J.stop i H2/\Q (.ref acc) H2)\/(J.go i H2/\∃ N:Hp->Prop,(∀ H',N H'->∃ m',m' < m/\W (i+1) m' H')/\∀ x H3,J.yld i H2 x H3->N3 js (rdG C tg) (rdB C tst) (rd C elt) σ acc x H3 N):=by
 have hlen:(φ0++[acc])[h.length]?=some acc:=by rw [<- rh.len]; simp
 refine ⟨fun i m H=>m=w.xs.length - i/\i<=w.xs.length/\∃ φ h',(φ0++[acc])<+:φ/\Kp H0 H/\RH C φ H h'/\post C φ H (jL w.g tg tst elt (kE js δ) h.length (w.xs.drop i) h') Q,
  ⟨w.xs.length,by simp,d4 _,φ0++[acc],h++[.lst []],ai,Kp.new hacc,rh.new (o:=.lst []) hacc ⟨[],aK,trivial⟩,by rw [d3]; exact post.weak (dj _ _) (Kp.new hacc) p⟩,?_⟩
 rintro i m H ⟨rfl,hi,φ,h',pp,tt,rh',p⟩;have pp0:φ0<+:φ:=(dj _ _).trans pp
 by_cases hlt:i < w.xs.length
 ·have hd:w.xs.drop i=w.xs[i] :: w.xs.drop (i+1):=drop_cons (by simp [hlt]);rw [hd] at p;unfold jL at p
  by_cases hg:w.g h'=true
  ·rw [if_pos hg] at p;obtain ⟨go,step⟩:=(wk φ H h' pp0 tt rh' hg i).1 hlt;refine .inr ⟨go,fun H'=>∃ φ h',(φ0++[acc])<+:φ/\Kp H0 H'/\RH C φ H' h'/\post C φ H' (jL w.g tg tst elt (kE js δ) h.length (w.xs.drop (i+1)) h') Q,fun H' ⟨φ',h',q⟩=>⟨w.xs.length - (i+1),by omega,rfl,hlt,φ',h',q⟩,fun x H' y=>?_⟩;obtain ⟨⟨q,eq,rv⟩,t1,rh1⟩:=step x H' y;have eq':w.xs[i]=q:=by
    have:w.xs[i]?=some w.xs[i]:=by simp [hlt]
    rw [this] at eq;exact b8 eq
   rw [eq'] at p;cases et:tg q (kE js δ) with
   | none=>rw [et] at p; exact p.elim
   | some δ1=>
    rw [et] at p;have re1:RE C φ H' (kE js δ) (iV js σ):=(re.mono pp0 (tt.trans t1)).cap js;refine ⟨φ,kE js δ,h',q,δ1,rh1,re1,rv,et,fun σ2 re2=>⟨φ,δ1,h',rh1,re2,(bW.bind (post.weak ai t1 p)).imp ?_⟩⟩;rintro b H5 ⟨φ5,h5,p5,t5,rh5,q5⟩;cases b with
    | false=>exact Hu ⟨φ5,h5,pp.trans p5,(tt.trans t1).trans t5,rh5,q5⟩
    | true=>
     refine Hv ⟨φ5,δ1,h5,rh5,re2.mono p5 t5,(post.bind q5).imp ?_⟩;rintro v H6 ⟨φ6,z,h6,p6,t6,rh6,rv6,q6⟩;cases e6:eO h6 h.length with
     | none=>rw [e6] at q6; exact q6.elim
     | some ys=>
      rw [e6] at q6;obtain ⟨hz,q6⟩:=q6.ite;have hφ:φ6[h.length]?=some acc:=fX ((pp.trans p5).trans p6) hlen;obtain ⟨vs,hH,rvs⟩:=rh6.at' h.length acc _ hφ (iE e6);refine ⟨vs,hH,by rw [<- rvs.length]; exact hz,φ6,h6.set h.length (.lst (ys++[z])),(pp.trans p5).trans p6,(((tt.trans t1).trans t5).trans t6).trans (Kp.lst hH),
       rh6.write hφ (by rw [hH]; trivial) ⟨vs++[v],aK,(rvs.snoc rv6).mono ai (Kp.lst hH)⟩,post.weak ai (Kp.lst hH) q6⟩
  ·rw [if_neg hg] at p;exact p.elim
 ·have e:i=w.xs.length:=by omega
  subst e;rw [List.drop_length] at p;unfold jL at p
  by_cases hg:w.g h'=true
  ·rw [if_pos hg] at p;exact .inl ⟨(wk φ H h' pp0 tt rh' hg _).2 (az _),p.val rh' ⟨acc,rfl,fX pp hlen⟩⟩
  ·rw [if_neg hg] at p;exact p.elim
theorem Lm {js:List (Option Nat)} {mi:Mi} {tg:Mg} {tst:Ev->PH->Rs Bool} {elt:Me} {σ:St} {H:Hp} {Q:VK} (h:rd C (fN js mi tg tst elt) σ H Q):HH js (rdI C mi) (rdG C tg) (rdB C tst) (rd C elt) σ H Q:=by
 obtain ⟨φ,δ,h,rh,re,p⟩:=h;refine ⟨φ,δ,h,rh,re,(dZ.bind p).imp ?_⟩;rintro J H1 ⟨φ1,w,h1,p1,t1,rh1,wk,q1⟩;intro acc hacc;exact Im wk rh1 (re.mono p1 t1) q1 acc hacc
section
variable {elt iter tg:Expr} {ifs:List Expr} {sc:Scope} {pos:Pos} {os:Scope} {oN N:List Str} {js:List (Option Nat)} {mi:Mi} {g:Mg} {tt:Ev->PH->Rs Bool} {me:Me}
theorem A6 (hes:X.env.scope=os) (heN:X.N=oN) (ok:uF os oN sc N js=true) (hi:SI C k X tg iter mi)
  (hg:∀ C' fp s₀ H₀,SG C k (X.comp sc N C' fp s₀ H₀) tg g) (ht:∀ C' fp s₀ H₀,STs C k (X.comp sc N C' fp s₀ H₀) ifs tt) (he:∀ C' fp s₀ H₀,SE C k (X.comp sc N C' fp s₀ H₀) elt me)
  (hs:∀ x,n9 iter X.env x=pure x:=by intro _; rfl):SE C k X (.ListComp elt [⟨tg,iter,ifs,0⟩] sc pos) (fN js mi g tt me):=fun c=>
 (L4 c.calm hes heN ok (hi c) (fun a b s H=>hg a b s H (c.comp sc N a b s H)) (fun a b s H=>ht a b s H (c.comp sc N a b s H)) (fun a b s H=>he a b s H (c.comp sc N a b s H)) hs).imp fun σ H Q h=>Lm h
end
def mFn (N:Nat) (body:Ms):Fn:=fun args h=>match body (args.map some++m4 (N - args.length) none) h with
 | .nx _ h'=>.ok .non h'
 | .rt p h'=>.ok p h'
 | .exc x h'=>.exc x h'
 | _=>.bad
theorem RE.start {φ:List Addr} {H:Hp} {ps:List PV} {vs:List V} (r:RVs C φ H ps vs) (N:List Str):RE C φ H (ps.map some++m4 (N.length - ps.length) none) (start N vs):=by
 unfold L2.start;refine ⟨by simp [r.length],fun i p e=>?_⟩
 by_cases hi:i < ps.length
 ·rw [bj (by simpa using hi),br] at e
  rw [bj (by simpa [<- r.length] using hi),br]
  cases q:ps[i]? with
  | none=>rw [q] at e; cases e
  | some x=>
   rw [q] at e;cases e
   obtain ⟨v,hv,rv⟩:=r.at q;exact ⟨v,by rw [hv]; rfl,rv⟩
 ·rw [au (by simpa using hi)] at e
  rw [List.getElem?_replicate] at e;split at e
  ·cases e
  ·cases e
theorem eS {P:Program} {mg:Str->Option Value} {base:Heap} {x qual:Str} {st:Stmt} {f:Addr} {fd:dq} {N ps:List Str} {body:Ms} (hex:∀ φ H x,¬ C.ex φ H x) (hbn:∀ x∈C.bs,mg x=none)
  (F:Fun C.K x qual st f fd) (S:bE N ps (aF st))
  (hb:∀ (cdv:Value) (A:Around) (outer:List Env) (s:Shared) (H:Hp) (E:XK),SSs C k (D7 CX0 P C.w C.K mg base N qual (aF st) f cdv A outer s H E).nox (aT st) body):
  aU P C.w C.K mg base CX0 (k+1) f fd ps (spM C ps.length (mFn N.length body)):=by
 refine F.ok S (fun vs H Q E h=>?_) (fun cdv A outer s H vs Q E hr h=>?_)
 ·obtain ⟨φ,h,xs,rh,rv,hl,_⟩:=h;rw [<- rv.length];exact hl
 ·obtain ⟨φ,h,xs,rh,rv,hl,p⟩:=h;refine ⟨_,hb cdv A outer s H E ⟨rfl,rfl,hr,hbn,rfl⟩,φ,xs.map some++m4 (N.length - xs.length) none,h,rh,RE.start rv N,?_⟩;unfold mFn at p;cases e:body (xs.map some++m4 (N.length - xs.length) none) h with
  | nx δ h'=>rw [e] at p; exact fun φ' σ' H' pp tt rh' re'=>p φ' .non H' pp tt rh' rfl
  | rt z h'=>rw [e] at p; exact p
  | exc z h'=>rw [e] at p; exact fun φ' H' pp tt rh'=>(hex _ _ _ (p φ' H' pp tt rh')).elim
  | bk δ h'=>rw [e] at p; exact p.elim
  | ct δ h'=>rw [e] at p; exact p.elim
  | bad=>rw [e] at p; exact p.elim
theorem Oo {f:Fn} {H:Hp} {Q:VK} {E:XK} {a:Addr} {ns:List Int} (hO:Hs H) (ho:SqL C.K H a (ns.map V.int)) (hf:∃ h,f [.fl (ns.map PV.int)] []=.ok (.bl true) h) (hQ:∀ H',Q (.bl true) H'):spM C 1 f [.ref a] H Q E:=by
 have r0:∀ ns:List Int,RVs C [] H (ns.map PV.int) (ns.map V.int):=by
  intro ns
  induction ns with
  | nil=>trivial
  | cons n ns ih=>exact ⟨rfl,ih⟩
 have hs:SqF C.K H a (ns.map V.int):=by
  rcases ho with (h | ⟨o,h⟩) | h
  ·rcases hO a with z | ⟨o,xs,z⟩
   ·rw [z] at h; cases h
   ·rw [z] at h; cases h
  ·exact .inl ⟨o,h⟩
  ·exact .inr h
 refine ⟨[],[],[.fl (ns.map PV.int)],⟨rfl,by simp,fun n b ob h1 h2=>by simp at h1⟩,⟨⟨a,_,rfl,hs,r0 ns⟩,trivial⟩,rfl,?_⟩;obtain ⟨h,e⟩:=hf;rw [e];intro φ' v H' _ _ _ rv;cases rv
 exact hQ H'
end L2
namespace L2
open PySem PySem.Spec PyProof.Rows
variable {C:MC} {k:Nat} {X:Cx}
def tyN (x:PV) (h:PH):Option String:=match x with
 | .non=>some "NoneType"
 | .bl _=>some "bool"
 | .int _=>some "int"
 | .str _=>some "str"
 | .tup _=>some "tuple"
 | .fl _=>some "list"
 | .ref n=>match h[n]? with
  | some (.lst _)=>some "list"
  | some (.dK _)=>some "dict"
  | _=>none
 | .ty _=>none
def mI (t c:String):Bool:=t == c || (t == "bool" && c == "int")
def known:List String:=["int","str","bool","list","tuple","dict"]
theorem Oq {K:ag} {t c:String} (ht:t∈"NoneType" :: known) (hc:c∈known):PySem.W.kitOne K (.type t) (.type c)=some (mI t c):=by
 simp only [known,bw,jv,or_false] at ht hc;rcases ht with rfl | rfl | rfl | rfl | rfl | rfl | rfl <;> rcases hc with rfl | rfl | rfl | rfl | rfl | rfl <;> rfl
def mY:List PV->PH->Rs PV:=fun xs h=>match xs with
 | [x,.ty c]=>match tyN x h with
  | some t=>if c∈known then .ok (.bl (mI t c)) h else .bad
  | none=>.bad
 | _=>.bad
theorem Ip (hK:X.K=C.K):cJ X (.builtin "isinstance") (fun xs H Q=>∃ x c t b,xs=[x,.ty c]/\(qA C.K H x (.type t)\/(∃ a vs,x=.ref a/\SqT C.K H a vs/\t="tuple")\/(∃ a vs,x=.ref a/\SqL C.K H a vs/\t="list"))/\PySem.W.kitOne C.K (.type t) (.type c)=some b/\Q (.bl b) H):=by
 intro pins s σ H xs us Q I r h;obtain ⟨x,c,t,b,rfl,ty,e,q⟩:=h;obtain ⟨u,v,rfl,ru,rv⟩:=vals2 r;cases rv
 rw [<- hK] at e ty;rcases ty with ty | ⟨a,vs,rfl,sa,rfl⟩ | ⟨a,vs,rfl,sa,rfl⟩
 ·exact Fz I ru ty e fun tk=>⟨.bl b,H,I.tok tk,rfl,q⟩
 ·cases ru
  obtain ⟨its,_,⟨o,h1,h2,_⟩,_⟩:=I.tuple sa;exact fv PySem.W.kitx_tuple I.kIn ⟨o,h1,h2⟩ e (fun z=>nomatch z) fun tk=>⟨.bl b,H,I.tok tk,rfl,q⟩
 ·cases ru
  obtain ⟨its,_,⟨o,n,h1,h2,_⟩,_⟩:=I.list sa;exact fv PySem.W.kitx_list I.kIn ⟨o,h1,h2⟩ e (fun z=>nomatch z) fun tk=>⟨.bl b,H,I.tok tk,rfl,q⟩
theorem oQ:mF C k X (.builtin "isinstance") mY:=fun c=>(Ip c.K).imp fun vs H Q h=>by
 obtain ⟨φ,h,ps,rh,rv,po⟩:=h;unfold mY at po;split at po
 ·rename_i x n;obtain ⟨v,w,rfl,rx,ry⟩:=rv.two;cases ry
  split at po
  ·rename_i t ht;obtain ⟨hn,po⟩:=po.ite;have fin:∀ {t:String},t∈"NoneType" :: known->post C φ H (.ok (.bl (mI t n)) h) Q->PySem.W.kitOne C.K (.type t) (.type n)=some (mI t n)/\Q (.bl (mI t n)) H:=fun hm po=>⟨Oq hm hn,po.val rh rfl⟩;unfold tyN at ht;cases x with
   | non=>cases ht; cases rx; exact ⟨_,n,_,_,rfl,.inl .non,fin (by decide) po⟩
   | bl b=>cases ht; cases rx; exact ⟨_,n,_,_,rfl,.inl (.bl _),fin (by decide) po⟩
   | int b=>cases ht; cases rx; exact ⟨_,n,_,_,rfl,.inl (.int _),fin (by decide) po⟩
   | str b=>cases ht; cases rx; exact ⟨_,n,_,_,rfl,.inl (.str _),fin (by decide) po⟩
   | tup xs=>
    cases ht
    obtain ⟨a,vs,rfl,sa,ra⟩:=rx;exact ⟨_,n,_,_,rfl,.inr (.inl ⟨a,vs,rfl,sa,rfl⟩),fin (by decide) po⟩
   | fl xs=>
    cases ht
    obtain ⟨a,vs,rfl,sa,ra⟩:=rx;exact ⟨_,n,_,_,rfl,.inr (.inr ⟨a,vs,rfl,sa.sq,rfl⟩),fin (by decide) po⟩
   | ref m=>
    obtain ⟨a,rfl,ha⟩:=rx;dsimp only at ht;split at ht
    ·rename_i xs hx;cases ht
     obtain ⟨vs,hH,ra⟩:=rh.at' m a _ ha hx;exact ⟨_,n,_,_,rfl,.inl (.lst hH),fin (by decide) po⟩
    ·rename_i xs hx;cases ht
     obtain ⟨vs,hH,ra⟩:=rh.at' m a _ ha hx;exact ⟨_,n,_,_,rfl,.inl (.dK hH),fin (by decide) po⟩
    ·cases ht
   | ty z=>cases ht
  ·exact po.elim
 ·exact po.elim
def QM:List PV->PH->Rs PV:=fun xs h=>match xs with
 | [.int i,.int j]=>.ok (.int (if j < i then j else i)) h
 | _=>.bad
def mMt (ty:PV->PH->Bool) (g:PV->List PV->PH->Rs PV) (mo:Me) (ms:Ma):Me:=fun δ h=>(mo δ h).bind fun x h1=>if ty x h1=true then (ms δ h1).bind fun ps h2=>g x ps h2 else .bad
def gO (ty:PV->PH->Bool) (g:PV->List PV->PH->Rs PV) (mo:Me):Me:=fun δ h=>(mo δ h).bind fun x h1=>if ty x h1=true then g x [] h1 else .bad
def rM (C:MC) (g:PV->List PV->PH->Rs PV):V->List V->Hp->VK->Prop:=fun x xs H Q=>∃ φ h p ps,RH C φ H h/\RV C φ H p x/\RVs C φ H ps xs/\post C φ H (g p ps h) Q
def MtS (C:MC) (k:Nat) (X:Cx) (T:String) (ty:PV->PH->Bool) (id:String) (g:PV->List PV->PH->Rs PV):Prop:=Cxt C k X->MtR X id (rM C g)/\∀ φ H h p x,RH C φ H h->RV C φ H p x->ty p h=true->tyV C.K T x H
section
variable {o e:Expr} {es:List Expr} {mo:Me} {ms:Ma} {name:Str} {apos cpos:Pos} {T id:String} {ty:PV->PH->Bool} {g:PV->List PV->PH->Rs PV}
theorem Iq (pa:PlainAttrs T) (slot:Slot T name id) (hty:typeOf (.builtin id)=pure (.type "method_descriptor")) (hm:MtS C k X T ty id g) (ho:SE C k X o mo) (ha:SA C k X (e :: es) ms)
  (hbase:kj o name X.env (eval o X.env)=eval o X.env:=by rfl)
  (hfew:((backTo cpos (b0 (e :: es) X.env)).all (fun x=>!x.1) && (backToKw cpos (keywordEach [] X.env)).all (fun x=>x.1.isSome)
   && decide ((e :: es).length+([]:List Keyword).length+(if ([]:List Keyword).isEmpty then 0 else 1) < 30))=true:=by rfl)
  (hline:(apos.endLine == cpos.line)=true:=by rfl) (hs:b0 (e :: es) X.env=(false,eval e X.env) :: b0 es X.env:=by rfl) (hplain:(backTo cpos (b0 es X.env)).any (·.1)=false:=by rfl):
  SE C k X (.Call (.Attribute o name apos) (e :: es) [] cpos) (mMt ty g mo ms):=fun c=>(Qi pa slot hty (hm c).1 (ho c) (ha c) hbase hfew hline hs hplain).imp fun σ H Q h=>by
 obtain ⟨φ,δ,h,rh,re,p⟩:=h;refine ⟨φ,δ,h,rh,re,(post.bind p).imp ?_⟩;rintro v H1 ⟨φ1,x,h1,p1,t1,rh1,rv1,q1⟩;obtain ⟨ht,q1⟩:=q1.ite;refine ⟨by rw [c.K]; exact (hm c).2 φ1 H1 h1 x v rh1 rv1 ht,φ1,δ,h1,rh1,re.mono p1 t1,(postA.bind q1).imp ?_⟩;rintro vs H2 ⟨φ2,xs,h2,p2,t2,rh2,rv2,q2⟩;exact ⟨φ2,h2,x,xs,rh2,rv1.mono p2 t2,rv2,q2⟩
end
theorem MtR.imp {id:String} {r r':V->List V->Hp->VK->Prop} (h:MtR X id r) (i:∀ x xs H Q,r' x xs H Q->r x xs H Q):MtR X id r':=fun pins s σ H x xs v us Q I rx rs q=>h pins s σ H x xs v us Q I rx rs (i x xs H Q q)
def isL (x:PV) (h:PH):Bool:=match x with
 | .ref n=>(eO h n).isSome
 | _=>false
theorem Os {φ:List Addr} {H:Hp} {h:PH} {p:PV} {x:V} (rh:RH C φ H h) (rv:RV C φ H p x) (e:isL p h=true):tyV C.K "list" x H:=by
 cases p with
 | ref n=>
  obtain ⟨a,rfl,ha⟩:=rv;obtain ⟨xs,hx⟩:=k8.mp (show (eO h n).isSome=true from e)
  obtain ⟨vs,hH,ra⟩:=rh.at' n a _ ha (iE hx);exact .inl ⟨rfl,vs,SqL.of hH⟩
 | _=>cases e
def onL (f:List PV->List PV->Option (PV×List PV)):PV->List PV->PH->Rs PV:=fun x ps h=>match x with
 | .ref n=>match eO h n with
  | some xs=>match f xs ps with
   | some (r,ys)=>.ok r (h.set n (.lst ys))
   | none=>.bad
  | none=>.bad
 | _=>.bad
theorem Ot {f:List PV->List PV->Option (PV×List PV)} {x:V} {xs:List V} {H:Hp} {Q:VK} (h:rM C (onL f) x xs H Q):∃ φ l ps ys vs r zs,x=.ref l/\H l=some (.lst vs)/\RVs C φ H ys vs/\RVs C φ H ps xs/\f ys ps=some (r,zs)/\
  ∀ (v:V) (ws:List V),RV C φ H r v->RVs C φ H zs ws->Q v (upd H l (.lst ws)):=by
 obtain ⟨φ,h,p,ps,rh,rx,rs,po⟩:=h;unfold onL at po;cases p with
 | ref n=>
  obtain ⟨a,rfl,ha⟩:=rx;dsimp only at po;cases e:eO h n with
  | none=>rw [e] at po; exact po.elim
  | some ys=>
   rw [e] at po;dsimp only at po;obtain ⟨vs,hH,ra⟩:=rh.at' n a _ ha (iE e);cases ef:f ys ps with
   | none=>rw [ef] at po; exact po.elim
   | some rz=>
    rw [ef] at po;obtain ⟨r,zs⟩:=rz;exact ⟨φ,a,ps,ys,vs,r,zs,rfl,hH,ra,rs,ef,fun v ws rv rw'=>po.lset rh ha hH rw' rv⟩
 | _=>exact po.elim
def eC:List PV->List PV->Option (PV×List PV):=fun xs ps=>match ps with
 | [p]=>if xs.length < aw then some (.non,xs++[p]) else none
 | _=>none
theorem G4:MtR X "list.append" (rM C (onL eC)):=MtR.imp (show MtR X "list.append" EC from yD) fun x xs H Q h=>by
 obtain ⟨φ,l,ps,ys,vs,r,zs,rfl,hH,ra,rs,ef,q⟩:=Ot h;unfold eC at ef;split at ef
 ·split at ef
  ·rename_i hz;cases ef
   obtain ⟨v,rfl,rx⟩:=rs.one;exact ⟨l,vs,v,rfl,rfl,hH,by rw [<- ra.length]; exact hz,q .non _ rfl (ra.snoc rx)⟩
  ·cases ef
 ·cases ef
theorem kF:MtS C k X "list" isL "list.append" (onL eC):=fun c=>⟨G4,fun φ H h p x rh rv e=>Os rh rv e⟩
def QN (K:ag):R2:=fun x y H Q=>∃ a b ys,x=.ref a/\y=.ref b/\SqT K H a []/\SqT K H b ys/\Q (.ref b) H
theorem Ln:OpR X (gw .Add) (QN X.K):=by
 intro pins s σ H x y v u Q I rx ry h;obtain ⟨a,b,ys,rfl,rfl,ha,hb,q⟩:=h;cases rx
 cases ry
 obtain ⟨its,r1,p1,_⟩:=I.tuple ha;obtain ⟨its2,r2,p2,_⟩:=I.tuple hb;cases r1
 obtain ⟨⟨cls,dd,data,sl⟩,ho,hc,n,hd⟩:=id p1;obtain ⟨⟨cls2,dd2,data2,sl2⟩,ho2,hc2,n2,hd2⟩:=id p2;simp only at hc hd hc2 hd2;subst hc hd hc2 hd2;exact concat_meets ⟨_,ho,rfl⟩ ⟨_,ho2,rfl⟩ noFill_tuple_add seq_tuple_add PySem.F.slot_tuple_add PySem.F.entry_tuple_add (PySem.F.args_tuple_add_2 _ _)
   (tuple_addW0 a b ([]:List Value).toArray its2.toArray n n2 dd dd2 sl sl2 (by simp)) ⟨ho,ho2,⟨.ref b,H,I,rfl,q⟩⟩
def bC:PV->PV->PH->Rs PV:=fun x y h=>match x,y with
 | .tup [],.tup ys=>.ok (.tup ys) h
 | x,y=>HX x y h
theorem bZ:OpS C k X (gw .Add) bC:=fun c=>((QD c).or (by have:=Ln (X:=X); rw [c.K] at this; exact this)).imp fun x y H Q h=>by
 obtain ⟨φ,h,p,q,rh,rx,ry,po⟩:=h;unfold bC at po;split at po
 ·obtain ⟨a,vs,rfl,sa,ra⟩:=rx;obtain ⟨b,us,rfl,sb,rb⟩:=ry;have:vs=[]:=by cases vs <;> first | rfl | exact ra.elim
  subst this;exact .inr ⟨a,b,us,rfl,rfl,sa,sb,po.val rh ⟨b,us,rfl,sb,rb⟩⟩
 ·exact .inl ⟨φ,h,p,q,rh,rx,ry,po⟩
end L2
namespace L2
open PySem PySem.Spec PyProof.Rows
variable {C:MC} {k:Nat} {X:Cx}
theorem QO:UnS C k X (unaryOp .USub) I0:=fun c=>by
 have h:UnR X (unaryOp .USub) (rU fun i=>.int (-i)):=NM;intro pins s σ H x v Q I rx q;refine h pins s σ H x v Q I rx ?_;obtain ⟨φ,h,p,rh,rv,po⟩:=q;unfold I0 at po;cases p with
 | int i=>cases rv; exact ⟨i,rfl,po.val rh rfl⟩
 | _=>exact po.elim
end L2
namespace L2
open PySem
@[irreducible] def Rs.W {α:Type} (r:Rs α) (Q:α->PH->Prop):Prop:=match r with
 | .ok a h=>Q a h
 | _=>False
structure FE where
 nx:Ev->PH->Prop
 rt:PV->PH->Prop
 bk:Ev->PH->Prop:=fun _ _=>False
 ct:Ev->PH->Prop:=fun _ _=>False
@[irreducible] def Fl.W (r:Fl) (E:FE):Prop:=match r with
 | .nx δ h=>E.nx δ h
 | .rt p h=>E.rt p h
 | .bk δ h=>E.bk δ h
 | .ct δ h=>E.ct δ h
 | _=>False
@[irreducible] def Lt (b:Ms) (E:FE) (δ:Ev) (h:PH):Prop:=(b δ h).W E
section
unseal Rs.W Fl.W Lt
variable {α β:Type} {Q:α->PH->Prop} {E:FE} {δ:Ev} {h:PH}
@[simp] theorem mZ {a:α}:(Rs.ok a h).W Q=Q a h:=(rfl)
@[simp] theorem TV:(Fl.nx δ h).W E=E.nx δ h:=(rfl)
@[simp] theorem TX {p:PV}:(Fl.rt p h).W E=E.rt p h:=(rfl)
@[simp] theorem TY:(Fl.bk δ h).W E=E.bk δ h:=(rfl)
@[simp] theorem TZ:(Fl.ct δ h).W E=E.ct δ h:=(rfl)
@[simp] theorem fS {Q:β->PH->Prop} {r:Rs α} {f:α->PH->Rs β}:(r.bind f).W Q=r.W fun a h=>(f a h).W Q:=by cases r <;> rfl
@[simp] theorem G5 {r:Rs α} {f:α->PH->Fl}:(r.fl f).W E=r.W fun a h=>(f a h).W E:=by cases r <;> rfl
theorem Ir {Q':α->PH->Prop} {r:Rs α} (h:r.W Q) (i:∀ a h,Q a h->Q' a h):r.W Q':=by cases r <;> first | exact i _ _ h | exact h
@[simp] theorem TF {c:Prop} [Decidable c] {x y:Rs α}:(if c then x else y).W Q=if c then x.W Q else y.W Q:=by split <;> rfl
@[simp] theorem TH:(Rs.bad:Rs α).W Q=False:=(rfl)
@[simp] theorem Tb:Fl.bad.W E=False:=(rfl)
theorem uY {r:Rs α} (w:r.W Q):∃ a h,r=.ok a h/\Q a h:=by
 cases r with
 | ok a h=>exact ⟨a,h,rfl,w⟩
 | exc=>exact w.elim
 | bad=>exact w.elim
variable {a b:Ms} {m ma mb mc:Me} {t ta tb:Ev->PH->Rs Bool} {g g':PV->PV->PH->Rs PV}
theorem iZ:(aR a b δ h).W E=(a δ h).W { E with nx:=fun δ h=>(b δ h).W E }:=by
 show (match a δ h with | .nx δ1 h1=>b δ1 h1 | r=>r).W E=_
 cases a δ h <;> rfl
theorem bM:(aR a b δ h).W E=(a δ h).W { E with nx:=Lt b E }:=by
 show (match a δ h with | .nx δ1 h1=>b δ1 h1 | r=>r).W E=_
 cases a δ h <;> rfl
theorem now {b:Ms} (w:(b δ h).W E):Lt b E δ h:=w
@[simp] theorem Na:(kC δ h).W E=E.nx δ h:=(rfl)
@[simp] theorem TJ:(T9 δ h).W E=E.bk δ h:=(rfl)
@[simp] theorem TK:(Ta δ h).W E=E.ct δ h:=(rfl)
@[simp] theorem sA {i:Nat}:(bF i m δ h).W E=(m δ h).W fun p h=>E.nx (δ.set i (some p)) h:=by simp [bF]
@[simp] theorem QP {t:Mg}:(uU m t δ h).W E=(m δ h).W fun p h=>∃ δ',t p δ=some δ'/\E.nx δ' h:=by
 unfold uU;cases m δ h with
 | ok p h1=>
  show (match t p δ with | some δ'=>Fl.nx δ' h1 | none=>.bad).W E=∃ δ',t p δ=some δ'/\E.nx δ' h1
  cases t p δ <;> simp [Fl.W]
 | exc=>rfl
 | bad=>rfl
@[simp] theorem QQ:(uV m δ h).W E=(m δ h).W fun _ h=>E.nx δ h:=by simp [uV]
@[simp] theorem ET:(dY m δ h).W E=(m δ h).W E.rt:=by simp [dY]
@[simp] theorem Tc:(QL δ h).W E=E.rt .non h:=(rfl)
@[simp] theorem oR:(jR t a b δ h).W E=(t δ h).W fun c h=>if c=true then (a δ h).W E else (b δ h).W E:=by
 unfold jR;rw [G5]
 congr
 funext c h
 cases c <;> simp
@[simp] theorem TL {i:Nat}:mV i δ h=match lY δ i with | some p=>.ok p h | none=>.bad:=(rfl)
@[simp] theorem TM {p:PV}:mC p δ h=.ok p h:=(rfl)
@[simp] theorem oS:aD g ma mb δ h=(ma δ h).bind fun x h1=>(mb δ h1).bind fun y h2=>g x y h2:=(rfl)
@[simp] theorem Td {g:PV->PH->Rs PV}:mUn g ma δ h=(ma δ h).bind g:=(rfl)
@[simp] theorem tJ:cH m δ h=(m δ h).bind tru:=(rfl)
@[simp] theorem Iu:uR t δ h=(t δ h).bind fun b h1=>.ok (!b) h1:=(rfl)
@[simp] theorem EU:A3 ta tb δ h=(ta δ h).bind fun b h1=>if b=true then .ok true h1 else tb δ h1:=by
 unfold A3; congr 1; funext b h1; cases b <;> simp
def bl2 (x:PV) (f g:Rs PV):Rs PV:=match x with
 | .bl true=>f
 | .bl false=>g
 | _=>.bad
@[simp] theorem Te {b:Bool} {f g:Rs PV}:bl2 (.bl b) f g=if b=true then f else g:=by cases b <;> simp [bl2]
@[simp] theorem QR:uS ma mb δ h=(ma δ h).bind fun x h1=>bl2 x (mb δ h1) (.ok (.bl false) h1):=by
 unfold uS; first | rfl | (congr 1; funext x h1; cases x <;> first | rfl | (rename_i b; cases b <;> rfl))
@[simp] theorem QS {b:Bool}:N6 (.bl b) h=.ok (.bl b) h:=(rfl)
@[simp] theorem RW {ms:Ma}:bG ms δ h=(ms δ h).bind fun xs h1=>if xs.length<=aw then .ok (.tup xs) h1 else .bad:=(rfl)
@[simp] theorem RX {ms:Ma}:fY ms δ h=(ms δ h).bind fun xs h1=>if xs.length<=aw then .ok (.ref h1.length) (h1++[.lst xs]) else .bad:=(rfl)
@[simp] theorem Pz:A4 δ h=.ok (.ref h.length) (h++[.dK []]):=(rfl)
@[simp] theorem gS:aE δ h=.ok [] h:=(rfl)
@[simp] theorem kG {ms:Ma}:aA m ms δ h=(m δ h).bind fun x h1=>(ms δ h1).bind fun xs h2=>.ok (x :: xs) h2:=(rfl)
@[simp] theorem Dz {g:List PV->PH->Rs PV} {ms:Ma}:mCB g ms δ h=(ms δ h).bind g:=(rfl)
@[simp] theorem iH {n:Nat} {f:Fn} {ms:Ma}:cQ n f ms δ h=(ms δ h).bind fun ps h1=>if ps.length=n then f ps h1 else .bad:=(rfl)
@[simp] theorem RY:Ii δ h=.ok none h:=(rfl)
def Iv (x:PV) (h:PH):Rs (Option Int):=match x with
 | .int i=>.ok (some i) h
 | _=>.bad
@[simp] theorem Ou {i:Int}:Iv (.int i) h=.ok (some i) h:=(rfl)
@[simp] theorem TN:mP m δ h=(m δ h).bind Iv:=(rfl)
@[simp] theorem Tf {ml mh:Mo}:mSl m ml mh δ h=(m δ h).bind fun x h1=>(ml δ h1).bind fun l h2=>(mh δ h2).bind fun u h3=>vSl x l u h3:=(rfl)
@[simp] theorem Tg {ty:PV->PH->Bool} {g:PV->List PV->PH->Rs PV} {ms:Ma}:mMt ty g m ms δ h=(m δ h).bind fun x h1=>if ty x h1=true then (ms δ h1).bind fun ps h2=>g x ps h2 else .bad:=(rfl)
@[simp] theorem RZ {ty:PV->PH->Bool} {g:PV->List PV->PH->Rs PV}:gO ty g m δ h=(m δ h).bind fun x h1=>if ty x h1=true then g x [] h1 else .bad:=(rfl)
@[simp] theorem jA:aw=16777216:=by rw [gd]
theorem Lo {i j:Int} {h:PH} (c:(-18446744073709551616 < i/\i < 18446744073709551616)\/(-18446744073709551616 < j/\j < 18446744073709551616)):oK (.int i) (.int j) h=.ok (.int (i*j)) h:=by
 show (if B3 i j then _ else _)=_
 exact if_pos c
@[simp] theorem QT {i j:Int} (c:(-18446744073709551616 < i/\i < 18446744073709551616)\/(-18446744073709551616 < j/\j < 18446744073709551616)):vInt B3 (fun i j=>i*j) (.int i) (.int j) h=.ok (.int (i*j)) h:=Lo c
@[simp] theorem S0 {i j:Int} (c:0 < j/\j < 1073741824):vInt Hd (fun i j=>i / j) (.int i) (.int j) h=.ok (.int (i / j)) h:=if_pos c
@[simp] theorem S4 {i j:Int} (c:0 < j):vInt (fun _ j=>0 < j) (fun i j=>i % j) (.int i) (.int j) h=.ok (.int (i % j)) h:=if_pos c
@[simp] theorem S5 {i j:Int} (c:0<=j/\j<=1000000/\-18446744073709551616 < i/\i < 18446744073709551616):vInt Fw (fun i j=>i ^ j.toNat) (.int i) (.int j) h=.ok (.int (i ^ j.toNat)) h:=by
 show (if Fw i j then _ else _)=_
 refine if_pos ⟨c.1,c.2.1,?_⟩;obtain ⟨_,_,h1,h2⟩:=c;omega
@[simp] theorem S6 {i j:Int}:Dt (.int i) (.int j) h=.ok (.int (i - j)) h:=(rfl)
@[simp] theorem S7 {i:Int}:I0 (.int i) h=.ok (.int (-i)) h:=(rfl)
@[simp] theorem PB {i j:Int}:bC (.int i) (.int j) h=.ok (.int (i+j)) h:=(rfl)
@[simp] theorem PC {x y:Str} (c:x.length+y.length<=16777216):bC (.str x) (.str y) h=.ok (.str (x++y)) h:=if_pos c
@[simp] theorem G6 {xs ys:List PV} (c:xs.length+ys.length<=16777216):bC (.tup xs) (.tup ys) h=.ok (.tup (xs++ys)) h:=by
 cases xs with
 | nil=>rfl
 | cons x xs=>exact if_pos ⟨rfl,c⟩
@[simp] theorem QU {f:Int->Int->Bool} {g:List Nat->List Nat->Bool} {i j:Int}:Bw f g (.int i) (.int j) h=.ok (.bl (f i j)) h:=(rfl)
@[simp] theorem QV {f:Int->Int->Bool} {g:List Nat->List Nat->Bool} {i j:Str}:Bw f g (.str i) (.str j) h=.ok (.bl (g i.cps.toList j.cps.toList)) h:=(rfl)
@[simp] theorem DA {b:Bool}:tru (.bl b) h=.ok b h:=(rfl)
@[simp] theorem S8:tru .non h=.ok false h:=(rfl)
@[simp] theorem S9 {i:Int}:tru (.int i) h=.ok (i != 0) h:=(rfl)
@[simp] theorem Sa {xs:List PV}:tru (.tup xs) h=.ok (!xs.isEmpty) h:=(rfl)
@[simp] theorem QW {p:PV}:ofO (some p) h=.ok p h:=(rfl)
@[simp] theorem QX {b:Bool}:ofB (some b) h=.ok (.bl b) h:=(rfl)
@[simp] theorem Sb {xs:List PV} {i:Int}:vIx (.tup xs) (.int i) h=ofO (atI xs i) h:=(rfl)
@[simp] theorem Th {xs:List PV} {i:Int}:vIx (.fl xs) (.int i) h=ofO (atI xs i) h:=(rfl)
theorem oT {n:Nat} {xs:List PV} {i:Int} (e:h[n]?=some (.lst xs)):vIx (.ref n) (.int i) h=ofO (atI xs i) h:=by simp [vIx,aS,e]
@[simp] theorem Sd {z:Str} {i:Int} (c:z.length<=16777216):vIx (.str z) (.int i) h=ofO ((atI z.cps.toList i).map fun c=>.str ⟨#[c]⟩) h:=if_pos c
@[simp] theorem QY {xs:List PV}:mX [.tup xs] h=.ok (.int xs.length) h:=(rfl)
@[simp] theorem Se {xs:List PV}:mX [.fl xs] h=.ok (.int xs.length) h:=(rfl)
@[simp] theorem QZ {x:Str} (c:x.length<=16777216):mX [.str x] h=.ok (.int x.length) h:=if_pos c
theorem BA {n:Nat} {xs:List PV} (e:h[n]?=some (.lst xs)):mX [.ref n] h=.ok (.int xs.length) h:=by simp [mX,aS,e]
@[simp] theorem Sf {i j:Int}:QM [.int i,.int j] h=.ok (.int (if j < i then j else i)) h:=(rfl)
@[simp] theorem Sh {i j:Int}:QK [.int i,.int j] h=.ok (.int (if j > i then j else i)) h:=(rfl)
@[simp] theorem R0 {i:Int} {c:String}:mY [.int i,.ty c] h=if c∈known then .ok (.bl (mI "int" c)) h else .bad:=(rfl)
@[simp] theorem R1 {i:Str} {c:String}:mY [.str i,.ty c] h=if c∈known then .ok (.bl (mI "str" c)) h else .bad:=(rfl)
@[simp] theorem Si {i:Bool} {c:String}:mY [.bl i,.ty c] h=if c∈known then .ok (.bl (mI "bool" c)) h else .bad:=(rfl)
@[simp] theorem R3 {i:List PV} {c:String}:mY [.tup i,.ty c] h=if c∈known then .ok (.bl (mI "tuple" c)) h else .bad:=(rfl)
theorem BB {n:Nat} {xs:List PV} {c:String} (e:h[n]?=some (.lst xs)):mY [.ref n,.ty c] h=if c∈known then .ok (.bl (mI "list" c)) h else .bad:=by simp [mY,tyN,e]
theorem oU {n:Nat} {xs:List PV} (e:h[n]?=some (.lst xs)):isL (.ref n) h=true:=by simp [isL,eO,e]
theorem gH {n:Nat} {xs:List PV} {p:PV} (e:h[n]?=some (.lst xs)) (c:xs.length < 16777216):onL eC (.ref n) [p] h=.ok .non (h.set n (.lst (xs++[p]))):=by simp [onL,eO,e,eC,c]
theorem tK {α:Type} {xs:List α} {i:Int} (h0:0<=i) (h1:i < xs.length):atI xs i=xs[i.toNat]?:=by
 unfold atI ixN;rw [if_pos h0,if_pos h1]; rfl
theorem Iw {α:Type} {xs:List α} {x:α}:atI (xs++[x]) (-1)=some x:=by
 unfold atI ixN;rw [if_neg (by decide),if_pos (by simp; omega)];have:((-1:Int)+((xs++[x]).length:Int)).toNat=xs.length:=by simp; omega
 rw [this];simp
theorem qK {g:PH->Bool} {tg:Mg} {body:Ms} {E:FE} (I:Nat->Ev->PH->Prop):∀ (xs:List PV) (k:Nat) (δ:Ev) (h:PH),I k δ h->
  (∀ i x δ h,k<=i->xs[i - k]?=some x->I i δ h->g h=true/\∃ δ1,tg x δ=some δ1/\(body δ1 h).W { nx:=I (i+1),ct:=I (i+1),rt:=E.rt,bk:=E.nx })->
  (∀ δ h,I (k+xs.length) δ h->g h=true/\E.nx δ h)->(fV g tg body xs δ h).W E
 | [],k,δ,h,i0,_,fin=>by
  obtain ⟨h1,h2⟩:=fin δ h i0;simp [fV,h1,h2]
 | x :: xs,k,δ,h,i0,step,fin=>by
  obtain ⟨h1,δ1,h2,h3⟩:=step k x δ h (az _) (by simp) i0;have go:∀ δ2 h2,I (k+1) δ2 h2->(fV g tg body xs δ2 h2).W E:=fun δ2 h2 i2=>
   qK I xs (k+1) δ2 h2 i2 (fun i y δ h hk hy=>step i y δ h (by omega) (by
    have:i - k=(i - (k+1))+1:=by omega
    rw [this,d7]; exact hy)) (fun δ h hi=>fin δ h (by
    have e:k+(x :: xs).length=k+1+xs.length:=by simp; omega
    rw [e]; exact hi))
  unfold fV;rw [if_pos h1,h2]
  show Fl.W (match body δ1 h with | .nx δ2 h2=>fV g tg body xs δ2 h2 | .ct δ2 h2=>fV g tg body xs δ2 h2 | .bk δ2 h2=>.nx δ2 h2 | r=>r) E
  cases e:body δ1 h with
  | nx δ2 h2=>rw [e] at h3; exact go δ2 h2 h3
  | ct δ2 h2=>rw [e] at h3; exact go δ2 h2 h3
  | bk δ2 h2=>rw [e] at h3; exact h3
  | rt p h2=>rw [e] at h3; exact h3
  | exc=>rw [e] at h3; exact h3
  | bad=>rw [e] at h3; exact h3
theorem DB {ms:Ma} {i:Nat} {body:Ms} {j:Int} (I:Nat->Ev->PH->Prop) (e:ms δ h=.ok [.int j] h) (hj:-4611686018427387904<=j/\j < 4611686018427387904) (h0:I 0 δ h)
  (step:∀ (q:Nat) δ h,(q:Int) < j->I q δ h->(body (δ.set i (some (.int q))) h).W { nx:=I (q+1),ct:=I (q+1),rt:=E.rt,bk:=E.nx })
  (fin:∀ δ h,I j.toNat δ h->E.nx δ h):(hU (mH ms) (gN i) body δ h).W E:=by
 unfold hU mH;rw [e];have hj':-(2 ^ 62)<=j/\j < 2 ^ 62:=hj;simp only [Rs.bind_ok,EN,if_pos hj',Rs.fl_ok];refine qK I _ 0 δ h h0 (fun q x δ h _ hx hi=>?_) (fun δ h hi=>⟨rfl,fin δ h (by rw [cV,l9] at hi; exact hi)⟩);have hq:q < j.toNat:=by
  have:=(af.mp hx).1;rw [cV] at this;omega
 rw [jf,oP _ _ _ hq] at hx;cases hx
 refine ⟨rfl,_,rfl,?_⟩;rw [Int.zero_add];exact step q δ h (by omega) hi
theorem Ov {ms:Ma} {i:Nat} {body:Ms} {lo j:Int} (I:Nat->Ev->PH->Prop) (e:ms δ h=.ok [.int lo,.int j] h) (hj:-4611686018427387904<=lo/\lo < 4611686018427387904/\-4611686018427387904<=j/\j < 4611686018427387904) (h0:I 0 δ h)
  (step:∀ (q:Nat) δ h,lo+(q:Int) < j->I q δ h->(body (δ.set i (some (.int (lo+q)))) h).W { nx:=I (q+1),ct:=I (q+1),rt:=E.rt,bk:=E.nx })
  (fin:∀ δ h,I (j - lo).toNat δ h->E.nx δ h):(hU (EO ms) (gN i) body δ h).W E:=by
 unfold hU EO;rw [e];have hj':-(2 ^ 62)<=lo/\lo < 2 ^ 62/\-(2 ^ 62)<=j/\j < 2 ^ 62:=hj;simp only [Rs.bind_ok,Ij,if_pos hj',Rs.fl_ok];refine qK I _ 0 δ h h0 (fun q x δ h _ hx hi=>?_) (fun δ h hi=>⟨rfl,fin δ h (by rw [cV,l9] at hi; exact hi)⟩);have hq:q < (j - lo).toNat:=by
  have:=(af.mp hx).1;rw [cV] at this;omega
 rw [jf,oP _ _ _ hq] at hx;cases hx
 exact ⟨rfl,_,rfl,step q δ h (by omega) hi⟩
theorem Ow {m:Me} {tg:Mg} {body:Ms} {xs:List PV} (I:Nat->Ev->PH->Prop) (e:m δ h=.ok (.tup xs) h\/m δ h=.ok (.fl xs) h) (h0:I 0 δ h)
  (step:∀ (q:Nat) x δ h,xs[q]?=some x->I q δ h->∃ δ1,tg x δ=some δ1/\(body δ1 h).W { nx:=I (q+1),ct:=I (q+1),rt:=E.rt,bk:=E.nx })
  (fin:∀ δ h,I xs.length δ h->E.nx δ h):(hU (fM m) tg body δ h).W E:=by
 have go:(fV (fun _=>true) tg body xs δ h).W E:=qK I _ 0 δ h h0 (fun q x δ h _ hx hi=>⟨rfl,step q x δ h (by simpa using hx) hi⟩) (fun δ h hi=>⟨rfl,fin δ h (by simpa using hi)⟩)
 unfold hU fM;rcases e with e | e <;> rw [e] <;> exact go
theorem DC {m:Me} {tg:Mg} {body:Ms} {n:Nat} {xs:List PV} {h1:PH} (I:Nat->Ev->PH->Prop) (e:m δ h=.ok (.ref n) h1) (hn:h1[n]?=some (.lst xs)) (h0:I 0 δ h1)
  (keep:∀ q δ h,q<=xs.length->I q δ h->h[n]?=some (.lst xs))
  (step:∀ (q:Nat) x δ h,xs[q]?=some x->I q δ h->∃ δ1,tg x δ=some δ1/\(body δ1 h).W { nx:=I (q+1),ct:=I (q+1),rt:=E.rt,bk:=E.nx })
  (fin:∀ δ h,I xs.length δ h->E.nx δ h):(hU (fM m) tg body δ h).W E:=by
 have hk:∀ {h:PH},h[n]?=some (.lst xs)->uX n xs h=true:=fun {h} e=>by
  have e3:aS h n=some xs:=by unfold aS; rw [e]
  unfold uX; rw [e3]; exact PV.beqs_self xs
 unfold hU fM;rw [e];have e2:ofSeq (.ref n) h1=.ok ⟨xs,uX n xs⟩ h1:=by
  have e3:aS h1 n=some xs:=by unfold aS; rw [hn]
  unfold ofSeq; simp only [e3]
 rw [Rs.bind_ok,e2,Rs.fl_ok];refine qK I _ 0 δ h1 h0 (fun q x δ h _ hx hi=>?_) (fun δ h hi=>?_)
 ·have hx':xs[q]?=some x:=by simpa using hx
  have:=(af.mp hx').1;exact ⟨hk (keep q δ h (by omega) hi),step q x δ h hx' hi⟩
 ·have hi':I xs.length δ h:=by simpa using hi
  exact ⟨hk (keep _ δ h (az _) hi'),fin δ h hi'⟩
theorem mB {N:Nat} {body:Ms} {args:List PV} {Q:PV->PH->Prop} (w:(body (args.map some++m4 (N - args.length) none) h).W { nx:=fun _ h=>Q .non h,rt:=Q }):(mFn N body args h).W Q:=by
 unfold mFn;cases e:body (args.map some++m4 (N - args.length) none) h with
 | nx δ h'=>rw [e] at w; exact w
 | rt p h'=>rw [e] at w; exact w
 | _=>rw [e] at w; exact w.elim
@[simp] theorem TQ {i:Nat} {p:PV}:gN i p δ=some (δ.set i (some p)):=(rfl)
@[simp] theorem Ti {n:Nat} {u:Mgs} {ps:List PV}:gTp n u (.tup ps) δ=if ps.length=n then u ps δ else none:=(rfl)
@[simp] theorem Tj {t:Mg} {u:Mgs} {p:PV} {r:List PV}:gCn t u (p :: r) δ=(t p δ).bind (u r):=(rfl)
@[simp] theorem Tn:gNl [] δ=some δ:=(rfl)
end
def Ext (h h':PH):Prop:=∀ (n:Nat) (o:MO),h[n]?=some o->h'[n]?=some o
theorem Ext.refl (h:PH):Ext h h:=fun _ _ e=>e
theorem Ext.trans {h h1 h2:PH} (a:Ext h h1) (b:Ext h1 h2):Ext h h2:=fun n o e=>b n o (a n o e)
theorem Ext.app (h g:PH):Ext h (h++g):=fun n o e=>by
 rw [bj (af.mp e).1]; exact e
theorem Ext.len {h h':PH} (e:Ext h h'):h.length<=h'.length:=by
 rcases Nat.lt_or_ge h'.length h.length with z | z
 ·have:h[h'.length]?=some h[h'.length]:=by simp [z]
  have:=(af.mp (e _ _ this)).1;omega
 ·exact z
theorem aZ {h:PH} {o:MO}:(h++[o])[h.length]?=some o:=by simp
theorem DD {h:PH} {n:Nat} {o o':MO} (e:h[n]?=some o):(h.set n o')[n]?=some o':=fj (af.mp e).1
def PV.pl:Nat->PV->Bool
 | _,.non=>true
 | _,.int _=>true
 | _,.str _=>true
 | n+1,.tup xs=>xs.all (PV.pl n)
 | _,_=>false
theorem EV {x:PV} {xs:List PV} {d:D} {ds:List D} (h1:x.d=some d) (h2:PV.ds xs=some ds):PV.ds (x :: xs)=some (d :: ds):=by simp [PV.ds,h1,h2]
theorem R4 {xs:List PV} {ds:List D} (h:PV.ds xs=some ds):(PV.tup xs).d=some (.tup ds):=by simp [PV.d,h]
theorem bL {xs:List PV} {d:D} (h:(PV.tup xs).d=some d):∃ ds,PV.ds xs=some ds/\d=.tup ds:=by
 unfold PV.d at h;split at h
 ·rename_i ds e; cases h; exact ⟨ds,e,rfl⟩
 ·cases h
theorem cF {x:PV} {xs:List PV} {ds:List D} (h:PV.ds (x :: xs)=some ds):∃ d r,x.d=some d/\PV.ds xs=some r/\ds=d :: r:=by
 unfold PV.ds at h;split at h
 ·rename_i d r e1 e2; cases h; exact ⟨d,r,e1,e2,rfl⟩
 ·cases h
theorem kH:∀ (n:Nat) (x:PV),x.pl n=true->∃ d,x.d=some d/\d.depth<=n:=by
 intro n
 induction n with
 | zero=>
  intro x h;cases x <;> first | exact ⟨_,rfl,az _⟩ | (simp [PV.pl] at h)
 | succ n ih=>
  intro x h;cases x with
  | tup xs=>
   have h:xs.all (PV.pl n)=true:=h;have many:∀ (xs:List PV),xs.all (PV.pl n)=true->∃ ds,PV.ds xs=some ds/\D.depths ds<=n:=by
    intro xs
    induction xs with
    | nil=>intro _; exact ⟨[],rfl,d4 _⟩
    | cons x xs ihx=>
     intro h;simp only [jx,dr] at h;obtain ⟨d,h1,h2⟩:=ih x h.1;obtain ⟨ds,h3,h4⟩:=ihx h.2;refine ⟨d :: ds,EV h1 h3,?_⟩
     show max d.depth (D.depths ds)<=n
     omega
   obtain ⟨ds,h1,h2⟩:=many xs h;refine ⟨.tup ds,R4 h1,?_⟩
   show D.depths ds+1<=n+1
   omega
  | _=>first | exact ⟨_,rfl,d4 _⟩ | (simp [PV.pl] at h)
theorem BC:∀ (n:Nat) (x y:PV) (d e:D),x.pl n=true->y.pl n=true->x.d=some d->y.d=some e->eqD d e=decide (x=y):=by
 intro n
 induction n with
 | zero=>
  intro x y d e hx hy h1 h2;cases x <;> first | (simp [PV.pl] at hx; done) | skip
  all_goals cases h1
  all_goals cases y <;> first | (simp [PV.pl] at hy; done) | skip
  all_goals cases h2
  all_goals simp only [eqD]
  all_goals rw [fb]
  all_goals simp
 | succ n ih=>
  intro x y d e hx hy h1 h2;have lists:∀ (xs ys:List PV) (ds es:List D),xs.all (PV.pl n)=true->ys.all (PV.pl n)=true->PV.ds xs=some ds->PV.ds ys=some es->fW ds es=decide (xs=ys):=by
   intro xs
   induction xs with
   | nil=>
    intro ys ds es _ _ h1 h2;cases h1
    cases ys with
    | nil=>cases h2; rfl
    | cons y ys=>obtain ⟨d,r,_,_,rfl⟩:=cF h2; simp [fW]
   | cons x xs ihx=>
    intro ys ds es hx hy h1 h2;obtain ⟨d,r,g1,g2,rfl⟩:=cF h1;simp only [jx,dr] at hx;cases ys with
    | nil=>cases h2; simp [fW]
    | cons y ys=>
     obtain ⟨e,q,g3,g4,rfl⟩:=cF h2;simp only [jx,dr] at hy;simp only [fW,ih x y d e hx.1 hy.1 g1 g3,ihx ys r q hx.2 hy.2 g2 g4];rw [fb];simp
  cases x with
  | tup xs=>
   obtain ⟨ds,g1,rfl⟩:=bL h1;cases y with
   | tup ys=>
    obtain ⟨es,g2,rfl⟩:=bL h2;simp only [eqD,lists xs ys ds es hx hy g1 g2];rw [fb];simp
   | non=>cases h2; simp [eqD]
   | int j=>cases h2; simp [eqD]
   | str j=>cases h2; simp [eqD]
   | _=>simp [PV.pl] at hy
  | non=>
   cases h1
   cases y with
   | tup ys=>obtain ⟨es,g2,rfl⟩:=bL h2; simp [eqD]
   | non=>cases h2; simp [eqD]
   | int j=>cases h2; simp [eqD]
   | str j=>cases h2; simp [eqD]
   | _=>simp [PV.pl] at hy
  | int i=>
   cases h1
   cases y with
   | tup ys=>obtain ⟨es,g2,rfl⟩:=bL h2; simp [eqD]
   | non=>cases h2; simp [eqD]
   | int j=>cases h2; simp only [eqD]; rw [fb]; simp
   | str j=>cases h2; simp [eqD]
   | _=>simp [PV.pl] at hy
  | str i=>
   cases h1
   cases y with
   | tup ys=>obtain ⟨es,g2,rfl⟩:=bL h2; simp [eqD]
   | non=>cases h2; simp [eqD]
   | int j=>cases h2; simp [eqD]
   | str j=>cases h2; simp only [eqD]; rw [fb]; simp
   | _=>simp [PV.pl] at hy
  | _=>simp [PV.pl] at hx
section
variable {x y:PV} {h:PH}
theorem EW (hx:x.pl 40=true) (hy:y.pl 40=true):A2 x y h=some (decide (x=y)):=by
 obtain ⟨d,h1,h2⟩:=kH 40 x hx;obtain ⟨e,h3,h4⟩:=kH 40 y hy;unfold A2;rw [h1,h3];simp only [h2,if_true,BC 40 x y d e hx hy h1 h3]
theorem Iy (hx:x.pl 40=true) (hy:y.pl 40=true):vEq x y h=.ok (.bl (decide (x=y))) h:=by unfold vEq; rw [EW hx hy]; rfl
theorem Ox (hx:x.pl 40=true) (hy:y.pl 40=true):vNe x y h=.ok (.bl (!decide (x=y))) h:=by unfold vNe; rw [EW hx hy]; rfl
@[simp] theorem Sj {i j:Int}:vEq (.int i) (.int j) h=.ok (.bl (decide (i=j))) h:=by rw [Iy rfl rfl]; congr 2; simp
theorem BD {ys:List PV} (hx:x.pl 39=true) (hy:ys.all (PV.pl 39)=true):uN x ys=some (decide (x∈ys)):=by
 have key:∀ ys:List PV,ys.all (PV.pl 39)=true->∃ ds,PV.ds ys=some ds/\D.depths ds<=39/\∀ d,x.d=some d->(ds.any fun e=>eqD e d)=decide (x∈ys):=by
  intro ys
  induction ys with
  | nil=>intro _; exact ⟨[],rfl,d4 _,fun _ _=>by simp⟩
  | cons y ys ih=>
   intro h;simp only [jx,dr] at h;obtain ⟨e,h1,h2⟩:=kH 39 y h.1;obtain ⟨ds,h3,h4,h5⟩:=ih h.2;refine ⟨e :: ds,EV h1 h3,?_,fun d hd=>?_⟩
   ·show max e.depth (D.depths ds)<=39
    omega
   ·rw [mq,h5 d hd,BC 39 y x e d h.1 hx h1 hd,fb];simp only [Bool.or_eq_true,decide_eq_true_eq,bw];constructor
    ·rintro (h | h)
     ·exact .inl h.symm
     ·exact .inr h
    ·rintro (h | h)
     ·exact .inl h.symm
     ·exact .inr h
 obtain ⟨d,h1,h2⟩:=kH 39 x hx;obtain ⟨ds,h3,h4,h5⟩:=key ys hy;unfold uN;rw [h1,h3];simp only [show D.depths ds<=40 by omega,if_true,h5 d h1]
theorem Lp {n:Nat} {ys:List PV} (e:h[n]?=some (.lst ys)) (hx:x.pl 39=true) (hy:ys.all (PV.pl 39)=true):vIn x (.ref n) h=.ok (.bl (decide (x∈ys))) h:=by
 have e3:aS h n=some ys:=by unfold aS; rw [e]
 unfold vIn Dw; simp only [e3,BD hx hy]; rfl
theorem DE {n:Nat} {ys:List PV} (e:h[n]?=some (.lst ys)) (hx:x.pl 39=true) (hy:ys.all (PV.pl 39)=true):uO x (.ref n) h=.ok (.bl (!decide (x∈ys))) h:=by
 have e3:aS h n=some ys:=by unfold aS; rw [e]
 unfold uO Dw; simp only [e3,BD hx hy]; rfl
theorem BE {n m:Nat} {xs ys:List PV} (e1:h[n]?=some (.lst xs)) (e2:h[m]?=some (.lst ys)) (hx:xs.all (PV.pl 39)=true) (hy:ys.all (PV.pl 39)=true):A2 (.ref n) (.ref m) h=some (decide (xs=ys)):=by
 have e3:rW (.ref n) h=some xs:=by unfold rW aS; simp only [e1]
 have e4:rW (.ref m) h=some ys:=by unfold rW aS; simp only [e2]
 have hx':(PV.tup xs).pl 40=true:=hx;have hy':(PV.tup ys).pl 40=true:=hy;obtain ⟨d,h1,h2⟩:=kH 40 _ hx';obtain ⟨e,h3,h4⟩:=kH 40 _ hy';obtain ⟨ds,g1,rfl⟩:=bL h1;obtain ⟨es,g2,rfl⟩:=bL h3;have h5:=BC 40 _ _ _ _ hx' hy' h1 h3;have h2':D.depths ds+1<=40:=h2;have h5':fW ds es=decide (xs=ys):=by
  have:fW ds es=decide (PV.tup xs=PV.tup ys):=h5;rw [this,fb]; simp
 unfold A2;have n1:(PV.ref n).d=none:=rfl;rw [n1];simp only [e3,e4,g1,g2,show D.depths ds<=40 by omega,if_true,h5']
theorem A7 {n m:Nat} {xs ys:List PV} (e1:h[n]?=some (.lst xs)) (e2:h[m]?=some (.lst ys)) (hx:xs.all (PV.pl 39)=true) (hy:ys.all (PV.pl 39)=true):vEq (.ref n) (.ref m) h=.ok (.bl (decide (xs=ys))) h:=by unfold vEq; rw [BE e1 e2 hx hy]; rfl
theorem A8 {n m:Nat} {xs ys:List PV} (e1:h[n]?=some (.lst xs)) (e2:h[m]?=some (.lst ys)) (hx:xs.all (PV.pl 39)=true) (hy:ys.all (PV.pl 39)=true):vNe (.ref n) (.ref m) h=.ok (.bl (!decide (xs=ys))) h:=by unfold vNe; rw [BE e1 e2 hx hy]; rfl
end
end L2
namespace L2
section
variable {α:Type} {a b c d e f g:α} {r:List α}
theorem oV {xs:List α} {v:α} (i:Nat) (h:xs[i]?=some v):atI xs (i:Int)=some v:=A1 h
@[simp] theorem U0:atI (a :: r) 0=some a:=oV 0 rfl
@[simp] theorem U1:atI (a :: b :: r) 1=some b:=oV 1 rfl
@[simp] theorem U2:atI (a :: b :: c :: r) 2=some c:=oV 2 rfl
@[simp] theorem U3:atI (a :: b :: c :: d :: r) 3=some d:=oV 3 rfl
@[simp] theorem U4:atI (a :: b :: c :: d :: e :: r) 4=some e:=oV 4 rfl
end
end L2
namespace L2
open PySem PySem.Spec PyProof.Rows PySem.SeqAt
open PySem.AutoSeq1 (wpAny_loadPart')
open PySem.MeetsSeq PySem.MeetsSeq2 PySem.MeetsSeq3
def Lq (A:Around) (s:Shared) (v u:Value) (b:Bool):Prop:=∀ (prog:Program) (w:World) (E:Value->Shared->Prop) (Q:Value->Shared->Prop),Q (.bool b) s->wpAny (model prog w) A (richCompare .Lt v u) Q E s
def R5 (A:Around) (s:Shared) (v u:Value) (d e:D):Prop:=EqAt A s v u (eqD d e)/\(eqD d e=false->∀ b,ltD d e=some b->Lq A s v u b)
abbrev yQ (A:Around) (s:Shared):List Value->List Value->List D->List D->Prop:=fun vs us ds es=>vs.length=ds.length/\us.length=es.length/\∀ (j:Nat) v u d e,vs[j]?=some v->us[j]?=some u->ds[j]?=some d->es[j]?=some e->R5 A s v u d e
theorem yQ.tail {A:Around} {s:Shared} {v u:Value} {vs us:List Value} {d e:D} {ds es:List D} (h:yQ A s (v :: vs) (u :: us) (d :: ds) (e :: es)):R5 A s v u d e/\yQ A s vs us ds es:=
 ⟨h.2.2 0 v u d e rfl rfl rfl rfl,by have:=h.1; simpa using this,by have:=h.2.1; simpa using this,fun j v u d e h1 h2 h3 h4=>h.2.2 (j+1) v u d e (by simpa using h1) (by simpa using h2) (by simpa using h3) (by simpa using h4)⟩
theorem A9 (l b:Addr) (items items2:Array Value) (n n2:Nat) (dd dd2:Option Addr) (sl sl2:Array (Option Value)) (ds es:List D) (c:Bool) (hc:oE ds es=some c):
  Meets (Builtin.«tuple.__lt__» ⟨[.ref l,.ref b],[]⟩)
   (fun A R s=>s.heap.get? l=some { cls:=.type "tuple",dict:=dd,data:=.seq items n,slots:=sl }/\s.heap.get? b=some { cls:=.type "tuple",dict:=dd2,data:=.seq items2 n2,slots:=sl2 }/\
    yQ A.in1 s items.toList items2.toList ds es/\R (.ok (.ret (.bool c))) s):=
 .of_wp fun prog w A R s h=>by
  obtain ⟨hp,g,d,tk,os⟩:=s; obtain ⟨hl,hb,hit,h⟩:=h;have f2:=AutoSeq1.sub_tuple_tuple;have z1:items.size=ds.length:=by rw [<- hit.1]; simp
  have z2:items2.size=es.length:=by rw [<- hit.2.1]; simp
  wp_walk using wpAny_loadPart' hl,wpAny_loadPart' hb,wpAny_forIn_list _ (fun rest b s'=>b.1=none/\s'=⟨hp,g,d,tk,os⟩/\∃ (vs ws:List Value) (ns' ms':List D),rest=vs.zip ws/\
   yQ A.in1 ⟨hp,g,d,tk,os⟩ vs ws ns' ms'/\ns'.length+items2.size=ms'.length+items.size/\oE ns' ms'=some c) _
  case turn=>
   rintro ⟨y,x⟩ rest b s' ⟨hb',rfl,vs,ws,ns',ms',hz,hvi,hlen,hR⟩;cases vs with
   | nil=>rw [List.zip_nil_left] at hz; cases hz
   | cons v vs=>
    cases ws with
    | nil=>rw [List.zip_nil_right] at hz; cases hz
    | cons u ws=>
     rw [List.zip_cons_cons] at hz;injection hz with hyx hrest;injection hyx with hy hx;subst hy hx;cases ns' with
     | nil=>have:=hvi.1; simp at this
     | cons a ns'=>
      cases ms' with
      | nil=>have:=hvi.2.1; simp at this
      | cons e ms'=>
       obtain ⟨⟨h1,h2⟩,ht⟩:=yQ.tail hvi;simp only [cz] at hlen;simp only [oE] at hR;refine aa (h1 prog w _ _ ?_);cases q:eqD a e with
       | true=>
        rw [q,if_pos rfl] at hR
        wp_walk
        exact ⟨rfl,rfl,_,_,_,_,hrest,ht,by omega,hR⟩
       | false=>
        rw [q,if_neg bp] at hR;have hri:=h2 q c hR prog w
        wp_walk using hri
        exact ⟨_,rfl,by simpa using h⟩
  case fin=>
   rintro ⟨b1,b2⟩ s' ⟨hb',rfl,vs,ws,ns',ms',hz,hvi,hlen,hR⟩;simp only at hb';subst hb';have hv:c=decide (items.size < items2.size):=by
    cases ns' with
    | nil=>
     cases ms' with
     | nil=>
      simp only [pe] at hlen;simp only [oE] at hR;cases hR
      exact (decide_eq_false (by omega)).symm
     | cons e ms'=>
      simp only [pe,cz] at hlen;simp only [oE] at hR;cases hR
      exact (decide_eq_true (by omega)).symm
    | cons a ns'=>
     cases ms' with
     | nil=>
      simp only [pe,cz] at hlen;simp only [oE] at hR;cases hR
      exact (decide_eq_false (by omega)).symm
     | cons e ms'=>
      exfalso;cases vs with
      | nil=>have:=hvi.1; simp at this
      | cons v vs=>
       cases ws with
       | nil=>have:=hvi.2.1; simp at this
       | cons u ws=>rw [List.zip_cons_cons] at hz; cases hz
   rw [hv] at h
   wp_walk
   exact ⟨_,rfl,by simpa [Builtin.Tuple.tupleCompareSizes] using h⟩
  case h=>
   exact ⟨rfl,rfl,items.toList,items2.toList,ds,es,rfl,hit,by omega,hc⟩
variable {C:MC} {k:Nat} {X:Cx}
def Oy (x y:PV):Option Bool:=match x.d,y.d with
 | some d,some e=>if d.depth<=40 then ltD d e else none
 | _,_=>none
def Nb:PV->PV->PH->Rs PV:=fun x y h=>match x,y with
 | .tup xs,.tup ys=>ofB (Oy (.tup xs) (.tup ys)) h
 | x,y=>vLt x y h
section
variable {h:PH}
@[simp] theorem PD {i j:Int}:Nb (.int i) (.int j) h=.ok (.bl (decide (i < j))) h:=(rfl)
@[simp] theorem PF {i j:Str}:Nb (.str i) (.str j) h=.ok (.bl (decide (i.cps.toList < j.cps.toList))) h:=(rfl)
def ltL (f:PV->PV->Option Bool):List PV->List PV->Option Bool
 | [],[]=>some false
 | [],_ :: _=>some true
 | _ :: _,[]=>some false
 | x :: xs,y :: ys=>if x=y then ltL f xs ys else f x y
def ltP:Nat->PV->PV->Option Bool
 | _,.int a,.int b=>some (decide (a < b))
 | _,.str a,.str b=>some (decide (a.cps.toList < b.cps.toList))
 | n+1,.tup xs,.tup ys=>ltL (ltP n) xs ys
 | _,_,_=>none
theorem Nc:∀ (n:Nat) (x y:PV) (d e:D),x.pl n=true->y.pl n=true->x.d=some d->y.d=some e->ltD d e=ltP n x y:=by
 intro n
 induction n with
 | zero=>
  intro x y d e hx hy h1 h2;cases x <;> first | (simp [PV.pl] at hx; done) | skip
  all_goals cases h1
  all_goals cases y <;> first | (simp [PV.pl] at hy; done) | skip
  all_goals cases h2
  all_goals simp [ltD,ltP]
 | succ n ih=>
  intro x y d e hx hy h1 h2;have lists:∀ (xs ys:List PV) (ds es:List D),xs.all (PV.pl n)=true->ys.all (PV.pl n)=true->PV.ds xs=some ds->PV.ds ys=some es->oE ds es=ltL (ltP n) xs ys:=by
   intro xs
   induction xs with
   | nil=>
    intro ys ds es _ _ h1 h2;cases h1
    cases ys with
    | nil=>cases h2; simp [oE,ltL]
    | cons y ys=>obtain ⟨d,r,_,_,rfl⟩:=cF h2; simp [oE,ltL]
   | cons x xs ihx=>
    intro ys ds es hx hy h1 h2;obtain ⟨d,r,g1,g2,rfl⟩:=cF h1;simp only [jx,dr] at hx;cases ys with
    | nil=>cases h2; simp [oE,ltL]
    | cons y ys=>
     obtain ⟨e,q,g3,g4,rfl⟩:=cF h2;simp only [jx,dr] at hy;simp only [oE,ltL,BC n x y d e hx.1 hy.1 g1 g3,ihx ys r q hx.2 hy.2 g2 g4,ih x y d e hx.1 hy.1 g1 g3,decide_eq_true_eq]
  cases x with
  | tup xs=>
   obtain ⟨ds,g1,rfl⟩:=bL h1;cases y with
   | tup ys=>
    obtain ⟨es,g2,rfl⟩:=bL h2;simp only [ltD,lists xs ys ds es hx hy g1 g2,ltP]
   | non=>cases h2; simp [ltD,ltP]
   | int j=>cases h2; simp [ltD,ltP]
   | str j=>cases h2; simp [ltD,ltP]
   | _=>simp [PV.pl] at hy
  | non=>cases h1; cases y <;> first | (simp [PV.pl] at hy; done) | (obtain ⟨es,g2,rfl⟩:=bL h2; simp [ltD,ltP]; done) | (cases h2; simp [ltD,ltP])
  | int i=>cases h1; cases y <;> first | (simp [PV.pl] at hy; done) | (obtain ⟨es,g2,rfl⟩:=bL h2; simp [ltD,ltP]; done) | (cases h2; simp [ltD,ltP])
  | str i=>cases h1; cases y <;> first | (simp [PV.pl] at hy; done) | (obtain ⟨es,g2,rfl⟩:=bL h2; simp [ltD,ltP]; done) | (cases h2; simp [ltD,ltP])
  | _=>simp [PV.pl] at hx
end
end L2
namespace L2
open PySem PySem.Spec PyProof.Rows
variable {C:MC} {k:Nat} {X:Cx}
def Iz:List PV->Option (List Int)
 | []=>some []
 | .int i :: r=>(Iz r).map (i :: ·)
 | _ :: _=>none
end L2
namespace L2
open PySem
section
variable {h:PH} {lo hi:Option Int}
@[simp] theorem Sk {xs:List PV}:vSl (.tup xs) lo hi h=.ok (.tup (gZ xs lo hi)) h:=(rfl)
@[simp] theorem To {xs:List PV}:vSl (.fl xs) lo hi h=.ok (.ref h.length) (h++[.lst (gZ xs lo hi)]):=(rfl)
@[simp] theorem Tp {a b:Bool}:vIs (.bl a) (.bl b) h=.ok (.bl (a == b)) h:=(rfl)
@[simp] theorem PJ {a b:Bool}:Ia (.bl a) (.bl b) h=.ok (.bl (!(a == b))) h:=(rfl)
@[simp] theorem Sl {x:PV}:vIs x .non h=.ok (.bl (qJ x)) h:=(rfl)
@[simp] theorem Oz {x:PV}:Ia x .non h=.ok (.bl (!qJ x)) h:=(rfl)
theorem Lr {n d:Nat} {i:Int} (h0:0<=i):HT.sIx n d (some i)=min i.toNat n:=by
 show (if i < 0 then (i+(n:Int)).toNat else min i.toNat n)=_
 rw [if_neg (by omega)]
theorem OA {α:Type} {xs:List α} {j:Int} (h0:0<=j):gZ xs none (some j)=xs.take j.toNat:=by
 unfold gZ;rw [Lr h0];simp only [HT.sIx,d3,jf];rw [List.take_eq_take_iff];omega
theorem Ls {α β:Type} {f:α->β} {xs:List α}:gZ (xs.map f) lo hi=(gZ xs lo hi).map f:=by
 unfold gZ;rw [ar,List.map_take,List.map_drop]
end
section
variable {δ:Ev} {h h1:PH} {js:List (Option Nat)} {tg:Mg} {tst:Ev->PH->Rs Bool} {elt:Me} {g:PH->Bool} {n:Nat}
theorem EX {δ0:Ev} {Q:PV->PH->Prop} (I:Nat->PH->Prop):∀ (xs:List PV) (k:Nat) (h:PH),I k h->
  (∀ i x h,k<=i->xs[i - k]?=some x->I i h->g h=true/\∃ δ1,tg x δ0=some δ1/\(tst δ1 h).W fun b h'=>if b=true then (elt δ1 h').W fun p h''=>∃ ys,h''[n]?=some (.lst ys)/\ys.length < 16777216/\I (i+1) (h''.set n (.lst (ys++[p]))) else I (i+1) h')->
  (∀ h,I (k+xs.length) h->g h=true/\Q (.ref n) h)->(jL g tg tst elt δ0 n xs h).W Q
 | [],k,h,i0,_,fin=>by
  obtain ⟨h1,h2⟩:=fin h i0;simp [jL,h1,h2]
 | x :: xs,k,h,i0,step,fin=>by
  obtain ⟨h1,δ1,h2,h3⟩:=step k x h (az _) (by simp) i0;have go:∀ h2,I (k+1) h2->(jL g tg tst elt δ0 n xs h2).W Q:=fun h2 i2=>
   EX I xs (k+1) h2 i2 (fun i y h hk hy=>step i y h (by omega) (by
    have:i - k=(i - (k+1))+1:=by omega
    rw [this,d7]; exact hy)) (fun h hi=>fin h (by
    have e:k+(x :: xs).length=k+1+xs.length:=by simp; omega
    rw [e]; exact hi))
  unfold jL;rw [if_pos h1,h2]
  show (Rs.bind (tst δ1 h) _).W Q
  rw [fS];refine Ir h3 fun b h' hb=>?_;cases b with
  | false=>exact go h' (by simpa using hb)
  | true=>
   show (Rs.bind (elt δ1 h') _).W Q
   rw [fS];refine Ir (show (elt δ1 h').W _ from by simpa using hb) fun p h'' hp=>?_
   obtain ⟨ys,e,hz,hi⟩:=hp;have e':eO h'' n=some ys:=by unfold eO; rw [e]
   simp [e',hz];exact go _ hi
theorem qL {α:Type} {mi:Mi} {ys:List α} {emb:α->PV} (f:α->Option PV) (e:mi δ h=.ok ⟨ys.map emb,g⟩ h1) (hg:∀ h,Ext h1 h->g h=true) (hz:ys.length<=16777216)
  (step:∀ y∈ys,∃ δ1,tg (emb y) (kE js δ)=some δ1/\∀ h,Ext h1 h->match f y with
   | none=>tst δ1 h=.ok false h
   | some p=>tst δ1 h=.ok true h/\elt δ1 h=.ok p h):fN js mi tg tst elt δ h=.ok (.ref h1.length) (h1++[.lst (ys.filterMap f)]):=by
 have w:(fN js mi tg tst elt δ h).W fun p h'=>p=.ref h1.length/\h'=h1++[.lst (ys.filterMap f)]:=by
  unfold fN;rw [e,Rs.bind_ok];refine EX (fun i h'=>h'=h1++[.lst ((ys.take i).filterMap f)]) (ys.map emb) 0 _ (by simp) (fun i x h' _ hx hi=>?_) (fun h' hi=>?_)
  ·subst hi;have hx:(ys.map emb)[i]?=some x:=by simpa using hx
   rw [br] at hx;obtain ⟨y,hy,rfl⟩:=df.mp hx;have hil:=(af.mp hy).1;obtain ⟨δ1,ht,hs⟩:=step y (fe hy);have hs:=hs (h1++[.lst ((ys.take i).filterMap f)]) (Ext.app _ _);have htk:ys.take (i+1)=ys.take i++[y]:=by rw [ll,hy]; rfl
   refine ⟨hg _ (Ext.app _ _),δ1,ht,?_⟩;cases ef:f y with
   | none=>
    rw [ef] at hs;rw [hs];simp [htk,ef]
   | some p=>
    rw [ef] at hs;rw [hs.1];simp [hs.2];refine ⟨?_,by simp [htk,ef]⟩;have:=List.length_filterMap_le f (ys.take i);rw [bq] at this;omega
  ·subst hi;simp;exact hg _ (Ext.app _ _)
 obtain ⟨p,h',e,rfl,rfl⟩:=uY w;exact e
theorem IA {m:Me} {xs:List PV} (e:m δ h=.ok (.ref n) h1) (hn:h1[n]?=some (.lst xs)):fM m δ h=.ok ⟨xs,uX n xs⟩ h1:=by
 unfold fM;have e3:aS h1 n=some xs:=by unfold aS; rw [hn]
 rw [e,Rs.bind_ok];unfold ofSeq; simp only [e3]
theorem IB {xs:List PV} (hn:h1[n]?=some (.lst xs)):∀ h,Ext h1 h->uX n xs h=true:=fun h hx=>by
 have e3:aS h n=some xs:=by unfold aS; rw [hx _ _ hn]
 unfold uX; rw [e3]; exact PV.beqs_self xs
theorem IC {α:Type} {m:Me} {ys:List α} {emb:α->PV} (f:α->Option PV) (e:m δ h=.ok (.ref n) h1) (hn:h1[n]?=some (.lst (ys.map emb))) (hz:ys.length<=16777216)
  (step:∀ y∈ys,∃ δ1,tg (emb y) (kE js δ)=some δ1/\∀ h,Ext h1 h->match f y with
   | none=>tst δ1 h=.ok false h
   | some p=>tst δ1 h=.ok true h/\elt δ1 h=.ok p h):fN js (fM m) tg tst elt δ h=.ok (.ref h1.length) (h1++[.lst (ys.filterMap f)]):=
 qL f (IA e hn) (IB hn) hz step
theorem BF (lo:Int):∀ n,upTo lo n=(d0 n).map (fun (i:Nat)=>PV.int (lo+(i:Int)))
 | 0=>rfl
 | n+1=>by
  rw [upTo,BF (lo+1) n,List.range_succ_eq_map,cy,j4]
  congr 1
  ·simp
  ·apply mz;intro a _;simp only [Function.comp_def]
   congr 1
   omega
theorem ID {ms:Ma} {j:Int} (f:Nat->Option PV) (e:ms δ h=.ok [.int j] h1) (hj:-4611686018427387904<=j/\j < 16777216)
  (step:∀ i:Nat,(i:Int) < j->∃ δ1,tg (.int i) (kE js δ)=some δ1/\∀ h,Ext h1 h->match f i with
   | none=>tst δ1 h=.ok false h
   | some p=>tst δ1 h=.ok true h/\elt δ1 h=.ok p h):fN js (mH ms) tg tst elt δ h=.ok (.ref h1.length) (h1++[.lst ((d0 j.toNat).filterMap f)]):=by
 refine qL (emb:=fun i:Nat=>.int ((0:Int)+i)) (g:=fun _=>true) f ?_ (fun _ _=>rfl) (by simp; omega) (fun i hi=>?_)
 ·unfold mH;rw [e];have hj':-(2 ^ 62)<=j/\j < 2 ^ 62:=⟨hj.1,by omega⟩;simp only [Rs.bind_ok,EN,if_pos hj'];rw [BF]
 ·have hi':=List.mem_range.mp hi;rw [Int.zero_add];exact step i (by omega)
end
end L2
namespace L2
open PySem PySem.Spec PyProof.Rows
section
variable {X:Cx} {pins:List (Addr×Obj)} {σ:St} {H:Hp} {s:Shared} {C:MC} {φ:List Addr}
mutual
theorem IE (I:Inv X pins σ H s) (hK:X.K=C.K):∀ (n:Nat) {p:PV} {v:V} {u:Value},p.ky n=true->RV C φ H p v->RelV v u->HR s.heap p u
 | _,.int i,v,u,_,r,ru=>by cases r; exact ru
 | _,.str i,v,u,_,r,ru=>by cases r; exact ru
 | n+1,.tup ps,v,u,hk,r,ru=>by
  obtain ⟨a,vs,rfl,q,rs⟩:=r;cases ru
  rw [<- hK] at q;obtain ⟨its,rv,p,_⟩:=I.tuple q;exact ⟨a,its,rfl,p,Aa I hK n (cf.mp hk) rs rv⟩
 | 0,.tup _,_,_,hk,_,_=>by cases hk
 | n,.non,_,_,hk,_,_=>by cases n <;> cases hk
 | n,.bl _,_,_,hk,_,_=>by cases n <;> cases hk
 | n,.ref _,_,_,hk,_,_=>by cases n <;> cases hk
 | n,.ty _,_,_,hk,_,_=>by cases n <;> cases hk
 | n,.fl _,_,_,hk,_,_=>by cases n <;> cases hk
theorem Aa (I:Inv X pins σ H s) (hK:X.K=C.K):∀ (n:Nat) {ps:List PV} {vs:List V} {us:List Value},(∀ p∈ps,p.ky n=true)->RVs C φ H ps vs->aN vs us->HRs s.heap ps us
 | _,[],[],us,_,_,ru=>by cases ru; trivial
 | n,p :: ps,v :: vs,us,hk,r,ru=>by
  cases ru with
  | cons h t=>exact ⟨IE I hK n (hk p ax) r.1 h,Aa I hK n (fun q hq=>hk q (ao _ hq)) r.2 t⟩
 | _,[],_ :: _,_,_,r,_=>r.elim
 | _,_ :: _,[],_,_,r,_=>r.elim
end
abbrev qM:List (PV×Addr×V)->List (PV×Addr×Value)->Prop:=Paired fun p q=>p.1=q.1/\p.2.1=q.2.1/\RelV p.2.2 q.2.2
def HD (C:MC) (φ:List Addr) (H:Hp) (X:Cx) (s:Shared) (a:Addr) (kvs:List (PV×PV)):Prop:=
 ∃ ks xs,RKd C φ H kvs ks/\qM ks xs/\xs.length<=aw/\(a == iz)=false/\s.heap.DictOfH (rV X.prog X.w) a xs
def bA (h:PH) (n:Nat):Option (List (PV×PV)):=match h[n]? with
 | some (.dD kvs)=>some kvs
 | some (.dK [])=>some []
 | _=>none
def PV.isKt:PV->Bool
 | .tup xs=>(PV.tup xs).ky 6
 | _=>false
theorem tL {p:PV} (h:p.isKt=true):p.ky 6=true:=by cases p <;> first | exact h | cases h
theorem lI {p:PV} {v:V} (h:p.isKt=true) (r:RV C φ H p v):∃ b,v=.ref b:=by
 cases p <;> first | (obtain ⟨b,_,e,_⟩:=r; exact ⟨b,e⟩) | cases h
theorem uZ {h:PH} {n:Nat} {a:Addr} {kvs:List (PV×PV)} (I:Inv X pins σ H s) (hK:X.K=C.K) (hw:X.w=C.w) (rh:RH C φ H h) (ha:φ[n]?=some a) (e:bA h n=some kvs):HD C φ H X s a kvs/\Mut (H a)/\rT (H a):=by
 unfold bA at e;split at e
 ·rename_i kv hk;cases e
  obtain ⟨ks,hH,r⟩:=rh.at' n a _ ha hk;have hO:bP X.prog X.w H s.heap a (dDO C.w a ks):=I.hok a _ hH;obtain ⟨⟨hz,hm,xs,rx,o,es,ep,h1,h2,h3,h4,h5⟩,_⟩:=hO;refine ⟨⟨ks,xs,r,rx,by rw [<- d5 rx]; exact hz,hm,o,es,ep,h1,h2,h3,?_,?_,h5⟩,by rw [hH]; exact i4,by rw [hH]; exact i4⟩
  ·rw [h4,<- hw]; rfl
  ·have all:∀ {l:List (PV×PV)} {m:List (PV×Addr×V)} {z:List (PV×Addr×Value)},RKd C φ H l m->qM m z->∀ x∈z,(rV X.prog X.w).is s.heap x.1 x.2.1:=by
    intro l m z q;unfold RKd at q
    induction q generalizing z with
    | nil=>intro rz x hx; cases rz; cases hx
    | cons hq t ih=>
     intro rz x hx;cases rz with
     | cons hz' tz=>
      rcases bw.mp hx with e | hx
      ·subst e;refine ⟨?_,?_⟩
       ·rw [<- hz'.1,<- hq.1]; exact hq.2.1
       ·rw [<- hz'.1,<- hq.1,<- hz'.2.1]; exact IE I hK 6 hq.2.1 hq.2.2.1 rfl
      ·exact ih tz x hx
   exact all r rx
 ·rename_i hk;cases e
  obtain ⟨ks,hH,r⟩:=rh.at' n a _ ha hk;have:ks=[]:=by cases r; rfl
  subst this;obtain ⟨z,hd,vs,rel,o,es,ep,h1,h2,h3,h4,h5,h6⟩:=B6 I.hok hH;have:vs=[]:=by cases rel; rfl
  subst this;refine ⟨⟨[],[],.nil,.nil,d4 _,hd,o,es,ep,h1,h2,h3,?_,(fun x hx=>nomatch hx),List.nodup_nil⟩,by rw [hH]; exact i4,by rw [hH]; exact i4⟩;cases he:es.toList with
  | nil=>rfl
  | cons y ys=>rw [he] at h5; cases h5
 ·cases e
theorem HD.val {a:Addr} {kvs:List (PV×PV)} {ks:List (PV×Addr×V)} {xs:List (PV×Addr×Value)} (r:RKd C φ H kvs ks) (rx:qM ks xs) (k:PV):match cE kvs k,(atKey xs k).map (·.2) with
  | some p,some u=>∃ v,RelV v u/\RV C φ H p v
  | none,none=>True
  | _,_=>False:=by
 unfold RKd at r
 induction r generalizing xs with
 | nil=>cases rx; trivial
 | @cons p q ps qs h t ih=>
  cases rx with
  | @cons q' x qs' xs' hx tx=>
   obtain ⟨pk,pv⟩:=p
   by_cases e:pk=k
   ·have e':x.1=k:=hx.1.symm.trans (h.1.symm.trans e);have b:atKey (x :: xs') k=some x.2:=by simp [atKey,j9,e']
    rw [b];unfold cE;rw [if_pos e];exact ⟨_,hx.2.2,h.2.2.2⟩
   ·have e':¬ x.1=k:=fun z=>e (h.1.trans (hx.1.trans z));have b:atKey (x :: xs') k=atKey xs' k:=by simp [atKey,j9,e']
    rw [b];unfold cE;rw [if_neg e];exact ih tx
def jS {κ:Type} [DecidableEq κ] (kvs:List (κ×PV)) (k:κ) (p:PV):List (κ×PV):=if (cE kvs k).isSome then kvs.map (fun kv=>if kv.1=k then (kv.1,p) else kv) else kvs++[(k,p)]
theorem HD.replace {a:Addr} {kvs:List (PV×PV)} {ks:List (PV×Addr×V)} {xs:List (PV×Addr×Value)} (r:RKd C φ H kvs ks) (rx:qM ks xs) (k:PV) {p:PV} {v:V} {u:Value} (rp:RV C φ H p v) (ru:RelV v u):
  ∃ ks',RKd C φ H (kvs.map fun kv=>if kv.1=k then (kv.1,p) else kv) ks'/\qM ks' (xs.map (putAt k u)):=by
 unfold RKd at r
 induction r generalizing xs with
 | nil=>cases rx; exact ⟨[],.nil,.nil⟩
 | @cons pp q ps qs h t ih=>
  cases rx with
  | @cons q' x qs' xs' hx tx=>
   obtain ⟨ks',r1,r2⟩:=ih tx
   by_cases e:pp.1=k
   ·refine ⟨(q.1,q.2.1,v) :: ks',.cons ?_ r1,.cons ?_ r2⟩
    ·simp only [if_pos e]; exact ⟨h.1,h.2.1,h.2.2.1,rp⟩
    ·unfold putAt; rw [if_pos (hx.1.symm.trans (h.1.symm.trans e))]; exact ⟨hx.1,hx.2.1,ru⟩
   ·refine ⟨q :: ks',.cons ?_ r1,.cons ?_ r2⟩
    ·simp only [if_neg e]; exact h
    ·unfold putAt; rw [if_neg fun z=>e (h.1.trans (hx.1.trans z))]; exact hx
theorem HD.put {a b:Addr} {kvs:List (PV×PV)} {ks:List (PV×Addr×V)} {xs:List (PV×Addr×Value)} (r:RKd C φ H kvs ks) (rx:qM ks xs) {k:PV} (hk:k.ky 6=true) (rk:RV C φ H k (.ref b)) {p:PV} {v:V} {u:Value} (rp:RV C φ H p v) (ru:RelV v u):
  ∃ ks',RKd C φ H (jS kvs k p) ks'/\qM ks' (storedH xs k b u):=by
 have hv:=HD.val (a:=b) r rx k;unfold jS storedH;cases e1:cE kvs k with
 | some p0=>
  rw [e1] at hv;cases e2:atKey xs k with
  | none=>rw [e2] at hv; exact hv.elim
  | some z=>exact HD.replace (a:=b) r rx k rp ru
 | none=>
  rw [e1] at hv;cases e2:atKey xs k with
  | some z=>rw [e2] at hv; exact hv.elim
  | none=>exact ⟨ks++[(k,b,v)],Paired.snoc r ⟨rfl,hk,rk,rp⟩,Paired.snoc rx ⟨rfl,rfl,ru⟩⟩
theorem HD.isSome {kvs:List (PV×PV)} {ks:List (PV×Addr×V)} {xs:List (PV×Addr×Value)} (r:RKd C φ H kvs ks) (rx:qM ks xs) (k:PV):(atKey xs k).isSome=(cE kvs k).isSome:=by
 have hv:=HD.val (a:=0) r rx k;cases e1:cE kvs k with
 | some p0=>
  rw [e1] at hv;cases e2:atKey xs k with
  | none=>rw [e2] at hv; exact hv.elim
  | some z=>rfl
 | none=>
  rw [e1] at hv;cases e2:atKey xs k with
  | some z=>rw [e2] at hv; exact hv.elim
  | none=>rfl
theorem yR (I:Inv X pins σ H s) (hK:X.K=C.K) {p:PV} {b:Addr} (hk:p.isKt=true) (r:RV C φ H p (.ref b)):(rV X.prog X.w).is s.heap p b:=⟨tL hk,IE I hK 6 (tL hk) r rfl⟩
end
section
variable {C:MC} {k:Nat} {X:Cx}
theorem Cxt.room6 (c:Cxt C k X):(rV X.prog X.w).room X.A.in1:=by
 have:=c.hu64
 show X.A.units+1+6 < cLine
 omega
def mD (x y:PV) (h:PH):Option (Option PV):=match y with
 | .ref n=>if x.isKt=true then (bA h n).map fun kvs=>cE kvs x else none
 | _=>none
def EY (C:MC):V->V->Hp->(List Addr->Option PV->Prop)->Prop:=fun x y H R=>∃ φ h p n a kvs,RH C φ H h/\RV C φ H p x/\y=.ref a/\φ[n]?=some a/\bA h n=some kvs/\p.isKt=true/\R φ (cE kvs p)
theorem nA {φ:List Addr} {H:Hp} {h:PH} {p q:PV} {x y:V} {o:Option PV} {R:List Addr->Option PV->Prop} (rh:RH C φ H h) (rx:RV C φ H p x) (ry:RV C φ H q y) (e:mD p q h=some o) (r:R φ o):EY C x y H R:=by
 unfold mD at e;cases q with
 | ref n=>
  obtain ⟨a,rfl,ha⟩:=ry;dsimp only at e;split at e
  ·rename_i hk;cases e1:bA h n with
   | none=>rw [e1] at e; cases e
   | some kvs=>rw [e1] at e; cases e; exact ⟨φ,h,p,n,a,kvs,rh,rx,rfl,ha,e1,hk,r⟩
  ·cases e
 | _=>cases e
theorem Lu (c:Cxt C k X):OpR X (fm .In) (fun x y H Q=>EY C x y H fun _ o=>Q (.bl o.isSome) H):=fun pins s σ H x y v u Q I rx ry h=>by
 obtain ⟨φ,h,p,n,a,kvs,rh,rp,rfl,ha,ht,hk,q⟩:=h;cases ry
 obtain ⟨b,rfl⟩:=lI hk rp;cases rx
 obtain ⟨⟨ks,xs,r,rx',hz,hm,dd⟩,_⟩:=uZ I c.K c.w rh ha ht;refine wpAny_in_heap c.room6 (yR I c.K hk rp) hm dd ?_;rw [HD.isSome r rx' p];exact ⟨.bl _,H,I.tok _,rfl,q⟩
theorem DF (c:Cxt C k X):OpR X (fm .NotIn) (fun x y H Q=>EY C x y H fun _ o=>Q (.bl (!o.isSome)) H):=fun pins s σ H x y v u Q I rx ry h=>by
 obtain ⟨φ,h,p,n,a,kvs,rh,rp,rfl,ha,ht,hk,q⟩:=h;cases ry
 obtain ⟨b,rfl⟩:=lI hk rp;cases rx
 obtain ⟨⟨ks,xs,r,rx',hz,hm,dd⟩,_⟩:=uZ I c.K c.w rh ha ht;refine wpAny_notIn_heap c.room6 (yR I c.K hk rp) hm dd ?_;rw [HD.isSome r rx' p];exact ⟨.bl _,H,I.tok _,rfl,q⟩
def vA:PV->PV->PH->Rs PV:=fun x y h=>match mD x y h with
 | some o=>.ok (.bl o.isSome) h
 | none=>vIn x y h
def gU:PV->PV->PH->Rs PV:=fun x y h=>match mD x y h with
 | some o=>.ok (.bl (!o.isSome)) h
 | none=>uO x y h
theorem Nd:OpS C k X (fm .In) vA:=fun c=>((T6 c).or (Lu c)).imp fun x y H Q h=>by
 obtain ⟨φ,h,p,q,rh,rx,ry,po⟩:=h;unfold vA at po;cases e:mD p q h with
 | none=>rw [e] at po; exact .inl ⟨φ,h,p,q,rh,rx,ry,po⟩
 | some o=>rw [e] at po; exact .inr (nA rh rx ry e (po.val rh rfl))
theorem IF:OpS C k X (fm .NotIn) gU:=fun c=>((Lh c).or (DF c)).imp fun x y H Q h=>by
 obtain ⟨φ,h,p,q,rh,rx,ry,po⟩:=h;unfold gU at po;cases e:mD p q h with
 | none=>rw [e] at po; exact .inl ⟨φ,h,p,q,rh,rx,ry,po⟩
 | some o=>rw [e] at po; exact .inr (nA rh rx ry e (po.val rh rfl))
theorem Tq (c:Cxt C k X):IxR X (fun x y H Q=>EY C y x H fun φ o=>∃ p,o=some p/\∀ v:V,RV C φ H p v->Q v H):=by
 intro value slice pins s σ H x y v u Q I rx ry h hs;obtain ⟨φ,h,p,n,a,kvs,rh,rp,rfl,ha,ht,hk,p',ep,q⟩:=h;cases rx
 obtain ⟨b,rfl⟩:=lI hk rp;cases ry
 obtain ⟨⟨ks,xs,r,rx',hz,hm,dd⟩,_⟩:=uZ I c.K c.w rh ha ht;have hT:=dd.typeIs;have hv:=HD.val (a:=a) r rx' p;rw [ep] at hv;cases e2:atKey xs p with
 | none=>rw [e2] at hv; exact hv.elim
 | some z=>
  rw [e2] at hv;obtain ⟨v',rv1,rv2⟩:=hv;unfold subscriptTail;refine aa ?_;rw [getitemInPython_of_ne hT.not_modules];refine aa (wpAny_specialOf hT PySem.F.slot_dict_getitem.lookup ?_);have fin:wpAny (model X.prog X.w) X.A (subscripted slice false (.ref a) (.ref b)) (fun r s₃=>wpAny (model X.prog X.w) X.A (letTemporaryGo value (.ref a) r >>= fun _=>pure r) (EP X pins σ Q) X.xe s₃) X.xe s:=by
   rw [hs];exact wpAny_operating (wpAny_getItem_heap c.room6 (yR I c.K hk rp) dd e2 (aa (wpAny_letTemporaryGo (ab ⟨v',H,I.tok _,rv1,q v' rv2⟩))))
  first
   | exact ab (aa fin)
   | exact aa (ab (aa fin))
   | exact aa fin
def vAt:PV->PV->PH->Rs PV:=fun x y h=>match mD y x h with
 | some (some p)=>.ok p h
 | some none=>.bad
 | none=>vIx x y h
theorem gP {a b:Expr} {ma mb:Me} {pos:Pos} (ha:SE C k X a ma) (hb:SE C k X b mb) (hs:EB b:=by intro _ _; rfl):SE C k X (.Subscript a b pos) (aD vAt ma mb):=fun c=>
 (Qd ((ixC c.hu C.K c.K).or (Tq c)) (ha c) (hb c) hs).imp fun σ H Q h=>by
  obtain ⟨φ,δ,h,rh,re,p⟩:=EJ h;refine ⟨φ,δ,h,rh,re,p.imp ?_⟩;rintro v H1 ⟨φ,δ,h,rh,re,p⟩;refine ⟨φ,δ,h,rh,re,p.imp ?_⟩;rintro u H2 ⟨φ,h,p,q,rh,rx,ry,po⟩;unfold vAt at po;cases e:mD q p h with
  | none=>rw [e] at po; exact .inl (QI ⟨φ,h,p,q,rh,rx,ry,po⟩)
  | some o=>
   rw [e] at po;cases o with
   | none=>exact po.elim
   | some r=>exact .inr (nA rh ry rx e ⟨r,rfl,fun v' rv=>po.val rh rv⟩)
def DG (x y v:PV) (h:PH):Option PH:=match x with
 | .ref n=>match Dv y,h[n]? with
  | some key,some (.dK kvs)=>if kvs.length < aw then some (h.set n (.dK (jS kvs key v))) else none
  | some _,_=>none
  | none,_=>if y.isKt=true then (match bA h n with
   | some kvs=>if kvs.length < aw then some (h.set n (.dD (jS kvs y v))) else none
   | none=>none) else none
 | _=>none
theorem DH {φ:List Addr} {H:Hp} {κ:Type} [DecidableEq κ] {kvs:List (κ×PV)} {ks:List (κ×V)} (r:RKv C φ H kvs ks) (a:κ):(cE kvs a).isSome=(jQ ks a).isSome:=by
 have:=yO r a;cases e1:cE kvs a with
 | none=>
  cases e2:jQ ks a with
  | none=>rfl
  | some v=>rw [e1,e2] at this; exact this.elim
 | some p=>
  cases e2:jQ ks a with
  | none=>rw [e1,e2] at this; exact this.elim
  | some v=>rfl
theorem BG {φ:List Addr} {H:Hp} {κ:Type} [DecidableEq κ] {kvs:List (κ×PV)} {ks:List (κ×V)} (r:RKv C φ H kvs ks) (a:κ) {p:PV} {v:V} (rp:RV C φ H p v):RKv C φ H (jS kvs a p) (putK ks a v):=by
 unfold jS putK;rw [tX,DH r a];split
 ·rename_i hx;clear hx;unfold RKv at r ⊢
  induction r with
  | nil=>exact .nil
  | @cons p' q' ps qs h t ih=>
   refine .cons ?_ ih
   by_cases e:p'.1=a
   ·have e':q'.1=a:=h.1.symm.trans e;simp only [if_pos e,if_pos e'];exact ⟨h.1,rp⟩
   ·have e':¬ q'.1=a:=fun z=>e (h.1.trans z);simp only [if_neg e,if_neg e'];exact h
 ·exact Paired.snoc r ⟨rfl,rp⟩
theorem yS {φ:List Addr} {H:Hp} {h h':PH} {px py pv:PV} {x y v:V} (c:Cxt C k X) (rh:RH C φ H h) (rx:RV C φ H px x) (ry:RV C φ H py y) (rv:RV C φ H pv v) (e:DG px py pv h=some h') {pins:List (Addr×Obj)} {σ:St} {s:Shared} {xu yu vu:Value}
  {Q:Unit->Shared->Prop} (I:Inv X pins σ H s) (rxu:RelV x xu) (ryu:RelV y yu) (rvu:RelV v vu) (q:∀ s' H',Inv X pins σ H' s'->Kp H H'->RH C φ H' h'->Q () s'):wpAny (model X.prog X.w) X.A (setItem xu yu vu) Q X.xe s:=by
 unfold DG at e;cases px with
 | ref n=>
  obtain ⟨a,rfl,ha⟩:=rx;cases rxu
  dsimp only at e;split at e
  ·rename_i key kvs hkey hk;split at e
   ·rename_i hl;cases e
    obtain ⟨ks,hH,rk⟩:=rh.at' n a _ ha hk;have ey:y=kV key:=Dx ry hkey;subst ey;have hl':ks.length < aw:=by rw [<- d5 rk]; exact hl
    refine FH c.hu I (.k hH hl') ryu rvu fun s' I'=>q s' _ I' (Kp.dK hH) ?_;refine rh.write ha (by rw [hH]; exact i4) ⟨_,aK,?_⟩;exact (BG rk key rv).mono ai (Kp.dK hH)
   ·cases e
  ·cases e
  ·split at e
   ·rename_i hk;split at e
    ·rename_i kvs ht;split at e
     ·rename_i hl;cases e
      obtain ⟨b,rfl⟩:=lI hk ry;cases ryu
      obtain ⟨⟨ks,xs,r,rx',hz,hm,dd⟩,mu,nt⟩:=uZ I c.K c.w rh ha ht;refine wpAny_setItem_heap (hsz:=hz) c.room6 (yR I c.K hk ry) dd fun h' dd' hs=>?_;obtain ⟨ks',r1,r2⟩:=HD.put (a:=a) r rx' (tL hk) ry rv rvu;obtain ⟨o,es,ep,hq,h2,h3,h4,_,h5⟩:=dd';have hl2:ks'.length<=aw:=by
       have e1:=d5 r1;have e2:(jS kvs py pv).length<=kvs.length+1:=by
        unfold jS;split
        ·rw [ar]; omega
        ·simp
       omega
      refine q _ (upd H a (dDO C.w a ks')) (tE I mu hs ⟨o,hq⟩ ⟨⟨hl2,hm,_,r2,o,es,ep,hq,h2,h3,?_,h5⟩,⟨o,hq⟩,?_⟩) (Kp.upd nt) ?_
      ·rw [h4,<- c.w]; rfl
      ·rintro g1 g2 ⟨z1,z2,ws,z3,o',es',ep',z4,z5⟩ keep;exact ⟨z1,z2,ws,z3,o',es',ep',keep _ z4,z5⟩
      ·exact rh.write ha nt ⟨ks',aK,RKd.mono ai (Kp.upd nt) r1⟩
     ·cases e
    ·cases e
   ·cases e
 | _=>cases e
end
end L2
namespace L2
open PySem PySem.Spec PyProof.Rows
def MtG (C:MC) (k:Nat) (X:Cx) (T:String) (ty:PV->PH->Bool) (id:String) (g:PV->List PV->PH->Rs PV):Prop:=Cxt C k X->MtR X id (rM C g)/\
 ∀ pins s σ H φ h p x v,Inv X pins σ H s->RH C φ H h->RV C φ H p x->RelV x v->ty p h=true->s.TypeIs v T/\∀ a,v=.ref a->∃ ob,s.heap.get? a=some ob/\ob.dict=none
section
variable {C:MC} {k:Nat} {X:Cx}
section
variable {o e:Expr} {es:List Expr} {mo:Me} {ms:Ma} {name:Str} {apos cpos:Pos} {T id:String} {ty:PV->PH->Bool} {g:PV->List PV->PH->Rs PV}
theorem Tr (pa:PlainAttrs T) (slot:Slot T name id) (hty:typeOf (.builtin id)=pure (.type "method_descriptor")) (hm:MtG C k X T ty id g) (ho:SE C k X o mo) (ha:SA C k X (e :: es) ms)
  (hbase:kj o name X.env (eval o X.env)=eval o X.env:=by rfl)
  (hfew:((backTo cpos (b0 (e :: es) X.env)).all (fun x=>!x.1) && (backToKw cpos (keywordEach [] X.env)).all (fun x=>x.1.isSome)
   && decide ((e :: es).length+([]:List Keyword).length+(if ([]:List Keyword).isEmpty then 0 else 1) < 30))=true:=by rfl)
  (hline:(apos.endLine == cpos.line)=true:=by rfl) (hs:b0 (e :: es) X.env=(false,eval e X.env) :: b0 es X.env:=by rfl) (hplain:(backTo cpos (b0 es X.env)).any (·.1)=false:=by rfl):
  SE C k X (.Call (.Attribute o name apos) (e :: es) [] cpos) (mMt ty g mo ms):=fun c pins s σ H Q I ⟨φ,δ,h,rh,re,p⟩=>by
 refine wpAny_Call_method_late hbase hfew hline rfl (thn (ho c pins s σ H _ I ⟨φ,δ,h,rh,re,post.bind p⟩) ?_);rintro v s1 ⟨x,H1,I1,r1,φ1,px,h1,p1,t1,rh1,rv1,q1⟩;obtain ⟨ht,q1⟩:=q1.ite;obtain ⟨g1,g2⟩:=(hm c).2 pins s1 σ H1 φ1 h1 px x v I1 rh1 rv1 r1 ht;refine ⟨T,id,pa,slot,hty,g1,g2,?_⟩;have hA:=ha c cpos pins s1 σ H1 _ I1 ⟨φ1,δ,h1,rh1,re.mono p1 t1,postA.bind q1⟩;rw [hs] at hA ⊢;refine Calls.callWith_builtin (show (false || (backTo cpos (b0 es X.env)).any (·.1))=false by rw [hplain]; rfl) (Calls.evalArgs_plain (thn hA ?_));rintro us s2 ⟨vs,H2,I2,r2,φ2,ps,h2,p2,t2,rh2,rv2,q2⟩;exact (hm c).1 pins s2 σ H2 x vs v us Q I2 r1 r2 ⟨φ2,h2,px,ps,rh2,rv1.mono p2 t2,rv2,q2⟩
theorem BH (pa:PlainAttrs T) (slot:Slot T name id) (hty:typeOf (.builtin id)=pure (.type "method_descriptor")) (hm:MtG C k X T ty id g) (ho:SE C k X o mo)
  (hbase:kj o name X.env (eval o X.env)=eval o X.env:=by rfl) (hline:(apos.endLine == cpos.line)=true:=by rfl):SE C k X (.Call (.Attribute o name apos) [] [] cpos) (gO ty g mo):=fun c pins s σ H Q I ⟨φ,δ,h,rh,re,p⟩=>by
 refine wpAny_Call_method0_late hbase hline (thn (ho c pins s σ H _ I ⟨φ,δ,h,rh,re,post.bind p⟩) ?_);rintro v s1 ⟨x,H1,I1,r1,φ1,px,h1,p1,t1,rh1,rv1,q1⟩;obtain ⟨ht,q1⟩:=q1.ite;obtain ⟨g1,g2⟩:=(hm c).2 pins s1 σ H1 φ1 h1 px x v I1 rh1 rv1 r1 ht;exact ⟨T,id,pa,slot,hty,g1,g2,Calls.callWith_builtin rfl (PySem.evalArgs_none ((hm c).1 pins s1 σ H1 x [] v [] Q I1 r1 .nil ⟨φ1,h1,px,[],rh1,rv1,trivial,q1⟩))⟩
end
def cB (x:PV) (h:PH):Bool:=match x with
 | .ref n=>match h[n]? with
  | some (.dK _)=>true
  | some (.dD _)=>true
  | _=>false
 | _=>false
theorem BI (c:Cxt C k X):∀ pins s σ H φ h p x v,Inv X pins σ H s->RH C φ H h->RV C φ H p x->RelV x v->cB p h=true->s.TypeIs v "dict" /\ ∀ a,v=.ref a->∃ ob,s.heap.get? a=some ob/\ob.dict=none:=by
 intro pins s σ H φ h p x v I rh rv r e;unfold cB at e;cases p with
 | ref n=>
  obtain ⟨a,rfl,ha⟩:=rv;cases r
  dsimp only at e;split at e
  ·rename_i kvs hk;obtain ⟨ks,hH,rk⟩:=rh.at' n a _ ha hk;obtain ⟨z,hd,vs,rel,dd⟩:=B6 I.hok hH;refine ⟨dd.typeIs,fun b eb=>?_⟩;cases eb
   obtain ⟨ob,_,_,h1,h2,_⟩:=dd;exact ⟨ob,h1,h2.2.1⟩
  ·rename_i kvs hk;have ht:bA h n=some kvs:=by unfold bA; rw [hk]
   obtain ⟨⟨ks,xs,r,rx',hz,hm,dd⟩,_⟩:=uZ I c.K c.w rh ha ht;refine ⟨dd.typeIs,fun b eb=>?_⟩;cases eb
   obtain ⟨ob,_,_,h1,h2,_⟩:=dd;exact ⟨ob,h1,h2.2.1⟩
  ·cases e
 | _=>cases e
def vB:List PV->Option (List (Key×PV))
 | []=>some []
 | .tup [y,v] :: r=>match Dv y,vB r with
  | some key,some rs=>some ((key,v) :: rs)
  | _,_=>none
 | _ :: _=>none
def IG (kvs more:List (Key×PV)):List (Key×PV):=more.foldl (fun acc kv=>jS acc kv.1 kv.2) kvs
theorem DI {φ:List Addr} {H:Hp}:∀ {more:List (Key×PV)} {ms:List (Key×V)} {kvs:List (Key×PV)} {ks:List (Key×V)},RKv C φ H more ms->RKv C φ H kvs ks->RKv C φ H (IG kvs more) (qC ks ms):=by
 intro more ms kvs ks r;unfold RKv at r
 induction r generalizing kvs ks with
 | nil=>intro q; exact q
 | @cons p q ps qs h t ih=>
  intro r0;have e:=BG r0 p.1 h.2;rw [show putK ks p.1 q.2=putK ks q.1 q.2 by rw [h.1]] at e;exact ih e
theorem Inv.tupleD {pins:List (Addr×Obj)} {σ:St} {H:Hp} {s:Shared} {a:Addr} {xs:List V} (I:Inv X pins σ H s) (h:SqT X.K H a xs):∃ its:List Value,aN xs its/\nQ s.heap a its.toArray/\xs.length<=aw:=by
 rcases h with h | ⟨o,its,n,hk,hc,hs,hz,r,hd⟩
 ·obtain ⟨z,its,r,p⟩:=h.ok I.hok;exact ⟨its,r,p,z⟩
 ·refine ⟨its.toList,r,⟨o,I.kIn a o hk,hc,⟨n,by simpa using hs⟩,hd⟩,?_⟩
  have e:=r.length;rw [e];simpa using hz
theorem yT {pins:List (Addr×Obj)} {σ:St} {H:Hp} {s:Shared} {φ:List Addr} (I:Inv X pins σ H s) (hK:X.K=C.K):∀ {ps:List PV} {rs:List (Key×PV)} {vs:List V} {us:List Value},vB ps=some rs->RVs C φ H ps vs->aN vs us->
  ∃ qs:List (Addr×Key×Value×Value),us=qs.map (fun q=>bx q.1)/\(∀ q∈qs,(cG X.prog X.w).is q.2.1 q.2.2.1=true)/\(∀ q∈qs,IsTup s.heap q.1 #[q.2.2.1,q.2.2.2])/\∃ ws:List (Key×V),RKv C φ H rs ws/\KV ws (qs.map fun q=>(q.2.1,q.2.2.2))
 | [],rs,[],us,e,_,ru=>by
  cases ru
  cases e
  exact ⟨[],rfl,(fun _ h=>nomatch h),(fun _ h=>nomatch h),[],.nil,.nil⟩
 | p :: ps,rs,v :: vs,us,e,r,ru=>by
  cases ru with
  | @cons _ u _ us' h t=>
   cases p with
   | tup xs=>
    match xs,e with
    | [y,z],e=>
     unfold vB at e;cases e1:Dv y with
     | none=>rw [e1] at e; cases e
     | some key=>
      cases e2:vB ps with
      | none=>rw [e1,e2] at e; cases e
      | some rs'=>
       rw [e1,e2] at e;cases e
       obtain ⟨qs,rfl,a1,a2,ws,a3,a4⟩:=yT I hK e2 r.2 t;obtain ⟨b,bs,rfl,sq,rb⟩:=r.1;cases h
       obtain ⟨yv,zv,rfl,ry,rz⟩:=rb.two;rw [<- hK] at sq;obtain ⟨its,rits,pt,_⟩:=I.tuple sq;obtain ⟨yu,zu,rfl,ryu,rzu⟩:=vals2 rits;have ey:=Dx ry e1;subst ey;refine ⟨(b,key,yu,zu) :: qs,rfl,?_,?_,(key,zv) :: ws,.cons ⟨rfl,rz⟩ a3,.cons ⟨rfl,rzu⟩ a4⟩
       ·intro q hq;rcases bw.mp hq with rfl | hq
        ·exact yF ryu
        ·exact a1 q hq
       ·intro q hq;rcases bw.mp hq with rfl | hq
        ·exact pt
        ·exact a2 q hq
    | [],e=>cases e
    | [_],e=>cases e
    | _ :: _ :: _ :: _,e=>cases e
   | _=>cases e
 | [],_,_ :: _,_,_,r,_=>r.elim
 | _ :: _,_,[],_,_,r,_=>r.elim
def EZ:List PV->PH->Rs PV:=fun xs h=>match xs with
 | [.tup ps]=>match vB ps with
  | some rs=>.ok (.ref h.length) (h++[.dK (IG [] rs)])
  | none=>.bad
 | [.ref n]=>match h[n]? with
  | some (.dK kvs)=>.ok (.ref h.length) (h++[.dK kvs])
  | _=>.bad
 | _=>.bad
theorem IH:mF C k X (.type "dict") EZ:=fun c pins s σ H xs us Q I r h=>by
 obtain ⟨φ,h,ps,rh,rv,po⟩:=h;unfold EZ at po;split at po
 ·rename_i ps;split at po
  ·rename_i rs e;obtain ⟨v,rfl,rx⟩:=rv.one;obtain ⟨a,vs,rfl,sa,ra⟩:=rx;obtain ⟨u,rfl,ru⟩:=vals1 r;cases ru
   have hl:=ra.length;have sa':=sa;rw [<- c.K] at sa';obtain ⟨its,rits,⟨o,o1,o2,⟨n,o3⟩,o4⟩,hz⟩:=Inv.tupleD I sa';obtain ⟨qs,rfl,a1,a2,ws,a3,a4⟩:=yT I c.K e ra rits;have hq:qs.length<=aw:=by
    have:=rits.length;rw [ar] at this;omega
   refine sQ (I.ok.hd c.calm) o1 o2 o3 o4 a1 a2 hq fun h' tk dd kk=>?_;have r1:=DI a3 (.nil:RKv C φ H [] []);have hz2:(qC [] ws).length<=aw:=by
    have h1:=mE ws [];have h2:=KV.length a4;rw [ar] at h2;simp at h1;omega
   have fr:H s.heap.objs.size=none:=I.fresh;refine ⟨.ref s.heap.objs.size,_,I.laid (a:=s.heap.objs.size) (o:=.dK (qC [] ws)) (t':=tk) kk (az _) (Dc hz2 (beq_eq_false_iff_ne.mpr (ik (ba I.big))) (a4.merge .nil) dd),rfl,?_⟩;exact po (φ++[s.heap.objs.size]) (.ref _) _ (dj _ _) (Kp.new fr) (rh.new fr ⟨_,aK,r1.mono (dj _ _) (Kp.new fr)⟩) ⟨_,rfl,by rw [<- rh.len]; simp⟩
  ·exact po.elim
 ·rename_i n;split at po
  ·rename_i kvs hk;obtain ⟨v,rfl,rx⟩:=rv.one;obtain ⟨a,rfl,ha⟩:=rx;obtain ⟨u,rfl,ru⟩:=vals1 r;cases ru
   obtain ⟨ks,hH,rk⟩:=rh.at' n a _ ha hk;refine Hy I (.inl hH) fun p s' hp I'=>⟨.ref p,_,I',rfl,?_⟩;exact po (φ++[p]) (.ref _) _ (dj _ _) (Kp.new hp) (rh.new hp ⟨_,aK,rk.mono (dj _ _) (Kp.new hp)⟩) ⟨_,rfl,by rw [<- rh.len]; simp⟩
  ·exact po.elim
 ·exact po.elim
end
def kP:Key->PV
 | .inl i=>.int i
 | .inr x=>.str x
def Nf:List PV->Option (List Key)
 | []=>some []
 | x :: xs=>match Dv x,Nf xs with
  | some a,some r=>some (a :: r)
  | _,_=>none
def Ng:List PV->Option (List (List Key))
 | []=>some []
 | .tup xs :: r=>match Nf xs,Ng r with
  | some a,some b=>some (a :: b)
  | _,_=>none
 | _ :: _=>none
def Ts (kss:List (List Key)):Bool:=match kss with
 | []=>true
 | a :: r=>(!a.isEmpty) && r.all fun x=>shape x == shape a
section
variable {C:MC} {k:Nat} {X:Cx}
theorem RH.same {φ:List Addr} {H H1:Hp} {h:PH} (r:RH C φ H h) (s:tW H H1):RH C φ H1 h:=⟨r.len,r.nd,fun n b ob h1 h2=>by
 have q:=r.at' n b ob h1 h2;obtain ⟨u,hu⟩:=q.some;exact q.stay ai (Kp.same s) ((s _ _ hu).trans hu.symm)⟩
end
end L2
namespace L2
open PySem
section
variable {h:PH}
@[simp] theorem R6 {x:PV} {xs:List PV}:mD x (.tup xs) h=none:=(rfl)
@[simp] theorem Sm {x:PV} {xs:List PV}:mD x (.fl xs) h=none:=(rfl)
@[simp] theorem PK {x:PV} {z:Str}:mD x (.str z) h=none:=(rfl)
@[simp] theorem R7 {i:Int} {y:PV}:mD (.int i) y h=none:=by cases y <;> rfl
theorem BJ {x:PV} {n:Nat} {xs:List PV} (e:h[n]?=some (.lst xs)):mD x (.ref n) h=none:=by
 unfold mD bA;simp [e]
@[simp] theorem Sn {z:Str} {y:PV}:vAt (.str z) y h=vIx (.str z) y h:=by unfold vAt; simp
@[simp] theorem So {x:PV} {i:Int}:vAt x (.int i) h=vIx x (.int i) h:=by unfold vAt; simp
theorem II {x:PV} {n:Nat} {xs:List PV} (e:h[n]?=some (.lst xs)):vA x (.ref n) h=vIn x (.ref n) h:=by unfold vA; rw [BJ e]
theorem BK {x:PV} {n:Nat} {xs:List PV} (e:h[n]?=some (.lst xs)):gU x (.ref n) h=uO x (.ref n) h:=by unfold gU; rw [BJ e]
end
end L2
namespace L2
open PySem PySem.Spec PyProof.Rows
section
variable {C:MC} {k:Nat} {X:Cx}
def sC {κ:Type} [DecidableEq κ] (kvs:List (κ×PV)) (a:κ):List (κ×PV):=kvs.filter fun kv=>decide (kv.1≠a)
end
section
variable {C:MC} {k:Nat} {X:Cx}
def tM (h:PH) (d:Nat):Option (List PV):=match h[d]? with
 | some (.dK kvs)=>some (kvs.map (·.2))
 | some (.dD kvs)=>some (kvs.map (·.2))
 | _=>none
theorem vC {prog:Program} {w:World} {K:Type} [DecidableEq K] {knd:KeyKind prog w K} {es:List ie} {kvs:List (K×Value)} (h:Pairs knd es kvs):es.map (·.val)=kvs.map (·.2):=by
 apply i5;intro i;rw [br,br];have hl:=h.length
 by_cases hi:i < es.length
 ·have e1:es[i]?=some es[i]:=by simp [hi]
  have hi':i < kvs.length:=by omega
  have e2:kvs[i]?=some (kvs[i].1,kvs[i].2):=by simp [hi']
  rw [e1,e2];exact congrArg some (h.get? e1 e2).2
 ·rw [ji (by omega),ji (by omega)];rfl
theorem IJ {pins:List (Addr×Obj)} {σ:St} {H:Hp} {s:Shared} {φ:List Addr} {h:PH} {d:Nat} {b:Addr} {xs:List PV} (c:Cxt C k X) (I:Inv X pins σ H s) (rh:RH C φ H h) (hb:φ[d]?=some b) (e:tM h d=some xs):
  s.TypeIs (.ref b) "dict" /\ (b == iz)=false/\xs.length<=aw/\∃ oc es ep,s.heap.get? b=some oc/\oc.data=.dict es ep/\∃ ws,RVs C φ H xs ws/\aN ws (es.toList.map (·.val)):=by
 unfold tM at e;split at e
 ·rename_i kvs hk;cases e
  obtain ⟨ks,hH,rk⟩:=rh.at' d b _ hb hk;obtain ⟨z,hd,vs,rel,dd⟩:=B6 I.hok hH;refine ⟨dd.typeIs,hd,by rw [ar,d5 rk]; exact z,?_⟩;obtain ⟨oc,es,ep,g1,g2,g3,g4,g5,g6⟩:=dd;refine ⟨oc,es,ep,g1,g3,ks.map (·.2),?_,?_⟩
  ·unfold RKv at rk;clear hk hH rel z
   induction rk with
   | nil=>trivial
   | cons q t ih=>exact ⟨q.2,ih⟩
  ·rw [vC g5];clear hk hH g4 g5 g6 z;unfold KV at rel;clear rk
   induction rel with
   | nil=>exact .nil
   | cons q t ih=>exact .cons q.2 ih
 ·rename_i kvs hk;cases e
  have ht:bA h d=some kvs:=by unfold bA; rw [hk]
  obtain ⟨⟨ks,ys,r,rx',hz,hm,dd⟩,_⟩:=uZ I c.K c.w rh hb ht;have hlen:kvs.length=ys.length:=(d5 r).trans (d5 rx');refine ⟨dd.typeIs,hm,by rw [ar,hlen]; exact hz,?_⟩;obtain ⟨oc,es,ep,g1,g2,g3,g4,g5,g6⟩:=dd;refine ⟨oc,es,ep,g1,g3,ks.map (·.2.2),?_,?_⟩
  ·unfold RKd at r;clear hk ht rx' hlen
   induction r with
   | nil=>trivial
   | cons q t ih=>exact ⟨q.2.2.2,ih⟩
  ·rw [g4,j4];clear hk ht r hlen hz g4 g5 g6
   induction rx' with
   | nil=>exact .nil
   | cons q t ih=>exact .cons q.2.2 ih
 ·cases e
def kI (h:PH) (n:Nat):Option (List PV):=match h[n]? with
 | some (.vw 1 d)=>tM h d
 | _=>none
def vD:List PV->PH->Rs PV:=fun xs h=>match xs with
 | [.ref n]=>match kI h n with
  | some ys=>.ok (.ref h.length) (h++[.lst ys])
  | none=>By xs h
 | _=>By xs h
theorem IK {es:Array ie} {acc:Array Value} (h:ItemsOf (fun i v=>∃ e,es[i]?=some e/\v=e.val) acc es.size):acc.toList=es.toList.map (·.val):=by
 apply i5;intro i;rw [br,Array.getElem?_toList,Array.getElem?_toList]
 by_cases hi:i < acc.size
 ·have e1:acc[i]?=some acc[i]:=by simp [hi]
  obtain ⟨e,h1,h2⟩:=h.2 i _ e1;rw [e1,h1,h2];rfl
 ·have hi':¬ i < es.size:=by rw [<- h.1]; exact hi
  rw [iy (by omega),iy (by omega)];rfl
theorem DJ (c:Cxt C k X):cJ X (.type "list") (fun xs H Q=>∃ (φ:List Addr) (h:PH) (n:Nat) (a:Addr) (d:Nat) (b:Addr) (ys:List PV),xs=[.ref a]/\RH C φ H h/\φ[n]?=some a/\φ[d]?=some b/\H a=some (Bu 1 a b)/\tM h d=some ys/\∀ l ws,H l=none->RVs C φ H ys ws->Q (.ref l) (upd H l (.lst ws))):=by
 intro pins s σ H xs us Q I r h;obtain ⟨φ,h,n,a,d,b,ys,rfl,rh,ha,hb,hH,ey,q⟩:=h;obtain ⟨u,rfl,ru⟩:=vals1 r;cases ru
 obtain ⟨hT,hm,hz,oc,es,ep,g1,g2,ws,r1,r2⟩:=IJ c I rh hb ey;have hv:s.heap.IsValuesView a b:=(I.hok a _ hH).1;have hn:es.size<=aw:=by
  have e1:=r1.length;have e2:ws.length=es.size:=by have:=r2.length; simpa using this
  rw [<- e2,<- e1]; exact hz
 refine PySem.W.kdl_call (HS (r:=a) g2) (I.ok.hd c.calm) ⟨hv,g1⟩ hn fun h' tk acc' c' hk hS hacc=>?_;have ea:=IK hacc;refine ⟨.ref s.heap.objs.size,_,I.laid (t':=tk) (o:=.lst ws) hk (az _) ⟨?_,acc'.toList,c',by rw [ea]; exact r2,by rw [Array.toArray_toList]; exact hS⟩,rfl,q _ ws I.fresh r1⟩;rw [<- r1.length]; exact hz
theorem Lv:mF C k X (.type "list") vD:=fun c=>cJ.imp (cJ.or (Oi c) (DJ c)) fun vs H Q h=>by
 obtain ⟨φ,h,ps,rh,rv,po⟩:=h;unfold vD at po;split at po
 ·rename_i n;split at po
  ·rename_i ys e;unfold kI at e;split at e
   ·rename_i d hv;obtain ⟨v,rfl,rx⟩:=rv.one;obtain ⟨a,rfl,ha⟩:=rx;obtain ⟨b,hb,hH⟩:=rh.at' n a _ ha hv;exact .inr ⟨φ,h,n,a,d,b,ys,rfl,rh,ha,hb,hH,e,fun l ws hl rw'=>po.lnew rh rw' hl⟩
   ·cases e
  ·exact .inl ⟨φ,h,_,rh,rv,po⟩
 ·exact .inl ⟨φ,h,_,rh,rv,po⟩
end
section
variable {h:PH}
theorem F0 {n:Nat} {kvs:List (PV×PV)} (e:h[n]?=some (.dD kvs)):bA h n=some kvs:=by simp [bA,e]
end
end L2
namespace L2
open PySem PySem.Spec PyProof.Rows PySem.SeqAt PySem.W
def vE (l:List Nat):List Int:=l.map (fun (c:Nat)=>(c:Int)+2)++[1]
mutual
def enc:PV->List Int
 | .int i=>[i]
 | .str x=>vE x.cps.toList
 | .tup xs=>oW xs
 | _=>[]
def oW:List PV->List Int
 | []=>[0]
 | x :: xs=>1 :: (enc x++oW xs)
end
theorem lJ (a:Nat) (l:List Nat):vE (a :: l)=((a:Int)+2) :: vE l:=rfl
theorem F1:∀ (a b:List Nat) (s t:List Int),a≠b->((vE a++s < vE b++t) ↔ a < b)
 | [],[],_,_,h=>(h rfl).elim
 | [],b :: bs,s,t,_=>by
  rw [lJ]
  show (1 :: s < ((b:Int)+2) :: (vE bs++t)) ↔ _
  rw [fi];constructor
  ·intro _; exact List.nil_lt_cons _ _
  ·intro _; left; omega
 | a :: as,[],s,t,_=>by
  rw [lJ]
  show (((a:Int)+2) :: (vE as++s) < 1 :: t) ↔ _
  rw [fi];constructor
  ·rintro (h | ⟨h,_⟩) <;> omega
  ·intro h; exact (List.not_lt_nil _ h).elim
 | a :: as,b :: bs,s,t,h=>by
  rw [lJ,lJ]
  show (((a:Int)+2) :: (vE as++s) < ((b:Int)+2) :: (vE bs++t)) ↔ _
  rw [fi,fi]
  by_cases e:a=b
  ·subst e;have h':as≠bs:=fun z=>h (by rw [z]);have ih:=F1 as bs s t h';constructor
   ·rintro (h1 | ⟨_,h1⟩)
    ·omega
    ·exact .inr ⟨rfl,ih.mp h1⟩
   ·rintro (h1 | ⟨_,h1⟩)
    ·omega
    ·exact .inr ⟨rfl,ih.mpr h1⟩
  ·constructor
   ·rintro (h1 | ⟨h1,_⟩) <;> (left; omega)
   ·rintro (h1 | ⟨h1,_⟩)
    ·left; omega
    ·exact (e h1).elim
theorem DK:∀ (n:Nat) (x y:PV) (c:Bool) (s t:List Int),x≠y->ltP n x y=some c->((enc x++s < enc y++t) ↔ c=true):=by
 intro n;have one:∀ (a b:Int) (c:Bool) (s t:List Int),PV.int a≠.int b->some (decide (a < b))=some c->(([a]++s < [b]++t) ↔ c=true):=fun a b c s t h e=>by
  cases e
  have h':a≠b:=fun z=>h (by rw [z])
  show (a :: s < b :: t) ↔ _
  rw [fi,decide_eq_true_eq];constructor
  ·rintro (h1 | ⟨h1,_⟩)
   ·exact h1
   ·exact (h' h1).elim
  ·intro h1; exact .inl h1
 have two:∀ (a b:Str) (c:Bool) (s t:List Int),PV.str a≠.str b->some (decide (a.cps.toList < b.cps.toList))=some c->((vE a.cps.toList++s < vE b.cps.toList++t) ↔ c=true):=fun a b c s t h e=>by
  cases e
  rw [F1 _ _ s t (fun z=>h (by rw [Le z])),decide_eq_true_eq]
 induction n with
 | zero=>
  intro x y c s t h e;cases x <;> cases y <;> first | exact one _ _ c s t h e | exact two _ _ c s t h e | (simp [ltP] at e)
 | succ n ih=>
  have lists:∀ (xs ys:List PV) (c:Bool) (s t:List Int),xs≠ys->ltL (ltP n) xs ys=some c->((oW xs++s < oW ys++t) ↔ c=true):=by
   intro xs
   induction xs with
   | nil=>
    intro ys c s t h e;cases ys with
    | nil=>exact (h rfl).elim
    | cons y ys=>
     cases e
     show (0 :: s < 1 :: ((enc y++oW ys)++t)) ↔ _
     rw [fi];constructor
     ·intro _; rfl
     ·intro _; left; omega
   | cons x xs ihx=>
    intro ys c s t h e;cases ys with
    | nil=>
     cases e
     show (1 :: ((enc x++oW xs)++s) < 0 :: t) ↔ _
     rw [fi];constructor
     ·rintro (h1 | ⟨h1,_⟩) <;> omega
     ·intro h1; cases h1
    | cons y ys=>
     show (1 :: ((enc x++oW xs)++s) < 1 :: ((enc y++oW ys)++t)) ↔ _
     have e':(if x=y then ltL (ltP n) xs ys else ltP n x y)=some c:=e;rw [fi,aq,aq];have key:(enc x++(oW xs++s) < enc y++(oW ys++t)) ↔ c=true:=by
      by_cases xy:x=y
      ·rw [if_pos xy] at e';subst xy;have:=ihx ys c s t (fun z=>h (by rw [z])) e';rw [<- this];have cut:∀ l:List Int,(l++(oW xs++s) < l++(oW ys++t)) ↔ (oW xs++s < oW ys++t):=fun l=>by
        induction l with
        | nil=>exact Iff.rfl
        | cons a l ih=>
         show (a :: (l++_) < a :: (l++_)) ↔ _
         rw [fi,ih];constructor
         ·rintro (h1 | ⟨_,h1⟩)
          ·omega
          ·exact h1
         ·intro h1; exact .inr ⟨rfl,h1⟩
       exact cut _
      ·rw [if_neg xy] at e';exact ih x y c _ _ xy e'
     rw [key];constructor
     ·rintro (h1 | ⟨_,h1⟩)
      ·omega
      ·exact h1
     ·intro h1; exact .inr ⟨rfl,h1⟩
  intro x y c s t h e;cases x <;> cases y <;> first | exact one _ _ c s t h e | exact two _ _ c s t h e | (simp [ltP] at e; done) | exact lists _ _ c s t (fun z=>h (by rw [z])) e
def ltN (x y:PV):Bool:=decide (enc x < enc y)
theorem BL {f:PV->PV->Option Bool}:∀ xs:List PV,ltL f xs xs=some false
 | []=>rfl
 | x :: xs=>by
  show (if x=x then ltL f xs xs else f x x)=some false
  rw [if_pos rfl];exact BL xs
theorem IL {n:Nat} {x:PV} {c:Bool} (h:ltP n x x=some c):c=false:=by
 have st:∀ {z:Str} {c:Bool},some (decide (z.cps.toList < z.cps.toList))=some c->c=false:=fun {z c} e=>by
  cases e
  exact decide_eq_false (List.lt_irrefl _)
 have it:∀ {z:Int} {c:Bool},some (decide (z < z))=some c->c=false:=fun {z c} e=>by
  cases e
  exact decide_eq_false (Int.lt_irrefl _)
 cases n with
 | zero=>
  cases x with
  | int i=>exact it h
  | str i=>exact st h
  | _=>simp [ltP] at h
 | succ n=>
  cases x with
  | tup xs=>
   have h':ltL (ltP n) xs xs=some c:=h;rw [BL] at h';cases h'
   rfl
  | int i=>exact it h
  | str i=>exact st h
  | _=>simp [ltP] at h
theorem Lw (x:PV):ltN x x=false:=decide_eq_false (List.lt_irrefl _)
theorem IM {n:Nat} {x y:PV} {c:Bool} (h:ltP n x y=some c):ltN x y=c:=by
 by_cases e:x=y
 ·subst e;rw [IL h];exact Lw x
 ·have:=DK n x y c [] [] e h;rw [e7,e7] at this;unfold ltN;cases c with
  | true=>exact decide_eq_true (this.mpr rfl)
  | false=>exact decide_eq_false fun z=>by cases this.mp z
theorem Lx {n:Nat} {x y:PV} {c:Bool} (h:ltP n x y=some c) (e:enc x=enc y):x=y:=by
 by_cases xy:x=y
 ·exact xy
 ·have h1:=DK n x y c [0] [1] xy h;have h2:=DK n x y c [1] [0] xy h;rw [e] at h1 h2;have cut:∀ (l s t:List Int),(l++s < l++t) ↔ (s < t):=fun l s t=>by
   induction l with
   | nil=>exact Iff.rfl
   | cons a l ih=>
    show (a :: (l++_) < a :: (l++_)) ↔ _
    rw [fi,ih];constructor
    ·rintro (h1 | ⟨_,h1⟩)
     ·omega
     ·exact h1
    ·intro h1; exact .inr ⟨rfl,h1⟩
  rw [cut] at h1 h2;have t1:([0]:List Int) < [1]:=by decide
  have t2:¬ ([1]:List Int) < [0]:=by decide
  exact (t2 (h2.mpr (h1.mp t1))).elim
theorem IP {a b c:PV} (h1:ltN b a=false) (h2:ltN c b=false):ltN c a=false:=
 decide_eq_false (List.not_lt.mpr (List.le_trans (List.not_lt.mp (of_decide_eq_false h1)) (List.not_lt.mp (of_decide_eq_false h2))))
theorem IQ {a b:PV} (h:ltN a b=true):ltN b a=false:=decide_eq_false (List.lt_asymm (of_decide_eq_true h))
theorem OB {a b:PV} (h1:ltN a b=false) (h2:ltN b a=false):enc a=enc b:=
 List.le_antisymm (List.not_lt.mp (of_decide_eq_false h2)) (List.not_lt.mp (of_decide_eq_false h1))
section
variable {α:Type} (key:α->PV)
def vF (x:α):List α->List α
 | []=>[x]
 | y :: ys=>if ltN (key y) (key x) then y :: vF x ys else x :: y :: ys
def iI:List α->List α
 | []=>[]
 | x :: xs=>vF key x (iI xs)
theorem qN (x:α):∀ ys,(vF key x ys).Perm (x :: ys)
 | []=>.refl _
 | y :: ys=>by
  unfold vF;split
  ·exact ((qN x ys).cons y).trans (.swap x y ys)
  ·exact .refl _
theorem jB:∀ xs,(iI key xs).Perm xs
 | []=>.refl _
 | x :: xs=>(qN key x _).trans ((jB xs).cons x)
theorem sD (x:α):∀ {ys:List α},ys.Pairwise (fun a b=>ltN (key b) (key a)=false)->(vF key x ys).Pairwise (fun a b=>ltN (key b) (key a)=false)
 | [],_=>jy _ _
 | y :: ys,h=>by
  unfold vF;rw [jm] at h;split
  ·rename_i hlt;rw [jm];refine ⟨fun z hz=>?_,sD x h.2⟩;rcases bw.mp ((qN key x ys).mem_iff.mp hz) with rfl | hz
   ·exact IQ hlt
   ·exact h.1 z hz
  ·rename_i hlt;have hlt':ltN (key y) (key x)=false:=by simpa using hlt
   rw [jm];refine ⟨fun z hz=>?_,jm.mpr h⟩;rcases bw.mp hz with rfl | hz
   ·exact hlt'
   ·exact IP hlt' (h.1 z hz)
theorem jC:∀ xs:List α,(iI key xs).Pairwise (fun a b=>ltN (key b) (key a)=false)
 | []=>.nil
 | x :: xs=>sD key x (jC xs)
theorem yU {xs ys:List α} (inj:∀ a∈xs,∀ b∈xs,enc (key a)=enc (key b)->a=b) (hp:ys.Perm xs) (h:ys.Pairwise (fun a b=>ltN (key b) (key a)=false)):ys=iI key xs:=by
 refine List.Perm.eq_of_pairwise (le:=fun a b=>ltN (key b) (key a)=false) (fun a b ha hb h1 h2=>?_) h (jC key xs) (hp.trans (jB key xs).symm);exact inj a (hp.mem_iff.mp ha) b ((jB key xs).mem_iff.mp hb) (OB h2 h1)
end
theorem DL:∀ {xs:List PV} {ds:List D},PV.ds xs=some ds->xs.length=ds.length
 | [],ds,h=>by cases h; rfl
 | x :: xs,ds,h=>by
  obtain ⟨d,r,_,h2,rfl⟩:=cF h;simp [DL h2]
theorem IR:∀ {xs:List PV} {ds:List D} {j:Nat} {d:D},PV.ds xs=some ds->ds[j]?=some d->∃ x,xs[j]?=some x/\x.d=some d
 | [],ds,j,d,h,e=>by cases h; simp at e
 | x :: xs,ds,j,d,h,e=>by
  obtain ⟨d',r,h1,h2,rfl⟩:=cF h;cases j with
  | zero=>
   have:d'=d:=by simpa using e
   exact ⟨x,rfl,by rw [h1,this]⟩
  | succ j=>
   obtain ⟨y,a,b⟩:=IR (j:=j) h2 (by simpa using e)
   exact ⟨y,by simpa using a,b⟩
theorem kJ:∀ (n:Nat) (p:PV),p.ky n=true->p.pl n=true:=by
 intro n
 induction n with
 | zero=>intro p h; cases p <;> first | rfl | cases h
 | succ n ih=>
  intro p h;cases p with
  | tup xs=>
   show xs.all (PV.pl n)=true
   rw [cf];exact fun y hy=>ih y (cf.mp (show xs.all (PV.ky n)=true from h) y hy)
  | _=>first | rfl | cases h
theorem OC:∀ (n:Nat) {A:Around} {s:Shared} {p q:PV} {v u:Value} {b:Bool},p.ky n=true->q.ky n=true->A.units+n < cLine->HR s.heap p v->HR s.heap q u->ltP n p q=some b->Lq A s v u b:=by
 intro n;have one:∀ {A:Around} {s:Shared} {i j:Int} {v u:Value} {b:Bool},HR s.heap (.int i) v->HR s.heap (.int j) u->some (decide (i < j))=some b->Lq A s v u b:=fun {A s i j v u b} r r' e=>by
  obtain ⟨t,rfl⟩:=r;obtain ⟨t',rfl⟩:=r';cases e
  exact fun prog w E Q q=>(PyProof.Rows.lt_int q:wpAny (model prog w) A (fm .Lt _ _) Q E s)
 have two:∀ {A:Around} {s:Shared} {i j:Str} {v u:Value} {b:Bool},HR s.heap (.str i) v->HR s.heap (.str j) u->some (decide (i.cps.toList < j.cps.toList))=some b->Lq A s v u b:=fun {A s i j v u b} r r' e=>by
  obtain ⟨t,rfl⟩:=r;obtain ⟨t',rfl⟩:=r';cases e
  exact fun prog w E Q q=>(PyProof.Rows.lt_str q:wpAny (model prog w) A (fm .Lt _ _) Q E s)
 induction n with
 | zero=>
  intro A s p q v u b hp hq hu r r' e;cases p with
  | int i=>
   cases q with
   | int j=>exact one r r' e
   | _=>simp [ltP] at e
  | str i=>
   cases q with
   | str j=>exact two r r' e
   | _=>simp [ltP] at e
  | _=>cases hp
 | succ n ih=>
  intro A s p q v u b hp hq hu r r' e;cases p with
  | int i=>
   cases q with
   | int j=>exact one r r' e
   | _=>simp [ltP] at e
  | str i=>
   cases q with
   | str j=>exact two r r' e
   | _=>simp [ltP] at e
  | tup ps=>
   cases q with
   | tup qs=>
    obtain ⟨a,its,rfl,p1,rs⟩:=r;obtain ⟨a',its',rfl,p2,rs'⟩:=r';have kp:∀ z∈ps,z.ky n=true:=cf.mp hp;have kq:∀ z∈qs,z.ky n=true:=cf.mp hq;obtain ⟨d,hd,_⟩:=kH (n+1) _ (kJ _ _ hp);obtain ⟨d',hd',_⟩:=kH (n+1) _ (kJ _ _ hq);have hlt:=Nc (n+1) _ _ d d' (kJ _ _ hp) (kJ _ _ hq) hd hd';rw [e] at hlt;obtain ⟨ds,g1,rfl⟩:=bL hd;obtain ⟨es,g2,rfl⟩:=bL hd';have hb':oE ds es=some b:=by simpa [ltD] using hlt
    obtain ⟨⟨cls,dd,data,sl⟩,ho,hc,m,hdt⟩:=id p1;obtain ⟨⟨cls2,dd2,data2,sl2⟩,ho2,hc2,m2,hd2⟩:=id p2;simp only at hc hdt hc2 hd2;subst hc hdt hc2 hd2;intro prog w E Q hq';refine richCompare_meets_room (op:=.Lt) ⟨_,ho,rfl⟩ ⟨_,ho2,rfl⟩ PySem.F.slot_tuple_lt PySem.F.entry_tuple_lt (PySem.F.args_tuple_lt_2 _ _) (A9 a a' its.toArray its'.toArray m m2 dd dd2 sl sl2 ds es b hb')
     ⟨ho,ho2,⟨?_,?_,?_⟩,show Value.bool b≠Value.notImplemented/\Q (.bool b) s from ⟨(fun x=>nomatch x),hq'⟩⟩ (by omega)
    ·have l1:=rs.length;have l2:=DL g1
     show its.length=ds.length
     omega
    ·have l1:=rs'.length;have l2:=DL g2
     show its'.length=es.length
     omega
    ·intro j v u d e h1 h2 h3 h4;obtain ⟨x,hx,ex⟩:=IR g1 h3;obtain ⟨y,hy,ey⟩:=IR g2 h4;obtain ⟨v',hv,rv⟩:=rs.at hx;obtain ⟨u',hu',ru⟩:=rs'.at hy;have e1:v=v':=by
      have:its[j]?=some v:=h1;rw [hv] at this;exact (b8 this).symm
     have e2:u=u':=by
      have:its'[j]?=some u:=h2;rw [hu'] at this;exact (b8 this).symm
     subst e1 e2;have kx:=kp x (fe hx);have ky:=kq y (fe hy);have hun:A.in1.units+n < cLine:=by show A.units+1+n < cLine; omega
     refine ⟨?_,fun _ b hb=>?_⟩
     ·rw [BC n x y d e (kJ _ _ kx) (kJ _ _ ky) ex ey];exact Ds kx ky hun rv ru
     ·rw [Nc n x y d e (kJ _ _ kx) (kJ _ _ ky) ex ey] at hb;exact ih kx ky hun rv ru hb
   | _=>simp [ltP] at e
  | _=>cases hp
section
variable {prog:Program} {w:World} {A:Around} {E:Value->Shared->Prop} {s:Shared}
def IS:List PV->Prop
 | .tup _ :: _=>False
 | _=>True
theorem yV {b fin:Bool} {n:Nat} {Q:Bool->Shared->Prop} (hu:A.units+n < cLine):∀ (ps qs:List PV) (us ws:List Value) (i:Nat) (c:Bool),(∀ p∈ps,p.ky n=true)->(∀ q∈qs,q.ky n=true)->HRs s.heap ps us->HRs s.heap qs ws->ltL (ltP n) ps qs=some c->((b && i == 0)=true->IS ps)->fin=decide (ps.length < qs.length)->Q c s->KatLex prog w A b fin Q (us.zip ws) i s
 | [],[],[],[],i,c,_,_,_,_,hc,_,hf,h=>by
  cases hc
  rw [hf];exact h
 | [],q :: qs,[],u :: ws,i,c,_,_,_,_,hc,_,hf,h=>by
  cases hc
  rw [hf];exact h
 | p :: ps,[],u :: us,[],i,c,_,_,_,_,hc,_,hf,h=>by
  cases hc
  rw [hf];exact h
 | p :: ps,q :: qs,u :: us,v :: ws,i,c,kp,kq,rs,rs',hc,hn,hf,h=>by
  rw [List.zip_cons_cons];have hc':(if p=q then ltL (ltP n) ps qs else ltP n p q)=some c:=hc;have k1:=kp p ax;have k2:=kq q ax;refine kat_cons (Ds k1 k2 hu rs.1 rs'.1 prog w _ _ ?_)
  by_cases pq:p=q
  ·rw [if_pos pq] at hc';rw [decide_eq_true pq];refine kat_yes (yV hu ps qs us ws (i+1) c (fun z hz=>kp z (ao _ hz)) (fun z hz=>kq z (ao _ hz)) rs.2 rs'.2 hc' (fun z=>?_) ?_ h)
   ·cases b <;> simp at z
   ·rw [hf];simp
  ·rw [if_neg pq] at hc';rw [decide_eq_false pq];refine kat_no ?_;have gen:wpAny (model prog w) A (oneLt' false u v) Q (fun _ _=>False) s:=kat_one _ _ (OC n k1 k2 hu rs.1 rs'.1 hc' prog w _ (PySem.W.BoolBack Q) h);cases hb:(b && i == 0) with
   | false=>exact gen
   | true=>
    have hn':=hn hb;cases p with
    | tup _=>exact hn'.elim
    | int a=>
     cases q with
     | int d=>
      obtain ⟨t,rfl⟩:=rs.1;obtain ⟨t',rfl⟩:=rs'.1;have e:decide (a < d)=c:=by
       cases n <;> exact b8 hc'
      rw [<- e] at h;exact oneLt_int h
     | _=>cases n <;> simp [ltP] at hc'
    | str a=>
     cases q with
     | str d=>
      obtain ⟨t,rfl⟩:=rs.1;obtain ⟨t',rfl⟩:=rs'.1;have e:decide (a.cps.toList < d.cps.toList)=c:=by
       cases n <;> exact b8 hc'
      rw [<- e] at h;exact oneLt_str h
     | _=>cases n <;> simp [ltP] at hc'
    | _=>exact rs.1.elim
 | [],_,_ :: _,_,_,_,_,_,r,_,_,_,_,_=>r.elim
 | _ :: _,_,[],_,_,_,_,_,r,_,_,_,_,_=>r.elim
 | _,[],_,_ :: _,_,_,_,_,_,r,_,_,_,_=>r.elim
 | _,_ :: _,_,[],_,_,_,_,_,r,_,_,_,_=>r.elim
theorem IT {b:Bool} {n:Nat} {p q:PV} {v u:Value} {c:Bool} {Q:Bool->Shared->Prop} (hu:A.units+n < cLine) (kp:p.ky (n+1)=true) (kq:q.ky (n+1)=true) (tp:∃ ps,p=.tup ps/\(b=true->IS ps)) (tq:∃ qs,q=.tup qs) (r:HR s.heap p v) (r':HR s.heap q u) (hc:ltP (n+1) p q=some c) (h:Q c s):
  wpAny (model prog w) A (keyLt' (tuples' b) v u) Q E s:=by
 obtain ⟨ps,rfl,hn⟩:=tp;obtain ⟨qs,rfl⟩:=tq;obtain ⟨a,its,rfl,⟨ox,hox,_,m,dx⟩,rs⟩:=r;obtain ⟨a',its',rfl,⟨oy,hoy,_,m',dy⟩,rs'⟩:=r';refine kat_lt hox dx hoy dy ?_;have l1:=rs.length;have l2:=rs'.length;have e1:decide (its.toArray.size < its'.toArray.size)=decide (ps.length < qs.length):=by simp [l1,l2]
 rw [e1];exact yV hu ps qs its its' 0 c (cf.mp kp) (cf.mp kq) rs rs' hc (fun z=>hn (by cases b <;> simp at z; rfl)) rfl h
def fk:PV->Nat
 | .tup (.int _ :: _)=>0
 | .tup (.str _ :: _)=>1
 | .tup (.tup _ :: _)=>2
 | _=>3
def fkT (m:Nat):Value:=.type (if m=0 then "int" else if m=1 then "str" else "tuple")
theorem vG {m:Nat} (hm:m < 3):∀ {ps:List PV} {vs:List Value},HRs s.heap ps vs->(∀ p∈ps,fk p=m)->∃ fs:List Value,fs.length=vs.length/\KatTups s.heap vs fs/\∀ f∈fs,Looks (model prog w) s.heap (typeOf f) (fkT m)
 | [],[],_,_=>⟨[],rfl,KatTups.nil,fun _ hf=>nomatch hf⟩
 | p :: ps,v :: vs,r,hs=>by
  obtain ⟨fs,hl,ht,hT⟩:=vG hm r.2 fun x hx=>hs x (ao _ hx);have h0:=hs p ax;have r1:=r.1;cases p with
  | tup xs=>
   obtain ⟨a,its,rfl,⟨o,ho,hc,n,hd⟩,rx⟩:=r1;cases xs with
   | nil=>simp [fk] at h0; omega
   | cons x xs=>
    cases its with
    | nil=>exact rx.elim
    | cons f its=>
     refine ⟨f :: fs,by simp [hl],KatTups.cons ho hc hd (by simp) ht,fun g hg=>?_⟩;rcases bw.mp hg with rfl | hg
     ·have rf:=rx.1;cases x with
      | int i=>
       obtain ⟨t,rfl⟩:=rf;have:m=0:=h0.symm;subst this;exact Looks.now
      | str i=>
       obtain ⟨t,rfl⟩:=rf;have:m=1:=h0.symm;subst this;exact Looks.now
      | tup i=>
       obtain ⟨a',its',rfl,⟨o',ho',hc',n',hd'⟩,_⟩:=rf;have:m=2:=h0.symm;subst this;have:Looks (model prog w) s.heap (typeOf (.ref a')) o'.cls:=(Looks.ld ho').andThen .now;rw [hc'] at this;exact this
      | _=>exact rf.elim
     ·exact hT g hg
  | _=>simp [fk] at h0; omega
 | [],_ :: _,r,_=>r.elim
 | _ :: _,[],r,_=>r.elim
theorem Ly {m:Nat} (hm:m < 3) {ps:List PV} {vs:List Value} {Q:k6->Shared->Prop} (r:HRs s.heap ps vs) (hs:∀ p∈ps,fk p=m) (h0:0 < vs.length) (h:Q (tuples' (decide (m≠2))) s):wpAny (model prog w) A (keyKind' vs.toArray) Q E s:=by
 obtain ⟨fs,hl,ht,hT⟩:=vG (prog:=prog) (w:=w) hm r hs;refine kat_kind (T:=fkT m) ht (by omega) hT ?_ ?_
 ·match m,hm with
  | 0,_=>rfl
  | 1,_=>rfl
  | 2,_=>rfl
 ·have:((fkT m) != Value.type "tuple")=decide (m≠2):=by
   match m,hm with
   | 0,_=>rfl
   | 1,_=>rfl
   | 2,_=>rfl
  rw [this];exact h
end
structure OkN (m:Nat) (xs:List PV):Prop where
 m3:m < 3
 ky:∀ x∈xs,x.ky 20=true
 fk:∀ x∈xs,fk x=m
 lt:∀ x∈xs,∀ y∈xs,(ltP 20 x y).isSome=true
theorem OkN.inj {m:Nat} {xs:List PV} (h:OkN m xs):∀ a∈xs,∀ b∈xs,enc a=enc b->a=b:=fun a ha b hb e=>by
 obtain ⟨c,hc⟩:=k8.mp (h.lt a ha b hb);exact Lx hc e
theorem IU {m:Nat} (hm:m < 3) {p:PV} (h:fk p=m):∃ ps,p=.tup ps/\(decide (m≠2)=true->IS ps):=by
 cases p with
 | tup xs=>
  refine ⟨xs,rfl,fun hd=>?_⟩;have hd':m≠2:=of_decide_eq_true hd;cases xs with
  | nil=>trivial
  | cons x xs=>
   cases x <;> first | trivial | (exact (hd' h.symm).elim)
 | _=>simp [fk] at h; omega
theorem HRs.getD {h:Heap} {ps:List PV} {vs:List Value} (r:HRs h ps vs) {i:Nat} (hi:i < ps.length):HR h (ps.getD i .non) (vs.getD i b7):=by
 have g:ps[i]?=some (ps.getD i .non):=by simp [hi]
 obtain ⟨v,hv,hr⟩:=r.at g;have e:vs.getD i b7=v:=by simp [bg,hv]
 rw [e];exact hr
end L2
namespace L2
open PySem PySem.Spec PyProof.Rows
abbrev KP:=List Key×PV
def Nh (x:KP):List KP->List KP
 | []=>[x]
 | y :: ys=>if QB y.1 x.1=true then y :: Nh x ys else x :: y :: ys
def IV:List KP->List KP
 | []=>[]
 | x :: xs=>Nh x (IV xs)
open Classical in
noncomputable def sortBy (b:Bool) (ks ys:List PV):Option (List PV):=match Ng ks with
 | some kss=>if kss.length < 1000000/\kss.length=ys.length/\Ts kss=true/\kss.Nodup then some ((PySem.W.katRev b (IV (kss.zip ys))).map (·.2)) else none
 | none=>none
noncomputable def F2 (f:Fn) (b:Bool) (ys:List PV):List PV->List PV->PH->Rs PV
 | [],ks,h=>match sortBy b ks ys with
  | some zs=>.ok (.ref h.length) (h++[.lst zs])
  | none=>.bad
 | x :: xs,ks,h=>(f [x] h).bind fun k h1=>F2 f b ys xs (ks++[k]) h1
def IW (x:PV) (h:PH):Option (List PV):=match x with
 | .ref n=>match aS h n with
  | some ys=>some ys
  | none=>kI h n
 | .fl ys=>some ys
 | _=>none
noncomputable def IX (f:Fn) (b:Bool) (x:PV) (h:PH):Rs PV:=match IW x h with
 | some ys=>if ys.length < 1000000 then F2 f b ys ys [] h else .bad
 | none=>.bad
noncomputable def OD (f:Fn) (b:Bool) (me:Me):Me:=fun δ h=>(me δ h).bind fun x h1=>IX f b x h1
section
variable {C:MC} {k:Nat} {X:Cx}
theorem RVs.pick {φ:List Addr} {H:Hp} {xs:List PV} {vs:List V} (r:RVs C φ H xs vs):∀ {p:List Nat},(∀ i∈p,i < xs.length)->RVs C φ H (p.map fun i=>xs.getD i .non) (p.map fun i=>vs.getD i .non)
 | [],_=>trivial
 | i :: p,h=>by
  have hi:=h i ax;have g:xs[i]?=some (xs.getD i .non):=by simp [hi]
  obtain ⟨v,hv,hr⟩:=r.at g;have e:vs.getD i .non=v:=by simp [bg,hv]
  refine ⟨?_,RVs.pick r fun j hj=>h j (ao _ hj)⟩
  show RV C φ H (xs.getD i .non) (vs.getD i .non)
  rw [e];exact hr
theorem IY {pins:List (Addr×Obj)} {σ:St} {H:Hp} {s:Shared} (I:Inv X pins σ H s) {a:Addr} (ha:s.heap.objs.size<=a):X.s₀.heap.objs.size<=a/\a≠X.env.locals/\(∀ x c,X.env.cells.lookup x=some c->c≠a)/\(∀ p∈X.pn++pins,p.1≠a)/\a∉X.fs:=by
 refine ⟨gg I.sz ha,ft (bz I.lt ha),fun x c e z=>?_,fun p hp z=>?_,I.nofs ha⟩
 ·obtain ⟨v,o,ho,_⟩:=I.cell x c e;rw [z] at ho;exact absurd (bz (ak ho) ha) (fu _)
 ·have ho:=(I.pin p hp).1;rw [z] at ho;exact absurd (bz (ak ho) ha) (fu _)
theorem kK {its:Array Value} {e:Nat}:∀ v,(seqObj "list" its e).data≠.cell v:=fun v z=>nomatch z
theorem Inv.adopt {pins:List (Addr×Obj)} {σ:St} {H:Hp} {s:Shared} {a d:Addr} {o:HO} {h':Heap} (I:Inv X pins σ H s) (ha:H a=none) (hd:H d=none)
  (fa:X.s₀.heap.objs.size<=a/\a≠X.env.locals/\(∀ x c,X.env.cells.lookup x=some c->c≠a)/\(∀ p∈X.pn++pins,p.1≠a)/\a∉X.fs) (fd:X.s₀.heap.objs.size<=d/\d≠X.env.locals/\(∀ x c,X.env.cells.lookup x=some c->c≠d)/\(∀ p∈X.pn++pins,p.1≠d)/\d∉X.fs)
  (kp:∀ x u,x≠a->x≠d->s.heap.get? x=some u->h'.get? x=some u) (new:bP X.prog X.w (upd H a o) h' a o):Inv X pins σ (upd H a o) { s with heap:=h' }:=by
 have na:∀ x u,H x=some u->x≠a:=fun x u e z=>by rw [z,ha] at e; cases e
 have nd:∀ x u,H x=some u->x≠d:=fun x u e z=>by rw [z,hd] at e; cases e
 refine I.call' (s':={ s with heap:=h' }) (ch:=[a,d]) rfl ⟨fun b u q n _ hx=>?_,fun b u q n _ hx=>⟨u.slots,?_⟩,fun b u q n hx=>?_,fun b u q hx=>⟨u,?_⟩,fun b xs q=>?_,fun b u xs q=>?_,fun b ps q=>⟨#[],?_⟩⟩ (fun b u e=>?_) I.bare fun b hb=>?_
 ·exact kp b u (fun z=>hx (by simp [z])) (fun z=>hx (by simp [z])) q
 ·exact kp b u (fun z=>hx (by simp [z])) (fun z=>hx (by simp [z])) q
 ·rw [aH (fun z=>hx (by simp [z]))]; exact n
 ·exact kp b u (fun z=>hx (by simp [z])) (fun z=>hx (by simp [z])) q
 ·rw [aH (na _ _ q)]; exact q
 ·rw [aH (na _ _ q)]; exact q
 ·rw [aH (na _ _ q),q]; simp
 ·by_cases hb:b=a
  ·subst hb; rw [aK] at e; cases e; exact new
  ·rw [aH hb] at e;refine (I.hok b u e).stay (fun c v hc q=>kp c v ?_ ?_ q) (fun c q=>by rw [aH (na _ _ q)]; exact q) fun c xs q=>by rw [aH (na _ _ q)]; exact q
   ·rcases hc with z | z
    ·rw [z]; exact hb
    ·exact na _ _ z
   ·rcases hc with z | z
    ·rw [z]; exact nd _ _ e
    ·exact nd _ _ z
 ·rcases bw.mp hb with rfl | hb
  ·exact ⟨.inr fa.1,fa.2.1,fa.2.2.1,fa.2.2.2.1⟩
  ·rw [c8.mp hb];exact ⟨.inr fd.1,fd.2.1,fd.2.2.1,fd.2.2.2.1⟩
end
end L2
namespace L2
open PySem
section
variable {δ:Ev} {h:PH} {m:Me}
@[simp] theorem PL {f:Fn} {b:Bool}:OD f b m δ h=(m δ h).bind fun x h1=>IX f b x h1:=(rfl)
theorem cL {n:Nat} {kvs:List (PV×PV)} (e:bA h n=some kvs):∃ o,h[n]?=some o/\cB (.ref n) h=true/\∀ h',h'[n]?=some o->bA h' n=some kvs:=by
 unfold bA at e;split at e
 ·rename_i q; cases e; exact ⟨_,q,by simp [cB,q],fun h' e=>by simp [bA,e]⟩
 ·rename_i q; cases e; exact ⟨_,q,by simp [cB,q],fun h' e=>by simp [bA,e]⟩
 ·cases e
theorem bN {h':PH} {n:Nat} {kvs:List (PV×PV)} (x:Ext h h') (e:bA h n=some kvs):bA h' n=some kvs:=by
 obtain ⟨o,g,_,k⟩:=cL e;exact k h' (x _ _ g)
theorem OE {n:Nat} {kvs:List (PV×PV)} {xs:List PV} {z:PV} (e:bA h n=some kvs) (hk:(PV.tup xs).ky 6=true) (hl:kvs.length < 16777216):DG (.ref n) (.tup xs) z h=some (h.set n (.dD (jS kvs (.tup xs) z))):=by
 have k1:(PV.tup xs).isKt=true:=hk;have hl':kvs.length < aw:=by rw [jA]; exact hl
 unfold DG;simp only [Dv,k1,if_true,e];rw [if_pos hl']
theorem OF {n:Nat} {kvs:List (PV×PV)} {xs:List PV} (e:bA h n=some kvs) (hk:(PV.tup xs).ky 6=true):vA (.tup xs) (.ref n) h=.ok (.bl (cE kvs (.tup xs)).isSome) h:=by
 have k1:(PV.tup xs).isKt=true:=hk;have:mD (.tup xs) (.ref n) h=some (cE kvs (.tup xs)):=by simp only [mD,k1,if_true,e,Option.map_some]
 unfold vA;rw [this]
@[simp] theorem OG {xs:List PV}:qJ (.tup xs)=false:=(rfl)
@[simp] theorem OH:qJ .non=true:=(rfl)
end
section
variable {δ:Ev} {h h1:PH} {js:List (Option Nat)} {tg:Mg} {elt:Me} {g:PH->Bool}
theorem Ext.setN {h hX:PH} {o:MO} {n:Nat} (x:Ext h hX) (hn:h.length<=n):Ext h (hX.set n o):=fun m o' e=>by
 have:=(af.mp e).1;rw [cj (by omega)];exact x m o' e
theorem G7 {n m:Nat} {xs ys:List PV} (e1:h[n]?=some (.lst xs)) (e2:h[m]?=some (.lst ys)) (c:xs.length+ys.length<=16777216):bC (.ref n) (.ref m) h=.ok (.ref h.length) (h++[.lst (xs++ys)]):=by
 show HX (.ref n) (.ref m) h=_
 simp [HX,eO,e1,e2,c]
end
end L2
namespace L2
open PySem PySem.Spec PyProof.Rows
def G8 (f:Str) (p:PV):List (Str×PV)->List (Str×PV)
 | []=>[(f,p)]
 | (g,x) :: r=>if g=f then (g,p) :: r else (g,x) :: G8 f p r
def jM (x:PV) (h:PH):Option (Nat×Str×List (Str×PV)):=match x with
 | .ref n=>match h[n]? with
  | some (.ins c fs)=>some (n,c,fs)
  | _=>none
 | _=>none
def sS (f:Str):PV->PH->Rs PV:=fun x h=>match jM x h with
 | some (_,_,fs)=>match fs.lookup f with
  | some p=>.ok p h
  | none=>.bad
 | none=>.bad
def sE (f:Str) (x y:PV) (h:PH):Option PH:=match jM x h with
 | some (n,c,fs)=>if fs.length < 1000 then some (h.set n (.ins c (G8 f y fs))) else none
 | none=>none
section
variable {C:MC} {k:Nat} {X:Cx}
theorem IZ {φ:List Addr} {H:Hp} {fs:List (Str×PV)} {ks:List (Str×V)} (r:RKv C φ H fs ks) (f:Str) {p:PV} {v:V} (rv:RV C φ H p v):RKv C φ H (G8 f p fs) (iC f v ks):=by
 unfold RKv at r ⊢
 induction r with
 | nil=>exact .cons ⟨rfl,rv⟩ .nil
 | @cons a b as bs h t ih=>
  obtain ⟨a1,a2⟩:=a;obtain ⟨b1,b2⟩:=b;have e:a1=b1:=h.1;subst e;unfold G8 iC
  by_cases z:a1=f
  ·rw [if_pos z,if_pos z]; exact .cons ⟨rfl,rv⟩ t
  ·rw [if_neg z,if_neg z]; exact .cons h ih
theorem nB {φ:List Addr} {H:Hp} {fs:List (Str×PV)} {ks:List (Str×V)} (r:RKv C φ H fs ks) (f:Str):(fs.lookup f=none/\ks.lookup f=none)\/∃ p v,fs.lookup f=some p/\ks.lookup f=some v/\RV C φ H p v:=by
 unfold RKv at r
 induction r with
 | nil=>exact .inl ⟨rfl,rfl⟩
 | @cons a b as bs h t ih=>
  obtain ⟨a1,a2⟩:=a;obtain ⟨b1,b2⟩:=b;have e:a1=b1:=h.1;subst e;simp only [b6];cases z:(f == a1) with
  | true=>exact .inr ⟨a2,b2,rfl,rfl,h.2⟩
  | false=>exact ih
theorem oX {φ:List Addr} {H:Hp} {h:PH} {x:PV} {v:V} {n:Nat} {c:Str} {fs:List (Str×PV)} (rh:RH C φ H h) (rv:RV C φ H x v) (e:jM x h=some (n,c,fs)):
  ∃ a ca dx ks,x=.ref n/\v=.ref a/\φ[n]?=some a/\h[n]?=some (.ins c fs)/\C.cl c=some ca/\H a=some (.ins ca dx ks)/\RKv C φ H fs ks:=by
 unfold jM at e;cases x with
 | ref m=>
  obtain ⟨a,rfl,ha⟩:=rv;dsimp only at e;split at e
  ·rename_i c' fs' q;cases e
   obtain ⟨ca,dx,ks,h1,h2,h3⟩:=rh.at' _ a _ ha q;exact ⟨a,ca,dx,ks,rfl,rfl,ha,q,h1,h2,h3⟩
  ·cases e
 | _=>cases e
def BM (C:MC) (f:Str):Prop:=∀ c a,C.cl c=some a->Cls C.K a/\jT C.K a f
section
variable {e o value:Expr} {f:Str} {m mo mv:Me} {pos pos' tpos:Pos}
theorem F3 (hF:BM C f) (he:SE C k X e m) (hb:kj e f X.env (eval e X.env)=eval e X.env:=by rfl):SE C k X (.Attribute e f pos) (mUn (sS f) m):=fun c=>
 (NO (he c) hb).imp fun σ H Q h=>by
  obtain ⟨φ,δ,h,rh,re,p⟩:=h;refine ⟨φ,δ,h,rh,re,(post.bind p).imp ?_⟩;rintro v H1 ⟨φ1,x,h1,p1,t1,rh1,rv1,q1⟩;unfold sS at q1;cases ei:jM x h1 with
  | none=>rw [ei] at q1; exact q1.elim
  | some z=>
   obtain ⟨n,cn,fs⟩:=z;rw [ei] at q1;dsimp only at q1;obtain ⟨a,ca,dx,ks,rfl,rfl,ha,hh,hc,hH,rk⟩:=oX rh1 rv1 ei;obtain ⟨cl,na⟩:=hF cn ca hc;rcases nB rk f with ⟨l1,_⟩ | ⟨y,u,l1,l2,ru⟩
   ·rw [l1] at q1; exact q1.elim
   ·rw [l1] at q1;exact ⟨a,ca,dx,ks,u,rfl,hH,by rw [c.K]; exact cl,by rw [c.K]; exact na,l2,q1.val rh1 ru⟩
def F4 (f:Str) (mo mv:Me):Ms:=fun δ h=>(mv δ h).fl fun y h1=>(mo δ h1).fl fun x h2=>match sE f x y h2 with
 | some h3=>.nx δ h3
 | none=>.bad
theorem Lz {φ:List Addr} {H:Hp} {h h3:PH} {x y:PV} {v u:V} {D:Ends} {δ:Ev} {σ:St} (c:Cxt C k X) (hF:BM C f) (rh:RH C φ H h) (re:RE C φ H δ σ) (rx:RV C φ H x v) (ry:RV C φ H y u) (es:sE f x y h=some h3) (q:bT C φ H (.nx δ h3) D):
  ∃ a ca dx ks,v=.ref a/\H a=some (.ins ca dx ks)/\Cls X.K ca/\jT X.K ca f/\ks.length < 1000/\D.nx σ (upd H a (.ins ca dx (iC f u ks)))/\∃ n cn fs,jM x h=some (n,cn,fs)/\C.cl cn=some ca:=by
 unfold sE at es;cases ei:jM x h with
 | none=>rw [ei] at es; cases es
 | some z=>
  obtain ⟨n,cn,fs⟩:=z;rw [ei] at es;dsimp only at es;split at es
  ·rename_i hl;cases es
   obtain ⟨a,ca,dx,ks,rfl,rfl,ha,hh,hc,hH,rk⟩:=oX rh rx ei;obtain ⟨cl,na⟩:=hF cn ca hc;have kp:Kp H (upd H a (.ins ca dx (iC f u ks))):=Kp.upd (by rw [hH]; trivial);refine ⟨a,ca,dx,ks,rfl,hH,by rw [c.K]; exact cl,by rw [c.K]; exact na,by rw [<- d5 rk]; exact hl,?_⟩;refine ⟨q φ σ _ ai kp (rh.write ha (by rw [hH]; trivial) ⟨ca,dx,_,hc,aK,?_⟩) (re.mono ai kp),n,cn,fs,rfl,hc⟩;exact (IZ rk f ry).mono ai kp
  ·cases es
theorem R8 (hF:BM C f) (hv:SE C k X value mv) (ho:SE C k X o mo) (hs:swapsWith value (some (.Attribute o f pos')) pos.line X.env=pure false:=by rfl):SSt C k X (.Assign [.Attribute o f pos'] value pos) (F4 f mo mv):=fun c=>
 (NP (ho c) (hv c) hs).imp fun D σ H h=>by
  obtain ⟨φ,δ,h,rh,re,p⟩:=h;refine ⟨φ,δ,h,rh,re,(post.fl p).imp ?_⟩;rintro u H1 ⟨φ1,y,h1,p1,t1,rh1,rv1,q1⟩;refine ⟨φ1,δ,h1,rh1,re.mono p1 t1,(post.fl q1).imp ?_⟩;rintro v H2 ⟨φ2,x,h2,p2,t2,rh2,rv2,q2⟩;cases es:sE f x y h2 with
  | none=>rw [es] at q2; exact q2.elim
  | some h3=>
   rw [es] at q2;obtain ⟨a,ca,dx,ks,g1,g2,g3,g4,g5,g6,_⟩:=Lz c hF rh2 ((re.mono p1 t1).mono p2 t2) rv2 (rv1.mono p2 t2) es q2;exact ⟨a,ca,dx,ks,g1,g2,g3,g4,g5,g6⟩
end
def J1 (C:MC) (X:Cx) (k:Nat) (m:Str) (n:Nat) (tb:Str->Option Fn):Prop:=∀ c a f,C.cl c=some a->tb c=some f->
 ∃ g fd ps j,Cls C.K a/\nR C.K a m g/\j<=k/\aU X.prog X.w C.K X.mg X.base CX0 j g fd ps (spM C (n+1) f)/\Binds C.K fd ps []
theorem nC {m:Str} {n:Nat}:J1 C X k m n (fun _=>none):=fun _ _ _ _ h=>nomatch h
theorem jD {m c:Str} {n j:Nat} {a g:Addr} {fd:dq} {ps:List Str} {f:Fn} {tb:Str->Option Fn} (hc:C.cl c=some a) (hC:Cls C.K a) (me:nR C.K a m g) (hj:j<=k) (G:aU X.prog X.w C.K X.mg X.base CX0 j g fd ps (spM C (n+1) f)) (B:Binds C.K fd ps []) (r:J1 C X k m n tb):
  J1 C X k m n (fun z=>if z=c then some f else tb z):=fun c' a' f' h1 h2=>by
 have h2':(if c'=c then some f else tb c')=some f':=h2
 by_cases e:c'=c
 ·subst e;rw [hc] at h1;cases h1
  rw [if_pos rfl] at h2';cases h2'
  exact ⟨g,fd,ps,j,hC,me,hj,G,B⟩
 ·rw [if_neg e] at h2';exact r c' a' f' h1 h2'
def eE (m:Str) (n:Nat) (tb:Str->Option Fn) (mo:Me) (ms:Ma):Me:=fun δ h=>(mo δ h).bind fun x h1=>match jM x h1 with
 | some (_,c,fs)=>match tb c,fs.lookup m with
  | some f,none=>(ms δ h1).bind fun ps h2=>if ps.length=n then f (x :: ps) h2 else .bad
  | _,_=>.bad
 | none=>.bad
section
variable {o e:Expr} {es:List Expr} {m:Str} {n:Nat} {tb:Str->Option Fn} {mo:Me} {ms:Ma} {pos apos:Pos} {pl:Sem Bool}
theorem Ab (hM:J1 C X k m n tb) (ho:SE C k X o mo) (ha:SA C k X (e :: es) ms) (hst:b0 (e :: es) X.env=(false,eval e X.env) :: b0 es X.env:=by rfl) (hpl:(backTo pos (b0 es X.env)).any (·.1)=false:=by rfl)
  (ht:eval (.Call (.Attribute o m apos) (e :: es) [] pos) X.env=(do
   let ov <- eval o X.env
   standAt apos.atName
   let (f,first) <- holding [ov] (getMethod ov m pl)
   callWith pos f first (backTo pos (b0 (e :: es) X.env)) (backToKw pos (keywordEach [] X.env))):=by rfl):
  SE C k X (.Call (.Attribute o m apos) (e :: es) [] pos) (eE m n tb mo ms):=fun c pins s σ H Q I h=>by
 obtain ⟨φ,δ,h,rh,re,p⟩:=h
 refine PySem.W.methodCall_KW (pl:=pl) (thn (ho c pins s σ H _ I ⟨φ,δ,h,rh,re,post.bind p⟩) fun u s1 hh=>?_) ht
 obtain ⟨v,H1,I1,ru,φ1,x,h1,p1,t1,rh1,rv1,q1⟩:=hh
 cases ei:jM x h1 with
 | none=>rw [ei] at q1; exact q1.elim
 | some z=>
  obtain ⟨n',cn,fs⟩:=z
  rw [ei] at q1
  dsimp only at q1
  obtain ⟨a,ca,dx,ks,rfl,rfl,hφ,hh,hc,hH,rk⟩:=oX rh1 rv1 ei
  cases et:tb cn with
  | none=>rw [et] at q1; exact q1.elim
  | some f=>
   rw [et] at q1
   rcases nB rk m with ⟨l1,l2⟩ | ⟨y,u',l1,_⟩
   ·rw [l1] at q1
    dsimp only at q1
    obtain ⟨g,fd,ps,j,cl,me,hj,F,bd⟩:=hM cn ca f hc et
    have cl':Cls X.K ca:=by rw [c.K]; exact cl
    have me':nR X.K ca m g:=by rw [c.K]; exact me
    have F':aU X.prog X.w X.K X.mg X.base CX0 j g fd ps (spM C (n+1) f):=by rw [c.K]; exact F
    have bd':Binds X.K fd ps []:=by rw [c.K]; exact bd
    cases ru
    refine tT I1 hH cl' me' l2 ?_
    refine PySem.W.callWith_K (first:=[.ref a]) (h₀:=X.base) I.ok.mod.kin me'.kp (thn (ha c pos pins s1 σ H1 _ I1 ⟨φ1,δ,h1,rh1,re.mono p1 t1,postA.bind q1⟩) fun us s2 h2=>?_) hst hpl
    obtain ⟨vs,H2,I2,r2,φ2,zs,h3,p2,t2,rh2,rv2,q2⟩:=h2
    obtain ⟨hl,q2⟩:=q2.ite
    refine ⟨I2.kIn,?_⟩
    exact D6 (us:=.ref a :: us) (vs:=.ref a :: vs) F' (c.room.mono hj) bd' .nil ED I2 (.cons rfl r2) ⟨φ2,h3,.ref n' :: zs,rh2,⟨⟨a,rfl,fX p2 hφ⟩,(by show RVs C φ2 H2 zs (vs++[]); rw [e7]; exact rv2)⟩,by simp [hl],q2⟩
   ·rw [l1] at q1; exact q1.elim
theorem Ac (hM:J1 C X k m 0 tb) (ho:SE C k X o mo)
  (ht:eval (.Call (.Attribute o m apos) [] [] pos) X.env=(do
   let ov <- eval o X.env
   standAt apos.atName
   let (f,first) <- holding [ov] (getMethod ov m pl)
   callWith pos f first (backTo pos (b0 [] X.env)) (backToKw pos (keywordEach [] X.env))):=by rfl):
  SE C k X (.Call (.Attribute o m apos) [] [] pos) (eE m 0 tb mo aE):=fun c pins s σ H Q I h=>by
 obtain ⟨φ,δ,h,rh,re,p⟩:=h
 refine PySem.W.methodCall_KW (pl:=pl) (thn (ho c pins s σ H _ I ⟨φ,δ,h,rh,re,post.bind p⟩) fun u s1 hh=>?_) ht
 obtain ⟨v,H1,I1,ru,φ1,x,h1,p1,t1,rh1,rv1,q1⟩:=hh
 cases ei:jM x h1 with
 | none=>rw [ei] at q1; exact q1.elim
 | some z=>
  obtain ⟨n',cn,fs⟩:=z
  rw [ei] at q1
  dsimp only at q1
  obtain ⟨a,ca,dx,ks,rfl,rfl,hφ,hh,hc,hH,rk⟩:=oX rh1 rv1 ei
  cases et:tb cn with
  | none=>rw [et] at q1; exact q1.elim
  | some f=>
   rw [et] at q1
   rcases nB rk m with ⟨l1,l2⟩ | ⟨y,u',l1,_⟩
   ·rw [l1] at q1
    dsimp only at q1
    obtain ⟨g,fd,ps,j,cl,me,hj,F,bd⟩:=hM cn ca f hc et
    have cl':Cls X.K ca:=by rw [c.K]; exact cl
    have me':nR X.K ca m g:=by rw [c.K]; exact me
    have F':aU X.prog X.w X.K X.mg X.base CX0 j g fd ps (spM C (0+1) f):=by rw [c.K]; exact F
    have bd':Binds X.K fd ps []:=by rw [c.K]; exact bd
    cases ru
    refine tT I1 hH cl' me' l2 ?_
    have q2:post C φ1 H1 (f [.ref n'] h1) Q:=q1
    exact PySem.W.callWith_K0 (first:=[.ref a]) I1.kIn me'.kp (D6 (us:=[.ref a]) (vs:=[.ref a]) F' (c.room.mono hj) bd' .nil ED I1 (.cons rfl .nil) ⟨φ1,h1,[.ref n'],rh1,⟨⟨a,rfl,hφ⟩,trivial⟩,rfl,q2⟩)
   ·rw [l1] at q1; exact q1.elim
end
def J2 (cn:Str) (n:Nat) (f:Fn) (ms:Ma):Me:=fun δ h=>(ms δ h).bind fun ps h1=>if ps.length=n then (f (.ref h1.length :: ps) (h1++[.ins cn []])).bind fun v h2=>(match v with
 | .non=>.ok (.ref h1.length) h2
 | _=>.bad) else .bad
section
variable {x cn:Str} {ca f:Addr} {fd:dq} {ps:List Str} {j n:Nat} {fn:Fn} {e:Expr} {es:List Expr} {ms:Ma} {p pos:Pos}
theorem LA {φ:List Addr} {H:Hp} {h:PH} {zs:List PV} {vs:List V} {Q:VK} (hc:C.cl cn=some ca) (rh:RH C φ H h) (rv:RVs C φ H zs vs)
  (q:post C φ H (if zs.length=n then (fn (.ref h.length :: zs) (h++[.ins cn []])).bind fun v h2=>(match v with | .non=>Rs.ok (.ref h.length) h2 | _=>.bad) else .bad) Q):
  ∀ y dx,H y=none->H dx=none->dx≠y->spM C (n+1) fn (.ref y :: (vs++[])) (upd (upd H dx (.own y)) y (.ins ca dx [])) (fun v H2=>v=.non/\Q (.ref y) H2) E0:=fun y dx hy hd ne=>by
 obtain ⟨hl,q⟩:=q.ite;have hy':(upd H dx (.own y)) y=none:=by rw [aH (ik ne)]; exact hy
 have k1:Kp H (upd H dx (.own y)):=Kp.new hd;have k2:Kp (upd H dx (.own y)) (upd (upd H dx (.own y)) y (.ins ca dx [])):=Kp.new hy';have rh2:RH C (φ++[y]) (upd (upd H dx (.own y)) y (.ins ca dx [])) (h++[.ins cn []]):=(rh.aside hd).new hy' ⟨ca,dx,[],hc,aK,.nil⟩;have rvy:RV C (φ++[y]) (upd (upd H dx (.own y)) y (.ins ca dx [])) (.ref h.length) (.ref y):=⟨y,rfl,by rw [<- rh.len]; simp⟩;refine ⟨φ++[y],h++[.ins cn []],.ref h.length :: zs,rh2,⟨rvy,by rw [e7]; exact rv.mono (dj _ _) (k1.trans k2)⟩,by simp [hl],?_⟩;refine (post.bind (post.weak (dj _ [y]) (k1.trans k2) q)).imp ?_;rintro v H2 ⟨φ2,pv,h2,p2,t2,rh3,rv3,q3⟩;cases pv with
 | non=>cases rv3; exact ⟨rfl,q3.val rh3 (rvy.mono p2 t2)⟩
 | _=>exact q3.elim
theorem LB (hc:C.cl cn=some ca) (M:Mk C.K ca f) (F:aU X.prog X.w C.K X.mg X.base CX0 j f fd ps (spM C (0+1) fn)) (hm:X.mg x=some (.ref ca)) (bd:Binds C.K fd ps []) (hj:j+1<=k:=by decide) (hg:Gl X x:=by rfl)
  (hdb:(x == ("__debug__" : Str))=false:=by decide):SE C k X (.Call (.Name x p) [] [] pos) (J2 cn 0 fn aE):=fun c=>by
 have M':Mk X.K ca f:=by rw [c.K]; exact M
 have F':aU X.prog X.w X.K X.mg X.base CX0 j f fd ps (spM C (0+1) fn):=by rw [c.K]; exact F
 have bd':Binds X.K fd ps []:=by rw [c.K]; exact bd
 refine (Hm M' F' (c.room.mono hj) hg hm bd' .nil ED hdb).imp fun σ H Q h=>?_;obtain ⟨φ,δ,h,rh,re,po⟩:=h;exact LA (zs:=[]) hc rh trivial po
end
end
def oY (x y v:PV) (h:PH):Option PH:=match x,y with
 | .ref n,.int i=>match eO h n with
  | some xs=>match ixN xs.length i with
   | some j=>some (h.set n (.lst (xs.set j v)))
   | none=>none
  | none=>DG x y v h
 | _,_=>DG x y v h
def BN (mv mo mi:Me):Ms:=fun δ h=>(mv δ h).fl fun v h1=>(mo δ h1).fl fun x h2=>(mi δ h2).fl fun y h3=>match oY x y v h3 with
 | some h4=>.nx δ h4
 | none=>.bad
def R9:List PV->PH->Rs PV:=fun xs h=>match xs with
 | [.bl b]=>.ok (.int (if b then 1 else 0)) h
 | [.int i]=>.ok (.int i) h
 | _=>.bad
section
variable {C:MC} {k:Nat} {X:Cx}
theorem DM {φ:List Addr} {H:Hp} {h h':PH} {px py pv:PV} {x y v:V} (c:Cxt C k X) (rh:RH C φ H h) (rx:RV C φ H px x) (ry:RV C φ H py y) (rv:RV C φ H pv v) (e:oY px py pv h=some h') {pins:List (Addr×Obj)} {σ:St} {s:Shared} {xu yu vu:Value}
  {Q:Unit->Shared->Prop} (I:Inv X pins σ H s) (rxu:RelV x xu) (ryu:RelV y yu) (rvu:RelV v vu) (q:∀ s' H',Inv X pins σ H' s'->Kp H H'->RH C φ H' h'->Q () s'):wpAny (model X.prog X.w) X.A (setItem xu yu vu) Q X.xe s:=by
 unfold oY at e;split at e
 ·rename_i n i;split at e
  ·rename_i xs el;split at e
   ·rename_i j ej;cases e
    obtain ⟨a,rfl,ha⟩:=rx;cases ry
    obtain ⟨ws,hH,rw'⟩:=rh.at' n a _ ha (iE el);refine thn (set_list pins s σ H (.ref a) (.int i) v xu yu vu (fun H'=>H'=upd H a (.lst (ws.set j v))) I rxu ryu rvu ⟨a,ws,i,j,rfl,rfl,hH,by rw [<- rw'.length]; exact ej,rfl⟩) ?_;rintro _ s' ⟨H',I',rfl⟩;refine q s' _ I' (Kp.lst hH) (rh.write ha (by rw [hH]; trivial) ⟨_,aK,(RVs.set rv j rw').mono ai (Kp.lst hH)⟩)
   ·cases e
  ·exact yS c rh rx ry rv e I rxu ryu rvu q
 ·exact yS c rh rx ry rv e I rxu ryu rvu q
theorem J3 {o i value:Expr} {pos pos':Pos} {mv mo mi:Me} (hv:SE C k X value mv) (ho:SE C k X o mo) (hi:SE C k X i mi) (hs:swapsWith value (some (.Subscript o i pos')) pos.line X.env=pure false:=by rfl):
  SSt C k X (.Assign [.Subscript o i pos'] value pos) (BN mv mo mi):=fun c pins s σ H D I ⟨φ,δ,h,rh,re,p⟩=>by
 refine wpAny_Assign_Subscript (thn (hv c pins s σ H _ I ⟨φ,δ,h,rh,re,post.fl p⟩) ?_) hs;rintro vu s1 ⟨v,H1,I1,rvu,φ1,pv,h1,p1,t1,rh1,rv1,q1⟩;refine thn (ho c pins s1 σ H1 _ I1 ⟨φ1,δ,h1,rh1,re.mono p1 t1,post.fl q1⟩) ?_;rintro xu s2 ⟨x,H2,I2,rxu,φ2,px,h2,p2,t2,rh2,rv2,q2⟩;refine thn (hi c pins s2 σ H2 _ I2 ⟨φ2,δ,h2,rh2,(re.mono p1 t1).mono p2 t2,post.fl q2⟩) ?_;rintro yu s3 ⟨y,H3,I3,ryu,φ3,py,h3,p3,t3,rh3,rv3,q3⟩;cases e:oY px py pv h3 with
 | none=>rw [e] at q3; exact q3.elim
 | some h4=>
  rw [e] at q3;exact DM c rh3 (rv2.mono p3 t3) rv3 ((rv1.mono p2 t2).mono p3 t3) e I3 rxu ryu rvu fun s' H' I' kp rh'=>⟨σ,H',I',q3 φ3 σ H' ai kp rh' ((((re.mono p1 t1).mono p2 t2).mono p3 t3).mono ai kp)⟩
end
section
variable {δ:Ev} {h:PH} {m mo mv:Me} {E:FE}
theorem vH {n:Nat} {c:Str} {fs:List (Str×PV)} (e:h[n]?=some (.ins c fs)):jM (.ref n) h=some (n,c,fs):=by simp [jM,e]
theorem Ad {n:Nat} {c f:Str} {fs:List (Str×PV)} {p:PV} (e:h[n]?=some (.ins c fs)) (l:fs.lookup f=some p):sS f (.ref n) h=.ok p h:=by simp [sS,vH e,l]
theorem J4 {n:Nat} {c f:Str} {fs:List (Str×PV)} {p:PV} (e:h[n]?=some (.ins c fs)) (l:fs.length < 1000):sE f (.ref n) p h=some (h.set n (.ins c (G8 f p fs))):=by simp [sE,vH e,l]
@[simp] theorem Tt {f:Str}:(F4 f mo mv δ h).W E=(mv δ h).W fun y h1=>(mo δ h1).W fun x h2=>∃ h3,sE f x y h2=some h3/\E.nx δ h3:=by
 unfold F4;rw [G5]
 congr 1
 funext y h1
 rw [G5]
 congr 1
 funext x h2
 cases e:sE f x y h2 <;> simp
@[simp] theorem R' {cn:Str} {n:Nat} {f:Fn} {ms:Ma}:J2 cn n f ms δ h=(ms δ h).bind fun ps h1=>if ps.length=n then (f (.ref h1.length :: ps) (h1++[.ins cn []])).bind fun v h2=>(match v with | .non=>.ok (.ref h1.length) h2 | _=>.bad) else .bad:=(rfl)
theorem J5 {mm:Str} {n k:Nat} {tb:Str->Option Fn} {ms:Ma} {h1:PH} {c:Str} {fs:List (Str×PV)} {f:Fn} (e:mo δ h=.ok (.ref k) h1) (g:h1[k]?=some (.ins c fs)) (t:tb c=some f) (l:fs.lookup mm=none):
  eE mm n tb mo ms δ h=(ms δ h1).bind fun ps h2=>if ps.length=n then f (.ref k :: ps) h2 else .bad:=by
 unfold eE;rw [e,Rs.bind_ok,vH g];simp only [t,l]
@[simp] theorem Tu {mi:Me}:(BN mv mo mi δ h).W E=(mv δ h).W fun v h1=>(mo δ h1).W fun x h2=>(mi δ h2).W fun y h3=>∃ h4,oY x y v h3=some h4/\E.nx δ h4:=by
 unfold BN;rw [G5]
 congr 1
 funext v h1
 rw [G5]
 congr 1
 funext x h2
 rw [G5]
 congr 1
 funext y h3
 cases e:oY x y v h3 <;> simp
@[simp] theorem Ra {b:Bool}:R9 [.bl b] h=.ok (.int (if b then 1 else 0)) h:=(rfl)
end
def Rb:List Int->Int
 | []=>0
 | [x]=>x
 | x :: y :: r=>max x (Rb (y :: r))
def Rc:List Int->Int
 | []=>0
 | [x]=>x
 | x :: y :: r=>min x (Rc (y :: r))
def Re:List PV->PH->Rs PV:=fun xs h=>match xs with
 | [.ref n]=>match aS h n with
  | some ys=>match Iz ys with
   | some (a :: ns)=>.ok (.int (Rb (a :: ns))) h
   | _=>.bad
  | none=>.bad
 | _=>QK xs h
def Rf:List PV->PH->Rs PV:=fun xs h=>match xs with
 | [.ref n]=>match aS h n with
  | some ys=>match Iz ys with
   | some (a :: ns)=>.ok (.int (Rc (a :: ns))) h
   | _=>.bad
  | none=>.bad
 | _=>QM xs h
section
variable {h:PH}
@[simp] theorem PM {i j:Int}:Re [.int i,.int j] h=.ok (.int (if j > i then j else i)) h:=(rfl)
@[simp] theorem PN {i j:Int}:Rf [.int i,.int j] h=.ok (.int (if j < i then j else i)) h:=(rfl)
end
theorem Ae:typeLookup (.type "list") "keys" = pure none:=by rw [typeLookup_type,builtinLookup_eq_fast]; kernel_rfl
theorem Af {prog:Program} {w:World} {A:Around} {E:Value->Shared->Prop} {s:Shared} {a:Addr} {o:Obj} {xs:Array Value} {k:Nat} {Q:Option Value->Shared->Prop}
  (hx:s.heap.get? a=some o) (hc:o.cls=.type "list") (hdat:o.data=.seq xs k) (hd:o.dict=none) (hA:A.handled=none)
  (h:∀ h' tk,(∀ b u,s.heap.get? b=some u->h'.get? b=some u)->Q none { s with heap:=h',toks:=tk }):wpAny (model prog w) A (getAttr? (.ref a) "keys") Q E s:=by
 obtain ⟨c,dct,dat,sl⟩:=o;simp only at hc hdat hd;subst hc hdat hd;obtain ⟨hp,g,d,tk,os⟩:=s;have hT:∀ tk',(⟨hp,g,d,tk',os⟩:Shared).TypeIs (.ref a) "list" := fun _=>⟨_,hx,rfl⟩;have f1:=sub_AttributeError;have f3:=F.slot_list_getattribute.lookup;have f4:=F.slot_list_getattribute.bind (.ref a);have f5:=am_list_getattr_none;unfold getAttr? getAttrBy? getAttrBy
 repeat (any_goals (first | assumption | exact hT _ | ((with_reducible show wpAny _ _ (call (Value.builtin "list.__getattribute__") _ _) _ _ _); refine call_meets F.slot_list_getattribute (hT _) am_entry_list_getattribute (F.args_list_getattribute_2 _ _) (meets_getattribute_miss_list a xs k sl "keys" _ Ae (by decide) (by size_fits)) ⟨hx,hA,fun h' tk' e hx'=>?_⟩) | wp_step))
 obtain ⟨t',u',he⟩:=hx'.there
 show wpAny _ _ (getattributeRaised _ _ _ _ _ _ _) _ _ _
 unfold getattributeRaised
 repeat (any_goals (first | assumption | wp_step))
 exact h _ _ hx'.of.keeps
section
variable {prog:Program} {w:World} {K:Type} [DecidableEq K] {knd:HeapKind prog w K} {A:Around} {R:Result->Shared->Prop}
def BO (xs:List (K×Addr×Value)) (ps:List (Addr×K×Addr×Value)):List (K×Addr×Value):=ps.foldl (fun acc p=>storedH acc p.2.1 p.2.2.1 p.2.2.2) xs
theorem sF (xs:List (K×Addr×Value)) (k:K) (a:Addr) (v:Value):(storedH xs k a v).length<=xs.length+1:=by
 unfold storedH;split
 ·rw [ar]; omega
 ·simp
theorem BP {xs:List (K×Addr×Value)} {k:K} {a:Addr} {v:Value} {x:K×Addr×Value} (h:x∈storedH xs k a v):(∃ y∈xs,x.1=y.1/\x.2.1=y.2.1)\/(x.1=k/\x.2.1=a):=by
 unfold storedH at h;split at h
 ·obtain ⟨y,hy,rfl⟩:=dt.mp h;refine .inl ⟨y,hy,?_,?_⟩
  ·unfold putAt; split <;> rfl
  ·unfold putAt; split <;> rfl
 ·rcases bh.mp h with h | h
  ·exact .inl ⟨x,h,rfl,rfl⟩
  ·rw [c8.mp h]; exact .inr ⟨rfl,rfl⟩
theorem BQ {I d:Addr} {fp wr:List Addr} {n:Nat} {P:Nat->Value->Prop} {St:Nat->Heap->Prop} (W:Walks prog w A.in1 I fp wr n P St) (hd:d∉fp) (hu:knd.room A.in1) (ps:List (Addr×K×Addr×Value)) (hn:ps.length=n)
  (hP:∀ i v,P i v->∃ p,ps[i]?=some p/\v=.ref p.1) (h0:Heap) (hw0:∀ b u,h0.get? b=some u->b∉wr/\b≠d)
  (hk:∀ h',(∀ b u,h0.get? b=some u->h'.get? b=some u)->∀ p∈ps,knd.is h' p.2.1 p.2.2.1/\IsTup h' p.1 #[.ref p.2.2.1,p.2.2.2]) (res:Value):
  ∀ (m i:Nat) (s:Shared) (xs:List (K×Addr×Value)),n - i=m->i<=n->St i s.heap->s.heap.DictOfH knd d xs->(∀ x∈xs,∃ p∈ps,x.1=p.2.1/\x.2.1=p.2.2.1)->xs.length+n<=aw+i->(∀ b u,h0.get? b=some u->s.heap.get? b=some u)->
  (∀ h' tk,h'.DictOfH knd d (BO xs (ps.drop i))->(∀ b u,h0.get? b=some u->h'.get? b=some u)->R (.ok (.ret res)) { s with heap:=h',toks:=tk })->
  codeAny (model prog w) A (.builtin "dict.update.loop" ⟨[.ref d,.ref I,rawInt i,res],[]⟩) R s:=by
 have hdw:d∉wr:=fun h=>hd (W.sub _ h);intro m
 induction m with
 | zero=>
  intro i s xs hm hi hst hdt hxs hz hit hR;have hin:i=n:=by omega
  subst hin;refine ka fI ?_;rw [gu bQ _]
  show wpAny _ A.in1 (pyNext (.ref I) >>= _) _ _ s
  refine aa (W.done s _ _ hst fun h' tk hk'=>?_)
  show wpAny _ A.in1 (Builtin.Dict.addKeywords d [] >>= _) _ _ _
  have h00:∀ b u,h0.get? b=some u->h'.get? b=some u:=fun b u e=>hk' b u (hw0 b u e).1 (hit b u e);have hfin:=hR h' tk (by
   rw [m7 (by omega)];obtain ⟨o,es,ep,h1,h2,h3,h4,h5,h6⟩:=hdt;refine ⟨o,es,ep,hk' d _ hdw h1,h2,h3,h4,fun x hx=>?_,h6⟩;obtain ⟨p,hp,e1,e2⟩:=hxs x hx;rw [e1,e2];exact (hk h' h00 p hp).1) h00
  exact aa (ab (ab hfin))
 | succ m ih=>
  intro i s xs hm hi hst hdt hxs hz hit hR;have hlt:i < n:=by omega
  refine ka fI ?_;rw [gu bQ _]
  show wpAny _ A.in1 (pyNext (.ref I) >>= _) _ _ s
  refine aa (W.item i s _ _ hlt hst fun v h' tk hPv hst' hk'=>?_);obtain ⟨p,hp,rfl⟩:=hP i v hPv;have hpm:=fe hp;have h00:∀ b u,h0.get? b=some u->h'.get? b=some u:=fun b u e=>hk' b u (hw0 b u e).1 (hit b u e);obtain ⟨hki,ob,hb1',hb2,nn,hb3⟩:=hk h' h00 p hpm;have hTy:({ s with heap:=h',toks:=tk }:Shared).TypeIs (.ref p.1) "tuple" := ⟨ob,hb1',hb2⟩;have hdt':h'.DictOfH knd d xs:=by
   obtain ⟨o,es,ep,h1,h2,h3,h4,h5,h6⟩:=hdt;refine ⟨o,es,ep,hk' d _ hdw h1,h2,h3,h4,fun x hx=>?_,h6⟩;obtain ⟨p,hp,e1,e2⟩:=hxs x hx;rw [e1,e2];exact (hk h' h00 p hp).1
  refine aa (gp (aa (wpAny_tryCatch ?_)));unfold Builtin.Dict.pairItems;refine aa (nc hTy ?_);rw [if_pos (by decide)];refine aa (i7 hb1' hb3 (ab ?_))
  show wpAny _ _ (holding [.ref p.2.2.1,p.2.2.2] (dictSet d (.ref p.2.2.1) p.2.2.2)) _ _ _
  refine gp (wpAny_dictSet_heap (hsz:=by omega) hu hki hdt' fun h2 hd2 hs2=>?_);refine ab ⟨mx bQ _,?_⟩;have st2:St (i+1) h2:=W.frame (i+1) h' h2 hst' fun b hb o e=>(hs2.2 b (fun z=>hd (z ▸ hb))).trans e;refine ih (i+1) _ (storedH xs p.2.1 p.2.2.1 p.2.2.2) (by omega) hlt st2 hd2 (fun x hx=>?_) ?_ (fun b u e=>(hs2.2 b (hw0 b u e).2).trans (h00 b u e)) fun h3 tk3 hd3 hk3=>?_
  ·rcases BP hx with ⟨y,hy,e1,e2⟩ | ⟨e1,e2⟩
   ·rw [e1,e2]; exact hxs y hy
   ·exact ⟨p,hpm,e1,e2⟩
  ·have:=sF xs p.2.1 p.2.2.1 p.2.2.2;omega
  ·refine hR h3 tk3 ?_ hk3;have hdr:ps.drop i=p :: ps.drop (i+1):=by
    obtain ⟨hl,e⟩:=af.mp hp;rw [di hl,e]
   rw [hdr];exact hd3
theorem sT {E:Value->Shared->Prop} {s:Shared} {a:Addr} {o:Obj} {k:Nat} {ps:List (Addr×K×Addr×Value)} {Q:Value->Shared->Prop} (hA:A.handled=none) (hu:knd.room A.in1.in1) (hx:s.heap.get? a=some o) (hc:o.cls=.type "list") (hdat:o.data=.seq (ps.map fun p=>bx p.1).toArray k) (hd:o.dict=none)
  (hk:∀ h',(∀ b u,s.heap.get? b=some u->h'.get? b=some u)->∀ p∈ps,knd.is h' p.2.1 p.2.2.1/\IsTup h' p.1 #[.ref p.2.2.1,p.2.2.2]) (hz:ps.length<=aw)
  (h:∀ h' tk,h'.DictOfH knd s.heap.objs.size (BO [] ps)->(∀ b u,s.heap.get? b=some u->h'.get? b=some u)->Q (.ref s.heap.objs.size) { s with heap:=h',toks:=tk }):
  wpAny (model prog w) A (call (.type "dict") [.ref a]) Q E s:=by
 refine callType_codes (Q₁:=fun obj s₁=>obj=.ref s.heap.objs.size/\s₁={ s with heap:=s.heap.push { cls:=.type "dict",data:=.dict #[] } }) F.kt_called_dict (F.kt_typeCall_dict_1 _) F.entry_dict_init (kt_code_dict_new _ ⟨rfl,rfl⟩) ?_;rintro obj s₁ ⟨rfl,rfl⟩;have hnew:(s.heap.push { cls:=.type "dict",data:=.dict #[] }).DictOfH knd s.heap.objs.size []:=Heap.DictOfH.new s.heap;have up:∀ b u,s.heap.get? b=some u->(s.heap.push { cls:=.type "dict",data:=.dict #[] }).get? b=some u:=fun b u e=>ae _ e;have hTa:({ s with heap:=s.heap.push { cls:=.type "dict",data:=.dict #[] } }:Shared).TypeIs (.ref a) "list" := ⟨o,up _ _ hx,hc⟩;refine ⟨hnew.typeIs,F.args_dict_init_2 _ _,?_⟩;unfold Builtin.«dict.__init__»;refine aa ?_; unfold Builtin.Dict.selfAndRest;refine aa (kn hnew.typeIs (show wpAny _ _ (pure (s.heap.objs.size,[bx a])) _ _ _ from ab ?_))
 show wpAny _ _ (my "dict.__init__" s.heap.objs.size (.ref a) [] .none) _ _ _
 unfold my;refine aa (nc hTa ?_);rw [if_pos (by decide)];refine aa (Af (up _ _ hx) hc hdat hd hA fun h1 tk1 kp1=>?_);rw [if_pos (by rfl)];refine aa (m5 ?_);have ha1:h1.IsList a (ps.map fun p=>bx p.1).toArray:=⟨o,kp1 _ _ (up _ _ hx),hc,k,hdat⟩;refine aa (wpAny_pyIter_list (s:={ s with heap:=h1,toks:=tk1 }) ha1 (ab ⟨mx bQ _,?_⟩));have lt0:s.heap.objs.size < h1.objs.size:=by
  have:=kp1 s.heap.objs.size _ (aj s.heap rfl);exact ak this
 have hlt:∀ b u,s.heap.get? b=some u->b < s.heap.objs.size:=fun b u e=>ak e;have ha0:=hlt _ _ hx;refine BQ (knd:=knd) (fp:=[h1.objs.size,a]) (wr:=[h1.objs.size]) (n:=(ps.map fun p=>bx p.1).toArray.size) (Walks.list (A:=A.in1.in1) hA h1.objs.size a (ba (o8 ha0 lt0)) (ps.map fun p=>bx p.1).toArray) ?_ hu ps (by simp) (fun i v e=>?_) s.heap (fun b u e=>?_) hk .none _ 0 _ [] (jf _) (d4 _) ?_ ?_ (fun x hx=>nomatch hx) (by simpa using hz) (fun b u e=>?_) fun h' tk dd kk=>?_
 ·intro z;rcases bw.mp z with z | z
  ·exact ba lt0 z
  ·exact ba ha0 (c8.mp z).symm
 ·have e':(ps.map fun p=>bx p.1)[i]?=some v:=by simpa using e
  rw [br] at e';obtain ⟨p,hp,rfl⟩:=df.mp e';exact ⟨p,hp,rfl⟩
 ·have h0:=hlt _ _ e;exact ⟨fun z=>ba (o8 h0 lt0) (c8.mp z),ba h0⟩
 ·refine ⟨⟨_,aj _ rfl,rfl,rfl⟩,?_⟩;obtain ⟨ob,e,r⟩:=ha1;exact ⟨ob,ae _ e,r⟩
 ·obtain ⟨oo,es,ep,e,r1,r2,r3,r4,r5⟩:=hnew;exact ⟨oo,es,ep,ae _ (kp1 _ _ e),r1,r2,r3,(fun x hx=>nomatch hx),r5⟩
 ·exact ae _ (kp1 _ _ (up _ _ e))
 ·exact ⟨rfl,h h' tk (by simpa using dd) kk⟩
end
section
variable {C:MC} {k:Nat} {X:Cx} {φ:List Addr} {H:Hp} {pins:List (Addr×Obj)} {σ:St} {s:Shared}
def kL:List PV->Option (List (PV×PV))
 | []=>some []
 | .tup [y,v] :: r=>if y.isKt=true then (kL r).map ((y,v) :: ·) else none
 | _=>none
def Ag (kvs more:List (PV×PV)):List (PV×PV):=more.foldl (fun acc kv=>jS acc kv.1 kv.2) kvs
theorem yW {h h':Heap} (kp:∀ b u,h.get? b=some u->h'.get? b=some u) (a:Addr) (x:Array Value):IsTup h a x->IsTup h' a x:=fun ⟨o,e,r⟩=>⟨o,kp _ _ e,r⟩
theorem vI (I:Inv X pins σ H s) (hK:X.K=C.K):∀ {ps:List PV} {rs:List (PV×PV)} {vs:List V} {us:List Value},kL ps=some rs->RVs C φ H ps vs->aN vs us->
  ∃ qs:List (Addr×PV×Addr×Value),us=qs.map (fun q=>bx q.1)/\(∀ h',(∀ b u,s.heap.get? b=some u->h'.get? b=some u)->∀ q∈qs,(rV X.prog X.w).is h' q.2.1 q.2.2.1/\IsTup h' q.1 #[.ref q.2.2.1,q.2.2.2])/\
   ∀ {kvs:List (PV×PV)} {ks:List (PV×Addr×V)} {xs:List (PV×Addr×Value)},RKd C φ H kvs ks->qM ks xs->∃ ks',RKd C φ H (Ag kvs rs) ks'/\qM ks' (BO xs qs)
 | [],rs,[],us,e,_,ru=>by
  cases ru
  cases e
  exact ⟨[],rfl,(fun _ _ _ h=>nomatch h),fun r rx=>⟨_,r,rx⟩⟩
 | p :: ps,rs,v :: vs,us,e,r,ru=>by
  cases ru with
  | @cons _ u _ us' h t=>
   cases p with
   | tup xs=>
    match xs,e with
    | [y,z],e=>
     unfold kL at e;split at e
     ·rename_i hk;cases e2:kL ps with
      | none=>rw [e2] at e; cases e
      | some rs'=>
       rw [e2] at e;cases e
       obtain ⟨qs,rfl,a1,a2⟩:=vI I hK e2 r.2 t;obtain ⟨b,bs,rfl,sq,rb⟩:=r.1;cases h
       obtain ⟨yv,zv,rfl,ry,rz⟩:=rb.two;rw [<- hK] at sq;obtain ⟨its,rits,pt,_⟩:=I.tuple sq;obtain ⟨yu,zu,rfl,ryu,rzu⟩:=vals2 rits;obtain ⟨c,rfl⟩:=lI hk ry;cases ryu
       have hki:=yR I hK hk ry;refine ⟨(b,y,c,zu) :: qs,rfl,?_,fun {kvs ks xs} r' rx'=>?_⟩
       ·intro h' kp q hq;rcases bw.mp hq with rfl | hq
        ·exact ⟨⟨hki.1,HR.keep (yW kp) hki.2⟩,yW kp _ _ pt⟩
        ·exact a1 h' kp q hq
       ·obtain ⟨ks',r1,r2⟩:=HD.put (a:=b) r' rx' (tL hk) ry rz rzu;exact a2 r1 r2
     ·cases e
    | [],e=>cases e
    | [_],e=>cases e
    | _ :: _ :: _ :: _,e=>cases e
   | _=>cases e
 | [],_,_ :: _,_,_,r,_=>r.elim
 | _ :: _,_,[],_,_,r,_=>r.elim
def qO:List PV->PH->Rs PV:=fun xs h=>match xs with
 | [.ref n]=>match h[n]? with
  | some (.lst ps)=>match kL ps with
   | some rs=>.ok (.ref h.length) (h++[.dD (Ag [] rs)])
   | none=>.bad
  | _=>EZ xs h
 | _=>EZ xs h
theorem yX {K:Type} [DecidableEq K]:∀ (ps:List (Addr×K×Addr×Value)) (xs:List (K×Addr×Value)),(BO xs ps).length<=xs.length+ps.length
 | [],xs=>az _
 | p :: ps,xs=>by
  have:=yX ps (storedH xs p.2.1 p.2.2.1 p.2.2.2);have h2:=sF xs p.2.1 p.2.2.1 p.2.2.2
  show (BO (storedH xs p.2.1 p.2.2.1 p.2.2.2) ps).length<=_
  rw [cz];omega
theorem LC:mF C k X (.type "dict") qO:=fun c pins s σ H xs us Q I r h=>by
 obtain ⟨φ,h,ps,rh,rv,po⟩:=h;unfold qO at po;split at po
 ·rename_i n;split at po
  ·rename_i ls hk;split at po
   ·rename_i rs e;obtain ⟨v,rfl,rx⟩:=rv.one;obtain ⟨a,rfl,ha⟩:=rx;obtain ⟨u,rfl,ru⟩:=vals1 r;cases ru
    obtain ⟨vs,hH,rvs⟩:=rh.at' n a _ ha hk;obtain ⟨hz,its,m,rits,hl,hx⟩:=I.lstM hH;obtain ⟨qs,rfl,a1,a2⟩:=vI I c.K e rvs rits;have hq:qs.length<=aw:=by
     rw [ar] at hl;omega
    have rm:(rV X.prog X.w).room X.A.in1.in1:=by
     have:=c.hu64
     show X.A.units+1+1+6 < cLine
     omega
    refine sT (knd:=rV X.prog X.w) (I.ok.hd c.calm) rm hx rfl rfl rfl a1 hq fun h' tk dd kk=>?_;obtain ⟨ks',r1,r2⟩:=a2 (.nil:RKd C φ H [] []) (.nil:qM [] []);have fr:H s.heap.objs.size=none:=I.fresh;obtain ⟨o,es,ep,hq1,h2,h3,h4,h5',h5⟩:=dd;have hl2:ks'.length<=aw:=by
     have e1:=d5 r2;have e2:=yX qs ([]:List (PV×Addr×Value));simp at e2;omega
    refine ⟨.ref s.heap.objs.size,_,I.laid (a:=s.heap.objs.size) (o:=dDO C.w s.heap.objs.size ks') (t':=tk) kk (az _) ⟨⟨hl2,beq_eq_false_iff_ne.mpr (ik (ba I.big)),_,r2,o,es,ep,hq1,h2,h3,?_,h5⟩,⟨o,hq1⟩,?_⟩,rfl,?_⟩
    ·rw [h4,<- c.w]; rfl
    ·rintro g1 g2 ⟨z1,z2,ws,z3,o',es',ep',z4,z5⟩ keep;exact ⟨z1,z2,ws,z3,o',es',ep',keep _ z4,z5⟩
    ·exact po (φ++[s.heap.objs.size]) (.ref _) _ (dj _ _) (Kp.new fr) (rh.new fr ⟨_,aK,RKd.mono (dj _ _) (Kp.new fr) r1⟩) ⟨_,rfl,by rw [<- rh.len]; simp⟩
   ·exact po.elim
  ·exact IH c pins s σ H xs us Q I r ⟨φ,h,_,rh,rv,po⟩
 ·exact IH c pins s σ H xs us Q I r ⟨φ,h,_,rh,rv,po⟩
end
end L2
namespace L2
open PySem PySem.Spec PyProof.Rows PySem.SeqAt
open PySem.AutoSeq1 (wpAny_loadPart')
open PySem.MeetsSeq PySem.MeetsSeq2 PySem.MeetsSeq3
section
variable {C:MC} {k:Nat} {X:Cx}
def Ri:PV->PV->PH->Rs PV:=fun x y h=>match x,y with
 | .tup xs,.tup ys=>ofB ((Oy (.tup xs) (.tup ys)).map (!·)) h
 | x,y=>vGe x y h
variable {h:PH}
@[simp] theorem Rj {i j:Int}:Ri (.int i) (.int j) h=.ok (.bl (decide (j<=i))) h:=(rfl)
@[simp] theorem Rk {i j:Str}:Ri (.str i) (.str j) h=.ok (.bl (!decide (i.cps.toList < j.cps.toList))) h:=(rfl)
end
end L2
namespace L2
open PySem PySem.Spec PyProof.Rows
section
variable {prog:Program} {w:World} {A:Around} {E:Value->Shared->Prop} {s:Shared} {v dc it:Addr} {oc:Obj} {es:Array ie} {ep:Nat}
theorem G9 {Q:Value->Shared->Prop} (hT:s.TypeIs (.ref dc) "dict") (hd:(dc == iz)=false) (h1:s.heap.get? dc=some oc) (h2:oc.data=.dict es ep)
  (q:Q (.ref s.heap.objs.size) { s with heap:=s.heap.push { cls:=.type "dict_keyiterator",data:=.fields #[.ref dc,.int 0 0,.int es.size 0,.int ep 0] } }):wpAny (model prog w) A (pyIter (.ref dc)) Q E s:=by
 refine wpAny_pyIter_slot hT F.slot_dict_iter (en F.slot_dict_iter hT F.entry_dict_iter ?_ (F.args_dict_iter_1 _));unfold Builtin.«dict.__iter__»;refine aa ?_;unfold Builtin.Dict.dictSlotNone;refine aa (kn hT ?_)
 show wpAny _ _ (pure (bx dc)) _ _ s
 refine ab ?_
 show wpAny _ _ (nr dc >>= _) _ _ s
 unfold nr;rw [if_neg (by rw [hd]; exact bp)];refine aa (ab ?_);refine aa (f7 h1 h2 ?_);refine aa (jj h1 h2 ?_);refine aa (dm (ab ⟨_,rfl,"dict_keyiterator",_,⟨_,aj _ rfl,rfl⟩,ij.lookup,?_⟩));simpa [rawInt] using q
theorem J6 {i:Nat} {Q:Option Value->Shared->Prop} (hI:s.heap.IsKeyIter it dc i es.size ep) (h1:s.heap.get? dc=some oc) (h2:oc.data=.dict es ep) (hlt:i < es.size)
  (q:∀ h',h'.IsKeyIter it dc (i+1) es.size ep->ja it s.heap h'->Q (some es[i].key) { s with heap:=h' }):wpAny (model prog w) A (pyNext (.ref it)) Q E s:=by
 obtain ⟨oi,g1,g2,g3⟩:=id hI;unfold pyNext;refine aa (jz (d6 (name:=ic "__next__") hI.typeIs ij (en ij hI.typeIs F.entry_dict_keyiterator_next ?_ (F.args_dict_keyiterator_next_1 _))));refine aa (ab (aa (aa ?_)))
 first | refine aa (jw hI.typeIs (ab ?_)) | refine aa (l0 hI.typeIs (ab ?_))
 refine aa (oj g1 g3 ?_);rw [show d8 "dict_keyiterator" = false by decide]; simp only [c9,if_false]
 show wpAny _ _ (if (bx dc == b7)=true then _ else _) _ _ s
 rw [if_neg (show ¬ ((bx dc == b7)=true) from bp)]
 refine aa (ab (aa (f7 h1 h2 ?_)));rw [if_neg (show ¬ _ by simp)];refine aa (ab (aa (jj h1 h2 ?_)));rw [if_neg (show ¬ _ by simp)];refine ab ?_;simp only [show ¬ ((i:Int) < 0) by omega,if_false,lr,i8 hlt];refine aa ?_
 first | refine aa (jw hI.typeIs (ab ?_)) | refine aa (l0 hI.typeIs (ab ?_))
 refine aa (wpAny_isOneOf_keyiter hI.typeIs (show wpAny _ _ (setField (.ref it) 1 (rawInt ((i:Int)+1)) >>= _) _ _ s from aa (m6 g1 g3 (by simp) ?_)))
 have hI':(s.heap.update it (j0 (·.setIfInBounds 1 (rawInt ((i:Int)+1))))).IsKeyIter it dc (i+1) es.size ep:=
  ⟨_,fg _ g1 (nq (ko g3 _)),(Obj.cls_mapFields ..).trans g2,by rw [ko g3]; simp [rawInt]⟩
 have ty':({ s with heap:=s.heap.update it (j0 (·.setIfInBounds 1 (rawInt ((i:Int)+1)))) }:Shared).TypeIs (.ref it) "dict_keyiterator" := hI'.typeIs;refine aa (gp (aa (wpAny_isOneOf_keyiter ty' ?_)))
 show wpAny _ _ (pure es[i].key) _ _ _
 exact ab (ab ⟨_,rfl,ab (q _ hI' (dw ..))⟩)
theorem J7 {i:Nat} {Q:Option Value->Shared->Prop} (hh:A.handled=none) (hI:s.heap.IsKeyIter it dc i es.size ep) (h1:s.heap.get? dc=some oc) (h2:oc.data=.dict es ep) (hge:es.size<=i)
  (q:∀ h',Heap.ExtBut it s.heap h'->Q none { s with heap:=h' }):wpAny (model prog w) A (pyNext (.ref it)) Q E s:=by
 obtain ⟨oi,g1,g2,g3⟩:=id hI;unfold pyNext;refine aa (jz (d6 (name:=ic "__next__") hI.typeIs ij (en ij hI.typeIs F.entry_dict_keyiterator_next ?_ (F.args_dict_keyiterator_next_1 _))));refine aa (ab (aa (aa ?_)))
 first | refine aa (jw hI.typeIs (ab ?_)) | refine aa (l0 hI.typeIs (ab ?_))
 refine aa (oj g1 g3 ?_);rw [show d8 "dict_keyiterator" = false by decide]; simp only [c9,if_false]
 show wpAny _ _ (if (bx dc == b7)=true then _ else _) _ _ s
 rw [if_neg (show ¬ ((bx dc == b7)=true) from bp)]
 refine aa (ab (aa (f7 h1 h2 ?_)));rw [if_neg (show ¬ _ by simp)];refine aa (ab (aa (jj h1 h2 ?_)));rw [if_neg (show ¬ _ by simp)];refine ab ?_;simp only [show ¬ ((i:Int) < 0) by omega,if_false,lr,iy hge];refine aa ?_
 first | refine aa (jw hI.typeIs (ab ?_)) | refine aa (l0 hI.typeIs (ab ?_))
 refine (show wpAny _ _ (setField (.ref it) 0 .none >>= _) _ _ s from aa (m6 g1 g3 (by simp) ?_))
 refine (show wpAny _ _ (newExc (.type "StopIteration") [] >>= _) _ _ _ from aa ?_); simp only [newExc,newTuple]
 refine aa (dm (aa (m:=om _ _) (wpAny_of_eq (a:=b7) (by first | rfl | (simp only [om]; rfl)) (dm ?_ (by size_fits)))) (by size_fits))
 simp only [raiseNew];refine aa (wpAny_handled ?_); rw [show A.in1.handled=none from hh]
 refine aa (ab (wpAny_throw ?_)); refine aa (ow (T:="StopIteration") (b:=true) ⟨_,aj _ rfl,rfl⟩ isSubtype_stop ?_);exact ab (q _ (((dw ..).extBut.push _).push _))
end
section
variable {C:MC} {k:Nat} {X:Cx} {ke ve:Expr} {mk mv:Me} {pos:Pos}
def putD (x y:PV) (n:Nat) (h:PH):Rs PV:=if x.isKt=true then (match bA h n with
 | some kvs=>if kvs.length < aw then .ok (.ref n) (h.set n (.dD (jS kvs x y))) else .bad
 | none=>.bad) else .bad
def OI (mk mv:Me):Me:=fun δ h=>(mk δ (h++[.dK []])).bind fun x h2=>(mv δ h2).bind fun y h3=>putD x y h.length h3
end
section
theorem F5 {h:PH} {n:Nat} {kvs:List (PV×PV)} {xs:List PV} {z:PV} (e:bA h n=some kvs) (hk:(PV.tup xs).ky 6=true) (hl:kvs.length < 16777216):oY (.ref n) (.tup xs) z h=some (h.set n (.dD (jS kvs (.tup xs) z))):=by
 show DG (.ref n) (.tup xs) z h=_
 exact OE e hk hl
@[simp] theorem PP {mk mv:Me} {δ:Ev} {h:PH}:OI mk mv δ h=(mk δ (h++[.dK []])).bind fun x h2=>(mv δ h2).bind fun y h3=>putD x y h.length h3:=(rfl)
end
def J8:HO->Prop
 | .tup _=>False
 | .own _=>False
 | .tbl _=>False
 | _=>True
section
variable {X:Cx} {pins:List (Addr×Obj)} {σ:St} {H:Hp} {s:Shared}
theorem Inv.swap {d:Addr} {u u':HO} (I:Inv X pins σ H s) (hd:H d=some u) (hu:J8 u) (hz:∀ o z,X.H₀ d≠some (.frz o z)) (new:bP X.prog X.w (upd H d u') s.heap d u'):Inv X pins σ (upd H d u') s:=by
 have nn:∀ b,H b=none->b≠d:=fun b n z=>by rw [z,hd] at n; cases n
 have nt:∀ b xs,H b=some (.tup xs)->b≠d:=fun b xs n z=>by rw [z,hd] at n; cases n; exact hu
 have no:∀ b y,H b=some (.own y)->b≠d:=fun b xs n z=>by rw [z,hd] at n; cases n; exact hu
 have nb:∀ b y,H b=some (.tbl y)->b≠d:=fun b xs n z=>by rw [z,hd] at n; cases n; exact hu
 refine ⟨I.ok,I.os,I.bare,⟨I.base.keep,I.base.slot,fun b o e n hx=>?_,I.base.there,fun b xs e=>?_,fun b o xs e=>?_,fun b ps e=>?_⟩,I.loc,I.cell,?_,fun x c e=>?_,fun p hp=>?_,fun b o e=>?_,I.len⟩
 ·have:=I.base.free b o e n hx;rw [aH (nn b this)]; exact this
 ·have:=I.base.tups b xs e;rw [aH (nt b xs this)]; exact this
 ·have:=I.base.frzs b o xs e;have ne:b≠d:=fun z=>hz o xs (z ▸ e);rw [aH ne]; exact this
 ·obtain ⟨m,e1⟩:=I.base.tbls b ps e;exact ⟨m,by rw [aH (nb b _ e1)]; exact e1⟩
 ·rw [aH (nn _ I.free)]; exact I.free
 ·have:=I.freeC x c e;rw [aH (nn _ this)]; exact this
 ·obtain ⟨e,n,r⟩:=I.pin p hp;exact ⟨e,by rw [aH (nn _ n)]; exact n,r⟩
 ·by_cases hb:b=d
  ·subst hb; rw [aK] at e; cases e; exact new
  ·rw [aH hb] at e;exact (I.hok b o e).stay (fun c v _ q=>q) (fun c q=>by rw [aH (no c b q)]; exact q) fun c xs q=>by rw [aH (nt c xs q)]; exact q
theorem Inv.nofrz {d:Addr} (I:Inv X pins σ H s) (hd:∀ o z,H d≠some (.frz o z)):∀ o z,X.H₀ d≠some (.frz o z):=fun o z e=>hd o z (I.base.frzs d o z e)
theorem Inv.freeze {d:Addr} {u:HO} {oc:Obj} (I:Inv X pins σ H s) (hd:H d=some u) (hu:J8 u) (hf:∀ o z,u≠.frz o z) (ho:s.heap.get? d=some oc):Inv X pins σ (upd H d (.frz oc u)) s:=by
 have nt:∀ b xs,H b=some (.tup xs)->b≠d:=fun b xs n z=>by rw [z,hd] at n; cases n; exact hu
 have no:∀ b y,H b=some (.own y)->b≠d:=fun b xs n z=>by rw [z,hd] at n; cases n; exact hu
 refine I.swap hd hu (I.nofrz fun o z e=>?_) ⟨ho,(I.hok d u hd).stay (fun c v _ q=>q) (fun c q=>by rw [aH (no c d q)]; exact q) fun c xs q=>by rw [aH (nt c xs q)]; exact q⟩;rw [hd] at e;exact hf o z (b8 e)
theorem Inv.thaw {d:Addr} {u:HO} {oc:Obj} (I:Inv X pins σ H s) (hd:H d=some (.frz oc u)) (hz:∀ o z,X.H₀ d≠some (.frz o z)):Inv X pins σ (upd H d u) s:=by
 have nt:∀ b xs,H b=some (.tup xs)->b≠d:=fun b xs n z=>by rw [z,hd] at n; cases n
 have no:∀ b y,H b=some (.own y)->b≠d:=fun b xs n z=>by rw [z,hd] at n; cases n
 obtain ⟨_,q⟩:=I.hok d _ hd;exact I.swap hd trivial hz (q.stay (fun c v _ q=>q) (fun c q=>by rw [aH (no c d q)]; exact q) fun c xs q=>by rw [aH (nt c xs q)]; exact q)
end
def ItI (dc:Addr) (oc:Obj) (u:HO) (ks:List (V×V)):It:=
 ⟨fun i H=>H dc=some (.frz oc u)/\i < ks.length,fun i H x H'=>∃ t kv,H t=none/\ks[i]?=some kv/\x=.ref t/\H'=upd H t (.tup [kv.1,kv.2]),fun i H=>H dc=some (.frz oc u)/\ks.length<=i⟩
def ItK (dc:Addr) (oc:Obj) (u:HO) (ks:List V):It:=
 ⟨fun i H=>H dc=some (.frz oc u)/\i < ks.length,fun i H x H'=>H'=H/\ks[i]?=some x,fun i H=>H dc=some (.frz oc u)/\ks.length<=i⟩
theorem Ga {P:Program} {w:World} {K:ag} {tg:Expr} (it dc:Addr) (oc:Obj) (u:HO) (es:Array ie) (ep:Nat) (h2:oc.data=.dict es ep) (ks:List V) (hl:ks.length=es.size)
  (hk:∀ (i:Nat) (hi:i < es.size),∃ kv,ks[i]?=some kv/\RelV kv es[i].key):Turn P w K tg (ItK dc oc u ks) [it] it (fun i h=>h.IsKeyIter it dc i es.size ep) where
 mem:=by simp
 obj:=fun i h st b hb=>by
  have e:b=it:=by simpa using hb
  subst e;obtain ⟨o,e,c,d⟩:=st;exact ⟨o,e,fun v z=>by rw [d] at z; cases z⟩
 keep:=fun i h h' st k=>st.at fun o e=>k it (by simp) o e
 item:=by
  intro X hP hw hK hc i pins s σ H E I hf st ⟨hg,hi⟩;subst hP hw hK;have hi':i < es.size:=by omega
  obtain ⟨kv,ekv,r1⟩:=hk i hi';obtain ⟨f0,f1,f2,f3,f4,f5⟩:=hf it (by simp);have hoc:s.heap.get? dc=some oc:=(I.hok dc _ hg).1;refine J6 st hoc h2 hi' fun h' st' sb=>?_;have I1:Inv X pins σ H { s with heap:=h' }:=I.turned (t':=s.toks) (fun b o hb e=>(sb.2 b hb).trans e) f0 f1 f3 f4 f5;obtain ⟨o,e,c,d⟩:=id st';exact ⟨_,rfl,Ex (s:={ s with heap:=h' }) e c d (by decide) ⟨kv,H,I1,r1,⟨rfl,ekv⟩,st',fun b hb=>(hf b hb).1⟩⟩
 done:=by
  intro X hP hw hK hc i pins s σ H E I hf st ⟨hg,hi⟩;subst hP hw hK;obtain ⟨f0,f1,f2,f3,f4,f5⟩:=hf it (by simp);have hoc:s.heap.get? dc=some oc:=(I.hok dc _ hg).1;exact J7 (I.ok.hd hc) st hoc h2 (by omega) fun h' eb=>⟨rfl,I.turned (t':=s.toks) (fun b o hb e=>eb b o hb e) f0 f1 f3 f4 f5⟩
 self:=fun _ _ _ _ _ st h=>wpAny_pyIter_keyiter st h
def fT:MO->Option (List PV)
 | .dK kvs=>some (kvs.map fun kv=>.tup [kP kv.1,kv.2])
 | .dD kvs=>some (kvs.map fun kv=>.tup [kv.1,kv.2])
 | _=>none
def BR:MO->Option (List PV)
 | .dK kvs=>some (kvs.map fun kv=>kP kv.1)
 | .dD kvs=>some (kvs.map (·.1))
 | _=>none
def vJ:Option MO->Bool
 | some (.dK _)=>true
 | some (.dD _)=>true
 | _=>false
def wkI (b:Bool) (x:PV) (h:PH):Option (Nat×MO×List PV):=match x with
 | .ref n=>match h[n]? with
  | some (.vw 0 d)=>if b then (h[d]?).bind fun o=>(fT o).map fun xs=>(d,o,xs) else none
  | some o=>(BR o).map fun xs=>(n,o,xs)
  | none=>none
 | _=>none
def oZ (b:Bool) (m:Me):Mi:=fun δ h=>(m δ h).bind fun x h1=>match wkI b x h1 with
 | some (d,o,xs)=>.ok ⟨xs,fun _=>true⟩ (h1.set d (.fz o))
 | none=>.bad
section
variable {C:MC} {k:Nat} {X:Cx} {pins:List (Addr×Obj)} {σ:St} {H:Hp} {s:Shared} {φ:List Addr}
theorem OJ {k:Key} {v:Value} (h:tQ k v=true):RelV (kV k) v:=by
 rcases bO h with ⟨i,t,rfl,rfl⟩ | ⟨x,t,rfl,rfl⟩
 ·exact ⟨t,rfl⟩
 ·exact ⟨t,rfl⟩
theorem qP {α β:Type} {F:α->β->Prop}:∀ {l:List α} {m:List β},Paired F l m->∀ {i:Nat} {a:α},l[i]?=some a->∃ b,m[i]?=some b/\F a b
 | _,_,.nil,i,a,e=>by simp at e
 | _,_,.cons (a:=x) (b:=y) r t,0,a,e=>by
  have:x=a:=by simpa using e
  subst this;exact ⟨y,rfl,r⟩
 | _,_,.cons r t,i+1,a,e=>by
  obtain ⟨b,h1,h2⟩:=qP t (i:=i) (a:=a) (by simpa using e)
  exact ⟨b,by simpa using h1,h2⟩
theorem nD {α β:Type} {F:α->β->Prop}:∀ {l:List α} {m:List β},Paired F l m->∀ {i:Nat} {b:β},m[i]?=some b->∃ a,l[i]?=some a/\F a b
 | _,_,.nil,i,a,e=>by simp at e
 | _,_,.cons (a:=x) (b:=y) r t,0,b,e=>by
  have:y=b:=by simpa using e
  subst this;exact ⟨x,rfl,r⟩
 | _,_,.cons r t,i+1,b,e=>by
  obtain ⟨a,h1,h2⟩:=nD t (i:=i) (b:=b) (by simpa using e)
  exact ⟨a,by simpa using h1,h2⟩
theorem F6 (a:Key):RV C φ H (kP a) (kV a):=by cases a <;> rfl
theorem J9 {kvs:List (Key×PV)} {ks:List (Key×V)} (rk:RKv C φ H kvs ks):RVs C φ H (kvs.map fun kv=>kP kv.1) ((ks.map fun q=>(kV q.1,q.2)).map (·.1)):=by
 unfold RKv at rk
 induction rk with
 | nil=>trivial
 | @cons p q ps qs e t ih=>exact ⟨by show RV C φ H (kP p.1) (kV q.1); rw [e.1]; exact F6 q.1,ih⟩
theorem J' {kvs:List (PV×PV)} {ks:List (PV×Addr×V)} (rk:RKd C φ H kvs ks):RVs C φ H (kvs.map (·.1)) ((ks.map fun q=>(V.ref q.2.1,q.2.2)).map (·.1)):=by
 unfold RKd at rk
 induction rk with
 | nil=>trivial
 | @cons p q ps qs e t ih=>exact ⟨e.2.2.1,ih⟩
structure Rl (C:MC) (φ:List Addr) (H:Hp) (s:Shared) (b:Addr) (o:MO) (ks:List (V×V)) (u:HO) (oc:Obj) (es:Array ie) (ep:Nat):Prop where
 at':H b=some u
 nf:J8 u
 nz:∀ o z,u≠.frz o z
 nt:rT (some u)
 get:s.heap.get? b=some oc
 cls:oc.cls=.type "dict"
 data:oc.data=.dict es ep
 nsys:(b == iz)=false
 fz:∀ φ' H',φ<+:φ'->H' b=some (.frz oc u)->Kp H H'->RO C φ' H' b (.fz o)
 len:ks.length=es.size
 ent:∀ (i:Nat) (hi:i < es.size),∃ kv,ks[i]?=some kv/\RelV kv.1 es[i].key/\RelV kv.2 es[i].val
 keys:∀ xs,BR o=some xs->RVs C φ H xs (ks.map (·.1))
 items:∀ xs,fT o=some xs->xs.length=ks.length/\∀ (i:Nat) p,xs[i]?=some p->∃ p1 p2 kv,p=.tup [p1,p2]/\ks[i]?=some kv/\RV C φ H p1 kv.1/\RV C φ H p2 kv.2
theorem BS {h:PH} {d:Nat} {b:Addr} {o:MO} (c:Cxt C k X) (I:Inv X pins σ H s) (rh:RH C φ H h) (hb:φ[d]?=some b) (ho:h[d]?=some o) (hd:vJ (some o)=true):∃ ks u oc es ep,Rl C φ H s b o ks u oc es ep:=by
 cases o with
 | dK kvs=>
  obtain ⟨ks,hH,rk⟩:=rh.at' d b _ hb ho;obtain ⟨z,hm,vs,rel,dd⟩:=B6 I.hok hH;obtain ⟨oc,es,ep,g1,g2,g3,g4,g5,g6⟩:=dd;have l1:ks.length=vs.length:=d5 rel;have l2:es.size=vs.length:=by have:=vC g5; have:=congrArg List.length this; simpa using this
  refine ⟨ks.map fun q=>(kV q.1,q.2),_,oc,es,ep,hH,trivial,(fun _ _ e=>by cases e),trivial,g1,g2.1,g3,hm,fun φ' H' p e t=>⟨oc,ks,e,rk.mono p t⟩,by rw [ar,l1,l2],fun i hi=>?_,fun xs hx=>?_,fun xs hx=>?_⟩
  ·have hv:vs[i]?=some (vs[i]'(by omega)):=by simp [show i < vs.length by omega]
   have he:es.toList[i]?=some es[i]:=by simp [hi]
   obtain ⟨q1,q2⟩:=g5.get? he hv;obtain ⟨kv,ekv,rkv⟩:=nD rel hv;refine ⟨(kV kv.1,kv.2),by rw [br,ekv]; rfl,?_,?_⟩
   ·show RelV (kV kv.1) es[i].key
    rw [rkv.1];exact OJ q1
   ·show RelV kv.2 es[i].val
    rw [q2];exact rkv.2
  ·cases hx
   exact J9 rk
  ·cases hx
   have lk:kvs.length=ks.length:=d5 rk;refine ⟨by rw [ar,ar,lk],fun i p e=>?_⟩;rw [br] at e;obtain ⟨kv,e1,rfl⟩:=df.mp e;obtain ⟨q,e2,r2⟩:=qP rk e1;exact ⟨_,_,(kV q.1,q.2),rfl,by rw [br,e2]; rfl,by show RV C φ H (kP kv.1) (kV q.1); rw [r2.1]; exact F6 q.1,r2.2⟩
 | dD kvs=>
  obtain ⟨ks,hH,rk⟩:=rh.at' d b _ hb ho;have hO:bP X.prog X.w H s.heap b (dDO C.w b ks):=I.hok b _ hH;obtain ⟨⟨hz,hm,xs,rx,oc,es,ep,g1,g2,g3,g4,g5⟩,_⟩:=hO;have l1:ks.length=xs.length:=d5 rx;have l2:es.size=xs.length:=by have:=congrArg List.length g4; simpa using this
  refine ⟨ks.map fun q=>(V.ref q.2.1,q.2.2),_,oc,es,ep,hH,trivial,(fun _ _ e=>by cases e),trivial,g1,g2.1,g3,hm,fun φ' H' p e t=>⟨oc,ks,e,rk.mono p t⟩,by rw [ar,l1,l2],fun i hi=>?_,fun xs hx=>?_,fun xs hx=>?_⟩
  ·have hv:xs[i]?=some (xs[i]'(by omega)):=by simp [show i < xs.length by omega]
   have he:es.toList[i]?=some es[i]:=by simp [hi]
   rw [g4,br,hv] at he;have he':=b8 he;obtain ⟨kv,ekv,rkv⟩:=nD rx hv;refine ⟨(V.ref kv.2.1,kv.2.2),by rw [br,ekv]; rfl,?_,?_⟩
   ·show RelV (V.ref kv.2.1) es[i].key
    rw [<- he',rkv.2.1];rfl
   ·show RelV kv.2.2 es[i].val
    rw [<- he'];exact rkv.2.2
  ·cases hx
   exact J' rk
  ·cases hx
   have lk:kvs.length=ks.length:=d5 rk;refine ⟨by rw [ar,ar,lk],fun i p e=>?_⟩;rw [br] at e;obtain ⟨kv,e1,rfl⟩:=df.mp e;obtain ⟨q,e2,r2⟩:=qP rk e1;exact ⟨_,_,(V.ref q.2.1,q.2.2),rfl,by rw [br,e2]; rfl,r2.2.2.1,r2.2.2.2⟩
 | _=>cases hd
theorem Ja {o:MO} {xs:List PV} (h:BR o=some xs):vJ (some o)=true:=by cases o <;> first | rfl | cases h
theorem qQ {o:MO} {xs:List PV} (h:fT o=some xs):vJ (some o)=true:=by cases o <;> first | rfl | cases h
theorem LD {b:Bool} {x:PV} {h:PH} {d:Nat} {o:MO} {xs:List PV} (e:wkI b x h=some (d,o,xs)):∃ n,x=.ref n/\((h[n]?=some (.vw 0 d)/\b=true/\h[d]?=some o/\fT o=some xs)\/(h[n]?=some o/\n=d/\BR o=some xs)):=by
 unfold wkI at e;split at e
 ·rename_i n;refine ⟨n,rfl,?_⟩;split at e
  ·rename_i d' hv;split at e
   ·rename_i hb;cases e1:h[d']? with
    | none=>rw [e1] at e; cases e
    | some o'=>
     rw [e1] at e;cases e2:fT o' with
     | none=>simp [e2] at e
     | some ys=>
      simp [e2] at e;obtain ⟨rfl,rfl,rfl⟩:=e;exact .inl ⟨hv,hb,e1,e2⟩
   ·cases e
  ·rename_i o' _ hv;cases e2:BR o' with
   | none=>rw [e2] at e; cases e
   | some ys=>
    rw [e2] at e;simp at e;obtain ⟨rfl,rfl,rfl⟩:=e;exact .inr ⟨hv,rfl,e2⟩
  ·cases e
 ·cases e
def walk2 (b:Bool) (x:PV) (h1:PH):Rs Wk:=match wkI b x h1 with
 | some (d,o,xs)=>.ok ⟨xs,fun _=>true⟩ (h1.set d (.fz o))
 | none=>.bad
theorem RH.writeQ {h:PH} {H:Hp} {φ:List Addr} (r:RH C φ H h) {n:Nat} {a:Addr} {u:HO} {o:MO} (e:φ[n]?=some a) (t:Kq H (upd H a u)) (q:RO C φ (upd H a u) a o):RH C φ (upd H a u) (h.set n o):=by
 refine ⟨by rw [jd]; exact r.len,r.nd,fun m b ob h1 h2=>?_⟩
 by_cases hm:n=m
 ·subst hm;rw [e] at h1; cases h1;have hl:n < h.length:=by rw [<- r.len]; exact (af.mp e).1
  rw [fj hl] at h2;cases h2
  exact q
 ·rw [cj hm] at h2;have hb:b≠a:=fun z=>by
   subst z;exact hm ((List.getElem?_inj (af.mp e).1 r.nd).mp (e.trans h1.symm))
  exact (r.at' m b ob h1 h2).stayQ ai t (aH hb)
def vK (d:Nat) (h:PH):Option PH:=match h[d]? with
 | some (.fz o)=>some (h.set d o)
 | _=>none
theorem Gb {φ φ':List Addr} {H H':Hp} {h h2 h3:PH} {d:Nat} (rh:RH C φ H h) (hd:vJ h[d]?=true) (p:φ<+:φ') (t:Kp H H') (rh2:RH C φ' H' h2) (e:vK d h2=some h3):
  ∃ a oc u,H' a=some (.frz oc u)/\(∀ o z,H a≠some (.frz o z))/\Kp H (upd H' a u)/\RH C φ' (upd H' a u) h3/\Kq H' (upd H' a u):=by
 unfold vK at e;split at e
 ·rename_i o ho;cases e
  cases e0:h[d]? with
  | none=>rw [e0] at hd; cases hd
  | some o0=>
   rw [e0] at hd;obtain ⟨a,ha,r0⟩:=rh.get e0;have nf:∀ o z,H a≠some (.frz o z):=fun o z q=>by
    cases o0 with
    | dK kvs=>obtain ⟨ks,q2,_⟩:=r0; rw [q] at q2; cases q2
    | dD kvs=>obtain ⟨ks,q2,_⟩:=r0; rw [q] at q2; cases q2
    | _=>cases hd
   have ha':=fX p ha;have r1:=rh2.at' d a _ ha' ho;have gen:∀ oc u,H' a=some (.frz oc u)->(∀ xs,u≠.tup xs)->(∀ xs,u≠.lst xs)->Kp H (upd H' a u)/\Kq H' (upd H' a u):=fun oc u q nt nl=>by
    have kq:Kq H' (upd H' a u):=⟨fun b xs z=>by
     have ne:b≠a:=by
      rintro rfl;rcases z with z | ⟨ob,z⟩
      ·rw [q] at z; cases z
      ·rw [q] at z; cases z; exact nt _ rfl
     unfold Rd; rw [aH ne]; exact z,fun b ob xs z=>by
     have ne:b≠a:=by
      rintro rfl;rw [q] at z; cases z; exact nl _ rfl
     rw [aH ne]; exact z⟩
    refine ⟨⟨fun b xs z=>kq.1 b xs (t.1 b xs z),fun b ob z q2=>?_⟩,kq⟩;have ne:b≠a:=fun z2=>nf ob z (z2 ▸ q2);rw [aH ne]; exact t.2 b ob z q2
   cases o with
   | dK kvs=>
    obtain ⟨oc,ks,q,r⟩:=r1;obtain ⟨k1,k2⟩:=gen oc _ q (fun _ z=>by cases z) (fun _ z=>by cases z);exact ⟨a,oc,_,q,nf,k1,rh2.writeQ ha' k2 ⟨ks,aK,r.monoQ ai k2⟩,k2⟩
   | dD kvs=>
    obtain ⟨oc,ks,q,r⟩:=r1;obtain ⟨k1,k2⟩:=gen oc _ q (fun _ z=>by cases z) (fun _ z=>by cases z);exact ⟨a,oc,_,q,nf,k1,rh2.writeQ ha' k2 ⟨ks,aK,r.monoQ ai k2⟩,k2⟩
   | _=>exact r1.elim
 ·cases e
def wkD (b:Bool) (m:Me) (δ:Ev) (h:PH):Option Nat:=match m δ h with
 | .ok x h1=>match wkI b x h1 with
  | some (d,_,_)=>if vJ h[d]?=true then some d else none
  | none=>none
 | _=>none
theorem OK {b:Bool} {m:Me} {δ:Ev} {h:PH} {d:Nat} (e:wkD b m δ h=some d):vJ h[d]?=true:=by
 unfold wkD at e;split at e
 ·split at e
  ·split at e
   ·rename_i hd;cases e
    exact hd
   ·cases e
  ·cases e
 ·cases e
def jE (b:Bool) (m me:Me):Me:=fun δ h=>match wkD b m δ h with
 | some d=>(me δ h).bind fun p h2=>match vK d h2 with
  | some h3=>.ok p h3
  | none=>.bad
 | none=>.bad
theorem Jb {e:Expr} {me:Me} (b:Bool) (m:Me) (he:SE C k X e me):SE C k X e (jE b m me):=fun c=>by
 intro pins s σ H Q I q;obtain ⟨φ,δ,h,rh,re,p⟩:=q;unfold jE at p;cases ed:wkD b m δ h with
 | none=>rw [ed] at p; exact p.elim
 | some d=>
  rw [ed] at p;dsimp only at p;have hd:=OK ed;refine thn (he c pins s σ H (fun v H2=>∃ a oc u,H2 a=some (.frz oc u)/\(∀ o z,H a≠some (.frz o z))/\Q v (upd H2 a u)) I ⟨φ,δ,h,rh,re,?_⟩) ?_
  ·cases em:me δ h with
   | bad=>rw [em] at p; exact p.elim
   | exc x h2=>rw [em] at p; exact p
   | ok p2 h2=>
    rw [em] at p;have p0:post C φ H (match vK d h2 with | some h3=>.ok p2 h3 | none=>.bad) Q:=p
    intro φ' v H' pp tt rh' rv';cases et:vK d h2 with
    | none=>rw [et] at p0; exact p0.elim
    | some h3=>
     rw [et] at p0;obtain ⟨a,oc,u,q,nf,k1,rh3,k2⟩:=Gb rh hd pp tt rh' et;exact ⟨a,oc,u,q,nf,p0 φ' v _ pp k1 rh3 (rv'.monoQ ai k2)⟩
  ·rintro v s1 ⟨x,H2,I2,r,a,oc,u,q,nf,hq⟩;exact ⟨x,_,I2.thaw q (I.nofrz nf),r,hq⟩
def bB:PV->List PV->PH->Rs PV:=fun x ps h=>match x,ps with
 | .ref n,[]=>if vJ h[n]?=true then .ok (.ref h.length) (h++[.vw 0 n]) else .bad
 | _,_=>.bad
theorem kM:MtG C k X "dict" cB "dict.items" bB:=fun c=>⟨fun pins s σ H x xs v us Q I rx rs h=>by
 obtain ⟨φ,h,p,ps,rh,rp,rps,po⟩:=h;unfold bB at po;split at po
 ·rename_i n;split at po
  ·rename_i hd;obtain ⟨a,rfl,ha⟩:=rp;have:xs=[]:=by cases xs <;> first | rfl | exact rps.elim
   subst this;cases rx
   cases rs
   cases ho:h[n]? with
   | none=>rw [ho] at hd; cases hd
   | some o=>
    rw [ho] at hd;obtain ⟨ks,u,oc,es,ep,W⟩:=BS c I rh ha ho hd;have hT:s.TypeIs (.ref a) "dict" := ⟨oc,W.get,W.cls⟩;refine call_meetsIn iq hT PySem.F.entry_dict_items (PySem.F.args_dict_items_1 _) (Br a W.nsys) ⟨hT,?_⟩;have fr:H s.heap.objs.size=none:=I.fresh;refine ⟨.ref s.heap.objs.size,_,I.laid (t':=s.toks) (o:=Bu 0 s.heap.objs.size a) (fun b u e=>ae _ e) (az _) ?_,rfl,?_⟩
    ·exact ⟨⟨_,aj _ rfl,rfl,rfl⟩,⟨_,aj _ rfl⟩,fun h1 h2 ⟨o,e,p⟩ k=>⟨o,k o e,p⟩⟩
    ·exact po (φ++[s.heap.objs.size]) (.ref _) _ (dj _ _) (Kp.new fr) (rh.new fr ⟨a,fX (dj _ _) ha,aK⟩) ⟨_,rfl,by rw [<- rh.len]; simp⟩
  ·exact po.elim
 ·exact po.elim,BI c⟩
end
section
variable {h h1:PH} {δ:Ev}
theorem nE {n:Nat} {o:MO} (e:h[n]?=some o) (hd:vJ (some o)=true):bB (.ref n) [] h=.ok (.ref h.length) (h++[.vw 0 n]):=by
 simp only [bB,e,hd,if_true]
theorem Jc {n d:Nat} {o:MO} {xs:List PV} (e:h[n]?=some (.vw 0 d)) (e2:h[d]?=some o) (hx:fT o=some xs):wkI true (.ref n) h=some (d,o,xs):=by
 simp [wkI,e,e2,hx]
theorem OL {b:Bool} {m:Me} {x:PV} {d:Nat} {o:MO} {xs:List PV} (e:m δ h=.ok x h1) (ew:wkI b x h1=some (d,o,xs)) (hd:vJ h[d]?=true):wkD b m δ h=some d:=by
 simp [wkD,e,ew,hd]
theorem Jd {b:Bool} {m:Me} {x:PV} {d:Nat} {o:MO} {xs:List PV} (e:m δ h=.ok x h1) (ew:wkI b x h1=some (d,o,xs)):oZ b m δ h=.ok ⟨xs,fun _=>true⟩ (h1.set d (.fz o)):=by
 simp [oZ,e,ew]
theorem Je {d:Nat} {o:MO} {l:List MO} (e:h1[d]?=some o):vK d (h1.set d (.fz o)++l)=some (h1++l):=by
 have hl:d < h1.length:=(af.mp e).1;have e1:(h1.set d (.fz o)++l)[d]?=some (.fz o):=by rw [bj (by rw [jd]; exact hl),fj hl]
 unfold vK;rw [e1];dsimp only
 congr 1
 rw [List.set_append_left _ _ (by rw [jd]; exact hl),List.set_set]
 congr 1
 apply i5;intro i
 by_cases hi:d=i
 ·subst hi; rw [fj hl,e]
 ·rw [cj hi]
end
end L2
namespace L2
open PySem PySem.Spec PyProof.Rows PySem.SeqAt PySem.W
def hdk:PV->Option Nat
 | .tup (.int _ :: _)=>some 0
 | .tup (.str _ :: _)=>some 1
 | .tup (.tup _ :: _)=>some 2
 | _=>none
def ltV (x y:PV):Bool:=match x.d,y.d with
 | some d,some e=>ltD d e == some true
 | _,_=>false
structure OkV (b:Bool) (ks:List PV):Prop where
 dat:∀ x∈ks,∃ xs ds,x=.tup xs/\PV.ds xs=some ds/\D.depths ds<=40
 hd:∃ t,((t == 2)=!b)/\t<=2/\∀ x∈ks,hdk x=some t
 can:∀ x∈ks,∀ y∈ks,∃ d e c,x.d=some d/\y.d=some e/\ltD d e=some c
 tr:∀ x∈ks,∀ y∈ks,∀ z∈ks,ltV y x=false->ltV z y=false->ltV z x=false
 as:∀ x∈ks,∀ y∈ks,ltV x y=true->ltV y x=false
 tot:∀ x∈ks,∀ y∈ks,ltV x y=false->ltV y x=false->x=y
end L2
namespace L2
open PySem PySem.Spec PyProof.Rows PySem.SeqAt
structure Mk0 (K:ag) (C:Addr):Prop where
 makes:PySem.W.makesIn K C=true
 init:d9 K (.ref C) "__init__" = some (some (.builtin "object.__init__"))
 kp:cw K (.ref C)=true
def OM (cn:Str):Me:=fun δ h=>.ok (.ref h.length) (h++[.ins cn []])
section
@[simp] theorem PQ {cn:Str} {δ:Ev} {h:PH}:OM cn δ h=.ok (.ref h.length) (h++[.ins cn []]):=(rfl)
end
end L2
namespace L2
open PySem PySem.Spec PyProof.Rows PySem.SeqAt PySem.W
open Classical in
noncomputable def yY (b:Bool) (m:Nat) (ks ys:List PV):Option (List PV):=if ks.length < 1000000/\ks.length=ys.length/\OkN m ks/\(∀ a∈ks.zip ys,∀ c∈ks.zip ys,a.1=c.1->a.2=c.2) then some ((PySem.W.katRev b (iI il (ks.zip ys))).map (·.2)) else none
noncomputable def eF (f:Fn) (b:Bool) (kb:Nat) (ys:List PV):List PV->List PV->PH->Rs PV
 | [],ks,h=>match yY b kb ks ys with
  | some zs=>.ok (.ref h.length) (h++[.lst zs])
  | none=>.bad
 | x :: xs,ks,h=>(f [x] h).bind fun k h1=>eF f b kb ys xs (ks++[k]) h1
noncomputable def F7 (f:Fn) (b:Bool) (kb:Nat) (x:PV) (h:PH):Rs PV:=match IW x h with
 | some ys=>if ys.length < 1000000 then eF f b kb ys ys [] h else .bad
 | none=>.bad
noncomputable def LF (f:Fn) (b:Bool) (kb:Nat) (me:Me):Me:=fun δ h=>(me δ h).bind fun x h1=>F7 f b kb x h1
section
variable {C:MC} {k:Nat} {X:Cx}
def Jf (C:MC) (X:Cx) (pins:List (Addr×Obj)) (σ:St) (φ:List Addr) (H:Hp) (f:Fn) (b:Bool) (kb:Nat) (ys:List PV) (Q:VK) (a z:Addr) (kS:Addr) (e1:Nat) (ks:List Value) (e:Nat) (s':Shared):Prop:=
 z < kS/\∃ H' φ' h' zs ps,Inv X (pins++[(kS,seqObj "list" ks.toArray e),(a,seqObj "list" #[] e1)]) σ H' s'/\φ<+:φ'/\Kp H H'/\RH C φ' H' h'/\aN zs ks/\RVs C φ' H' ps zs/\post C φ' H' (eF f b kb ys (ys.drop ks.length) ps h') Q
section
variable {x:Str} {st:Stmt} {q:Addr} {fd:dq} {pn:List Str} {j:Nat} {f:Fn}
theorem Gc {pins:List (Addr×Obj)} {σ:St} {φ:List Addr} {H:Hp} {b:Bool} {kb:Nat} {ys:List PV} {us:List V} {its:List Value} {Q:VK} {a:Addr} (c:Cxt C k X) (D:Def C.K X.mg x st q fd pn) (G:aU X.prog X.w C.K X.mg X.base CX0 j q fd pn (spM C 1 f)) (hj:j+2<=k)
  (ry:RVs C φ H ys us) (rv:aN us its) {A':Around} (eA:A'=X.A.in1.in1) (fr:∀ kS,a<=kS->X.s₀.heap.objs.size<=kS/\kS≠X.env.locals/\(∀ x c,X.env.cells.lookup x=some c->c≠kS)/\(∀ p∈X.pn++pins,p.1≠kS)/\kS∉X.fs)
  (kS:Addr) (e1:Nat) (ks:List Value) (e:Nat) (s':Shared) (y:Value) (hy:its[ks.length]?=some y) (hJ:Jf C X pins σ φ H f b kb ys Q a a kS e1 ks e s'):
  wpAny (model X.prog X.w) A' (call (.ref q) [y]) (fun v s''=>s''.heap.get? kS=some (seqObj "list" ks.toArray e)/\∀ (h':Heap) e',ja kS s''.heap h'->h'.get? kS=some (seqObj "list" (ks++[v]).toArray e')->Jf C X pins σ φ H f b kb ys Q a a kS e1 (ks++[v]) e' { s'' with heap:=h' }) (fun _ _=>False) s':=by
 subst eA;obtain ⟨hz,H',φ',h',zs,ps,I,pp,tt,rh,rz,rp,po⟩:=hJ;have hlt:ks.length < its.length:=(af.mp hy).1;have hlu:us.length=its.length:=rv.length;have hly:ys.length=us.length:=ry.length;have gy:ys[ks.length]?=some (ys[ks.length]'(by omega)):=by simp
 obtain ⟨u,hu,ru⟩:=ry.at gy;obtain ⟨y',hy',ryv⟩:=rv.get hu;rw [hy] at hy';cases hy'
 have hd:ys.drop ks.length=ys[ks.length]'(by omega) :: ys.drop (ks.length+1):=drop_cons gy;rw [hd] at po;have e1':=c.K;have G':aU X.prog X.w X.K X.mg X.base CX0 j q fd pn (spM C 1 f):=by rw [e1']; exact G
 have D':Def X.K X.mg x st q fd pn:=by rw [e1']; exact D
 have sp1:spM C 1 f [u] H' (fun v H2=>∃ φ2 p h2,φ'<+:φ2/\Kp H' H2/\RH C φ2 H2 h2/\RV C φ2 H2 p v/\post C φ2 H2 (eF f b kb ys (ys.drop (ks.length+1)) (ps++[p]) h2) Q) E0:=
  ⟨φ',h',[ys[ks.length]'(by omega)],rh,⟨ru.mono pp tt,trivial⟩,rfl,post.bind po⟩
 have hl:([y]:List Value).length=pn.length:=G'.len _ _ _ _ sp1;refine wpAny_call (codeAny_mono (G'.run X.A.in1.in1 X.stack s' H' ⟨[y],[]⟩ [y] [u] _ E0 ((c.room.mono hj).in1.in1) I.env0.in1.in1 (by
  have:=D'.bd s' [y] I.kIn (by simpa using hl)
  simpa using this) (.cons ryv .nil) sp1) fun r s2 hq=>?_)
 cases r with
 | error e=>exact hq.elim
 | ok fl=>
  cases fl with
  | next=>exact i3 hq
  | brk=>exact i3 hq
  | cont=>exact i3 hq
  | ret v=>
   obtain ⟨x2,H2,I2,rx2,φ2,p2,h2,pp2,tt2,rh2,rp2,po2⟩:=I.after hq;have gk:=I2.pin (kS,seqObj "list" ks.toArray e) (ah _ (ah _ ax));have ga:=I2.pin (a,seqObj "list" #[] e1) (ah _ (ah _ (ao _ ax)));refine ⟨gk.1,fun g e' sb he'=>?_⟩;have fk:=fr kS (ki hz);have nak:a≠kS:=ba hz;have I3:Inv X (pins++[(a,seqObj "list" #[] e1)]) σ H2 s2:=I2.pins_of fun p hp=>(bh.mp hp).elim (fun z=>I2.pin p (ah _ (cu _ z))) fun z=>by
    rw [c8.mp z]; exact ga
   have I4:=I3.turned (t':=s2.toks) (it:=kS) (h':=g) (fun b' o' hb hq=>(sb.2 b' hb).trans hq) gk.2.1 fk.2.1 (.inr fk.1) fk.2.2.1 (fun p hp=>by
    rcases bh.mp hp with hp | hp
    ·exact fk.2.2.2.1 p (cu _ hp)
    ·rcases bh.mp hp with hp | hp
     ·exact fk.2.2.2.1 p (ah _ hp)
     ·rw [c8.mp hp]; exact nak)
   refine ⟨hz,H2,φ2,h2,zs++[x2],ps++[p2],I4.pins_of fun p hp=>?_,pp.trans pp2,tt.trans tt2,rh2,rz.append (.cons rx2 .nil),(rp.mono pp2 tt2).snoc rp2,?_⟩
   ·rcases bh.mp hp with hp | hp
    ·exact I4.pin p (ah _ (cu _ hp))
    ·rcases bw.mp hp with rfl | hp
     ·exact ⟨he',gk.2.1,fk.2.1,fk.2.2.2.2,kK⟩
     ·rw [c8.mp hp];exact I4.pin _ (ah _ (ah _ ax))
   ·rw [bo];exact po2
theorem BU {b:Bool} {kb:Nat} {kss:List PV} {ys:List PV} (hl:kss.length=ys.length) (ok:OkN kb kss) (cs:∀ a∈kss.zip ys,∀ c∈kss.zip ys,a.1=c.1->a.2=c.2) {p:List Nat} (hp:p.Perm (d0 ys.length))
  (ho:p.Pairwise (fun i j=>(if b then ltN (kss.getD i .non) (kss.getD j .non) else ltN (kss.getD j .non) (kss.getD i .non))=false)):p.map (fun i=>ys.getD i .non)=(PySem.W.katRev b (iI il (kss.zip ys))).map (·.2):=by
 let zs:=kss.zip ys;have hzl:zs.length=ys.length:=by show (kss.zip ys).length=_; simp [hl]
 have hin:∀ i∈p,i < ys.length:=fun i hi=>by simpa using hp.mem_iff.mp hi
 have eg:∀ i,i < ys.length->zs.getD i (.non,.non)=(kss.getD i .non,ys.getD i .non):=fun i hi=>by
  have h1:i < kss.length:=by omega
  have h2:i < zs.length:=by omega
  have h3:(kss.zip ys)[i]?=some (kss[i],ys[i]):=by
   rw [i6];exact ⟨by simp [h1],by simp [hi]⟩
  show (kss.zip ys).getD i _=_
  simp [h1,hi,h3]
 have hpz:(p.map fun i=>zs.getD i (.non,.non)).Perm zs:=FW (by rw [hzl]; exact hp);have hm:zs.map (·.1)=kss:=by
  show (kss.zip ys).map il=kss
  exact List.map_fst_zip (by omega)
 have hsz:∀ y∈zs,y.1∈kss:=fun y hy=>by rw [<- hm]; exact dt.mpr ⟨y,hy,rfl⟩
 have inj:∀ a∈zs,∀ c∈zs,enc (il a)=enc (il c)->a=c:=fun a ha c hc e=>by
  have e1:=ok.inj _ (hsz a ha) _ (hsz c hc) e;exact Prod.ext e1 (cs a ha c hc e1)
 have e2:p.map (fun i=>ys.getD i .non)=(p.map fun i=>zs.getD i (.non,.non)).map (·.2):=by
  rw [j4];exact mz fun i hi=>by show _=(zs.getD i _).2; rw [eg i (hin i hi)]
 rw [e2];have key:∀ (R:Nat->Nat->Bool),p.Pairwise (fun i j=>R i j=false)->(∀ i j,i < ys.length->j < ys.length->R i j=ltN (zs.getD j (.non,.non)).1 (zs.getD i (.non,.non)).1)->(p.map fun i=>zs.getD i (.non,.non)).Pairwise (fun x y=>ltN y.1 x.1=false):=fun R h1 h2=>by
  rw [List.pairwise_map];exact h1.imp_of_mem fun {i j} hi hj h=>by rw [<- h2 i j (hin i hi) (hin j hj)]; exact h
 cases b with
 | false=>
  congr 1
  refine yU il inj hpz (key (fun i j=>ltN (kss.getD j .non) (kss.getD i .non)) ho fun i j hi hj=>by rw [eg i hi,eg j hj])
 | true=>
  congr 1
  have hr:(p.map fun i=>zs.getD i (.non,.non)).reverse=iI il zs:=by
   refine yU il inj ((gq _).trans hpz) ?_;rw [gh,List.pairwise_map];exact ho.imp_of_mem fun {i j} hi hj h=>by
    rw [eg i (hin i hi),eg j (hin j hj)];exact h
  show _=(iI il zs).reverse
  rw [<- hr,List.reverse_reverse]
end
end
section
variable {α:Type}
theorem LG {key emb:α->PV} {xs:List α} {m:Nat} (h1:xs.length < 1000000) (ok:OkN m (xs.map key)) (hc:∀ a∈xs,∀ c∈xs,key a=key c->emb a=emb c):∃ os:List α,os.Perm xs/\os.Pairwise (fun a c=>ltN (key c) (key a)=false)/\yY false m (xs.map key) (xs.map emb)=some (os.map emb):=by
 have ez:(xs.map key).zip (xs.map emb)=xs.map fun x=>(key x,emb x):=by
  induction xs with
  | nil=>rfl
  | cons x xs ih=>simp only [cy,List.zip_cons_cons]; rw [ih (by simp at h1; omega) ⟨ok.m3,fun y hy=>ok.ky y (ao _ hy),fun y hy=>ok.fk y (ao _ hy),fun y hy z hz=>ok.lt y (ao _ hy) z (ao _ hz)⟩ (fun a ha c hc'=>hc a (ao _ ha) c (ao _ hc'))]
 have insm:∀ (x:α) (ys:List α),vF il (key x,emb x) (ys.map fun y=>(key y,emb y))=(vF key x ys).map fun y=>(key y,emb y):=fun x ys=>by
  induction ys with
  | nil=>rfl
  | cons y ys ih=>
   show (if ltN (key y) (key x)=true then (key y,emb y) :: vF il (key x,emb x) (ys.map fun y=>(key y,emb y)) else (key x,emb x) :: (key y,emb y) :: ys.map fun y=>(key y,emb y))=(if ltN (key y) (key x)=true then y :: vF key x ys else x :: y :: ys).map fun y=>(key y,emb y)
   split
   ·rw [ih]; rfl
   ·rfl
 have srt:∀ ys:List α,iI il (ys.map fun y=>(key y,emb y))=(iI key ys).map fun y=>(key y,emb y):=fun ys=>by
  induction ys with
  | nil=>rfl
  | cons y ys ih=>
   show vF il (key y,emb y) (iI il (ys.map fun y=>(key y,emb y)))=_
   rw [ih,insm];rfl
 refine ⟨iI key xs,jB key xs,jC key xs,?_⟩;unfold yY;rw [if_pos ⟨by simpa using h1,by simp,ok,fun a ha c hc' e=>by
  rw [ez] at ha hc';obtain ⟨x,hx,rfl⟩:=dt.mp ha;obtain ⟨y,hy,rfl⟩:=dt.mp hc';exact hc x hx y hy e⟩,ez,srt]
 show some (((iI key xs).map fun y=>(key y,emb y)).map Prod.snd)=_
 rw [j4];rfl
theorem F8 {key emb:α->PV} {f:Fn} {m:Nat} {ys zs:List PV} {Q:PV->PH->Prop}:∀ (r done:List α) (h:PH),(∀ d∈r,∀ h (Q:PV->PH->Prop),(∀ h',Ext h h'->Q (key d) h')->(f [emb d] h).W Q)->
  yY false m ((done++r).map key) ys=some zs->(∀ h',Ext h h'->Q (.ref h'.length) (h'++[.lst zs]))->(eF f false m ys (r.map emb) (done.map key) h).W Q
 | [],done,h,_,hs,k=>by
  rw [e7] at hs;simp only [o7,eF,hs,mZ];exact k h (Ext.refl h)
 | x :: r,done,h,hf,hs,k=>by
  rw [cy];unfold eF;rw [fS];refine hf x ax h _ fun h1 x1=>?_;have e:done.map key++[key x]=(done++[x]).map key:=by simp
  rw [e];exact F8 r (done++[x]) h1 (fun d hd=>hf d (ao _ hd)) (by rw [aq]; exact hs) fun h' x2=>k h' (x1.trans x2)
end
section
variable {δ:Ev} {h:PH} {m:Me}
@[simp] theorem ON {f:Fn} {b:Bool} {n:Nat}:LF f b n m δ h=(m δ h).bind fun x h1=>F7 f b n x h1:=(rfl)
end
end L2
namespace L2
open PySem PySem.Spec PyProof.Rows PySem.SeqAt
open PySem.AutoSeq1 (wpAny_loadPart')
open PySem.MeetsSeq PySem.MeetsSeq2 PySem.MeetsSeq3
section
variable {C:MC} {k:Nat} {X:Cx}
def Tv:PV->PV->PH->Rs PV:=fun x y h=>match x,y with
 | .tup xs,.tup ys=>ofB (if (PV.tup xs).d.all (fun d=>decide (d.depth<=40)) then (Oy (.tup ys) (.tup xs)).map (!·) else none) h
 | x,y=>vLe x y h
variable {h:PH}
@[simp] theorem Rm {i j:Int}:Tv (.int i) (.int j) h=.ok (.bl (decide (i<=j))) h:=(rfl)
end
end L2
namespace L2
open PySem PySem.Spec PyProof.Rows PySem.SeqAt PySem.W
theorem vL {κ β:Type} [DecidableEq κ] {k:κ} {p:β}:∀ {xs:List (κ×β)} {j:Nat},(xs.map (·.1)).Nodup->xs[j]?=some (k,p)->xs.eraseIdx j=xs.filter fun x=>decide (x.1≠k)
 | [],j,_,h=>by simp at h
 | x :: r,0,hn,h=>by
  simp only [List.getElem?_cons_zero,Option.some.injEq] at h;subst h;rw [cy,jc] at hn;rw [List.eraseIdx_cons_zero,List.filter_cons];simp only [ne_eq,not_true_eq_false,decide_false,c9,if_false]
  symm
  rw [List.filter_eq_self];intro y hy;exact decide_eq_true fun e=>hn.1 (dt.mpr ⟨y,hy,e⟩)
 | x :: r,j+1,hn,h=>by
  rw [d7] at h;rw [cy,jc] at hn;have hx:¬ x.1=k:=fun e=>hn.1 (e ▸ dt.mpr ⟨(k,p),fe h,rfl⟩);rw [List.eraseIdx_cons_succ,List.filter_cons,vL hn.2 h];simp [hx]
theorem vM {α β:Type} (f:α->β):∀ (l:List α) (i:Nat),(l.map f).eraseIdx i=(l.eraseIdx i).map f
 | [],i=>by simp
 | x :: r,0=>rfl
 | x :: r,i+1=>by
  rw [cy,List.eraseIdx_cons_succ,List.eraseIdx_cons_succ,cy,vM f r i]
section
variable {prog:Program} {w:World} {A:Around} {E:Value->Shared->Prop} {s:Shared} {K:Type} [DecidableEq K] {knd:HeapKind prog w K}
theorem Ah {d a:Addr} {xs:List (K×Addr×Value)} {k:K} {p:Addr×Value} {Q:Option ie->Shared->Prop} (hu:knd.room A) (hkey:knd.is s.heap k a) (hm:s.heap.DictOfH knd d xs) (hp:atKey xs k=some p) (hz:xs.length<=aw)
  (h:∀ h',h'.DictOfH knd d (xs.filter fun x=>decide (x.1≠k))->ja d s.heap h'->Q (some (entryOfKey knd (k,p))) { s with heap:=h',toks:=s.toks+knd.draws k }):
  wpAny (model prog w) A (Builtin.Dict.takeOut d (.ref a)) Q E s:=by
 obtain ⟨o,es,ep,ho,hc,hd,he,his,hn⟩:=hm;unfold Builtin.Dict.takeOut
 try with_reducible refine gp ?_
 refine aa (knd.pyHash hu hkey ?_);refine aa (wpAny_dictFind_heap (s:={ s with toks:=s.toks+knd.draws k }) hu hkey ho hd he his hn ?_ ?_)
 ·intro hno;rw [atKey_none_of_get hno] at hp;cases hp
 ·intro j q hj;have e1:=atKey_of_get hn hj;rw [hp] at e1;cases e1
  refine aa (f7 (s:={ s with toks:=s.toks+knd.draws k }) ho hd ?_);rw [entry_at he j,hj];refine aa (wpAny_updateDictKeys (hz:=by have e:=size_of_entries he; omega) (hf:=by
   have:(es.eraseIdxIfInBounds j).size<=es.size:=by
    obtain ⟨l⟩:=es;simp only [List.eraseIdxIfInBounds_toArray,av];exact List.length_eraseIdx_le _ _
   exact Nat.le_succ_of_le this) (s:={ s with toks:=s.toks+knd.draws k }) ho hd (ab (h _ ⟨_,_,ep+1,fg _ ho (Obj.isFreed_of_dict (Obj.data_mapDictKeys hd _)),
   hc.mapDictKeys _,Obj.data_mapDictKeys hd _,?_,?_,?_⟩ (dw ..))))
  ·rw [Array.toList_eraseIdxIfInBounds,he,<- vL hn hj,vM]
  ·intro x hx;exact knd.keeps (his x (o9.mp hx).1) ho hd (dw ..)
  ·exact (List.Sublist.map _ List.filter_sublist).nodup hn
theorem vN (knd:HeapKind prog w K) (d a:Addr):MeetsIn prog w (Builtin.«dict.pop» ⟨[.ref d,.ref a],[]⟩) (fun A R s=>knd.room A.in1/\∃ k xs p,knd.is s.heap k a/\s.heap.DictOfH knd d xs/\xs.length<=aw/\atKey xs k=some p/\
   ∀ h',h'.DictOfH knd d (xs.filter fun x=>decide (x.1≠k))->ja d s.heap h'->R (.ok (.ret p.2)) { s with heap:=h',toks:=s.toks+knd.draws k }):=
 .of_wp fun A R s ⟨hu,k,xs,p,hkey,hm,hz,hp,r⟩=>by
  unfold Builtin.«dict.pop»;refine aa ?_;unfold Builtin.Dict.keyAndDefault;refine aa (kn hm.typeIs (show wpAny _ _ (pure (d,bx a,none)) _ _ s from ab ?_))
  have kp:(keyPart (bx a)).isSome=false:=rfl;simp only [kp,c9,if_false];obtain ⟨o,es,ep,ho,hc,hd,he,his,hn⟩:=id hm;have ne:es.isEmpty=false:=by
   have e1:=size_of_entries he;cases xs with
   | nil=>cases hp
   | cons x t=>
    rw [cz] at e1;have:es≠#[]:=fun e=>by rw [e] at e1; cases e1
    simpa using this
  refine aa (f7 ho hd ?_);rw [ne];refine aa (ab ?_);simp only [c9,if_false];refine aa (Ah hu hkey hm hp hz fun h' q1 q2=>?_);simp only [Option.isNone_some,c9,if_false];exact aa (wpAny_letGo (ab ⟨_,rfl,r h' q1 q2⟩))
end
section
variable {C:MC} {k:Nat} {X:Cx}
def yZ:PV->List PV->PH->Rs PV:=fun x ps h=>match x,ps with
 | .ref n,[y]=>if y.isKt=true then match bA h n with
   | some kvs=>match cE kvs y with
    | some p=>.ok p (h.set n (.dD (sC kvs y)))
    | none=>.bad
   | none=>.bad
  else .bad
 | _,_=>.bad
theorem HD.drop {φ:List Addr} {H:Hp} {kvs:List (PV×PV)} {ks:List (PV×Addr×V)} {xs:List (PV×Addr×Value)} (r:RKd C φ H kvs ks) (rx:qM ks xs) (y:PV):∃ ks',RKd C φ H (sC kvs y) ks'/\qM ks' (xs.filter fun x=>decide (x.1≠y)):=by
 unfold RKd at r;unfold RKd
 induction r generalizing xs with
 | nil=>cases rx; exact ⟨[],.nil,.nil⟩
 | @cons p q ps qs h t ih=>
  cases rx with
  | @cons _ z _ zs hz tz=>
   obtain ⟨ks',i1,i2⟩:=ih tz;have eq1:p.1=q.1:=h.1;have eq2:q.1=z.1:=hz.1;unfold sC;rw [List.filter_cons,List.filter_cons]
   by_cases e:p.1=y
   ·have e':z.1=y:=by rw [<- eq2,<- eq1]; exact e
    simp only [e,e',ne_eq,not_true_eq_false,decide_false,c9,if_false];exact ⟨ks',i1,i2⟩
   ·have e':¬ z.1=y:=fun w=>e (by rw [eq1,eq2]; exact w);simp only [e,e',ne_eq,not_false_eq_true,decide_true,if_true];exact ⟨q :: ks',.cons h i1,.cons hz i2⟩
theorem LH (c:Cxt C k X):MtR X "dict.pop" (rM C yZ):=fun pins s σ H x xs v us Q I rx rs h=>by
 obtain ⟨φ,h,p,ps,rh,rp,rps,po⟩:=h;unfold yZ at po;split at po
 ·rename_i n y;obtain ⟨a,rfl,ha⟩:=rp;cases rx
  obtain ⟨yv,rfl,ry⟩:=rps.one;obtain ⟨yu,rfl,ryu⟩:=vals1 rs;obtain ⟨hk,po⟩:=po.ite;split at po
  ·rename_i kvs ht;obtain ⟨b,rfl⟩:=lI hk ry;cases ryu
   obtain ⟨⟨ks,xs,r,rx',hz,hm,dd⟩,mu,nt⟩:=uZ I c.K c.w rh ha ht;have hv:=HD.val (a:=a) r rx' y;cases e2:cE kvs y with
   | none=>rw [e2] at po; exact po.elim
   | some p2=>
    rw [e2] at hv po;cases e3:atKey xs y with
    | none=>rw [e3] at hv; exact hv.elim
    | some z=>
     rw [e3] at hv;obtain ⟨v',rv1,rv2⟩:=hv;refine call_meetsIn PySem.F.slot_dict_pop dd.typeIs PySem.F.entry_dict_pop (PySem.F.args_dict_pop_2 _ _) (vN (rV X.prog X.w) a b) ⟨c.room6,y,xs,z,yR I c.K hk ry,dd,hz,e3,fun h' dd' hs=>?_⟩;obtain ⟨ks',r1,r2⟩:=HD.drop r rx' y;obtain ⟨o,es,ep,hq,h2,h3,h4,_,h5⟩:=dd';have hl2:ks'.length<=aw:=by
      have e1:=d5 r1;have e4:=d5 r;have e5:=d5 rx';have e6:(sC kvs y).length<=kvs.length:=by unfold sC; exact n6 _ _
      omega
     refine ⟨v',upd H a (dDO C.w a ks'),tE I mu hs ⟨o,hq⟩ ⟨⟨hl2,hm,_,r2,o,es,ep,hq,h2,h3,?_,h5⟩,⟨o,hq⟩,?_⟩,rv1,?_⟩
     ·rw [h4,<- c.w]; rfl
     ·rintro g1 g2 ⟨z1,z2,ws,z3,o',es',ep',z4,z5⟩ keep;exact ⟨z1,z2,ws,z3,o',es',ep',keep _ z4,z5⟩
     ·exact po φ v' _ ai (Kp.upd nt) (rh.write ha nt ⟨ks',aK,RKd.mono ai (Kp.upd nt) r1⟩) (rv2.mono ai (Kp.upd nt))
  ·exact po.elim
 ·exact po.elim
theorem OO:MtG C k X "dict" cB "dict.pop" yZ:=fun c=>⟨LH c,BI c⟩
theorem Jg {h:PH} {n:Nat} {kvs:List (PV×PV)} {y p:PV} (ht:bA h n=some kvs) (hk:y.isKt=true) (e:cE kvs y=some p):yZ (.ref n) [y] h=.ok p (h.set n (.dD (sC kvs y))):=by
 unfold yZ;simp only [hk,if_true,ht,e]
end
end L2
namespace L2
open PySem PySem.Spec PyProof.Rows
structure ZA (z TI TO i1 i2:Addr) (f1 f2:List Addr):Prop where
 TIz:TI≠z
 TOz:TO≠z
 i1z:i1≠z
 i2z:i2≠z
 TITO:TI≠TO
 TIi1:TI≠i1
 TIi2:TI≠i2
 TOi1:TO≠i1
 TOi2:TO≠i2
 i12:i1≠i2
 a1:∀ b∈f1,b≠z/\b≠TO/\b≠i2
 a2:∀ b∈f2,b≠z/\b≠TO/\b≠i1
section
variable {prog:Program} {w:World} {A:Around} {E:Value->Shared->Prop} {s:Shared} {z TI TO i1 i2:Addr} {f1 f2:List Addr} {n1 n2:Nat} {P1 P2:Nat->Value->Prop} {S1 S2:Nat->Heap->Prop}
theorem LJ (D1:Draws prog w A i1 f1 n1 P1 S1) (D2:Draws prog w A i2 f2 n2 P2 S2) (Z:ZA z TI TO i1 i2 f1 f2) {k:Nat} {a b:Value} {Q:Value->Shared->Prop}
  (hz:IsZip s.heap z TI TO .none) (hTI:IsPair s.heap TI (.ref i1) (.ref i2)) (hTO:IsPair s.heap TO a b) (s1:S1 k s.heap) (s2:S2 k s.heap) (k1:k < n1) (k2:k < n2)
  (hQ:∀ x y h' tk,P1 k x->P2 k y->IsZip h' z TI TO (rawInt s.heap.objs.size)->IsPair h' TO x y->S1 (k+1) h'->S2 (k+1) h'->IsPair h' s.heap.objs.size x y->h'.objs.size=s.heap.objs.size+1->
   (∀ c o,c≠z->c≠TO->c≠i1->c≠i2->s.heap.get? c=some o->h'.get? c=some o)->Q (.ref s.heap.objs.size) { s with heap:=h',toks:=tk }):
  wpAny (model prog w) A (Builtin.«zip.__next__» ⟨[.ref z],[]⟩) (fun fin s'=>∃ v,fin=.done (.ret v)/\Q v s') E s:=by
 show wpAny _ _ (field (.ref z) 2 >>= _) _ _ _
 refine aa (gr hz rfl (x:=.bool false) rfl ?_)
 show wpAny _ _ (field (.ref z) 3 >>= _) _ _ _
 refine aa (gr hz rfl (x:=.ref TI) rfl ?_);refine aa (i7 hTI rfl ?_)
 show wpAny _ _ (gz (.ref z) >>= _) _ _ _
 refine aa ?_;unfold gz;refine aa (gr hz rfl (x:=.none) rfl (ab ?_));simp only [if_true];refine aa (m5 ?_);refine aa (gr hz rfl (x:=.ref TO) rfl ?_);refine aa (kr hz (by simp) fun h₁ hz₁ hs₁=>?_)
 replace hz₁:IsZip h₁ z TI TO .ellipsis:=hz₁
 have e1:=hs₁.extBut;have s1a:S1 k h₁:=D1.frame _ _ _ s1 fun b hb o e=>e1 b o (Z.a1 b hb).1 e;have s2a:S2 k h₁:=D2.frame _ _ _ s2 fun b hb o e=>e1 b o (Z.a2 b hb).1 e;refine aa ?_;simp only [List.zipIdx_cons,List.zipIdx_nil,List.forIn_cons,List.forIn_nil];refine aa (aa (wpAny_onRaise ?_))
 show wpAny _ _ (kz (.ref i1) >>= _) _ _ _
 refine aa (D1.item k _ _ _ k1 s1a fun x h₂ t2 px s1b hs₂=>ab ?_);have e2:=hs₂.extBut;have s2b:S2 k h₂:=D2.frame _ _ _ s2a fun b hb o e=>e2 b o (Z.a2 b hb).2.2 e;have hTO₂:IsPair h₂ TO a b:=e2 _ _ Z.TOi1 (e1 _ _ Z.TOz hTO);refine aa (i7 hTO₂ rfl ?_);refine aa (wpAny_updateSeq_pair hTO₂ fun h₃ hTO₃ hs₃=>?_)
 replace hTO₃:IsPair h₃ TO x b:=hTO₃
 have e3:=hs₃.extBut;have s1c:S1 (k+1) h₃:=D1.frame _ _ _ s1b fun b hb o e=>e3 b o (Z.a1 b hb).2.1 e;have s2c:S2 k h₃:=D2.frame _ _ _ s2b fun b hb o e=>e3 b o (Z.a2 b hb).2.1 e;refine aa (wpAny_letGo (ab ?_));refine aa (aa (wpAny_onRaise ?_))
 show wpAny _ _ (kz (.ref i2) >>= _) _ _ _
 refine aa (D2.item k _ _ _ k2 s2c fun y h₄ t4 py s2d hs₄=>ab ?_);have e4:=hs₄.extBut;have s1d:S1 (k+1) h₄:=D1.frame _ _ _ s1c fun b hb o e=>e4 b o (Z.a1 b hb).2.2 e;have hTO₄:IsPair h₄ TO x b:=e4 _ _ Z.TOi2 hTO₃;refine aa (i7 hTO₄ rfl ?_);refine aa (wpAny_updateSeq_pair hTO₄ fun h₅ hTO₅ hs₅=>?_)
 replace hTO₅:IsPair h₅ TO x y:=hTO₅
 have e5:=hs₅.extBut;refine aa (wpAny_letGo (ab (ab ?_)));refine aa (i7 hTO₅ rfl ?_);refine aa (wpAny_newTuple ?_);have hsz:h₅.objs.size=s.heap.objs.size:=by
  have q4:=hs₄.1; have q3:=hs₃.1; have q2:=hs₂.1; have q1:=hs₁.1;rw [hs₅.1];exact q4.trans (q3.trans (q2.trans q1))
 have hz₅:IsZip h₅ z TI TO .ellipsis:=e5 _ _ Z.TOz.symm (e4 _ _ Z.i2z.symm (e3 _ _ Z.TOz.symm (e2 _ _ Z.i1z.symm hz₁)));have hk₅:∀ c o,c≠z->c≠TO->c≠i1->c≠i2->s.heap.get? c=some o->h₅.get? c=some o:=fun c o c1 c2 c3 c4 e=>e5 _ _ c2 (e4 _ _ c4 (e3 _ _ c2 (e2 _ _ c3 (e1 _ _ c1 e))));have s1e:S1 (k+1) h₅:=D1.frame _ _ _ s1d fun b hb o e=>e5 b o (Z.a1 b hb).2.1 e;have s2e:S2 (k+1) h₅:=D2.frame _ _ _ s2d fun b hb o e=>e5 b o (Z.a2 b hb).2.1 e;have hzlt:z < h₅.objs.size:=ak hz₅
 show wpAny _ _ (oq (.ref z) (.ref h₅.objs.size) >>= _) _ _ _
 refine aa ?_;unfold oq;have hz₆:IsZip (h₅.push { cls:=.type "tuple",data:=.seq #[x,y] }) z TI TO .ellipsis:=ae _ hz₅;refine aa (kr hz₆ (by simp) fun h₇ hz₇ hs₇=>?_)
 replace hz₇:IsZip h₇ z TI TO (rawInt h₅.objs.size):=hz₇
 refine kr hz₇ (by simp) fun h₈ hz₈ hs₈=>?_
 replace hz₈:IsZip h₈ z TI TO (rawInt h₅.objs.size):=hz₈
 have up:∀ c o,c≠z->h₅.get? c=some o->h₈.get? c=some o:=fun c o c1 e=>hs₈.extBut _ _ c1 (hs₇.extBut _ _ c1 (ae _ e));have hT₈:IsPair h₈ h₅.objs.size x y:=hs₈.extBut _ _ (ft hzlt) (hs₇.extBut _ _ (ft hzlt) (aj _ rfl));have hz8:h₈.objs.size=h₅.objs.size+1:=by rw [hs₈.1,hs₇.1,gj]
 rw [hsz] at hz₈ hT₈ hz8;refine ab ⟨_,rfl,?_⟩
 show Q (.ref h₅.objs.size) _
 rw [hsz];exact hQ x y h₈ _ px py hz₈ (up _ _ Z.TOz hTO₅) (D1.frame _ _ _ s1e fun b hb o e=>up b o (Z.a1 b hb).1 e) (D2.frame _ _ _ s2e fun b hb o e=>up b o (Z.a2 b hb).1 e) hT₈ hz8 fun c o c1 c2 c3 c4 e=>up c o c1 (hk₅ c o c1 c2 c3 c4 e)
theorem OP (D1:Draws prog w A i1 f1 n1 P1 S1) (D2:Draws prog w A i2 f2 n2 P2 S2) (Z:ZA z TI TO i1 i2 f1 f2) {k:Nat} {a b:Value} {Q:PySem.Fin->Shared->Prop}
  (hz:IsZip s.heap z TI TO .none) (hTI:IsPair s.heap TI (.ref i1) (.ref i2)) (hTO:IsPair s.heap TO a b) (s1:S1 k s.heap) (s2:S2 k s.heap) (hk:k=n1\/k < n1/\k=n2)
  (hE:∀ h' e tk,(∀ c o,c≠z->c≠TO->c≠i1->c≠i2->s.heap.get? c=some o->h'.get? c=some o)->(∃ o,h'.get? e=some o/\o.cls=.type "StopIteration")->E (.ref e) { s with heap:=h',toks:=tk }):
  wpAny (model prog w) A (Builtin.«zip.__next__» ⟨[.ref z],[]⟩) Q E s:=by
 show wpAny _ _ (field (.ref z) 2 >>= _) _ _ _
 refine aa (gr hz rfl (x:=.bool false) rfl ?_)
 show wpAny _ _ (field (.ref z) 3 >>= _) _ _ _
 refine aa (gr hz rfl (x:=.ref TI) rfl ?_);refine aa (i7 hTI rfl ?_)
 show wpAny _ _ (gz (.ref z) >>= _) _ _ _
 refine aa ?_;unfold gz;refine aa (gr hz rfl (x:=.none) rfl (ab ?_));simp only [if_true];refine aa (m5 ?_);refine aa (gr hz rfl (x:=.ref TO) rfl ?_);refine aa (kr hz (by simp) fun h₁ hz₁ hs₁=>?_)
 replace hz₁:IsZip h₁ z TI TO .ellipsis:=hz₁
 have e1:=hs₁.extBut;have s1a:S1 k h₁:=D1.frame _ _ _ s1 fun b hb o e=>e1 b o (Z.a1 b hb).1 e;have s2a:S2 k h₁:=D2.frame _ _ _ s2 fun b hb o e=>e1 b o (Z.a2 b hb).1 e;refine aa ?_;simp only [List.zipIdx_cons,List.zipIdx_nil,List.forIn_cons,List.forIn_nil];refine aa (aa (wpAny_onRaise ?_))
 show wpAny _ _ (kz (.ref i1) >>= _) _ _ _
 rcases hk with rfl | ⟨k1,rfl⟩
 ·refine aa (D1.done _ _ _ s1a fun h₂ e hs₂ he=>?_);obtain ⟨oe,hoe,hce⟩:=he;have hz₂:IsZip h₂ z TI TO .ellipsis:=hs₂ _ _ Z.i1z.symm hz₁;have hez:e≠z:=fun x=>by subst x; rw [hz₂] at hoe; cases hoe; simp at hce
  exact kr hz₂ (by simp) fun h₃ _ hs₃=>hE h₃ e _ (fun c o c1 _ c3 _ x=>hs₃.extBut _ _ c1 (hs₂ _ _ c3 (e1 _ _ c1 x))) ⟨oe,hs₃.extBut _ _ hez hoe,hce⟩
 ·refine aa (D1.item k _ _ _ k1 s1a fun x h₂ t2 px s1b hs₂=>ab ?_);have e2:=hs₂.extBut;have s2b:S2 k h₂:=D2.frame _ _ _ s2a fun b hb o e=>e2 b o (Z.a2 b hb).2.2 e;have hTO₂:IsPair h₂ TO a b:=e2 _ _ Z.TOi1 (e1 _ _ Z.TOz hTO);refine aa (i7 hTO₂ rfl ?_);refine aa (wpAny_updateSeq_pair hTO₂ fun h₃ hTO₃ hs₃=>?_);have e3:=hs₃.extBut;have s2c:S2 k h₃:=D2.frame _ _ _ s2b fun b hb o e=>e3 b o (Z.a2 b hb).2.1 e;refine aa (wpAny_letGo (ab ?_));refine aa (aa (wpAny_onRaise ?_))
  show wpAny _ _ (kz (.ref i2) >>= _) _ _ _
  refine aa (D2.done _ _ _ s2c fun h₄ e hs₄ he=>?_);obtain ⟨oe,hoe,hce⟩:=he;have hz₄:IsZip h₄ z TI TO .ellipsis:=hs₄ _ _ Z.i2z.symm (e3 _ _ Z.TOz.symm (e2 _ _ Z.i1z.symm hz₁));have hez:e≠z:=fun x=>by subst x; rw [hz₄] at hoe; cases hoe; simp at hce
  exact kr hz₄ (by simp) fun h₅ _ hs₅=>hE h₅ e _ (fun c o c1 c2 c3 c4 x=>hs₅.extBut _ _ c1 (hs₄ _ _ c4 (e3 _ _ c2 (e2 _ _ c3 (e1 _ _ c1 x))))) ⟨oe,hs₅.extBut _ _ hez hoe,hce⟩
end
section
variable {prog:Program} {w:World} {A:Around} {E:Value->Shared->Prop} {s:Shared} {z TI TO i1 i2:Addr} {f1 f2:List Addr} {n1 n2:Nat} {P1 P2:Nat->Value->Prop} {S1 S2:Nat->Heap->Prop}
theorem Jh (hh:A.handled=none) (D1:∀ A:Around,A.handled=none->Draws prog w A i1 f1 n1 P1 S1) (D2:∀ A:Around,A.handled=none->Draws prog w A i2 f2 n2 P2 S2) (Z:ZA z TI TO i1 i2 f1 f2) {k:Nat} {a b:Value} {Q:Option Value->Shared->Prop}
  (hz:IsZip s.heap z TI TO .none) (hTI:IsPair s.heap TI (.ref i1) (.ref i2)) (hTO:IsPair s.heap TO a b) (s1:S1 k s.heap) (s2:S2 k s.heap) (k1:k < n1) (k2:k < n2)
  (hQ:∀ x y h' tk,P1 k x->P2 k y->IsZip h' z TI TO (rawInt s.heap.objs.size)->IsPair h' TO x y->S1 (k+1) h'->S2 (k+1) h'->IsPair h' s.heap.objs.size x y->h'.objs.size=s.heap.objs.size+1->
   (∀ c o,c≠z->c≠TO->c≠i1->c≠i2->s.heap.get? c=some o->h'.get? c=some o)->Q (some (.ref s.heap.objs.size)) { s with heap:=h',toks:=tk }):
  wpAny (model prog w) A (pyNext (.ref z)) Q E s:=by
 have hT:s.TypeIs (.ref z) "zip" := ⟨_,hz,rfl⟩;unfold pyNext;exact aa (jz (d6 (name:=ic "__next__") hT n8
  (en n8 hT PySem.F.entry_zip_next
   (LJ (D1 A.in1 hh) (D2 A.in1 hh) Z hz hTI hTO s1 s2 k1 k2 fun x y h' tk a1 a2 a3 a4 a5 a6 a7 a8 a9=>ab (hQ x y h' tk a1 a2 a3 a4 a5 a6 a7 a8 a9)) (PySem.F.args_zip_next_1 _))))
theorem BV (hh:A.handled=none) (D1:∀ A:Around,A.handled=none->Draws prog w A i1 f1 n1 P1 S1) (D2:∀ A:Around,A.handled=none->Draws prog w A i2 f2 n2 P2 S2) (Z:ZA z TI TO i1 i2 f1 f2) {k:Nat} {a b:Value} {Q:Option Value->Shared->Prop}
  (hz:IsZip s.heap z TI TO .none) (hTI:IsPair s.heap TI (.ref i1) (.ref i2)) (hTO:IsPair s.heap TO a b) (s1:S1 k s.heap) (s2:S2 k s.heap) (hk:k=n1\/k < n1/\k=n2)
  (hQ:∀ h' tk,(∀ c o,c≠z->c≠TO->c≠i1->c≠i2->s.heap.get? c=some o->h'.get? c=some o)->Q none { s with heap:=h',toks:=tk }):wpAny (model prog w) A (pyNext (.ref z)) Q E s:=by
 have hT:s.TypeIs (.ref z) "zip" := ⟨_,hz,rfl⟩;unfold pyNext;refine aa (jz (d6 (name:=ic "__next__") hT n8
  (en n8 hT PySem.F.entry_zip_next (OP (D1 A.in1 hh) (D2 A.in1 hh) Z hz hTI hTO s1 s2 hk fun h' e tk hk he=>?_) (PySem.F.args_zip_next_1 _))))
 obtain ⟨o,ho,hc⟩:=he;refine aa (ow (T:="StopIteration") (b:=true) ⟨o,ho,hc⟩ isSubtype_stop ?_);exact ab (hQ _ _ hk)
theorem Ji (hh:A.handled=none) (it l:Addr) (items:Array Value) (i:Nat) (h:items[i]?=none):Draws prog w A it [it,l] i (fun _ _=>False) (fun j g=>j=i/\g.IsListIter it l i/\g.IsList l items) where
 live:=fun _ _ st=>let ⟨o,ho,_⟩:=st.2.1; ⟨o,ho⟩
 frame:=fun _ _ _ st hk=>⟨st.1,st.2.1.at fun o e=>hk it (by simp) o e,st.2.2.at fun o e=>hk l (by simp) o e⟩
 item:=fun j s Q E hj st hQ=>absurd hj (by rw [st.1]; exact fu _)
 done:=fun s Q E st hE=>wpAny_nextOf_list_end hh st.2.1 st.2.2 h hE
theorem LK (hh:A.handled=none) (it:Addr) (x:Str) (t:Tok) (i:Nat) (h:x.cps[i]?=none):Draws prog w A it [it] i (fun _ _=>False) (fun j g=>j=i/\g.IsStrIter it "str_ascii_iterator" x t i) where
 live:=fun _ _ st=>let ⟨o,ho,_⟩:=st.2; ⟨o,ho⟩
 frame:=fun _ _ _ st hk=>⟨st.1,let ⟨o,e,r⟩:=st.2; ⟨o,hk it (by simp) o e,r⟩⟩
 item:=fun j s Q E hj st hQ=>absurd hj (by rw [st.1]; exact fu _)
 done:=fun s Q E st hE=>wpAny_nextOf_ascii_end hh st.2 h hE
end
abbrev LL (h:Heap) (l1:Addr):Heap:=h.push { cls:=.type "list_iterator",data:=.fields #[.ref l1,.int 0 0] }
abbrev LM (h:Heap) (l1:Addr) (x:Str) (t:Tok):Heap:=(LL h l1).push { cls:=.type "str_ascii_iterator",data:=.fields #[.str x t,.int 0 0] }
abbrev LN (h:Heap) (l1:Addr) (x:Str) (t:Tok):Heap:=(LM h l1 x t).push { cls:=.type "tuple",data:=.seq #[.ref h.objs.size,.ref (LL h l1).objs.size] }
abbrev LO (h:Heap) (l1:Addr) (x:Str) (t:Tok):Heap:=(LN h l1 x t).push { cls:=.type "tuple",data:=.seq #[.none,.none] }
abbrev DN (h:Heap) (l1:Addr) (x:Str) (t:Tok):Heap:=(LO h l1 x t).push { cls:=.type "zip",data:=.fields #[.none,.bool false,.bool false,.ref (LM h l1 x t).objs.size,.ref (LN h l1 x t).objs.size] }
set_option maxHeartbeats 4000000 in
theorem BW (l1:Addr) (xs:Array Value) (x:Str) (t:Tok) (ha:x.cps.all (· < 128)=true):
  Meets (Builtin.«zip.__new__» ⟨[.type "zip",.ref l1,.str x t],[]⟩) (fun _ R s=>s.heap.IsList l1 xs/\R (.ok (.ret (.ref (LO s.heap l1 x t).objs.size))) { s with heap:=DN s.heap l1 x t }):=
 .of_wp fun prog w A R s h=>by
  obtain ⟨hp,g,d,tk,os⟩:=s; obtain ⟨hl1,h⟩:=h;have hsub:=sub_zip;have hL1:Heap.IsList (Shared.heap ⟨hp,g,d,tk,os⟩) l1 xs:=hl1
  wp_walk using wpAny_pyIter_list hL1,wpAny_pyIter_ascii ha
  exact ⟨_,rfl,h⟩
section
variable {prog:Program} {w:World} {A:Around} {E:Value->Shared->Prop} {s:Shared}
theorem LP {l1:Addr} {xs:Array Value} {x:Str} {t:Tok} {Q:Value->Shared->Prop} (hl1:s.heap.IsList l1 xs) (ha:x.cps.all (· < 128)=true)
  (h:∀ h',IsZip h' (s.heap.objs.size+4) (s.heap.objs.size+2) (s.heap.objs.size+3) .none->IsPair h' (s.heap.objs.size+2) (.ref s.heap.objs.size) (.ref (s.heap.objs.size+1))->
   IsPair h' (s.heap.objs.size+3) .none .none->h'.IsListIter s.heap.objs.size l1 0->h'.IsStrIter (s.heap.objs.size+1) "str_ascii_iterator" x t 0->h'.objs.size=s.heap.objs.size+5->
   (∀ c o,s.heap.get? c=some o->h'.get? c=some o)->Q (.ref (s.heap.objs.size+4)) { s with heap:=h' }):
  wpAny (model prog w) A (call (.type "zip") [.ref l1,.str x t]) Q E s:=by
 refine callType_new PySem.F.called_zip (by decide) (PySem.F.typeCall_zip_2 _ _) (PySem.F.newCall_zip_2 _ _) (fun obj=>PySem.F.args_object_init_3 obj _ _) PySem.F.entry_zip_new
  (BW l1 xs x t ha) ⟨hl1,?_⟩
 have z1:(LL s.heap l1).objs.size=s.heap.objs.size+1:=gj ..;have z2:(LM s.heap l1 x t).objs.size=s.heap.objs.size+2:=by rw [gj,z1]
 have z3:(LN s.heap l1 x t).objs.size=s.heap.objs.size+3:=by rw [gj,z2]
 have z4:(LO s.heap l1 x t).objs.size=s.heap.objs.size+4:=by rw [gj,z3]
 have z5:(DN s.heap l1 x t).objs.size=s.heap.objs.size+5:=by rw [gj,z4]
 have g5:(DN s.heap l1 x t).get? (LO s.heap l1 x t).objs.size=some _:=aj _ rfl;have g4:(DN s.heap l1 x t).get? (LN s.heap l1 x t).objs.size=some _:=ae _ (aj _ rfl);have g3:(DN s.heap l1 x t).get? (LM s.heap l1 x t).objs.size=some _:=ae _ (ae _ (aj _ rfl));have g2:(DN s.heap l1 x t).get? (LL s.heap l1).objs.size=some _:=ae _ (ae _ (ae _ (aj _ rfl)));have g1:(DN s.heap l1 x t).get? s.heap.objs.size=some _:=ae _ (ae _ (ae _ (ae _ (aj _ rfl))))
 show _/\_
 rw [z2,z3,z4] at g5;rw [z1,z2] at g3;rw [z3] at g4;rw [z1] at g2;rw [z4];exact ⟨⟨_,g5,rfl⟩,h _ g5 g3 g4 ⟨_,g1,rfl,rfl⟩ ⟨_,g2,rfl,rfl⟩ z5 fun c o e=>
  ae _ (ae _ (ae _ (ae _ (ae _ e))))⟩
end
def ItZ (K:ag) (l:Addr) (x:Str):It:=
 ⟨fun i H=>(∃ vs v,SqL K H l vs/\vs[i]?=some v)/\i < x.cps.size,
  fun i H y H'=>∃ t v c,H t=none/\(∀ vs,SqL K H l vs->vs[i]?=some v)/\x.cps[i]?=some c/\y=.ref t/\H'=upd H t (.tup [v,.str ⟨#[c]⟩]),
  fun i H=>∃ vs,SqL K H l vs/\(vs.length<=i\/x.cps.size<=i)⟩
theorem cZ {h:Heap} {a b:Addr} {o p:Obj} {m n:String} (ha:h.get? a=some o) (hb:h.get? b=some p) (ca:o.cls=.type m) (cb:p.cls=.type n) (hn:m≠n):a≠b:=fun e=>by
 subst e;rw [ha] at hb;cases hb
 rw [ca] at cb;cases cb
 exact hn rfl
theorem zA {h:Heap} {z TI TO i1 i2 l:Addr} {a b:Value} {x:Str} {t:Tok} {i:Nat} {xs:Array Value} (hTT:TI≠TO) (hz:IsZip h z TI TO .none) (hTI:IsPair h TI (.ref i1) (.ref i2)) (hTO:IsPair h TO a b) (h1:h.IsListIter i1 l i) (h2:h.IsStrIter i2 "str_ascii_iterator" x t i) (hl:h.IsList l xs):
  ZA z TI TO i1 i2 [i1,l] [i2]/\l≠i1:=by
 obtain ⟨ol,el,cl,_⟩:=hl;obtain ⟨o1,e1,c1,d1⟩:=h1;obtain ⟨o2,e2,c2,d2⟩:=h2;have n1z:i1≠z:=cZ e1 hz c1 rfl (by decide);have n2z:i2≠z:=cZ e2 hz c2 rfl (by decide);have nO1:TO≠i1:=cZ hTO e1 rfl c1 (by decide);have nO2:TO≠i2:=cZ hTO e2 rfl c2 (by decide);have n12:i1≠i2:=cZ e1 e2 c1 c2 (by decide);have lz:l≠z:=cZ el hz cl rfl (by decide);have lO:l≠TO:=cZ el hTO cl rfl (by decide);have l2:l≠i2:=cZ el e2 cl c2 (by decide);refine ⟨⟨cZ hTI hz rfl rfl (by decide),cZ hTO hz rfl rfl (by decide),n1z,n2z,hTT,cZ hTI e1 rfl c1 (by decide),cZ hTI e2 rfl c2 (by decide),nO1,nO2,n12,fun b hb=>?_,fun b hb=>?_⟩,cZ el e1 cl c1 (by decide)⟩
 ·simp only [bw,jv,or_false] at hb;rcases hb with rfl | rfl
  ·exact ⟨n1z,nO1.symm,n12⟩
  ·exact ⟨lz,lO,l2⟩
 ·simp only [bw,jv,or_false] at hb;subst hb;exact ⟨n2z,nO2.symm,n12.symm⟩
theorem Jj {P:Program} {w:World} {K:ag} {elts:List Expr} {x1:Nat} {pos:Pos} (l:Addr) (x:Str) (t:Tok) (z TI TO i1 i2:Addr) (hTT:TI≠TO):
  Turn P w K (.Tuple elts x1 pos) (ItZ K l x) [z,TI,TO,i1,i2] z (fun i h=>IsZip h z TI TO .none/\IsPair h TI (.ref i1) (.ref i2)/\(∃ a b,IsPair h TO a b)/\h.IsListIter i1 l i/\h.IsStrIter i2 "str_ascii_iterator" x t i) where
 mem:=by simp
 obj:=fun i h ⟨hz,hTI,⟨a,b,hTO⟩,⟨o1,e1,_,d1⟩,⟨o2,e2,_,d2⟩⟩ b hb=>by
  simp only [bw,jv,or_false] at hb;rcases hb with rfl | rfl | rfl | rfl | rfl
  ·exact ⟨_,hz,fun v q=>by cases q⟩
  ·exact ⟨_,hTI,fun v q=>by cases q⟩
  ·exact ⟨_,hTO,fun v q=>by cases q⟩
  ·exact ⟨_,e1,fun v q=>by rw [d1] at q; cases q⟩
  ·exact ⟨_,e2,fun v q=>by rw [d2] at q; cases q⟩
 keep:=fun i h h' ⟨hz,hTI,⟨a,b,hTO⟩,h1,⟨o2,e2,r2⟩⟩ k=>
  ⟨k z (by simp) _ hz,k TI (by simp) _ hTI,⟨a,b,k TO (by simp) _ hTO⟩,h1.at fun o e=>k i1 (by simp) o e,⟨o2,k i2 (by simp) _ e2,r2⟩⟩
 item:=by
  intro X hP hw hK hc i pins s σ H E I hf ⟨hz,hTI,⟨a,b,hTO⟩,h1,h2⟩ ⟨⟨vs,v,hq,hv⟩,hx⟩;subst hP hw hK;obtain ⟨its,rv,p,hsz⟩:=I.list hq;obtain ⟨u,hu,ru⟩:=rv.get hv;have hl:=p.isList;obtain ⟨ol,el,cl,_⟩:=id hl;obtain ⟨o1,e1,c1,d1⟩:=id h1;obtain ⟨o2,e2,c2,d2⟩:=id h2;have hi:i < its.length:=(af.mp hu).1;obtain ⟨Z,l1⟩:=zA hTT hz hTI hTO h1 h2 hl;refine Jh (I.ok.hd hc) (fun A hA=>Draws.list hA i1 l l1 its.toArray) (fun A hA=>Draws.strAscii hA i2 x t) Z hz hTI hTO ⟨h1,hl⟩ h2 (by simpa using hi) hx fun xx yy h' tk px py a1 a2 a3 a4 a5 a6 kp=>⟨_,rfl,?_⟩
  obtain ⟨cc,tu,ecc,rfl⟩:=py;have exx:xx=u:=by
   have:its[i]?=some xx:=by simpa using px
   rw [hu] at this; cases this; rfl
  subst exx;refine wpAny_letOwnedTupleGo_zip (s:={ s with heap:=h',toks:=tk }) a1 fun h'' hI same=>?_;have fr:H s.heap.objs.size=none:=I.hok.fresh (az _);have nt:∀ {b:Addr} {o:Obj},s.heap.get? b=some o->s.heap.objs.size≠b:=fun e=>ft (ak e);have sb:∀ (b:Addr) (o:Obj),b≠z->h'.get? b=some o->h''.get? b=some o:=fun b o hb e=>(same.2 b hb).trans e;have gt':=sb _ _ (nt hz) a5;have kp':∀ (b:Addr) (o:Obj),b∉[z,TO,i1,i2]->s.heap.get? b=some o->h''.get? b=some o:=fun b o hb e=>
   sb b o (fun q=>hb (by simp [q])) (kp b o (fun q=>hb (by simp [q])) (fun q=>hb (by simp [q])) (fun q=>hb (by simp [q])) (fun q=>hb (by simp [q])) e)
  have sub:∀ b,b∈[z,TO,i1,i2]->b∈[z,TI,TO,i1,i2]:=fun b hb=>by
   simp only [bw,jv,or_false] at hb ⊢;rcases hb with q | q | q | q <;> simp [q]
  have nit:∀ b u,H b=some u->b∉[z,TO,i1,i2]:=fun b u e q=>by
   have:=(hf b (sub b q)).1;rw [this] at e; cases e
  have nsz:∀ b u,H b=some u->b≠s.heap.objs.size:=fun b u e q=>by rw [q,fr] at e; cases e
  refine ⟨.ref s.heap.objs.size,upd H s.heap.objs.size (.tup [v,.str ⟨#[cc]⟩]),?_,rfl,⟨_,v,cc,fr,fun ys hy=>by rw [I.list_inj hy hq]; exact hv,ecc,rfl,rfl⟩,⟨hI,sb _ _ Z.TIz (kp _ _ Z.TIz hTT Z.TIi1 Z.TIi2 hTI),⟨_,_,sb _ _ Z.TOz a2⟩,a3.1.at fun o e=>sb _ _ Z.i1z e,?_⟩,fun b hb=>?_⟩
  ·refine Inv.step (s:=s) (h':=h'') (H:=H) (g':=s.gens) (d':=s.drawn) (t':=tk) (ch:=[z,TO,i1,i2]) I (fun b hb=>?_) (fun b o _ _ hc e _=>kp' b o hc e) (fun b o _ _ hc e _=>⟨o.slots,kp' b o hc e⟩) (fun b o hc e n=>?_)
    (fun b o hc e=>⟨o,kp' b o hc e⟩) (fun b xs e=>by rw [aH (nsz _ _ e)]; exact e) (fun b o u e=>by rw [aH (nsz _ _ e)]; exact e) (fun b ps e=>⟨#[],by rw [aH (nsz _ _ e),e]; simp⟩) (fun m hm=>?_) (fun b u e=>?_) I.bare
   ·obtain ⟨f0,f1,f2,f3,f4,f5⟩:=hf b (sub b hb);exact ⟨f3,f1,f4,f5⟩
   ·rw [aH (ba (ak e))]; exact n
   ·obtain ⟨o,es,ep,ho,r⟩:=hm;exact ⟨o,es,ep,kp' _ o (fun q=>(hf _ (sub _ q)).2.1 rfl) ho,r⟩
   ·by_cases hb:b=s.heap.objs.size
    ·subst hb;rw [aK] at e;cases e
     exact ⟨by show 2<=aw; rw [jA]; decide,[xx,.str ⟨#[cc]⟩ tu],.cons ru (.cons ⟨_,rfl⟩ .nil),_,gt',rfl,⟨_,rfl⟩,rfl⟩
    ·rw [aH hb] at e;refine (I.hok b u e).stay (fun c v hc q=>kp' c v ?_ q) (fun c q=>by rw [aH (nsz _ _ q)]; exact q) fun c xs q=>by rw [aH (nsz _ _ q)]; exact q
     rcases hc with q | q
     ·rw [q]; exact nit b u e
     ·exact nit c _ q
  ·obtain ⟨o,e,r⟩:=a4;exact ⟨o,sb _ _ Z.i2z e,r⟩
  ·have hb':=(hf b hb).1;have:b≠s.heap.objs.size:=by
    simp only [bw,jv,or_false] at hb;rcases hb with rfl | rfl | rfl | rfl | rfl
    ·exact (nt hz).symm
    ·exact (nt hTI).symm
    ·exact (nt hTO).symm
    ·exact (nt e1).symm
    ·exact (nt e2).symm
   rw [aH this]; exact hb'
 done:=by
  intro X hP hw hK hc i pins s σ H E I hf ⟨hz,hTI,⟨a,b,hTO⟩,h1,h2⟩ ⟨vs,hq,hd⟩;subst hP hw hK;obtain ⟨its,rv,p,hsz⟩:=I.list hq;have hlen:=rv.length;have hl:=p.isList;obtain ⟨ol,el,cl,_⟩:=id hl;obtain ⟨o1,e1,c1,d1⟩:=id h1;obtain ⟨o2,e2,c2,d2⟩:=id h2;obtain ⟨Z,l1⟩:=zA hTT hz hTI hTO h1 h2 hl;have sub:∀ b,b∈[z,TO,i1,i2]->b∈[z,TI,TO,i1,i2]:=fun b hb=>by
   simp only [bw,jv,or_false] at hb ⊢;rcases hb with q | q | q | q <;> simp [q]
  have nit:∀ b u,H b=some u->b∉[z,TO,i1,i2]:=fun b u e q=>by
   have:=(hf b (sub b q)).1;rw [this] at e; cases e
  have fin:∀ (h':Heap) (tk:Nat),(∀ c o,c≠z->c≠TO->c≠i1->c≠i2->s.heap.get? c=some o->h'.get? c=some o)->Inv X pins σ H { s with heap:=h',toks:=tk }:=fun h' tk kp=>by
   have kp':∀ (b:Addr) (o:Obj),b∉[z,TO,i1,i2]->s.heap.get? b=some o->h'.get? b=some o:=fun b o hb e=>
    kp b o (fun q=>hb (by simp [q])) (fun q=>hb (by simp [q])) (fun q=>hb (by simp [q])) (fun q=>hb (by simp [q])) e
   refine Inv.step (s:=s) (h':=h') (H:=H) (g':=s.gens) (d':=s.drawn) (t':=tk) (ch:=[z,TO,i1,i2]) I (fun b hb=>?_) (fun b o _ _ hc e _=>kp' b o hc e) (fun b o _ _ hc e _=>⟨o.slots,kp' b o hc e⟩) (fun b o hc e n=>n)
    (fun b o hc e=>⟨o,kp' b o hc e⟩) (fun b xs e=>e) (fun b o u e=>e) (fun b ps e=>⟨#[],by rw [e]; simp⟩) (fun m hm=>?_) (fun b u e=>?_) I.bare
   ·obtain ⟨f0,f1,f2,f3,f4,f5⟩:=hf b (sub b hb);exact ⟨f3,f1,f4,f5⟩
   ·obtain ⟨o,es,ep,ho,r⟩:=hm;exact ⟨o,es,ep,kp' _ o (fun q=>(hf _ (sub _ q)).2.1 rfl) ho,r⟩
   ·refine (I.hok b u e).stay (fun c v hc q=>kp' c v ?_ q) (fun _ q=>q) fun _ _ q=>q;rcases hc with q | q
    ·rw [q]; exact nit b u e
    ·exact nit c _ q
  by_cases hi:i < its.length
  ·have hx:x.cps.size<=i:=by rcases hd with q | q; omega; exact q
   exact BV (I.ok.hd hc) (fun A hA=>Draws.list hA i1 l l1 its.toArray) (fun A hA=>LK hA i2 x t i (iy hx)) Z hz hTI hTO ⟨h1,hl⟩ ⟨rfl,h2⟩ (.inr ⟨by simpa using hi,rfl⟩) fun h' tk kp=>⟨rfl,fin h' tk kp⟩
  ·exact BV (I.ok.hd hc) (fun A hA=>Ji hA i1 l its.toArray i (by simp; omega)) (fun A hA=>Draws.strAscii hA i2 x t) Z hz hTI hTO ⟨rfl,h1,hl⟩ h2 (.inl rfl) fun h' tk kp=>⟨rfl,fin h' tk kp⟩
 self:=fun _ _ _ _ _ ⟨hz,_⟩ h=>wpAny_pyIter_zip hz h
theorem boot_zip:kh "zip" = some (.type "zip"):=by first | rfl | decide +kernel | kernel_rfl
section
variable {C:MC} {k:Nat} {X:Cx}
def Tw (X:Cx) (ta:TA):TI:=fun σ H R=>ta σ H fun vs H1=>∃ l xs x,vs=[.ref l,.str x]/\SqL X.K H1 l xs/\(x.cps.all fun c=>decide (c < 128))=true/\R (ItZ X.K l x) H1
theorem OQ {a b:Expr} {ta:TA} {p pos:Pos} {elts:List Expr} {x1:Nat} {tp:Pos} (hg:Gl X "zip") (hm:X.mg "zip" = none) (ha:PA X [a,b] ta) (hs:b0 [a,b] X.env=[(false,eval a X.env),(false,eval b X.env)]:=by rfl) (hs2:b0 [b] X.env=[(false,eval b X.env)]:=by rfl):
  PI X (.Tuple elts x1 tp) (.Call (.Name "zip" p) [a,b] [] pos) (Tw X ta):=by
 intro pins s σ H R I h;refine Call_ (mT I hg hm boot_zip (j8 (thn (ha pos pins s σ H _ I h) fun us s1 hz=>?_) (by rw [hs,hs2]) (by rw [hs2]; rfl)));obtain ⟨vs,H1,I1,r1,q1⟩:=hz;obtain ⟨l,xs,x,e,hq,asc,q⟩:=q1;subst e;cases r1 with
 | cons r rr=>
  cases rr with
  | cons r' rr=>
   cases rr
   cases r
   obtain ⟨t,rfl⟩:=r';obtain ⟨its,rv,pl,hz⟩:=I1.list hq;refine LP pl.isList asc fun h' a1 a2 a3 a4 a5 a6 kp=>?_;refine wpAny_pyIter_zip a1 ?_;refine ⟨s1.heap.objs.size+4,[s1.heap.objs.size+4,s1.heap.objs.size+2,s1.heap.objs.size+3,s1.heap.objs.size,s1.heap.objs.size+1],_,_,H1,rfl,I1.kept (t':=s1.toks) kp,Jj l x t _ _ _ _ _ (ba (Nat.lt_succ_self (s1.heap.objs.size+2))),⟨a1,a2,⟨_,_,a3⟩,a4,a5⟩,fun b hb=>?_,q⟩;have hle:s1.heap.objs.size<=b:=by
    simp only [bw,jv,or_false] at hb;rcases hb with e | e | e | e | e
    all_goals rw [e]
    all_goals first | exact az _ | exact Nat.le_add_right _ _
   exact I1.fpOk hle (I1.hok.fresh hle)
def sX (xs:List PV) (x:Str):List PV:=List.zipWith (fun p c=>PV.tup [p,.str ⟨#[c]⟩]) xs x.cps.toList
def OR:List PV->PH->Rs Wk:=fun ps h=>match ps with
 | [.ref n,.str x]=>if (x.cps.all fun c=>decide (c < 128))=true then (match aS h n with
   | some xs=>.ok ⟨sX xs x,uX n xs⟩ h
   | none=>.bad) else .bad
 | _=>.bad
def LQ (ms:Ma):Mi:=fun δ h=>(ms δ h).bind OR
theorem Jk (xs:List PV) (x:Str):(sX xs x).length=min xs.length x.cps.size:=by simp [sX]
theorem Ro {x y:Expr} {ms:Ma} {elts:List Expr} {x1:Nat} {tp p pos:Pos} (ha:SA C k X [x,y] ms) (hb:("zip" : Str)∈C.bs:=by decide) (hg:Gl X "zip" := by rfl) (hs:b0 [x,y] X.env=[(false,eval x X.env),(false,eval y X.env)]:=by rfl) (hs2:b0 [y] X.env=[(false,eval y X.env)]:=by rfl):
  SI C k X (.Tuple elts x1 tp) (.Call (.Name "zip" p) [x,y] [] pos) (LQ ms):=fun c=>
 (OQ hg (c.bn _ hb) (ha c) hs hs2).imp fun σ H R h=>by
  obtain ⟨φ,δ,h,rh,re,p⟩:=h;refine ⟨φ,δ,h,rh,re,(postA.bindI p).imp ?_⟩;rintro vs H1 ⟨φ1,xs,h1,p1,t1,rh1,rv1,q1⟩;unfold OR at q1;split at q1
  ·rename_i n x;obtain ⟨v,w,rfl,rx,ry⟩:=rv1.two;obtain ⟨a,rfl,ha'⟩:=rx;cases ry
   split at q1
   ·rename_i asc;cases e:aS h1 n with
    | none=>rw [e] at q1; exact q1.elim
    | some xs=>
     rw [e] at q1;obtain ⟨a2,us,ha2,sa,ra⟩:=cD rh1 e;rw [ha'] at ha2; cases ha2;rw [<- c.K] at sa;refine ⟨a,us,x,rfl,sa,asc,q1 φ1 H1 (ItZ X.K a x) ai (Kp.refl H1) rh1 fun φ2 H2 h2 p2 t2 rh2 hg i=>?_⟩;have hg:(match aS h2 n with | some ys=>PV.beqs ys xs | none=>false)=true:=hg
     cases e2:aS h2 n with
     | none=>rw [e2] at hg; cases hg
     | some ys=>
      rw [e2] at hg;have hxy:=PV.beqs_eq hg;subst hxy;obtain ⟨a3,us2,ha3,su,ru⟩:=cD rh2 e2;rw [fX p2 ha'] at ha3; cases ha3;rw [<- c.K] at su;have hl:=ru.length
      show (i < (sX ys x).length->_)/\((sX ys x).length<=i->_)
      rw [Jk];refine ⟨fun hi=>?_,fun hi=>⟨us2,su,by omega⟩⟩;have hi1:i < us2.length:=by omega
      have hi2:i < x.cps.size:=by omega
      refine ⟨⟨⟨us2,us2[i],su,by simp [hi1]⟩,hi2⟩,fun y H' yl=>?_⟩;obtain ⟨t,v,cc,ht,hv,ec,rfl,rfl⟩:=yl;obtain ⟨pp,ep,rp⟩:=ru.get (hv us2 su);refine ⟨⟨.tup [pp,.str ⟨#[cc]⟩],?_,?_⟩,Kp.new ht,rh2.aside ht⟩
      ·have ec':x.cps.toList[i]?=some cc:=by simpa using ec
       show (sX ys x)[i]?=_
       unfold sX;rw [List.getElem?_zipWith,ep,ec']
      ·exact ⟨t,[v,.str ⟨#[cc]⟩],rfl,.inl (.inl aK),rp.mono ai (Kp.new ht),rfl,trivial⟩
   ·exact q1.elim
  ·exact q1.elim
end
def F9 (f:Value):Prop:=f=.none\/∃ T:Nat,f=rawInt T
abbrev mJ (h:Heap) (it d:Addr) (i n ep:Nat) (f0:Value) (f1:Bool) (ok ov:Value):Prop:=h.get? it=some { cls:=.type "dict_itemiterator",data:=.fields #[f0,.bool f1,.ref d,.int i 0,.int n 0,.int ep 0,ok,ov] }
section
variable {prog:Program} {w:World} {A:Around} {E:Value->Shared->Prop} {s:Shared} {v dc it:Addr} {oc:Obj} {es:Array ie} {ep:Nat} {ok ov f0:Value} {f1:Bool}
theorem Jl {a:Addr} {Q:Option Obj->Shared->Prop} (h:Q (s.heap.get? a) s):wpAny (model prog w) A (loadIfAlive a) Q E s:=fun Γ p _=>by
 unfold loadIfAlive;rw [Sem.wp_loadIfAlive];exact h
theorem pA {i n:Nat} (hI:mJ s.heap it dc i n ep f0 f1 ok ov):s.TypeIs (.ref it) "dict_itemiterator" := ⟨_,hI,rfl⟩
theorem vO {i:Nat} {Q:Option Value->Shared->Prop} (hI:mJ s.heap it dc i es.size ep f0 f1 ok ov) (h1:s.heap.get? dc=some oc) (h2:oc.data=.dict es ep) (hlt:i < es.size)
  (hf:F9 f0)
  (q:∀ h' f0' f1' ok' ov',F9 f0'->mJ h' it dc (i+1) es.size ep f0' f1' ok' ov'->h'.get? s.heap.objs.size=some { cls:=.type "tuple",data:=.seq #[es[i].key,es[i].val] }->
   (∀ (b:Addr) (o:Obj),b≠it->s.heap.get? b=some o->h'.get? b=some o)->Q (some (.ref s.heap.objs.size)) { s with heap:=h' }):wpAny (model prog w) A (pyNext (.ref it)) Q E s:=by
 have hT:=pA hI;unfold pyNext;refine aa (jz (d6 (name:=ic "__next__") hT f6 (en f6 hT F.entry_dict_itemiterator_next ?_ (F.args_dict_itemiterator_next_1 _))));refine aa (ab (aa (aa ?_)))
 first | refine aa (jk hT (ab ?_)) | refine aa (k5 hT (ab ?_))
 refine aa (oj hI rfl ?_);rw [show d8 "dict_itemiterator" = true by decide]; simp only [if_true]
 show wpAny _ _ (if (bx dc == b7)=true then _ else _) _ _ s
 rw [if_neg (show ¬ ((bx dc == b7)=true) from bp)]
 refine aa (ab (aa (f7 h1 h2 ?_)));rw [if_neg (show ¬ _ by simp)];refine aa (ab (aa (jj h1 h2 ?_)));rw [if_neg (show ¬ _ by simp)];refine ab ?_;simp only [show ¬ ((i:Int) < 0) by omega,if_false,lr,i8 hlt];refine aa ?_
 first | refine aa (jk hT (ab ?_)) | refine aa (k5 hT (ab ?_))
 refine aa (wpAny_isOneOf_itemiter hT (show wpAny _ _ (setField (.ref it) 3 (rawInt ((i:Int)+1)) >>= _) _ _ s from aa (m6 hI rfl (by simp) ?_)))
 have hI':mJ (s.heap.update it (j0 (·.setIfInBounds 3 (rawInt ((i:Int)+1))))) it dc (i+1) es.size ep f0 f1 ok ov:=by
  show (s.heap.update it _).get? it=_
  rw [fg _ hI (nq (ko rfl _))];simp [j0,rawInt]
 have kp:∀ (b:Addr) (o:Obj),b≠it->s.heap.get? b=some o->(s.heap.update it (j0 (·.setIfInBounds 3 (rawInt ((i:Int)+1))))).get? b=some o:=fun b o hb e=>by
  rw [(dw ..).2 b hb]; exact e
 have sz:(s.heap.update it (j0 (·.setIfInBounds 3 (rawInt ((i:Int)+1))))).objs.size=s.heap.objs.size:=(dw ..).1;generalize s.heap.update it (j0 (·.setIfInBounds 3 (rawInt ((i:Int)+1))))=hA at hI' kp sz;have ty':({ s with heap:=hA }:Shared).TypeIs (.ref it) "dict_itemiterator" := pA hI';refine aa (gp (aa (wpAny_isOneOf_itemiter ty' (aa (wpAny_isOneOf_itemiter ty' ?_)))))
 show wpAny _ _ (Builtin.Dict_items.pairFromOwner (.ref it) 6 es[i].key es[i].val) _ _ _
 unfold Builtin.Dict_items.pairFromOwner;simp only [newTuple];refine aa (dm ?_ (by size_fits));have hI2:mJ (hA.push { cls:=.type "tuple",data:=.seq #[es[i].key,es[i].val] }) it dc (i+1) es.size ep f0 f1 ok ov:=ae _ hI';have gt:(hA.push { cls:=.type "tuple",data:=.seq #[es[i].key,es[i].val] }).get? hA.objs.size=some { cls:=.type "tuple",data:=.seq #[es[i].key,es[i].val] }:=aj _ rfl;have kp2:∀ (b:Addr) (o:Obj),b≠it->s.heap.get? b=some o->(hA.push { cls:=.type "tuple",data:=.seq #[es[i].key,es[i].val] }).get? b=some o:=fun b o hb e=>ae _ (kp b o hb e);rw [sz] at gt;have ne:s.heap.objs.size≠it:=ft (ak hI)
 show wpAny _ _ _ _ _ { s with heap:=hA.push { cls:=.type "tuple",data:=.seq #[es[i].key,es[i].val] } }
 generalize hA.push { cls:=.type "tuple",data:=.seq #[es[i].key,es[i].val] }=hB at hI2 gt kp2;have eA:(bx ({ s with heap:=hA }:Shared).heap.objs.size)=.ref s.heap.objs.size:=by rw [<- sz]
 simp only [eA];have stp:∀ {h1:Heap} {fs:Array Value} {j:Nat} {x:Value} {α:Type} {f:Unit->Sem α} {R:α->Shared->Prop} {E':Value->Shared->Prop},h1.get? it=some { cls:=.type "dict_itemiterator",data:=.fields fs }->j < fs.size->
   (∀ h2:Heap,h2.get? it=some { cls:=.type "dict_itemiterator",data:=.fields (fs.setIfInBounds j x) }->(∀ (b:Addr),b≠it->h2.get? b=h1.get? b)->wpAny (model prog w) A.in1 (f ()) R E' { s with heap:=h2 })->
   wpAny (model prog w) A.in1 (setField (.ref it) j x >>= f) R E' { s with heap:=h1 }:=fun {h1 fs j x α f R E'} g hj k=>by
  refine aa (m6 (s:={ s with heap:=h1 }) g rfl hj ?_);refine k _ ?_ fun b hb=>(dw ..).2 b hb;rw [fg _ g (nq (ko rfl _))];simp [j0]
 have free:∀ E':Value->Shared->Prop,wpAny (model prog w) A.in1 (oz (.ref it)) (fun _ s'=>∃ h9 g1,s'={ s with heap:=h9 }/\mJ h9 it dc (i+1) es.size ep f0 g1 ok ov/\∀ b,b≠it->h9.get? b=hB.get? b) E' { s with heap:=hB }:=fun E'=>by
  unfold oz;refine aa (gr (s:={ s with heap:=hB }) hI2 rfl (x:=f0) rfl ?_);rcases hf with rfl | ⟨T,rfl⟩
  ·exact ab ⟨hB,f1,rfl,hI2,fun _ _=>rfl⟩
  ·show wpAny _ _ (loadIfAlive ((T:Int).toNat) >>= _) _ _ _
   refine aa (Jl ?_);cases hB.get? ((T:Int).toNat) with
   | none=>exact ab ⟨hB,f1,rfl,hI2,fun _ _=>rfl⟩
   | some o=>
    simp only [Option.isNone_some,c9,if_false];refine aa (gr (s:={ s with heap:=hB }) hI2 rfl (x:=.bool f1) rfl ?_);cases f1 with
    | false=>
     rw [if_pos (by decide)];refine stp hI2 (by simp) fun h3 g3 s3=>?_;exact ab ⟨h3,true,rfl,by show h3.get? it=_; rw [g3]; simp,s3⟩
    | true=>
     rw [if_neg (by decide)];exact ab ⟨hB,true,rfl,hI2,fun _ _=>rfl⟩
 refine aa (jl (free _) (fun b s' hb=>?_) fun _ _ e=>e);obtain ⟨h9,g1,rfl,hI9,s9⟩:=hb;cases b with
 | true=>
  simp only [if_true];refine aa (gr (s:={ s with heap:=h9 }) hI9 rfl (x:=ok) rfl (aa (gr (s:={ s with heap:=h9 }) hI9 rfl (x:=ov) rfl ?_)));refine stp hI9 (by simp) fun h3 g3 s3=>?_;refine stp g3 (by simp) fun h4 g4 s4=>?_;refine stp g4 (by simp) fun h5 g5 s5=>?_;refine stp g5 (by simp) fun h6 g6 s6=>?_;refine aa (wpAny_letGo (ab (ab ⟨_,rfl,ab (q h6 (rawInt s.heap.objs.size) false es[i].key es[i].val (.inr ⟨_,rfl⟩) (by rw [<- sz]; show h6.get? it=_; rw [g6]; simp) ?_ fun b o hb e=>?_)⟩)))
  ·rw [s6 _ ne,s5 _ ne,s4 _ ne,s3 _ ne,s9 _ ne]; exact gt
  ·rw [s6 _ hb,s5 _ hb,s4 _ hb,s3 _ hb,s9 _ hb]; exact kp2 b o hb e
 | false=>
  simp only [c9,if_false];refine ab (ab ⟨_,rfl,ab (q h9 f0 g1 ok ov hf hI9 ?_ fun b o hb e=>?_)⟩)
  ·rw [s9 _ ne]; exact gt
  ·rw [s9 _ hb]; exact kp2 b o hb e
theorem vP {i:Nat} {Q:Option Value->Shared->Prop} (hh:A.handled=none) (hI:mJ s.heap it dc i es.size ep f0 f1 ok ov) (h1:s.heap.get? dc=some oc) (h2:oc.data=.dict es ep) (hge:es.size<=i)
  (q:∀ h',Heap.ExtBut it s.heap h'->Q none { s with heap:=h' }):wpAny (model prog w) A (pyNext (.ref it)) Q E s:=by
 have hT:=pA hI;unfold pyNext;refine aa (jz (d6 (name:=ic "__next__") hT f6 (en f6 hT F.entry_dict_itemiterator_next ?_ (F.args_dict_itemiterator_next_1 _))));refine aa (ab (aa (aa ?_)))
 first | refine aa (jk hT (ab ?_)) | refine aa (k5 hT (ab ?_))
 refine aa (oj hI rfl ?_);rw [show d8 "dict_itemiterator" = true by decide]; simp only [if_true]
 show wpAny _ _ (if (bx dc == b7)=true then _ else _) _ _ s
 rw [if_neg (show ¬ ((bx dc == b7)=true) from bp)]
 refine aa (ab (aa (f7 h1 h2 ?_)));rw [if_neg (show ¬ _ by simp)];refine aa (ab (aa (jj h1 h2 ?_)));rw [if_neg (show ¬ _ by simp)];refine ab ?_;simp only [show ¬ ((i:Int) < 0) by omega,if_false,lr,iy hge];refine aa ?_
 first | refine aa (jk hT (ab ?_)) | refine aa (k5 hT (ab ?_))
 refine (show wpAny _ _ (setField (.ref it) 2 .none >>= _) _ _ s from aa (m6 hI rfl (by simp) ?_))
 refine (show wpAny _ _ (newExc (.type "StopIteration") [] >>= _) _ _ _ from aa ?_); simp only [newExc,newTuple]
 refine aa (dm (aa (m:=om _ _) (wpAny_of_eq (a:=b7) (by first | rfl | (simp only [om]; rfl)) (dm ?_ (by size_fits)))) (by size_fits))
 simp only [raiseNew];refine aa (wpAny_handled ?_); rw [show A.in1.handled=none from hh]
 refine aa (ab (wpAny_throw ?_)); refine aa (ow (T:="StopIteration") (b:=true) ⟨_,aj _ rfl,rfl⟩ isSubtype_stop ?_);exact ab (q _ (((dw ..).extBut.push _).push _))
theorem BX {i n:Nat} {Q:Value->Shared->Prop} (hI:mJ s.heap it dc i n ep f0 f1 ok ov) (q:Q (.ref it) s):wpAny (model prog w) A (pyIter (.ref it)) Q E s:=by
 have hT:=pA hI;refine wpAny_pyIter_slot hT F.slot_dict_itemiterator_iter (en F.slot_dict_itemiterator_iter hT uK (show wpAny _ _ (Builtin.«dict_keyiterator.__iter__» _) _ _ _ from ?_) (F.args_dict_itemiterator_iter_1 _))
 unfold Builtin.«dict_keyiterator.__iter__»;refine aa (ab ?_);exact ab ⟨_,rfl,"dict_itemiterator",_,hT,f6.lookup,q⟩
end
theorem BY {P:Program} {w:World} {K:ag} {nm:Str} {np:Pos} (it dc:Addr) (oc:Obj) (u:HO) (es:Array ie) (ep:Nat) (h2:oc.data=.dict es ep) (ks:List (V×V)) (hl:ks.length=es.size)
  (hk:∀ (i:Nat) (hi:i < es.size),∃ kv,ks[i]?=some kv/\RelV kv.1 es[i].key/\RelV kv.2 es[i].val):Turn P w K (.Name nm np) (ItI dc oc u ks) [it] it (fun i h=>∃ f0 f1 ok ov,F9 f0/\mJ h it dc i es.size ep f0 f1 ok ov) where
 mem:=by simp
 obj:=fun i h ⟨f0,f1,ok,ov,ff,st⟩ b hb=>by
  have e:b=it:=by simpa using hb
  subst e;exact ⟨_,st,fun v z=>by cases z⟩
 keep:=fun i h h' ⟨f0,f1,ok,ov,ff,st⟩ k=>⟨f0,f1,ok,ov,ff,k it (by simp) _ st⟩
 item:=by
  intro X hP hw hK hc i pins s σ H E I hf ⟨q0,q1,ok,ov,ff,st⟩ ⟨hg,hi⟩;subst hP hw hK;have hi':i < es.size:=by omega
  obtain ⟨kv,ekv,r1,r2⟩:=hk i hi';obtain ⟨f0,f1,f2,f3,f4,f5⟩:=hf it (by simp);have hoc:s.heap.get? dc=some oc:=(I.hok dc _ hg).1;refine vO st hoc h2 hi' ff fun h'' q0' q1' ok' ov' ff' hI gt kp=>⟨_,rfl,?_⟩
  show wpAny _ _ (pure ()) _ _ _
  refine ab ?_;have fr:H s.heap.objs.size=none:=I.hok.fresh (az _);have ne:s.heap.objs.size≠it:=ft (ak st);have gt':h''.get? s.heap.objs.size=some { cls:=.type "tuple",data:=.seq #[es[i].key,es[i].val] }:=gt;have kp':∀ (b:Addr) (o:Obj),b≠it->s.heap.get? b=some o->h''.get? b=some o:=kp;have nit:∀ b u,H b=some u->b≠it:=fun b u e z=>by rw [z,f0] at e; cases e
  have nsz:∀ b u,H b=some u->b≠s.heap.objs.size:=fun b u e z=>by rw [z,fr] at e; cases e
  refine ⟨.ref s.heap.objs.size,upd H s.heap.objs.size (.tup [kv.1,kv.2]),?_,rfl,⟨_,kv,fr,ekv,rfl,rfl⟩,⟨_,_,_,_,ff',hI⟩,fun b hb=>?_⟩
  ·refine Inv.step (s:=s) (h':=h'') (H:=H) (g':=s.gens) (d':=s.drawn) (t':=s.toks) (ch:=[it]) I (fun b hb=>?_) (fun b o _ _ hc e _=>kp' b o (fun z=>hc (by simp [z])) e) (fun b o _ _ hc e _=>⟨o.slots,kp' b o (fun z=>hc (by simp [z])) e⟩) (fun b o hc e n=>?_)
    (fun b o hc e=>⟨o,kp' b o (fun z=>hc (by simp [z])) e⟩) (fun b xs e=>by rw [aH (nsz _ _ e)]; exact e) (fun b o u e=>by rw [aH (nsz _ _ e)]; exact e) (fun b ps e=>⟨#[],by rw [aH (nsz _ _ e),e]; simp⟩) (fun m hm=>?_) (fun b u e=>?_) I.bare
   ·have e:b=it:=by simpa using hb
    subst e;exact ⟨f3,f1,f4,f5⟩
   ·rw [aH (ba (ak e))]; exact n
   ·obtain ⟨o,es,ep,ho,r⟩:=hm;exact ⟨o,es,ep,kp' _ o (ik f1) ho,r⟩
   ·by_cases hb:b=s.heap.objs.size
    ·subst hb;rw [aK] at e;cases e
     exact ⟨by show 2<=aw; rw [jA]; decide,[es[i].key,es[i].val],.cons r1 (.cons r2 .nil),_,gt',rfl,⟨_,rfl⟩,rfl⟩
    ·rw [aH hb] at e;refine (I.hok b u e).stay (fun c v hc q=>kp' c v ?_ q) (fun c q=>by rw [aH (nsz _ _ q)]; exact q) fun c xs q=>by rw [aH (nsz _ _ q)]; exact q
     rcases hc with z | z
     ·rw [z]; exact nit b u e
     ·exact nit c _ z
  ·have e:b=it:=by simpa using hb
   subst e;rw [aH (ik ne)]; exact f0
 done:=by
  intro X hP hw hK hc i pins s σ H E I hf ⟨q0,q1,ok,ov,ff,st⟩ ⟨hg,hi⟩;subst hP hw hK;obtain ⟨f0,f1,f2,f3,f4,f5⟩:=hf it (by simp);have hoc:s.heap.get? dc=some oc:=(I.hok dc _ hg).1;exact vP (I.ok.hd hc) st hoc h2 (by omega) fun h' eb=>⟨rfl,I.turned (t':=s.toks) (fun b o hb e=>eb b o hb e) f0 f1 f3 f4 f5⟩
 self:=fun _ _ _ _ _ ⟨_,_,_,_,_,st⟩ h=>BX st h
section
variable {C:MC} {k:Nat} {X:Cx} {pins:List (Addr×Obj)} {σ:St} {H:Hp} {s:Shared} {φ:List Addr}
theorem Fb {iter:Expr} {nm:Str} {np:Pos} {m:Me} (h:SE C k X iter m):SI C k X (.Name nm np) iter (oZ true m):=fun c=>by
 intro pins s σ H R I q;obtain ⟨φ,δ,hh,rh,re,p⟩:=q;have key:rd C m σ H fun v H1=>∃ φ1 x h1,φ<+:φ1/\Kp H H1/\RH C φ1 H1 h1/\RV C φ1 H1 x v/\dZ C φ1 H1 (walk2 true x h1) R:=by
  refine ⟨φ,δ,hh,rh,re,?_⟩;unfold oZ at p;cases e:m δ hh with
  | ok x h1=>
   rw [e] at p;intro φ' v H' p' t' rh' rv';refine ⟨φ',x,h1,p',t',rh',rv',?_⟩
   show dZ C φ' H' (walk2 true x h1) R
   have p0:dZ C φ H (walk2 true x h1) R:=p;cases e2:walk2 true x h1 with
   | ok w h2=>rw [e2] at p0; exact fun φ2 H2 J p2 t2=>p0 φ2 H2 J (p'.trans p2) (t'.trans t2)
   | exc z h2=>rw [e2] at p0; exact fun φ2 H2 p2 t2=>p0 φ2 H2 (p'.trans p2) (t'.trans t2)
   | bad=>rw [e2] at p0; exact p0
  | exc x h1=>rw [e] at p; exact p
  | bad=>rw [e] at p; exact p
 refine thn (h c pins s σ H _ I key) fun v s1 hz=>?_;obtain ⟨x,H1,I1,r1,φ1,x',h1,p1,t1,rh1,rv1,q1⟩:=hz;unfold walk2 at q1;cases e:wkI true x' h1 with
 | none=>rw [e] at q1; exact q1.elim
 | some t=>
  obtain ⟨d,o,xs⟩:=t;rw [e] at q1;dsimp only at q1;obtain ⟨n,rfl,hcase⟩:=LD e;obtain ⟨a,rfl,ha⟩:=rv1;cases r1
  -- the frozen heap
  have fin:∀ {bb:Addr} {ks:List (V×V)} {u:HO} {oc:Obj} {es:Array ie} {ep:Nat} (hbb:φ1[d]?=some bb) (W:Rl C φ1 H1 s1 bb o ks u oc es ep) (ob:Obj) (J:It) (tn:Nat->Heap->Prop),(∀ φ2 H2 h2,φ1<+:φ2->Kp (upd H1 bb (.frz oc u)) H2->RH C φ2 H2 h2->∀ i:Nat,
    (i < xs.length->J.go i H2/\∀ x H',J.yld i H2 x H'->(∃ p,xs[i]?=some p/\RV C φ2 H' p x)/\Kp H2 H'/\RH C φ2 H' h2)/\(xs.length<=i->J.stop i H2))->
    Turn X.prog X.w X.K (.Name nm np) J [s1.heap.objs.size] s1.heap.objs.size tn->tn 0 (s1.heap.push ob)->PIE X pins σ (.Name nm np) R (.ref s1.heap.objs.size) { s1 with heap:=s1.heap.push ob }:=fun {bb ks u oc es ep} hbb W ob J tn hJ hT h0=>by
   have I2:=I1.freeze W.at' W.nf W.nz W.get;have nt:rT (H1 bb):=by rw [W.at']; exact W.nt
   refine ⟨s1.heap.objs.size,[s1.heap.objs.size],tn,J,upd H1 bb (.frz oc u),rfl,I2.kept (t':=s1.toks) fun b o e=>ae _ e,hT,h0,fun b hb=>?_,?_⟩
   ·have e:b=s1.heap.objs.size:=by simpa using hb
    subst e;exact I2.fpOk (az _) (I2.hok.fresh (az _))
   ·exact q1 φ1 _ J ai (Kp.upd nt) (rh1.write hbb nt (W.fz φ1 _ ai aK (Kp.upd nt))) fun φ2 H2 h2 p2 t2 rh2 _ i=>hJ φ2 H2 h2 p2 t2 rh2 i
  rcases hcase with ⟨hv,hbt,ho,hx⟩ | ⟨ho,rfl,hx⟩
  ·obtain ⟨bb,hbb,hH⟩:=rh1.at' n a _ ha hv;obtain ⟨ks,u,oc,es,ep,W⟩:=BS c I1 rh1 hbb ho (qQ hx);have hview:s1.heap.IsItemsView a bb:=(I1.hok a _ hH).1;obtain ⟨lx,ex⟩:=W.items xs hx;refine uJ hview W.get W.data (fin hbb W _ (ItI bb oc u ks) _ (fun φ2 H2 h2 p2 t2 rh2 i=>⟨fun hi=>⟨⟨t2.2 _ _ _ aK,by omega⟩,fun x H' y=>?_⟩,fun hi=>⟨t2.2 _ _ _ aK,by omega⟩⟩) (BY _ bb oc u es ep W.data ks W.len W.ent) ⟨.none,false,.none,.none,.inl rfl,aj _ rfl⟩);obtain ⟨t,kv,ht,ekv,rfl,rfl⟩:=y;obtain ⟨p1,p2',kv',epp,ekv',rp1,rp2⟩:=ex i xs[i] (by simp [hi]);rw [ekv] at ekv';cases ekv'
   have nt:rT (H1 bb):=by rw [W.at']; exact W.nt
   have T:Kp H1 (upd H2 t (.tup [kv.1,kv.2])):=(Kp.upd nt).trans (t2.trans (Kp.new ht));refine ⟨⟨xs[i],by simp [hi],?_⟩,Kp.new ht,rh2.aside ht⟩;rw [epp];exact ⟨t,[kv.1,kv.2],rfl,.inl (.inl aK),rp1.mono p2 T,rp2.mono p2 T,trivial⟩
  ·obtain ⟨ks,u,oc,es,ep,W⟩:=BS c I1 rh1 ha ho (Ja hx);have rk:=W.keys xs hx;have lx:=rk.length;rw [ar] at lx;refine G9 ⟨oc,W.get,W.cls⟩ W.nsys W.get W.data (fin ha W _ (ItK a oc u (ks.map (·.1))) _ (fun φ2 H2 h2 p2 t2 rh2 i=>⟨fun hi=>⟨⟨t2.2 _ _ _ aK,by rw [ar]; omega⟩,fun x H' y=>?_⟩,fun hi=>⟨t2.2 _ _ _ aK,by rw [ar]; omega⟩⟩) (Ga _ a oc u es ep W.data (ks.map (·.1)) (by rw [ar]; exact W.len) fun i hi=>?_) ⟨_,aj _ rfl,rfl,rfl⟩)
   ·obtain ⟨rfl,ey⟩:=y;have nt:rT (H1 a):=by rw [W.at']; exact W.nt
    obtain ⟨p,ep',rp⟩:=rk.get ey;exact ⟨⟨p,ep',rp.mono p2 ((Kp.upd nt).trans t2)⟩,Kp.refl _,rh2⟩
   ·obtain ⟨kv,ekv,r1,_⟩:=W.ent i hi;exact ⟨kv.1,by rw [br,ekv]; rfl,r1⟩
end
structure Prs (es:Array ie) (lo:Addr) (h:Heap) (as:List Addr):Prop where
 above:∀ a∈as,lo < a
 rise:as.Pairwise (· < ·)
 pairs:∀ (j:Nat) a,as[j]?=some a->∃ e,es[j]?=some e/\h.get? a=some { cls:=.type "tuple",data:=.seq #[e.key,e.val] }
section
variable {prog:Program} {w:World} {A:Around} {s:Shared} {es:Array ie} {ep:Nat} {oc:Obj} {R:Result->Shared->Prop}
theorem Jm {S I d:Addr} (hh:A.handled=none) (hSI:S < I) (hSd:d≠S) (hId:d≠I) (h2:oc.data=.dict es ep) (hn:es.size<=aw) (res:Value) {h₁:Heap}
  (hR:∀ h' tk acc c as,(∀ b o,b≠S->b≠I->h₁.get? b=some o->h'.get? b=some o)->h'.get? S=some { cls:=.type "list",dict:=none,data:=.seq acc c,slots:=#[] }->as.length=es.size->Prs es I h' as->
   acc.toList=as.map bx->R (.ok (.ret res)) { s with heap:=h',toks:=tk }):
  ∀ (k i:Nat) (h:Heap) (tk c:Nat) (acc:Array Value) (as:List Addr) (f0:Value) (f1:Bool) (ok ov:Value),es.size - i=k->i<=es.size->F9 f0->mJ h I d i es.size ep f0 f1 ok ov->h.get? d=some oc->(∀ b o,b≠S->b≠I->h₁.get? b=some o->h.get? b=some o)->
   h.get? S=some { cls:=.type "list",dict:=none,data:=.seq acc c,slots:=#[] }->acc.toList=as.map bx->as.length=i->Prs es I h as->
   codeAny (model prog w) A (.builtin "list.extend.loop" ⟨[.ref S,.ref I,res],[]⟩) R { s with heap:=h,toks:=tk }:=by
 have hne:S≠I:=ba hSI;intro k
 induction k with
 | zero=>
  intro i h tk c acc as f0 f1 ok ov hk hi ff hst hD hkeep hS hacc hal hG;refine ka PySem.F.entry_extend_loop ?_;rw [gu i9 _]
  show wpAny _ A.in1 (pyNext (.ref I) >>= _) _ _ _
  refine aa (vP (s:={ s with heap:=h,toks:=tk }) (A:=A.in1) hh hst hD h2 (by omega) fun h' he=>?_);refine ab (hR h' tk acc c as (fun b o h1 h2 e=>he b o h2 (hkeep b o h1 h2 e)) (he S _ hne hS) (by omega) ⟨hG.above,hG.rise,fun j a hj=>?_⟩ hacc);obtain ⟨e,e1,e2⟩:=hG.pairs j a hj;exact ⟨e,e1,he a _ (ft (hG.above a (fe hj))) e2⟩
 | succ k ih=>
  intro i h tk c acc as f0 f1 ok ov hk hi ff hst hD hkeep hS hacc hal hG;have hlt:i < es.size:=by omega
  have hsz:acc.size=i:=by rw [<- mf,hacc,ar,hal]
  have hIs:I < h.objs.size:=ak hst;have hSl:S < h.objs.size:=ak hS;refine ka PySem.F.entry_extend_loop ?_;rw [gu i9 _]
  show wpAny _ A.in1 (pyNext (.ref I) >>= _) _ _ _
  refine aa (vO (s:={ s with heap:=h,toks:=tk }) (A:=A.in1) hst hD h2 hlt ff fun h' g0 g1 ok' ov' ff' hst' ht hkp=>?_);dsimp only at ht hkp ⊢;have hS':=hkp S _ hne hS;have up:∀ b o,b≠S->h'.get? b=some o->(h'.update S (fc (·.push (bx h.objs.size)))).get? b=some o:=fun b o hb e=>(iw _ _ (ik hb)).trans e
  show wpAny _ A.in1 (updateSeq S (·.push (bx h.objs.size)) >>= _) _ _ _
  refine aa ?_;refine wpAny_updateSeq hS' rfl (ab ⟨mx i9 _,ih (i+1) _ tk _ (acc.push (bx h.objs.size)) (as++[h.objs.size]) g0 g1 ok' ov' (by omega) hlt ff' (up I _ (ik hne) hst') (up d _ hSd (hkp d _ hId hD))
   (fun b o h1 h2 e=>up b o h1 (hkp b o h2 (hkeep b o h1 h2 e))) (fg _ hS' rfl) (by rw [Array.toList_push,hacc,jg]; rfl) (by rw [bo,hal]; rfl) ⟨?_,?_,?_⟩⟩) (by rw [hsz]; omega) (by show (acc.push (bx h.objs.size)).size<=aw+1; rw [Array.size_push]; omega)
  ·intro a ha;rcases bh.mp ha with ha | ha
   ·exact hG.above a ha
   ·rw [c8.mp ha]; exact hIs
  ·refine bf.mpr ⟨hG.rise,jy _ _,fun a ha b hb=>?_⟩;rw [c8.mp hb];obtain ⟨j,hj⟩:=n5.mp ha;obtain ⟨e,_,e2⟩:=hG.pairs j a hj;exact ak e2
  ·intro j b hj;rcases Nat.lt_trichotomy j as.length with h1 | h1 | h1
   ·rw [bj h1] at hj;obtain ⟨e,e1,e2⟩:=hG.pairs j b hj;have hb:=hG.above b (fe hj);exact ⟨e,e1,up b _ (ft (o8 hSI hb)) (hkp b _ (ft hb) e2)⟩
   ·subst h1;have hb:h.objs.size=b:=by simpa using hj
    subst hb;exact ⟨es[i],by rw [hal]; simp [hlt],up _ _ (ft hSl) ht⟩
   ·have hnone:(as++[h.objs.size])[j]?=none:=ji (by rw [bo,List.length_singleton]; omega);rw [hnone] at hj; cases hj
end
end L2
namespace L2
open PySem PySem.Spec PyProof.Rows PySem.W
theorem Prs.low {es:Array ie} {lo lo':Addr} {h:Heap} {as:List Addr} (g:Prs es lo h as) (hl:lo'<=lo):Prs es lo' h as:=⟨fun a ha=>Nat.lt_of_le_of_lt hl (g.above a ha),g.rise,g.pairs⟩
section
variable {prog:Program} {w:World} {A:Around} {E:Value->Shared->Prop} {s:Shared} {es:Array ie} {ep:Nat} {oc:Obj} {r d:Addr}
theorem vQ {R:Result->Shared->Prop} (hh:A.handled=none) (hv:s.heap.IsItemsView r d) (hD:s.heap.get? d=some oc) (h2:oc.data=.dict es ep) (S:Addr) (hSr:S≠r) (hSd:d≠S) (res:Value) (c₀:Nat) (hS:s.heap.get? S=some { cls:=.type "list",data:=.seq #[] c₀ })
  (hR:∀ h' tk acc c as,(∀ b o,b≠S->s.heap.get? b=some o->h'.get? b=some o)->h'.get? S=some { cls:=.type "list",dict:=none,data:=.seq acc c,slots:=#[] }->as.length=es.size->Prs es s.heap.objs.size h' as->
   acc.toList=as.map bx->R (.ok (.ret res)) { s with heap:=h',toks:=tk }) (hn:es.size<=aw):
  wpAny (model prog w) A.in1 (ir (.ref S) (.ref r) res)
   (fun fin s'=>match fin with | .done f=>R (.ok f) s' | .again c'=>c'.quiet=true/\codeAny (model prog w) A c' R s') (fun e s'=>R (.error e) s') s:=by
 have hSI:S < s.heap.objs.size:=ak hS;have hdI:d < s.heap.objs.size:=ak hD;have key:∀ (h:Heap) (c₁ tk:Nat),(∀ b o,b≠S->(s.heap.push { cls:=.type "dict_itemiterator",data:=.fields #[.none,.bool false,.ref d,.int 0 0,.int es.size 0,.int ep 0,.none,.none] }).get? b=some o->h.get? b=some o)->
   h.get? S=some { cls:=.type "list",data:=.seq #[] c₁ }->codeAny (model prog w) A (.builtin "list.extend.loop" ⟨[.ref S,.ref s.heap.objs.size,res],[]⟩) R { s with heap:=h,toks:=tk }:=by
  intro h c₁ tk hk hS₁;have hI:=hk s.heap.objs.size _ (ft hSI) (aj _ rfl);exact Jm (es:=es) (ep:=ep) (oc:=oc) (s:=s) (h₁:=s.heap) hh hSI hSd (ba hdI) h2 hn res (fun h' tk' acc c as hk' hS' hl hG hacc=>hR h' tk' acc c as (fun b o hb e=>hk' b o hb (ba (ak e)) e) hS' hl hG hacc)
   es.size 0 h tk c₁ #[] [] .none false .none .none (jf _) (d4 _) (.inl rfl) hI (hk d _ hSd (ae _ hD)) (fun b o hb _ e=>hk b o hb (ae _ e)) hS₁ rfl rfl
   ⟨(fun _ ha=>nomatch ha),j5,(fun j a hj=>by simp at hj)⟩
 unfold ir;refine aa (nc (T:="dict_items") hv.typeIs ?_);have h1:Builtin.List.listSameRef (.ref S) (.ref r)=false:=by simp [Builtin.List.listSameRef,hSr]
 have h3:(Value.type "dict_items" == Value.type "list")=false:=by decide
 have h4:(Value.type "dict_items" == Value.type "tuple")=false:=by decide
 simp only [h1,h3,h4,Bool.or_false,c9,if_false];refine aa (uJ hv hD h2 ?_);have hS₁:=ae { cls:=.type "dict_itemiterator",data:=.fields #[.none,.bool false,.ref d,.int 0 0,.int es.size 0,.int ep 0,.none,.none] } hS;refine aa (gp (kdx_hint (let ⟨o,ho,hc,_⟩:=hv; ⟨o,ae _ ho,hc⟩) ?_));refine wpAny_ite_split (fun _=>?_) (fun _=>ab ⟨mx i9 _,key _ c₀ _ (fun b o _ e=>e) hS₁⟩);refine aa (m5 ?_);refine aa ?_
 show wpAny _ _ (updateSeq S (·.push .none) >>= fun _=>updateSeq S (·.pop)) _ _ _
 refine aa (wpAny_updateSeq hS₁ rfl ?_);have hS₂:=fg (fc (·.push b7)) hS₁ rfl;refine wpAny_updateSeq (hz:=by seq_fits) hS₂ rfl ?_;have hS₃:=fg (fc (·.pop)) hS₂ rfl;refine ab ⟨mx i9 _,key _ _ _ (fun b o hb e=>?_) hS₃⟩;exact (iw _ _ (ik hb)).trans ((iw _ _ (ik hb)).trans e)
theorem Jn {Q:Value->Shared->Prop} (hh:A.handled=none) (hv:s.heap.IsItemsView r d) (hD:s.heap.get? d=some oc) (h2:oc.data=.dict es ep) (hn:es.size<=aw)
  (hQ:∀ h' tk acc c as,(∀ b o,s.heap.get? b=some o->h'.get? b=some o)->h'.get? s.heap.objs.size=some { cls:=.type "list",dict:=none,data:=.seq acc c,slots:=#[] }->as.length=es.size->Prs es s.heap.objs.size h' as->
   acc.toList=as.map bx->Q (.ref s.heap.objs.size) { s with heap:=h',toks:=tk }):
  wpAny (model prog w) A (call (.type "list") [.ref r]) Q E s:=by
 refine callType_codes (Q₁:=fun obj s₁=>obj=.ref s.heap.objs.size/\s₁={ s with heap:=s.heap.push { cls:=.type "list",data:=.seq #[] } }) PySem.F.called_list (PySem.F.typeCall_list_1 _) PySem.F.entry_list_init
  (code_list_new _ ⟨rfl,rfl⟩) fun obj s₁ h₁=>?_
 obtain ⟨rfl,rfl⟩:=h₁
 have hS:(s.heap.push { cls:=.type "list",data:=.seq #[] }).get? s.heap.objs.size=some { cls:=.type "list",data:=.seq #[] }:=aj _ rfl
 have hr:r < s.heap.objs.size:=let ⟨_,ho,_⟩:=hv; ak ho
 have hd:d < s.heap.objs.size:=ak hD
 refine ⟨⟨_,hS,rfl⟩,PySem.F.args_list_init_2 _ _,?_⟩
 show wpAny _ A.in1.in1 (do let old <- Builtin.List.listItems (.ref s.heap.objs.size); Builtin.List.listUpdate (.ref s.heap.objs.size) (fun _=>#[]); letGo old.toList.reverse; ir (.ref s.heap.objs.size) (.ref r) .none) _ _ _
 refine aa ?_
 unfold Builtin.List.listItems
 refine aa (i7 hS rfl (ab ?_))
 show wpAny _ _ (updateSeq s.heap.objs.size (fun _=>#[]) >>= fun _=>letGo (#[]:Array Value).toList.reverse >>= fun _=>ir (.ref s.heap.objs.size) (.ref r) .none) _ _ _
 refine aa (wpAny_updateSeq hS rfl ?_)
 have hS₂:=fg (fc (fun _=>(#[]:Array Value))) hS rfl
 have oth:∀ b o,b≠s.heap.objs.size->s.heap.get? b=some o->((s.heap.push { cls:=.type "list",data:=.seq #[] }).update s.heap.objs.size (fc (fun _=>(#[]:Array Value)))).get? b=some o:=
  fun b o hb e=>(iw _ _ (ik hb)).trans (ae _ e)
 refine aa (wpAny_letGo ?_)
 refine vQ (A:=A.in1) hh (let ⟨o,ho,x⟩:=hv; ⟨o,oth r o (ba hr) ho,x⟩) (oth d _ (ba hd) hD) h2 s.heap.objs.size (ft hr) (ba hd) .none _ hS₂ (fun h' tk acc c as hk hS' hl hG hacc=>?_) hn
 exact ⟨rfl,hQ h' tk acc c as (fun b o e=>hk b o (ba (ak e)) (oth b o (ba (ak e)) e)) hS' hl (hG.low (ki (ak hS₂))) hacc⟩
end
section
variable {prog:Program} {w:World} {A:Around} {E:Value->Shared->Prop} {s:Shared} {es:Array ie} {ep:Nat} {oc:Obj} {r d:Addr}
theorem BZ {R:List Value->Shared->Prop} (hh:A.handled=none) (hv:s.heap.IsItemsView r d) (hD:s.heap.get? d=some oc) (h2:oc.data=.dict es ep) (hn:es.size<=aw)
  (h:∀ (h':Heap) (tk:Nat) (as:List Addr),(∀ b o,s.heap.get? b=some o->h'.get? b=some o)->as.length=es.size->Prs es s.heap.objs.size h' as->R (as.map bx) { s with heap:=h',toks:=tk }):
  wpAny (model prog w) A (collect (.ref r)) R E s:=by
 have hr:r < s.heap.objs.size:=let ⟨_,ho,_⟩:=hv; ak ho;have hd:d < s.heap.objs.size:=ak hD;unfold collect;refine aa (wpAny_runValue (ka entry_proto_collect' ?_));rw [gu PySem.F.plain_proto_collect _]
 show wpAny _ A.in1 (newList [] >>= fun l=>again (.builtin "list.__iadd__" ⟨[l,.ref r],[]⟩)) _ _ s
 refine aa (dm ?_);refine ab ⟨mx PySem.F.plain_list_iadd _,ka entry_list_iadd' ?_⟩;rw [gu PySem.F.plain_list_iadd _];have hS₁:(s.heap.push { cls:=.type "list",data:=.seq ([]:List Value).toArray }).get? s.heap.objs.size=some { cls:=.type "list",data:=.seq #[] }:=aj _ rfl
 show wpAny _ A.in1 (ir (.ref s.heap.objs.size) (.ref r) (.ref s.heap.objs.size)) _ _ _
 have key:=vQ (A:=A) (s:={ s with heap:=s.heap.push { cls:=.type "list",data:=.seq ([]:List Value).toArray } }) (prog:=prog) (w:=w) (es:=es) (ep:=ep) (oc:=oc) (r:=r) (d:=d)
  (R:=fun (q:Result) (s':Shared)=>∃ (h':Heap) (tk:Nat) (acc':Array Value) (c':Nat) (as:List Addr),q=.ok (.ret (.ref s.heap.objs.size))/\s'={ s with heap:=h',toks:=tk }/\
   (∀ b o,s.heap.get? b=some o->h'.get? b=some o)/\h'.get? s.heap.objs.size=some { cls:=.type "list",dict:=none,data:=.seq acc' c',slots:=#[] }/\as.length=es.size/\Prs es s.heap.objs.size h' as/\acc'.toList=as.map bx)
  hh (let ⟨o,ho,x⟩:=hv; ⟨o,ae _ ho,x⟩) (ae _ hD) h2 s.heap.objs.size (ft hr) (ba hd) (.ref s.heap.objs.size) 0 hS₁
  (fun h' tk acc' c' as hk hS' hl hG hacc=>⟨h',tk,acc',c',as,rfl,rfl,fun b o e=>hk b o (ba (ak e)) (ae _ e),hS',hl,hG.low (by show s.heap.objs.size<=(s.heap.push _).objs.size; rw [gj]; exact Nat.le_succ _),hacc⟩) hn
 have fin:∀ (h':Heap) (tk:Nat) (acc':Array Value) (c':Nat) (as:List Addr),(∀ b o,s.heap.get? b=some o->h'.get? b=some o)->h'.get? s.heap.objs.size=some { cls:=.type "list",dict:=none,data:=.seq acc' c',slots:=#[] }->as.length=es.size->Prs es s.heap.objs.size h' as->acc'.toList=as.map bx->R acc'.toList { s with heap:=h',toks:=tk }:=fun h' tk acc' c' as hk _ hl hG hacc=>by
  rw [hacc];exact h h' tk as hk hl hG
 refine jl key (fun fn s' x=>?_) fun e s' x=>?_
 ·cases fn with
  | done f=>
   obtain ⟨h',tk,acc',c',as,e,rfl,hk,hS',hl,hG,hacc⟩:=x;cases e
   show wpAny _ A (load s.heap.objs.size >>= _) _ _ _
   refine aa (wpAny_load hS' (ab ?_));exact fin h' tk acc' c' as hk hS' hl hG hacc
  | again c₁=>
   refine ⟨x.1,codeAny_mono x.2 fun q s₂ y=>?_⟩;obtain ⟨h',tk,acc',c',as,rfl,rfl,hk,hS',hl,hG,hacc⟩:=y
   show wpAny _ A (load s.heap.objs.size >>= _) _ _ _
   refine aa (wpAny_load hS' (ab ?_));exact fin h' tk acc' c' as hk hS' hl hG hacc
 ·obtain ⟨_,_,_,_,_,e',_⟩:=x;cases e'
end
section
variable {X:Cx} {pins:List (Addr×Obj)} {σ:St} {H:Hp} {s:Shared} {h':Heap}
theorem Inv.laidTL {ps:List (Addr×List V)} {S:Addr} {ws:List V} {t':Nat} (I:Inv X pins σ H s) (k:∀ b u,s.heap.get? b=some u->h'.get? b=some u) (hp:∀ p∈ps,s.heap.objs.size<=p.1) (new:∀ p∈ps,p.2.length<=aw/\∃ its:List Value,aN p.2 its/\nQ h' p.1 its.toArray)
  (hS:s.heap.objs.size<=S) (hl:bP X.prog X.w (upd (qI H ps) S (.lst ws)) h' S (.lst ws)):
  Inv X pins σ (upd (qI H ps) S (.lst ws)) { s with heap:=h',toks:=t' }:=by
 have nb:∀ b,b < s.heap.objs.size->∀ p∈ps,p.1≠b:=fun b hb p hp' e=>fu _ (bz hb (e ▸ hp p hp'));have old:∀ b,b < s.heap.objs.size->upd (qI H ps) S (.lst ws) b=H b:=fun b hb=>by
  rw [aH (ba (bz hb hS))];exact oJ (nb b hb)
 refine I.un ⟨fun b u q _ _ _=>k b u q,fun b u q _ _ _=>⟨u.slots,k b u q⟩,fun b u q n _=>(old b (ak q)).trans n,fun b u q _=>⟨u,k b u q⟩,fun b xs q=>(old b (I.hok.lt q)).trans q,fun b u xs q=>(old b (I.hok.lt q)).trans q,fun b ps' q=>⟨#[],by rw [old b (I.hok.lt q),q]; simp⟩⟩ ?_;intro b u e
 by_cases hb:b=S
 ·subst hb;rw [aK] at e;cases e
  exact hl
 rw [aH hb] at e;unfold qI at e;cases q:ps.lookup b with
 | some xs=>
  rw [q] at e;cases e
  obtain ⟨z,its,r,p⟩:=new _ (jX q);exact ⟨z,its,r,p⟩
 | none=>
  rw [q] at e;exact (I.hok b u e).stay (fun c v _ q=>k c v q) (fun c q=>(old c (I.hok.lt q)).trans q) fun c xs q=>(old c (I.hok.lt q)).trans q
end
section
variable {C:MC} {k:Nat} {X:Cx} {φ:List Addr} {H:Hp}
theorem DO:∀ {ps:List PV} {vs:List V},ps.length=vs.length->(∀ (i:Nat) p v,ps[i]?=some p->vs[i]?=some v->RV C φ H p v)->RVs C φ H ps vs
 | [],[],_,_=>trivial
 | p :: ps,v :: vs,hl,h=>⟨h 0 p v rfl rfl,DO (by simpa using hl) fun i a b ha hb=>h (i+1) a b (by simpa using ha) (by simpa using hb)⟩
 | [],_ :: _,hl,_=>by cases hl
 | _ :: _,[],hl,_=>by cases hl
theorem DP (c:Cxt C k X):cJ X (.type "list") (fun xs H Q=>∃ (φ:List Addr) (h:PH) (a:Addr) (d:Nat) (b:Addr) (o:MO) (ys:List PV),xs=[.ref a]/\RH C φ H h/\φ[d]?=some b/\H a=some (Bu 0 a b)/\h[d]?=some o/\fT o=some ys/\ys.length < 1000000/\∀ H1 l ws,tW H H1->H1 l=none->RVs C φ H1 ys ws->Q (.ref l) (upd H1 l (.lst ws))):=by
 intro pins s σ H xs us Q I r h;obtain ⟨φ,h,a,d,b,o,ys,rfl,rh,hb,hH,ho,ey,hz,q⟩:=h;obtain ⟨u,rfl,ru⟩:=vals1 r;cases ru
 obtain ⟨ks,u,oc,es,ep,W⟩:=BS c I rh hb ho (qQ ey);have hv:s.heap.IsItemsView a b:=(I.hok a _ hH).1;obtain ⟨ly,ent⟩:=W.items ys ey;have lk:=W.len;have hn:es.size<=aw:=by rw [gd]; omega
 refine Jn (I.ok.hd c.calm) hv W.get W.data hn fun h' tk acc c' as kp hS hl hG hacc=>?_;have psl:(as.zip (ks.map fun kv=>[kv.1,kv.2])).map (·.1)=as:=by
  show (as.zip _).map il=as
  rw [List.map_fst_zip];rw [ar];omega
 have hpl:∀ q∈as.zip (ks.map fun kv=>[kv.1,kv.2]),s.heap.objs.size<=q.1:=fun q hq=>by
  have:q.1∈as:=by rw [<- psl]; exact dt.mpr ⟨q,hq,rfl⟩
  exact ki (hG.above _ this)
 have nd:((as.zip (ks.map fun kv=>[kv.1,kv.2])).map (·.1)).Nodup:=by
  rw [psl];exact hG.rise.imp fun h=>ba h
 have each:∀ (j:Nat) (t:Addr),as[j]?=some t->∃ (kv:V×V) (e:ie),ks[j]?=some kv/\(as.zip (ks.map fun kv=>[kv.1,kv.2]))[j]?=some (t,[kv.1,kv.2])/\RelV kv.1 e.key/\RelV kv.2 e.val/\h'.get? t=some { cls:=.type "tuple",data:=.seq #[e.key,e.val] }:=fun j t ht=>by
  obtain ⟨e,e1,e2⟩:=hG.pairs j t ht;have hj:=(af.mp ht).1;obtain ⟨kv,ekv,r1,r2⟩:=W.ent j (by omega);have ee:es[j]'(by omega)=e:=by
   have:=i8 (xs:=es) (i:=j) (by omega);rw [this] at e1; cases e1; rfl
  refine ⟨kv,e,ekv,?_,by rw [<- ee]; exact r1,by rw [<- ee]; exact r2,e2⟩;rw [i6];exact ⟨ht,by simp [ekv]⟩
 have hSn:∀ p∈as.zip (ks.map fun kv=>[kv.1,kv.2]),p.1≠s.heap.objs.size:=fun p hp e=>by
  have:p.1∈as:=by rw [<- psl]; exact dt.mpr ⟨p,hp,rfl⟩
  exact fu _ (e ▸ hG.above _ this)
 have vr:∀ l:List Addr,aN (l.map V.ref) (l.map bx):=fun l=>by
  induction l with
  | nil=>exact .nil
  | cons a l ih=>exact .cons rfl ih
 refine ⟨.ref s.heap.objs.size,_,I.laidTL (t':=tk) (S:=s.heap.objs.size) (ws:=as.map V.ref) (ps:=as.zip (ks.map fun kv=>[kv.1,kv.2])) kp hpl (fun p hp=>?_) (az _) ⟨by rw [ar]; omega,as.map bx,c',vr as,by rw [<- hacc,Array.toArray_toList]; exact hS⟩,rfl,q _ _ _ (lH I hpl) ?_ ?_⟩
 ·obtain ⟨j,hj⟩:=n5.mp hp;have ha:as[j]?=some p.1:=by
   have:=congrArg (fun l=>l[j]?) psl;simp [hj] at this;exact this.symm
  obtain ⟨kv,e,_,e2,r1,r2,e3⟩:=each j p.1 ha;rw [hj] at e2;have eq2:p.2=[kv.1,kv.2]:=by
   have:=b8 e2;rw [this]
  refine ⟨by rw [eq2,gd]; show 2<=16777216; decide,[e.key,e.val],by rw [eq2]; exact .cons r1 (.cons r2 .nil),⟨_,e3,rfl,⟨0,rfl⟩,rfl⟩⟩
 ·rw [oJ hSn];exact I.fresh
 ·refine DO (by rw [ar]; omega) fun i p v hp hvv=>?_;rw [br] at hvv;obtain ⟨t,ht,rfl⟩:=df.mp hvv;obtain ⟨kv,e,ekv,e2,_⟩:=each i t ht;obtain ⟨p1,p2,kv',rfl,ekv',q1,q2⟩:=ent i p hp;rw [ekv] at ekv';cases ekv'
  have T:=Kp.same (lH I hpl);exact ⟨t,[kv.1,kv.2],rfl,.inl (.inl (uI nd e2)),q1.mono ai T,q2.mono ai T,trivial⟩
end
section
variable {C:MC} {k:Nat} {X:Cx}
def gW (h:PH) (n:Nat):Option (List PV):=match h[n]? with
 | some (.vw 0 d)=>match h[d]? with
  | some o=>fT o
  | none=>none
 | _=>none
def eX:List PV->PH->Rs PV:=fun xs h=>match xs with
 | [.ref n]=>match gW h n with
  | some ys=>if ys.length < 1000000 then .ok (.ref h.length) (h++[.lst ys]) else .bad
  | none=>vD xs h
 | _=>vD xs h
theorem Ai:mF C k X (.type "list") eX:=fun c=>cJ.imp (cJ.or (Lv c) (DP c)) fun vs H Q h=>by
 obtain ⟨φ,h,ps,rh,rv,po⟩:=h;unfold eX at po;split at po
 ·rename_i n;split at po
  ·rename_i ys e;obtain ⟨hz,po⟩:=po.ite;unfold gW at e;split at e
   ·rename_i d hv;split at e
    ·rename_i o ho;obtain ⟨v,rfl,rx⟩:=rv.one;obtain ⟨a,rfl,ha⟩:=rx;obtain ⟨b,hb,hH⟩:=rh.at' n a _ ha hv;exact .inr ⟨φ,h,a,d,b,o,ys,rfl,rh,hb,hH,ho,e,hz,fun H1 l ws sm hl rw'=>(po.weak ai (Kp.same sm)).lnew (rh.same sm) rw' hl⟩
    ·cases e
   ·cases e
  ·exact .inl ⟨φ,h,_,rh,rv,po⟩
 ·exact .inl ⟨φ,h,_,rh,rv,po⟩
theorem Gd {h:PH} {n d:Nat} {o:MO} {ys:List PV} (e:h[n]?=some (.vw 0 d)) (e2:h[d]?=some o) (e3:fT o=some ys) (hz:ys.length < 1000000):eX [.ref n] h=.ok (.ref h.length) (h++[.lst ys]):=by
 unfold eX gW;simp only [e,e2,e3,hz,if_true]
end
end L2
namespace L2
open PySem PySem.Spec PyProof.Rows PySem.SeqAt PySem.W
def hV (x:PV) (h:PH):Option (List PV):=match x with
 | .ref n=>match aS h n with
  | some ys=>some ys
  | none=>gW h n
 | .fl ys=>some ys
 | _=>none
noncomputable def fJ (f:Fn) (b:Bool) (kb:Nat) (x:PV) (h:PH):Rs PV:=match hV x h with
 | some ys=>if ys.length < 1000000 then eF f b kb ys ys [] h else .bad
 | none=>.bad
noncomputable def jF (f:Fn) (b:Bool) (kb:Nat) (me:Me):Me:=fun δ h=>(me δ h).bind fun x h1=>fJ f b kb x h1
section
variable {C:MC} {k:Nat} {X:Cx}
theorem Ge {pins:List (Addr×Obj)} {s:Shared} {σ:St} {φ:List Addr} {H:Hp} {h:PH} {a b:Addr} {d:Nat} {o:MO} {ys:List PV} (c:Cxt C k X) (I:Inv X pins σ H s) (rh:RH C φ H h) (hb:φ[d]?=some b) (hH:H a=some (Bu 0 a b)) (ho:h[d]?=some o) (ey:fT o=some ys) (hz:ys.length < 1000000):
  wpAny (model X.prog X.w) X.A.in1 (collect (.ref a)) (fun its s1=>∃ H1 us,tW H H1/\Inv X pins σ H1 s1/\aN us its/\RVs C φ H1 ys us) X.xe s:=by
 obtain ⟨ks,u,oc,es,ep,W⟩:=BS c I rh hb ho (qQ ey);have hv:s.heap.IsItemsView a b:=(I.hok a _ hH).1;obtain ⟨ly,ent⟩:=W.items ys ey;have lk:=W.len;have hn:es.size<=aw:=by rw [gd]; omega
 refine BZ (I.ok.hd c.calm) hv W.get W.data hn fun h' tk as kp hl hG=>?_;have psl:(as.zip (ks.map fun kv=>[kv.1,kv.2])).map (·.1)=as:=by
  show (as.zip _).map il=as
  rw [List.map_fst_zip];rw [ar];omega
 have hpl:∀ q∈as.zip (ks.map fun kv=>[kv.1,kv.2]),s.heap.objs.size<=q.1:=fun q hq=>by
  have:q.1∈as:=by rw [<- psl]; exact dt.mpr ⟨q,hq,rfl⟩
  exact ki (hG.above _ this)
 have nd:((as.zip (ks.map fun kv=>[kv.1,kv.2])).map (·.1)).Nodup:=by
  rw [psl];exact hG.rise.imp fun h=>ba h
 have each:∀ (j:Nat) (t:Addr),as[j]?=some t->∃ (kv:V×V) (e:ie),ks[j]?=some kv/\(as.zip (ks.map fun kv=>[kv.1,kv.2]))[j]?=some (t,[kv.1,kv.2])/\RelV kv.1 e.key/\RelV kv.2 e.val/\h'.get? t=some { cls:=.type "tuple",data:=.seq #[e.key,e.val] }:=fun j t ht=>by
  obtain ⟨e,e1,e2⟩:=hG.pairs j t ht;have hj:=(af.mp ht).1;obtain ⟨kv,ekv,r1,r2⟩:=W.ent j (by omega);have ee:es[j]'(by omega)=e:=by
   have:=i8 (xs:=es) (i:=j) (by omega);rw [this] at e1; cases e1; rfl
  refine ⟨kv,e,ekv,?_,by rw [<- ee]; exact r1,by rw [<- ee]; exact r2,e2⟩;rw [i6];exact ⟨ht,by simp [ekv]⟩
 have vr:∀ l:List Addr,aN (l.map V.ref) (l.map bx):=fun l=>by
  induction l with
  | nil=>exact .nil
  | cons a l ih=>exact .cons rfl ih
 refine ⟨_,as.map V.ref,lH I hpl,I.laidT (t':=tk) (ps:=as.zip (ks.map fun kv=>[kv.1,kv.2])) kp hpl (fun p hp=>?_),vr as,?_⟩
 ·obtain ⟨j,hj⟩:=n5.mp hp;have ha:as[j]?=some p.1:=by
   have:=congrArg (fun l=>l[j]?) psl;simp [hj] at this;exact this.symm
  obtain ⟨kv,e,_,e2,r1,r2,e3⟩:=each j p.1 ha;rw [hj] at e2;have eq2:p.2=[kv.1,kv.2]:=by
   have:=b8 e2;rw [this]
  refine ⟨by rw [eq2,gd]; show 2<=16777216; decide,[e.key,e.val],by rw [eq2]; exact .cons r1 (.cons r2 .nil),⟨_,e3,rfl,⟨0,rfl⟩,rfl⟩⟩
 ·refine DO (by rw [ar]; omega) fun i p v hp hvv=>?_;rw [br] at hvv;obtain ⟨t,ht,rfl⟩:=df.mp hvv;obtain ⟨kv,e,ekv,e2,_⟩:=each i t ht;obtain ⟨p1,p2,kv',rfl,ekv',q1,q2⟩:=ent i p hp;rw [ekv] at ekv';cases ekv'
  have T:=Kp.same (lH I hpl);exact ⟨t,[kv.1,kv.2],rfl,.inl (.inl (uI nd e2)),q1.mono ai T,q2.mono ai T,trivial⟩
section
variable {x:Str} {st:Stmt} {q:Addr} {fd:dq} {pn:List Str} {j:Nat} {f:Fn}
theorem C0 {b:Bool} {kb:Nat} {kw:List (Str×Value)} (c:Cxt C k X) (D:Def C.K X.mg x st q fd pn) (G:aU X.prog X.w C.K X.mg X.base CX0 j q fd pn (spM C 1 f)) (hj:j+2<=k)
  (ha1:∀ v,argsOk "sorted" ⟨[v],kw⟩) (ha2:∀ v,argsOk "list.sort" ⟨[.ref v],kw⟩) (ht:∀ v,Builtin.«list.sort» ⟨[.ref v],kw⟩=ksk_tree v (.ref q) b)
  {pins:List (Addr×Obj)} {s:Shared} {σ:St} {H:Hp} {Q:VK} {v:V} {u:Value} (I:Inv X pins σ H s) (ru:RelV v u) (h:r1 C (fJ f b kb) v H Q):
  wpAny (model X.prog X.w) X.A (call (.builtin "sorted") [u] kw) (EP X pins σ Q) X.xe s:=by
 obtain ⟨φ,h,p,rh,rp,po⟩:=h;unfold fJ at po;cases ei:hV p h with
 | none=>rw [ei] at po; exact po.elim
 | some ys=>
 rw [ei] at po;obtain ⟨h64,po⟩:=po.ite;refine call_function_entry_kw kind_sorted plain_sorted entry_sorted (ha1 u) ?_;unfold Builtin.«sorted»;refine aa (m:=checkCount "sorted" 1 1 _) (ab ?_);have col:wpAny (model X.prog X.w) X.A.in1 (collect u) (fun its s1=>∃ H1 us,tW H H1/\Inv X pins σ H1 s1/\aN us its/\RVs C φ H1 ys us) X.xe s:=by
  have lcase:∀ {a:Addr} {vs:List V},v=.ref a->SqL C.K H a vs->RVs C φ H ys vs->wpAny (model X.prog X.w) X.A.in1 (collect u) (fun its s1=>∃ H1 us,tW H H1/\Inv X pins σ H1 s1/\aN us its/\RVs C φ H1 ys us) X.xe s:=fun {a vs} ev sa ra=>by
   subst ev;cases ru
   have sa':SqL X.K H a vs:=by rw [c.K]; exact sa
   obtain ⟨its,rv,pl,hz⟩:=I.list sa';refine collect_list pl.isList ?_ (by have:=rv.length; have:=ra.length; rw [gd]; omega);exact ⟨H,vs,fun _ _ z=>z,I.kept (t':=s.toks) fun b o e=>by
    have hlt:b < s.heap.objs.size:=ak e
    first
     | (rw [Heap.get?_update_ne _ _ _ _ (ba hlt),Heap.get?_push_ne _ _ _ (ba hlt)]; exact e)
     | exact ae _ e,rv,ra⟩
  unfold hV at ei;split at ei
  ·rename_i n;obtain ⟨a,ev,ha⟩:=rp;split at ei
   ·rename_i ys' e;cases ei
    obtain ⟨a2,vs,ha2,sa,ra⟩:=cD rh e;rw [ha] at ha2; cases ha2;exact lcase ev sa ra
   ·unfold gW at ei;split at ei
    ·rename_i d hv;split at ei
     ·rename_i o ho;subst ev;cases ru
      obtain ⟨bb,hb,hH⟩:=rh.at' n a _ ha hv;exact Ge c I rh hb hH ho ei h64
     ·cases ei
    ·cases ei
  ·cases ei
   obtain ⟨a,vs,ev,sa,ra⟩:=rp;exact lcase ev sa.sq ra
  ·cases ei
 refine aa (jl col (fun its s1 hh=>?_) fun _ _ z=>z);obtain ⟨H1,us,sm,I1,rv,ry⟩:=hh;have po:=po.weak ai (Kp.same sm);have rh:=rh.same sm;clear sm I;have hlu:us.length=its.length:=rv.length;have hly:ys.length=us.length:=ry.length;refine aa (wpAny_newList ?_ (by rw [gd]; omega));have hoL:(s1.heap.push (seqObj "list" its.toArray 0)).get? s1.heap.objs.size=some (seqObj "list" its.toArray 0):=aj _ rfl;have keep:∀ b o,s1.heap.get? b=some o->b≠s1.heap.objs.size/\(s1.heap.push (seqObj "list" its.toArray 0)).get? b=some o:=fun b o q=>⟨ba (ak q),ae _ q⟩;have fr:∀ kS,s1.heap.objs.size<=kS->X.s₀.heap.objs.size<=kS/\kS≠X.env.locals/\(∀ x c,X.env.cells.lookup x=some c->c≠kS)/\(∀ p∈X.pn++pins,p.1≠kS)/\kS∉X.fs:=fun kS hk=>IY I1 hk
 show wpAny _ _ _ _ _ { s1 with heap:=s1.heap.push (seqObj "list" its.toArray 0) }
 refine aa (gp (wpAny_call_entry_kw slot_list_sort ⟨_,hoL,rfl⟩ entry_list_sort ?body (ha2 _)))
 case body=>
  show wpAny (model X.prog X.w) X.A.in1.in1 (Builtin.«list.sort» ⟨[.ref s1.heap.objs.size],kw⟩) _ _ _
  rw [ht s1.heap.objs.size];refine Dq (s:={ s1 with heap:=s1.heap.push (seqObj "list" its.toArray 0) }) (a:=s1.heap.objs.size) (κ:=tuples' (decide (kb≠2))) (vs:=its) hoL (by omega) (Jf C X pins σ φ H1 f b kb ys Q s1.heap.objs.size s1.heap.objs.size) ?h0 ?hget ?turn ?fin
  case h0=>
   intro kS e1 h' kp hk g1 g2;have hk':s1.heap.objs.size < kS:=by
    have:(s1.heap.push (seqObj "list" its.toArray 0)).objs.size<=kS:=hk;rw [gj] at this;exact this
   have I2:Inv X pins σ H1 { s1 with heap:=h' }:=I1.kept (t':=s1.toks) fun b o q=>kp b o (keep b o q).1 (keep b o q).2;have fk:=fr kS (ki hk');have fa:=fr s1.heap.objs.size (az _);refine ⟨hk',H1,φ,h,[],[],I2.pins_of fun p hp=>?_,ai,Kp.refl H1,rh,.nil,trivial,po⟩;rcases bh.mp hp with hp | hp
   ·exact I2.pin p (ah _ hp)
   ·rcases bw.mp hp with rfl | hp
    ·exact ⟨g2,I1.hok.fresh (ki hk'),fk.2.1,fk.2.2.2.2,kK⟩
    ·rw [c8.mp hp];exact ⟨g1,I1.hok.fresh (az _),fa.2.1,fa.2.2.2.2,kK⟩
  case hget=>
   rintro kS e1 ks e s' ⟨hz,H',φ',h',zs,ps,I',_⟩;exact ⟨ft hz,(I'.pin (s1.heap.objs.size,seqObj "list" #[] e1) (ah _ (ah _ (ao _ ax)))).1,(I'.pin (kS,seqObj "list" ks.toArray e) (ah _ (ah _ ax))).1⟩
  case turn=>
   intro kS e1 ks e s' y hy hJ;exact Gc c D G hj ry rv rfl fr kS e1 ks e s' y hy hJ
  case fin=>
   rintro kS e1 ks e s' hl ⟨hz,H',φ',h',zs,ps,I',pp,tt,rh',rz,rp',po'⟩;have hd:ys.drop ks.length=[]:=List.drop_eq_nil_of_le (by omega);rw [hd] at po';unfold eF at po';cases es:yY b kb ps ys with
   | none=>rw [es] at po'; exact po'.elim
   | some out=>
   rw [es] at po';unfold yY at es;split at es
   ·rename_i hc;obtain ⟨hc1,hc2,ok,hc4⟩:=hc;cases es
    have hpz:ps.length=zs.length:=rp'.length;have hzk:zs.length=ks.length:=rz.length;have hu:=c.hu64;have hr:HRs s'.heap ps ks:=Aa I' c.K 20 ok.ky rp' rz;have memD:∀ i,i < its.length->ps.getD i .non∈ps:=fun i hi=>by
     have h1:i < ps.length:=by omega
     have:ps.getD i .non=ps[i]:=by simp [h1]
     rw [this];exact b9 h1
    refine ⟨fun i j=>ltN (ps.getD i .non) (ps.getD j .non),fun i j k hi hj hk h1 h2=>IP h1 h2,fun i j hi hj h=>IQ h,fun h2 Q' E' hq=>?_,fun i j hi hj Q' hq=>?_,fun p g e2 a1 a2 kp he gk=>?_⟩
    ·exact Ly ok.m3 hr ok.fk (by omega) hq
    ·have mi:=memD i hi;have mj:=memD j hj;obtain ⟨bb,hb⟩:=k8.mp (ok.lt _ mi _ mj);have hq:Q' (ltN (ps.getD i .non) (ps.getD j .non)) s':=hq;rw [IM hb] at hq;obtain ⟨qs,eq,_⟩:=IU ok.m3 (ok.fk _ mj);exact IT (n:=19) (by show X.A.units+1+1+19 < cLine; omega) (ok.ky _ mi) (ok.ky _ mj) (IU ok.m3 (ok.fk _ mi)) ⟨qs,eq⟩ (hr.getD (by omega)) (hr.getD (by omega)) hb hq
    ·have hin:∀ i∈p,i < its.length:=fun i hi=>by simpa using a1.mem_iff.mp hi
     have fa:=fr s1.heap.objs.size (az _);have fk:=fr kS (ki hz);have gka:=I'.pin (kS,seqObj "list" ks.toArray e) (ah _ (ah _ ax));have gaa:=I'.pin (s1.heap.objs.size,seqObj "list" #[] e1) (ah _ (ah _ (ao _ ax)));have I5:Inv X pins σ H' s':=I'.unpinned;have I6:=I5.adopt (a:=s1.heap.objs.size) (d:=kS) (o:=.lst (p.map fun i=>us.getD i .non)) (h':=g) gaa.2.1 gka.2.1 fa fk (fun x o h1 h2 q=>kp x o h1 h2 q) (by
      refine ⟨?_,p.map (fun i=>its.getD i b7),e2,yN rv (fun i hi=>by have:=hin i hi; omega),he⟩;rw [ar,a1.length_eq,oa,gd];omega)
     refine ⟨_,rfl,ab ⟨_,rfl,.ref s1.heap.objs.size,_,I6,rfl,?_⟩⟩;refine po'.lnew rh' ?_ gaa.2.1;rw [<- BU (b:=b) hc2 ok hc4 (p:=p) (by rw [hly,hlu]; exact a1) a2];exact (ry.mono pp tt).pick (fun i hi=>by have:=hin i hi; omega)
   ·cases es
end
section
variable {kf:Str} {st:Stmt} {q:Addr} {fd:dq} {pn:List Str} {j jb:Nat} {f:Fn} {e:Expr} {me:Me} {p pos kp kpos rp rpos:Pos}
theorem Gf {Q:VK} {b:Bool} {kb:Nat} {σ:St} {H:Hp} (h:rd C (jF f b kb me) σ H Q):MX (rd C me) NQ σ H fun vs H1=>∃ x,vs=[x]/\r1 C (fJ f b kb) x H1 Q:=by
 obtain ⟨φ,δ,h,rh,re,po⟩:=h;refine ⟨φ,δ,h,rh,re,(post.bind po).imp ?_⟩;rintro v H1 ⟨φ1,x,h1,p1,t1,rh1,rv1,q1⟩;exact ⟨v,rfl,φ1,h1,x,rh1,rv1,q1⟩
theorem vR {kb:Nat} (D:Def C.K X.mg kf st q fd pn) (G:aU X.prog X.w C.K X.mg X.base CX0 j q fd pn (spM C 1 f)) (he:SE C k X e me) (hb:("sorted" : Str)∈C.bs) (hj:j+2<=k:=by decide) (hg:Gl X "sorted" := by rfl) (hgk:Gl X kf:=by rfl) (hdk:(kf == ("__debug__" : Str))=false:=by decide)
  (hst:b0 [e] X.env=(false,eval e X.env) :: b0 [] X.env:=by rfl) (hbk:backTo pos (b0 [e] X.env)=(false,eval e X.env) :: backTo pos (b0 [] X.env):=by rfl) (hpl:(backTo pos (b0 [e] X.env)).any (·.1)=false:=by rfl):
  SE C k X (.Call (.Name "sorted" p) [e] [⟨some "key",.Name kf kp,kpos⟩] pos) (jF f false kb me):=fun c pins s σ H Q I h=>by
 refine m8 (mT I hg (c.bn _ hb) PyProof.Rows.Boot.«sorted» ?_ (by decide) (by decide));refine callWith_kw (thn (Ey (he c) Hk hst pos pins s σ H _ I (Gf h)) fun us s1 hh=>?_) hbk hpl;obtain ⟨vs,H1,I1,rv,x,rfl,r⟩:=hh;obtain ⟨u,rfl,ru⟩:=vals1 rv;refine kws_cons (zN I1 hgk D.mg (kws_nil ?_) hdk)
 show wpAny _ _ (call (.builtin "sorted") [u] [(ic "key",.ref q)]) _ _ _
 exact C0 c D G hj (fun v=>ksk_s1 _ _) (fun v=>ksk_l1 _ _) (fun v=>ksk_t1 _ _) I1 ru r
end
end
section
variable {α:Type}
theorem Jo {key emb:α->PV} {f:Fn} {m:Nat} {xs:List α} {x:PV} {h:PH} {Q:PV->PH->Prop} (e:hV x h=some (xs.map emb)) (h1:xs.length < 1000000) (ok:OkN m (xs.map key)) (hc:∀ a∈xs,∀ c∈xs,key a=key c->emb a=emb c)
  (hf:∀ d∈xs,∀ h (Q:PV->PH->Prop),(∀ h',Ext h h'->Q (key d) h')->(f [emb d] h).W Q)
  (k:∀ (os:List α) h',Ext h h'->os.Perm xs->os.Pairwise (fun a c=>ltN (key c) (key a)=false)->Q (.ref h'.length) (h'++[.lst (os.map emb)])):(fJ f false m x h).W Q:=by
 obtain ⟨os,p,pw,es⟩:=LG h1 ok hc;unfold fJ;rw [e];dsimp only;rw [if_pos (by simpa using h1)]
 exact F8 xs [] h hf es fun h' hx=>k os h' hx p pw
end
section
variable {δ:Ev} {h:PH} {m:Me}
@[simp] theorem nF {f:Fn} {b:Bool} {n:Nat}:jF f b n m δ h=(m δ h).bind fun x h1=>fJ f b n x h1:=(rfl)
theorem jG {n:Nat} {xs:List PV} (e:h[n]?=some (.lst xs)):hV (.ref n) h=some xs:=by
 simp [hV,aS,e]
theorem C1 {n d:Nat} {o:MO} (e:h[n]?=some (.vw 0 d)) (e2:h[d]?=some o):hV (.ref n) h=fT o:=by
 simp [hV,aS,gW,e,e2]
end
end L2
namespace K36
open PySem L2
noncomputable section
def Gg:Ms:=
 kC
def Fc:Ms:=
 (Il 1000000 (cH (mC (.bl true))) Gg)
def Fd:Fn:=mFn 1 Fc
def qR:Ms:=
 (dY (aD bC (mV 0) (bG (aA (bG (aA (mC (.int 0)) aE)) aE))))
def iJ:Fn:=mFn 1 qR
def nG:Ms:=
 (dY (cQ 1 iJ (aA (aD vAt (mV 0) (mC (.int 0))) aE)))
def cW:Fn:=mFn 1 nG
def nH:Ms:=
 (aR (uU (mV 0) (gTp 2 (gCn (gN 2) (gCn (gN 3) gNl))))
 (aR (uU (mV 1) (gTp 2 (gCn (gN 4) (gCn (gN 5) gNl))))
 (dY (aD bC (mV 2) (bG (aA (bG (aA (mV 3) (aA (mV 4) (aA (mV 5) (aA (mC (.int 0)) aE))))) aE))))))
def gI:Fn:=mFn 6 nH
def mK:Ms:=
 (uV (mMt isL (onL eC) (mV 11) (aA (aD bC (aD vAt (mV 11) (aD Dt (mV 12) (mC (.int 1)))) (bG (aA (bG (aA (mC (.int 1)) (aA (mV 9) (aA (mV 10) (aA (mV 12) aE))))) aE))) aE)))
def kN:Ms:=
 (aR (uU (mV 0) (gTp 3 (gCn (gN 1) (gCn (gN 2) (gCn (gN 3) gNl)))))
 (aR (uU (mV 3) (gTp 5 (gCn (gN 4) (gCn (gN 5) (gCn (gN 6) (gCn (gN 7) (gCn (gN 8) gNl)))))))
 (aR (uU (mV 1) (gTp 2 (gCn (gN 9) (gCn (gN 10) gNl))))
 (aR (bF 11 (fY (aA (cQ 2 gI (aA (bG (aA (mV 6) (aA (mV 7) aE))) (aA (mV 1) aE))) aE)))
 (aR (hU (EO (aA (mC (.int 1)) (aA (mCB mX (aA (mV 8) aE)) aE))) (gN 12) mK)
 (dY (mV 11)))))))
def fO:Fn:=mFn 13 kN
def eY:Ms:=
 (F4 "kept" (mV 0) A4)
def bR:Fn:=mFn 1 eY
def jN:Ms:=
 (BN (mV 4) (mUn (sS "kept") (mV 0)) (mV 3))
def hW:Ms:=
 (aR (bF 2 (aD vAt (aD vAt (mV 1) (mC (.int 2))) (mC (.int 4))))
 (hU (LQ (aA (cQ 1 fO (aA (mV 1) aE)) (aA (mV 2) aE))) (gTp 2 (gCn (gN 3) (gCn (gN 4) gNl))) jN))
def cM:Fn:=mFn 5 hW
def hZ:Ms:=
 (jR (cH (aD vA (mV 3) (mUn (sS "kept") (mV 0))))
   (uV (mMt isL (onL eC) (mV 2) (aA (bG (aA (mV 3) (aA (mMt cB yZ (mUn (sS "kept") (mV 0)) (aA (mV 3) aE)) aE))) aE)))
   kC)
def kO:Ms:=
 (aR (bF 2 (fY aE))
 (aR (hU (fM (mV 1)) (gN 3) hZ)
 (dY (jF cW false 2 (mV 2)))))
def bK:Fn:=mFn 4 kO
def jH:Ms:=
 (dY (jF cW false 2 (gO cB bB (mUn (sS "kept") (mV 0)))))
def bJ:Fn:=mFn 1 jH
def Aj:Ms:=
 (aR (bF 2 (aD dU (aD oK (aD bC (aD bC (mV 0) (aD oK (mC (.int 7919)) (mV 1))) (mC (.int 1))) (mC (.int 48271))) (mC (.int 2147483647))))
 (dY (aD dU (aD oK (mV 2) (aD bC (aD iF (mV 2) (mC (.int 1009))) (mC (.int 69621)))) (mC (.int 2147483647)))))
def jI:Fn:=mFn 3 Aj
def C2:Ms:=
 (aR (bF 2 (aD bC (mV 2) (aD vAt (mV 1) (aD dU (mV 3) (mC (.int 26))))))
  (bF 3 (aD bC (aD iF (mV 3) (mC (.int 26))) (aD oK (mC (.int 7)) (mV 4)))))
def DQ:Ms:=
 (aR (bF 1 (mC (.str "abcdefghijklmnopqrstuvwxyz")))
 (aR (bF 2 (mC (.str "")))
 (aR (bF 3 (aD iF (mV 0) (mC (.int 8))))
 (aR (hU (mH (aA (aD bC (mC (.int 1)) (aD dU (mV 0) (mC (.int 8)))) aE)) (gN 4) C2)
 (dY (mV 2))))))
def Ak:Fn:=mFn 5 DQ
def zB:Ms:=
 (aR (bF 0 (aD dU (aD bC (aD oK (mV 0) (mC (.int 48271))) (mC (.int 11))) (mC (.int 2147483647))))
  (bF 3 (aD bC (mV 3) (aD vAt (mV 2) (aD dU (mV 0) (mC (.int 94)))))))
def Al:Ms:=
 (aR (bF 2 (mC (.str " !\"#$&'()*+,-./0123456789:;<=>?@ABCDEFGHIJKLMNOPQRSTUVWXYZ[\\]^_`")))
 (aR (bF 2 (aD bC (mV 2) (mC (.str "abcdefghijklmnopqrstuvwxyz{|}~"))))
 (aR (bF 3 (mC (.str "")))
 (aR (hU (mH (aA (mV 1) aE)) (gN 4) zB)
 (dY (mV 3))))))
def pB:Fn:=mFn 5 Al
def Jp:Ms:=
 (dY (aD bC (aD vAt (mV 0) (mC (.int 0))) (bG (aA (bG (aA (mC (.int 0)) aE)) aE))))
def zC:Fn:=mFn 1 Jp
def vS:Ms:=
 (dY (jF zC false 2 (mV 0)))
def dE:Fn:=mFn 1 vS
def DR:Ms:=
 (aR (bF 3 (cQ 2 jI (aA (mV 0) (aA (mC (.int 1)) aE))))
 (aR (bF 4 (cQ 1 Ak (aA (aD iF (cQ 2 jI (aA (mV 0) (aA (mC (.int 2)) aE))) (aD vAt (fY (aA (mC (.int 1)) (aA (mC (.int 1000)) (aA (mC (.int 100000000)) aE)))) (aD dU (mV 3) (mC (.int 3))))) aE)))
 (aR (bF 5 (aD vAt (mV 2) (aD dU (aD iF (mV 3) (mC (.int 2))) (mCB mX (aA (mV 2) aE)))))
 (aR (bF 6 (aD Dt (aD oK (aD dU (mV 3) (mC (.int 2))) (mC (.int 2))) (mC (.int 1))))
 (aR (jR (cH (aD vEq (mV 5) (bG aE)))
  (bF 6 (mC (.int 1)))
  kC)
 (aR (bF 7 (aD bC (mC (.int 1)) (aD dU (aD iF (mV 3) (mC (.int 5))) (mC (.int 4)))))
 (aR (jR (cH (aD vEq (aD dU (aD iF (mV 3) (mC (.int 20))) (mC (.int 8))) (mC (.int 3))))
  (bF 7 (mC (.int 12)))
  kC)
 (aR (bF 8 (bG aE))
 (aR (jR (cH (aD vGt (mV 1) (mC (.int 1))))
  (bF 8 (bG (aA (bG (aA (mV 4) (aA (aD Dt (mV 1) (mC (.int 1))) aE))) aE)))
  kC)
 (dY (bG (aA (bG (aA (mV 4) (aA (mV 1) aE))) (aA (mV 8) (aA (bG (aA (mC (.str "write")) (aA (bG (aA (mC (.str "t")) (aA (mC (.int 1)) aE))) (aA (mV 5) (aA (mV 6) (aA (cQ 2 pB (aA (mV 3) (aA (mV 7) aE))) aE)))))) aE))))))))))))))
def vT:Fn:=mFn 9 DR
def sG:Ms:=
 (aR (bF 4 (aD bC (mV 4) (bG (aA (bG (aA (mV 5) (aA (aD vAt (mV 1) (mC (.int 0))) (aA (aD vAt (mV 1) (mC (.int 1))) (aA (mV 7) aE))))) aE))))
  (aR (bF 5 (mC (.int 1)))
  (uV (mMt isL (onL eC) (mV 6) (aA (bG (aA (mV 4) (aA (aD vAt (aD vAt (mV 3) (mC (.int 4))) (mV 7)) aE))) aE)))))
def qS:Ms:=
 (aR (uU (mV 0) (gTp 3 (gCn (gN 1) (gCn (gN 2) (gCn (gN 3) gNl)))))
 (aR (bF 4 (aD vAt (mV 3) (mC (.int 2))))
 (aR (bF 5 (aD vAt (mV 3) (mC (.int 3))))
 (aR (bF 6 (fY aE))
 (aR (hU (mH (aA (mCB mX (aA (aD vAt (mV 3) (mC (.int 4))) aE)) aE)) (gN 7) sG)
 (dY (mV 6)))))))
def fA:Fn:=mFn 8 qS
def C3:Str->Option Fn:=fun (z:Str)=>if z=("Signs" : Str) then some bK else (fun _=>none) z
def C4:Str->Option Fn:=fun (z:Str)=>if z=("Signs" : Str) then some bK else (fun _=>none) z
def Jq:Ms:=
 (aR (bF 4 (cQ 2 jI (aA (mV 3) (aA (mC (.int 1)) aE))))
 (aR (bF 5 (fN [none,some 2,some 4] (mH (aA (aD bC (mC (.int 1)) (aD dU (mV 4) (mC (.int 6)))) aE)) (gN 0) Ll (aD vAt (mV 1) (aD dU (aD bC (aD iF (mV 2) (mC (.int 5))) (aD oK (aD oK (mV 0) (mV 0)) (aD iF (mV 2) (mC (.int 31))))) (mCB mX (aA (mV 1) aE))))))
 (aR (bF 5 (aD bC (fN [none] (fM (mV 5)) (gN 0) (cH (aD vNe (mV 0) (bG aE))) (mV 0)) (fY (aA (bG (aA (bG (aA (mC (.int 1)) (aA (mC (.str "zz")) (aA (aD bC (mC (.int 1)) (aD dU (mV 4) (mC (.int 5)))) (aA (mC (.int 0)) aE))))) aE)) aE))))
 (aR (bF 6 (cQ 1 dE (aA (jE true (gO cB bB (mV 1)) (fN [none,some 5] (oZ true (gO cB bB (mV 1))) (gN 0) (cH (aD vA (aD vAt (mV 0) (mC (.int 0))) (mV 1))) (mV 0))) aE)))
 (aR (bF 7 (mCB eX (aA (mV 5) aE)))
 (aR (jR (cH (aD vEq (aD dU (aD iF (mV 4) (mC (.int 3))) (mC (.int 2))) (mC (.int 1))))
  (bF 8 (eE "cut" 1 C3 (mV 0) (aA (mCB uT (aA (mV 7) aE)) aE)))
  (bF 8 (eE "cut" 1 C4 (mV 0) (aA (mV 7) aE))))
 (dY (bG (aA (uS (mCB mY (aA (mV 8) (aA (mC (.ty "list")) aE))) (uS (aD vEq (mV 8) (mV 6)) (aD vEq (mV 7) (mV 5)))) (aA (mV 5) aE))))))))))
def C5:Fn:=mFn 9 Jq
def pC:Str->Option Fn:=fun (z:Str)=>if z=("Signs" : Str) then some bK else (fun _=>none) z
def pD:Str->Option Fn:=fun (z:Str)=>if z=("Signs" : Str) then some bJ else (fun _=>none) z
def vU:Str->Option Fn:=fun (z:Str)=>if z=("Signs" : Str) then some cM else (fun _=>none) z
def vV:Str->Option Fn:=fun (z:Str)=>if z=("Signs" : Str) then some bJ else (fun _=>none) z
def vW:Str->Option Fn:=fun (z:Str)=>if z=("Signs" : Str) then some bJ else (fun _=>none) z
def Am:Ms:=
 (aR (BN (mV 10) (mV 2) (mV 9))
    (uV (mMt isL (onL eC) (mV 3) (aA (mV 9) aE))))
def tN:Ms:=
 (aR (jR (cH (aD vEq (aD dU (mV 5) (mC (.int 4))) (mC (.int 3))))
   (aR (uU (cQ 4 C5 (aA (mV 1) (aA (mV 2) (aA (mV 3) (aA (aD iF (mV 5) (mC (.int 4))) aE))))) (gTp 2 (gCn (gN 6) (gCn (gN 7) gNl))))
   (aR (jR (uR (cH (mV 6)))
    (dY (mC (.bl false)))
    kC)
   (bF 2 (mCB qO (aA (jE true (gO cB bB (mV 2)) (fN [none,some 7] (oZ true (gO cB bB (mV 2))) (gN 0) (cH (aD gU (aD vAt (mV 0) (mC (.int 0))) (mV 1))) (mV 0))) aE)))))
   (aR (bF 8 (cQ 3 vT (aA (mV 5) (aA (mV 4) (aA (mV 3) aE)))))
   (aR (uV (eE "write" 1 vU (mV 1) (aA (mV 8) aE)))
   (aR (bF 4 (aD bC (mV 4) (mC (.int 1))))
   (hU (fM (cQ 1 fA (aA (mV 8) aE))) (gTp 2 (gCn (gN 9) (gCn (gN 10) gNl))) Am)))))
  (aR (bF 11 (eE "rows" 0 vV (mV 1) aE))
  (aR (jR (A3 (uR (cH (mCB mY (aA (mV 11) (aA (mC (.ty "list")) aE))))) (cH (aD vNe (mV 11) (cQ 1 dE (aA (mCB eX (aA (gO cB bB (mV 2)) aE)) aE)))))
   (dY (mC (.bl false)))
   kC)
  (uV (mMt isL (onL eC) (mV 11) (aA (bG (aA (bG (aA (mC (.int 1)) (aA (mC (.str "a")) (aA (mC (.int 1)) (aA (mC (.int 0)) aE))))) (aA (mC (.str "x")) aE))) aE))))))
def Jr:Ms:=
 (aR (bF 1 (J2 "Signs" 0 bR aE))
 (aR (bF 2 A4)
 (aR (bF 3 (fY (aA (bG aE) aE)))
 (aR (bF 4 (mC (.int 1)))
 (aR (jR (cH (aD vGt (mCB mX (aA (mV 0) aE)) (mC (.int 0))))
  (bF 4 (aD bC (mC (.int 1)) (aD dU (aD vAt (mV 0) (mUn I0 (mC (.int 1)))) (aD vAt (fY (aA (mC (.int 2)) (aA (aD Oe (mC (.int 10)) (mC (.int 11))) aE))) (aD dU (aD vAt (mV 0) (mC (.int 0))) (mC (.int 2)))))))
  kC)
 (aR (jR (A3 (cH (aD vNe (eE "rows" 0 pD (mV 1) aE) (fY aE))) (cH (aD vNe (eE "cut" 1 pC (mV 1) (aA (fY (aA (bG (aA (bG (aA (mC (.int 1)) (aA (mC (.str "a")) (aA (mC (.int 1)) (aA (mC (.int 0)) aE))))) aE)) aE)) aE)) (fY aE))))
  (dY (mC (.bl false)))
  kC)
 (aR (hU (fM (mSl (mV 0) Ii (mP (mC (.int 24))))) (gN 5) tN)
 (dY (aD vEq (eE "rows" 0 vW (mV 1) aE) (cQ 1 dE (aA (mCB eX (aA (gO cB bB (mV 2)) aE)) aE)))))))))))
def Js:Fn:=mFn 12 Jr
end
end K36
namespace K36
open PySem L2
structure St where
 s:Int
 h:Str
 n:Int
 k:Int
 deriving DecidableEq
def stp (x:St):PV:=.tup [.int x.s,.str x.h,.int x.n,.int x.k]
theorem Fe {x y:St} (h:stp x=stp y):x=y:=by
 obtain ⟨a,b,c,d⟩:=x;obtain ⟨a',b',c',d'⟩:=y;simp [stp] at h;simp [h]
def pl (xs:List St):PV:=.tup (xs.map stp)
theorem qT {xs ys:List St} (h:pl xs=pl ys):xs=ys:=by
 have h:xs.map stp=ys.map stp:=by simpa [pl] using h
 induction xs generalizing ys with
 | nil=>cases ys <;> simp at h ⊢
 | cons x xs ih=>
  cases ys with
  | nil=>simp at h
  | cons y ys=>
   simp at h;rw [Fe h.1,ih (by simp [pl,h.2]) h.2]
theorem Ni (xs:List St):(pl xs).pl 40=true:=by
 show (xs.map stp).all (PV.pl 39)=true
 rw [cf];intro p hp;obtain ⟨x,_,rfl⟩:=dt.mp hp;rfl
abbrev sY:PV:=.tup [.int 0]
def An (x y:St):Bool:=if x.s=y.s then (if x.h=y.h then (if x.n=y.n then decide (x.k < y.k) else decide (x.n < y.n)) else decide (x.h.cps.toList < y.h.cps.toList)) else decide (x.s < y.s)
def bef:List St->List St->Bool
 | [],[]=>false
 | [],y :: _=>decide (0<=y.s)
 | x :: _,[]=>decide (x.s < 0)
 | x :: xs,y :: ys=>if x=y then bef xs ys else An x y
theorem OS (n:Nat) (x y:St) (hne:x≠y):ltP (n+1) (stp x) (stp y)=some (An x y):=by
 obtain ⟨a,b,c,d⟩:=x;obtain ⟨a',b',c',d'⟩:=y
 by_cases h1:a=a'
 ·by_cases h2:b=b'
  ·by_cases h3:c=c'
   ·by_cases h4:d=d'
    ·exact absurd (by simp [h1,h2,h3,h4]) hne
    ·simp [ltP,ltL,stp,An,h1,h2,h3,h4]
   ·simp [ltP,ltL,stp,An,h1,h2,h3]
  ·simp [ltP,ltL,stp,An,h1,h2]
 ·simp [ltP,ltL,stp,An,h1]
theorem DS (n:Nat):∀ xs ys:List St,ltL (ltP (n+2)) (xs.map stp++[sY]) (ys.map stp++[sY])=some (bef xs ys)
 | [],[]=>by simp [ltL,bef]
 | [],y :: ys=>by
  have hne:sY≠stp y:=by simp [stp,sY]
  simp only [o7,jh,cy,ou,ltL,if_neg hne,bef];simp only [ltP,stp,ltL]
  by_cases h:(0:Int)=y.s
  ·simp [<- h]
  ·have:decide ((0:Int) < y.s)=decide (0<=y.s):=by
    rw [fb]; simp; omega
   simp [h,this]
 | x :: xs,[]=>by
  have hne:stp x≠sY:=by simp [stp,sY]
  simp only [o7,jh,cy,ou,ltL,if_neg hne,bef];simp only [ltP,stp,ltL]
  by_cases h:x.s=0
  ·simp [h]
  ·simp [h]
 | x :: xs,y :: ys=>by
  simp only [cy,ou,ltL,bef]
  by_cases h:x=y
  ·subst h;simp only [if_true];exact DS n xs ys
  ·rw [if_neg fun z=>h (Fe z),if_neg h];exact OS (n+1) x y h
theorem LR (xs:List St) (h:PH) (hx:xs.length<=1000):iJ [pl xs] h=.ok (.tup (xs.map stp++[sY])) h:=by
 have w:(iJ [pl xs] h).W fun p h'=>p=.tup (xs.map stp++[sY])/\h'=h:=by
  refine mB ?_;simp (disch:=first | omega | (simp; omega)) [qR,pl]
 obtain ⟨p,h',e,rfl,rfl⟩:=uY w;exact e
theorem Jt {a b:Str} (h:a.cps.toList=b.cps.toList):a=b:=by
 obtain ⟨x⟩:=a;obtain ⟨y⟩:=b
 congr 1
 exact Array.toList_inj.mp h
theorem Gh {a b:List Nat} (h:a < b):¬ b < a:=List.lt_asymm h
theorem LS {a b:List Nat} (h:¬ a < b) (h':¬ b < a):a=b:=List.le_antisymm h' h
theorem Ju {x y:St} (h:x≠y):An y x=!An x y:=by
 obtain ⟨a,b,c,d⟩:=x;obtain ⟨a',b',c',d'⟩:=y;unfold An
 by_cases h1:a=a'
 ·subst h1
  by_cases h2:b=b'
  ·subst h2
   by_cases h3:c=c'
   ·subst h3;have h4:d≠d':=fun z=>h (by rw [z]);simp;rw [fb]; simp; omega
   ·have h3':¬ c'=c:=fun z=>h3 z.symm;simp [h3,h3'];rw [fb]; simp; omega
  ·have h2':¬ b'=b:=fun z=>h2 z.symm;have n1:b.cps.toList≠b'.cps.toList:=fun z=>h2 (Jt z);simp [h2,h2'];rw [fb];simp only [decide_eq_true_eq,j6,decide_eq_false_iff_not];constructor
   ·intro z; exact Gh z
   ·intro z;rcases Classical.em (b'.cps.toList < b.cps.toList) with q | q
    ·exact q
    ·exact absurd (LS z q) n1
 ·have h1':¬ a'=a:=fun z=>h1 z.symm;simp [h1,h1'];rw [fb]; simp; omega
theorem Ff:∀ {xs ys:List St},xs≠ys->bef ys xs=!bef xs ys
 | [],[],h=>absurd rfl h
 | [],y :: ys,_=>by simp only [bef]; rw [fb]; simp
 | x :: xs,[],_=>by simp only [bef]; rw [fb]; simp
 | x :: xs,y :: ys,h=>by
  simp only [bef]
  by_cases e:x=y
  ·subst e;simp only [if_true];exact Ff fun z=>h (by rw [z])
  ·rw [if_neg e,if_neg fun z=>e z.symm];exact Ju e
def mixed (c k:Int):Int:=
 let n:=(c+7919*k+1)*48271 % 2147483647
 n*(n / 1009+69621) % 2147483647
theorem vX (c k:Int):0<=mixed c k/\mixed c k < 2147483647:=⟨Int.emod_nonneg _ (by decide),Int.emod_lt_of_pos _ (by decide)⟩
@[simp] theorem Rp (c k:Int) (h:PH):jI [.int c,.int k] h=.ok (.int (mixed c k)) h:=by
 simp (disch:=omega) [jI,mFn,Aj,aR,bF,dY,mixed]
theorem C6:(ic "").cps.toList=[]:=by decide +kernel
abbrev Jv:Str:="abcdefghijklmnopqrstuvwxyz"
theorem Jw:Jv.cps.toList.length=26:=by decide +kernel
theorem Gi:Jv.length=26:=by decide +kernel
theorem Jx:∀ i:Fin 26,Jv.cps.toList[i.val]?=some (97+i.val):=by decide +kernel
theorem C7 {x:Str} {c:Nat}:(x++(⟨#[c]⟩:Str)).length=x.length+1:=by
 rw [Str.length_append]; rfl
theorem LU {i:Int} (h0:0<=i) (h1:i < 26):atI Jv.cps.toList i=some (97+i.toNat):=by
 rw [tK h0 (by rw [Jw]; exact h1)];exact Jx ⟨i.toNat,by omega⟩
def Low (w:Str):Prop:=∀ c∈w.cps.toList,97<=c/\c<=122
theorem app_list (x y:Str):(x++y).cps.toList=x.cps.toList++y.cps.toList:=PySem.W.KT.app_list x y
theorem LV (n:Int) (h:PH) (Q:PV->PH->Prop) (k:∀ w:Str,1<=w.length->w.length<=8->Low w->Q (.str w) h):(Ak [.int n] h).W Q:=by
 refine mB ?_;simp (disch:=omega) [DQ,iZ];refine DB (j:=1+n % 8) (fun q δ h'=>h'=h/\∃ w r x4,δ=[some (.int n),some (.str Jv),some (.str w),some (.int r),x4]/\w.length=q/\Low w) ?_ ?_ ?_ ?_ ?_
 ·simp (disch:=omega)
 ·omega
 ·exact ⟨rfl,_,_,_,rfl,rfl,fun c hc=>by rw [C6] at hc; cases hc⟩
 ·rintro q δ h' hq ⟨rfl,w,r,x4,rfl,hw,hlow⟩;have hc:=LU (i:=r % 26) (by omega) (by omega);have hl:=Gi;have h1:(⟨#[97+(r % 26).toNat]⟩:Str).length=1:=rfl;simp (disch:=omega) [C2,hc,iZ];refine ⟨by rw [C7]; omega,fun c hc=>?_⟩;rw [app_list] at hc;rcases bh.mp hc with hc | hc
  ·exact hlow c hc
  ·simp at hc;omega
 ·rintro δ h' ⟨rfl,w,r,x4,rfl,hw,hlow⟩;simp;exact k w (by omega) (by omega) hlow
theorem Jy (u:List St) (s n:Int) (hd:Str) (h:PH) (hu:u.length<=1000):gI [.tup [pl u,.int s],.tup [.str hd,.int n]] h=.ok (pl (u++[⟨s,hd,n,0⟩])) h:=by
 have w:(gI [.tup [pl u,.int s],.tup [.str hd,.int n]] h).W fun p h'=>p=pl (u++[⟨s,hd,n,0⟩])/\h'=h:=by
  refine mB ?_;simp (disch:=first | omega | (simp; omega)) [nH,iZ,pl,stp]
 obtain ⟨p,h',e,rfl,rfl⟩:=uY w;exact e
def pE (u:List St) (s:Int) (hd:Str) (n:Int):Nat->List St
 | 0=>u++[⟨s,hd,n,0⟩]
 | k+1=>pE u s hd n k++[⟨1,hd,n,((k+1:Nat):Int)⟩]
def gJ (u:List St) (s:Int) (hd:Str) (n:Int) (m:Nat):List (List St):=(d0 m).map (pE u s hd n)
theorem kQ {u:List St} {s:Int} {hd:Str} {n:Int} {m:Nat}:(gJ u s hd n m).length=m:=by simp [gJ]
theorem Jz {u:List St} {s:Int} {hd:Str} {n:Int} {m k:Nat} (hk:k < m):(gJ u s hd n m)[k]?=some (pE u s hd n k):=by simp [gJ,hk]
theorem zD {u:List St} {s:Int} {hd:Str} {n:Int} {m:Nat}:gJ u s hd n (m+1)=gJ u s hd n m++[pE u s hd n m]:=by simp [gJ,List.range_succ]
theorem pF {u:List St} {s:Int} {hd:Str} {n:Int}:∀ k,(pE u s hd n k).length=u.length+1+k
 | 0=>by simp [pE]
 | k+1=>by simp [pE,pF k]; omega
theorem Gj (u:List St) (s n:Int) (hd w:Str) (sn th:PV) (wd:Str) (h:PH) (Q:PV->PH->Prop) (hu:u.length<=900) (h0:1<=w.length) (h1:w.length<=12) (k:Q (.ref h.length) (h++[.lst ((gJ u s hd n w.length).map pl)])):
  (fO [.tup [.tup [.str hd,.int n],sn,.tup [.str wd,th,pl u,.int s,.str w]]] h).W Q:=by
 refine mB ?_;simp (disch:=omega) [kN,iZ,Jy u s n hd _ (by omega)];refine Ov (lo:=1) (j:=w.length) (fun q δ h'=>h'=h++[.lst ((gJ u s hd n (q+1)).map pl)]/\∃ x0 x1 x2 x3 x4 x5 x6 x7 x12,δ=[x0,x1,x2,x3,x4,x5,x6,x7,some (.str w),some (.str hd),some (.int n),some (.ref h.length),x12]) ?_ ?_ ?_ ?_ ?_
 ·simp (disch:=omega)
 ·omega
 ·exact ⟨rfl,_,_,_,_,_,_,_,_,_,rfl⟩
 ·rintro q δ h' hq ⟨rfl,x0,x1,x2,x3,x4,x5,x6,x7,x12,rfl⟩;have e1:(h++[MO.lst ((gJ u s hd n (q+1)).map pl)])[h.length]?=some (.lst ((gJ u s hd n (q+1)).map pl)):=aZ;have e2:atI ((gJ u s hd n (q+1)).map pl) (1+(q:Int) - 1)=some (pl (pE u s hd n q)):=by
   have:(1+(q:Int) - 1)=(q:Int):=by omega
   rw [this];exact A1 (by rw [br,Jz (by omega)]; rfl)
  have e3:=pF (u:=u) (s:=s) (hd:=hd) (n:=n) q;have e4:=kQ (u:=u) (s:=s) (hd:=hd) (n:=n) (m:=q+1);simp (disch:=first | omega | (simp; omega)) [mK,oU e1,oT e1,e2,gH e1,pl]
  rw [zD (m:=q+1)];simp [pE,pl,stp];omega
 ·rintro δ h' ⟨rfl,x0,x1,x2,x3,x4,x5,x6,x7,x12,rfl⟩;simp;have:w.length - 1+1=w.length:=by omega
  rw [this];exact k
abbrev al1:Str:=" !\"#$&'()*+,-./0123456789:;<=>?@ABCDEFGHIJKLMNOPQRSTUVWXYZ[\\]^_`"
abbrev al2:Str:="abcdefghijklmnopqrstuvwxyz{|}~"
def al:Str:=al1++al2
theorem OT:al.cps.toList.length=94:=by decide +kernel
theorem LW:al.length=94:=by decide +kernel
theorem OU:∀ i:Fin 94,(al.cps.toList[i.val]?).any (fun c=>decide (c < 128))=true:=by decide +kernel
theorem Rq {i:Int} (h0:0<=i) (h1:i < 94):∃ c,atI al.cps.toList i=some c/\c < 128:=by
 rw [tK h0 (by rw [OT]; exact h1)];have:=OU ⟨i.toNat,by omega⟩;cases e:al.cps.toList[i.toNat]? with
 | none=>rw [e] at this; cases this
 | some c=>rw [e] at this; exact ⟨c,rfl,by simpa using this⟩
def Asc (w:Str):Prop:=∀ c∈w.cps.toList,c < 128
theorem JA (n m:Int) (hm:0<=m/\m<=12) (h:PH) (Q:PV->PH->Prop) (k:∀ w:Str,w.length=m.toNat->Asc w->Q (.str w) h):(pB [.int n,.int m] h).W Q:=by
 refine mB ?_;have l1:(ic " !\"#$&'()*+,-./0123456789:;<=>?@ABCDEFGHIJKLMNOPQRSTUVWXYZ[\\]^_`").length=64:=by decide +kernel
 have l2:(ic "abcdefghijklmnopqrstuvwxyz{|}~").length=30:=by decide +kernel
 simp (disch:=omega) [Al,iZ];refine DB (j:=m) (fun q δ h'=>h'=h/\∃ n w x4,δ=[some (.int n),some (.int m),some (.str al),some (.str w),x4]/\w.length=q/\Asc w) ?_ ?_ ?_ ?_ ?_
 ·simp (disch:=omega)
 ·omega
 ·exact ⟨rfl,_,_,_,rfl,rfl,fun c hc=>by rw [C6] at hc; cases hc⟩
 ·rintro q δ h' hq ⟨rfl,n,w,x4,rfl,hw,hlow⟩;obtain ⟨c,hc,hc1⟩:=Rq (i:=(n*48271+11) % 2147483647 % 94) (by omega) (by omega);have hl:=LW;have h1:(⟨#[c]⟩:Str).length=1:=rfl;simp (disch:=omega) [zB,hc,iZ];refine ⟨_,_,⟨rfl,rfl⟩,by rw [C7]; omega,fun d hd=>?_⟩;rw [app_list] at hd;rcases bh.mp hd with hd | hd
  ·exact hlow d hd
  ·simp at hd;omega
 ·rintro δ h' ⟨rfl,n,w,x4,rfl,hw,hlow⟩;simp;exact k w (by omega) hlow
def wr (hd:Str) (n:Int) (sn:PV) (u:List St) (s:Int) (w:Str):PV:=.tup [.tup [.str hd,.int n],sn,.tup [.str "write",.tup [.str "t",.int 1],pl u,.int s,.str w]]
theorem Rr {α:Type} {f:α->PV} {xs:List α} (h:xs≠[]) (n:Int):∃ u,u∈xs/\atI (xs.map f) (n % (xs.length:Int))=some (f u):=by
 have hl:0 < xs.length:=o5.mpr h;have h0:=Int.emod_nonneg n (b:=(xs.length:Int)) (by omega);have h1:=Int.emod_lt_of_pos n (b:=(xs.length:Int)) (by omega);have hi:(n % (xs.length:Int)).toNat < xs.length:=by omega
 refine ⟨xs[(n % (xs.length:Int)).toNat],b9 hi,?_⟩;rw [tK h0 (by rw [ar]; exact h1),br,gf hi];rfl
noncomputable def dT4:Ms:=dY (bG (aA (bG (aA (mV 4) (aA (mV 1) aE))) (aA (mV 8) (aA (bG (aA (mC (.str "write")) (aA (bG (aA (mC (.str "t")) (aA (mC (.int 1)) aE))) (aA (mV 5) (aA (mV 6) (aA (cQ 2 pB (aA (mV 3) (aA (mV 7) aE))) aE)))))) aE))))
noncomputable def dT3:Ms:=aR (bF 8 (bG aE))
 (aR (jR (cH (aD vGt (mV 1) (mC (.int 1))))
  (bF 8 (bG (aA (bG (aA (mV 4) (aA (aD Dt (mV 1) (mC (.int 1))) aE))) aE)))
  kC) dT4)
noncomputable def dT2:Ms:=aR (bF 7 (aD bC (mC (.int 1)) (aD dU (aD iF (mV 3) (mC (.int 5))) (mC (.int 4)))))
 (aR (jR (cH (aD vEq (aD dU (aD iF (mV 3) (mC (.int 20))) (mC (.int 8))) (mC (.int 3))))
  (bF 7 (mC (.int 12)))
  kC) dT3)
theorem JB {c n N:Int} {ls:Nat} {hd:Str} {u:List St} {s m:Int} {sn:PV} {h:PH} {E:FE} (hm:1<=m/\m<=12) (k:∀ w:Str,1<=w.length->w.length<=12->Asc w->E.rt (wr hd n sn u s w) h):
  (dT4 [some (.int c),some (.int n),some (.ref ls),some (.int N),some (.str hd),some (pl u),some (.int s),some (.int m),some sn] h).W E:=by
 unfold dT4;simp;exact JA N m (by omega) h _ fun w e a=>k w (by omega) (by omega) a
theorem JC {c n N:Int} {ls:Nat} {hd:Str} {u:List St} {s m:Int} {x:Option PV} {h:PH} {E:FE} (hm:1<=m/\m<=12) (k:∀ (sn:PV) (w:Str),1<=w.length->w.length<=12->Asc w->E.rt (wr hd n sn u s w) h):
  (dT3 [some (.int c),some (.int n),some (.ref ls),some (.int N),some (.str hd),some (pl u),some (.int s),some (.int m),x] h).W E:=by
 unfold dT3;rw [bM]; simp;refine now ?_;rw [bM,oR];simp;split
 ·refine now ?_;exact JB hm (k _)
 ·refine now ?_;exact JB hm (k _)
theorem JD {c n N:Int} {ls:Nat} {hd:Str} {u:List St} {s:Int} {x y:Option PV} {h:PH} {E:FE} (hN:0<=N/\N < 2147483647) (k:∀ (sn:PV) (w:Str),1<=w.length->w.length<=12->Asc w->E.rt (wr hd n sn u s w) h):
  (dT2 [some (.int c),some (.int n),some (.ref ls),some (.int N),some (.str hd),some (pl u),some (.int s),x,y] h).W E:=by
 unfold dT2;rw [bM]; simp (disch:=omega);refine now ?_;rw [bM,oR];simp (disch:=omega);split
 ·refine now ?_;exact JC (by omega) k
 ·refine now ?_;exact JC (by omega) k
theorem LX (c n:Int) (ls:Nat) (sp:List (List St)) (h:PH) (Q:PV->PH->Prop) (e:h[ls]?=some (.lst (sp.map pl))) (h0:sp≠[]) (hz:sp.length<=1000)
  (k:∀ hd sn u s w h',Ext h h'->u∈sp->(s=1\/s=-1)->hd.length<=8->1<=w.length->w.length<=12->Asc w->Q (wr hd n sn u s w) h'):(vT [.int c,.int n,.ref ls] h).W Q:=by
 refine mB ?_;unfold DR;rw [bM]; simp;have hN:=vX c 1;have hM:=vX c 2;generalize mixed c 1=N at hN;generalize mixed c 2=M at hM;refine now ?_;rw [bM];obtain ⟨d,ed,hd0,hd1⟩:∃ d:Int,atI [PV.int 1,PV.int 1000,PV.int 100000000] (N % 3)=some (.int d)/\0 < d/\d < 1073741824:=by
  have:N % 3=0\/N % 3=1\/N % 3=2:=by omega
  rcases this with z | z | z <;> rw [z] <;> simp
 simp (disch:=omega) [oT aZ,ed];have hx:=Ext.app h [MO.lst [PV.int 1,PV.int 1000,PV.int 100000000]];generalize h++[MO.lst [PV.int 1,PV.int 1000,PV.int 100000000]]=h1 at hx;have e1:=hx ls _ e;refine LV _ h1 _ fun hd l1 l8 low=>?_;refine now ?_;rw [bM];have hl:0 < sp.length:=o5.mpr h0;obtain ⟨u,hu,eu⟩:=Rr (f:=pl) h0 (N / 2);simp (disch:=omega) [oT e1,BA e1,eu];refine now ?_;rw [bM];simp (disch:=omega);obtain ⟨s0,es0,hs0⟩:∃ s0:Int,N % 2*2 - 1=s0/\(s0=1\/s0=-1):=⟨_,rfl,by omega⟩;rw [es0];refine now ?_;rw [bM,oR];have eq0:vEq (pl u) (.tup []) h1=.ok (.bl (decide (pl u=.tup []))) h1:=Iy (Ni u) (by decide);simp [eq0];split
 ·refine now ?_;exact JD hN fun sn w a1 a2 a3=>k hd sn u 1 w h1 hx hu (.inl rfl) l8 a1 a2 a3
 ·refine now ?_;exact JD hN fun sn w a1 a2 a3=>k hd sn u s0 w h1 hx hu hs0 l8 a1 a2 a3
theorem len_list (z:Str):z.cps.toList.length=z.length:=by simp [Str.length]
def rwP (r:List St×Nat):PV:=.tup [pl r.1,.str ⟨#[r.2]⟩]
def bI (u:List St) (s:Int) (hd:Str) (n:Int) (w:Str):List (List St×Nat):=(gJ u s hd n w.length).zip w.cps.toList
def jO (u:List St) (s:Int) (hd:Str) (n:Int) (w:Str) (q:Nat):List (List St×Nat):=(gJ u s hd n q).zip (w.cps.toList.take q)
def cur (u:List St) (s:Int) (hd:Str) (n:Int):Nat->List St
 | 0=>u
 | q+1=>pE u s hd n q
def sdQ (s:Int):Nat->Int
 | 0=>s
 | _+1=>1
theorem JE {u:List St} {s n:Int} {hd:Str}:∀ q:Nat,cur u s hd n q++[⟨sdQ s q,hd,n,(q:Int)⟩]=pE u s hd n q
 | 0=>rfl
 | q+1=>rfl
theorem LY {u:List St} {s n:Int} {hd:Str}:∀ q:Nat,(cur u s hd n q).length=u.length+q
 | 0=>rfl
 | q+1=>by show (pE u s hd n q).length=_; rw [pF]; omega
theorem DT {u:List St} {s n:Int} {hd w:Str} {q c:Nat} (hc:w.cps.toList[q]?=some c):jO u s hd n w (q+1)=jO u s hd n w q++[(pE u s hd n q,c)]:=by
 have hq:=(af.mp hc).1;unfold jO;rw [zD,ll,hc,List.zip_append (by rw [kQ,bq]; omega)];rfl
theorem Gk {u:List St} {s n:Int} {hd w:Str} {q:Nat} (hq:q<=w.length):(jO u s hd n w q).length=q:=by
 have:=len_list w;unfold jO;rw [List.length_zip,kQ,bq];omega
theorem Gm (u:List St) (s n:Int) (hd w:Str):jO u s hd n w w.length=bI u s hd n w:=by
 have:=len_list w;unfold jO bI;rw [du (by omega)]
theorem DU (u:List St) (s n:Int) (hd w:Str) (sn:PV) (h:PH) (Q:PV->PH->Prop) (hu:u.length<=900) (h1:w.length<=12) (k:Q (.ref h.length) (h++[.lst ((bI u s hd n w).map rwP)])):
  (fA [wr hd n sn u s w] h).W Q:=by
 refine mB ?_;unfold wr;simp (disch:=omega) [qS,iZ];refine DB (j:=w.length) (fun q δ h'=>q<=w.length/\h'=h++[.lst ((jO u s hd n w q).map rwP)]/\∃ x0 x2 x7,δ=[x0,some (.tup [.str hd,.int n]),x2,some (.tup [.str "write",.tup [.str "t",.int 1],pl u,.int s,.str w]),some (pl (cur u s hd n q)),some (.int (sdQ s q)),some (.ref h.length),x7]) ?_ ?_ ?_ ?_ ?_
 ·simp (disch:=omega)
 ·omega
 ·exact ⟨d4 _,rfl,_,_,_,rfl⟩
 ·rintro q δ h' hq ⟨_,rfl,x0,x2,x7,rfl⟩;have hq':q < w.length:=by omega
  have hlen:=len_list w;obtain ⟨c,hc⟩:∃ c,w.cps.toList[q]?=some c:=⟨_,gf (by omega)⟩;have ha:atI w.cps.toList (q:Int)=some c:=A1 hc;have e1:(h++[MO.lst ((jO u s hd n w q).map rwP)])[h.length]?=some (.lst ((jO u s hd n w q).map rwP)):=aZ;have lp:=Gk (u:=u) (s:=s) (n:=n) (hd:=hd) (w:=w) (q:=q) (by omega);have lc:=LY (u:=u) (s:=s) (n:=n) (hd:=hd) q;have ep:bC (pl (cur u s hd n q)) (.tup [.tup [.int (sdQ s q),.str hd,.int n,.int (q:Int)]]) (h++[MO.lst ((jO u s hd n w q).map rwP)])=.ok (pl (pE u s hd n q)) (h++[MO.lst ((jO u s hd n w q).map rwP)]):=by
   rw [<- JE q];simp (disch:=first | omega | (simp; omega)) [pl,stp]
  simp (disch:=first | omega | (simp; omega)) [sG,iZ,ep,oU e1,ha,gH e1]
  exact ⟨by omega,by rw [DT hc,jg]; rfl,rfl,rfl⟩
 ·rintro δ h' ⟨_,rfl,x0,x2,x7,rfl⟩;simp;rw [Gm];exact k
def kvR (R:List (List St×Nat)):List (PV×PV):=R.map fun r=>(pl r.1,.str ⟨#[r.2]⟩)
def gQ (R:List (List St×Nat)) (r:List St×Nat):List (List St×Nat):=if r.1∈R.map (·.1) then R.map fun q=>if q.1=r.1 then r else q else R++[r]
theorem C8 (R:List (List St×Nat)) (p:List St):cE (kvR R) (pl p)=(R.find? fun r=>decide (r.1=p)).map fun r=>.str ⟨#[r.2]⟩:=by
 induction R with
 | nil=>rfl
 | cons r R ih=>
  unfold kvR at ih ⊢
  by_cases e:r.1=p
  ·simp [cE,e]
  ·have:pl r.1≠pl p:=fun z=>e (qT z);have this':pl p≠pl r.1:=fun z=>this z.symm;simp [cE,e,this,this',ih]
theorem C9 (R:List (List St×Nat)) (p:List St):(cE (kvR R) (pl p)).isSome=decide (p∈R.map (·.1)):=by
 rw [C8,Option.isSome_map,fb,List.find?_isSome,decide_eq_true_iff,dt];simp
theorem Ao (R:List (List St×Nat)) (r:List St×Nat):jS (kvR R) (pl r.1) (.str ⟨#[r.2]⟩)=kvR (gQ R r):=by
 unfold jS gQ;rw [C9]
 by_cases c:r.1∈R.map (·.1)
 ·rw [if_pos (by simpa using c),if_pos c]
  unfold kvR;rw [j4,j4];refine mz fun q _=>?_
  show (if pl q.1=pl r.1 then (pl q.1,PV.str ⟨#[r.2]⟩) else (pl q.1,PV.str ⟨#[q.2]⟩))=(pl (if q.1=r.1 then r else q).1,PV.str ⟨#[(if q.1=r.1 then r else q).2]⟩)
  by_cases e:q.1=r.1
  ·rw [if_pos (by rw [e]),if_pos e,e]
  ·rw [if_neg (fun z=>e (qT z)),if_neg e]
 ·rw [if_neg (by simpa using c),if_neg c]
  simp [kvR]
theorem JF (R:List (List St×Nat)) (p:List St):sC (kvR R) (pl p)=kvR (R.filter fun r=>decide (r.1≠p)):=by
 unfold sC kvR;rw [List.filter_map]
 congr 1
 refine List.filter_congr fun r _=>?_
 show decide (pl r.1≠pl p)=decide (r.1≠p)
 by_cases e:r.1=p
 ·simp [e]
 ·have:pl r.1≠pl p:=fun z=>e (qT z);simp [e,this]
theorem OV {δ:Ev} {h h1:PH} {E:FE} {ms:Ma} {tg:Mg} {body:Ms} {n:Nat} {xs:List PV} {x:Str} (I:Nat->Ev->PH->Prop) (e:ms δ h=.ok [.ref n,.str x] h1) (ha:(x.cps.all fun c=>decide (c < 128))=true) (el:aS h1 n=some xs) (h0:I 0 δ h1)
  (keep:∀ q δ h,I q δ h->uX n xs h=true)
  (step:∀ (q:Nat) y δ h,(sX xs x)[q]?=some y->I q δ h->∃ δ1,tg y δ=some δ1/\(body δ1 h).W { nx:=I (q+1),ct:=I (q+1),rt:=E.rt,bk:=E.nx })
  (fin:∀ δ h,I (sX xs x).length δ h->E.nx δ h):(hU (LQ ms) tg body δ h).W E:=by
 have go:(fV (uX n xs) tg body (sX xs x) δ h1).W E:=qK I _ 0 δ h1 h0 (fun q y δ h _ hx hi=>⟨keep q δ h hi,by
  rw [jf] at hx;exact step q y δ h hx hi⟩) (fun δ h hi=>⟨keep _ δ h hi,fin δ h (by simpa using hi)⟩)
 unfold hU LQ;rw [e,Rs.bind_ok];unfold OR;dsimp only;rw [if_pos ha,el];exact go
theorem zE (u:List St) (s n:Int) (hd w:Str):sX ((gJ u s hd n w.length).map pl) w=(bI u s hd n w).map rwP:=by
 unfold sX bI;rw [List.map_zip_eq_zipWith,List.zipWith_map_left];rfl
def kR (h:PH) (a d:Nat) (R:List (List St×Nat)):Prop:=h[a]?=some (.ins "Signs" [("kept",.ref d)])/\bA h d=some (kvR R)
theorem kR.fld {h:PH} {a d:Nat} {R:List (List St×Nat)} (t:kR h a d R):sS "kept" (.ref a) h=.ok (.ref d) h:=Ad t.1 rfl
theorem Fg (p:List St):(PV.tup (p.map stp)).ky 6=true:=by
 show (p.map stp).all (PV.ky 5)=true
 rw [nj];exact cf.mpr fun y _=>rfl
theorem Ap {h:PH} {n:Nat} {kvs kvs':List (PV×PV)} (e:bA h n=some kvs):bA (h.set n (.dD kvs')) n=some kvs':=by
 have hn:∃ o,h[n]?=some o:=by
  unfold bA at e;split at e
  ·exact ⟨_,by assumption⟩
  ·exact ⟨_,by assumption⟩
  ·cases e
 obtain ⟨o,ho⟩:=hn;exact F0 (DD ho)
theorem LZ {w:Str} (h:Asc w):(w.cps.all fun c=>decide (c < 128))=true:=by
 rw [Array.all_eq_true_iff_forall_mem];intro c hc;exact decide_eq_true (h c (by simpa using hc))
theorem JG (R:List (List St×Nat)) (r:List St×Nat):(gQ R r).length<=R.length+1:=by
 unfold gQ;split
 ·rw [ar]; omega
 ·simp
theorem qU (l:List (List St×Nat)):∀ R,(l.foldl gQ R).length<=R.length+l.length:=by
 induction l with
 | nil=>intro R; simp
 | cons r l ih=>
  intro R;have:=ih (gQ R r);have:=JG R r;simp only [List.foldl_cons,cz];omega
theorem JH {h:PH} {a d:Nat} {R:List (List St×Nat)} (t:kR h a d R) (lR:R.length<=100000) (u:List St) (s n:Int) (hd w:Str) (sn:PV) (hu:u.length<=900) (h0:1<=w.length) (h1:w.length<=12) (asc:Asc w) (Q:PV->PH->Prop)
  (k:∀ h',(∀ i o,i≠d->h[i]?=some o->h'[i]?=some o)->bA h' d=some (kvR ((bI u s hd n w).foldl gQ R))->Q .non h'):(cM [.ref a,wr hd n sn u s w] h).W Q:=by
 refine mB ?_;have ep:fO [wr hd n sn u s w] h=.ok (.ref h.length) (h++[.lst ((gJ u s hd n w.length).map pl)]):=by
  have:=Gj u s n hd w sn (.tup [.str "t",.int 1]) "write" h (fun p h'=>p=.ref h.length/\h'=h++[.lst ((gJ u s hd n w.length).map pl)]) hu h0 h1 ⟨rfl,rfl⟩;obtain ⟨p,h',e,rfl,rfl⟩:=uY this;exact e
 unfold hW;rw [bM];have e4:vIx (wr hd n sn u s w) (.int 2) h=.ok (.tup [.str "write",.tup [.str "t",.int 1],pl u,.int s,.str w]) h:=by
  simp [wr]
 simp [e4];refine now ?_;have dl:d < h.length:=by
  have g:=t.2;unfold bA at g;split at g
  ·rename_i e; exact (af.mp e).1
  ·rename_i e; exact (af.mp e).1
  ·cases g
 have hA:(h++[MO.lst ((gJ u s hd n w.length).map pl)])[h.length]?=some (.lst ((gJ u s hd n w.length).map pl)):=aZ;have xA:Ext h (h++[MO.lst ((gJ u s hd n w.length).map pl)]):=Ext.app _ _;generalize h++[MO.lst ((gJ u s hd n w.length).map pl)]=hB at ep hA xA;have ad:a≠d:=fun e=>by
  have g:=t.2;rw [<- e] at g;unfold bA at g;rw [t.1] at g;cases g
 have lw:(bI u s hd n w).length<=12:=by
  unfold bI;rw [List.length_zip,kQ];omega
 refine OV (n:=h.length) (xs:=(gJ u s hd n w.length).map pl) (x:=w) (h1:=hB) (fun r δ h'=>(∀ i o,i≠d->hB[i]?=some o->h'[i]?=some o)/\bA h' d=some (kvR (((bI u s hd n w).take r).foldl gQ R))/\∃ x3 x4,δ=[some (.ref a),some (wr hd n sn u s w),some (.str w),x3,x4]) (by simp [ep]) (LZ asc) (by unfold aS; rw [hA]) ?_ ?_ ?_ ?_
 ·refine ⟨fun _ _ _ e=>e,?_,_,_,rfl⟩;obtain ⟨o,ho,_,hh⟩:=cL t.2;simpa using hh _ (xA _ _ ho)
 ·rintro r δ h' ⟨k1,_⟩;unfold uX aS;rw [k1 _ _ (by omega) hA];exact PV.beqs_self _
 ·rintro r y δ h' hy ⟨k1,g1,x3,x4,rfl⟩;rw [zE,br] at hy;obtain ⟨q,hq,rfl⟩:=df.mp hy;refine ⟨[some (.ref a),some (wr hd n sn u s w),some (.str w),some (pl q.1),some (.str ⟨#[q.2]⟩)],by simp [rwP],?_⟩;have hr:=(af.mp hq).1;have htk:(bI u s hd n w).take (r+1)=(bI u s hd n w).take r++[q]:=by rw [ll,hq]; rfl
  have l1:=qU ((bI u s hd n w).take r) R;rw [bq] at l1;have p1:oY (.ref d) (pl q.1) (.str ⟨#[q.2]⟩) h'=some (h'.set d (.dD (jS (kvR (((bI u s hd n w).take r).foldl gQ R)) (pl q.1) (.str ⟨#[q.2]⟩)))):=F5 g1 (Fg _) (by simp [kvR]; omega);rw [Ao] at p1;have ef:sS "kept" (.ref a) h'=.ok (.ref d) h':=Ad (k1 _ _ ad (xA _ _ t.1)) rfl;unfold jN;simp [ef,p1];refine ⟨fun i o hi ho=>by rw [cj (ik hi)]; exact k1 i o hi ho,?_⟩;rw [htk,List.foldl_append];exact Ap g1
 ·rintro δ h' ⟨k1,g1,x3,x4,rfl⟩;rw [zE,ar,List.take_length] at g1;exact k h' (fun i o hi ho=>k1 i o hi (xA _ _ ho)) g1
def rk (xs:List St):PV:=.tup (xs.map stp++[sY])
theorem M0 (xs:List St) (h:PH) (hx:xs.length<=1000):bC (pl xs) (.tup [.tup [.int 0]]) h=.ok (rk xs) h:=by
 unfold pl;rw [G6 (by rw [ar]; simp; omega)];rfl
theorem Tx (Ps:List (List St)):OkN 2 (Ps.map rk):=by
 refine ⟨by omega,fun v hv=>?_,fun v hv=>?_,fun v hv u hu=>?_⟩
 ·obtain ⟨xs,_,rfl⟩:=dt.mp hv
  show (xs.map stp++[sY]).all (PV.ky 19)=true
  rw [List.all_append,dr,nj];exact ⟨cf.mpr fun y _=>rfl,rfl⟩
 ·obtain ⟨xs,_,rfl⟩:=dt.mp hv;cases xs <;> rfl
 ·obtain ⟨xs,_,rfl⟩:=dt.mp hv;obtain ⟨ys,_,rfl⟩:=dt.mp hu
  show (ltL (ltP 19) (xs.map stp++[sY]) (ys.map stp++[sY])).isSome=true
  rw [DS 17 xs ys];rfl
theorem OW {xs ys:List St} (h:rk xs=rk ys):pl xs=pl ys:=by
 unfold rk at h;unfold pl;have:=PV.tup.inj h;rw [(List.append_inj' this rfl).1]
theorem OX (xs ys:List St):ltN (rk xs) (rk ys)=bef xs ys:=IM (n:=20) (by show ltL (ltP 19) _ _=_; exact DS 17 xs ys)
theorem DV {α β:Type}:∀ {l:List (α×β)},(l.map (·.1)).Nodup->∀ {a b:α×β},a∈l->b∈l->a.1=b.1->a=b
 | [],_,a,b,ha,_,_=>by cases ha
 | x :: r,nd,a,b,ha,hb,e=>by
  rw [cy,jc] at nd;rcases bw.mp ha with q | ha'
  ·rcases bw.mp hb with z | hb'
   ·rw [q,z]
   ·exact (nd.1 (dt.mpr ⟨b,hb',by rw [<- e,q]⟩)).elim
  ·rcases bw.mp hb with z | hb'
   ·exact (nd.1 (dt.mpr ⟨a,ha',by rw [e,z]⟩)).elim
   ·exact DV nd.2 ha' hb' e
def SRt (os:List (List St×Nat)):Prop:=os.Pairwise fun a c=>bef c.1 a.1=false
theorem SRt.uniq {os os':List (List St×Nat)} (h:SRt os) (h':SRt os') (p:os.Perm os') (nd:(os.map (·.1)).Nodup):os=os':=by
 refine List.Perm.eq_of_pairwise (fun a b ha hb l1 l2=>?_) h h' p;have hb':=p.mem_iff.mpr hb;have e:a.1=b.1:=by
  by_cases c:a.1=b.1
  ·exact c
  ·have:=Ff c;rw [l1,l2] at this;cases this
 exact DV nd ha hb' e
theorem sH (r:List St×Nat) (h:PH) (hr:r.1.length<=1000):cW [rwP r] h=.ok (rk r.1) h:=by
 have w:(cW [rwP r] h).W fun p h'=>p=rk r.1/\h'=h:=by
  refine mB ?_;simp [nG,rwP,LR r.1 h hr,rk]
 obtain ⟨p,h',e,rfl,rfl⟩:=uY w;exact e
theorem OY (r:List St×Nat) (h:PH) (hr:r.1.length<=1000):zC [rwP r] h=.ok (rk r.1) h:=by
 have w:(zC [rwP r] h).W fun p h'=>p=rk r.1/\h'=h:=by
  refine mB ?_;simp [Jp,rwP,M0 r.1 h hr]
 obtain ⟨p,h',e,rfl,rfl⟩:=uY w;exact e
theorem vY {f:Fn} (hf:∀ r h,r.1.length<=1000->f [rwP r] h=.ok (rk r.1) h) {R:List (List St×Nat)} (lR:R.length < 1000000) (hp:∀ r∈R,r.1.length<=1000) (nd:(R.map (·.1)).Nodup) {x:PV} {h:PH} (e:hV x h=some (R.map rwP)) (Q:PV->PH->Prop)
  (k:∀ os h',Ext h h'->os.Perm R->SRt os->Q (.ref h'.length) (h'++[.lst (os.map rwP)])):(fJ f false 2 x h).W Q:=by
 refine Jo (key:=fun r:List St×Nat=>rk r.1) (emb:=rwP) e lR ?_ (fun a ha c hc z=>?_) (fun r hr h Q q=>?_) fun os h' hx p pw=>k os h' hx p (pw.imp fun {a c} z=>by rw [OX] at z; exact z)
 ·have:=Tx (R.map (·.1))
  rwa [j4] at this
 ·have e1:a.1=c.1:=qT (OW z);rw [DV nd ha hc e1]
 ·rw [hf r h (hp r hr)];simpa using q h (Ext.refl h)
theorem lK {h:PH} {n:Nat} {kvs:List (PV×PV)} (e:bA h n=some kvs):∃ o,h[n]?=some o/\vJ (some o)=true/\fT o=some (kvs.map fun kv=>.tup [kv.1,kv.2]):=by
 unfold bA at e;split at e
 ·rename_i k hk; cases e; exact ⟨_,hk,rfl,rfl⟩
 ·rename_i hk; cases e; exact ⟨_,hk,rfl,rfl⟩
 ·cases e
theorem qV (R:List (List St×Nat)):(kvR R).map (fun kv=>PV.tup [kv.1,kv.2])=R.map rwP:=by
 unfold kvR;rw [j4];rfl
theorem Aq {h:PH} {a d:Nat} {R:List (List St×Nat)} (t:kR h a d R) (lR:R.length < 1000000) (hp:∀ r∈R,r.1.length<=1000) (nd:(R.map (·.1)).Nodup) (Q:PV->PH->Prop)
  (k:∀ os h' l,Ext h h'->h.length<=l->h'[l]?=some (.lst (os.map rwP))->os.Perm R->SRt os->Q (.ref l) h'):(bJ [.ref a] h).W Q:=by
 refine mB ?_;unfold jH;obtain ⟨o,ho,hd,hi⟩:=lK t.2;rw [qV] at hi;obtain ⟨_,_,hD,_⟩:=cL t.2;have e0:gO cB bB (mUn (sS "kept") (mV 0)) [some (.ref a)] h=.ok (.ref h.length) (h++[.vw 0 d]):=by
  simp [t.fld,hD,nE ho hd]
 have ho1:(h++[MO.vw 0 d])[d]?=some o:=Ext.app _ _ _ _ ho;have hl:h.length<=(h++[MO.vw 0 d]).length:=(Ext.app h [MO.vw 0 d]).len;simp only [ET,nF];refine (congrArg (fun r=>Rs.W (Rs.bind r _) _) e0).mpr ?_;rw [Rs.bind_ok];exact vY sH lR hp nd (by rw [C1 aZ ho1,hi]) _ fun os h' hx p s=>k os _ _ ((Ext.app _ _).trans (hx.trans (Ext.app _ _))) (gg hl hx.len) aZ p s
theorem qW {h:PH} {x:PV} {R:List (List St×Nat)} (e:hV x h=some (R.map rwP)) (lR:R.length < 1000000) (hp:∀ r∈R,r.1.length<=1000) (nd:(R.map (·.1)).Nodup) (Q:PV->PH->Prop)
  (k:∀ os h' l,Ext h h'->h.length<=l->h'[l]?=some (.lst (os.map rwP))->os.Perm R->SRt os->Q (.ref l) h'):(dE [x] h).W Q:=by
 refine mB ?_;unfold vS;simp only [ET,nF]
 show Rs.W (fJ zC false 2 x h) _
 exact vY OY lR hp nd e _ fun os h' hx p s=>k os _ _ (hx.trans (Ext.app _ _)) hx.len aZ p s
theorem Fh (p:List St):(pl p).isKt=true:=Fg p
theorem vZ:∀ {l:List (List St×Nat)} {r:List St×Nat},(l.map (·.1)).Nodup->r∈l->l.filter (fun q=>decide (q.1=r.1))=[r]
 | [],r,_,h=>by cases h
 | x :: l,r,nd,h=>by
  rw [cy,jc] at nd;rcases bw.mp h with rfl | h
  ·rw [List.filter_cons_of_pos (by simp)]
   congr 1
   rw [List.filter_eq_nil_iff];intro q hq e;exact nd.1 (dt.mpr ⟨q,hq,by simpa using e⟩)
  ·have:x.1≠r.1:=fun e=>nd.1 (dt.mpr ⟨r,h,e.symm⟩);rw [List.filter_cons_of_neg (by simpa using this)]
   exact vZ nd.2 h
theorem lL {l:List (List St×Nat)} {p:List St×Nat->Bool} (nd:(l.map (·.1)).Nodup):((l.filter p).map (·.1)).Nodup:=List.Sublist.nodup (List.Sublist.map _ List.filter_sublist) nd
def dF (R:List (List St×Nat)) (g:List (List St)):List (List St×Nat):=R.filter fun r=>decide (r.1∉g)
def inR (R:List (List St×Nat)) (g:List (List St)):List (List St×Nat):=R.filter fun r=>decide (r.1∈g)
theorem qX (R:List (List St×Nat)) (g:List (List St)) (p:List St):dF R (g++[p])=(dF R g).filter fun r=>decide (r.1≠p):=by
 unfold dF;rw [List.filter_filter];refine List.filter_congr fun r _=>?_
 by_cases h1:r.1∈g <;> by_cases h2:r.1=p <;> simp [h1,h2]
theorem Ca (R:List (List St×Nat)) (p:List St) (h:p∉R.map (·.1)):R.filter (fun r=>decide (r.1≠p))=R:=by
 rw [List.filter_eq_self];intro r hr;exact decide_eq_true fun e=>h (dt.mpr ⟨r,hr,e⟩)
theorem M3 {G R:List (List St×Nat)} {g:List (List St)} (h:(G++dF R g).Perm R):G.Perm (inR R g):=by
 have h2:(inR R g++dF R g).Perm R:=by
  have:=List.filter_append_perm (fun r:List St×Nat=>decide (r.1∈g)) R;have e:(fun r:List St×Nat=>!decide (r.1∈g))=fun r=>decide (r.1∉g):=by funext r; simp
  rw [e] at this;exact this
 exact (List.perm_append_right_iff _).mp (h.trans h2.symm)
theorem qY (l:List (List St×Nat)):(l.map rwP).all (PV.pl 39)=true:=by
 rw [nj,cf];intro r _
 show ([pl r.1,PV.str ⟨#[r.2]⟩]).all (PV.pl 38)=true
 rw [jx,dr];refine ⟨?_,rfl⟩
 show (r.1.map stp).all (PV.pl 37)=true
 rw [nj];exact cf.mpr fun y _=>rfl
theorem Ar (g:List (List St)):(g.map pl).all (PV.pl 39)=true:=by
 rw [nj,cf];intro r _
 show (r.map stp).all (PV.pl 38)=true
 rw [nj];exact cf.mpr fun y _=>rfl
theorem Nj (p:List St):(pl p).pl 39=true:=by
 show (p.map stp).all (PV.pl 38)=true
 rw [nj];exact cf.mpr fun y _=>rfl
theorem Fi {p:List St} {g:List (List St)}:pl p∈g.map pl ↔ p∈g:=by
 rw [dt];exact ⟨fun ⟨q,hq,e⟩=>qT e ▸ hq,fun h=>⟨p,h,rfl⟩⟩
def Gn (h:PH) (a d:Nat) (P:PV) (R:List (List St×Nat)) (g:List (List St)) (q:Nat) (δ:Ev) (h':PH):Prop:=
 ∃ G x3,δ=[some (.ref a),some P,some (.ref h.length),x3]/\(∀ i o,i≠d->h[i]?=some o->h'[i]?=some o)/\h'[h.length]?=some (.lst (G.map rwP))/\bA h' d=some (kvR (dF R (g.take q)))/\(G++dF R (g.take q)).Perm R
theorem Cb {h:PH} {a d:Nat} {P:PV} {R:List (List St×Nat)} {g:List (List St)} {q:Nat} {p:List St} {δ:Ev} {h':PH} {E:FE} (t:kR h a d R) (lR:R.length<=100000) (nd:(R.map (·.1)).Nodup) (hq:g[q]?=some p) (I:Gn h a d P R g q δ h') (k:∀ δ h',Gn h a d P R g (q+1) δ h'->E.nx δ h'):
  (hZ (δ.set 3 (some (pl p))) h').W E:=by
 obtain ⟨G,x3,rfl,k1,k2,k3,k4⟩:=I;have htk:g.take (q+1)=g.take q++[p]:=by rw [ll,hq]; rfl
 have ad:a≠d:=fun e=>by
  have g:=t.2;rw [<- e] at g;unfold bA at g;rw [t.1] at g;cases g
 have dl:d≠h.length:=fun e=>by
  obtain ⟨o,ho,_⟩:=lK t.2;have:=(af.mp ho).1;omega
 have ef:∀ h2,(∀ i o,i≠d->h[i]?=some o->h2[i]?=some o)->sS "kept" (.ref a) h2=.ok (.ref d) h2:=fun h2 kk=>Ad (kk _ _ ad t.1) rfl;have e1:vA (pl p) (.ref d) h'=.ok (.bl (decide (p∈(dF R (g.take q)).map (·.1)))) h':=by
  rw [<- C9];exact OF k3 (Fg p)
 obtain ⟨_,_,hD,_⟩:=cL k3;unfold hZ;have nd2:((dF R (g.take q)).map (·.1)).Nodup:=lL nd
 by_cases c:p∈(dF R (g.take q)).map (·.1)
 ·obtain ⟨r,hr,er⟩:=dt.mp c;have lk:cE (kvR (dF R (g.take q))) (pl p)=some (.str ⟨#[r.2]⟩):=by
   rw [C8];have e2:(dF R (g.take q)).find? (fun x=>decide (x.1=p))=some r:=by
    have:=vZ nd2 hr;rw [er] at this;rw [<- List.head?_filter,this];rfl
   rw [e2]; rfl
  have ep:=Jg k3 (Fh p) lk;rw [JF] at ep;have lG:G.length<=100000:=by
   have:=k4.length_eq;rw [bo] at this;omega
  have g2:(h'.set d (.dD (kvR ((dF R (g.take q)).filter fun r=>decide (r.1≠p)))))[h.length]?=some (.lst (G.map rwP)):=by
   rw [cj dl]; exact k2
  have ap:=gH (p:=rwP r) g2 (by rw [ar]; omega);have hRn:dF R (g.take (q+1))=(dF R (g.take q)).filter fun r=>decide (r.1≠p):=by rw [htk,qX]
  rw [<- hRn] at ep g2 ap;have erw:PV.tup [pl p,.str ⟨#[r.2]⟩]=rwP r:=by rw [<- er]; rfl
  simp [ef h' k1,e1,c,oU k2,hD,ep,erw,ap];refine k _ _ ⟨G++[r],_,rfl,fun i o hi ho=>?_,?_,?_,?_⟩
  ·have:i≠h.length:=by
    have:=(af.mp ho).1;omega
   rw [cj (ik this),cj (ik hi)];exact k1 i o hi ho
  ·rw [jg];exact DD g2
  ·have e3:=Ap (kvs':=kvR (dF R (g.take (q+1)))) k3;obtain ⟨o,ho,_,hh⟩:=cL e3;refine hh _ ?_;rw [cj (ik dl)];exact ho
  ·rw [hRn];have e4:=List.filter_append_perm (fun x:List St×Nat=>decide (x.1=r.1)) (dF R (g.take q));rw [vZ nd2 hr] at e4;have e5:(fun x:List St×Nat=>!decide (x.1=r.1))=fun x=>decide (x.1≠p):=by funext x; rw [er]; simp
   rw [e5] at e4;rw [aq];exact (cq G e4).trans k4
 ·simp [ef h' k1,e1,c];refine k _ _ ⟨G,_,rfl,k1,k2,?_,?_⟩
  ·rw [htk,qX,Ca _ _ c]; exact k3
  ·rw [htk,qX,Ca _ _ c]; exact k4
theorem DW {h:PH} {a d:Nat} {R:List (List St×Nat)} (t:kR h a d R) (lR:R.length<=100000) (hp:∀ r∈R,r.1.length<=1000) (nd:(R.map (·.1)).Nodup) (g:List (List St)) (P:PV) (hP:P=.tup (g.map pl)\/∃ n,P=.ref n/\h[n]?=some (.lst (g.map pl))) (Q:PV->PH->Prop)
  (k:∀ os h' l,(∀ i o,i≠d->h[i]?=some o->h'[i]?=some o)->bA h' d=some (kvR (dF R g))->h.length<=l->h'[l]?=some (.lst (os.map rwP))->os.Perm (inR R g)->SRt os->Q (.ref l) h'):(bK [.ref a,P] h).W Q:=by
 refine mB ?_;unfold kO;rw [bM]; simp;refine now ?_;rw [bM];have dl:∃ o,h[d]?=some o:=let ⟨o,ho,_⟩:=lK t.2; ⟨o,ho⟩;have x0:=Ext.app h [MO.lst []];have i0:Gn h a d P R g 0 [some (.ref a),some P,some (.ref h.length),none] (h++[MO.lst []]):=by
  have e0:dF R (g.take 0)=R:=by
   unfold dF;rw [List.filter_eq_self];intro r _;simp
  exact ⟨[],none,rfl,fun i o _ ho=>x0 _ _ ho,aZ,by rw [e0]; exact bN x0 t.2,by rw [e0]; exact j3 _⟩
 have fin:∀ δ h',Gn h a d P R g g.length δ h'->Lt (dY (jF cW false 2 (mV 2))) { nx:=fun _ h=>Q .non h,rt:=Q } δ h':=by
  rintro δ h' ⟨G,x3,rfl,k1,k2,k3,k4⟩;rw [List.take_length] at k3 k4;refine now ?_;simp only [ET,nF]
  show Rs.W (fJ cW false 2 (.ref h.length) h') _
  have ndG:(G.map (·.1)).Nodup:=by
   have:=(k4.map il).nodup_iff.mpr nd;rw [jg] at this;exact (List.nodup_append.mp this).1
  have lG:G.length < 1000000:=by
   have:=k4.length_eq;rw [bo] at this;omega
  refine vY sH lG (fun r hr=>hp r (k4.mem_iff.mp (cu _ hr))) ndG (jG k2) _ fun os h2 hx p s=>?_;have x2:Ext h' (h2++[MO.lst (os.map rwP)]):=hx.trans (Ext.app _ _);have l1:h.length<=h2.length:=by
   have:=(af.mp k2).1;have:=hx.len;omega
  exact k os _ _ (fun i o hi ho=>x2 _ _ (k1 i o hi ho)) (bN x2 k3) l1 aZ (p.trans (M3 k4)) s
 rcases hP with rfl | ⟨n,rfl,hn⟩
 ·refine Ow (xs:=g.map pl) (Gn h a d _ R g) (.inl (by simp)) i0 ?_ (fun δ h' hh=>fin δ h' (by simpa using hh))
  intro q x δ h' hx hi;rw [br] at hx;obtain ⟨p,hp',rfl⟩:=df.mp hx;exact ⟨_,rfl,Cb t lR nd hp' hi fun _ _ z=>z⟩
 ·have nd':n≠d:=fun e=>by
   have:=t.2;unfold bA at this;rw [<- e,hn] at this;cases this
  refine DC (n:=n) (xs:=g.map pl) (h1:=h++[MO.lst []]) (Gn h a d _ R g) (by simp) (x0 _ _ hn) i0 ?_ ?_ (fun δ h' hh=>fin δ h' (by simpa using hh))
  ·rintro q δ h' _ ⟨G,x3,_,k1,_⟩;exact k1 _ _ nd' hn
  ·intro q x δ h' hx hi;rw [br] at hx;obtain ⟨p,hp',rfl⟩:=df.mp hx;exact ⟨_,rfl,Cb t lR nd hp' hi fun _ _ z=>z⟩
theorem DX {δ:Ev} {h h1:PH} {α:Type} {b:Bool} {m:Me} {x:PV} {d:Nat} {o:MO} {js:List (Option Nat)} {tg:Mg} {tst:Ev->PH->Rs Bool} {elt:Me} {ys:List α} {emb:α->PV} (f:α->Option PV) (e:m δ h=.ok x h1) (ew:wkI b x h1=some (d,o,ys.map emb)) (hd:vJ h[d]?=true) (ho:h1[d]?=some o) (hz:ys.length<=16777216)
  (step:∀ y∈ys,∃ δ1,tg (emb y) (kE js δ)=some δ1/\∀ h',(∀ i o,i≠d->h1[i]?=some o->h'[i]?=some o)->match f y with
   | none=>tst δ1 h'=.ok false h'
   | some p=>tst δ1 h'=.ok true h'/\elt δ1 h'=.ok p h'):jE b m (fN js (oZ b m) tg tst elt) δ h=.ok (.ref h1.length) (h1++[.lst (ys.filterMap f)]):=by
 have hc:=qL (js:=js) (tg:=tg) (tst:=tst) (elt:=elt) (δ:=δ) (h:=h) (g:=fun _=>true) f (Jd e ew) (fun _ _=>rfl) hz fun y hy=>let ⟨δ1,a,b⟩:=step y hy; ⟨δ1,a,fun h hx=>b h fun i o hi ho=>hx i o (by rw [cj (ik hi)]; exact ho)⟩;unfold jE;rw [OL e ew hd];dsimp only;rw [hc,Rs.bind_ok,Je ho];rw [jd]
theorem Nk {α:Type} (c:α->Bool) (f:α->PV) (l:List α):l.filterMap (fun y=>if c y=true then some (f y) else none)=(l.filter c).map f:=by
 induction l with
 | nil=>rfl
 | cons x l ih=>
  by_cases hx:c x=true
  ·rw [md,if_pos hx,List.filter_cons_of_pos hx,cy,ih]
  ·rw [md,if_neg hx,List.filter_cons_of_neg hx,ih]
theorem OZ {h:PH} {n:Nat} {g:List (List St)} (e:h[n]?=some (.lst (g.map pl))) (p:List St):vA (pl p) (.ref n) h=.ok (.bl (decide (p∈g))) h:=by
 rw [II e,Lp e (Nj p) (Ar g)]
 congr 2
 rw [decide_eq_decide];exact Fi
theorem Gp {h:PH} {n:Nat} {g:List (List St)} (e:h[n]?=some (.lst (g.map pl))) (p:List St):gU (pl p) (.ref n) h=.ok (.bl (decide (p∉g))) h:=by
 rw [BK e,DE e (Nj p) (Ar g)]
 congr 2
 rw [<- decide_not,decide_eq_decide];exact not_congr Fi
theorem rw0 (r:List St×Nat) (h:PH):vIx (rwP r) (.int 0) h=.ok (pl r.1) h:=by
 unfold rwP;simp
theorem zF {δ:Ev} {h:PH} {i j kd lg:Nat} {R:List (List St×Nat)} {g:List (List St)} (vv:PV->PV->PH->Rs PV) (c:List St->Bool) (hv:∀ (h':PH) p,h'[lg]?=some (.lst (g.map pl))->vv (pl p) (.ref lg) h'=.ok (.bl (c p)) h') (tk:bA h kd=some (kvR R)) (gl:h[lg]?=some (.lst (g.map pl))) (lR:R.length<=100000) (ei:lY δ i=some (.ref kd)) (ej:lY δ j=some (.ref lg)):
  jE true (gO cB bB (mV i)) (fN [none,some j] (oZ true (gO cB bB (mV i))) (gN 0) (cH (aD vv (aD vAt (mV 0) (mC (.int 0))) (mV 1))) (mV 0)) δ h=.ok (.ref (h++[MO.vw 0 kd]).length) (h++[.vw 0 kd]++[.lst ((R.filter fun r=>c r.1).map rwP)]):=by
 obtain ⟨o,ho,hd,hi⟩:=lK tk;rw [qV] at hi;obtain ⟨_,_,hD,_⟩:=cL tk;have e0:gO cB bB (mV i) δ h=.ok (.ref h.length) (h++[.vw 0 kd]):=by
  simp [ei,hD,nE ho hd]
 have ho1:(h++[MO.vw 0 kd])[kd]?=some o:=Ext.app _ _ _ _ ho;have nk:lg≠kd:=fun e=>by
  have:=tk;unfold bA at this;rw [<- e,gl] at this;cases this
 have hc:=DX (js:=[none,some j]) (tg:=gN 0) (tst:=cH (aD vv (aD vAt (mV 0) (mC (.int 0))) (mV 1))) (elt:=mV 0) (δ:=δ) (h:=h) (ys:=R) (emb:=rwP) (fun r=>if c r.1=true then some (rwP r) else none) e0 (Jc aZ ho1 hi) (by rw [ho]; exact hd) ho1 (by omega)
  (fun r hr=>⟨[some (rwP r),some (.ref lg)],by simp [kE,ej],fun h' kk=>by
   have e1:=hv h' r.1 (kk _ _ nk (Ext.app _ _ _ _ gl))
   by_cases c1:c r.1=true
   ·simp [c1,rw0,e1]
   ·simp [c1,rw0,e1]⟩)
 rw [Nk (fun r:List St×Nat=>c r.1) rwP R] at hc;exact hc
def pk (sp:List (List St)) (n:Int):List St:=sp.getD (n % (sp.length:Int)).toNat []
theorem Rt {sp:List (List St)} (h:sp≠[]) (n:Int):atI (sp.map pl) (n % (sp.length:Int))=some (pl (pk sp n)):=by
 have hl:0 < sp.length:=o5.mpr h;have h0:=Int.emod_nonneg n (b:=(sp.length:Int)) (by omega);have h1:=Int.emod_lt_of_pos n (b:=(sp.length:Int)) (by omega);have hi:(n % (sp.length:Int)).toNat < sp.length:=by omega
 unfold pk;rw [tK h0 (by rw [ar]; exact h1),br,gf hi];simp [hi]
def dP (sp:List (List St)) (N:Int):List (List St):=(d0 (1+N % 6).toNat).map fun (k:Nat)=>pk sp (N / 5+(k:Int)*(k:Int)*(N / 31))
def gone (sp:List (List St)) (N:Int):List (List St):=((dP sp N).filter fun p=>decide (p≠[]))++[[⟨1,"zz",1+N % 5,0⟩]]
theorem Gq (sp:List (List St)) (N:Int):(dP sp N).length<=6:=by
 unfold dP;rw [ar,oa];omega
theorem Ru {h:PH} {x0 x1 x3 x5 x6 x7 x8:Option PV} {ls:Nat} {sp:List (List St)} {N:Int} (hN:0<=N/\N < 2147483647) (gs:h[ls]?=some (.lst (sp.map pl))) (h0:sp≠[]) (lsp:sp.length<=1000):
  fN [none,some 2,some 4] (mH (aA (aD bC (mC (.int 1)) (aD dU (mV 4) (mC (.int 6)))) aE)) (gN 0) Ll (aD vAt (mV 1) (aD dU (aD bC (aD iF (mV 2) (mC (.int 5))) (aD oK (aD oK (mV 0) (mV 0)) (aD iF (mV 2) (mC (.int 31))))) (mCB mX (aA (mV 1) aE)))) [x0,x1,some (.ref ls),x3,some (.int N),x5,x6,x7,x8] h=.ok (.ref h.length) (h++[.lst ((dP sp N).map pl)]):=by
 have hl:0 < sp.length:=o5.mpr h0;have hc:=ID (js:=[none,some 2,some 4]) (tg:=gN 0) (tst:=Ll) (elt:=aD vAt (mV 1) (aD dU (aD bC (aD iF (mV 2) (mC (.int 5))) (aD oK (aD oK (mV 0) (mV 0)) (aD iF (mV 2) (mC (.int 31))))) (mCB mX (aA (mV 1) aE)))) (ms:=aA (aD bC (mC (.int 1)) (aD dU (mV 4) (mC (.int 6)))) aE)
  (δ:=[x0,x1,some (.ref ls),x3,some (.int N),x5,x6,x7,x8]) (h:=h) (h1:=h) (j:=1+N % 6) (fun k=>some (pl (pk sp (N / 5+(k:Int)*(k:Int)*(N / 31))))) (by simp (disch:=omega)) (by omega) (fun k hk=>⟨[some (.int k),some (.ref ls),some (.int N)],by simp [kE],fun h' hx=>⟨rfl,by
   have e1:=hx _ _ gs;have e2:=Rt h0 (N / 5+(k:Int)*(k:Int)*(N / 31));simp (disch:=omega) [BA e1,oT e1,e2]⟩⟩)
 rw [hc]
 congr 4
 unfold dP;rw [j4,<- List.filterMap_eq_map];rfl
theorem Rv {h:PH} {δ:Ev} {l:Nat} {g:List (List St)} (lg:g.length<=1000) (e5:lY δ 5=some (.ref l)) (gl:h[l]?=some (.lst (g.map pl))):
  fN [none] (fM (mV 5)) (gN 0) (cH (aD vNe (mV 0) (bG aE))) (mV 0) δ h=.ok (.ref h.length) (h++[.lst ((g.filter fun p=>decide (p≠[])).map pl)]):=by
 have hc:=IC (js:=[none]) (tg:=gN 0) (tst:=cH (aD vNe (mV 0) (bG aE))) (elt:=mV 0) (δ:=δ) (h:=h) (h1:=h) (n:=l) (m:=mV 5) (ys:=g) (emb:=pl) (fun p=>if decide (p≠[])=true then some (pl p) else none) (by simp [e5]) gl (by omega)
  (fun p hp=>⟨[some (pl p)],by simp [kE],fun h' _=>by
   have e1:vNe (pl p) (.tup []) h'=.ok (.bl (!decide (pl p=.tup []))) h':=Ox (Ni p) rfl;have e2:decide (pl p=.tup [])=decide (p=[]):=by
    rw [decide_eq_decide];exact ⟨fun z=>qT (ys:=[]) z,fun z=>by rw [z]; rfl⟩
   rw [e2] at e1
   by_cases c:p=[]
   ·simp [c] at e1;simp [c,e1]
   ·simp [c] at e1;simp [c,e1]⟩)
 rw [Nk (fun p:List St=>decide (p≠[])) pl g] at hc;exact hc
theorem Gr {n:Nat} {h:PH} {xs:List PV} (e:h[n]?=some (.lst xs)):eX [.ref n] h=.ok (.ref h.length) (h++[.lst xs]):=by
 have e0:gW h n=none:=by simp [gW,e]
 have e1:kI h n=none:=by simp [kI,e]
 unfold eX;simp only [e0];unfold vD;simp only [e1];simp [By,rW,aS,e]
theorem M4 {n:Nat} {h:PH} {xs:List PV} (e:h[n]?=some (.lst xs)):uT [.ref n] h=.ok (.tup xs) h:=by
 simp [uT,aS,e]
theorem DY {h:PH} {a d:Nat} {R:List (List St×Nat)} {tb:Str->Option Fn} {f:Fn} (t:kR h a d R) {mm:Str} {n:Nat} {ms:Ma} (htb:tb "Signs" = some f) (hmm:[(("kept" : Str),PV.ref d)].lookup mm=none) {δ:Ev} {mo:Me} (h0:mo δ h=.ok (.ref a) h):eE mm n tb mo ms δ h=(ms δ h).bind fun ps h2=>if ps.length=n then f (.ref a :: ps) h2 else .bad:=
 J5 h0 t.1 htb hmm
theorem kR.ext {h h':PH} {a d:Nat} {R:List (List St×Nat)} (t:kR h a d R) (x:Ext h h'):kR h' a d R:=⟨x _ _ t.1,bN x t.2⟩
theorem Rw {h:PH} {δ:Ev} {l:Nat} {sp:List (List St)} {N:Int} (e5:lY δ 5=some (.ref l)) (e4:lY δ 4=some (.int N)) (gl:h[l]?=some (.lst ((dP sp N).map pl))):
  ∃ h' n,Ext h h'/\h'[n]?=some (.lst ((gone sp N).map pl))/\aD bC (fN [none] (fM (mV 5)) (gN 0) (cH (aD vNe (mV 0) (bG aE))) (mV 0)) (fY (aA (bG (aA (bG (aA (mC (.int 1)) (aA (mC (.str "zz")) (aA (aD bC (mC (.int 1)) (aD dU (mV 4) (mC (.int 5)))) (aA (mC (.int 0)) aE))))) aE)) aE)) δ h=.ok (.ref n) h':=by
 have lg:=Gq sp N;have e1:=Rv (g:=dP sp N) (by omega) e5 gl;have e2:fY (aA (bG (aA (bG (aA (mC (.int 1)) (aA (mC (.str "zz")) (aA (aD bC (mC (.int 1)) (aD dU (mV 4) (mC (.int 5)))) (aA (mC (.int 0)) aE))))) aE)) aE) δ (h++[.lst (((dP sp N).filter fun p=>decide (p≠[])).map pl)])=.ok (.ref (h++[MO.lst (((dP sp N).filter fun p=>decide (p≠[])).map pl)]).length) (h++[.lst (((dP sp N).filter fun p=>decide (p≠[])).map pl)]++[.lst ([[⟨1,"zz",1+N % 5,0⟩]].map pl)]):=by
  simp (disch:=omega) [e4,pl,stp]
 have g1:(h++[MO.lst (((dP sp N).filter fun p=>decide (p≠[])).map pl)])[h.length]?=some (.lst (((dP sp N).filter fun p=>decide (p≠[])).map pl)):=aZ;have x1:=Ext.app h [MO.lst (((dP sp N).filter fun p=>decide (p≠[])).map pl)];generalize h++[MO.lst (((dP sp N).filter fun p=>decide (p≠[])).map pl)]=h1 at e1 e2 g1 x1;have x2:=Ext.app h1 [MO.lst ([([⟨1,"zz",1+N % 5,0⟩]:List St)].map pl)];have g2:(h1++[MO.lst ([([⟨1,"zz",1+N % 5,0⟩]:List St)].map pl)])[h1.length]?=some (.lst ([([⟨1,"zz",1+N % 5,0⟩]:List St)].map pl)):=aZ;generalize h1++[MO.lst ([([⟨1,"zz",1+N % 5,0⟩]:List St)].map pl)]=h2 at e2 x2 g2;have lf:=n6 (fun p:List St=>decide (p≠[])) (dP sp N);have e3:=G7 (x2 _ _ g1) g2 (by rw [ar]; simp only [cy,o7,cz,pe]; omega);have eg:(gone sp N).map pl=((dP sp N).filter fun p=>decide (p≠[])).map pl++[([⟨1,"zz",1+N % 5,0⟩]:List St)].map pl:=by
  unfold gone;rw [jg]
 rw [<- eg] at e3;exact ⟨_,_,(x1.trans x2).trans (Ext.app h2 [MO.lst ((gone sp N).map pl)]),aZ,by rw [oS,e1,Rs.bind_ok,e2,Rs.bind_ok,e3]⟩
noncomputable def cT:Ms:=dY (bG (aA (uS (mCB mY (aA (mV 8) (aA (mC (.ty "list")) aE))) (uS (aD vEq (mV 8) (mV 6)) (aD vEq (mV 7) (mV 5)))) (aA (mV 5) aE)))
theorem Rx {x0 x1 x2 x3 x4:Option PV} {l5 l6 l7 l8:Nat} {h:PH} {E:FE} {g:List (List St)} {os:List (List St×Nat)} (g5:h[l5]?=some (.lst (g.map pl))) (g7:h[l7]?=some (.lst (g.map pl))) (g6:h[l6]?=some (.lst (os.map rwP))) (g8:h[l8]?=some (.lst (os.map rwP))) (k:E.rt (.tup [.bl true,.ref l5]) h):
  (cT [x0,x1,x2,x3,x4,some (.ref l5),some (.ref l6),some (.ref l7),some (.ref l8)] h).W E:=by
 unfold cT;have e1:=A7 g8 g6 (qY os) (qY os);have e2:=A7 g7 g5 (Ar g) (Ar g);rw [decide_eq_true rfl] at e1 e2;have e3:mY [.ref l8,.ty "list"] h=.ok (.bl true) h:=by
  rw [BB g8,if_pos (by decide)];rfl
 simp [e1,e2,e3];exact k
theorem M5 {h:PH} {a d kd ls:Nat} {R:List (List St×Nat)} {sp:List (List St)} (t:kR h a d R) (tk:bA h kd=some (kvR R)) (dk:kd≠d) (gs:h[ls]?=some (.lst (sp.map pl))) (h0:sp≠[]) (lsp:sp.length<=1000) (c:Int) (lR:R.length<=100000) (hp:∀ r∈R,r.1.length<=1000) (nd:(R.map (·.1)).Nodup) (Q:PV->PH->Prop)
  (k:∀ g lg h',(∀ i o,i≠d->h[i]?=some o->h'[i]?=some o)->bA h' d=some (kvR (dF R g))->h'[lg]?=some (.lst (g.map pl))->Q (.tup [.bl true,.ref lg]) h'):(C5 [.ref a,.ref kd,.ref ls,.int c] h).W Q:=by
 refine mB ?_;unfold Jq;rw [bM]; simp;have hN:=vX c 1;generalize mixed c 1=N at hN;refine now ?_;rw [bM,sA,Ru hN gs h0 lsp,mZ];simp only [jo,jq];have x1:=Ext.app h [MO.lst ((dP sp N).map pl)];have g1:(h++[MO.lst ((dP sp N).map pl)])[h.length]?=some (.lst ((dP sp N).map pl)):=aZ;generalize h++[MO.lst ((dP sp N).map pl)]=h1 at x1 g1;refine now ?_;obtain ⟨h2,lg,x2,g2,e2⟩:=Rw (δ:=[some (.ref a),some (.ref kd),some (.ref ls),some (.int c),some (.int N),some (.ref h.length),none,none,none]) (h:=h1) (l:=h.length) (sp:=sp) (N:=N) rfl rfl g1;rw [bM,sA,e2,mZ];simp only [jo,jq];have y2:=x1.trans x2;clear x1 x2 e2 g1;generalize gone sp N=g at g2;have t2:=t.ext y2;refine now ?_;have e3:=zF (δ:=[some (.ref a),some (.ref kd),some (.ref ls),some (.int c),some (.int N),some (.ref lg),none,none,none]) (h:=h2) (i:=1) (j:=5) vA (fun p=>decide (p∈g)) (fun h' p e=>OZ e p) (bN y2 tk) g2 lR rfl rfl;rw [bM,sA,iH,kG,e3,Rs.bind_ok,gS,Rs.bind_ok,Rs.bind_ok,if_pos (by rfl)];have x3:Ext h2 (h2++[MO.vw 0 kd]++[MO.lst ((inR R g).map rwP)]):=(Ext.app _ _).trans (Ext.app _ _);have g3:(h2++[MO.vw 0 kd]++[MO.lst ((inR R g).map rwP)])[(h2++[MO.vw 0 kd]).length]?=some (.lst ((inR R g).map rwP)):=aZ;change Rs.W (dE [.ref (h2++[MO.vw 0 kd]).length] (h2++[MO.vw 0 kd]++[MO.lst ((inR R g).map rwP)])) _;generalize (h2++[MO.vw 0 kd]).length=l3 at g3;generalize h2++[MO.vw 0 kd]++[MO.lst ((inR R g).map rwP)]=h3 at x3 g3;have hpi:∀ r∈inR R g,r.1.length<=1000:=fun r hr=>hp r (o9.mp hr).1;have li:(inR R g).length < 1000000:=by
  have:=n6 (fun r:List St×Nat=>decide (r.1∈g)) R
  show (R.filter _).length < _
  omega
 refine qW (jG g3) li hpi (lL nd) _ fun os h4 l4 x4 _ g4 p4 s4=>?_;simp only [jo,jq];have g24:=x4 _ _ (x3 _ _ g2);have y4:=(y2.trans x3).trans x4;clear x3 x4 g3 g2 e3 t2 y2;refine now ?_;rw [bM];simp [Gr g24];have x5:=Ext.app h4 [MO.lst (g.map pl)];have g5:(h4++[MO.lst (g.map pl)])[h4.length]?=some (.lst (g.map pl)):=aZ;generalize h4.length=l5 at g5;generalize h4++[MO.lst (g.map pl)]=h5 at x5 g5;have y5:=y4.trans x5;have t5:=t.ext y5;have g25:=x5 _ _ g24;have g45:=x5 _ _ g4;have fin:∀ os2 h' l,(∀ i o,i≠d->h5[i]?=some o->h'[i]?=some o)->bA h' d=some (kvR (dF R g))->h5.length<=l->h'[l]?=some (.lst (os2.map rwP))->os2.Perm (inR R g)->SRt os2->(cT [some (.ref a),some (.ref kd),some (.ref ls),some (.int c),some (.int N),some (.ref lg),some (.ref l4),some (.ref l5),some (.ref l)] h').W { nx:=fun _ h=>Q .non h,rt:=Q }:=fun os2 h' l fr td _ gl p s=>by
  have e:os2=os:=SRt.uniq s s4 (p.trans p4.symm) ((p.map il).nodup_iff.mpr (lL nd));subst e;have nl:∀ {n:Nat} {xs:List PV},h5[n]?=some (.lst xs)->n≠d:=fun {n xs} e z=>by
   have:=t5.2;unfold bA at this;rw [<- z,e] at this;cases this
  exact Rx (fr _ _ (nl g25) g25) (fr _ _ (nl g5) g5) (fr _ _ (nl g45) g45) gl (k g lg h' (fun i o hi ho=>fr i o hi (y5 _ _ ho)) td (fr _ _ (nl g25) g25))
 refine now ?_;rw [bM,oR];simp (disch:=omega);have mv:mV 0 [some (PV.ref a),some (.ref kd),some (.ref ls),some (.int c),some (.int N),some (.ref lg),some (.ref l4),some (.ref l5),none] h5=.ok (.ref a) h5:=rfl;split
 ·rw [DY t5 (f:=bK) rfl rfl mv];simp [M4 g5];refine DW t5 lR hp nd g _ (.inl rfl) _ fun os2 h' l a1 a2 a3 a4 a5 a6=>?_;exact now (fin os2 h' l a1 a2 a3 a4 a5 a6)
 ·rw [DY t5 (f:=bK) rfl rfl mv];simp;refine DW t5 lR hp nd g _ (.inr ⟨l5,rfl,g5⟩) _ fun os2 h' l a1 a2 a3 a4 a5 a6=>?_;exact now (fin os2 h' l a1 a2 a3 a4 a5 a6)
theorem wA:∀ R:List (List St×Nat),kL (R.map rwP)=some (kvR R)
 | []=>rfl
 | r :: R=>by
  show kL (.tup [pl r.1,.str ⟨#[r.2]⟩] :: R.map rwP)=_
  unfold kL;rw [if_pos (Fh r.1),wA R];rfl
theorem M6 {R:List (List St×Nat)} {r:List St×Nat} (h:r.1∉R.map (·.1)):gQ R r=R++[r]:=if_neg h
theorem wB:∀ (ts us:List (List St×Nat)),((us++ts).map (·.1)).Nodup->Ag (kvR us) (kvR ts)=kvR (us++ts)
 | [],us,_=>by rw [e7]; rfl
 | x :: ts,us,nd=>by
  show Ag (jS (kvR us) (pl x.1) (.str ⟨#[x.2]⟩)) (kvR ts)=_
  have hno:x.1∉us.map (·.1):=fun z=>by
   rw [jg,List.nodup_append] at nd;exact nd.2.2 _ z _ (by simp) rfl
  rw [Ao,M6 hno];have:=wB ts (us++[x]) (by rw [aq]; exact nd);rw [this,aq];rfl
theorem M7 {h:PH} {n:Nat} {R:List (List St×Nat)} (e:h[n]?=some (.lst (R.map rwP))) (nd:(R.map (·.1)).Nodup):qO [.ref n] h=.ok (.ref h.length) (h++[.dD (kvR R)]):=by
 unfold qO;simp only [e,wA];have:=wB R [] nd;rw [jh] at this;have e0:kvR []=[]:=rfl;rw [e0] at this;rw [this]
theorem JI {R:List (List St×Nat)} {x r:List St×Nat} (h:r∈gQ R x):r∈R\/r=x:=by
 unfold gQ at h;split at h
 ·obtain ⟨q,hq,rfl⟩:=dt.mp h;split
  ·exact .inr rfl
  ·exact .inl hq
 ·rcases bh.mp h with h | h
  ·exact .inl h
  ·exact .inr (c8.mp h)
theorem M8 {R:List (List St×Nat)} {x:List St×Nat} (nd:(R.map (·.1)).Nodup):((gQ R x).map (·.1)).Nodup:=by
 unfold gQ;split
 ·have e:(R.map fun q=>if q.1=x.1 then x else q).map (·.1)=R.map (·.1):=by
   rw [j4];refine mz fun q _=>?_
   show (if q.1=x.1 then x else q).1=q.1
   split
   ·rename_i e; exact e.symm
   ·rfl
  rw [e]; exact nd
 ·rename_i hn;rw [jg,List.nodup_append];refine ⟨nd,by simp,fun a ha b hb e=>?_⟩;rw [cy,o7] at hb;rw [c8.mp hb] at e;exact hn (e ▸ ha)
theorem zG:∀ (l:List (List St×Nat)) {R:List (List St×Nat)} {r:List St×Nat},r∈l.foldl gQ R->r∈R\/r∈l
 | [],_,_,h=>.inl h
 | x :: l,R,r,h=>by
  rcases zG l h with h | h
  ·rcases JI h with h | h
   ·exact .inl h
   ·exact .inr (by rw [h]; exact ax)
  ·exact .inr (ao _ h)
theorem Cc:∀ (l:List (List St×Nat)) {R:List (List St×Nat)},(R.map (·.1)).Nodup->((l.foldl gQ R).map (·.1)).Nodup
 | [],_,h=>h
 | _ :: l,_,h=>Cc l (M8 h)
theorem Gs {u:List St} {s n:Int} {hd w:Str}:(bI u s hd n w).length<=w.length:=by
 unfold bI;rw [List.length_zip,kQ];omega
theorem Cd {u:List St} {s n:Int} {hd w:Str} {r:List St×Nat} (h:r∈bI u s hd n w):r.1.length<=u.length+w.length:=by
 unfold bI at h;have h1:=(List.of_mem_zip h).1;unfold gJ at h1;obtain ⟨k,hk,e⟩:=dt.mp h1;rw [List.mem_range] at hk;rw [<- e,pF];omega
theorem wC {h:PH} {δ:Ev} {i kd:Nat} {R:List (List St×Nat)} (tk:bA h kd=some (kvR R)) (ei:lY δ i=some (.ref kd)) (lR:R.length<=100000):∃ h' n,Ext h h'/\h'[n]?=some (.lst (R.map rwP))/\mCB eX (aA (gO cB bB (mV i)) aE) δ h=.ok (.ref n) h':=by
 obtain ⟨o,ho,hd,hi⟩:=lK tk;rw [qV] at hi;obtain ⟨_,_,hD,_⟩:=cL tk;have e0:gO cB bB (mV i) δ h=.ok (.ref h.length) (h++[.vw 0 kd]):=by
  simp [ei,hD,nE ho hd]
 have e1:=Gd (h:=h++[.vw 0 kd]) aZ (Ext.app _ _ _ _ ho) hi (by rw [ar]; omega);refine ⟨h++[MO.vw 0 kd]++[MO.lst (R.map rwP)],(h++[MO.vw 0 kd]).length,(Ext.app _ _).trans (Ext.app _ _),aZ,?_⟩;rw [Dz,kG,e0,Rs.bind_ok,gS,Rs.bind_ok,Rs.bind_ok,e1]
noncomputable def lT:Ms:=aR (bF 11 (eE "rows" 0 vV (mV 1) aE))
  (aR (jR (A3 (uR (cH (mCB mY (aA (mV 11) (aA (mC (.ty "list")) aE))))) (cH (aD vNe (mV 11) (cQ 1 dE (aA (mCB eX (aA (gO cB bB (mV 2)) aE)) aE)))))
   (dY (mC (.bl false)))
   kC)
  (uV (mMt isL (onL eC) (mV 11) (aA (bG (aA (bG (aA (mC (.int 1)) (aA (mC (.str "a")) (aA (mC (.int 1)) (aA (mC (.int 0)) aE))))) (aA (mC (.str "x")) aE))) aE))))
theorem Ry {x0 x3 x4 x5 x6 x7 x8 x9 x10 x11:Option PV} {h:PH} {a d kd:Nat} {R:List (List St×Nat)} {E:FE} (t:kR h a d R) (tk:bA h kd=some (kvR R)) (lR:R.length<=100000) (hp:∀ r∈R,r.1.length<=1000) (nd:(R.map (·.1)).Nodup)
  (k:∀ h' l,Ext h h'->E.nx [x0,some (.ref a),some (.ref kd),x3,x4,x5,x6,x7,x8,x9,x10,some (.ref l)] h'):(lT [x0,some (.ref a),some (.ref kd),x3,x4,x5,x6,x7,x8,x9,x10,x11] h).W E:=by
 unfold lT;have mv:mV 1 [x0,some (.ref a),some (.ref kd),x3,x4,x5,x6,x7,x8,x9,x10,x11] h=.ok (.ref a) h:=rfl;rw [bM,sA,DY t (f:=bJ) rfl rfl mv,gS,Rs.bind_ok,if_pos (by rfl)];refine Aq t (by omega) hp nd _ fun os h1 l x1 hl g1 p1 s1=>?_;simp only [jo,jq];refine now ?_;obtain ⟨h2,n2,x2,g2,e2⟩:=wC (δ:=[x0,some (.ref a),some (.ref kd),x3,x4,x5,x6,x7,x8,x9,x10,some (.ref l)]) (i:=2) (bN x1 tk) rfl lR;have e3:mY [.ref l,.ty "list"] h1=.ok (.bl true) h1:=by
  rw [BB g1,if_pos (by decide)];rfl
 have w:((A3 (uR (cH (mCB mY (aA (mV 11) (aA (mC (.ty "list")) aE))))) (cH (aD vNe (mV 11) (cQ 1 dE (aA (mCB eX (aA (gO cB bB (mV 2)) aE)) aE))))) [x0,some (.ref a),some (.ref kd),x3,x4,x5,x6,x7,x8,x9,x10,some (.ref l)] h1).W fun b h'=>b=false/\Ext h1 h':=by
  rw [EU,Iu,tJ,Dz];have a3:aA (mV 11) (aA (mC (.ty "list")) aE) [x0,some (.ref a),some (.ref kd),x3,x4,x5,x6,x7,x8,x9,x10,some (.ref l)] h1=.ok [.ref l,.ty "list"] h1:=rfl;rw [a3,Rs.bind_ok,e3,Rs.bind_ok,DA,Rs.bind_ok,Rs.bind_ok];have mv11:mV 11 [x0,some (.ref a),some (.ref kd),x3,x4,x5,x6,x7,x8,x9,x10,some (.ref l)] h1=.ok (.ref l) h1:=rfl;rw [if_neg (by decide),tJ,oS,mv11,Rs.bind_ok,iH,kG,e2,Rs.bind_ok,gS,Rs.bind_ok,Rs.bind_ok,if_pos (by rfl),fS,fS];refine qW (jG g2) (by omega) hp nd _ fun os2 h3 l3 x3 _ g3 p3 s3=>?_;have e:os2=os:=SRt.uniq s3 s1 (p3.trans p1.symm) ((p3.map il).nodup_iff.mpr nd);subst e;have e4:=A8 (x3 _ _ (x2 _ _ g1)) g3 (qY os2) (qY os2);rw [decide_eq_true rfl] at e4;simp [e4];exact x2.trans x3
 obtain ⟨b,h3,e4,rfl,x3'⟩:=uY w;rw [bM,oR,e4,mZ,if_neg (by decide),Na];refine now ?_;have g3:=x3' _ _ g1;have lo:os.length<=100000:=by rw [p1.length_eq]; exact lR
 simp [oU g3,gH g3 (by rw [ar]; omega)];exact k _ _ ((x1.trans x3').setN hl)
structure LI (lc:Nat) (cs:List PV) (a d q:Nat) (R:List (List St×Nat)) (sp:List (List St)) (kd ls:Nat) (h:PH):Prop where
 sg:kR h a d R
 tk:bA h kd=some (kvR R)
 dk:kd≠d
 gs:h[ls]?=some (.lst (sp.map pl))
 sne:sp≠[]
 gc:h[lc]?=some (.lst cs)
 lcs:lc≠ls
 lsp:sp.length<=1+12*q
 hsp:∀ p∈sp,p.length<=12*q
 lR:R.length<=12*q
 hR:∀ r∈R,r.1.length<=12*q
 nd:(R.map (·.1)).Nodup
theorem LI.ext {lc:Nat} {cs:List PV} {a d q:Nat} {R:List (List St×Nat)} {sp:List (List St)} {kd ls:Nat} {h h':PH} (i:LI lc cs a d q R sp kd ls h) (x:Ext h h'):LI lc cs a d q R sp kd ls h':=
 ⟨i.sg.ext x,bN x i.tk,i.dk,x _ _ i.gs,i.sne,x _ _ i.gc,i.lcs,i.lsp,i.hsp,i.lR,i.hR,i.nd⟩
theorem nI {h:PH} {n d:Nat} {xs:List PV} {kvs:List (PV×PV)} (e:h[n]?=some (.lst xs)) (t:bA h d=some kvs):n≠d:=fun z=>by
 unfold bA at t;rw [<- z,e] at t;cases t
theorem As {h:PH} {a d:Nat} {R:List (List St×Nat)} (t:kR h a d R) {k:Nat} {kvs:List (PV×PV)} (e:bA h k=some kvs):a≠k:=fun z=>by
 unfold bA at e;rw [<- z,t.1] at e;cases e
theorem JJ {h:PH} {n:Nat} {kvs:List (PV×PV)} (t:bA h n=some kvs):n < h.length:=let ⟨_,ho,_⟩:=lK t; (af.mp ho).1
noncomputable def lC:Ms:=aR (uU (cQ 4 C5 (aA (mV 1) (aA (mV 2) (aA (mV 3) (aA (aD iF (mV 5) (mC (.int 4))) aE))))) (gTp 2 (gCn (gN 6) (gCn (gN 7) gNl))))
   (aR (jR (uR (cH (mV 6)))
    (dY (mC (.bl false)))
    kC)
   (bF 2 (mCB qO (aA (jE true (gO cB bB (mV 2)) (fN [none,some 7] (oZ true (gO cB bB (mV 2))) (gN 0) (cH (aD gU (aD vAt (mV 0) (mC (.int 0))) (mV 1))) (mV 0))) aE))))
theorem Rz {lc:Nat} {cs:List PV} {a d q:Nat} {R:List (List St×Nat)} {sp:List (List St)} {kd ls:Nat} {h:PH} (i:LI lc cs a d q R sp kd ls h) (hq:q < 24) {x0 x4 x6 x7 x8 x9 x10 x11:Option PV} {c:Int} {E:FE}
  (k:∀ R kd x6 x7 h',LI lc cs a d (q+1) R sp kd ls h'->E.nx [x0,some (.ref a),some (.ref kd),some (.ref ls),x4,some (.int c),x6,x7,x8,x9,x10,x11] h'):
  (lC [x0,some (.ref a),some (.ref kd),some (.ref ls),x4,some (.int c),x6,x7,x8,x9,x10,x11] h).W E:=by
 unfold lC;have l1:=i.lR;have l2:=i.lsp;have hp:∀ r∈R,r.1.length<=1000:=fun r hr=>by have:=i.hR r hr; omega
 have hargs:aA (mV 1) (aA (mV 2) (aA (mV 3) (aA (aD iF (mV 5) (mC (.int 4))) aE))) [x0,some (.ref a),some (.ref kd),some (.ref ls),x4,some (.int c),x6,x7,x8,x9,x10,x11] h=.ok [.ref a,.ref kd,.ref ls,.int (c / 4)] h:=by
  simp (disch:=omega)
 rw [bM,QP,iH,hargs,Rs.bind_ok,if_pos (by rfl)];refine M5 i.sg i.tk i.dk i.gs i.sne (by omega) (c / 4) (by omega) hp i.nd _ fun g lg h1 fr td gl=>?_;refine ⟨[x0,some (.ref a),some (.ref kd),some (.ref ls),x4,some (.int c),some (.bl true),some (.ref lg),x8,x9,x10,x11],by simp,?_⟩;refine now ?_;rw [bM,oR];simp;refine now ?_;have tk1:bA h1 kd=some (kvR R):=by
  obtain ⟨o,ho,_,hh⟩:=cL i.tk;exact hh _ (fr _ _ i.dk ho)
 have e3:=zF (δ:=[x0,some (.ref a),some (.ref kd),some (.ref ls),x4,some (.int c),some (.bl true),some (.ref lg),x8,x9,x10,x11]) (h:=h1) (i:=2) (j:=7) gU (fun p=>decide (p∉g)) (fun h' p e=>Gp e p) tk1 gl (by omega) rfl rfl;have x3:Ext h1 (h1++[MO.vw 0 kd]++[MO.lst ((dF R g).map rwP)]):=(Ext.app _ _).trans (Ext.app _ _);have g3:(h1++[MO.vw 0 kd]++[MO.lst ((dF R g).map rwP)])[(h1++[MO.vw 0 kd]).length]?=some (.lst ((dF R g).map rwP)):=aZ;change jE _ _ _ _ _=.ok (.ref (h1++[MO.vw 0 kd]).length) (h1++[MO.vw 0 kd]++[MO.lst ((dF R g).map rwP)]) at e3;generalize (h1++[MO.vw 0 kd]).length=l3 at e3 g3;generalize h1++[MO.vw 0 kd]++[MO.lst ((dF R g).map rwP)]=h3 at e3 x3 g3;have nd3:((dF R g).map (·.1)).Nodup:=lL i.nd;rw [sA,Dz,kG,e3,Rs.bind_ok,gS,Rs.bind_ok,Rs.bind_ok,M7 g3 nd3,mZ];simp only [jo,jq];have x4':=x3.trans (Ext.app h3 [MO.dD (kvR (dF R g))]);have tk4:bA (h3++[MO.dD (kvR (dF R g))]) h3.length=some (kvR (dF R g)):=F0 aZ;have a1:=nI i.gs i.sg.2;have a2:=nI i.gc i.sg.2;have a3:=As i.sg i.sg.2;have a4:=JJ td;have a5:=x3.len;have a6:(dF R g).length<=R.length:=n6 _ _;exact k _ _ _ _ _ ⟨⟨x4' _ _ (fr _ _ a3 i.sg.1),bN x4' td⟩,tk4,by omega,x4' _ _ (fr _ _ a1 i.gs),i.sne,x4' _ _ (fr _ _ a2 i.gc),i.lcs,by omega,fun p hp=>by have:=i.hsp p hp; omega,by omega,fun r hr=>by have:=i.hR r (o9.mp hr).1; omega,nd3⟩
noncomputable def lW:Ms:=aR (bF 8 (cQ 3 vT (aA (mV 5) (aA (mV 4) (aA (mV 3) aE)))))
   (aR (uV (eE "write" 1 vU (mV 1) (aA (mV 8) aE)))
   (aR (bF 4 (aD bC (mV 4) (mC (.int 1))))
   (hU (fM (cQ 1 fA (aA (mV 8) aE))) (gTp 2 (gCn (gN 9) (gCn (gN 10) gNl))) Am)))
def spP (sp:List (List St)) (l:List (List St×Nat)):List PV:=(sp++l.map (·.1)).map pl
theorem JK (sp:List (List St)) (l:List (List St×Nat)) (z:List St×Nat):spP sp (l++[z])=spP sp l++[pl z.1]:=by simp [spP]
theorem M9 (sp:List (List St)) (l:List (List St×Nat)):(spP sp l).length=sp.length+l.length:=by simp [spP]
theorem RA {lc:Nat} {cs:List PV} {a d q:Nat} {R:List (List St×Nat)} {sp:List (List St)} {kd ls:Nat} {h:PH} (i:LI lc cs a d q R sp kd ls h) (hq:q < 24) {x0 x6 x7 x8 x9 x10 x11:Option PV} {c n:Int} {E:FE}
  (k:∀ R sp n x8 x9 x10 h',LI lc cs a d (q+1) R sp kd ls h'->E.nx [x0,some (.ref a),some (.ref kd),some (.ref ls),some (.int n),some (.int c),x6,x7,x8,x9,x10,x11] h'):
  (lW [x0,some (.ref a),some (.ref kd),some (.ref ls),some (.int n),some (.int c),x6,x7,x8,x9,x10,x11] h).W E:=by
 unfold lW;have l1:=i.lR;have l2:=i.lsp;rw [bM,sA];have hargs:aA (mV 5) (aA (mV 4) (aA (mV 3) aE)) [x0,some (.ref a),some (.ref kd),some (.ref ls),some (.int n),some (.int c),x6,x7,x8,x9,x10,x11] h=.ok [.int c,.int n,.ref ls] h:=rfl;rw [iH,hargs,Rs.bind_ok,if_pos (by rfl)];refine LX c n ls sp h _ i.gs i.sne (by omega) fun hd sn u s w h1 x1 hu hs lh w1 w12 asc=>?_;simp only [jo,jq];have lu:=i.hsp u hu;have i1:=i.ext x1;refine now ?_;have mv:mV 1 [x0,some (.ref a),some (.ref kd),some (.ref ls),some (.int n),some (.int c),x6,x7,some (wr hd n sn u s w),x9,x10,x11] h1=.ok (.ref a) h1:=rfl;have hargs2:∀ (m:Int) (hh:PH),aA (mV 8) aE [x0,some (.ref a),some (.ref kd),some (.ref ls),some (.int m),some (.int c),x6,x7,some (wr hd n sn u s w),x9,x10,x11] hh=.ok [wr hd n sn u s w] hh:=fun _ _=>rfl;rw [bM,QQ,DY i1.sg (f:=cM) rfl rfl mv,hargs2,Rs.bind_ok,if_pos (by rfl)];refine JH i1.sg (by omega) u s n hd w sn (by omega) w1 w12 asc _ fun h2 fr td=>?_;refine now ?_;rw [bM,sA];have e4:aD bC (mV 4) (mC (.int 1)) [x0,some (.ref a),some (.ref kd),some (.ref ls),some (.int n),some (.int c),x6,x7,some (wr hd n sn u s w),x9,x10,x11] h2=.ok (.int (n+1)) h2:=by simp
 rw [e4,mZ];simp only [jo,jq];refine now ?_;have ew:fA [wr hd n sn u s w] h2=.ok (.ref h2.length) (h2++[.lst ((bI u s hd n w).map rwP)]):=by
  have:=DU u s n hd w sn h2 (fun p h'=>p=.ref h2.length/\h'=h2++[.lst ((bI u s hd n w).map rwP)]) (by omega) w12 ⟨rfl,rfl⟩;obtain ⟨p,h',e,rfl,rfl⟩:=uY this;exact e
 have em:cQ 1 fA (aA (mV 8) aE) [x0,some (.ref a),some (.ref kd),some (.ref ls),some (.int (n+1)),some (.int c),x6,x7,some (wr hd n sn u s w),x9,x10,x11] h2=.ok (.ref h2.length) (h2++[.lst ((bI u s hd n w).map rwP)]):=by
  rw [iH,hargs2,Rs.bind_ok,if_pos (by rfl),ew]
 have x3:=Ext.app h2 [MO.lst ((bI u s hd n w).map rwP)];have g3:(h2++[MO.lst ((bI u s hd n w).map rwP)])[h2.length]?=some (.lst ((bI u s hd n w).map rwP)):=aZ;have a1:=nI i1.gs i1.sg.2;have a2:=nI i1.gc i1.sg.2;have a3:=As i1.sg i1.sg.2;have a4:=As i1.sg i1.tk;have tk2:bA h2 kd=some (kvR R):=by
  obtain ⟨o,ho,_,hh⟩:=cL i1.tk;exact hh _ (fr _ _ i1.dk ho)
 have gs2:=fr _ _ a1 i1.gs;have gc2:=fr _ _ a2 i1.gc;have ga2:=fr _ _ a3 i1.sg.1;have b1:ls≠h2.length:=ba (af.mp gs2).1;have b2:kd≠h2.length:=ba (JJ tk2);have b3:=nI i1.gs i1.tk;have lw:=Gs (u:=u) (s:=s) (n:=n) (hd:=hd) (w:=w);have b4:a≠ls:=fun z=>by
  rw [z,gs2] at ga2;cases ga2
 have td3:=bN x3 td;have tk3:=bN x3 tk2;have gs3:=x3 _ _ gs2;have gc3:=x3 _ _ gc2;have ga3:=x3 _ _ ga2;generalize h2++[MO.lst ((bI u s hd n w).map rwP)]=h3 at em g3 td3 tk3 gs3 gc3 ga3;refine DC (n:=h2.length) (xs:=(bI u s hd n w).map rwP) (h1:=h3) (fun r δ h'=>(∀ i o,i≠kd->i≠ls->h3[i]?=some o->h'[i]?=some o)/\bA h' kd=some (kvR (((bI u s hd n w).take r).foldl gQ R))/\h'[ls]?=some (.lst (spP sp ((bI u s hd n w).take r)))/\∃ x9 x10,δ=[x0,some (.ref a),some (.ref kd),some (.ref ls),some (.int (n+1)),some (.int c),x6,x7,some (wr hd n sn u s w),x9,x10,x11]) em g3 ⟨fun _ _ _ _ e=>e,tk3,by simpa [spP] using gs3,_,_,rfl⟩ ?_ ?_ ?_
 ·rintro r δ h' _ ⟨k1,_⟩;exact k1 _ _ (ik b2) (ik b1) g3
 ·rintro r x δ h' hx ⟨k1,k2,k3,x9',x10',rfl⟩;rw [br] at hx;obtain ⟨z,hz,rfl⟩:=df.mp hx;have hr:=(af.mp hz).1;refine ⟨[x0,some (.ref a),some (.ref kd),some (.ref ls),some (.int (n+1)),some (.int c),x6,x7,some (wr hd n sn u s w),some (pl z.1),some (.str ⟨#[z.2]⟩),x11],by simp [rwP],?_⟩;have htk:(bI u s hd n w).take (r+1)=(bI u s hd n w).take r++[z]:=by rw [ll,hz]; rfl
  have f1:=qU ((bI u s hd n w).take r) R;rw [bq] at f1;have p1:oY (.ref kd) (pl z.1) (.str ⟨#[z.2]⟩) h'=some (h'.set kd (.dD (jS (kvR (((bI u s hd n w).take r).foldl gQ R)) (pl z.1) (.str ⟨#[z.2]⟩)))):=F5 k2 (Fg _) (by simp [kvR]; omega);rw [Ao] at p1;have g4:(h'.set kd (.dD (kvR (gQ (((bI u s hd n w).take r).foldl gQ R) z))))[ls]?=some (.lst (spP sp ((bI u s hd n w).take r))):=by
   rw [cj (ik b3)]; exact k3
  have ap:=gH (p:=pl z.1) g4 (by rw [M9,bq]; omega);unfold Am;simp [iZ,p1,oU g4,ap];refine ⟨fun j o h1' h2' ho=>by rw [cj (ik h2'),cj (ik h1')]; exact k1 j o h1' h2' ho,?_,?_⟩
  ·have e5:=Ap (kvs':=kvR (((bI u s hd n w).take (r+1)).foldl gQ R)) k2;obtain ⟨o,ho,_,hh⟩:=cL e5;refine hh _ ?_;rw [cj b3];rw [htk,List.foldl_append] at ho;simpa using ho
  ·rw [htk,JK];exact DD g4
 ·rintro δ h' ⟨k1,k2,k3,x9',x10',rfl⟩;rw [ar,List.take_length] at k2 k3;have td4:bA h' d=some (kvR ((bI u s hd n w).foldl gQ R)):=by
   obtain ⟨o,ho,_,hh⟩:=cL td3;exact hh _ (k1 _ _ (ik i.dk) (ik a1) ho)
  have f1:=qU (bI u s hd n w) R;refine k _ _ _ _ _ _ h' ⟨⟨k1 _ _ a4 b4 ga3,td4⟩,k2,i.dk,k3,?_,k1 _ _ (nI gc3 tk3) i.lcs gc3,i.lcs,?_,fun p hp=>?_,by omega,fun r hr=>?_,Cc _ i.nd⟩
  ·intro z;exact i.sne (List.append_eq_nil_iff.mp z).1
  ·rw [bo,ar]; omega
  ·rcases bh.mp hp with hp | hp
   ·have:=i.hsp p hp; omega
   ·obtain ⟨r,hr,rfl⟩:=dt.mp hp;have:=Cd hr;omega
  ·rcases zG _ hr with hr | hr
   ·have:=i.hR r hr; omega
   ·have:=Cd hr;omega
theorem Mb {n:Nat} {h:PH} (g:h[n]?=some (.ins "Signs" [])):bR [.ref n] h=.ok .non ((h++[MO.dK []]).set n (.ins "Signs" [("kept",.ref h.length)])):=by
 have w:(bR [.ref n] h).W fun p h'=>p=.non/\h'=(h++[MO.dK []]).set n (.ins "Signs" [("kept",.ref h.length)]):=by
  refine mB ?_;have g':=Ext.app h [MO.dK []] _ _ g;simp [eY,J4 g',G8]
 obtain ⟨p,h',e,rfl,rfl⟩:=uY w;exact e
theorem Mc {lc:Nat} {cs:List PV} {a d q:Nat} {R:List (List St×Nat)} {sp:List (List St)} {kd ls:Nat} {h:PH} (i:LI lc cs a d q R sp kd ls h) (hq:q < 24) {x0 x6 x7 x8 x9 x10 x11:Option PV} {c n:Int} {E:FE}
  (k:∀ R sp kd n x6 x7 x8 x9 x10 x11 h',LI lc cs a d (q+1) R sp kd ls h'->E.nx [x0,some (.ref a),some (.ref kd),some (.ref ls),some (.int n),some (.int c),x6,x7,x8,x9,x10,x11] h'):
  (tN [x0,some (.ref a),some (.ref kd),some (.ref ls),some (.int n),some (.int c),x6,x7,x8,x9,x10,x11] h).W E:=by
 have tail:∀ {R sp kd n x6 x7 x8 x9 x10 x11} {h':PH},LI lc cs a d (q+1) R sp kd ls h'->Lt lT E [x0,some (.ref a),some (.ref kd),some (.ref ls),some (.int n),some (.int c),x6,x7,x8,x9,x10,x11] h':=fun {R sp kd n x6 x7 x8 x9 x10 x11 h'} j=>by
  refine now ?_;have l1:=j.lR;exact Ry j.sg j.tk (by omega) (fun r hr=>by have:=j.hR r hr; omega) j.nd fun h2 l x2=>k _ _ _ _ _ _ _ _ _ _ _ (j.ext x2)
 unfold tN;rw [bM,oR];have e0:cH (aD vEq (aD dU (mV 5) (mC (.int 4))) (mC (.int 3))) [x0,some (.ref a),some (.ref kd),some (.ref ls),some (.int n),some (.int c),x6,x7,x8,x9,x10,x11] h=.ok (decide (c % 4=3)) h:=by
  simp (disch:=omega)
 rw [e0,mZ]
 by_cases hc:c % 4=3
 ·rw [if_pos (decide_eq_true hc)];exact Rz i hq fun R kd x6 x7 h' j=>tail j
 ·rw [if_neg (by simpa using hc)]
  exact RA i hq fun R sp n x8 x9 x10 h' j=>tail j
noncomputable def lE:Ms:=dY (aD vEq (eE "rows" 0 vW (mV 1) aE) (cQ 1 dE (aA (mCB eX (aA (gO cB bB (mV 2)) aE)) aE)))
theorem RB {lc:Nat} {cs:List PV} {a d q:Nat} {R:List (List St×Nat)} {sp:List (List St)} {kd ls:Nat} {h:PH} (i:LI lc cs a d q R sp kd ls h) (hq:q<=24) {x0 x3 x4 x5 x6 x7 x8 x9 x10 x11:Option PV} {E:FE} (k:∀ h',E.rt (.bl true) h'):
  (lE [x0,some (.ref a),some (.ref kd),x3,x4,x5,x6,x7,x8,x9,x10,x11] h).W E:=by
 unfold lE;have l1:=i.lR;have hp:∀ r∈R,r.1.length<=1000:=fun r hr=>by have:=i.hR r hr; omega
 have mv:mV 1 [x0,some (.ref a),some (.ref kd),x3,x4,x5,x6,x7,x8,x9,x10,x11] h=.ok (.ref a) h:=rfl;rw [ET,oS,fS,DY i.sg (f:=bJ) rfl rfl mv,gS,Rs.bind_ok,if_pos (by rfl)];refine Aq i.sg (by omega) hp i.nd _ fun os h1 l x1 hl g1 p1 s1=>?_;obtain ⟨h2,n2,x2,g2,e2⟩:=wC (δ:=[x0,some (.ref a),some (.ref kd),x3,x4,x5,x6,x7,x8,x9,x10,x11]) (i:=2) (bN x1 i.tk) rfl (by omega);rw [fS,iH,kG,e2,Rs.bind_ok,gS,Rs.bind_ok,Rs.bind_ok,if_pos (by rfl)];refine qW (jG g2) (by omega) hp i.nd _ fun os2 h3 l3 x3' _ g3 p3 s3=>?_;have e:os2=os:=SRt.uniq s3 s1 (p3.trans p1.symm) ((p3.map il).nodup_iff.mpr i.nd);subst e;have e4:=A7 (x3' _ _ (x2 _ _ g1)) g3 (qY os2) (qY os2);rw [decide_eq_true rfl] at e4;rw [e4,mZ];exact k _
noncomputable def lM:Ms:=aR (jR (A3 (cH (aD vNe (eE "rows" 0 pD (mV 1) aE) (fY aE))) (cH (aD vNe (eE "cut" 1 pC (mV 1) (aA (fY (aA (bG (aA (bG (aA (mC (.int 1)) (aA (mC (.str "a")) (aA (mC (.int 1)) (aA (mC (.int 0)) aE))))) aE)) aE)) aE)) (fY aE))))
  (dY (mC (.bl false)))
  kC)
 (aR (hU (fM (mSl (mV 0) Ii (mP (mC (.int 24))))) (gN 5) tN) lE)
theorem Md {δ:Ev} {h:PH} {a d kd ls:Nat} (e1:∀ h:PH,mV 1 δ h=.ok (.ref a) h) (t:kR h a d []) (tk:bA h kd=some (kvR [])) (dk:kd≠d) (gs:h[ls]?=some (.lst [pl []])):
  ((A3 (cH (aD vNe (eE "rows" 0 pD (mV 1) aE) (fY aE))) (cH (aD vNe (eE "cut" 1 pC (mV 1) (aA (fY (aA (bG (aA (bG (aA (mC (.int 1)) (aA (mC (.str "a")) (aA (mC (.int 1)) (aA (mC (.int 0)) aE))))) aE)) aE)) aE)) (fY aE)))) δ h).W fun b h'=>b=false/\kR h' a d []/\bA h' kd=some (kvR [])/\h'[ls]?=some (.lst [pl []]):=by
 rw [EU,fS,tJ,fS,oS,fS,DY t (f:=bJ) rfl rfl (e1 h),gS,Rs.bind_ok,if_pos (by rfl)];refine Aq t (by simp) (fun r hr=>by cases hr) (by simp) _ fun os h1 l x1 _ g1 p1 _=>?_;have eo:os=[]:=List.perm_nil.mp p1;subst eo;have n1:=A8 (Ext.app h1 [MO.lst []] _ _ g1) aZ rfl rfl;have x2:=x1.trans (Ext.app h1 [MO.lst []]);have l2:fY aE δ h1=.ok (.ref h1.length) (h1++[.lst []]):=by simp
 rw [l2,Rs.bind_ok,n1,mZ];generalize h1++[MO.lst []]=h2 at x2;have t2:=t.ext x2;simp only [DA,mZ];rw [if_neg (by simp)];have l3:aA (fY (aA (bG (aA (bG (aA (mC (.int 1)) (aA (mC (.str "a")) (aA (mC (.int 1)) (aA (mC (.int 0)) aE))))) aE)) aE)) aE δ h2=.ok [.ref h2.length] (h2++[.lst ([[⟨1,"a",1,0⟩]].map pl)]):=by
  simp [pl,stp]
 have x3:=x2.trans (Ext.app h2 [MO.lst ([([⟨1,"a",1,0⟩]:List St)].map pl)]);have g3:(h2++[MO.lst ([([⟨1,"a",1,0⟩]:List St)].map pl)])[h2.length]?=some (.lst ([([⟨1,"a",1,0⟩]:List St)].map pl)):=aZ;rw [tJ,fS,oS,fS,DY t2 (f:=bK) rfl rfl (e1 h2),l3,Rs.bind_ok,if_pos (by rfl)];generalize h2++[MO.lst ([([⟨1,"a",1,0⟩]:List St)].map pl)]=h3 at x3 g3;have t3:=t.ext x3;refine DW t3 (by simp) (fun r hr=>by cases hr) (by simp) [[⟨1,"a",1,0⟩]] _ (.inr ⟨_,rfl,g3⟩) _ fun os h4 l4 fr td _ g4 p4 _=>?_;have eo:os=[]:=List.perm_nil.mp p4;subst eo;have n4:=A8 (Ext.app h4 [MO.lst []] _ _ g4) aZ rfl rfl;have x5:=Ext.app h4 [MO.lst []];have l5:fY aE δ h4=.ok (.ref h4.length) (h4++[.lst []]):=by simp
 rw [l5,Rs.bind_ok,n4,mZ];simp only [DA,mZ];have gs3:=x3 _ _ gs;have tk4:bA h4 kd=some (kvR []):=by
  obtain ⟨o,ho,_,hh⟩:=cL (bN x3 tk);exact hh _ (fr _ _ dk ho)
 exact ⟨by simp,⟨x5 _ _ (fr _ _ (As t3 t3.2) t3.1),bN x5 td⟩,bN x5 tk4,x5 _ _ (fr _ _ (nI gs3 t3.2) gs3)⟩
theorem Nl {ns:List Int} {h:PH} {a d kd ls:Nat} {n:Int} {x5 x6 x7 x8 x9 x10 x11:Option PV} {E:FE} (t:kR h a d []) (tk:bA h kd=some (kvR [])) (dk:kd≠d) (gs:h[ls]?=some (.lst [pl []])) (k:∀ h',E.rt (.bl true) h'):
  (lM [some (.fl (ns.map PV.int)),some (.ref a),some (.ref kd),some (.ref ls),some (.int n),x5,x6,x7,x8,x9,x10,x11] h).W E:=by
 unfold lM;obtain ⟨b,h1,e1,rfl,t1,tk1,gs1⟩:=uY (Md (δ:=[some (.fl (ns.map PV.int)),some (.ref a),some (.ref kd),some (.ref ls),some (.int n),x5,x6,x7,x8,x9,x10,x11]) (fun _=>rfl) t tk dk gs);rw [bM,oR,e1,mZ,if_neg (by decide),Na];refine now ?_;rw [bM];have e8:mSl (mV 0) Ii (mP (mC (.int 24))) [some (.fl (ns.map PV.int)),some (.ref a),some (.ref kd),some (.ref ls),some (.int n),x5,x6,x7,x8,x9,x10,x11] h1=.ok (.ref h1.length) (h1++[.lst ((gZ ns none (some 24)).map PV.int)]):=by
  simp [Ls]
 have g8:(h1++[MO.lst ((gZ ns none (some 24)).map PV.int)])[h1.length]?=some (.lst ((gZ ns none (some 24)).map PV.int)):=aZ;have x8':Ext h1 (h1++[MO.lst ((gZ ns none (some 24)).map PV.int)]):=Ext.app _ _;generalize h1++[MO.lst ((gZ ns none (some 24)).map PV.int)]=hG at e8 g8 x8';have lcs:(gZ ns none (some 24)).length<=24:=by rw [OA (by omega),bq]; exact Nat.min_le_left _ _
 generalize gZ ns none (some 24)=cs at e8 g8 lcs;have nl:h1.length≠ls:=ft (af.mp gs1).1;refine DC (n:=h1.length) (xs:=cs.map PV.int) (h1:=hG) (fun q δ h'=>∃ R sp kd n x5 x6 x7 x8 x9 x10 x11,LI h1.length (cs.map PV.int) a d q R sp kd ls h'/\δ=[some (.fl (ns.map PV.int)),some (.ref a),some (.ref kd),some (.ref ls),some (.int n),x5,x6,x7,x8,x9,x10,x11]) e8 g8 ⟨[],[[]],kd,n,_,_,_,_,_,_,_,⟨t1.ext x8',bN x8' tk1,dk,x8' _ _ gs1,by simp,g8,nl,by simp,by simp,by simp,(fun r hr=>by cases hr),by simp⟩,rfl⟩ ?_ ?_ ?_
 ·rintro q δ h' _ ⟨R,sp,kd,n,x5,x6,x7,x8,x9,x10,x11,i,rfl⟩;exact i.gc
 ·rintro q x δ h' hx ⟨R,sp,kd,n,x5,x6,x7,x8,x9,x10,x11,i,rfl⟩;rw [br] at hx;obtain ⟨c,hc,rfl⟩:=df.mp hx;have hq:=(af.mp hc).1;refine ⟨_,rfl,?_⟩;exact Mc i (by omega) fun R sp kd n x6 x7 x8 x9 x10 x11 h' j=>⟨R,sp,kd,n,_,x6,x7,x8,x9,x10,x11,j,rfl⟩
 ·rintro δ h' ⟨R,sp,kd,n,x5,x6,x7,x8,x9,x10,x11,i,rfl⟩;refine now ?_;rw [ar] at i;exact RB i lcs k
theorem P0 {x:Int} {xs:List Int} {δ:Ev} {h:PH} (e0:lY δ 0=some (.fl ((x :: xs).map PV.int))):∃ (z:Int) (h':PH),Ext h h'/\aD bC (mC (.int 1)) (aD dU (aD vAt (mV 0) (mUn I0 (mC (.int 1)))) (aD vAt (fY (aA (mC (.int 2)) (aA (aD Oe (mC (.int 10)) (mC (.int 11))) aE))) (aD dU (aD vAt (mV 0) (mC (.int 0))) (mC (.int 2))))) δ h=.ok (.int z) h':=by
 obtain ⟨y,hy⟩:∃ y:Int,atI ((x :: xs).map PV.int) (-1)=some (.int y):=by
  rcases List.eq_nil_or_concat (x :: xs) with e | ⟨l,y,e⟩
  ·cases e
  ·rw [e,List.concat_eq_append,jg];exact ⟨y,Iw⟩
 have h0:atI ((x :: xs).map PV.int) 0=some (.int x):=A1 (i:=0) rfl;obtain ⟨z,z0,ez⟩:∃ z:Int,0 < z/\atI [PV.int 2,PV.int 100000000000] (x % 2)=some (.int z):=by
  have:x % 2=0\/x % 2=1:=by omega
  rcases this with e | e <;> rw [e]
  ·exact ⟨2,by decide,rfl⟩
  ·exact ⟨100000000000,by decide,rfl⟩
 generalize (x :: xs).map PV.int=zs at e0 hy h0;have g:(h++[MO.lst [PV.int 2,PV.int 100000000000]])[h.length]?=some (.lst [PV.int 2,PV.int 100000000000]):=aZ;refine ⟨1+y % z,h++[MO.lst [PV.int 2,PV.int 100000000000]],Ext.app _ _,?_⟩;simp (disch:=omega) [e0,hy,h0,oT g,ez]
theorem main (ns:List Int) (hl:ns.length<=63):∃ h,Js [.fl (ns.map PV.int)] []=.ok (.bl true) h:=by
 have w:(Js [.fl (ns.map PV.int)] []).W fun p _=>p=.bl true:=by
  refine mB ?_;unfold Jr;rw [bM];have ei:=Mb (n:=0) (h:=[MO.ins "Signs" []]) rfl;simp [ei];refine now ?_;rw [bM];simp;refine now ?_;rw [bM];simp;refine now ?_;rw [bM];simp;refine now ?_;rw [bM,oR];cases ns with
  | nil=>
   simp;refine now ?_;exact Nl (ns:=[]) (d:=1) ⟨rfl,rfl⟩ rfl (by decide) rfl fun _=>rfl
  | cons x xs=>
   have c0:cH (aD vGt (mCB mX (aA (mV 0) aE)) (mC (.int 0))) [some (.fl ((x :: xs).map PV.int)),some (.ref 0),some (.ref 2),some (.ref 3),some (.int 1),none,none,none,none,none,none,none] [MO.ins "Signs" [("kept",.ref 1)],.dK [],.dK [],.lst [.tup []]]=.ok true [MO.ins "Signs" [("kept",.ref 1)],.dK [],.dK [],.lst [.tup []]]:=by
    simp
   rw [c0,mZ,if_pos (by rfl),sA];obtain ⟨z,h',hx,e⟩:=P0 (x:=x) (xs:=xs) (δ:=[some (.fl ((x :: xs).map PV.int)),some (.ref 0),some (.ref 2),some (.ref 3),some (.int 1),none,none,none,none,none,none,none]) (h:=[MO.ins "Signs" [("kept",.ref 1)],.dK [],.dK [],.lst [.tup []]]) rfl;rw [e,mZ];refine now ?_;exact Nl (ns:=x :: xs) (d:=1) ⟨hx 0 _ rfl,bN hx (n:=1) rfl⟩ (bN hx (n:=2) rfl) (by decide) (hx 3 _ rfl) fun _=>rfl
 obtain ⟨p,h,e,rfl⟩:=uY w;exact ⟨h,e⟩
end K36
namespace K36
open PySem L2
def top (i:Nat):Stmt:=PySem.Challenge.pw_copymeet_k36_signs_kept.main.body.getD i (.Pass ⟨0,0,0,0⟩)
abbrev bsL:List Str:=["len","range","zip","sorted","list","tuple","isinstance","dict"]
abbrev cC (w:World) (K:ag) (cl:Str->Option Addr):MC:=⟨K,cl,bsL,fun _ _ _=>False,w⟩
abbrev lN:Stmt:=top 0
theorem JL:bE ["k"] ["k"] (aF lN):=⟨rfl,rfl,rfl,by decide +kernel,rfl,by decide +kernel,by decide +kernel⟩
abbrev gB:Stmt:=top 2
theorem DZ:bE ["place"] ["place"] (aF gB):=⟨rfl,rfl,rfl,by decide +kernel,rfl,by decide +kernel,by decide +kernel⟩
abbrev fB:Stmt:=top 3
theorem Ce:bE ["row"] ["row"] (aF fB):=⟨rfl,rfl,rfl,by decide +kernel,rfl,by decide +kernel,by decide +kernel⟩
abbrev fC:Stmt:=top 4
theorem fP:bE ["spot","name","under","side","hand","n"] ["spot","name"] (aF fC):=⟨rfl,rfl,rfl,by decide +kernel,rfl,by decide +kernel,by decide +kernel⟩
abbrev dQ:Stmt:=top 5
theorem aV:bE ["deed","name","seen","act","word","thing","under","side","signs","hand","n","places","k"] ["deed"] (aF dQ):=⟨rfl,rfl,rfl,by decide +kernel,rfl,by decide +kernel,by decide +kernel⟩
abbrev bS:Stmt:=inClass (top 7) 0
theorem pG:bE ["self"] ["self"] (aF bS):=⟨rfl,rfl,rfl,by decide +kernel,rfl,by decide +kernel,by decide +kernel⟩
abbrev cN:Stmt:=inClass (top 7) 1
theorem eG:bE ["self","deed","signs","place","sign"] ["self","deed"] (aF cN):=⟨rfl,rfl,rfl,by decide +kernel,rfl,by decide +kernel,by decide +kernel⟩
abbrev dR:Stmt:=inClass (top 7) 2
theorem jJ:bE ["self","places","gone","place"] ["self","places"] (aF dR):=⟨rfl,rfl,rfl,by decide +kernel,rfl,by decide +kernel,by decide +kernel⟩
abbrev dA:Stmt:=inClass (top 7) 4
theorem xG:bE ["self"] ["self"] (aF dA):=⟨rfl,rfl,rfl,by decide +kernel,rfl,by decide +kernel,by decide +kernel⟩
abbrev lP:Stmt:=top 9
theorem Cf:bE ["_law_cell","_law_k","_law_number"] ["_law_cell","_law_k"] (aF lP):=⟨rfl,rfl,rfl,by decide +kernel,rfl,by decide +kernel,by decide +kernel⟩
abbrev qZ:Stmt:=top 10
theorem jK:bE ["_law_number","_law_some","_law_word","_law_rest","_law_k"] ["_law_number"] (aF qZ):=⟨rfl,rfl,rfl,by decide +kernel,rfl,by decide +kernel,by decide +kernel⟩
abbrev lQ:Stmt:=top 11
theorem gK:bE ["_law_number","_law_many","_law_some","_law_word","_law_k"] ["_law_number","_law_many"] (aF lQ):=⟨rfl,rfl,rfl,by decide +kernel,rfl,by decide +kernel,by decide +kernel⟩
abbrev zH:Stmt:=top 12
theorem P3:bE ["_law_row"] ["_law_row"] (aF zH):=⟨rfl,rfl,rfl,by decide +kernel,rfl,by decide +kernel,by decide +kernel⟩
abbrev iK:Stmt:=top 13
theorem Gu:bE ["_law_rows"] ["_law_rows"] (aF iK):=⟨rfl,rfl,rfl,by decide +kernel,rfl,by decide +kernel,by decide +kernel⟩
abbrev rA:Stmt:=top 14
theorem fK:bE ["_law_cell","_law_n","_law_spots","_law_number","_law_hand_here","_law_under","_law_side","_law_many","_law_seen"] ["_law_cell","_law_n","_law_spots"] (aF rA):=⟨rfl,rfl,rfl,by decide +kernel,rfl,by decide +kernel,by decide +kernel⟩
abbrev gC:Stmt:=top 15
theorem cA:bE ["_law_deed_here","_law_name","_law_seen","_law_act","_law_place","_law_side","_law_found","_law_k"] ["_law_deed_here"] (aF gC):=⟨rfl,rfl,rfl,by decide +kernel,rfl,by decide +kernel,by decide +kernel⟩
abbrev zI:Stmt:=top 16
theorem kT:bE ["_law_signs_here","_law_kept","_law_spots","_law_cell","_law_number","_law_gone","_law_due","_law_handed","_law_found"] ["_law_signs_here","_law_kept","_law_spots","_law_cell"] (aF zI):=⟨rfl,rfl,rfl,by decide +kernel,rfl,by decide +kernel,by decide +kernel⟩
abbrev Cg:List Str:=["_law_k","_law_spots","_law_number"]
theorem Gv:(Cg).Nodup:=by decide +kernel
abbrev Ci:List Str:=["_law_place"]
theorem Gw:(Ci).Nodup:=by decide +kernel
abbrev Cj:List Str:=["_law_row","_law_gone"]
theorem Gx:(Cj).Nodup:=by decide +kernel
abbrev pH:Stmt:=top 17
theorem dN:bE ["_law_script","_law_signs_here","_law_kept","_law_spots","_law_n","_law_cell","_law_right","_law_gone","_law_deed_here","_law_place","_law_sign","_law_found"] ["_law_script"] (aF pH):=⟨rfl,rfl,rfl,by decide +kernel,rfl,by decide +kernel,by decide +kernel⟩
abbrev Ck:List Str:=["_law_row","_law_gone"]
theorem Gy:(Ck).Nodup:=by decide +kernel
theorem wD:("len" : Str)∈bsL:=(.head _)
theorem kU:("range" : Str)∈bsL:=(.tail _ (.head _))
theorem rB:("sorted" : Str)∈bsL:=(.tail _ (.tail _ (.tail _ (.head _))))
theorem pI:("list" : Str)∈bsL:=(.tail _ (.tail _ (.tail _ (.tail _ (.head _)))))
theorem mL:("isinstance" : Str)∈bsL:=(.tail _ (.tail _ (.tail _ (.tail _ (.tail _ (.tail _ (.head _)))))))
section
variable {P:Program} {w:World} {K:ag} {mg:Str->Option Value} {base:Heap} {cl:Str->Option Addr}
variable (P w K mg base cl)
abbrev JM:Prop:=∃ a fd,Def K mg "_wall" lN a fd ["k"]/\aU P w K mg base CX0 1 a fd ["k"] (spM (cC w K cl) 1 Fd)
abbrev wF:Prop:=∃ a fd,Def K mg "rank_of" gB a fd ["place"]/\aU P w K mg base CX0 1 a fd ["place"] (spM (cC w K cl) 1 iJ)
abbrev kW:Prop:=∃ a fd,Def K mg "row_rank" fB a fd ["row"]/\aU P w K mg base CX0 2 a fd ["row"] (spM (cC w K cl) 1 cW)
abbrev sI:Prop:=∃ a fd,Def K mg "place_of" fC a fd ["spot","name"]/\aU P w K mg base CX0 1 a fd ["spot","name"] (spM (cC w K cl) 2 gI)
abbrev pJ:Prop:=∃ a fd,Def K mg "places_of" dQ a fd ["deed"]/\aU P w K mg base CX0 2 a fd ["deed"] (spM (cC w K cl) 1 fO)
abbrev wG:Prop:=∃ a fd,Def K mg "_law_mixed" lP a fd ["_law_cell","_law_k"]/\aU P w K mg base CX0 1 a fd ["_law_cell","_law_k"] (spM (cC w K cl) 2 jI)
abbrev Fj:Prop:=∃ a fd,Def K mg "_law_hand" qZ a fd ["_law_number"]/\aU P w K mg base CX0 1 a fd ["_law_number"] (spM (cC w K cl) 1 Ak)
abbrev Cm:Prop:=∃ a fd,Def K mg "_law_signs" lQ a fd ["_law_number","_law_many"]/\aU P w K mg base CX0 1 a fd ["_law_number","_law_many"] (spM (cC w K cl) 2 pB)
abbrev JN:Prop:=∃ a fd,Def K mg "_law_key" zH a fd ["_law_row"]/\aU P w K mg base CX0 1 a fd ["_law_row"] (spM (cC w K cl) 1 zC)
abbrev rC:Prop:=∃ a fd,Def K mg "_law_sorted" iK a fd ["_law_rows"]/\aU P w K mg base CX0 4 a fd ["_law_rows"] (spM (cC w K cl) 1 dE)
abbrev Fk:Prop:=∃ a fd,Def K mg "_law_deed" rA a fd ["_law_cell","_law_n","_law_spots"]/\aU P w K mg base CX0 2 a fd ["_law_cell","_law_n","_law_spots"] (spM (cC w K cl) 3 vT)
abbrev wH:Prop:=∃ a fd,Def K mg "_law_written" gC a fd ["_law_deed_here"]/\aU P w K mg base CX0 1 a fd ["_law_deed_here"] (spM (cC w K cl) 1 fA)
abbrev JO:Prop:=∃ a fd,Def K mg "_law_cut" zI a fd ["_law_signs_here","_law_kept","_law_spots","_law_cell"]/\aU P w K mg base CX0 6 a fd ["_law_signs_here","_law_kept","_law_spots","_law_cell"] (spM (cC w K cl) 4 C5)
variable {P w K mg base cl}
theorem rD {j:Nat} {nm:Str} {st:Stmt} {f:Addr} {fd:dq} {ps:List Str} {sp:Sp} (D:Def K mg nm st f fd ps) (h:Fun K nm nm st f fd->aU P w K mg base CX0 j f fd ps sp):∃ a fd,Def K mg nm st a fd ps/\aU P w K mg base CX0 j a fd ps sp:=⟨_,_,D,h D.fn⟩
theorem JP {f:Addr} {fd:dq} (hbn:∀ x∈bsL,mg x=none) (F:Fun K "_wall" "_wall" lN f fd):aU P w K mg base CX0 1 f fd ["k"] (spM (cC w K cl) 1 Fd):=
 eS (C:=cC w K cl) (k:=0) (N:=["k"]) (body:=Fc) (fun _ _ _ h=>h) hbn F JL fun cdv A outer s H E=>
 (aQ (Lk (Ic Lf)
  (aQ Ol)))
theorem E1 {f:Addr} {fd:dq} (hbn:∀ x∈bsL,mg x=none) (F:Fun K "rank_of" "rank_of" gB f fd):aU P w K mg base CX0 1 f fd ["place"] (spM (cC w K cl) 1 iJ):=
 eS (C:=cC w K cl) (k:=0) (N:=["place"]) (body:=qR) (fun _ _ _ h=>h) hbn F DZ fun cdv A outer s H E=>
 (aQ (eR (aM bZ (aC 0) (bX (aB (bX (aB aI aJ)) aJ)))))
theorem Cn {f:Addr} {fd:dq} (hbn:∀ x∈bsL,mg x=none) (F:Fun K "row_rank" "row_rank" fB f fd) (rE:wF P w K mg base cl):aU P w K mg base CX0 2 f fd ["row"] (spM (cC w K cl) 1 cW):=
 let ⟨_,_,Gz,GA⟩:=rE; eS (C:=cC w K cl) (k:=1) (N:=["row"]) (body:=nG) (fun _ _ _ h=>h) hbn F Ce fun cdv A outer s H E=>
 (aQ (eR (s_call Gz GA (aB (gP (aC 0) aI) aJ))))
theorem Co {f:Addr} {fd:dq} (hbn:∀ x∈bsL,mg x=none) (F:Fun K "place_of" "place_of" fC f fd):aU P w K mg base CX0 1 f fd ["spot","name"] (spM (cC w K cl) 2 gI):=
 eS (C:=cC w K cl) (k:=0) (N:=["spot","name","under","side","hand","n"]) (body:=nH) (fun _ _ _ h=>h) hbn F fP fun cdv A outer s H E=>
 (aG (uW (aC 0) (oO (bU (aW fP.nd) (bU (aW fP.nd) oM))))
 (aG (uW (aC 1) (oO (bU (aW fP.nd) (bU (aW fP.nd) oM))))
 (aQ (eR (aM bZ (aC 2) (bX (aB (bX (aB (aC 3) (aB (aC 4) (aB (aC 5) (aB aI aJ))))) aJ)))))))
theorem Au {f:Addr} {fd:dq} (hbn:∀ x∈bsL,mg x=none) (F:Fun K "places_of" "places_of" dQ f fd) (nJ:sI P w K mg base cl):aU P w K mg base CX0 2 f fd ["deed"] (spM (cC w K cl) 1 fO):=
 let ⟨_,_,E2,E3⟩:=nJ; eS (C:=cC w K cl) (k:=1) (N:=["deed","name","seen","act","word","thing","under","side","signs","hand","n","places","k"]) (body:=kN) (fun _ _ _ h=>h) hbn F aV fun cdv A outer s H E=>
 (aG (uW (aC 0) (oO (bU (aW aV.nd) (bU (aW aV.nd) (bU (aW aV.nd) oM)))))
 (aG (uW (aC 3) (oO (bU (aW aV.nd) (bU (aW aV.nd) (bU (aW aV.nd) (bU (aW aV.nd) (bU (aW aV.nd) oM)))))))
 (aG (uW (aC 1) (oO (bU (aW aV.nd) (bU (aW aV.nd) oM))))
 (aG (aY (i:=11) aV.nd (mG (aB (s_call E2 E3 (aB (bX (aB (aC 6) (aB (aC 7) aJ))) (aB (aC 1) aJ))) aJ)))
 (aG (rZ (Om (aB aI (aB (iY Bx PyProof.Rows.Boot.«len» (aB (aC 8) aJ) (hb:=wD)) aJ)) (hb:=kU)) (aW aV.nd)
  (aQ (yP (Iq j1 jr jt kF (aC 11) (aB (aM bZ (gP (aC 11) (aM HZ (aC 12) aI)) (bX (aB (bX (aB aI (aB (aC 9) (aB (aC 10) (aB (aC 12) aJ))))) aJ))) aJ)))))
 (aQ (eR (aC 11))))))))
theorem pK {f:Addr} {fd:dq} (hbn:∀ x∈bsL,mg x=none) (F:Fun K "__init__" "Signs.__init__" bS f fd) (FF_kept:BM (cC w K cl) "kept"):aU P w K mg base CX0 1 f fd ["self"] (spM (cC w K cl) 1 bR):=
 eS (C:=cC w K cl) (k:=0) (N:=["self"]) (body:=eY) (fun _ _ _ h=>h) hbn F pG fun cdv A outer s H E=>
 (aQ (R8 FF_kept EL (aC 0)))
theorem wI {f:Addr} {fd:dq} (hbn:∀ x∈bsL,mg x=none) (F:Fun K "write" "Signs.write" cN f fd) (kX:pJ P w K mg base cl) (FF_kept:BM (cC w K cl) "kept"):aU P w K mg base CX0 3 f fd ["self","deed"] (spM (cC w K cl) 2 cM):=
 let ⟨_,_,Cp,Cq⟩:=kX; eS (C:=cC w K cl) (k:=2) (N:=["self","deed","signs","place","sign"]) (body:=hW) (fun _ _ _ h=>h) hbn F eG fun cdv A outer s H E=>
 (aG (aY (i:=2) eG.nd (gP (gP (aC 1) aI) aI))
 (aQ (rZ (Ro (aB (s_call Cp Cq (aB (aC 1) aJ)) (aB (aC 2) aJ)) (hb:=(.tail _ (.tail _ (.head _))))) (oO (bU (aW eG.nd) (bU (aW eG.nd) oM)))
  (aQ (J3 (aC 4) (F3 FF_kept (aC 0)) (aC 3))))))
theorem Av {f:Addr} {fd:dq} (hbn:∀ x∈bsL,mg x=none) (F:Fun K "cut" "Signs.cut" dR f fd) (fD:kW P w K mg base cl) (FF_kept:BM (cC w K cl) "kept"):aU P w K mg base CX0 5 f fd ["self","places"] (spM (cC w K cl) 2 bK):=
 let ⟨_,_,nK,nL⟩:=fD; eS (C:=cC w K cl) (k:=4) (N:=["self","places","gone","place"]) (body:=kO) (fun _ _ _ h=>h) hbn F jJ fun cdv A outer s H E=>
 (aG (aY (i:=2) jJ.nd (mG aJ))
 (aG (rZ (EM (aC 1)) (aW jJ.nd)
  (aQ (xF (iG Nd (aC 3) (F3 FF_kept (aC 0)))
   (aQ (yP (Iq j1 jr jt kF (aC 2) (aB (bX (aB (aC 3) (aB (Tr iu PySem.F.slot_dict_pop PySem.F.type_dict_pop OO (F3 FF_kept (aC 0)) (aB (aC 3) aJ)) aJ))) aJ))))
   kD)))
 (aQ (eR (vR nK nL (aC 2) (hb:=rB))))))
theorem xH {f:Addr} {fd:dq} (hbn:∀ x∈bsL,mg x=none) (F:Fun K "rows" "Signs.rows" dA f fd) (fD:kW P w K mg base cl) (FF_kept:BM (cC w K cl) "kept"):aU P w K mg base CX0 5 f fd ["self"] (spM (cC w K cl) 1 bJ):=
 let ⟨_,_,nK,nL⟩:=fD; eS (C:=cC w K cl) (k:=4) (N:=["self"]) (body:=jH) (fun _ _ _ h=>h) hbn F xG fun cdv A outer s H E=>
 (aQ (eR (vR nK nL (BH iu iq j2 kM (F3 FF_kept (aC 0))) (hb:=rB))))
theorem JQ {f:Addr} {fd:dq} (hbn:∀ x∈bsL,mg x=none) (F:Fun K "_law_mixed" "_law_mixed" lP f fd):aU P w K mg base CX0 1 f fd ["_law_cell","_law_k"] (spM (cC w K cl) 2 jI):=
 eS (C:=cC w K cl) (k:=0) (N:=["_law_cell","_law_k","_law_number"]) (body:=Aj) (fun _ _ _ h=>h) hbn F Cf fun cdv A outer s H E=>
 (aG (aY (i:=2) Cf.nd (aM eQ (aM rX (aM bZ (aM bZ (aC 0) (aM rX aI (aC 1))) aI) aI) aI))
 (aQ (eR (aM eQ (aM rX (aC 2) (aM bZ (aM kA (aC 2) aI) aI)) aI))))
theorem Mf {f:Addr} {fd:dq} (hbn:∀ x∈bsL,mg x=none) (F:Fun K "_law_hand" "_law_hand" qZ f fd):aU P w K mg base CX0 1 f fd ["_law_number"] (spM (cC w K cl) 1 Ak):=
 eS (C:=cC w K cl) (k:=0) (N:=["_law_number","_law_some","_law_word","_law_rest","_law_k"]) (body:=DQ) (fun _ _ _ h=>h) hbn F jK fun cdv A outer s H E=>
 (aG (aY (i:=1) jK.nd jZ)
 (aG (aY (i:=2) jK.nd jZ)
 (aG (aY (i:=3) jK.nd (aM kA (aC 0) aI))
 (aG (rZ (A5 (aB (aM bZ aI (aM eQ (aC 0) aI)) aJ) (hb:=kU)) (aW jK.nd)
  (aG (aY (i:=2) jK.nd (aM bZ (aC 2) (gP (aC 1) (aM eQ (aC 3) aI))))
  (aQ (aY (i:=3) jK.nd (aM bZ (aM kA (aC 3) aI) (aM rX aI (aC 4)))))))
 (aQ (eR (aC 2)))))))
theorem JR {f:Addr} {fd:dq} (hbn:∀ x∈bsL,mg x=none) (F:Fun K "_law_signs" "_law_signs" lQ f fd):aU P w K mg base CX0 1 f fd ["_law_number","_law_many"] (spM (cC w K cl) 2 pB):=
 eS (C:=cC w K cl) (k:=0) (N:=["_law_number","_law_many","_law_some","_law_word","_law_k"]) (body:=Al) (fun _ _ _ h=>h) hbn F gK fun cdv A outer s H E=>
 (aG (aY (i:=2) gK.nd jZ)
 (aG (aY (i:=2) gK.nd (aM bZ (aC 2) jZ))
 (aG (aY (i:=3) gK.nd jZ)
 (aG (rZ (A5 (aB (aC 1) aJ) (hb:=kU)) (aW gK.nd)
  (aG (aY (i:=0) gK.nd (aM eQ (aM bZ (aM rX (aC 0) aI) aI) aI))
  (aQ (aY (i:=3) gK.nd (aM bZ (aC 3) (gP (aC 2) (aM eQ (aC 0) aI)))))))
 (aQ (eR (aC 3)))))))
theorem P4 {f:Addr} {fd:dq} (hbn:∀ x∈bsL,mg x=none) (F:Fun K "_law_key" "_law_key" zH f fd):aU P w K mg base CX0 1 f fd ["_law_row"] (spM (cC w K cl) 1 zC):=
 eS (C:=cC w K cl) (k:=0) (N:=["_law_row"]) (body:=Jp) (fun _ _ _ h=>h) hbn F P3 fun cdv A outer s H E=>
 (aQ (eR (aM bZ (gP (aC 0) aI) (bX (aB (bX (aB aI aJ)) aJ)))))
theorem GB {f:Addr} {fd:dq} (hbn:∀ x∈bsL,mg x=none) (F:Fun K "_law_sorted" "_law_sorted" iK f fd) (JS:JN P w K mg base cl):aU P w K mg base CX0 4 f fd ["_law_rows"] (spM (cC w K cl) 1 dE):=
 let ⟨_,_,RC,RD⟩:=JS; eS (C:=cC w K cl) (k:=3) (N:=["_law_rows"]) (body:=vS) (fun _ _ _ h=>h) hbn F Gu fun cdv A outer s H E=>
 (aQ (eR (vR RC RD (aC 0) (hb:=rB))))
theorem Mh {f:Addr} {fd:dq} (hbn:∀ x∈bsL,mg x=none) (F:Fun K "_law_deed" "_law_deed" rA f fd) (lS:wG P w K mg base cl) (E4:Fj P w K mg base cl) (Aw:Cm P w K mg base cl):aU P w K mg base CX0 2 f fd ["_law_cell","_law_n","_law_spots"] (spM (cC w K cl) 3 vT):=
 let ⟨_,_,tO,tP⟩:=lS; let ⟨_,_,P5,P6⟩:=E4; let ⟨_,_,Mj,Ml⟩:=Aw; eS (C:=cC w K cl) (k:=1) (N:=["_law_cell","_law_n","_law_spots","_law_number","_law_hand_here","_law_under","_law_side","_law_many","_law_seen"]) (body:=DR) (fun _ _ _ h=>h) hbn F fK fun cdv A outer s H E=>
 (aG (aY (i:=3) fK.nd (s_call tO tP (aB (aC 0) (aB aI aJ))))
 (aG (aY (i:=4) fK.nd (s_call P5 P6 (aB (aM kA (s_call tO tP (aB (aC 0) (aB aI aJ))) (gP (mG (aB aI (aB aI (aB aI aJ)))) (aM eQ (aC 3) aI))) aJ)))
 (aG (aY (i:=5) fK.nd (gP (aC 2) (aM eQ (aM kA (aC 3) aI) (iY Bx PyProof.Rows.Boot.«len» (aB (aC 2) aJ) (hb:=wD)))))
 (aG (aY (i:=6) fK.nd (aM HZ (aM rX (aM eQ (aC 3) aI) aI) aI))
 (aG (xF (iG Du (aC 5) (bX aJ))
  (aQ (aY (i:=6) fK.nd aI))
  kD)
 (aG (aY (i:=7) fK.nd (aM bZ aI (aM eQ (aM kA (aC 3) aI) aI)))
 (aG (xF (iG Du (aM eQ (aM kA (aC 3) aI) aI) aI)
  (aQ (aY (i:=7) fK.nd aI))
  kD)
 (aG (aY (i:=8) fK.nd (bX aJ))
 (aG (xF (iG QG (aC 1) aI)
  (aQ (aY (i:=8) fK.nd (bX (aB (bX (aB (aC 4) (aB (aM HZ (aC 1) aI) aJ))) aJ))))
  kD)
 (aQ (eR (bX (aB (bX (aB (aC 4) (aB (aC 1) aJ))) (aB (aC 8) (aB (bX (aB jZ (aB (bX (aB jZ (aB aI aJ))) (aB (aC 5) (aB (aC 6) (aB (s_call Mj Ml (aB (aC 3) (aB (aC 7) aJ))) aJ)))))) aJ)))))))))))))))
theorem E5 {f:Addr} {fd:dq} (hbn:∀ x∈bsL,mg x=none) (F:Fun K "_law_written" "_law_written" gC f fd):aU P w K mg base CX0 1 f fd ["_law_deed_here"] (spM (cC w K cl) 1 fA):=
 eS (C:=cC w K cl) (k:=0) (N:=["_law_deed_here","_law_name","_law_seen","_law_act","_law_place","_law_side","_law_found","_law_k"]) (body:=qS) (fun _ _ _ h=>h) hbn F cA fun cdv A outer s H E=>
 (aG (uW (aC 0) (oO (bU (aW cA.nd) (bU (aW cA.nd) (bU (aW cA.nd) oM)))))
 (aG (aY (i:=4) cA.nd (gP (aC 3) aI))
 (aG (aY (i:=5) cA.nd (gP (aC 3) aI))
 (aG (aY (i:=6) cA.nd (mG aJ))
 (aG (rZ (A5 (aB (iY Bx PyProof.Rows.Boot.«len» (aB (gP (aC 3) aI) aJ) (hb:=wD)) aJ) (hb:=kU)) (aW cA.nd)
  (aG (aY (i:=4) cA.nd (aM bZ (aC 4) (bX (aB (bX (aB (aC 5) (aB (gP (aC 1) aI) (aB (gP (aC 1) aI) (aB (aC 7) aJ))))) aJ))))
  (aG (aY (i:=5) cA.nd aI)
  (aQ (yP (Iq j1 jr jt kF (aC 6) (aB (bX (aB (aC 4) (aB (gP (gP (aC 3) aI) (aC 7)) aJ))) aJ)))))))
 (aQ (eR (aC 6))))))))
theorem P7 {f:Addr} {fd:dq} (hbn:∀ x∈bsL,mg x=none) (F:Fun K "_law_cut" "_law_cut" zI f fd) (lS:wG P w K mg base cl) (iL:rC P w K mg base cl) {a_Signs:Addr} (CL_Signs:cl "Signs" = some a_Signs) (HC_Signs:Cls K a_Signs) {fQ:Addr} {eI:dq} (cI:nR K a_Signs "cut" fQ) (cX:aU P w K mg base CX0 5 fQ eI ["self","places"] (spM (cC w K cl) 2 bK)) (cY:Binds K eI ["self","places"] []):aU P w K mg base CX0 6 f fd ["_law_signs_here","_law_kept","_law_spots","_law_cell"] (spM (cC w K cl) 4 C5):=
 let ⟨_,_,tO,tP⟩:=lS; let ⟨_,_,pL,pM⟩:=iL; eS (C:=cC w K cl) (k:=5) (N:=["_law_signs_here","_law_kept","_law_spots","_law_cell","_law_number","_law_gone","_law_due","_law_handed","_law_found"]) (body:=Jq) (fun _ _ _ h=>h) hbn F kT fun cdv A outer s H E=>
 (aG (aY (i:=4) kT.nd (s_call tO tP (aB (aC 3) (aB aI aJ))))
 (aG (aY (i:=5) kT.nd (A6 (js:=[none,some 2,some 4]) (N:=Cg) rfl rfl (by rfl) (A5 (aB (aM bZ aI (aM eQ (aC 4) aI)) aJ) (hb:=kU)) (fun _ _ _ _=>(aW Gv)) (fun _ _ _ _=>On) (fun _ _ _ _=>(gP (aC 1) (aM eQ (aM bZ (aM kA (aC 2) aI) (aM rX (aM rX (aC 0) (aC 0)) (aM kA (aC 2) aI))) (iY Bx PyProof.Rows.Boot.«len» (aB (aC 1) aJ) (hb:=wD)))))))
 (aG (aY (i:=5) kT.nd (aM bZ (A6 (js:=[none]) (N:=Ci) rfl rfl (by rfl) (EM (aC 5)) (fun _ _ _ _=>(aW Gw)) (fun _ _ _ _=>(Dy (iG Lg (aC 0) (bX aJ)))) (fun _ _ _ _=>(aC 0))) (mG (aB (bX (aB (bX (aB aI (aB jZ (aB (aM bZ aI (aM eQ (aC 4) aI)) (aB aI aJ))))) aJ)) aJ))))
 (aG (aY (i:=6) kT.nd (s_call pL pM (aB (Jb true (gO cB bB (mV 1)) (A6 (js:=[none,some 5]) (N:=Cj) rfl rfl (by rfl) (Fb (BH iu iq j2 kM (aC 1))) (fun _ _ _ _=>(aW Gx)) (fun _ _ _ _=>(Dy (iG Nd (gP (aC 0) aI) (aC 1)))) (fun _ _ _ _=>(aC 0)))) aJ)))
 (aG (aY (i:=7) kT.nd (kB Ai PyProof.Rows.Boot.«list» (aB (aC 5) aJ) (hb:=pI)))
 (aG (xF (iG Du (aM eQ (aM kA (aC 4) aI) aI) aI)
  (aQ (aY (i:=8) kT.nd (Ab (tb:=C3) (jD CL_Signs HC_Signs cI (by decide) cX cY nC) (aC 0) (aB (kB Li PyProof.Rows.Boot.«tuple» (aB (aC 7) aJ) (hb:=(.tail _ (.tail _ (.tail _ (.tail _ (.tail _ (.head _)))))))) aJ))))
  (aQ (aY (i:=8) kT.nd (Ab (tb:=C4) (jD CL_Signs HC_Signs cI (by decide) cX cY nC) (aC 0) (aB (aC 7) aJ)))))
 (aQ (eR (bX (aB (N9 (iY oQ PyProof.Rows.Boot.«isinstance» (aB (aC 8) (aB (HV (n:="list") PyProof.Rows.Boot.«list» (hb:=pI)) aJ)) (hb:=mL)) (N9 (HW Du (aC 8) (aC 6)) (QH (HW Du (aC 7) (aC 5))))) (aB (aC 5) aJ)))))))))))
theorem P8 {f:Addr} {fd:dq} (hbn:∀ x∈bsL,mg x=none) (F:Fun K "law" "law" pH f fd) (iL:rC P w K mg base cl) (E6:Fk P w K mg base cl) (rF:wH P w K mg base cl) (JT:JO P w K mg base cl) {a_Signs:Addr} (CL_Signs:cl "Signs" = some a_Signs) (HC_Signs:Cls K a_Signs) {fE:Addr} {gX:dq} (gY:nR K a_Signs "__init__" fE) (fF:aU P w K mg base CX0 1 fE gX ["self"] (spM (cC w K cl) 1 bR)) (fG:Binds K gX ["self"] []) {fQ:Addr} {eI:dq} (cI:nR K a_Signs "cut" fQ) (cX:aU P w K mg base CX0 5 fQ eI ["self","places"] (spM (cC w K cl) 2 bK)) (cY:Binds K eI ["self","places"] []) {pN:Addr} {mM:dq} (dG:nR K a_Signs "rows" pN) (eJ:aU P w K mg base CX0 5 pN mM ["self"] (spM (cC w K cl) 1 bJ)) (eK:Binds K mM ["self"] []) {mN:Addr} {kY:dq} (gL:nR K a_Signs "write" mN) (iA:aU P w K mg base CX0 3 mN kY ["self","deed"] (spM (cC w K cl) 2 cM)) (iB:Binds K kY ["self","deed"] []) (MK_Signs:Mk K a_Signs fE) (MG_Signs:mg "Signs" = some (.ref a_Signs)):aU P w K mg base CX0 7 f fd ["_law_script"] (spM (cC w K cl) 1 Js):=
 let ⟨_,_,pL,pM⟩:=iL; let ⟨_,_,P9,P'⟩:=E6; let ⟨_,_,GC,GD⟩:=rF; let ⟨_,_,RF,RG⟩:=JT; eS (C:=cC w K cl) (k:=6) (N:=["_law_script","_law_signs_here","_law_kept","_law_spots","_law_n","_law_cell","_law_right","_law_gone","_law_deed_here","_law_place","_law_sign","_law_found"]) (body:=Jr) (fun _ _ _ h=>h) hbn F dN fun cdv A outer s H E=>
 (aG (aY (i:=1) dN.nd (LB CL_Signs MK_Signs fF MG_Signs fG))
 (aG (aY (i:=2) dN.nd EL)
 (aG (aY (i:=3) dN.nd (mG (aB (bX aJ) aJ)))
 (aG (aY (i:=4) dN.nd aI)
 (aG (xF (iG QG (iY Bx PyProof.Rows.Boot.«len» (aB (aC 0) aJ) (hb:=wD)) aI)
  (aQ (aY (i:=4) dN.nd (aM bZ aI (aM eQ (gP (aC 0) (T5 QO aI)) (gP (mG (aB aI (aB (aM QE aI aI) aJ))) (aM eQ (gP (aC 0) aI) aI))))))
  kD)
 (aG (xF (SW.t (w_or (iG Lg (Ac (tb:=pD) (jD CL_Signs HC_Signs dG (by decide) eJ eK nC) (aC 1)) (mG aJ)) (N8 (iG Lg (Ab (tb:=pC) (jD CL_Signs HC_Signs cI (by decide) cX cY nC) (aC 1) (aB (mG (aB (bX (aB (bX (aB aI (aB jZ (aB aI (aB aI aJ))))) aJ)) aJ)) aJ)) (mG aJ)))))
  (aQ (eR Lf))
  kD)
 (aG (rZ (EM (T7 (aC 0) Og (Oh aI))) (aW dN.nd)
  (aG (xF (iG Du (aM eQ (aC 5) aI) aI)
   (aG (uW (s_call RF RG (aB (aC 1) (aB (aC 2) (aB (aC 3) (aB (aM kA (aC 5) aI) aJ))))) (oO (bU (aW dN.nd) (bU (aW dN.nd) oM))))
   (aG (xF (N7 (Ic (aC 6)))
    (aQ (eR Lf))
    kD)
   (aQ (aY (i:=2) dN.nd (kB LC PyProof.Rows.Boot.«dict» (aB (Jb true (gO cB bB (mV 2)) (A6 (js:=[none,some 7]) (N:=Ck) rfl rfl (by rfl) (Fb (BH iu iq j2 kM (aC 2))) (fun _ _ _ _=>(aW Gy)) (fun _ _ _ _=>(Dy (iG IF (gP (aC 0) aI) (aC 1)))) (fun _ _ _ _=>(aC 0)))) aJ) (hb:=(.tail _ (.tail _ (.tail _ (.tail _ (.tail _ (.tail _ (.tail _ (.head _))))))))))))))
   (aG (aY (i:=8) dN.nd (s_call P9 P' (aB (aC 5) (aB (aC 4) (aB (aC 3) aJ)))))
   (aG (yP (Ab (tb:=vU) (jD CL_Signs HC_Signs gL (by decide) iA iB nC) (aC 1) (aB (aC 8) aJ)))
   (aG (aY (i:=4) dN.nd (aM bZ (aC 4) aI))
   (aQ (rZ (EM (s_call GC GD (aB (aC 8) aJ))) (oO (bU (aW dN.nd) (bU (aW dN.nd) oM)))
    (aG (J3 (aC 10) (aC 2) (aC 9))
    (aQ (yP (Iq j1 jr jt kF (aC 3) (aB (aC 9) aJ)))))))))))
  (aG (aY (i:=11) dN.nd (Ac (tb:=vV) (jD CL_Signs HC_Signs dG (by decide) eJ eK nC) (aC 1)))
  (aG (xF (SW.t (w_or (N7 (Ic (iY oQ PyProof.Rows.Boot.«isinstance» (aB (aC 11) (aB (HV (n:="list") PyProof.Rows.Boot.«list» (hb:=pI)) aJ)) (hb:=mL)))) (N8 (iG Lg (aC 11) (s_call pL pM (aB (kB Ai PyProof.Rows.Boot.«list» (aB (BH iu iq j2 kM (aC 2)) aJ) (hb:=pI)) aJ))))))
   (aQ (eR Lf))
   kD)
  (aQ (yP (Iq j1 jr jt kF (aC 11) (aB (bX (aB (bX (aB aI (aB jZ (aB aI (aB aI aJ))))) (aB jZ aJ))) aJ))))))))
 (aQ (eR (HW Du (Ac (tb:=vW) (jD CL_Signs HC_Signs dG (by decide) eJ eK nC) (aC 1)) (s_call pL pM (aB (kB Ai PyProof.Rows.Boot.«list» (aB (BH iu iq j2 kM (aC 2)) aJ) (hb:=pI)) aJ))))))))))))
end
def spL (K:ag):Sp:=fun vs H Q _=>∃ (a:Addr) (ns:List Int),vs=[.ref a]/\Hs H/\SqL K H a (ns.map V.int)/\ns.length<=63/\∀ H',Q (.bl true) H'
@[elab_as_elim] theorem xI {P:List Value->Prop} (us:List Value) (hl:us.length=1) (h:∀ a0,P [a0]):P us:=by
 cases us with
 | nil=>cases hl
 | cons a0 us=>
  cases us with
  | nil=>exact h a0
  | cons b us=>
   simp only [cz] at hl;omega
@[elab_as_elim] theorem JU {P:List Value->Prop} (us:List Value) (hl:us.length=2) (h:∀ a0 a1,P [a0,a1]):P us:=by
 cases us with
 | nil=>cases hl
 | cons a0 us=>
  cases us with
  | nil=>cases hl
  | cons a1 us=>
   cases us with
   | nil=>exact h a0 a1
   | cons b us=>
    simp only [cz] at hl;omega
@[elab_as_elim] theorem Tz {P:List Value->Prop} (us:List Value) (hl:us.length=3) (h:∀ a0 a1 a2,P [a0,a1,a2]):P us:=by
 cases us with
 | nil=>cases hl
 | cons a0 us=>
  cases us with
  | nil=>cases hl
  | cons a1 us=>
   cases us with
   | nil=>cases hl
   | cons a2 us=>
    cases us with
    | nil=>exact h a0 a1 a2
    | cons b us=>
     simp only [cz] at hl;omega
@[elab_as_elim] theorem TB {P:List Value->Prop} (us:List Value) (hl:us.length=4) (h:∀ a0 a1 a2 a3,P [a0,a1,a2,a3]):P us:=by
 cases us with
 | nil=>cases hl
 | cons a0 us=>
  cases us with
  | nil=>cases hl
  | cons a1 us=>
   cases us with
   | nil=>cases hl
   | cons a2 us=>
    cases us with
    | nil=>cases hl
    | cons a3 us=>
     cases us with
     | nil=>exact h a0 a1 a2 a3
     | cons b us=>
      simp only [cz] at hl;omega
theorem all_mk {l:PySem.W.OpenLaw} {w:World} {K:ag} {h:Heap} {mg:Str->Option Value} {fa A_Signs bH dS dB cO Ax rG nM nN kZ Ay E7 Az JV wJ E8 rH JW JX:Addr} (X:K.In h) (G:h.Ns dv mg) (hfa:mg "law" = some (.ref fa)) (hbn:∀ x∈bsL,mg x=none)
  (n_Signs:gi K dv "Signs" = some (some (.ref A_Signs)))
  (pg_Signs:ot K A_Signs Str.empty=true)
  (hd_Signs:PySem.W.hasDictIn K A_Signs=true)
  (po_Signs:PySem.W.plainOver K A_Signs=true)
  (sa_Signs:d9 K (.ref A_Signs) "__setattr__" = some (some (.builtin "object.__setattr__")))
  (mk_Signs:PySem.W.makesIn K A_Signs=true)
  (kc_Signs:cw K (.ref A_Signs)=true)
  (nf_Signs_kept:d9 K (.ref A_Signs) "kept" = some none)
  (iM:d9 K (.ref A_Signs) "__init__" = some (some (.ref bH)))
  (iN:o6 K (.ref bH)=true)
  {pO pP nO pQ gM pR:Value} {pS pT:Option Addr} {nP:Array (Option Value)}
  (rJ:K.lookup bH=some ⟨pO,pS,.func (da "__init__" "Signs.__init__" (aX bS) (aT bS) (aF bS) .none pP nO pQ pT gM pR),nP⟩)
  (rK:dh K gM "Signs.__init__" = true)
  (iO:cw K (.ref bH)=true)
  (Cr:d9 K (.ref A_Signs) "cut" = some (some (.ref dS)))
  (Cs:o6 K (.ref dS)=true)
  {AA AB xJ AC mO AD:Value} {AE AF:Option Addr} {xK:Array (Option Value)}
  (Ct:K.lookup dS=some ⟨AA,AE,.func (da "cut" "Signs.cut" (aX dR) (aT dR) (aF dR) .none AB xJ AC AF mO AD),xK⟩)
  (Cu:dh K mO "Signs.cut" = true)
  (sJ:cw K (.ref dS)=true)
  (AG:d9 K (.ref A_Signs) "rows" = some (some (.ref dB)))
  (AH:o6 K (.ref dB)=true)
  {xM xN wK xO lA xP:Value} {xQ xR:Option Addr} {wL:Array (Option Value)}
  (AI:K.lookup dB=some ⟨xM,xQ,.func (da "rows" "Signs.rows" (aX dA) (aT dA) (aF dA) .none xN wK xO xR lA xP),wL⟩)
  (AJ:dh K lA "Signs.rows" = true)
  (pU:cw K (.ref dB)=true)
  (xS:d9 K (.ref A_Signs) "write" = some (some (.ref cO)))
  (xT:o6 K (.ref cO)=true)
  {wM wN sZ wO jP wQ:Value} {wR wU:Option Addr} {tB:Array (Option Value)}
  (xU:K.lookup cO=some ⟨wM,wR,.func (da "write" "Signs.write" (aX cN) (aT cN) (aF cN) .none wN sZ wO wU jP wQ),tB⟩)
  (xV:dh K jP "Signs.write" = true)
  (mQ:cw K (.ref cO)=true)
  (Mm:gi K dv "_wall" = some (some (.ref Ax)))
  {JY JZ GE K0 zJ K1:Value} {K2 K3:Option Addr} {GF:Array (Option Value)}
  (Mn:K.lookup Ax=some ⟨JY,K2,.func (da "_wall" "_wall" (aX lN) (aT lN) (aF lN) .none JZ GE K0 K3 zJ K1),GF⟩)
  (Mp:dh K zJ "_wall" = true)
  (Mq:cw K (.ref Ax)=true)
  (GG:gi K dv "rank_of" = some (some (.ref rG)))
  {E9 Ea Cv Eb sL Ec:Value} {Ed Ee:Option Addr} {Cw:Array (Option Value)}
  (GH:K.lookup rG=some ⟨E9,Ed,.func (da "rank_of" "rank_of" (aX gB) (aT gB) (aF gB) .none Ea Cv Eb Ee sL Ec),Cw⟩)
  (GI:dh K sL "rank_of" = true)
  (GJ:cw K (.ref rG)=true)
  (Ef:gi K dv "row_rank" = some (some (.ref nM)))
  {Cy Cz AK CA pV CB:Value} {CC CD:Option Addr} {AL:Array (Option Value)}
  (Eg:K.lookup nM=some ⟨Cy,CC,.func (da "row_rank" "row_rank" (aX fB) (aT fB) (aF fB) .none Cz AK CA CD pV CB),AL⟩)
  (Eh:dh K pV "row_rank" = true)
  (Ei:cw K (.ref nM)=true)
  (Ej:gi K dv "place_of" = some (some (.ref nN)))
  {CF CG AM CH pX CI:Value} {CJ CK:Option Addr} {AN:Array (Option Value)}
  (Ek:K.lookup nN=some ⟨CF,CJ,.func (da "place_of" "place_of" (aX fC) (aT fC) (aF fC) .none CG AM CH CK pX CI),AN⟩)
  (El:dh K pX "place_of" = true)
  (Em:cw K (.ref nN)=true)
  (CL:gi K dv "places_of" = some (some (.ref kZ)))
  {AO AQ xW AR mR AS:Value} {AU AV:Option Addr} {xX:Array (Option Value)}
  (CM:K.lookup kZ=some ⟨AO,AU,.func (da "places_of" "places_of" (aX dQ) (aT dQ) (aF dQ) .none AQ xW AR AV mR AS),xX⟩)
  (CN:dh K mR "places_of" = true)
  (CO:cw K (.ref kZ)=true)
  (Mr:gi K dv "_law_mixed" = some (some (.ref Ay)))
  {K4 K5 GK K6 zK K7:Value} {K8 K9:Option Addr} {GL:Array (Option Value)}
  (Mt:K.lookup Ay=some ⟨K4,K8,.func (da "_law_mixed" "_law_mixed" (aX lP) (aT lP) (aF lP) .none K5 GK K6 K9 zK K7),GL⟩)
  (Mu:dh K zK "_law_mixed" = true)
  (Mv:cw K (.ref Ay)=true)
  (Pa:gi K dv "_law_hand" = some (some (.ref E7)))
  {Mw Mx K' My CP Mz:Value} {MA MB:Option Addr} {Ka:Array (Option Value)}
  (Pb:K.lookup E7=some ⟨Mw,MA,.func (da "_law_hand" "_law_hand" (aX qZ) (aT qZ) (aF qZ) .none Mx K' My MB CP Mz),Ka⟩)
  (Pc:dh K CP "_law_hand" = true)
  (Pd:cw K (.ref E7)=true)
  (MD:gi K dv "_law_signs" = some (some (.ref Az)))
  {Kb Kc GM Kd zL Ke:Value} {Kf Kg:Option Addr} {GN:Array (Option Value)}
  (ME:K.lookup Az=some ⟨Kb,Kf,.func (da "_law_signs" "_law_signs" (aX lQ) (aT lQ) (aF lQ) .none Kc GM Kd Kg zL Ke),GN⟩)
  (MF:dh K zL "_law_signs" = true)
  (MG:cw K (.ref Az)=true)
  (RI:gi K dv "_law_key" = some (some (.ref JV)))
  {Pe Pf MJ Pg Fm Ph:Value} {Pi Pj:Option Addr} {MK:Array (Option Value)}
  (RJ:K.lookup JV=some ⟨Pe,Pi,.func (da "_law_key" "_law_key" (aX zH) (aT zH) (aF zH) .none Pf MJ Pg Pj Fm Ph),MK⟩)
  (RK:dh K Fm "_law_key" = true)
  (RL:cw K (.ref JV)=true)
  (Kh:gi K dv "_law_sorted" = some (some (.ref wJ)))
  {GO GP En GQ wV GR:Value} {GS GT:Option Addr} {Eo:Array (Option Value)}
  (Ki:K.lookup wJ=some ⟨GO,GS,.func (da "_law_sorted" "_law_sorted" (aX iK) (aT iK) (aF iK) .none GP En GQ GT wV GR),Eo⟩)
  (Kj:dh K wV "_law_sorted" = true)
  (Kk:cw K (.ref wJ)=true)
  (Pk:gi K dv "_law_deed" = some (some (.ref E8)))
  {ML MM Kl MN CQ MP:Value} {MQ MR:Option Addr} {Km:Array (Option Value)}
  (Pl:K.lookup E8=some ⟨ML,MQ,.func (da "_law_deed" "_law_deed" (aX rA) (aT rA) (aF rA) .none MM Kl MN MR CQ MP),Km⟩)
  (Pm:dh K CQ "_law_deed" = true)
  (Pn:cw K (.ref E8)=true)
  (GU:gi K dv "_law_written" = some (some (.ref rH)))
  {Ep Er CS Es sM Et:Value} {Eu Ew:Option Addr} {CT:Array (Option Value)}
  (GV:K.lookup rH=some ⟨Ep,Eu,.func (da "_law_written" "_law_written" (aX gC) (aT gC) (aF gC) .none Er CS Es Ew sM Et),CT⟩)
  (GW:dh K sM "_law_written" = true)
  (GX:cw K (.ref rH)=true)
  (RM:gi K dv "_law_cut" = some (some (.ref JW)))
  {Po Pp MS Pq Fo Pr:Value} {Pt Pu:Option Addr} {MT:Array (Option Value)}
  (RN:K.lookup JW=some ⟨Po,Pt,.func (da "_law_cut" "_law_cut" (aX zI) (aT zI) (aF zI) .none Pp MS Pq Pu Fo Pr),MT⟩)
  (RP:dh K Fo "_law_cut" = true)
  (RQ:cw K (.ref JW)=true)
  (RR:gi K dv "law" = some (some (.ref JX)))
  {Pv Kn Fp Ko AW Kr:Value} {Pw Ks:Option Addr} {MU:Array (Option Value)}
  (RS:K.lookup JX=some ⟨Pv,Pw,.func (da "law" "law" (aX pH) (aT pH) (aF pH) .none Kn Fp Ko Ks AW Kr),MU⟩)
  (RT:dh K AW "law" = true)
  (RU:cw K (.ref JX)=true)
  : ∃ fd:dq,(∀ (s:Shared) (v:Value),BindsTo s fd ⟨[v],[]⟩ [("_law_script",v)])/\∀ base:Heap,K.In base->base.Ns dv mg->aU l.prog w K mg base CX0 7 fa fd ["_law_script"] (spL K):=by
 have e:=hfa.symm.trans (PySem.W.mg_of X G RR);cases e
 have CL_Signs:(fun z=>if z=("Signs" : Str) then some A_Signs else none) "Signs" = some A_Signs:=(if_pos rfl);have HC_Signs:Cls K A_Signs:=⟨pg_Signs,hd_Signs,po_Signs,sa_Signs⟩;have MG_Signs:mg "Signs" = some (.ref A_Signs):=PySem.W.mg_of X G n_Signs;have FF_kept:BM (cC w K (fun z=>if z=("Signs" : Str) then some A_Signs else none)) "kept" := fun c a hc=>by
  have hc':(fun z=>if z=("Signs" : Str) then some A_Signs else none) c=some a:=hc;dsimp only at hc'
  by_cases e_Signs:c="Signs"
  ·rw [if_pos e_Signs] at hc';cases hc'
   exact ⟨HC_Signs,nf_Signs_kept⟩
  rw [if_neg e_Signs] at hc';cases hc'
 have gY:nR K A_Signs "__init__" bH:=⟨iM,iN,iO⟩;have iP:=mW (st:=bS) rJ rK iO;have fG:=iP.binds (ps:=["self"]) fun _ _ _ _ _ _ us hl=>xI us hl fun _=>rfl;have MK_Signs:Mk K A_Signs bH:=⟨mk_Signs,iM,iN,kc_Signs⟩;have cI:nR K A_Signs "cut" dS:=⟨Cr,Cs,sJ⟩;have sN:=mW (st:=dR) Ct Cu sJ;have cY:=sN.binds (ps:=["self","places"]) fun _ _ _ _ _ _ us hl=>JU us hl fun _ _=>rfl;have dG:nR K A_Signs "rows" dB:=⟨AG,AH,pU⟩;have pY:=mW (st:=dA) AI AJ pU;have eK:=pY.binds (ps:=["self"]) fun _ _ _ _ _ _ us hl=>xI us hl fun _=>rfl;have gL:nR K A_Signs "write" cO:=⟨xS,xT,mQ⟩;have mS:=mW (st:=cN) xU xV mQ;have iB:=mS.binds (ps:=["self","deed"]) fun _ _ _ _ _ _ us hl=>JU us hl fun _ _=>rfl;refine ⟨da "law" "law" (aX pH) (aT pH) (aF pH) .none Kn Fp Ko Ks AW Kr,fun s v=>.of_eq rfl,fun base _ _=>?_⟩;have Sq:JM l.prog w K mg base (fun z=>if z=("Signs" : Str) then some A_Signs else none):=rD (Def.mk' X G Mm Mn Mp Mq (fun _ _ _ _ _ _ us hl=>xI us hl fun _=>rfl)) fun F=>JP (cl:=fun z=>if z=("Signs" : Str) then some A_Signs else none) hbn F;have rE:wF l.prog w K mg base (fun z=>if z=("Signs" : Str) then some A_Signs else none):=rD (Def.mk' X G GG GH GI GJ (fun _ _ _ _ _ _ us hl=>xI us hl fun _=>rfl)) fun F=>E1 (cl:=fun z=>if z=("Signs" : Str) then some A_Signs else none) hbn F;have fD:kW l.prog w K mg base (fun z=>if z=("Signs" : Str) then some A_Signs else none):=rD (Def.mk' X G Ef Eg Eh Ei (fun _ _ _ _ _ _ us hl=>xI us hl fun _=>rfl)) fun F=>Cn (cl:=fun z=>if z=("Signs" : Str) then some A_Signs else none) hbn F rE;have nJ:sI l.prog w K mg base (fun z=>if z=("Signs" : Str) then some A_Signs else none):=rD (Def.mk' X G Ej Ek El Em (fun _ _ _ _ _ _ us hl=>JU us hl fun _ _=>rfl)) fun F=>Co (cl:=fun z=>if z=("Signs" : Str) then some A_Signs else none) hbn F;have kX:pJ l.prog w K mg base (fun z=>if z=("Signs" : Str) then some A_Signs else none):=rD (Def.mk' X G CL CM CN CO (fun _ _ _ _ _ _ us hl=>xI us hl fun _=>rfl)) fun F=>Au (cl:=fun z=>if z=("Signs" : Str) then some A_Signs else none) hbn F nJ;have fF:aU l.prog w K mg base CX0 1 bH _ ["self"] (spM (cC w K (fun z=>if z=("Signs" : Str) then some A_Signs else none)) 1 bR):=pK (cl:=fun z=>if z=("Signs" : Str) then some A_Signs else none) hbn iP FF_kept;have iA:aU l.prog w K mg base CX0 3 cO _ ["self","deed"] (spM (cC w K (fun z=>if z=("Signs" : Str) then some A_Signs else none)) 2 cM):=wI (cl:=fun z=>if z=("Signs" : Str) then some A_Signs else none) hbn mS kX FF_kept;have cX:aU l.prog w K mg base CX0 5 dS _ ["self","places"] (spM (cC w K (fun z=>if z=("Signs" : Str) then some A_Signs else none)) 2 bK):=Av (cl:=fun z=>if z=("Signs" : Str) then some A_Signs else none) hbn sN fD FF_kept;have eJ:aU l.prog w K mg base CX0 5 dB _ ["self"] (spM (cC w K (fun z=>if z=("Signs" : Str) then some A_Signs else none)) 1 bJ):=xH (cl:=fun z=>if z=("Signs" : Str) then some A_Signs else none) hbn pY fD FF_kept;have lS:wG l.prog w K mg base (fun z=>if z=("Signs" : Str) then some A_Signs else none):=rD (Def.mk' X G Mr Mt Mu Mv (fun _ _ _ _ _ _ us hl=>JU us hl fun _ _=>rfl)) fun F=>JQ (cl:=fun z=>if z=("Signs" : Str) then some A_Signs else none) hbn F;have E4:Fj l.prog w K mg base (fun z=>if z=("Signs" : Str) then some A_Signs else none):=rD (Def.mk' X G Pa Pb Pc Pd (fun _ _ _ _ _ _ us hl=>xI us hl fun _=>rfl)) fun F=>Mf (cl:=fun z=>if z=("Signs" : Str) then some A_Signs else none) hbn F;have Aw:Cm l.prog w K mg base (fun z=>if z=("Signs" : Str) then some A_Signs else none):=rD (Def.mk' X G MD ME MF MG (fun _ _ _ _ _ _ us hl=>JU us hl fun _ _=>rfl)) fun F=>JR (cl:=fun z=>if z=("Signs" : Str) then some A_Signs else none) hbn F;have JS:JN l.prog w K mg base (fun z=>if z=("Signs" : Str) then some A_Signs else none):=rD (Def.mk' X G RI RJ RK RL (fun _ _ _ _ _ _ us hl=>xI us hl fun _=>rfl)) fun F=>P4 (cl:=fun z=>if z=("Signs" : Str) then some A_Signs else none) hbn F;have iL:rC l.prog w K mg base (fun z=>if z=("Signs" : Str) then some A_Signs else none):=rD (Def.mk' X G Kh Ki Kj Kk (fun _ _ _ _ _ _ us hl=>xI us hl fun _=>rfl)) fun F=>GB (cl:=fun z=>if z=("Signs" : Str) then some A_Signs else none) hbn F JS;have E6:Fk l.prog w K mg base (fun z=>if z=("Signs" : Str) then some A_Signs else none):=rD (Def.mk' X G Pk Pl Pm Pn (fun _ _ _ _ _ _ us hl=>Tz us hl fun _ _ _=>rfl)) fun F=>Mh (cl:=fun z=>if z=("Signs" : Str) then some A_Signs else none) hbn F lS E4 Aw;have rF:wH l.prog w K mg base (fun z=>if z=("Signs" : Str) then some A_Signs else none):=rD (Def.mk' X G GU GV GW GX (fun _ _ _ _ _ _ us hl=>xI us hl fun _=>rfl)) fun F=>E5 (cl:=fun z=>if z=("Signs" : Str) then some A_Signs else none) hbn F;have JT:JO l.prog w K mg base (fun z=>if z=("Signs" : Str) then some A_Signs else none):=rD (Def.mk' X G RM RN RP RQ (fun _ _ _ _ _ _ us hl=>TB us hl fun _ _ _ _=>rfl)) fun F=>P7 (cl:=fun z=>if z=("Signs" : Str) then some A_Signs else none) hbn F lS iL CL_Signs HC_Signs cI cX cY;refine (P8 (cl:=fun z=>if z=("Signs" : Str) then some A_Signs else none) hbn (mW (st:=pH) RS RT RU) iL E6 rF JT CL_Signs HC_Signs gY fF fG cI cX cY dG eJ eK gL iA iB MK_Signs MG_Signs).imp fun vs H Q E hh=>?_;obtain ⟨a,ns,rfl,hO,hS,hl,hq⟩:=hh;exact Oo (C:=cC w K (fun z=>if z=("Signs" : Str) then some A_Signs else none)) hO hS (main ns hl) hq
theorem walk {l:PySem.W.OpenLaw} {q:Program} {loose:List Str} {XP:(Str->Option Value)->Heap->Prop} {YP:World->Heap->Prop} {d:DefRec} {K:Params->ag} (hn:l.most=some 63) (hdf:d.params.defaults=[])
  (hY:∀ (w:World) (h:Heap),YP w h->(K w.params).In h)
  (F:∀ (w:World) (mg:Str->Option Value) (fa:Addr) (h:Heap),(K w.params).In h->h.Ns dv mg->mg d.name=some (.ref fa)->
   ∃ fd:dq,(∀ (s:Shared) (u:Value),BindsTo s fd ⟨[u],[]⟩ [("_law_script",u)])/\∀ base:Heap,(K w.params).In base->base.Ns dv mg->aU l.prog w (K w.params) mg base CX0 7 fa fd ["_law_script"] (spL (K w.params))):
  PySem.W.WalkO q loose XP YP l.row.toRowW d [] (fun f vs=>PySem.call f vs):=
 L2.walk_of (n:=63) (k:=7) (x:="_law_script") (CX:=fun _=>CX0) (sp:=fun w=>spL (K w.params)) hn (by decide) hdf ⟨rfl,by decide,by decide⟩ hY F (fun w H a ns hl hO hS=>⟨a,ns,rfl,hO,hS,hl,fun _=>rfl⟩) fun _ _ _ _ _ z=>z
end K36
open PySem PySem.W PyProof.Rows
set_option maxRecDepth 100000 in
set_option maxHeartbeats 0 in
inductive PySem.W.Fast|tw3399887430158908969|tw15000484947439541001|tw17118211515457058831|tw13634010142738612612|tw2418803828104706220|tw16079839256850665187|tw14345433723604622083|tw13981175465260862566|tw4020401939679775776|tw12857449810639780869|tw12570342161488923041|tw10030313702339256625|tw9860453308664016192|tw16486295938783479184|tw5191096946686690816|tw111642680910676271|tw148271315108323949|tw8300222889050684694|tw16656209764025467392|tw16132238393172946377|tw10828505377361501759|tw405516367836698873|tw17897799365826797721|tw3022894706964485589|tw6595239602091573612|tw2994806711697138341|tw2650963081778101013
theorem PySem.Challenge.cw_copymeet_k36_signs_kept_holds : PySem.Challenge.rw_copymeet_k36_signs_kept.Holds := by
 w_on; o_law; k_head; (case hw=>w_witness2)
 k_fill
 refine K36.walk (l:=PySem.Challenge.rw_copymeet_k36_signs_kept) rfl rfl (fun w h Y=>PySem.W.kIn_of Y) ?F
 case F=>
  intro w mg fa h KX G hmg
  have hbn:∀ x∈K36.bsL,mg x=none:=fun x hx=>by
   rcases List.mem_cons.mp hx with rfl | hx
   ·exact PySem.W.mg_none_of KX G (by k_is)
   rcases List.mem_cons.mp hx with rfl | hx
   ·exact PySem.W.mg_none_of KX G (by k_is)
   rcases List.mem_cons.mp hx with rfl | hx
   ·exact PySem.W.mg_none_of KX G (by k_is)
   rcases List.mem_cons.mp hx with rfl | hx
   ·exact PySem.W.mg_none_of KX G (by k_is)
   rcases List.mem_cons.mp hx with rfl | hx
   ·exact PySem.W.mg_none_of KX G (by k_is)
   rcases List.mem_cons.mp hx with rfl | hx
   ·exact PySem.W.mg_none_of KX G (by k_is)
   rcases List.mem_cons.mp hx with rfl | hx
   ·exact PySem.W.mg_none_of KX G (by k_is)
   rcases List.mem_cons.mp hx with rfl | hx
   ·exact PySem.W.mg_none_of KX G (by k_is)
   cases hx
  refine' K36.all_mk KX G hmg hbn ?h0 ?h1 ?h2 ?h3 ?h4 ?h5 ?h6 ?h7 ?h8 ?h9 ?h10 ?h11 ?h12 ?h13 ?h14 ?h15 ?h16 ?h17 ?h18 ?h19 ?h20 ?h21 ?h22 ?h23 ?h24 ?h25 ?h26 ?h27 ?h28 ?h29 ?h30 ?h31 ?h32 ?h33 ?h34 ?h35 ?h36 ?h37 ?h38 ?h39 ?h40 ?h41 ?h42 ?h43 ?h44 ?h45 ?h46 ?h47 ?h48 ?h49 ?h50 ?h51 ?h52 ?h53 ?h54 ?h55 ?h56 ?h57 ?h58 ?h59 ?h60 ?h61 ?h62 ?h63 ?h64 ?h65 ?h66 ?h67 ?h68 ?h69 ?h70 ?h71 ?h72 ?h73 ?h74 ?h75 ?h76 ?h77 ?h78 ?h79 ?h80 ?h81 ?h82 ?h83
  (case h0=>k_is)
  (case h1=>k_is)
  (case h2=>k_is)
  (case h3=>k_is)
  (case h4=>k_is)
  (case h5=>k_is)
  (case h6=>k_is)
  (case h7=>k_is)
  (case h8=>k_is)
  (case h9=>k_is)
  (case h10=>k_is)
  (case h11=>k_is)
  (case h12=>k_is)
  (case h13=>k_is)
  (case h14=>k_is)
  (case h15=>k_is)
  (case h16=>k_is)
  (case h17=>k_is)
  (case h18=>k_is)
  (case h19=>k_is)
  (case h20=>k_is)
  (case h21=>k_is)
  (case h22=>k_is)
  (case h23=>k_is)
  (case h24=>k_is)
  (case h25=>k_is)
  (case h26=>k_is)
  (case h27=>k_is)
  (case h28=>k_is)
  (case h29=>k_is)
  (case h30=>k_is)
  (case h31=>k_is)
  (case h32=>k_is)
  (case h33=>k_is)
  (case h34=>k_is)
  (case h35=>k_is)
  (case h36=>k_is)
  (case h37=>k_is)
  (case h38=>k_is)
  (case h39=>k_is)
  (case h40=>k_is)
  (case h41=>k_is)
  (case h42=>k_is)
  (case h43=>k_is)
  (case h44=>k_is)
  (case h45=>k_is)
  (case h46=>k_is)
  (case h47=>k_is)
  (case h48=>k_is)
  (case h49=>k_is)
  (case h50=>k_is)
  (case h51=>k_is)
  (case h52=>k_is)
  (case h53=>k_is)
  (case h54=>k_is)
  (case h55=>k_is)
  (case h56=>k_is)
  (case h57=>k_is)
  (case h58=>k_is)
  (case h59=>k_is)
  (case h60=>k_is)
  (case h61=>k_is)
  (case h62=>k_is)
  (case h63=>k_is)
  (case h64=>k_is)
  (case h65=>k_is)
  (case h66=>k_is)
  (case h67=>k_is)
  (case h68=>k_is)
  (case h69=>k_is)
  (case h70=>k_is)
  (case h71=>k_is)
  (case h72=>k_is)
  (case h73=>k_is)
  (case h74=>k_is)
  (case h75=>k_is)
  (case h76=>k_is)
  (case h77=>k_is)
  (case h78=>k_is)
  (case h79=>k_is)
  (case h80=>k_is)
  (case h81=>k_is)
  (case h82=>k_is)
  (case h83=>k_is)
